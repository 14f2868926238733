import Derived.Test.YtgcnjpiiofjljaaGreatDoorSTab
import Derived.Deep.RegionHeld3
import Derived.Test.YtgcnjpiiofjljaaGreatDoorKRExact
/- What together of package canon makes of two lists. -/
namespace Go.Proofs.YtgcnjpiiofjljaaGreatDoor
open Go.RowKit Go.Deep

theorem app_loosE {w w' : World} {A B : Bl} {v v' : Value} {ks ms : List Kv} {x : ByteArray × Int} (hx : x.1.size ≤ maxLen) (hks : GL SepE w ks (fun q => A q ∧ some q ≠ v.ownBlock)) (hv : ∀ g, v.ownBlock = some g → A g) (hms : GL SepE w ms B) (hd : ∀ q, A q → ¬ B q)
    (hown : w'.ownsRow 0 27 3 v' (ks ++ ms).length (kvCells (ks ++ ms))) (hg : w.grownBy w' v.ownBlock) (hat : v'.ownBlock = v.ownBlock ∨ v'.ownBlock = some w.heap.size) (hfew : (ks ++ ms).length * 48 ≤ 140737488351232) :
    ∃ a c, v' = .slice a (ks ++ ms).length c ∧ LoosE w' (fun q => A q ∨ B q ∨ w.heap.size ≤ q) ⟨x, mkF ((ks ++ ms).map Kv.tn), a, c⟩ ∧ Turned A w w' := by
  have h1 := (hms.within sepE).append (fun q hq h => hd q hq.1.1 h.1) (hks.within sepE)
  have h1' : GL SepE w (ks ++ ms) (fun q => (A q ∨ B q) ∧ some q ≠ v.ownBlock ∧ q < w.heap.size) := (GL.append (hms.within sepE) (fun q hq h => hd q hq.1.1 h.1) (hks.within sepE)).mono (fun q hq => by
    rcases hq with hq | hq
    · exact ⟨.inl hq.1.1, hq.1.2, hq.2⟩
    · exact ⟨.inr hq.1, fun e => hd q (hv q e.symm) hq.1, hq.2⟩)
  have h2 : GL SepE w' (ks ++ ms) (fun q => (A q ∨ B q) ∧ some q ≠ v.ownBlock ∧ q < w.heap.size) := h1'.keep sepE (fun q hq hlt => hg.block q hlt hq.2.1)
  obtain ⟨a, c, e1, e2⟩ := loosE_of (A := fun q => A q ∨ B q ∨ w.heap.size ≤ q) hx hown (fun g e => by
    rcases hat with h | h
    · exact .inl (hv g (by rw [← h, e]))
    · rw [h] at e; cases e; exact .inr (.inr (Nat.le_refl _))) (h2.mono (fun q hq => ⟨by rcases hq.1 with h | h; exact .inl h; exact .inr (.inl h), by
      rcases hat with h | h
      · rw [h]; exact hq.2.1
      · rw [h]; intro e; cases e; exact absurd hq.2.2 (Nat.lt_irrefl _)⟩)) hfew
  exact ⟨a, c, e1, e2, hg.os, hg.tape, hg.output, hg.size, fun q hq hn => hg.block q hq (fun e => hn (hv q e.symm))⟩

set_option maxRecDepth 100000 in
set_option maxHeartbeats 1000000 in
theorem together_any (ka kb : Kv) (A B : Bl) (w : World) (hA : LoosE w A ka) (hB : LoosE w B kb) (hna : noName ka.x.1 = true) (hnb : noName kb.x.1 = true) (hd : ∀ q, A q → ¬ B q) (hsm : lenF ka.l + lenF kb.l ≤ 4194304) :
    Calls Tryz.prog 118 #[.slice ka.a (lenF ka.l) ka.c, .slice kb.a (lenF kb.l) kb.c] w fun e w' => ∃ F a c, e = .returned (.slice a (lenF F) c) ∧ List.Perm (kidsL F) (kidsL ka.l ++ kidsL kb.l) ∧ LoosE w' (fun q => (A q ∨ B q) ∨ w.heap.size ≤ q) ⟨ka.x, F, a, c⟩ ∧ Turned (fun q => A q ∨ B q) w w' := by
  obtain ⟨ks, k1, k2, k3, k4⟩ := hA.row hna
  obtain ⟨ms, m1, m2, m3, m4⟩ := hB.row hnb
  obtain ⟨xa, la, aa, ca⟩ := ka
  obtain ⟨xb, lb, ab, cb⟩ := kb
  dsimp only at *
  have hkl : ks.length = lenF la := by have := congrArg List.length k1; rwa [List.length_map, kids_len] at this
  have hml : ms.length = lenF lb := by have := congrArg List.length m1; rwa [List.length_map, kids_len] at this
  have hxs : Hid (xa.1.size ≤ maxLen) := hA.1.sizes.name
  have hca := hA.1.sizes.cap
  have hcb := hB.1.sizes.cap
  have hla := hA.1.sizes.len
  have hlb := hB.1.sizes.len
  have ra := k2 0 (fun q _ => Nat.zero_le q)
  have rb := m2 0 (fun q _ => Nat.zero_le q)
  obtain ⟨a1, c1, e1, _, _, ra2, ra3, _⟩ := row_of_owns ra
  cases e1
  obtain ⟨b1, d1, e2, _, _, rb2, rb3, _⟩ := row_of_owns rb
  cases e2
  have HRA : Hid (w.ownsRow 0 27 3 (.slice aa (lenF la) ca) ks.length (kvCells ks)) := by show World.ownsRow _ _ _ _ _ _ _; rw [hkl]; exact ra
  have HRB : Hid (w.ownsRow 0 27 3 (.slice ab (lenF lb) cb) ms.length (kvCells ms)) := by show World.ownsRow _ _ _ _ _ _ _; rw [hml]; exact rb
  have HRA2 : Hid (RowAt w aa (lenF la) ks) := ra2
  have HRB2 : Hid (RowAt w ab (lenF lb) ms) := rb2
  have HA3 : Hid (aa = none → ca = 0) := fun e => (ra3 e).2
  have HB3 : Hid (ab = none → cb = 0) := fun e => (rb3 e).2
  have HK1 : Hid (ks.map Kv.tn = kidsL la) := k1
  have HM1 : Hid (ms.map Kv.tn = kidsL lb) := m1
  have HK3 : Hid (GL SepE w ks (fun q => A q ∧ some q ≠ (Value.slice aa (lenF la) ca).ownBlock)) := k3
  have HM3 : Hid (GL SepE w ms (fun q => B q ∧ some q ≠ (Value.slice ab (lenF lb) cb).ownBlock)) := m3
  have HK4 : Hid (∀ g, (Value.slice aa (lenF la) ca).ownBlock = some g → A g) := k4
  have HM4 : Hid (∀ g, (Value.slice ab (lenF lb) cb).ownBlock = some g → B g) := m4
  have HKL : Hid (ks.length = lenF la) := hkl
  have HML : Hid (ms.length = lenF lb) := hml
  clear hA hB k1 k2 k3 k4 m1 m2 m3 m4 ra rb ra2 ra3 rb2 rb3 hkl hml
  by_cases hlt : lenF la < lenF lb
  · go_enter Tryz.func118, Tryz.ntmps118
    go_wp2_with (at_builtin; refine wpList_append_all rfl _ _ rfl 0 (.slice ab (lenF lb) cb) ms rfl HRB.out aa (lenF la) ca ks rfl HRA2.out HA3.out (by have := HML.out; omega) (Nat.zero_le _) ?_; intro v' w' hown hgrow hat; obtain ⟨a', c', e', hL, hT⟩ := app_loosE (x := xa) hxs.out HM3.out HM4.out (HK3.out.mono (fun q hq => hq.1)) (fun q hq h => hd q h hq) hown hgrow hat (by rw [List.length_append, HML.out, HKL.out]; omega); clear hown hgrow hat)
    go_ret
    refine ⟨mkF ((ms ++ ks).map Kv.tn), a', c', by rw [len_mk, List.length_map, List.length_append]; rfl, ?_, loosE.mono (fun q hq => ?_) hL, hT.mono (fun q _ hq => .inr hq)⟩
    · rw [kids_mk, List.map_append, HM1.out, HK1.out]
      exact List.perm_append_comm
    · rcases hq with h | h | h
      · exact .inl (.inr h)
      · exact .inl (.inl h)
      · exact .inr h
  · go_enter Tryz.func118, Tryz.ntmps118
    go_wp2_with (at_builtin; refine wpList_append_all rfl _ _ rfl 0 (.slice aa (lenF la) ca) ks rfl HRA.out ab (lenF lb) cb ms rfl HRB2.out HB3.out (by have := HKL.out; omega) (Nat.zero_le _) ?_; intro v' w' hown hgrow hat; obtain ⟨a', c', e', hL, hT⟩ := app_loosE (x := xa) hxs.out HK3.out HK4.out (HM3.out.mono (fun q hq => hq.1)) (fun q hq h => hd q hq h) hown hgrow hat (by rw [List.length_append, HML.out, HKL.out]; omega); clear hown hgrow hat)
    go_ret
    refine ⟨mkF ((ks ++ ms).map Kv.tn), a', c', by rw [len_mk, List.length_map, List.length_append]; rfl, ?_, loosE.mono (fun q hq => ?_) hL, hT.mono (fun q _ hq => .inl hq)⟩
    · rw [kids_mk, List.map_append, HM1.out, HK1.out]
    · rcases hq with h | h | h
      · exact .inl (.inl h)
      · exact .inl (.inr h)
      · exact .inr h
end Go.Proofs.YtgcnjpiiofjljaaGreatDoor
/- What flatten of package canon makes of loose forms. -/
namespace Go.Proofs.YtgcnjpiiofjljaaGreatDoor
open Go.RowKit Go.Deep

/-- A signature that stays as long as the blocks below B do. -/
def SigLow (B : Nat) (w : World) (S : Option Addr) (n : Nat) (l : List Sym) : Prop := ∀ W, Below B w W → SigAt W S n l
theorem SigLow.of {w : World} {S : Option Addr} {n : Nat} {l : List Sym} (h : SigAt w S n l) : SigLow w.heap.size w S n l := fun _ hW => h.below hW
theorem SigLow.at_ {B : Nat} {w : World} {S : Option Addr} {n : Nat} {l : List Sym} (h : SigLow B w S n l) : SigAt w S n l := h w (Below.refl _ _)
theorem SigLow.below {B : Nat} {w w' : World} {S : Option Addr} {n : Nat} {l : List Sym} (h : SigLow B w S n l) (hb : Below B w w') : SigLow B w' S n l := fun W hW => h W (hb.trans hW)
/-- A row of terms that stays as long as none but the blocks of A turn. -/
def RowFix (A : Bl) (w : World) (a : Option Addr) (ks : List Kv) : Prop := ∀ W, Turned A w W → RowAt W a ks.length ks

theorem Turned.then {A X : Bl} {a b c : World} (h : Turned A a b) (k : Turned X b c) (hX : ∀ q, q < a.heap.size → X q → A q) : Turned A a c :=
  ⟨k.os.trans h.os, k.tape.trans h.tape, k.output.trans h.output, Nat.le_trans h.size k.size, fun q hq hA => (k.block q (Nat.lt_of_lt_of_le hq h.size) (fun hx => hA (hX q hq hx))).trans (h.block q hq hA)⟩
theorem psizes_len : ∀ l : List Tn, l.length ≤ sizes l
  | [] => Nat.le_refl _
  | t :: r => by rw [sizes_cons, List.length_cons]; have := psizes_len r; have : 1 ≤ sizeT t := by unfold sizeT; omega
                 omega
theorem kidsL_len (F : Fo) : lenF F ≤ sizes (kidsL F) := by rw [← kids_len]; exact psizes_len _
theorem psizes_take (l : List Tn) (j : Nat) : sizes (l.take j) ≤ sizes l := by
  have := sizes_append (l.take j) (l.drop j)
  rw [List.take_append_drop] at this
  omega
theorem sizes_mem {t : Tn} : ∀ {l : List Tn}, t ∈ l → sizeT t ≤ sizes l
  | x :: r, h => by
    rw [sizes_cons]
    rcases List.mem_cons.1 h with rfl | h
    · omega
    · have := sizes_mem h; omega
/-- The cells of a term of a row. -/
theorem RowAt.cells3 {w : World} {a : Option Addr} {ks : List Kv} (h : RowAt w a ks.length ks) {j : Nat} {k : Kv} (hk : ks[j]? = some k) : ∃ b o, a = some ⟨b, o, none⟩ ∧ w.cell? ⟨b, o + j * 3, none⟩ = some (.string k.x.1) ∧ w.cell? ⟨b, o + j * 3 + 1, none⟩ = some (.int .i64 k.x.2) ∧ w.cell? ⟨b, o + j * 3 + 2, none⟩ = some (.slice k.a (lenF k.l) k.c) := by
  obtain ⟨c0, c1, c2⟩ := kv_cells hk
  obtain ⟨b, o, e, h0⟩ := h.cells _ _ c0
  obtain ⟨b1, o1, e1, h1⟩ := h.cells _ _ c1
  obtain ⟨b2, o2, e2, h2⟩ := h.cells _ _ c2
  rw [e] at e1 e2
  cases e1
  cases e2
  exact ⟨b, o, e, h0, by rw [Nat.add_assoc]; exact h1, by rw [Nat.add_assoc]; exact h2⟩
theorem drop_cons {α : Type} {l : List α} {j : Nat} {x : α} (h : l[j]? = some x) : l.drop j = x :: l.drop (j + 1) := by
  obtain ⟨hj, rfl⟩ := List.getElem?_eq_some_iff.1 h
  exact List.drop_eq_getElem_cons hj
theorem take_snoc {α : Type} {l : List α} {j : Nat} {x : α} (h : l[j]? = some x) : l.take (j + 1) = l.take j ++ [x] := by
  rw [List.take_add_one, h]; rfl

/-- Where flatten stands before the term j. -/
structure FlatSt (S : Sg) (f : Int) (A : Bl) (w : World) (hv : Array Value) (ks : List Kv) (j : Nat) (kall : Kv) (W : World) : Prop where
  head : kall.x = (noB, f)
  gl : GL LoosE W (kall :: ks.drop j) (fun q => (A q ∧ q < w.heap.size) ∨ w.heap.size + 2 ≤ q)
  turned : Turned A w W
  fbox : Box W w.heap.size 90 hv
  rbox : XBox W (w.heap.size + 1) (⟨#[]⟩, 0) (.slice none 0 0)
  flat : FlatR S f ((ks.take j).map Kv.tn) (kidsL kall.l)
theorem FlatSt.size {S : Sg} {f : Int} {A : Bl} {w W : World} {hv : Array Value} {ks : List Kv} {j : Nat} {kall : Kv} (h : FlatSt S f A w hv ks j kall W) (hs : sizes (ks.map Kv.tn) ≤ 1048576) : lenF kall.l ≤ 1048576 := by
  have h1 := kidsL_len kall.l
  have h2 := flat_sizes h.flat
  have h3 := psizes_take (ks.map Kv.tn) j
  rw [← List.map_take] at h3
  omega
/-- A step: the list all and the term k have made another list. -/
theorem FlatSt.step {S : Sg} {f : Int} {A : Bl} {w W W2 W3 : World} {hv : Array Value} {ks : List Kv} {j : Nat} {kall k k' : Kv} {A1 A2 R2 : Bl} (h : FlatSt S f A w hv ks j kall W) (hk : ks[j]? = some k)
    (a1 : ∀ q, A1 q → ((A q ∧ q < w.heap.size) ∨ w.heap.size + 2 ≤ q) ∧ q < W.heap.size) (a2 : ∀ q, A2 q → ((A q ∧ q < w.heap.size) ∨ w.heap.size + 2 ≤ q) ∧ q < W.heap.size) (r2 : ∀ q, R2 q → (((A q ∧ q < w.heap.size) ∨ w.heap.size + 2 ≤ q) ∧ q < W.heap.size) ∧ ¬ A1 q ∧ ¬ A2 q)
    (hr : GL LoosE W (ks.drop (j + 1)) R2) (hb : Below W.heap.size W W2) (ht : Turned (fun q => A1 q ∨ A2 q) W2 W3) (hx : k'.x = (noB, f)) (hE : LoosE W3 (fun q => (A1 q ∨ A2 q) ∨ W2.heap.size ≤ q) k') {p : List Tn} (hp : PartR S f k.tn p) (hperm : List.Perm (kidsL k'.l) (kidsL kall.l ++ p)) : FlatSt S f A w hv ks (j + 1) k' W3 := by
  have hbs := hb.size
  have hfl := h.fbox.lt
  have hrl := h.rbox.lt
  have key : ∀ q, q < W.heap.size → ¬ A1 q → ¬ A2 q → W3.heap[q]? = W.heap[q]? := fun q hq n1 n2 => (ht.block q (by omega) (fun e => e.elim n1 n2)).trans (hb.block q hq)
  have nf : ∀ q, (q = w.heap.size ∨ q = w.heap.size + 1) → ¬ A1 q ∧ ¬ A2 q := fun q hq => ⟨fun h' => by rcases (a1 q h').1 with h | h <;> omega, fun h' => by rcases (a2 q h').1 with h | h <;> omega⟩
  refine ⟨hx, ?_, ?_, ?_, ?_, ?_⟩
  · have h3 : GL LoosE W3 (ks.drop (j + 1)) R2 := hr.keep loosE (fun q hq hlt => key q hlt (r2 q hq).2.1 (r2 q hq).2.2)
    refine (GL.cons hE h3 (fun q hq hR => ?_)).mono (fun q hq => ?_)
    · rcases hq with (hq | hq) | hq
      · exact (r2 q hR).2.1 hq
      · exact (r2 q hR).2.2 hq
      · have := (r2 q hR).1.2; omega
    · rcases hq with ((hq | hq) | hq) | hq
      · exact (a1 q hq).1
      · exact (a2 q hq).1
      · exact .inr (by omega)
      · exact (r2 q hq).1.1
  · refine (h.turned.then (Turned.of_below hb A) (fun q _ hq => hq)).then ht (fun q hq hx => ?_)
    rcases hx with hx | hx
    · rcases (a1 q hx).1 with h | h
      · exact h.1
      · omega
    · rcases (a2 q hx).1 with h | h
      · exact h.1
      · omega
  · exact (key _ hfl (nf _ (.inl rfl)).1 (nf _ (.inl rfl)).2).trans h.fbox
  · exact (key _ hrl (nf _ (.inr rfl)).1 (nf _ (.inr rfl)).2).trans h.rbox
  · rw [take_snoc hk, List.map_append]
    exact FlatR.snoc hp h.flat hperm
/-- The list all and the next term, apart. -/
theorem FlatSt.apart {S : Sg} {f : Int} {A : Bl} {w W : World} {hv : Array Value} {ks : List Kv} {j : Nat} {kall k : Kv} (h : FlatSt S f A w hv ks j kall W) (hk : ks[j]? = some k) : ∃ A1 A2 R2 : Bl, LoosE W A1 kall ∧ LoosE W A2 k ∧ GL LoosE W (ks.drop (j + 1)) R2 ∧ (∀ q, A1 q → ¬ A2 q) ∧
    (∀ q, A1 q → ((A q ∧ q < w.heap.size) ∨ w.heap.size + 2 ≤ q) ∧ q < W.heap.size) ∧ (∀ q, A2 q → ((A q ∧ q < w.heap.size) ∨ w.heap.size + 2 ≤ q) ∧ q < W.heap.size) ∧ (∀ q, R2 q → (((A q ∧ q < w.heap.size) ∨ w.heap.size + 2 ≤ q) ∧ q < W.heap.size) ∧ ¬ A1 q ∧ ¬ A2 q) := by
  have hg := h.gl.within loosE
  rw [drop_cons hk] at hg
  obtain ⟨A1, R1, a1, r1, e1, A2, R2, a2, r2, e2, g⟩ := hg
  exact ⟨A1, A2, R2, e1, e2, g, fun q hq h2 => (r1 q (a2 q h2)).2 hq, a1, fun q hq => (r1 q (a2 q hq)).1, fun q hq => ⟨(r1 q (r2 q hq).1).1, (r1 q (r2 q hq).1).2, (r2 q hq).2⟩⟩

theorem sepKids_mk {w : World} : ∀ {F : Fo} {A : Bl} {b o : Nat}, SepKids w F A b o → SepKids w (mkF (kidsL F)) A b o
  | .nil, _, _, _, _ => trivial
  | .node _ _ _ _ _, _, _, _, ⟨A1, A2, h1, h2, h3, h4⟩ => ⟨A1, A2, h1, h2, h3, sepKids_mk h4⟩
theorem len_mk_kids (F : Fo) : lenF (mkF (kidsL F)) = lenF F := by rw [len_mk, kids_len]
theorem LoosE.mk {w : World} {A : Bl} {k : Kv} (h : LoosE w A k) : LoosE w A ⟨k.x, mkF (kidsL k.l), k.a, k.c⟩ := by
  obtain ⟨⟨hs, hl⟩, hr⟩ := h
  refine ⟨⟨by rw [len_mk_kids]; exact hs, ?_⟩, fun hn => ?_⟩
  · rcases hl with e | ⟨g, cur, e1, e2, e3, e4⟩
    · left; show mkF (kidsL k.l) = _; rw [e]; rfl
    · exact .inr ⟨g, cur, e1, e2, e3, sepKids_mk e4⟩
  · rcases hr hn with ⟨h1, h2, h3⟩ | h'
    · exact .inl ⟨h1, h2, by show lenF (mkF (kidsL k.l)) = 0; rw [len_mk_kids]; exact h3⟩
    · exact .inr h'

set_option maxRecDepth 100000 in
set_option maxHeartbeats 2000000 in
theorem flatten_any (S : Option Addr) (n cap : Nat) (l : List Sym) (f : Int) (ks : List Kv) (a : Option Addr) (c B : Nat) (A : Bl) (w : World) (hS : SigLow B w S n l) (hB : B ≤ w.heap.size) (hA : ∀ q, A q → B ≤ q) (hrow : RowFix A w a ks) (hks : GL LoosE w ks A) (hk : kindK l f ≠ 1) (hsz : sizes (ks.map Kv.tn) ≤ 1048576) :
    Calls Tryz.prog 105 #[.agg (headV S n cap l f), .slice a ks.length c] w fun e w' => ∃ k : Kv, e = .returned (.agg #[.string k.x.1, .int .i64 k.x.2, .slice k.a (lenF k.l) k.c]) ∧ FlatOut (sgOf l) f (ks.map Kv.tn) k.tn ∧ LoosE w' (fun q => A q ∨ w.heap.size ≤ q) k ∧ Turned A w w' := by
  have HS : Hid (SigLow B w S n l) := hS
  have HA : Hid (∀ q, A q → B ≤ q) := hA
  have HR : Hid (RowFix A w a ks) := hrow
  have HKS : Hid (GL LoosE w ks A) := hks
  have HSZ : Hid (sizes (ks.map Kv.tn) ≤ 1048576) := hsz
  have hlen : ks.length ≤ 1048576 := by have := psizes_len (ks.map Kv.tn); rw [List.length_map] at this; omega
  obtain ⟨i0, hi, hz0, hz1, hz2⟩ := info_parts Tryz.info27
  have hmax : maxLen = 9223372036854775807 := rfl
  have HKD : Hid ((!decide (kindK l f = 1)) = true) := by show _ = _; simp [hk]
  clear hS hA hrow hks hsz hk
  unfold headV
  by_cases h1 : ks.length = 1
  · obtain ⟨k0, rfl⟩ := List.length_eq_one_iff.1 h1
    have hbb : ∀ o1 o2, Below w.heap.size w ((w.alloc o1).alloc o2) := fun o1 o2 => ((Below.refl _ w).alloc (Nat.le_refl _) o1).alloc (by simp) o2
    obtain ⟨bb, oo, rfl, p0, p1, p2⟩ := (HR.out _ (Turned.of_below (hbb (.cells #[.slice S n cap, .int .i64 f, .int .i64 (kindK l f), .int .i64 (unitI l f), .bool (unitOk l f)] 90) (.cells #[.string ⟨#[]⟩, .int .i64 0, .slice none 0 0] 27)) A)).cells3 (j := 0) (k := k0) rfl
    rw [Nat.zero_mul, Nat.add_zero] at p0 p1 p2
    have HBB : Hid (∀ o1 o2, Below w.heap.size w ((w.alloc o1).alloc o2)) := hbb
    have hX : XBox ((w.alloc (.cells #[.slice S n cap, .int .i64 f, .int .i64 (kindK l f), .int .i64 (unitI l f), .bool (unitOk l f)] 90)).alloc (.cells #[.string k0.x.1, .int .i64 k0.x.2, .slice k0.a (lenF k0.l) k0.c] 27)) (w.heap.size + 1) k0.x (.slice k0.a (lenF k0.l) k0.c) := by
      have := World.alloc_heap_new (w.alloc (.cells #[.slice S n cap, .int .i64 f, .int .i64 (kindK l f), .int .i64 (unitI l f), .bool (unitOk l f)] 90)) (.cells #[.string k0.x.1, .int .i64 k0.x.2, .slice k0.a (lenF k0.l) k0.c] 27)
      rw [World.size_alloc] at this
      exact this
    have HX := hid hX
    clear hbb hX
    go_enter Tryz.func105, Tryz.ntmps105
    go_wp2
    refine bodyPost_ret (results_cell_row rfl _ _ (w.heap.size + 1) 27 #[.string k0.x.1, .int .i64 k0.x.2, .slice k0.a (lenF k0.l) k0.c] (0, 0) _ rfl HX.out Tryz.underlying27 rfl Tryz.size27) rfl ?_
    obtain ⟨A1, h1, h2⟩ := HKS.out.mem (k := k0) (by simp)
    exact ⟨k0, rfl, .inl rfl, loosE.mono (fun q hq => .inl (h1 q hq)) (loosE.keep (fun q _ hq => (HBB.out _ _).block q hq) h2), Turned.of_below (HBB.out _ _) A⟩
  · have hne : ((ks.length : Int) == 1) = false := by simp; omega
    have HH1 : Hid (¬ ks.length = 1) := h1
    clear h1
    obtain ⟨kd, hkd⟩ : ∃ kd, kindK l f = kd := ⟨_, rfl⟩
    obtain ⟨un, hun⟩ : ∃ un, unitI l f = un := ⟨_, rfl⟩
    obtain ⟨uo, huo⟩ : ∃ uo, unitOk l f = uo := ⟨_, rfl⟩
    rw [hkd] at HKD
    rw [hkd, hun, huo]
    clear hkd hun huo
    have HB0 : Hid (Below w.heap.size w ((w.alloc (.cells #[.slice S n cap, .int .i64 f, .int .i64 kd, .int .i64 un, .bool uo] 90)).alloc (.cells #[.string ⟨#[]⟩, .int .i64 0, .slice none 0 0] 27))) := ((Below.refl _ w).alloc (Nat.le_refl _) _).alloc (by simp) _
    have HF0 : Hid (Box ((w.alloc (.cells #[.slice S n cap, .int .i64 f, .int .i64 kd, .int .i64 un, .bool uo] 90)).alloc (.cells #[.string ⟨#[]⟩, .int .i64 0, .slice none 0 0] 27)) w.heap.size 90 #[.slice S n cap, .int .i64 f, .int .i64 kd, .int .i64 un, .bool uo]) := (Box.new w 90 _).below ((Below.refl _ _).alloc (Nat.le_refl _) _)
    have HX0 : Hid (XBox ((w.alloc (.cells #[.slice S n cap, .int .i64 f, .int .i64 kd, .int .i64 un, .bool uo] 90)).alloc (.cells #[.string ⟨#[]⟩, .int .i64 0, .slice none 0 0] 27)) (w.heap.size + 1) (⟨#[]⟩, 0) (.slice none 0 0)) := by
      have := World.alloc_heap_new (w.alloc (.cells #[.slice S n cap, .int .i64 f, .int .i64 kd, .int .i64 un, .bool uo] 90)) (.cells #[.string ⟨#[]⟩, .int .i64 0, .slice none 0 0] 27)
      rw [World.size_alloc] at this
      exact this
    go_enter Tryz.func105, Tryz.ntmps105
    go_wp2_with (at_make; refine wpList_make_own _ rfl _ _ 25 rfl 0 27 i0 (.agg #[.string ⟨#[]⟩, .int .i64 0, .slice none 0 0]) 3 Tryz.underlying25 hi hz0 hz1 .i64 .i64 _ ks.length rfl rfl rfl (by rw [hz2]; omega) (by omega) (Nat.zero_le _) ?_; intro w0 hown0 hgrow0)
    have ST0 : Hid (FlatSt (sgOf l) f A w #[.slice S n cap, .int .i64 f, .int .i64 kd, .int .i64 un, .bool uo] ks 0 ⟨(noB, f), .nil, some ⟨w.heap.size + 1 + 1, 0, none⟩, ks.length⟩ w0) := by
      have hb3 : Below w.heap.size w w0 := HB0.out.grown hgrow0 (by simp; omega) (fun k e => by cases e)
      have hg0 : ∀ q, q < w.heap.size + 2 → w0.heap[q]? = ((w.alloc (.cells #[.slice S n cap, .int .i64 f, .int .i64 kd, .int .i64 un, .bool uo] 90)).alloc (.cells #[.string ⟨#[]⟩, .int .i64 0, .slice none 0 0] 27)).heap[q]? := fun q hq => hgrow0.block q (by simp; omega) (by simp)
      refine ⟨rfl, ?_, Turned.of_below hb3 A, (hg0 _ (by omega)).trans HF0.out, (hg0 _ (by omega)).trans HX0.out, rfl⟩
      have hrest : GL LoosE w0 ks (fun q => A q ∧ q < w.heap.size) := (HKS.out.within loosE).keep loosE (fun q _ hq => hb3.block q hq)
      have hall : LoosE w0 (fun q => q = w.heap.size + 2) ⟨(noB, f), .nil, some ⟨w.heap.size + 1 + 1, 0, none⟩, ks.length⟩ := by
        refine ⟨⟨⟨by show noB.size ≤ maxLen; decide, Nat.zero_le _, by show ks.length ≤ maxLen; omega, by simp [lenF]⟩, .inl rfl⟩, fun _ => ?_⟩
        rcases hown0.2 with ⟨hv, _⟩ | ⟨g', cap', cur, hv, _, hh, _, _, hcs, _⟩
        · cases hv
        · cases hv
          rw [World.size_alloc, World.size_alloc] at hh
          exact .inr ⟨w.heap.size + 1 + 1, cur, rfl, rfl, hh, hcs⟩
      refine (GL.cons hall hrest (fun q hq h => by have := h.2; omega)).mono (fun q hq => ?_)
      rcases hq with h | h
      · exact .inr (by omega)
      · exact .inl h
    clear hown0 hgrow0 HB0 HF0 HX0
    go_loopw [5, 7, 19] (fun ov _ i wr => ∃ (j : Nat) (k : Kv), j ≤ ks.length ∧ ov = .slice k.a (lenF k.l) k.c ∧ i = .int .i64 j ∧ FlatSt (sgOf l) f A w #[.slice S n cap, .int .i64 f, .int .i64 kd, .int .i64 un, .bool uo] ks j k wr) (fun _ _ i _ => ks.length - (intOf i).toNat)
    case atStart => exact ⟨0, _, Nat.zero_le _, rfl, rfl, ST0.out⟩
    case round =>
      obtain ⟨j, k, hj, rfl, rfl, hst⟩ := hrel
      have ST : Hid (FlatSt (sgOf l) f A w #[.slice S n cap, .int .i64 f, .int .i64 kd, .int .i64 un, .bool uo] ks j k wr) := hst
      clear hst
      by_cases hlt : j < ks.length
      · obtain ⟨kj, hkj⟩ : ∃ kj, ks[j]? = some kj := ⟨_, List.getElem?_eq_getElem hlt⟩
        obtain ⟨bb, oo, rfl, p0, p1, p2⟩ := (HR.out wr ST.out.turned).cells3 hkj
        obtain ⟨A1, A2, R2, e1, e2, g, d12, a1, a2, r2⟩ := ST.out.apart hkj
        have HKJ : Hid (ks[j]? = some kj) := hkj
        have HE1 : Hid (LoosE wr A1 k) := e1
        have HE2 : Hid (LoosE wr A2 kj) := e2
        have HGR : Hid (GL LoosE wr (ks.drop (j + 1)) R2) := g
        have HD : Hid (∀ q, A1 q → ¬ A2 q) := d12
        have HA1 : Hid (∀ q, A1 q → ((A q ∧ q < w.heap.size) ∨ w.heap.size + 2 ≤ q) ∧ q < wr.heap.size) := a1
        have HA2 : Hid (∀ q, A2 q → ((A q ∧ q < w.heap.size) ∨ w.heap.size + 2 ≤ q) ∧ q < wr.heap.size) := a2
        have HR2 : Hid (∀ q, R2 q → (((A q ∧ q < w.heap.size) ∨ w.heap.size + 2 ≤ q) ∧ q < wr.heap.size) ∧ ¬ A1 q ∧ ¬ A2 q) := r2
        have hb1 : Below wr.heap.size wr (wr.alloc (.cells #[.string kj.x.1, .int .i64 kj.x.2, .slice kj.a (lenF kj.l) kj.c] 27)) := (Below.refl _ _).alloc (Nat.le_refl _) _
        have HB1 : Hid (Below wr.heap.size wr (wr.alloc (.cells #[.string kj.x.1, .int .i64 kj.x.2, .slice kj.a (lenF kj.l) kj.c] 27))) := hb1
        have hX : XBox (wr.alloc (.cells #[.string kj.x.1, .int .i64 kj.x.2, .slice kj.a (lenF kj.l) kj.c] 27)) wr.heap.size kj.x (.slice kj.a (lenF kj.l) kj.c) := World.alloc_heap_new wr _
        have HX : Hid (XBox (wr.alloc (.cells #[.string kj.x.1, .int .i64 kj.x.2, .slice kj.a (lenF kj.l) kj.c] 27)) wr.heap.size kj.x (.slice kj.a (lenF kj.l) kj.c)) := hX
        have fb := ST.out.fbox.below hb1
        have q0 := fb.c 0; have q1 := fb.c 1; have q2 := fb.c 2; have q3 := fb.c 3; have q4 := fb.c 4
        have hfe : wr.heap.size ≠ w.heap.size := by have := ST.out.fbox.lt; omega
        have hll := ST.out.size HSZ.out
        obtain ⟨gb, hgb⟩ : ∃ gb, (!decide (kd = 1) && headed f kj.tn) = gb := ⟨_, rfl⟩
        have HC : Hid (∀ W, Calls Tryz.prog 117 #[.agg #[.slice S n cap, .int .i64 f, .int .i64 kd, .int .i64 un, .bool uo], .agg #[.string kj.x.1, .int .i64 kj.x.2, .slice kj.a (lenF kj.l) kj.c]] W fun e w' => e = .returned (.bool gb) ∧ Below W.heap.size W w') := fun W => by
          have := gathers_any S n cap f kd un uo kj.tn kj.a kj.c W
          rw [hgb] at this
          exact this
        have HGB : Hid ((!decide (kd = 1) && headed f kj.tn) = gb) := hgb
        clear hgb hkj e1 e2 g d12 a1 a2 r2 hb1 hX fb
        have arm : Hid (∀ w2, Below (wr.alloc (.cells #[.string kj.x.1, .int .i64 kj.x.2, .slice kj.a (lenF kj.l) kj.c] 27)).heap.size (wr.alloc (.cells #[.string kj.x.1, .int .i64 kj.x.2, .slice kj.a (lenF kj.l) kj.c] 27)) w2 → Below wr.heap.size wr w2 ∧ XBox w2 wr.heap.size kj.x (.slice kj.a (lenF kj.l) kj.c) ∧ Box w2 w.heap.size 90 #[.slice S n cap, .int .i64 f, .int .i64 kd, .int .i64 un, .bool uo]) := fun w2 hb2 => ⟨HB1.out.trans (hb2.mono HB1.out.size), HX.out.below hb2, (ST.out.fbox.below HB1.out).below hb2⟩
        cases gb
        · have hnh : headed f kj.tn = false := by have h1 := HKD.out; have h2 := HGB.out; rw [h1] at h2; simpa using h2
          have HNH : Hid (headed f kj.tn = false) := hnh
          have HSE : Hid (∀ w2, Below wr.heap.size wr w2 → Calls Tryz.prog 39 #[.slice S n cap, .agg #[.string kj.x.1, .int .i64 kj.x.2, .slice kj.a (lenF kj.l) kj.c]] w2 fun e w' => ∃ F, e = .returned (.agg #[.string kj.x.1, .int .i64 kj.x.2, .slice kj.a (lenF F) kj.c]) ∧ lenF F = lenF kj.l ∧ SetR (sgOf l) kj.tn (kj.x, F) ∧ LoosE w' A2 ⟨kj.x, F, kj.a, kj.c⟩ ∧ Turned A2 w2 w') := fun w2 hb => settle_any S n cap l kj A2 w2 (HS.out w2 ((ST.out.turned.below HA.out hB).trans (hb.mono (by have := ST.out.turned.size; omega)))) (loosE.keep (fun q _ hq => hb.block q hq) HE2.out)
          have AR : Hid (∀ w2 w3 o, Below wr.heap.size wr w2 → Turned A2 w2 w3 → LoosE (w3.alloc o) A1 k ∧ w2.heap.size ≤ w3.heap.size) := fun w2 w3 o hb ht => ⟨loosE.keep (fun q hq hlt => by
            have h2 := hb.size
            have h3 := ht.size
            exact (Below.heap_alloc _ _ _ (by omega)).trans ((ht.block q (by omega) (HD.out q hq)).trans (hb.block q hlt))) HE1.out, ht.size⟩
          have HNK : Hid (noName k.x.1 = true) := by show _ = _; rw [ST.out.head]; exact noName_noB
          have HXK : Hid (k.x.1.size ≤ maxLen) := HE1.out.1.sizes.name
          clear hnh
          go_wp2_with (first
            | (at_builtin; obtain ⟨la, l1, l2, l3, l4⟩ := (AR.out w2 w3 (.cells #[.string kj.x.1, .int .i64 kj.x.2, .slice kj.a (lenF F) kj.c] 27) HW2.out HT3.out).1.row HNK.out; have hl0 : la.length = lenF k.l := (by have := congrArg List.length l1; rwa [List.length_map, kids_len] at this); refine wpList_append_all rfl _ _ rfl 0 (.slice k.a (lenF k.l) k.c) la rfl (by rw [hl0]; exact l2 0 (fun q _ => Nat.zero_le q)) (some ⟨w3.heap.size, 0, none⟩) 1 1 [⟨kj.x, F, kj.a, kj.c⟩] rfl (RowAt.new w3 ⟨kj.x, F, kj.a, kj.c⟩) (fun e => by cases e) (by omega) (Nat.zero_le _) ?_; intro v' w5 hown hgrow hat; obtain ⟨a', c', e', hL, hT⟩ := app_loosE (x := k.x) (B := A2) HXK.out l3 l4 (GL.one (E := SepE) (sepE.keep (fun q _ hq => Below.heap_alloc _ _ _ hq) HE3.out.1)) HD.out hown hgrow hat (by rw [List.length_append, hl0]; simp; omega); have HL := hid hL; have HT5 := hid hT; have HL1 : Hid (la.map Kv.tn = kidsL k.l) := l1; have HEV : Hid (la.length = lenF k.l) := hl0; clear hown hgrow hat l1 l2 l3 l4 hL hT hl0; subst e')
            | (go_at_call 39; refine (HSE.out _ HW2.out).mono ?_; rintro e w3 ⟨F, rfl, hF, hset, hE3, ht3⟩; have HF3 : Hid (lenF F = lenF kj.l) := hF; have HST : Hid (SetR (sgOf l) kj.tn (kj.x, F)) := hset; have HE3 : Hid (LoosE w3 A2 ⟨kj.x, F, kj.a, kj.c⟩) := hE3; have HT3 : Hid (Turned A2 w2 w3) := ht3; clear hF hset hE3 ht3)
            | (go_at_call 117; refine (HC.out _).mono ?_; rintro e w2 ⟨rfl, hb2⟩; have ha := arm.out w2 hb2; have HW2 : Hid (Below wr.heap.size wr w2) := ha.1; have x0 := ha.2.1.c0; have x1 := ha.2.1.c1; have x2 := ha.2.1.c2; have y0 := ha.2.2.c 0; clear ha hb2 q0 q1 q2 q3 q4)
            | fail)
          go_roundw
          case rel =>
            have hm : kidsL (mkF ((la ++ [(⟨kj.x, F, kj.a, kj.c⟩ : Kv)]).map Kv.tn)) = kidsL k.l ++ [(kj.x, F)] := by rw [kids_mk, List.map_append, HL1.out]; rfl
            have hal := (Below.refl w3.heap.size w3).alloc (Nat.le_refl _) (.cells #[.string kj.x.1, .int .i64 kj.x.2, .slice kj.a (lenF F) kj.c] 27)
            have ht : Turned (fun q => A1 q ∨ A2 q) w2 w5 := ((HT3.out.mono (fun q _ hq => .inr hq)).trans (Turned.of_below hal _)).trans (HT5.out.mono (fun q _ hq => .inl hq))
            refine ⟨j + 1, ⟨k.x, mkF ((la ++ [(⟨kj.x, F, kj.a, kj.c⟩ : Kv)]).map Kv.tn), a', c'⟩, by omega, by simp [len_mk], by go_num, ST.out.step HKJ.out HA1.out HA2.out HR2.out HGR.out HW2.out ht ST.out.head (loosE.mono (fun q hq => ?_) HL.out) (p := [(kj.x, F)]) (by unfold PartR; rw [HNH.out]; exact ⟨_, HST.out, rfl⟩) (by rw [hm])⟩
            rcases hq with h | h | h
            · exact .inl (.inl h)
            · exact .inl (.inr h)
            · exact .inr (by have := HT3.out.size; rw [World.size_alloc] at h; omega)
          case measure => simp [intOf]; omega
        · have hh : headed f kj.tn = true := by have h2 := HGB.out; simp at h2; exact h2.2
          have HHH : Hid (headed f kj.tn = true) := hh
          have hnn : noName kj.x.1 = true := (headed_iff.1 hh).1
          have HTG : Hid (∀ w2, Below wr.heap.size wr w2 → Calls Tryz.prog 118 #[.slice k.a (lenF k.l) k.c, .slice kj.a (lenF kj.l) kj.c] w2 fun e w' => ∃ F a c, e = .returned (.slice a (lenF F) c) ∧ List.Perm (kidsL F) (kidsL k.l ++ kidsL kj.l) ∧ LoosE w' (fun q => (A1 q ∨ A2 q) ∨ w2.heap.size ≤ q) ⟨k.x, F, a, c⟩ ∧ Turned (fun q => A1 q ∨ A2 q) w2 w') := fun w2 hb => by
            refine together_any k kj A1 A2 w2 (loosE.keep (fun q _ hq => hb.block q hq) HE1.out) (loosE.keep (fun q _ hq => hb.block q hq) HE2.out) (by rw [ST.out.head]; exact noName_noB) hnn HD.out ?_
            have h1 := sizes_mem (List.mem_map_of_mem (f := Kv.tn) (List.mem_of_getElem? HKJ.out))
            have h2 := len_nodes kj.l
            have h3 : sizeT kj.tn = nodesF kj.l + 1 := rfl
            have h4 := HSZ.out
            omega
          clear hh hnn
          go_wp2_with (first
            | (go_at_call 118; refine (HTG.out _ HW2.out).mono ?_; rintro e w3 ⟨F, a', c', rfl, hp3, hE3, ht3⟩; have HP3 : Hid (List.Perm (kidsL F) (kidsL k.l ++ kidsL kj.l)) := hp3; have HE3 : Hid (LoosE w3 (fun q => (A1 q ∨ A2 q) ∨ w2.heap.size ≤ q) ⟨k.x, F, a', c'⟩) := hE3; have HT3 : Hid (Turned (fun q => A1 q ∨ A2 q) w2 w3) := ht3; clear hp3 hE3 ht3)
            | (go_at_call 117; refine (HC.out _).mono ?_; rintro e w2 ⟨rfl, hb2⟩; have ha := arm.out w2 hb2; have HW2 : Hid (Below wr.heap.size wr w2) := ha.1; have x0 := ha.2.1.c0; have x1 := ha.2.1.c1; have x2 := ha.2.1.c2; have y0 := ha.2.2.c 0; clear ha hb2 q0 q1 q2 q3 q4)
            | fail)
          go_roundw
          case rel => exact ⟨j + 1, ⟨k.x, F, a', c'⟩, by omega, rfl, by go_num, ST.out.step HKJ.out HA1.out HA2.out HR2.out HGR.out HW2.out HT3.out ST.out.head HE3.out (by unfold PartR; rw [HHH.out]; exact List.Perm.refl _) HP3.out⟩
          case measure => simp [intOf]; omega
      · have ej : j = ks.length := by omega
        have c1 : wr.cell? ⟨w.heap.size, 1, none⟩ = some (.int .i64 f) := ST.out.fbox.c 1
        have X2 := ST.out.rbox
        have r0 := X2.c0; have r1 := X2.c1; have r2 := X2.c2
        have g0 := X2.f (k := 0); have g1 := X2.f (k := 1); have g2 := X2.f (k := 2)
        clear X2
        go_wp2
        refine bodyPost_ret (results_cell_row rfl _ _ (w.heap.size + 1) 27 #[.string ⟨#[]⟩, .int .i64 f, .slice k.a (lenF k.l) k.c] (0, 0) _ rfl (ST.out.rbox.all (x := (⟨#[]⟩, f)) _) Tryz.underlying27 rfl Tryz.size27) rfl ?_
        obtain ⟨A1, R1, a1, r1, e1, _⟩ := ST.out.gl
        have hx := ST.out.head
        have hE := e1.mk
        rw [hx] at hE
        refine ⟨⟨(noB, f), mkF (kidsL k.l), k.a, k.c⟩, by rw [len_mk_kids]; rfl, .inr ⟨by rw [List.length_map]; exact HH1.out, kidsL k.l, ?_, rfl⟩, ?_, ?_⟩
        · have := ST.out.flat
          rwa [ej, List.take_length] at this
        · refine loosE.mono (fun q hq => ?_) (loosE.keep (fun q hq _ => sets_far ?_ _ _ _) hE)
          · rcases a1 q hq with h | h
            · exact .inl h.1
            · exact .inr (by omega)
          · rcases a1 q hq with h | h <;> omega
        · have hT := ST.out.turned
          exact ⟨hT.os, hT.tape, hT.output, by have := hT.size; simp; omega, fun q hq hn => (sets_far (by omega) _ _ _).trans (hT.block q hq hn)⟩
end Go.Proofs.YtgcnjpiiofjljaaGreatDoor
/- What keep of package canon makes of loose forms: each in order, in its place. -/
namespace Go.Proofs.YtgcnjpiiofjljaaGreatDoor
open Go.RowKit Go.Deep

/-- A row of terms from a block's head on, with room for c. -/
structure RowL (w : World) (g c : Nat) (ks : List Kv) : Prop where
  row : ∃ cur, w.heap[g]? = some (Obj.cells cur 27 (0, 0)) ∧ cur.size = c * 3 ∧ ∀ (j : Nat) (u : Value), (kvCells ks)[j]? = some u → cur[j]? = some u
  len : ks.length ≤ c
theorem RowL.lt {w : World} {g c : Nat} {ks : List Kv} (h : RowL w g c ks) : g < w.heap.size := by
  obtain ⟨cur, h1, _⟩ := h.row
  exact (Array.getElem?_eq_some_iff.1 h1).1
theorem RowL.keep {w w' : World} {g c : Nat} {ks : List Kv} (h : RowL w g c ks) (hg : w'.heap[g]? = w.heap[g]?) : RowL w' g c ks := by
  obtain ⟨cur, h1, h2, h3⟩ := h.row
  exact ⟨⟨cur, hg.trans h1, h2, h3⟩, h.len⟩
theorem RowL.at_ {w : World} {g c : Nat} {ks : List Kv} (h : RowL w g c ks) : RowAt w (some ⟨g, 0, none⟩) ks.length ks := by
  obtain ⟨cur, h1, h2, h3⟩ := h.row
  exact ⟨rfl, fun j u hu => ⟨g, 0, rfl, by rw [Nat.zero_add, cell_of_row w g j cur 27 (0, 0) h1]; exact h3 j u hu⟩⟩
theorem RowL.cell {w : World} {g c : Nat} {ks : List Kv} (h : RowL w g c ks) {i : Nat} (hi : i < c * 3) : ∃ v, w.cell? ⟨g, i, none⟩ = some v := by
  obtain ⟨cur, h1, h2, _⟩ := h.row
  exact ⟨cur[i]'(by omega), by rw [cell_of_row w g i cur 27 (0, 0) h1]; simp [show i < cur.size by omega]⟩
theorem RowL.frozen {w : World} {g c : Nat} {ks : List Kv} (h : RowL w g c ks) (i : Nat) : w.frozen? ⟨g, i, none⟩ = false := by
  obtain ⟨cur, h1, _⟩ := h.row
  simp [World.frozen?, h1]
theorem kvCells_set (ks : List Kv) (j : Nat) (k : Kv) (hj : j < ks.length) (i : Nat) : (kvCells (ks.set j k))[i]? = if i / 3 = j then k.cells[i % 3]? else (kvCells ks)[i]? := by
  by_cases hi : i / 3 < ks.length
  · have e : i = i / 3 * 3 + i % 3 := by omega
    by_cases hij : i / 3 = j
    · rw [if_pos hij]
      have h1 : (ks.set j k)[i / 3]? = some k := by rw [hij]; simp [hj]
      rw [e]
      have := kvCells_nth (ks.set j k) (i / 3) (i % 3) h1 (by omega)
      rw [this]
      congr 1
      omega
    · rw [if_neg hij]
      have h1 : (ks.set j k)[i / 3]? = ks[i / 3]? := by rw [List.getElem?_set_ne (fun h => hij h.symm)]
      have h2 : ks[i / 3]? = some ks[i / 3] := List.getElem?_eq_getElem hi
      rw [e, kvCells_nth (ks.set j k) (i / 3) (i % 3) (h1.trans h2) (by omega), kvCells_nth ks (i / 3) (i % 3) h2 (by omega)]
  · rw [if_neg (by omega), List.getElem?_eq_none (by rw [kvCells_len, List.length_set]; omega), List.getElem?_eq_none (by rw [kvCells_len]; omega)]
/-- A term is stored at a place. -/
theorem RowL.set {w : World} {g c : Nat} {ks : List Kv} (h : RowL w g c ks) {j : Nat} (hj : j < ks.length) (k : Kv) :
    RowL (((w.setCell ⟨g, j * 3, none⟩ (.string k.x.1)).setCell ⟨g, j * 3 + 1, none⟩ (.int .i64 k.x.2)).setCell ⟨g, j * 3 + 2, none⟩ (.slice k.a (lenF k.l) k.c)) g c (ks.set j k) := by
  obtain ⟨cur, h1, h2, h3⟩ := h.row
  have hl := h.len
  refine ⟨⟨_, block_set (block_set (block_set h1 _) _) _, by simp [h2], fun i u hu => ?_⟩, by rw [List.length_set]; exact hl⟩
  rw [kvCells_set ks j k hj] at hu
  simp only [Array.getElem?_setIfInBounds, Array.size_setIfInBounds]
  by_cases hij : i / 3 = j
  · rw [if_pos hij] at hu
    have hcase : i = j * 3 ∨ i = j * 3 + 1 ∨ i = j * 3 + 2 := by omega
    rcases hcase with e | e | e
    · subst e
      rw [if_neg (by omega), if_neg (by omega), if_pos rfl, if_pos (by omega)]
      rw [show j * 3 % 3 = 0 by omega] at hu
      simpa [Kv.cells] using hu
    · subst e
      rw [if_neg (by omega), if_pos rfl, if_pos (by omega)]
      rw [show (j * 3 + 1) % 3 = 1 by omega] at hu
      simpa [Kv.cells] using hu
    · subst e
      rw [if_pos rfl, if_pos (by omega)]
      rw [show (j * 3 + 2) % 3 = 2 by omega] at hu
      simpa [Kv.cells] using hu
  · rw [if_neg hij] at hu
    rw [if_neg (by omega), if_neg (by omega), if_neg (by omega)]
    exact h3 i u hu
theorem sets_far3 {W : World} {g q i : Nat} (h : q ≠ g) (a b c : Value) : (((W.setCell ⟨g, i, none⟩ a).setCell ⟨g, i + 1, none⟩ b).setCell ⟨g, i + 2, none⟩ c).heap[q]? = W.heap[q]? :=
  (Below.heap_setCell _ _ _ _ h).trans ((Below.heap_setCell _ _ _ _ h).trans (Below.heap_setCell _ _ _ _ h))
theorem gl_set {E : World → Bl → Kv → Prop} {w : World} {ks : List Kv} {A : Bl} {j : Nat} {k : Kv} (h : GL E w ks A) (hj : ks[j]? = some k) : ∃ A1 A2 : Bl, (∀ q, A1 q → A q) ∧ (∀ q, A2 q → A q ∧ ¬ A1 q) ∧ E w A1 k ∧ GL E w (ks.take j ++ ks.drop (j + 1)) A2 := by
  have e : ks = ks.take j ++ k :: ks.drop (j + 1) := by rw [← drop_cons hj, List.take_append_drop]
  rw [e] at h
  obtain ⟨A1, A2, h1, h2, h3, h4⟩ := h.perm List.perm_middle
  exact ⟨A1, A2, h1, h2, h3, h4⟩
theorem gl_put {E : World → Bl → Kv → Prop} {w : World} {ks : List Kv} {A A1 A2 : Bl} {j : Nat} {k : Kv} (hj : j < ks.length) (h1 : ∀ q, A1 q → A q) (h2 : ∀ q, A2 q → A q ∧ ¬ A1 q) (hE : E w A1 k) (hg : GL E w (ks.take j ++ ks.drop (j + 1)) A2) : GL E w (ks.set j k) A := by
  have e : ks.set j k = ks.take j ++ k :: ks.drop (j + 1) := List.set_eq_take_append_cons_drop.trans (if_pos hj)
  rw [e]
  exact GL.perm List.perm_middle.symm ⟨A1, A2, h1, h2, hE, hg⟩

/-- Where keep stands before the term j. -/
structure KeepSt (S : Sg) (A : Bl) (w : World) (g c : Nat) (hv : Array Value) (ks : List Kv) (j : Nat) (ms : List Kv) (W : World) : Prop where
  len : ms.length = ks.length
  row : RowL W g c ms
  gl : GL LoosE W ms (fun q => A q ∧ q < w.heap.size)
  turned : Turned (fun q => A q ∨ q = g) w W
  fbox : Box W w.heap.size 90 hv
  rbox : XBox W (w.heap.size + 1) (⟨#[]⟩, 0) (.slice none 0 0)
  done : All2 (SetR S) ((ks.map Kv.tn).take j) ((ms.map Kv.tn).take j)
  rest : ms.drop j = ks.drop j

theorem KeepSt.step {S : Sg} {A A1 A2 : Bl} {w W w2 w3 : World} {g c : Nat} {hv : Array Value} {ks ms : List Kv} {j : Nat} {k : Kv} {F : Fo} (h : KeepSt S A w g c hv ks j ms W) (hg : ¬ A g) (hgl : g < w.heap.size) (hj : ms[j]? = some k) (h1 : ∀ q, A1 q → A q ∧ q < w.heap.size) (h2 : ∀ q, A2 q → (A q ∧ q < w.heap.size) ∧ ¬ A1 q)
    (hgl2 : GL LoosE W (ms.take j ++ ms.drop (j + 1)) A2) (hb : Below W.heap.size W w2) (ht : Turned A1 w2 w3) (hE : LoosE w3 A1 ⟨k.x, F, k.a, k.c⟩) (hset : SetR S k.tn (k.x, F)) :
    KeepSt S A w g c hv ks (j + 1) (ms.set j ⟨k.x, F, k.a, k.c⟩) (((w3.setCell ⟨g, j * 3, none⟩ (.string k.x.1)).setCell ⟨g, j * 3 + 1, none⟩ (.int .i64 k.x.2)).setCell ⟨g, j * 3 + 2, none⟩ (.slice k.a (lenF F) k.c)) := by
  have hbs := hb.size
  have hfl := h.fbox.lt
  have hrl := h.rbox.lt
  have hjl : j < ms.length := (List.getElem?_eq_some_iff.1 hj).1
  have n1 : ∀ q, q = g ∨ w.heap.size ≤ q → ¬ A1 q := fun q hq h' => by
    rcases hq with rfl | hq
    · exact hg (h1 q h').1
    · have := (h1 q h').2; omega
  have key : ∀ q, q < W.heap.size → ¬ A1 q → w3.heap[q]? = W.heap[q]? := fun q hq hn => (ht.block q (by omega) hn).trans (hb.block q hq)
  have far : ∀ q, q ≠ g → (((w3.setCell ⟨g, j * 3, none⟩ (.string k.x.1)).setCell ⟨g, j * 3 + 1, none⟩ (.int .i64 k.x.2)).setCell ⟨g, j * 3 + 2, none⟩ (.slice k.a (lenF F) k.c)).heap[q]? = w3.heap[q]? := fun q hq => sets_far3 hq _ _ _
  have ng : ∀ q, A q ∧ q < w.heap.size → q ≠ g := fun q hq e => hg (e ▸ hq.1)
  refine ⟨by rw [List.length_set]; exact h.len, RowL.set (h.row.keep (key g (by omega) (n1 g (.inl rfl)))) hjl ⟨k.x, F, k.a, k.c⟩, ?_, ?_, ?_, ?_, ?_, ?_⟩
  · refine gl_put hjl h1 h2 (loosE.keep (fun q hq _ => far q (ng q (h1 q hq))) hE) ?_
    exact hgl2.keep loosE (fun q hq hlt => (far q (ng q (h2 q hq).1)).trans (key q hlt (h2 q hq).2))
  · refine (h.turned.then (Turned.of_below hb (fun _ => False)) (fun q _ hq => hq.elim)).then (X := fun q => A1 q ∨ q = g) ?_ (fun q _ hq => by
      rcases hq with hq | hq
      · exact .inl (h1 q hq).1
      · exact .inr hq)
    exact ⟨ht.os, ht.tape, ht.output, by have := ht.size; simpa using this, fun q hq hn => (far q (fun e => hn (.inr e))).trans (ht.block q hq (fun e => hn (.inl e)))⟩
  · exact (far _ (by omega)).trans ((key _ hfl (n1 _ (.inr (Nat.le_refl _)))).trans h.fbox)
  · exact (far _ (by omega)).trans ((key _ hrl (n1 _ (.inr (by omega)))).trans h.rbox)
  · have hk : ks[j]? = some k := by
      have e := h.rest
      have e1 := drop_cons hj
      rw [e] at e1
      have := congrArg (·[0]?) e1
      simpa using this
    have t1 : (ks.map Kv.tn).take (j + 1) = (ks.map Kv.tn).take j ++ [k.tn] := take_snoc (by rw [List.getElem?_map, hk]; rfl)
    have t2 : ((ms.set j ⟨k.x, F, k.a, k.c⟩).map Kv.tn).take (j + 1) = (ms.map Kv.tn).take j ++ [(k.x, F)] := by
      rw [take_snoc (x := (k.x, F)) (by rw [List.getElem?_map, List.getElem?_set_self hjl]; rfl), ← List.map_take, ← List.map_take, List.take_set_of_le (Nat.le_refl _)]
    rw [t1, t2]
    exact h.done.snoc hset
  · have e := h.rest
    rw [List.drop_set_of_lt (by omega)]
    have := congrArg (List.drop 1) e
    simpa [List.drop_drop] using this

set_option maxRecDepth 100000 in
set_option maxHeartbeats 2000000 in
theorem keep_any (S : Option Addr) (n cap : Nat) (l : List Sym) (f : Int) (ks : List Kv) (g c B : Nat) (A : Bl) (w : World) (hS : SigLow B w S n l) (hB : B ≤ w.heap.size) (hA : ∀ q, A q → B ≤ q) (hgB : B ≤ g) (hg : ¬ A g) (hrow : RowL w g c ks) (hks : GL LoosE w ks A) (hsz : sizes (ks.map Kv.tn) ≤ 1048576) (hc : c ≤ maxLen) :
    Calls Tryz.prog 104 #[.agg (headV S n cap l f), .slice (some ⟨g, 0, none⟩) ks.length c] w fun e w' => ∃ k : Kv, e = .returned (.agg #[.string k.x.1, .int .i64 k.x.2, .slice k.a (lenF k.l) k.c]) ∧ (∃ rs', All2 (SetR (sgOf l)) (ks.map Kv.tn) rs' ∧ k.tn = ((noB, f), mkF rs')) ∧ LoosE w' (fun q => (A q ∨ q = g) ∨ w.heap.size ≤ q) k ∧ Turned (fun q => A q ∨ q = g) w w' := by
  have HS : Hid (SigLow B w S n l) := hS
  have HA : Hid (∀ q, A q → B ≤ q) := hA
  have HG : Hid (¬ A g) := hg
  have HR : Hid (RowL w g c ks) := hrow
  have HKS : Hid (GL LoosE w ks A) := hks
  have hlen : ks.length ≤ 1048576 := by have := psizes_len (ks.map Kv.tn); rw [List.length_map] at this; omega
  have hmax : maxLen = 9223372036854775807 := rfl
  have hlc := hrow.len
  have hglt := hrow.lt
  clear hS hA hrow hks hsz hg
  unfold headV
  obtain ⟨kd, hkd⟩ : ∃ kd, kindK l f = kd := ⟨_, rfl⟩
  obtain ⟨un, hun⟩ : ∃ un, unitI l f = un := ⟨_, rfl⟩
  obtain ⟨uo, huo⟩ : ∃ uo, unitOk l f = uo := ⟨_, rfl⟩
  rw [hkd, hun, huo]
  clear hkd hun huo
  have ST0 : Hid (KeepSt (sgOf l) A w g c #[.slice S n cap, .int .i64 f, .int .i64 kd, .int .i64 un, .bool uo] ks 0 ks ((w.alloc (.cells #[.slice S n cap, .int .i64 f, .int .i64 kd, .int .i64 un, .bool uo] 90)).alloc (.cells #[.string ⟨#[]⟩, .int .i64 0, .slice none 0 0] 27))) := by
    have hb0 : Below w.heap.size w ((w.alloc (.cells #[.slice S n cap, .int .i64 f, .int .i64 kd, .int .i64 un, .bool uo] 90)).alloc (.cells #[.string ⟨#[]⟩, .int .i64 0, .slice none 0 0] 27)) := ((Below.refl _ w).alloc (Nat.le_refl _) _).alloc (by simp) _
    refine ⟨rfl, HR.out.keep (hb0.block g hglt), (HKS.out.within loosE).keep loosE (fun q _ hq => hb0.block q hq), Turned.of_below hb0 _, (Box.new w 90 _).below ((Below.refl _ _).alloc (Nat.le_refl _) _), ?_, trivial, rfl⟩
    have := World.alloc_heap_new (w.alloc (.cells #[.slice S n cap, .int .i64 f, .int .i64 kd, .int .i64 un, .bool uo] 90)) (.cells #[.string ⟨#[]⟩, .int .i64 0, .slice none 0 0] 27)
    rw [World.size_alloc] at this
    exact this
  go_enter Tryz.func104, Tryz.ntmps104
  go_wp2
  go_loopw [5, 6, 9] (fun _ _ i wr => ∃ (j : Nat) (ms : List Kv), j ≤ ks.length ∧ i = .int .i64 j ∧ KeepSt (sgOf l) A w g c #[.slice S n cap, .int .i64 f, .int .i64 kd, .int .i64 un, .bool uo] ks j ms wr) (fun _ _ i _ => ks.length - (intOf i).toNat)
  case atStart => exact ⟨0, ks, Nat.zero_le _, rfl, ST0.out⟩
  case round =>
    obtain ⟨j, ms, hj, rfl, hst⟩ := hrel
    have ST : Hid (KeepSt (sgOf l) A w g c #[.slice S n cap, .int .i64 f, .int .i64 kd, .int .i64 un, .bool uo] ks j ms wr) := hst
    clear hst ST0
    by_cases hlt : j < ks.length
    · obtain ⟨kj, hkj⟩ : ∃ kj, ms[j]? = some kj := ⟨_, List.getElem?_eq_getElem (by rw [ST.out.len]; exact hlt)⟩
      obtain ⟨bb, oo, e0, p0, p1, p2⟩ := ST.out.row.at_.cells3 hkj
      cases e0
      rw [Nat.zero_add] at p0 p1 p2
      obtain ⟨A1, A2, a1, a2, e1, g2⟩ := gl_set ST.out.gl hkj
      have HKJ := hid hkj
      have HA1 := hid a1
      have HA2 := hid a2
      have HE1 := hid e1
      have HG2 := hid g2
      have hb1 : Below wr.heap.size wr (wr.alloc (.cells #[.string kj.x.1, .int .i64 kj.x.2, .slice kj.a (lenF kj.l) kj.c] 27)) := (Below.refl _ _).alloc (Nat.le_refl _) _
      have HB1 := hid hb1
      have hl2 := ST.out.turned.size
      have hfb := ST.out.fbox.lt
      have q0 : (wr.alloc (.cells #[.string kj.x.1, .int .i64 kj.x.2, .slice kj.a (lenF kj.l) kj.c] 27)).cell? ⟨w.heap.size, 0, none⟩ = some (.slice S n cap) := (ST.out.fbox.below hb1).c 0
      have HSE : Hid (Calls Tryz.prog 39 #[.slice S n cap, .agg #[.string kj.x.1, .int .i64 kj.x.2, .slice kj.a (lenF kj.l) kj.c]] (wr.alloc (.cells #[.string kj.x.1, .int .i64 kj.x.2, .slice kj.a (lenF kj.l) kj.c] 27)) fun e w' => ∃ F, e = .returned (.agg #[.string kj.x.1, .int .i64 kj.x.2, .slice kj.a (lenF F) kj.c]) ∧ lenF F = lenF kj.l ∧ SetR (sgOf l) kj.tn (kj.x, F) ∧ LoosE w' A1 ⟨kj.x, F, kj.a, kj.c⟩ ∧ Turned A1 (wr.alloc (.cells #[.string kj.x.1, .int .i64 kj.x.2, .slice kj.a (lenF kj.l) kj.c] 27)) w') :=
        settle_any S n cap l kj A1 _ (HS.out _ ((ST.out.turned.below (fun q hq => by rcases hq with hq | rfl; exact HA.out q hq; exact hgB) hB).trans (hb1.mono (by omega)))) (loosE.keep (fun q _ hq => hb1.block q hq) e1)
      have HROW : Hid (∀ w3, Turned A1 (wr.alloc (.cells #[.string kj.x.1, .int .i64 kj.x.2, .slice kj.a (lenF kj.l) kj.c] 27)) w3 → RowL w3 g c ms) := fun w3 ht => ST.out.row.keep ((ht.block g (by simp; omega) (fun h' => HG.out (HA1.out g h').1)).trans (hb1.block g (by omega)))
      clear hkj a1 a2 e1 g2 hb1
      go_wp2_with (first
        | (go_at_call 39; refine HSE.out.mono ?_; rintro e w3 ⟨F, rfl, hF, hset, hE3, ht3⟩; have HF3 := hid hF; have HST := hid hset; have HE3 := hid hE3; have HT3 := hid ht3; obtain ⟨u0, v0⟩ := (HROW.out w3 ht3).cell (i := j * 3) (by omega); obtain ⟨u1, v1⟩ := (HROW.out w3 ht3).cell (i := j * 3 + 1) (by omega); obtain ⟨u2, v2⟩ := (HROW.out w3 ht3).cell (i := j * 3 + 2) (by omega); have f0 := (HROW.out w3 ht3).frozen (j * 3); have f1 := (HROW.out w3 ht3).frozen (j * 3 + 1); have f2 := (HROW.out w3 ht3).frozen (j * 3 + 2); clear hF hset hE3 ht3 p0 p1 p2 q0)
        | fail)
      go_roundw
      case rel => exact ⟨j + 1, _, by omega, by go_num, ST.out.step HG.out hglt HKJ.out HA1.out HA2.out HG2.out HB1.out HT3.out HE3.out HST.out⟩
      case measure => simp [intOf]; omega
    · have ej : j = ks.length := by omega
      have c1 : wr.cell? ⟨w.heap.size, 1, none⟩ = some (.int .i64 f) := ST.out.fbox.c 1
      have X2 := ST.out.rbox
      have r0 := X2.c0; have r1 := X2.c1; have r2 := X2.c2
      have g0 := X2.f (k := 0); have g1 := X2.f (k := 1); have g2 := X2.f (k := 2)
      clear X2
      go_wp2
      refine bodyPost_ret (results_cell_row rfl _ _ (w.heap.size + 1) 27 #[.string ⟨#[]⟩, .int .i64 f, .slice (some ⟨g, 0, none⟩) ks.length c] (0, 0) _ rfl (ST.out.rbox.all (x := (⟨#[]⟩, f)) _) Tryz.underlying27 rfl Tryz.size27) rfl ?_
      have hml := ST.out.len
      have hT := ST.out.turned
      obtain ⟨cur, h1, h2, h3⟩ := ST.out.row.row
      refine ⟨⟨(noB, f), mkF (ms.map Kv.tn), some ⟨g, 0, none⟩, c⟩, by rw [len_mk, List.length_map, hml]; rfl, ⟨ms.map Kv.tn, ?_, rfl⟩, ?_, ?_⟩
      · have := ST.out.done
        rwa [ej, List.take_of_length_le (by simp), List.take_of_length_le (by simp [hml])] at this
      · refine loosE.mono (A := fun q => A q ∨ q = g) (fun q hq => .inl hq) ?_
        refine LoosE.make (by show noB.size ≤ maxLen; decide) (.inr rfl) ((sets_far (by omega) _ _ _).trans h1) h2 hc (by omega) (by omega) h3 ?_
        refine ((ST.out.gl.weak (E' := SepE) (fun _ _ h => h.1)).keep sepE (fun q hq _ => sets_far (by omega) _ _ _)).mono (fun q hq => ⟨.inl hq.1, fun e => HG.out (e ▸ hq.1)⟩)
      · exact ⟨hT.os, hT.tape, hT.output, by have := hT.size; simp; omega, fun q hq hn => (sets_far (by omega) _ _ _).trans (hT.block q hq hn)⟩
end Go.Proofs.YtgcnjpiiofjljaaGreatDoor
/- What slices.DeleteFunc makes of a row of loose forms by isUnit of package canon: the units are gone. -/
namespace Go.Proofs.YtgcnjpiiofjljaaGreatDoor
open Go.RowKit Go.Deep

set_option maxRecDepth 100000 in
theorem run_clear3 (w : World) (g o n c : Nat) (cur : Array Value) (hg : w.heap[g]? = some (Obj.cells cur 27 (0, 0))) (hn : 0 < n) (hsz : o + n * 3 ≤ cur.size) :
    ∃ cur' : Array Value, (∀ ty, (Builtin.clear_ #[25] ty #[.slice (some ⟨g, o, none⟩) n c]).run Tryz.prog w = .ok (.tuple #[]) (w.setRow g cur')) ∧ cur'.size = cur.size ∧ ∀ j : Nat, j < o → cur'[j]? = cur[j]? := by
  have hz : ∀ w, (zeroValue 27).run Tryz.prog w = .ok (.agg #[.string ⟨#[]⟩, .int .i64 0, .slice none 0 0]) w := Tryz.zeroValue27
  obtain ⟨zs, hzs⟩ : ∃ zs, (Builtin.zeroCells (Value.agg #[.string ⟨#[]⟩, .int .i64 0, .slice none 0 0]).cells n).toList = zs := ⟨_, rfl⟩
  have hl : zs.length = n * 3 := by rw [← hzs]; simp [Builtin.zeroCells, Value.cells]
  have h1 : ∀ v ∈ zs, v.oneCell' = true := by
    intro v hv
    rw [← hzs] at hv
    simp only [Builtin.zeroCells, Value.cells, Array.toList_map, List.mem_map] at hv
    obtain ⟨i, _, rfl⟩ := hv
    have : i % 3 = 0 ∨ i % 3 = 1 ∨ i % 3 = 2 := by omega
    show (#[Value.string ⟨#[]⟩, .int .i64 0, .slice none 0 0][i % 3]!).oneCell' = true
    rcases this with e | e | e <;> rw [e] <;> rfl
  have hst := run_storeCells_at (P := Tryz.prog) g o 27 zs 0 cur w hg (by rw [hl]; omega) h1
  simp only [Nat.add_zero] at hst
  refine ⟨(cur.toList.take o ++ zs ++ cur.toList.drop (o + zs.length)).toArray, fun ty => ?_, ?_, fun j hj => ?_⟩
  · obtain ⟨m, rfl⟩ : ∃ m, n = m + 1 := ⟨n - 1, by omega⟩
    simp [Builtin.clear_, run_underlying Tryz.underlying25, hz, hzs, hst]
  · simp; omega
  · simp only [List.getElem?_toArray, List.append_assoc]
    rw [List.getElem?_append_left (by simp; omega), List.getElem?_take_of_lt hj, Array.getElem?_toList]

set_option maxRecDepth 100000 in
set_option maxHeartbeats 1000000 in
theorem index_any (S : Option Addr) (n cap : Nat) (l : List Sym) (f : Int) (ks : List Kv) (g c : Nat) (A : Bl) (w : World) (hrow : RowL w g c ks) (hks : GL LoosE w ks A) (hlen : ks.length ≤ 1048576) :
    Calls Tryz.prog 124 #[.slice (some ⟨g, 0, none⟩) ks.length c, .func (.func 120) #[.agg (headV S n cap l f)] #[]] w fun e w' => Below w.heap.size w w' ∧ ((∃ j : Nat, ∃ k, ks[j]? = some k ∧ isUnB l f k.tn = true ∧ e = .returned (.int .i64 j) ∧ ∀ m ∈ ks.take j, isUnB l f m.tn = false) ∨ (e = .returned (.int .i64 (-1)) ∧ ∀ m ∈ ks, isUnB l f m.tn = false)) := by
  have HR := hid hrow
  have HKS := hid hks
  clear hrow hks
  unfold headV
  obtain ⟨kd, hkd⟩ : ∃ kd, kindK l f = kd := ⟨_, rfl⟩
  rw [hkd]
  clear hkd
  go_enter Tryz.func124, Tryz.ntmps124
  go_wp2
  go_loopw [4, 5, 8] (fun _ _ i wr => ∃ j : Nat, j ≤ ks.length ∧ i = .int .i64 j ∧ Below w.heap.size w wr ∧ ∀ m ∈ ks.take j, isUnB l f m.tn = false) (fun _ _ i _ => ks.length - (intOf i).toNat)
  case atStart => exact ⟨0, Nat.zero_le _, rfl, Below.refl _ _, by simp⟩
  case round =>
    obtain ⟨j, hj, rfl, hb, hno⟩ := hrel
    have HB := hid hb
    have HNO := hid hno
    clear hno
    by_cases hlt : j < ks.length
    · obtain ⟨kj, hkj⟩ : ∃ kj, ks[j]? = some kj := ⟨_, List.getElem?_eq_getElem hlt⟩
      obtain ⟨bb, oo, e0, p0, p1, p2⟩ := (HR.out.keep (hb.block g HR.out.lt)).at_.cells3 hkj
      cases e0
      rw [Nat.zero_add] at p0 p1 p2
      obtain ⟨A1, _, hE⟩ := HKS.out.mem (List.mem_of_getElem? hkj)
      have HT : TmAt wr kj.x kj.a kj.c kj.l := (SepTm.tm hE.1).below hb
      have hC := isUnit_any S n cap f kd l kj.tn kj.a kj.c wr HT
      have HKJ := hid hkj
      have HC : Hid (Calls Tryz.prog 120 #[.agg #[.slice S n cap, .int .i64 f, .int .i64 kd, .int .i64 (unitI l f), .bool (unitOk l f)], .agg #[.string kj.x.1, .int .i64 kj.x.2, .slice kj.a (lenF kj.l) kj.c]] wr fun e w' => e = .returned (.bool (isUnB l f kj.tn)) ∧ Below wr.heap.size wr w') := hC
      clear hkj hE HT hC hb
      cases hu : isUnB l f kj.tn
      · rw [hu] at HC
        go_wp2_with (go_at_call 120; refine HC.out.mono ?_; rintro e w2 ⟨rfl, hb2⟩; have HB2 : Hid (Below w.heap.size w w2) := HB.out.trans (hb2.mono HB.out.size); clear hb2)
        go_roundw
        case rel => exact ⟨j + 1, by omega, by go_num, HB2.out, fun m hm => by
          rw [take_snoc HKJ.out] at hm
          rcases List.mem_append.1 hm with h | h
          · exact HNO.out m h
          · rw [List.mem_singleton] at h; rw [h]; exact hu⟩
        case measure => simp [intOf]; omega
      · rw [hu] at HC
        go_wp2_with (go_at_call 120; refine HC.out.mono ?_; rintro e w2 ⟨rfl, hb2⟩; have HB2 : Hid (Below w.heap.size w w2) := HB.out.trans (hb2.mono HB.out.size); clear hb2)
        go_ret
        exact ⟨HB2.out, .inl ⟨j, kj, HKJ.out, hu, rfl, HNO.out⟩⟩
    · have ej : j = ks.length := by omega
      go_wp2
      go_ret
      refine ⟨HB.out, .inr ⟨rfl, ?_⟩⟩
      have := HNO.out
      rwa [ej, List.take_length] at this

/-- Where DeleteFunc stands: i terms are kept of the first j. -/
structure DelSt (l : List Sym) (f : Int) (w : World) (g c : Nat) (ks : List Kv) (i j : Nat) (ms : List Kv) (W : World) : Prop where
  len : ms.length = ks.length
  row : RowL W g c ms
  turned : Turned (fun q => q = g) w W
  lt : i < j
  done : ms.take i = (ks.take j).filter (fun k => !isUnB l f k.tn)
  rest : ms.drop j = ks.drop j

theorem DelSt.kid {l : List Sym} {f : Int} {w W : World} {g c : Nat} {ks ms : List Kv} {i j : Nat} (h : DelSt l f w g c ks i j ms W) {k : Kv} (hk : ks[j]? = some k) : ms[j]? = some k := by
  have e1 := drop_cons hk
  rw [← h.rest] at e1
  have := congrArg (·[0]?) e1
  simpa using this
theorem filter_snoc (l : List Sym) (f : Int) {ks : List Kv} {j : Nat} {k : Kv} (hk : ks[j]? = some k) : (ks.take (j + 1)).filter (fun k => !isUnB l f k.tn) = (ks.take j).filter (fun k => !isUnB l f k.tn) ++ if isUnB l f k.tn then [] else [k] := by
  rw [take_snoc hk, List.filter_append]
  cases h : isUnB l f k.tn <;> simp [h]
theorem drop_more {α : Type} {a b : List α} {j : Nat} (h : a.drop j = b.drop j) : a.drop (j + 1) = b.drop (j + 1) := by
  have := congrArg (List.drop 1) h
  simpa [List.drop_drop] using this
theorem DelSt.skip {l : List Sym} {f : Int} {w W W' : World} {g c : Nat} {ks ms : List Kv} {i j : Nat} (h : DelSt l f w g c ks i j ms W) {k : Kv} (hk : ks[j]? = some k) (hu : isUnB l f k.tn = true) (hb : Below W.heap.size W W') : DelSt l f w g c ks i (j + 1) ms W' :=
  ⟨h.len, h.row.keep (hb.block g h.row.lt), h.turned.trans (Turned.of_below hb _), by have := h.lt; omega, by rw [filter_snoc l f hk, hu, h.done]; simp, drop_more h.rest⟩
theorem DelSt.put {l : List Sym} {f : Int} {w W W' : World} {g c : Nat} {ks ms : List Kv} {i j : Nat} (h : DelSt l f w g c ks i j ms W) {k : Kv} (hk : ks[j]? = some k) (hu : isUnB l f k.tn = false) (hb : Below W.heap.size W W') :
    DelSt l f w g c ks (i + 1) (j + 1) (ms.set i k) (((W'.setCell ⟨g, i * 3, none⟩ (.string k.x.1)).setCell ⟨g, i * 3 + 1, none⟩ (.int .i64 k.x.2)).setCell ⟨g, i * 3 + 2, none⟩ (.slice k.a (lenF k.l) k.c)) := by
  have hjl : j < ks.length := (List.getElem?_eq_some_iff.1 hk).1
  have hij := h.lt
  have hil : i < ms.length := by rw [h.len]; omega
  refine ⟨by rw [List.length_set]; exact h.len, RowL.set (h.row.keep (hb.block g h.row.lt)) hil k, ?_, by omega, ?_, ?_⟩
  · have hT := h.turned.trans (Turned.of_below hb _)
    exact ⟨hT.os, hT.tape, hT.output, by have := hT.size; simpa using this, fun q hq hn => (sets_far3 hn _ _ _).trans (hT.block q hq hn)⟩
  · rw [filter_snoc l f hk, hu, take_snoc (x := k) (by rw [List.getElem?_set_self hil]), List.take_set_of_le (Nat.le_refl _), h.done]
    simp
  · rw [List.drop_set_of_lt (by omega)]
    exact drop_more h.rest

set_option maxRecDepth 100000 in
set_option maxHeartbeats 2000000 in
theorem delete_any (S : Option Addr) (n cap : Nat) (l : List Sym) (f : Int) (ks : List Kv) (g c : Nat) (A : Bl) (w : World) (hrow : RowL w g c ks) (hks : GL LoosE w ks A) (hg : ¬ A g) (hlen : ks.length ≤ 1048576) (hc : c ≤ maxLen) :
    Calls Tryz.prog 119 #[.slice (some ⟨g, 0, none⟩) ks.length c, .func (.func 120) #[.agg (headV S n cap l f)] #[]] w fun e w' => e = .returned (.slice (some ⟨g, 0, none⟩) (ks.filter fun k => !isUnB l f k.tn).length c) ∧ RowL w' g c (ks.filter fun k => !isUnB l f k.tn) ∧ Turned (fun q => q = g) w w' := by
  have HI := hid (index_any S n cap l f ks g c A w hrow hks hlen)
  have HR := hid hrow
  have HKS := hid hks
  have HG := hid hg
  have hmax : maxLen = 9223372036854775807 := rfl
  have hlc := hrow.len
  have hglt := hrow.lt
  clear hrow hks hg
  unfold headV at HI ⊢
  obtain ⟨kd, hkd⟩ : ∃ kd, kindK l f = kd := ⟨_, rfl⟩
  rw [hkd] at HI ⊢
  clear hkd
  go_enter Tryz.func119, Tryz.ntmps119
  go_wp2_with fail
  refine HI.out.mono ?_
  rintro e w1 ⟨hb1, (⟨i, ki, hki, hui, rfl, hno⟩ | ⟨rfl, hno⟩)⟩
  · have hil : i < ks.length := (List.getElem?_eq_some_iff.1 hki).1
    have hne : ((i : Int) == -1) = false := by simp
    have ST0 : Hid (DelSt l f w g c ks i (i + 1) ks w1) := ⟨rfl, HR.out.keep (hb1.block g hglt), Turned.of_below hb1 _, by omega, by
      rw [filter_snoc l f hki, hui]
      simp only [if_true, List.append_nil]
      exact (List.filter_eq_self.2 (fun k hk => by rw [hno k hk]; rfl)).symm, rfl⟩
    clear hki hui hno hb1 HI
    go_wp2
    go_loopw [5, 6, 7] (fun iv jv _ wr => ∃ (i j : Nat) (ms : List Kv), j ≤ ks.length ∧ iv = .int .i64 i ∧ jv = .int .i64 j ∧ DelSt l f w g c ks i j ms wr) (fun _ jv _ _ => ks.length - (intOf jv).toNat)
    case atStart => exact ⟨i, i + 1, ks, by omega, rfl, by go_num, ST0.out⟩
    case round =>
      obtain ⟨i, j, ms, hj, rfl, rfl, hst⟩ := hrel
      have ST := hid hst
      have hij := hst.lt
      clear hst ST0 hne hil
      by_cases hlt : j < ks.length
      · obtain ⟨kj, hkj⟩ : ∃ kj, ks[j]? = some kj := ⟨_, List.getElem?_eq_getElem hlt⟩
        obtain ⟨bb, oo, e0, p0, p1, p2⟩ := ST.out.row.at_.cells3 (ST.out.kid hkj)
        cases e0
        rw [Nat.zero_add] at p0 p1 p2
        have hml := ST.out.len
        obtain ⟨A1, hA1, hE⟩ := HKS.out.mem (List.mem_of_getElem? hkj)
        have hb1 : Below wr.heap.size wr (wr.alloc (.cells #[.string kj.x.1, .int .i64 kj.x.2, .slice kj.a (lenF kj.l) kj.c] 27)) := (Below.refl _ _).alloc (Nat.le_refl _) _
        have HT : TmAt wr kj.x kj.a kj.c kj.l := SepTm.tm (SepTm.keep (A := A1) (fun q hq hlt => ST.out.turned.block q hlt (fun e => HG.out (hA1 g (e ▸ hq)))) hE.1)
        have hC := isUnit_any S n cap f kd l kj.tn kj.a kj.c _ (HT.below hb1)
        have HKJ := hid hkj
        have HB1 := hid hb1
        have HC : Hid (Calls Tryz.prog 120 #[.agg #[.slice S n cap, .int .i64 f, .int .i64 kd, .int .i64 (unitI l f), .bool (unitOk l f)], .agg #[.string kj.x.1, .int .i64 kj.x.2, .slice kj.a (lenF kj.l) kj.c]] (wr.alloc (.cells #[.string kj.x.1, .int .i64 kj.x.2, .slice kj.a (lenF kj.l) kj.c] 27)) fun e w' => e = .returned (.bool (isUnB l f kj.tn)) ∧ Below (wr.alloc (.cells #[.string kj.x.1, .int .i64 kj.x.2, .slice kj.a (lenF kj.l) kj.c] 27)).heap.size (wr.alloc (.cells #[.string kj.x.1, .int .i64 kj.x.2, .slice kj.a (lenF kj.l) kj.c] 27)) w') := hC
        clear hkj hE HT hC hb1 hA1
        cases hu : isUnB l f kj.tn
        · rw [hu] at HC
          have arm : Hid (∀ w2, Below (wr.alloc (.cells #[.string kj.x.1, .int .i64 kj.x.2, .slice kj.a (lenF kj.l) kj.c] 27)).heap.size (wr.alloc (.cells #[.string kj.x.1, .int .i64 kj.x.2, .slice kj.a (lenF kj.l) kj.c] 27)) w2 → Below wr.heap.size wr w2 ∧ XBox w2 wr.heap.size kj.x (.slice kj.a (lenF kj.l) kj.c) ∧ RowL w2 g c ms) := fun w2 hb2 => ⟨HB1.out.trans (hb2.mono HB1.out.size), XBox.below (World.alloc_heap_new wr _) hb2, ST.out.row.keep ((hb2.block g (by have := ST.out.row.lt; simp; omega)).trans (HB1.out.block g ST.out.row.lt))⟩
          go_wp2_with (go_at_call 120; refine HC.out.mono ?_; rintro e w2 ⟨rfl, hb2⟩; have ha := arm.out w2 hb2; have HB2 := hid ha.1; have x0 := ha.2.1.c0; have x1 := ha.2.1.c1; have x2 := ha.2.1.c2; obtain ⟨u0, v0⟩ := ha.2.2.cell (i := i * 3) (by omega); obtain ⟨u1, v1⟩ := ha.2.2.cell (i := i * 3 + 1) (by omega); obtain ⟨u2, v2⟩ := ha.2.2.cell (i := i * 3 + 2) (by omega); have f0 := ha.2.2.frozen (i * 3); have f1 := ha.2.2.frozen (i * 3 + 1); have f2 := ha.2.2.frozen (i * 3 + 2); clear hb2 ha p0 p1 p2)
          go_roundw
          case rel => exact ⟨i + 1, j + 1, _, by omega, by go_num, by go_num, ST.out.put HKJ.out hu HB2.out⟩
          case measure => simp [intOf]; omega
        · rw [hu] at HC
          go_wp2_with (go_at_call 120; refine HC.out.mono ?_; rintro e w2 ⟨rfl, hb2⟩; have HB2 := hid (HB1.out.trans (hb2.mono HB1.out.size)); clear hb2)
          go_roundw
          case rel => exact ⟨i, j + 1, ms, by omega, rfl, by go_num, ST.out.skip HKJ.out hu HB2.out⟩
          case measure => simp [intOf]; omega
      · have ej : j = ks.length := by omega
        subst ej
        have hml := ST.out.len
        obtain ⟨cur, h1, h2, h3⟩ := ST.out.row.row
        obtain ⟨cur', hcl, hs', hc'⟩ := run_clear3 wr g (i * 3) (ks.length - i) (c - i) cur h1 (by omega) (by omega)
        have H1 := hid h1
        have H2 := hid h2
        have H3 := hid h3
        have HS' := hid hs'
        have HC' := hid hc'
        clear h1 h2 h3 hs' hc'
        go_wp2
        go_ret
        have hd := ST.out.done
        rw [List.take_length] at hd
        have hdl : (ks.filter fun k => !isUnB l f k.tn).length = i := by rw [← hd, List.length_take]; omega
        have hT := ST.out.turned
        refine ⟨by rw [hdl]; rfl, ?_, hT.os, hT.tape, hT.output, by have := hT.size; simpa [World.setRow] using this, fun q hq hn => ?_⟩
        · refine ⟨⟨cur', setRow_heap wr g cur cur' 27 (0, 0) H1.out, HS'.out.trans H2.out, fun j u hu => ?_⟩, by rw [hdl]; omega⟩
          rw [← hd, kvCells_take] at hu
          have hj : j < i * 3 := by
            rcases Nat.lt_or_ge j (i * 3) with h | h
            · exact h
            · rw [List.getElem?_eq_none (by rw [List.length_take]; omega)] at hu; cases hu
          rw [List.getElem?_take_of_lt hj] at hu
          rw [HC'.out j hj]
          exact H3.out j u hu
        · refine Eq.trans ?_ (hT.block q hq hn)
          simp only [World.setRow, Array.getElem?_modify]
          rw [if_neg (fun e => hn e.symm)]
  · have hall : ks.filter (fun k => !isUnB l f k.tn) = ks := List.filter_eq_self.2 (fun k hk => by rw [hno k hk]; rfl)
    have HALL := hid hall
    have HB1 := hid hb1
    clear hall hno hb1 HI
    go_wp2
    go_ret
    rw [HALL.out]
    exact ⟨rfl, HR.out.keep (HB1.out.block g hglt), Turned.of_below HB1.out _⟩
end Go.Proofs.YtgcnjpiiofjljaaGreatDoor
/- What unite of package canon makes of loose forms: units left out, the others laid one behind the other. -/
namespace Go.Proofs.YtgcnjpiiofjljaaGreatDoor
open Go.RowKit Go.Deep

theorem map_filter_un (l : List Sym) (f : Int) : ∀ ks : List Kv, (ks.filter fun k => !isUnB l f k.tn).map Kv.tn = (ks.map Kv.tn).filter fun r => !isUn (sgOf l) f r
  | [] => rfl
  | k :: r => by
    rw [List.map_cons, List.filter_cons, List.filter_cons, isUnB_eq]
    cases h : isUn (sgOf l) f k.tn <;> simp [map_filter_un l f r]
theorem loosE_const (w : World) (A : Bl) (u : Int) : LoosE w A ⟨(noB, u), .nil, none, 0⟩ := ⟨⟨⟨by show noB.size ≤ maxLen; decide, Nat.le_refl _, Nat.zero_le _, by simp [lenF]⟩, .inl rfl⟩, fun _ => .inl ⟨rfl, rfl, rfl⟩⟩

set_option maxRecDepth 100000 in
set_option maxHeartbeats 2000000 in
theorem unite_any (S : Option Addr) (n cap : Nat) (l : List Sym) (f : Int) (ks : List Kv) (g c B : Nat) (A : Bl) (w : World) (hS : SigLow B w S n l) (hB : B ≤ w.heap.size) (hA : ∀ q, A q → B ≤ q) (hgB : B ≤ g) (hg : ¬ A g) (hrow : RowL w g c ks) (hks : GL LoosE w ks A) (hk : kindK l f ≠ 1) (hsz : sizes (ks.map Kv.tn) ≤ 1048576) (hc : c ≤ maxLen) :
    Calls Tryz.prog 106 #[.agg (headV S n cap l f), .slice (some ⟨g, 0, none⟩) ks.length c] w fun e w' => ∃ k : Kv, e = .returned (.agg #[.string k.x.1, .int .i64 k.x.2, .slice k.a (lenF k.l) k.c]) ∧
      ((((ks.map Kv.tn).filter fun r => !isUn (sgOf l) f r) = [] ∧ k.tn = constT (unitI l f)) ∨ (((ks.map Kv.tn).filter fun r => !isUn (sgOf l) f r) ≠ [] ∧ FlatOut (sgOf l) f ((ks.map Kv.tn).filter fun r => !isUn (sgOf l) f r) k.tn)) ∧
      LoosE w' (fun q => (A q ∨ q = g) ∨ w.heap.size ≤ q) k ∧ Turned (fun q => A q ∨ q = g) w w' := by
  have HS := hid hS
  have HA := hid hA
  have HG := hid hg
  have HR := hid hrow
  have HKS : Hid (GL LoosE w ks (fun q => A q ∧ q < w.heap.size)) := hks.within loosE
  have HSZ := hid hsz
  have HK := hid hk
  have hlen : ks.length ≤ 1048576 := by have := psizes_len (ks.map Kv.tn); rw [List.length_map] at this; omega
  have hmax : maxLen = 9223372036854775807 := rfl
  have hglt := hrow.lt
  obtain ⟨ms, hms⟩ : ∃ ms, (ks.filter fun k => !isUnB l f k.tn) = ms := ⟨_, rfl⟩
  have HMS := hid hms
  have HMM : Hid (ms.map Kv.tn = (ks.map Kv.tn).filter fun r => !isUn (sgOf l) f r) := by show _ = _; rw [← hms]; exact map_filter_un l f ks
  have hmc : ms.length ≤ c := by rw [← hms]; exact Nat.le_trans (List.length_filter_le _ _) hrow.len
  have hml : ms.length ≤ 1048576 := by rw [← hms]; exact Nat.le_trans (List.length_filter_le _ _) hlen
  clear hS hA hg hrow hks hsz hk hms
  obtain ⟨hv, hhv⟩ : ∃ hv, headV S n cap l f = hv := ⟨_, rfl⟩
  have hv' := hhv
  unfold headV at hv'
  have HB0 : Hid (Below w.heap.size w ((w.alloc (.cells hv 90)).alloc (.cells #[.string ⟨#[]⟩, .int .i64 0, .slice none 0 0] 27))) := ((Below.refl _ w).alloc (Nat.le_refl _) _).alloc (by simp) _
  have HF0 : Hid (Box ((w.alloc (.cells hv 90)).alloc (.cells #[.string ⟨#[]⟩, .int .i64 0, .slice none 0 0] 27)) w.heap.size 90 hv) := (Box.new w 90 _).below ((Below.refl _ _).alloc (Nat.le_refl _) _)
  have HX0 : Hid (XBox ((w.alloc (.cells hv 90)).alloc (.cells #[.string ⟨#[]⟩, .int .i64 0, .slice none 0 0] 27)) (w.heap.size + 1) (⟨#[]⟩, 0) (.slice none 0 0)) := by
    have := World.alloc_heap_new (w.alloc (.cells hv 90)) (.cells #[.string ⟨#[]⟩, .int .i64 0, .slice none 0 0] 27)
    rw [World.size_alloc] at this
    exact this
  have HD : Hid (Calls Tryz.prog 119 #[.slice (some ⟨g, 0, none⟩) ks.length c, .func (.func 120) #[.agg hv] #[]] ((w.alloc (.cells hv 90)).alloc (.cells #[.string ⟨#[]⟩, .int .i64 0, .slice none 0 0] 27)) fun e w' => e = .returned (.slice (some ⟨g, 0, none⟩) ms.length c) ∧ RowL w' g c ms ∧ Turned (fun q => q = g) ((w.alloc (.cells hv 90)).alloc (.cells #[.string ⟨#[]⟩, .int .i64 0, .slice none 0 0] 27)) w') := by
    have := delete_any S n cap l f ks g c (fun q => A q ∧ q < w.heap.size) ((w.alloc (.cells hv 90)).alloc (.cells #[.string ⟨#[]⟩, .int .i64 0, .slice none 0 0] 27)) (HR.out.keep (HB0.out.block g hglt)) (HKS.out.keep loosE (fun q _ hq => HB0.out.block q hq)) (fun h => HG.out h.1) hlen hc
    rw [HMS.out, hhv] at this
    exact this
  have arm : Hid (∀ w1, Turned (fun q => q = g) ((w.alloc (.cells hv 90)).alloc (.cells #[.string ⟨#[]⟩, .int .i64 0, .slice none 0 0] 27)) w1 → RowL w1 g c ms →
      (Turned (fun q => A q ∨ q = g) w w1 ∧ w.heap.size + 2 ≤ w1.heap.size) ∧ Box w1 w.heap.size 90 hv ∧ XBox w1 (w.heap.size + 1) (⟨#[]⟩, 0) (.slice none 0 0) ∧
      Calls Tryz.prog 105 #[.agg hv, .slice (some ⟨g, 0, none⟩) ms.length c] w1 fun e w' => ∃ k : Kv, e = .returned (.agg #[.string k.x.1, .int .i64 k.x.2, .slice k.a (lenF k.l) k.c]) ∧ FlatOut (sgOf l) f (ms.map Kv.tn) k.tn ∧ LoosE w' (fun q => (A q ∧ q < w.heap.size) ∨ w1.heap.size ≤ q) k ∧ Turned (fun q => A q ∧ q < w.heap.size) w1 w') := fun w1 ht hr => by
    have h1 := HF0.out.lt
    have h2 := HX0.out.lt
    have h3 := ht.size
    have hT : Turned (fun q => A q ∨ q = g) w w1 := (Turned.of_below HB0.out _).then ht (fun q _ hq => .inr hq)
    have hBl : Below B w w1 := hT.below (fun q hq => by rcases hq with h | rfl; exact HA.out q h; exact hgB) hB
    refine ⟨⟨hT, by omega⟩, (ht.block _ h1 (by omega)).trans HF0.out, (ht.block _ h2 (by omega)).trans HX0.out, ?_⟩
    have := flatten_any S n cap l f ms (some ⟨g, 0, none⟩) c B (fun q => A q ∧ q < w.heap.size) w1 (HS.out.below hBl) (Nat.le_trans hB hT.size) (fun q hq => HA.out q hq.1) (fun W hW => (hr.keep (hW.block g (by have := hr.lt; omega) (fun h => HG.out h.1))).at_) (by
      rw [← HMS.out]
      exact (HKS.out.filter _).keep loosE (fun q hq hlt => (ht.block q (by simp; omega) (fun e => HG.out (e ▸ hq.1))).trans (HB0.out.block q hlt))) HK.out (by
      rw [HMM.out]
      exact Nat.le_trans (sizes_filter _ _) HSZ.out)
    rw [hhv] at this
    exact this
  rw [hhv]
  clear hhv
  subst hv'
  go_enter Tryz.func106, Tryz.ntmps106
  go_wp2_with fail
  refine HD.out.mono ?_
  rintro e w1 ⟨rfl, hr1, ht1⟩
  obtain ⟨⟨hT, hsz1⟩, hfb, hxb, hC⟩ := arm.out w1 ht1 hr1
  have HT := hid hT
  have HC := hid hC
  have HX := hid hxb
  have q0 := hfb.c 0; have q1 := hfb.c 1; have q2 := hfb.c 2; have q3 := hfb.c 3; have q4 := hfb.c 4
  have r0 := hxb.c0; have r1 := hxb.c1; have r2 := hxb.c2
  have g0 := hxb.f (k := 0); have g1 := hxb.f (k := 1); have g2 := hxb.f (k := 2)
  clear hT hC hfb hxb arm HD HF0 HX0 HB0 ht1 hr1
  by_cases h0 : ms.length = 0
  · have hm0 : ms = [] := List.length_eq_zero_iff.1 h0
    have HM0 := hid hm0
    have hz : ((ms.length : Int) == 0) = true := by simp [h0]
    clear hm0 h0
    go_wp2
    refine bodyPost_ret (results_cell_row rfl _ _ (w.heap.size + 1) 27 #[.string ⟨#[]⟩, .int .i64 (unitI l f), .slice none 0 0] (0, 0) _ rfl (HX.out.all (x := (⟨#[]⟩, unitI l f)) _) Tryz.underlying27 rfl Tryz.size27) rfl ?_
    refine ⟨⟨(noB, unitI l f), .nil, none, 0⟩, rfl, .inl ⟨?_, rfl⟩, loosE_const _ _ _, ?_⟩
    · rw [← HMM.out, HM0.out]; rfl
    · have hT := HT.out
      exact ⟨hT.os, hT.tape, hT.output, by have := hT.size; simp; omega, fun q hq hn => (sets_far (by omega) _ _ _).trans (hT.block q hq hn)⟩
  · have HM0 := hid h0
    have hz : ((ms.length : Int) == 0) = false := by simpa using h0
    clear h0
    go_wp2_with (go_at_call 105; refine HC.out.mono ?_; rintro e w2 ⟨k, rfl, hfl, hE, ht2⟩; have HFL := hid hfl; have HE := hid hE; have HT2 := hid ht2; have hxb := HX.out; have HX2 : XBox w2 (w.heap.size + 1) (⟨#[]⟩, 0) (.slice none 0 0) := (ht2.block _ (by omega) (fun h => by have := h.2; omega)).trans hxb; have y0 := HX2.c0; have y1 := HX2.c1; have y2 := HX2.c2; have z0 := HX2.f (k := 0); have z1 := HX2.f (k := 1); have z2 := HX2.f (k := 2); have HXX := hid HX2; clear hfl hE ht2 hxb HX2 q0 q1 q2 q3 q4 r0 r1 r2 g0 g1 g2)
    refine bodyPost_ret (results_cell_row rfl _ _ (w.heap.size + 1) 27 #[.string k.x.1, .int .i64 k.x.2, .slice k.a (lenF k.l) k.c] (0, 0) _ rfl (HXX.out.all (x := k.x) _) Tryz.underlying27 rfl Tryz.size27) rfl ?_
    refine ⟨k, rfl, .inr ⟨?_, ?_⟩, ?_, ?_⟩
    · rw [← HMM.out]
      intro e
      have := congrArg List.length e
      rw [List.length_map] at this
      exact HM0.out this
    · rw [← HMM.out]; exact HFL.out
    · refine loosE.mono (fun q hq => ?_) (loosE.keep (fun q hq _ => sets_far ?_ _ _ _) HE.out)
      · rcases hq with h | h
        · exact .inl (.inl h.1)
        · exact .inr (by omega)
      · rcases hq with h | h <;> omega
    · have hT : Turned (fun q => A q ∨ q = g) w w2 := HT.out.then HT2.out (fun q _ hq => .inl hq.1)
      exact ⟨hT.os, hT.tape, hT.output, by have := hT.size; simp; omega, fun q hq hn => (sets_far (by omega) _ _ _).trans (hT.block q hq hn)⟩
end Go.Proofs.YtgcnjpiiofjljaaGreatDoor
/- What lay of package canon makes: a symbol's term of loose forms. -/
namespace Go.Proofs.YtgcnjpiiofjljaaGreatDoor
open Go.RowKit Go.Deep

def laysV : Array Value := #[.nilFunc, .func (.func 104) #[] #[], .func (.func 105) #[] #[], .func (.func 106) #[] #[]]
theorem Tryz.size112 : (Tryz.prog.info? 112).map (·.size) = some 4 := by kernel_rfl
set_option maxRecDepth 100000 in
theorem layings_any (w : World) : Calls Tryz.prog 81 #[] w fun e w' => e = .returned (.agg laysV) ∧ Below w.heap.size w w' := by
  go_enter Tryz.func81, Tryz.ntmps81
  go_wp2
  refine bodyPost_ret (results_cell_row rfl _ _ w.heap.size 112 laysV (0, 0) _ rfl (World.alloc_heap_new w _) Tryz.underlying112 rfl Tryz.size112) rfl ?_
  exact ⟨rfl, (Below.refl _ w).alloc (Nat.le_refl _) _⟩

theorem idx1 (W : World) : (Instr.index 112 (.agg #[.nilFunc, .func (.func 104) #[] #[], .func (.func 105) #[] #[], .func (.func 106) #[] #[]]) (.int .i64 1)).run Tryz.prog W = .ok (.func (.func 104) #[] #[]) W := by kernel_rfl
theorem idx2 (W : World) : (Instr.index 112 (.agg #[.nilFunc, .func (.func 104) #[] #[], .func (.func 105) #[] #[], .func (.func 106) #[] #[]]) (.int .i64 2)).run Tryz.prog W = .ok (.func (.func 105) #[] #[]) W := by kernel_rfl
theorem idx3 (W : World) : (Instr.index 112 (.agg #[.nilFunc, .func (.func 104) #[] #[], .func (.func 105) #[] #[], .func (.func 106) #[] #[]]) (.int .i64 3)).run Tryz.prog W = .ok (.func (.func 106) #[] #[]) W := by kernel_rfl

def LooseOk (S : Option Addr) (n cap : Nat) (l : List Sym) (N : Nat) : Prop := ∀ (t : Tn) (a : Option Addr) (c : Nat) (w : World), nodesF t.2 ≤ N → SigAt w S n l → TmAt w t.1 a c t.2 →
  Calls Tryz.prog 40 #[.slice S n cap, .agg #[.string t.1.1, .int .i64 t.1.2, .slice a (lenF t.2) c]] w fun e w' => ∃ k : Kv, e = .returned (.agg #[.string k.x.1, .int .i64 k.x.2, .slice k.a (lenF k.l) k.c]) ∧ LooseR (sgOf l) (arAt l) t k.tn ∧ LoosE w' (fun q => w.heap.size ≤ q) k ∧ Below w.heap.size w w'

/-- Where lay stands before the term j. -/
structure LaySt (S : Sg) (ar : Int → Nat) (w : World) (hv : Array Value) (F : Fo) (j : Nat) (ks : List Kv) (W : World) : Prop where
  low : Below w.heap.size w W
  row : ∃ cur, W.heap[w.heap.size + 1 + 1]? = some (Obj.cells cur 27 (0, 0)) ∧ cur.size = lenF F * 3 ∧ ∀ (i : Nat) (u : Value), (kvCells ks)[i]? = some u → cur[i]? = some u
  gl : GL LoosE W ks (fun q => w.heap.size + 1 + 1 < q ∧ q < W.heap.size)
  fbox : Box W w.heap.size 90 hv
  rbox : XBox W (w.heap.size + 1) (⟨#[]⟩, 0) (.slice none 0 0)
  done : All2 (LooseR S ar) ((kidsL F).take j) (ks.map Kv.tn)
  len : ks.length = j
theorem LaySt.cell {S : Sg} {ar : Int → Nat} {w W : World} {hv : Array Value} {F : Fo} {j : Nat} {ks : List Kv} (h : LaySt S ar w hv F j ks W) {W' : World} (hb : Below W.heap.size W W') {i : Nat} (hi : i < lenF F * 3) : ∃ v, W'.cell? ⟨w.heap.size + 1 + 1, i, none⟩ = some v := by
  obtain ⟨cur, h1, h2, _⟩ := h.row
  have h1' := (hb.block _ (Array.getElem?_eq_some_iff.1 h1).1).trans h1
  exact ⟨cur[i]'(by omega), by rw [cell_of_row W' _ i cur 27 (0, 0) h1']; simp [show i < cur.size by omega]⟩
theorem LaySt.frozen {S : Sg} {ar : Int → Nat} {w W : World} {hv : Array Value} {F : Fo} {j : Nat} {ks : List Kv} (h : LaySt S ar w hv F j ks W) {W' : World} (hb : Below W.heap.size W W') (i : Nat) : W'.frozen? ⟨w.heap.size + 1 + 1, i, none⟩ = false := by
  obtain ⟨cur, h1, _⟩ := h.row
  have h1' := (hb.block _ (Array.getElem?_eq_some_iff.1 h1).1).trans h1
  simp [World.frozen?, h1']
theorem LaySt.step {S : Sg} {ar : Int → Nat} {w W w1 : World} {hv : Array Value} {F : Fo} {j : Nat} {ks : List Kv} {t : Tn} {kv : Kv} (h : LaySt S ar w hv F j ks W) (hb : Below W.heap.size W w1) (hE : LoosE w1 (fun q => W.heap.size ≤ q) kv) (hj : (kidsL F)[j]? = some t) (hR : LooseR S ar t kv.tn) :
    LaySt S ar w hv F (j + 1) (ks ++ [kv]) (((w1.setCell ⟨w.heap.size + 1 + 1, j * 3, none⟩ (.string kv.x.1)).setCell ⟨w.heap.size + 1 + 1, j * 3 + 1, none⟩ (.int .i64 kv.x.2)).setCell ⟨w.heap.size + 1 + 1, j * 3 + 2, none⟩ (.slice kv.a (lenF kv.l) kv.c)) := by
  obtain ⟨cur, h1, h2, h3⟩ := h.row
  have hlen := h.len
  have hjl : j < lenF F := by have := (List.getElem?_eq_some_iff.1 hj).1; rwa [kids_len] at this
  have hglt : w.heap.size + 1 + 1 < W.heap.size := (Array.getElem?_eq_some_iff.1 h1).1
  have h1' : w1.heap[w.heap.size + 1 + 1]? = some (Obj.cells cur 27 (0, 0)) := (hb.block _ hglt).trans h1
  have far : ∀ q, q ≠ w.heap.size + 1 + 1 → (((w1.setCell ⟨w.heap.size + 1 + 1, j * 3, none⟩ (.string kv.x.1)).setCell ⟨w.heap.size + 1 + 1, j * 3 + 1, none⟩ (.int .i64 kv.x.2)).setCell ⟨w.heap.size + 1 + 1, j * 3 + 2, none⟩ (.slice kv.a (lenF kv.l) kv.c)).heap[q]? = w1.heap[q]? := fun q hq => sets_far3 hq _ _ _
  have hbs := hb.size
  have hlow : Below w.heap.size w w1 := h.low.trans (hb.mono (by omega))
  refine ⟨⟨hlow.os, hlow.tape, hlow.output, by have := hlow.size; simpa using this, fun q hq => (far q (by omega)).trans (hlow.block q hq)⟩, ⟨_, block_set (block_set (block_set h1' _) _) _, by simp [h2], ?_⟩, ?_, (far _ (by omega)).trans ((hb.block _ (by omega)).trans h.fbox), (far _ (by omega)).trans ((hb.block _ (by omega)).trans h.rbox), ?_, by simp [hlen]⟩
  · intro i u hu
    rw [kvCells_snoc] at hu
    have hl := kvCells_len ks
    have hkl : kv.cells.length = 3 := rfl
    have hi : i < ks.length * 3 + 3 := by
      rcases Nat.lt_or_ge i (ks.length * 3 + 3) with h' | h'
      · exact h'
      · rw [List.getElem?_eq_none (by rw [List.length_append]; omega)] at hu; cases hu
    simp only [Array.getElem?_setIfInBounds, Array.size_setIfInBounds]
    by_cases hc : i < ks.length * 3
    · rw [List.getElem?_append_left (by omega)] at hu
      rw [if_neg (by omega), if_neg (by omega), if_neg (by omega)]
      exact h3 i u hu
    · rw [List.getElem?_append_right (by omega), hl] at hu
      have hcase : i = j * 3 ∨ i = j * 3 + 1 ∨ i = j * 3 + 2 := by omega
      rcases hcase with e | e | e
      · subst e
        rw [if_neg (by omega), if_neg (by omega), if_pos rfl, if_pos (by omega)]
        rw [show j * 3 - ks.length * 3 = 0 by omega] at hu
        simpa [Kv.cells] using hu
      · subst e
        rw [if_neg (by omega), if_pos rfl, if_pos (by omega)]
        rw [show j * 3 + 1 - ks.length * 3 = 1 by omega] at hu
        simpa [Kv.cells] using hu
      · subst e
        rw [if_pos rfl, if_pos (by omega)]
        rw [show j * 3 + 2 - ks.length * 3 = 2 by omega] at hu
        simpa [Kv.cells] using hu
  · have h5 : GL LoosE w1 ks (fun q => w.heap.size + 1 + 1 < q ∧ q < W.heap.size) := h.gl.keep loosE (fun q hq hlt => hb.block q hlt)
    have h6 := GL.snoc h5 (loosE.within hE) (fun q hq h' => by have := hq.2; have := h'.1; omega)
    have hsz : (((w1.setCell ⟨w.heap.size + 1 + 1, j * 3, none⟩ (.string kv.x.1)).setCell ⟨w.heap.size + 1 + 1, j * 3 + 1, none⟩ (.int .i64 kv.x.2)).setCell ⟨w.heap.size + 1 + 1, j * 3 + 2, none⟩ (.slice kv.a (lenF kv.l) kv.c)).heap.size = w1.heap.size := by simp
    rw [hsz]
    refine (h6.keep loosE (fun q hq _ => far q ?_)).mono (fun q hq => ?_)
    · rcases hq with hq | hq
      · have := hq.1; omega
      · have := hq.1; omega
    · rcases hq with hq | hq
      · exact ⟨hq.1, by omega⟩
      · exact ⟨by have := hq.1; omega, hq.2⟩
  · rw [take_snoc hj, List.map_append]
    exact h.done.snoc hR

set_option maxRecDepth 100000 in
set_option maxHeartbeats 4000000 in
theorem lay_of (S : Option Addr) (n cap : Nat) (l : List Sym) (N : Nat) (hN : N ≤ 1048576) (ih : ∀ j, j < N → LooseOk S n cap l j) (f : Int) (F : Fo) (a : Option Addr) (c : Nat) (w : World) (hF : nodesF F ≤ N) (hS : SigAt w S n l) (hA : ArgsAt w a F) :
    Calls Tryz.prog 60 #[.agg (headV S n cap l f), .slice a (lenF F) c] w fun e w' => ∃ (k : Kv) (rs : List Tn), e = .returned (.agg #[.string k.x.1, .int .i64 k.x.2, .slice k.a (lenF k.l) k.c]) ∧ All2 (LooseR (sgOf l) (arAt l)) (kidsL F) rs ∧ LayR (sgOf l) (kindK l f) f (unitI l f) rs k.tn ∧ LoosE w' (fun q => w.heap.size ≤ q) k ∧ Below w.heap.size w w' := by
  have HS := hid hS
  have HA := hid hA
  have IH := hid ih
  have hlen : lenF F ≤ 1048576 := by have := len_nodes F; omega
  obtain ⟨i0, hi, hz0, hz1, hz2⟩ := info_parts Tryz.info27
  have hmax : maxLen = 9223372036854775807 := rfl
  clear hS hA ih
  obtain ⟨hv, hhv⟩ : ∃ hv, headV S n cap l f = hv := ⟨_, rfl⟩
  have HHV := hid hhv
  have hv' := hhv
  unfold headV at hv'
  have HB0 : Hid (Below w.heap.size w ((w.alloc (.cells hv 90)).alloc (.cells #[.string ⟨#[]⟩, .int .i64 0, .slice none 0 0] 27))) := ((Below.refl _ w).alloc (Nat.le_refl _) _).alloc (by simp) _
  have HF0 : Hid (Box ((w.alloc (.cells hv 90)).alloc (.cells #[.string ⟨#[]⟩, .int .i64 0, .slice none 0 0] 27)) w.heap.size 90 hv) := (Box.new w 90 _).below ((Below.refl _ _).alloc (Nat.le_refl _) _)
  have HX0 : Hid (XBox ((w.alloc (.cells hv 90)).alloc (.cells #[.string ⟨#[]⟩, .int .i64 0, .slice none 0 0] 27)) (w.heap.size + 1) (⟨#[]⟩, 0) (.slice none 0 0)) := by
    have := World.alloc_heap_new (w.alloc (.cells hv 90)) (.cells #[.string ⟨#[]⟩, .int .i64 0, .slice none 0 0] 27)
    rw [World.size_alloc] at this
    exact this
  rw [hhv]
  clear hhv
  subst hv'
  go_enter Tryz.func60, Tryz.ntmps60
  go_wp2_with (at_make; refine wpList_make_full _ rfl _ _ 25 rfl 0 27 i0 (.agg #[.string ⟨#[]⟩, .int .i64 0, .slice none 0 0]) 3 Tryz.underlying25 hi hz0 hz1 .i64 .i64 _ _ (lenF F) rfl rfl rfl rfl (by rw [hz2]; omega) (by omega) (Nat.zero_le _) ?_; intro w0 hown0 hgrow0)
  have ST0 : Hid (LaySt (sgOf l) (arAt l) w #[.slice S n cap, .int .i64 f, .int .i64 (kindK l f), .int .i64 (unitI l f), .bool (unitOk l f)] F 0 [] w0) := by
    have hg0 : ∀ q, q < w.heap.size + 1 + 1 → w0.heap[q]? = ((w.alloc (.cells #[.slice S n cap, .int .i64 f, .int .i64 (kindK l f), .int .i64 (unitI l f), .bool (unitOk l f)] 90)).alloc (.cells #[.string ⟨#[]⟩, .int .i64 0, .slice none 0 0] 27)).heap[q]? := fun q hq => hgrow0.block q (by simp; omega) (by simp)
    refine ⟨HB0.out.grown hgrow0 (by simp; omega) (fun k e => by cases e), ?_, trivial, (hg0 _ (by omega)).trans HF0.out, (hg0 _ (by omega)).trans HX0.out, trivial, rfl⟩
    rcases hown0.2 with ⟨hv, _⟩ | ⟨g', cap', cur, hv, _, hh, _, _, hcs, _⟩
    · cases hv
    · cases hv
      rw [World.size_alloc, World.size_alloc] at hh
      exact ⟨cur, hh, hcs, fun i u hu => by simp [kvCells] at hu⟩
  clear hown0 hgrow0 HB0 HF0 HX0
  go_loopw [6, 7, 13] (fun _ _ i wr => ∃ (j : Nat) (ks : List Kv), j ≤ lenF F ∧ i = .int .i64 j ∧ LaySt (sgOf l) (arAt l) w #[.slice S n cap, .int .i64 f, .int .i64 (kindK l f), .int .i64 (unitI l f), .bool (unitOk l f)] F j ks wr) (fun _ _ i _ => lenF F - (intOf i).toNat)
  case atStart => exact ⟨0, [], Nat.zero_le _, rfl, ST0.out⟩
  case round =>
    obtain ⟨j, ks, hj, rfl, hst⟩ := hrel
    have ST := hid hst
    clear hst ST0
    by_cases hlt : j < lenF F
    · obtain ⟨bb, oo, rfl, hkk⟩ := HA.out.get (by omega)
      obtain ⟨y, a1, c1, l1, kd⟩ := hkk.kid (k := j) hlt
      have kd' := kd.below ST.out.low
      have p0 := kd'.name; have p1 := kd'.sym; have p2 := kd'.list
      have hb1 : Below wr.heap.size wr (wr.alloc (.cells #[.string y.1, .int .i64 y.2, .slice a1 (lenF l1) c1] 27)) := (Below.refl _ _).alloc (Nat.le_refl _) _
      have hjk : (kidsL F)[j]? = some (y, l1) := by
        obtain ⟨B1, O1, sp⟩ := kd.split
        have h1 := kids_drop j F
        rw [sp, kidsL] at h1
        have := congrArg (·[0]?) h1
        simpa using this.symm
      have hC := IH.out (nodesF l1) (by have := kd.less; omega) (y, l1) a1 c1 _ (Nat.le_refl _) (HS.out.below (ST.out.low.trans (hb1.mono ST.out.low.size))) (kd'.at_.below hb1)
      have q0 : (wr.alloc (.cells #[.string y.1, .int .i64 y.2, .slice a1 (lenF l1) c1] 27)).cell? ⟨w.heap.size, 0, none⟩ = some (.slice S n cap) := (ST.out.fbox.below hb1).c 0
      have HJK := hid hjk
      have HB1 := hid hb1
      have HC : Hid (Calls Tryz.prog 40 #[.slice S n cap, .agg #[.string y.1, .int .i64 y.2, .slice a1 (lenF l1) c1]] (wr.alloc (.cells #[.string y.1, .int .i64 y.2, .slice a1 (lenF l1) c1] 27)) fun e w' => ∃ k : Kv, e = .returned (.agg #[.string k.x.1, .int .i64 k.x.2, .slice k.a (lenF k.l) k.c]) ∧ LooseR (sgOf l) (arAt l) (y, l1) k.tn ∧ LoosE w' (fun q => (wr.alloc (.cells #[.string y.1, .int .i64 y.2, .slice a1 (lenF l1) c1] 27)).heap.size ≤ q) k ∧ Below (wr.alloc (.cells #[.string y.1, .int .i64 y.2, .slice a1 (lenF l1) c1] 27)).heap.size (wr.alloc (.cells #[.string y.1, .int .i64 y.2, .slice a1 (lenF l1) c1] 27)) w') := hC
      clear kd kd' hb1 hjk hC hkk
      go_wp2_with (first
        | (go_at_call 40; refine HC.out.mono ?_; rintro e w2 ⟨kv, rfl, hR, hE, hb2⟩; have HR := hid hR; have HW2 := hid (HB1.out.trans (hb2.mono HB1.out.size)); have HE : Hid (LoosE w2 (fun q => wr.heap.size ≤ q) kv) := loosE.mono (fun q hq => by rw [World.size_alloc] at hq; omega) hE; obtain ⟨u0, v0⟩ := ST.out.cell HW2.out (i := j * 3) (by omega); obtain ⟨u1, v1⟩ := ST.out.cell HW2.out (i := j * 3 + 1) (by omega); obtain ⟨u2, v2⟩ := ST.out.cell HW2.out (i := j * 3 + 2) (by omega); have f0 := ST.out.frozen HW2.out (j * 3); have f1 := ST.out.frozen HW2.out (j * 3 + 1); have f2 := ST.out.frozen HW2.out (j * 3 + 2); clear hR hE hb2 p0 p1 p2 q0)
        | fail)
      go_roundw
      case rel => exact ⟨j + 1, _, by omega, by go_num, ST.out.step HW2.out HE.out HJK.out HR.out⟩
      case measure => simp [intOf]; omega
    · have ej : j = lenF F := by omega
      subst ej
      have hkl : ks.length = lenF F := ST.out.len
      have hdone : All2 (LooseR (sgOf l) (arAt l)) (kidsL F) (ks.map Kv.tn) := by
        have := ST.out.done
        rwa [List.take_of_length_le (by rw [kids_len]; exact Nat.le_refl _)] at this
      have HDN := hid hdone
      have hss : sizes (ks.map Kv.tn) ≤ 1048576 := by
        have := loose_sizes hdone
        rw [← nodes_sizes] at this
        omega
      have hwl : w.heap.size + 1 + 1 < wr.heap.size := by
        obtain ⟨cur, h1, _⟩ := ST.out.row
        exact (Array.getElem?_eq_some_iff.1 h1).1
      have hRow : ∀ W, Below wr.heap.size wr W → RowL W (w.heap.size + 1 + 1) (lenF F) ks := fun W hb => by
        obtain ⟨cur, h1, h2, h3⟩ := ST.out.row
        exact ⟨⟨cur, (hb.block _ hwl).trans h1, h2, h3⟩, by omega⟩
      have hGl : ∀ W, Below wr.heap.size wr W → GL LoosE W ks (fun q => w.heap.size + 1 + 1 < q ∧ q < wr.heap.size) := fun W hb => ST.out.gl.keep loosE (fun q _ hq => hb.block q hq)
      have hSig : ∀ W, Below wr.heap.size wr W → SigLow (w.heap.size + 1 + 1) W S n l := fun W hb W' hW' => HS.out.below ((ST.out.low.trans (hb.mono (by omega))).trans (hW'.mono (by omega)))
      have fin : ∀ W w' (kv : Kv), Below wr.heap.size wr W → LoosE w' (fun q => ((w.heap.size + 1 + 1 < q ∧ q < wr.heap.size) ∨ q = w.heap.size + 1 + 1) ∨ W.heap.size ≤ q) kv → Turned (fun q => (w.heap.size + 1 + 1 < q ∧ q < wr.heap.size) ∨ q = w.heap.size + 1 + 1) W w' → LoosE w' (fun q => w.heap.size + 1 + 1 ≤ q) kv ∧ Below (w.heap.size + 1 + 1) W w' := fun W w' kv hb hE hT => ⟨loosE.mono (fun q hq => by
        have := hb.size
        rcases hq with (h | h) | h <;> omega) hE, hT.below (fun q hq => by rcases hq with h | h <;> omega) (by have := hb.size; omega)⟩
      have fb := ST.out.fbox
      have HXX := hid ST.out.rbox
      have HLOW := hid ST.out.low
      have q0 := fb.c 0; have q1 := fb.c 1; have q2 := fb.c 2; have q3 := fb.c 3; have q4 := fb.c 4
      have r0 := HXX.out.c0; have r1 := HXX.out.c1; have r2 := HXX.out.c2
      have g0 := HXX.out.f (k := 0); have g1 := HXX.out.f (k := 1); have g2 := HXX.out.f (k := 2)
      have HFB := hid fb
      clear fb
      rcases (show kindK l f = 1 ∨ kindK l f = 2 ∨ kindK l f = 3 by have := kindK_range l f; omega) with hk | hk | hk
      · have HC : Hid (∀ W, Below wr.heap.size wr W → Calls Tryz.prog 104 #[.agg #[.slice S n cap, .int .i64 f, .int .i64 1, .int .i64 (unitI l f), .bool (unitOk l f)], .slice (some ⟨w.heap.size + 1 + 1, 0, none⟩) (lenF F) (lenF F)] W fun e w' => ∃ kv : Kv, e = .returned (.agg #[.string kv.x.1, .int .i64 kv.x.2, .slice kv.a (lenF kv.l) kv.c]) ∧ LayR (sgOf l) 1 f (unitI l f) (ks.map Kv.tn) kv.tn ∧ LoosE w' (fun q => w.heap.size + 1 + 1 ≤ q) kv ∧ Below (w.heap.size + 1 + 1) W w') := fun W hb => by
          have hWs := hb.size
          have := keep_any S n cap l f ks (w.heap.size + 1 + 1) (lenF F) (w.heap.size + 1 + 1) (fun q => w.heap.size + 1 + 1 < q ∧ q < wr.heap.size) W (hSig W hb) (by omega) (fun q hq => by have := hq.1; omega) (Nat.le_refl _) (fun h => absurd h.1 (Nat.lt_irrefl _)) (hRow W hb) (hGl W hb) hss (by omega)
          rw [HHV.out, hk, hkl] at this
          refine this.mono ?_
          rintro e w' ⟨kv, rfl, hf, hE, hT⟩
          obtain ⟨f1, f2⟩ := fin W w' kv hb hE hT
          exact ⟨kv, rfl, by unfold LayR; rw [if_pos rfl]; exact hf, f1, f2⟩
        rw [hk] at q2 HFB ⊢
        clear hRow hGl hSig fin hdone hss HHV
        have hix := idx1
        go_wp2_with fail
        go_region_held3 (fun w' => w'.cell? ⟨w.heap.size, 0, none⟩ = some (.slice S n cap) ∧ w'.cell? ⟨w.heap.size, 1, none⟩ = some (.int .i64 f) ∧ w'.cell? ⟨w.heap.size, 2, none⟩ = some (.int .i64 1) ∧ w'.cell? ⟨w.heap.size, 3, none⟩ = some (.int .i64 (unitI l f)) ∧ w'.cell? ⟨w.heap.size, 4, none⟩ = some (.bool (unitOk l f))) ((first | (go_split_ands; refine ⟨?_, ?_, ?_, ?_, ?_⟩ <;> (refine below_cell HB2.out _ _ ?_; assumption)) | (go_split_ands; refine ⟨?_, ?_, ?_, ?_, ?_⟩ <;> (refine (HB3.out.cell (by show w.heap.size < _; omega)).trans ?_; assumption)) | go_keep | fail)) ((first | (go_at_call 81; refine (layings_any _).mono ?_; rintro e w2 ⟨rfl, hb2⟩; have HB2 : Hid (Below wr.heap.size wr w2) := ((Below.refl _ wr).drew).trans hb2; clear hb2; unfold laysV) | (go_at_call 104; refine (HC.out _ HB2.out).mono ?_; rintro e w3 ⟨kv, rfl, hl3, hE3, hb3⟩; have HL3 := hid hl3; have HE3 := hid hE3; have HB3 := hid hb3; have HX3 : XBox w3 (w.heap.size + 1) (⟨#[]⟩, 0) (.slice none 0 0) := (hb3.block _ (by omega)).trans (HXX.out.below HB2.out); have y0 := HX3.c0; have y1 := HX3.c1; have y2 := HX3.c2; have z0 := HX3.f (k := 0); have z1 := HX3.f (k := 1); have z2 := HX3.f (k := 2); have HXX3 := hid HX3; clear hl3 hE3 hb3 HX3) | fail))
        all_goals go_wp2_with fail
        all_goals refine bodyPost_ret (results_cell_row rfl _ _ (w.heap.size + 1) 27 #[.string kv.x.1, .int .i64 kv.x.2, .slice kv.a (lenF kv.l) kv.c] (0, 0) _ rfl (HXX3.out.all (x := kv.x) _) Tryz.underlying27 rfl Tryz.size27) rfl ?_
        all_goals refine ⟨kv, ks.map Kv.tn, rfl, HDN.out, by rw [hk]; exact HL3.out, ?_, ?_⟩
        all_goals first
          | exact loosE.mono (fun q hq => by omega) (loosE.keep (fun q hq _ => sets_far (by omega) _ _ _) HE3.out)
          | exact sets_below ((HLOW.out.trans (HB2.out.mono (by omega))).trans (HB3.out.mono (by omega))) (by omega) _ _ _
      · have HC : Hid (∀ W, Below wr.heap.size wr W → Calls Tryz.prog 105 #[.agg #[.slice S n cap, .int .i64 f, .int .i64 2, .int .i64 (unitI l f), .bool (unitOk l f)], .slice (some ⟨w.heap.size + 1 + 1, 0, none⟩) (lenF F) (lenF F)] W fun e w' => ∃ kv : Kv, e = .returned (.agg #[.string kv.x.1, .int .i64 kv.x.2, .slice kv.a (lenF kv.l) kv.c]) ∧ LayR (sgOf l) 2 f (unitI l f) (ks.map Kv.tn) kv.tn ∧ LoosE w' (fun q => w.heap.size + 1 + 1 ≤ q) kv ∧ Below (w.heap.size + 1 + 1) W w') := fun W hb => by
          have hWs := hb.size
          have := flatten_any S n cap l f ks (some ⟨w.heap.size + 1 + 1, 0, none⟩) (lenF F) (w.heap.size + 1 + 1) (fun q => w.heap.size + 1 + 1 < q ∧ q < wr.heap.size) W (hSig W hb) (by omega) (fun q hq => by have := hq.1; omega) (fun W' hW' => ((hRow W hb).keep (hW'.block _ (by omega) (fun h => absurd h.1 (Nat.lt_irrefl _)))).at_) (hGl W hb) (by rw [hk]; decide) hss
          rw [HHV.out, hk, hkl] at this
          refine this.mono ?_
          rintro e w' ⟨kv, rfl, hf, hE, hT⟩
          obtain ⟨f1, f2⟩ := fin W w' kv hb (loosE.mono (fun q hq => by rcases hq with h | h; exact .inl (.inl h); exact .inr h) hE) (hT.mono (fun q _ hq => .inl hq))
          exact ⟨kv, rfl, by unfold LayR; rw [if_neg (by decide), if_pos rfl]; exact hf, f1, f2⟩
        rw [hk] at q2 HFB ⊢
        clear hRow hGl hSig fin hdone hss HHV
        have hix := idx2
        go_wp2_with fail
        go_region_held3 (fun w' => w'.cell? ⟨w.heap.size, 0, none⟩ = some (.slice S n cap) ∧ w'.cell? ⟨w.heap.size, 1, none⟩ = some (.int .i64 f) ∧ w'.cell? ⟨w.heap.size, 2, none⟩ = some (.int .i64 2) ∧ w'.cell? ⟨w.heap.size, 3, none⟩ = some (.int .i64 (unitI l f)) ∧ w'.cell? ⟨w.heap.size, 4, none⟩ = some (.bool (unitOk l f))) ((first | (go_split_ands; refine ⟨?_, ?_, ?_, ?_, ?_⟩ <;> (refine below_cell HB2.out _ _ ?_; assumption)) | (go_split_ands; refine ⟨?_, ?_, ?_, ?_, ?_⟩ <;> (refine (HB3.out.cell (by show w.heap.size < _; omega)).trans ?_; assumption)) | go_keep | fail)) ((first | (go_at_call 81; refine (layings_any _).mono ?_; rintro e w2 ⟨rfl, hb2⟩; have HB2 : Hid (Below wr.heap.size wr w2) := ((Below.refl _ wr).drew).trans hb2; clear hb2; unfold laysV) | (go_at_call 105; refine (HC.out _ HB2.out).mono ?_; rintro e w3 ⟨kv, rfl, hl3, hE3, hb3⟩; have HL3 := hid hl3; have HE3 := hid hE3; have HB3 := hid hb3; have HX3 : XBox w3 (w.heap.size + 1) (⟨#[]⟩, 0) (.slice none 0 0) := (hb3.block _ (by omega)).trans (HXX.out.below HB2.out); have y0 := HX3.c0; have y1 := HX3.c1; have y2 := HX3.c2; have z0 := HX3.f (k := 0); have z1 := HX3.f (k := 1); have z2 := HX3.f (k := 2); have HXX3 := hid HX3; clear hl3 hE3 hb3 HX3) | fail))
        all_goals go_wp2_with fail
        all_goals refine bodyPost_ret (results_cell_row rfl _ _ (w.heap.size + 1) 27 #[.string kv.x.1, .int .i64 kv.x.2, .slice kv.a (lenF kv.l) kv.c] (0, 0) _ rfl (HXX3.out.all (x := kv.x) _) Tryz.underlying27 rfl Tryz.size27) rfl ?_
        all_goals refine ⟨kv, ks.map Kv.tn, rfl, HDN.out, by rw [hk]; exact HL3.out, ?_, ?_⟩
        all_goals first
          | exact loosE.mono (fun q hq => by omega) (loosE.keep (fun q hq _ => sets_far (by omega) _ _ _) HE3.out)
          | exact sets_below ((HLOW.out.trans (HB2.out.mono (by omega))).trans (HB3.out.mono (by omega))) (by omega) _ _ _
      · have HC : Hid (∀ W, Below wr.heap.size wr W → Calls Tryz.prog 106 #[.agg #[.slice S n cap, .int .i64 f, .int .i64 3, .int .i64 (unitI l f), .bool (unitOk l f)], .slice (some ⟨w.heap.size + 1 + 1, 0, none⟩) (lenF F) (lenF F)] W fun e w' => ∃ kv : Kv, e = .returned (.agg #[.string kv.x.1, .int .i64 kv.x.2, .slice kv.a (lenF kv.l) kv.c]) ∧ LayR (sgOf l) 3 f (unitI l f) (ks.map Kv.tn) kv.tn ∧ LoosE w' (fun q => w.heap.size + 1 + 1 ≤ q) kv ∧ Below (w.heap.size + 1 + 1) W w') := fun W hb => by
          have hWs := hb.size
          have := unite_any S n cap l f ks (w.heap.size + 1 + 1) (lenF F) (w.heap.size + 1 + 1) (fun q => w.heap.size + 1 + 1 < q ∧ q < wr.heap.size) W (hSig W hb) (by omega) (fun q hq => by have := hq.1; omega) (Nat.le_refl _) (fun h => absurd h.1 (Nat.lt_irrefl _)) (hRow W hb) (hGl W hb) (by rw [hk]; decide) hss (by omega)
          rw [HHV.out, hk, hkl] at this
          refine this.mono ?_
          rintro e w' ⟨kv, rfl, hf, hE, hT⟩
          obtain ⟨f1, f2⟩ := fin W w' kv hb hE hT
          exact ⟨kv, rfl, by unfold LayR; rw [if_neg (by decide), if_neg (by decide)]; exact hf, f1, f2⟩
        rw [hk] at q2 HFB ⊢
        clear hRow hGl hSig fin hdone hss HHV
        have hix := idx3
        go_wp2_with fail
        go_region_held3 (fun w' => w'.cell? ⟨w.heap.size, 0, none⟩ = some (.slice S n cap) ∧ w'.cell? ⟨w.heap.size, 1, none⟩ = some (.int .i64 f) ∧ w'.cell? ⟨w.heap.size, 2, none⟩ = some (.int .i64 3) ∧ w'.cell? ⟨w.heap.size, 3, none⟩ = some (.int .i64 (unitI l f)) ∧ w'.cell? ⟨w.heap.size, 4, none⟩ = some (.bool (unitOk l f))) ((first | (go_split_ands; refine ⟨?_, ?_, ?_, ?_, ?_⟩ <;> (refine below_cell HB2.out _ _ ?_; assumption)) | (go_split_ands; refine ⟨?_, ?_, ?_, ?_, ?_⟩ <;> (refine (HB3.out.cell (by show w.heap.size < _; omega)).trans ?_; assumption)) | go_keep | fail)) ((first | (go_at_call 81; refine (layings_any _).mono ?_; rintro e w2 ⟨rfl, hb2⟩; have HB2 : Hid (Below wr.heap.size wr w2) := ((Below.refl _ wr).drew).trans hb2; clear hb2; unfold laysV) | (go_at_call 106; refine (HC.out _ HB2.out).mono ?_; rintro e w3 ⟨kv, rfl, hl3, hE3, hb3⟩; have HL3 := hid hl3; have HE3 := hid hE3; have HB3 := hid hb3; have HX3 : XBox w3 (w.heap.size + 1) (⟨#[]⟩, 0) (.slice none 0 0) := (hb3.block _ (by omega)).trans (HXX.out.below HB2.out); have y0 := HX3.c0; have y1 := HX3.c1; have y2 := HX3.c2; have z0 := HX3.f (k := 0); have z1 := HX3.f (k := 1); have z2 := HX3.f (k := 2); have HXX3 := hid HX3; clear hl3 hE3 hb3 HX3) | fail))
        all_goals go_wp2_with fail
        all_goals refine bodyPost_ret (results_cell_row rfl _ _ (w.heap.size + 1) 27 #[.string kv.x.1, .int .i64 kv.x.2, .slice kv.a (lenF kv.l) kv.c] (0, 0) _ rfl (HXX3.out.all (x := kv.x) _) Tryz.underlying27 rfl Tryz.size27) rfl ?_
        all_goals refine ⟨kv, ks.map Kv.tn, rfl, HDN.out, by rw [hk]; exact HL3.out, ?_, ?_⟩
        all_goals first
          | exact loosE.mono (fun q hq => by omega) (loosE.keep (fun q hq _ => sets_far (by omega) _ _ _) HE3.out)
          | exact sets_below ((HLOW.out.trans (HB2.out.mono (by omega))).trans (HB3.out.mono (by omega))) (by omega) _ _ _
end Go.Proofs.YtgcnjpiiofjljaaGreatDoor
/- What loose of package canon makes: a term's loose form. -/
namespace Go.Proofs.YtgcnjpiiofjljaaGreatDoor
open Go.RowKit Go.Deep

theorem mod_leaf {S : Sg} {ar : Int → Nat} {x : ByteArray × Int} {F : Fo} (h : noName x.1 = false ∨ lenF F = 0) : LooseR S ar (x, F) (x, F) := by
  refine ⟨Nat.le_refl _, fun hS hR => ?_⟩
  obtain ⟨hn, hF⟩ := hR
  have hn : nodeOk S ar x (lenF F) := hn
  unfold nodeOk at hn
  have key : canonT S (x, F) = (x, F) ∧ jn S (x, F) = false := by
    cases hx : noName x.1 with
    | false =>
      rw [if_pos hx] at hn
      obtain ⟨h1, h2⟩ := hn
      have hF := len_nil h2
      subst hF
      obtain ⟨x1, x2⟩ := x
      dsimp only at h1 hx
      subst h1
      refine ⟨?_, by unfold jn; simp [hx]⟩
      unfold canonT canon1
      rw [if_pos hx]
    | true =>
      rw [if_neg (by rw [hx]; simp)] at hn
      have h0 : lenF F = 0 := by
        rcases h with h | h
        · rw [hx] at h; cases h
        · exact h
      have hF := len_nil h0
      subst hF
      have hj : S.joins x.2 = false := by
        cases hj : S.joins x.2 with
        | false => rfl
        | true => rw [if_pos hj] at hn; simp [lenF] at hn
      obtain ⟨x1, x2⟩ := x
      have e1 : x1 = noB := noName_eq hx
      subst e1
      refine ⟨?_, by unfold jn; simp only; rw [hj]; simp⟩
      unfold canonT canon1
      rw [if_neg (by rw [hx]; simp)]
      show (if S.joins x2 = true then _ else _) = _
      rw [hj]
      rfl
  rw [key.1]
  exact ⟨rfl, by rw [key.2]; simp⟩

set_option maxRecDepth 100000 in
set_option maxHeartbeats 2000000 in
theorem loose_of (S : Option Addr) (n cap : Nat) (l : List Sym) (N : Nat) (hN : N ≤ 1048576) (ih : ∀ j, j < N → LooseOk S n cap l j) : LooseOk S n cap l N := by
  intro t a c w hF hS hT
  obtain ⟨⟨nm, s⟩, F⟩ := t
  have HB0 : Hid (Below w.heap.size w ((w.alloc (.cells #[.string nm, .int .i64 s, .slice a (lenF F) c] 27)).alloc (.cells #[.string ⟨#[]⟩, .int .i64 0, .slice none 0 0] 27))) := ((Below.refl _ w).alloc (Nat.le_refl _) _).alloc (by simp) _
  have HX0 : Hid (XBox ((w.alloc (.cells #[.string nm, .int .i64 s, .slice a (lenF F) c] 27)).alloc (.cells #[.string ⟨#[]⟩, .int .i64 0, .slice none 0 0] 27)) (w.heap.size + 1) (⟨#[]⟩, 0) (.slice none 0 0)) := by
    have := World.alloc_heap_new (w.alloc (.cells #[.string nm, .int .i64 s, .slice a (lenF F) c] 27)) (.cells #[.string ⟨#[]⟩, .int .i64 0, .slice none 0 0] 27)
    rw [World.size_alloc] at this
    exact this
  have HT0 : Hid (XBox ((w.alloc (.cells #[.string nm, .int .i64 s, .slice a (lenF F) c] 27)).alloc (.cells #[.string ⟨#[]⟩, .int .i64 0, .slice none 0 0] 27)) w.heap.size (nm, s) (.slice a (lenF F) c)) := (Below.heap_alloc _ _ _ (by simp)).trans (World.alloc_heap_new w _)
  have HCL : Hid (∀ W, Below w.heap.size w W → Calls Tryz.prog 58 #[.agg #[.string nm, .int .i64 s, .slice a (lenF F) c]] W fun e w' => ∃ a' c', e = .returned (.agg #[.string nm, .int .i64 s, .slice a' (lenF F) c']) ∧ SepTm w' (fun k => W.heap.size ≤ k) (nm, s) a' c' F ∧ Below W.heap.size W w' ∧ (lenF F = 0 → a' = none ∧ c' = 0)) := fun W hW => clone_any (nm, s) F a c W (TmAt.below hT hW)
  have HHD : Hid (∀ W, Below w.heap.size w W → Calls Tryz.prog 59 #[.slice S n cap, .int .i64 s] W fun e w' => e = .returned (.agg (headV S n cap l s)) ∧ Below W.heap.size W w') := fun W hW => headAt_any S n cap l s W (hS.below hW)
  have HLY : Hid (∀ W, Below w.heap.size w W → Calls Tryz.prog 60 #[.agg (headV S n cap l s), .slice a (lenF F) c] W fun e w' => ∃ (k : Kv) (rs : List Tn), e = .returned (.agg #[.string k.x.1, .int .i64 k.x.2, .slice k.a (lenF k.l) k.c]) ∧ All2 (LooseR (sgOf l) (arAt l)) (kidsL F) rs ∧ LayR (sgOf l) (kindK l s) s (unitI l s) rs k.tn ∧ LoosE w' (fun q => W.heap.size ≤ q) k ∧ Below W.heap.size W w') := fun W hW => lay_of S n cap l N hN ih s F a c W hF (hS.below hW) (hT.args.below hW)
  clear hS hT ih
  have leaf : Hid (noName nm = false ∨ lenF F = 0 → ∀ W2 (w2 : World) a' c', SepTm w2 (fun k => w.heap.size + 2 ≤ k) (nm, s) a' c' F → (lenF F = 0 → a' = none ∧ c' = 0) → Below w.heap.size w w2 → W2 = (((w2.setCell ⟨w.heap.size + 1, 0, none⟩ (.string nm)).setCell ⟨w.heap.size + 1, 1, none⟩ (.int .i64 s)).setCell ⟨w.heap.size + 1, 2, none⟩ (.slice a' (lenF F) c')) → LooseR (sgOf l) (arAt l) ((nm, s), F) ((nm, s), F) ∧ LoosE W2 (fun q => w.heap.size ≤ q) ⟨(nm, s), F, a', c'⟩ ∧ Below w.heap.size w W2) := fun h W2 w2 a' c' h1 h2 h3 e => by
    subst e
    refine ⟨mod_leaf h, ⟨?_, fun hn => .inl ?_⟩, sets_below h3 (by omega) _ _ _⟩
    · exact sepE.mono (fun q hq => by omega) (sepE.keep (k := ⟨(nm, s), F, a', c'⟩) (fun q hq _ => sets_far (by omega) _ _ _) h1)
    · have h0 : lenF F = 0 := by
        rcases h with h | h
        · rw [show noName nm = true from hn] at h; cases h
        · exact h
      exact ⟨(h2 h0).1, (h2 h0).2, h0⟩
  have c0 := HT0.out.c0; have c1 := HT0.out.c1; have c2 := HT0.out.c2
  cases hn : nm.toList.isEmpty
  · go_enter Tryz.func40, Tryz.ntmps40
    go_wp2_with (first
      | (go_at_call 58; refine (HCL.out _ HB0.out).mono ?_; rintro e w2 ⟨a', c', rfl, hs2, hb2, hz2⟩; have HS2 : Hid (SepTm w2 (fun k => w.heap.size + 2 ≤ k) (nm, s) a' c' F) := SepTm.mono (fun q hq => by rw [World.size_alloc, World.size_alloc] at hq; omega) hs2; have HZ2 := hid hz2; have HB2 := hid (HB0.out.trans (hb2.mono (by simp; omega))); have HX2 := HX0.out.below hb2; have y0 := HX2.c0; have y1 := HX2.c1; have y2 := HX2.c2; have z0 := HX2.f (k := 0); have z1 := HX2.f (k := 1); have z2 := HX2.f (k := 2); have HXX := hid HX2; clear hs2 hb2 hz2 HX2)
      | fail)
    refine bodyPost_ret (results_cell_row rfl _ _ (w.heap.size + 1) 27 #[.string nm, .int .i64 s, .slice a' (lenF F) c'] (0, 0) _ rfl (HXX.out.all (x := (nm, s)) _) Tryz.underlying27 rfl Tryz.size27) rfl ?_
    obtain ⟨e1, e2, e3⟩ := leaf.out (.inl hn) _ w2 a' c' HS2.out HZ2.out HB2.out rfl
    exact ⟨⟨(nm, s), F, a', c'⟩, rfl, e1, e2, e3⟩
  · by_cases h0 : lenF F = 0
    · have hz : ((lenF F : Int) == 0) = true := by simp [h0]
      have H0 := hid h0
      clear h0
      go_enter Tryz.func40, Tryz.ntmps40
      go_wp2_with (first
        | (go_at_call 58; refine (HCL.out _ HB0.out).mono ?_; rintro e w2 ⟨a', c', rfl, hs2, hb2, hz2⟩; have HS2 : Hid (SepTm w2 (fun k => w.heap.size + 2 ≤ k) (nm, s) a' c' F) := SepTm.mono (fun q hq => by rw [World.size_alloc, World.size_alloc] at hq; omega) hs2; have HZ2 := hid hz2; have HB2 := hid (HB0.out.trans (hb2.mono (by simp; omega))); have HX2 := HX0.out.below hb2; have y0 := HX2.c0; have y1 := HX2.c1; have y2 := HX2.c2; have z0 := HX2.f (k := 0); have z1 := HX2.f (k := 1); have z2 := HX2.f (k := 2); have HXX := hid HX2; clear hs2 hb2 hz2 HX2)
        | fail)
      refine bodyPost_ret (results_cell_row rfl _ _ (w.heap.size + 1) 27 #[.string nm, .int .i64 s, .slice a' (lenF F) c'] (0, 0) _ rfl (HXX.out.all (x := (nm, s)) _) Tryz.underlying27 rfl Tryz.size27) rfl ?_
      obtain ⟨e1, e2, e3⟩ := leaf.out (.inr H0.out) _ w2 a' c' HS2.out HZ2.out HB2.out rfl
      exact ⟨⟨(nm, s), F, a', c'⟩, rfl, e1, e2, e3⟩
    · have hz : ((lenF F : Int) == 0) = false := by simpa using h0
      have H0 := hid h0
      clear h0
      go_enter Tryz.func40, Tryz.ntmps40
      have HSZ0 : Hid (((w.alloc (.cells #[.string nm, .int .i64 s, .slice a (lenF F) c] 27)).alloc (.cells #[.string ⟨#[]⟩, .int .i64 0, .slice none 0 0] 27)).heap.size = w.heap.size + 2) := by show _ = _; simp
      go_wp2_with fail
      generalize (w.alloc (.cells #[.string nm, .int .i64 s, .slice a (lenF F) c] 27)).alloc (.cells #[.string ⟨#[]⟩, .int .i64 0, .slice none 0 0] 27) = W0 at HB0 HX0 HT0 HSZ0 c0 c1 c2 ⊢
      go_region_held3 (fun w' => w'.cell? ⟨w.heap.size, 1, none⟩ = some (.int .i64 s) ∧ w'.cell? ⟨w.heap.size, 2, none⟩ = some (.slice a (lenF F) c)) ((first | (go_split_ands; refine ⟨?_, ?_⟩ <;> (refine below_cell HB1.out _ _ ?_; assumption)) | (go_split_ands; refine ⟨?_, ?_⟩ <;> (refine below_cell (HB1.out.trans (HB3.out.mono HB1.out.size)) _ _ ?_; assumption)) | go_keep | fail)) ((first
        | (go_at_call 59; refine (HHD.out _ HB0.out.drew).mono ?_; rintro e w1 ⟨rfl, hb1⟩; have HB1 : Hid (Below W0.heap.size W0 w1) := ((Below.refl _ W0).drew).trans hb1; clear hb1)
        | (go_at_call 60; refine (HLY.out _ (HB0.out.trans (HB1.out.mono HB0.out.size))).mono ?_; rintro e w3 ⟨kv, rs, rfl, ha3, hl3, hE3, hb3⟩; have HA3 := hid ha3; have HL3 := hid hl3; have HE3 := hid hE3; have HB3 := hid hb3; have HX3 := (HX0.out.below HB1.out).below hb3; have y0 := HX3.c0; have y1 := HX3.c1; have y2 := HX3.c2; have z0 := HX3.f (k := 0); have z1 := HX3.f (k := 1); have z2 := HX3.f (k := 2); have HXX := hid HX3; clear ha3 hl3 hE3 hb3 HX3)
        | fail))
      all_goals go_wp2_with fail
      all_goals refine bodyPost_ret (results_cell_row rfl _ _ (w.heap.size + 1) 27 #[.string kv.x.1, .int .i64 kv.x.2, .slice kv.a (lenF kv.l) kv.c] (0, 0) _ rfl (HXX.out.all (x := kv.x) _) Tryz.underlying27 rfl Tryz.size27) rfl ?_
      all_goals have hs1 : w.heap.size + 2 ≤ w1.heap.size := (by have := HB1.out.size; have := HSZ0.out; omega)
      all_goals exact ⟨kv, rfl, lay_loose (x := (nm, s)) (kindK_ok l s) hn H0.out HA3.out HL3.out, loosE.mono (fun q hq => by omega) (loosE.keep (fun q hq _ => sets_far (by omega) _ _ _) HE3.out), sets_below (HB0.out.trans ((HB1.out.mono HB0.out.size).trans (HB3.out.mono (by omega)))) (by omega) _ _ _⟩
theorem loose_all (S : Option Addr) (n cap : Nat) (l : List Sym) : ∀ N, N ≤ 1048576 → LooseOk S n cap l N := by
  intro N
  induction N using Nat.strongRecOn with
  | _ N ih => exact fun hN => loose_of S n cap l N hN (fun j hj => ih j hj (by omega))
end Go.Proofs.YtgcnjpiiofjljaaGreatDoor
