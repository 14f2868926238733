import Derived.Test.YtppgmepmegelbaaGreatDoorKRLst
/- What together of package canon makes of two lists. -/
namespace Go.Proofs.YtppgmepmegelbaaGreatDoor
open Go.RowKit Go.Deep

theorem app_loosE {w w' : World} {A B : Bl} {v v' : Value} {ks ms : List Kv} {x : ByteArray × Int} (hx : x.1.size ≤ maxLen) (hks : GL SepE w ks (fun q => A q ∧ some q ≠ v.ownBlock)) (hv : ∀ g, v.ownBlock = some g → A g) (hms : GL SepE w ms B) (hd : ∀ q, A q → ¬ B q)
    (hown : w'.ownsRow 0 28 3 v' (ks ++ ms).length (kvCells (ks ++ ms))) (hg : w.grownBy w' v.ownBlock) (hat : v'.ownBlock = v.ownBlock ∨ v'.ownBlock = some w.heap.size) (hfew : (ks ++ ms).length * 48 ≤ 140737488351232) :
    ∃ a c, v' = .slice a (ks ++ ms).length c ∧ LoosE w' (fun q => A q ∨ B q ∨ w.heap.size ≤ q) ⟨x, mkF ((ks ++ ms).map Kv.tn), a, c⟩ ∧ Turned A w w' := by
  have h1 := (hms.within sepE).append (fun q hq h => hd q hq.1.1 h.1) (hks.within sepE)
  have h1' : GL SepE w (ks ++ ms) (fun q => (A q ∨ B q) ∧ some q ≠ v.ownBlock ∧ q < w.heap.size) := (GL.append (hms.within sepE) (fun q hq h => hd q hq.1.1 h.1) (hks.within sepE)).mono (fun q hq => by
    rcases hq with hq | hq
    · exact ⟨.inl hq.1.1, hq.1.2, hq.2⟩
    · exact ⟨.inr hq.1, fun e => hd q (hv q e.symm) hq.1, hq.2⟩)
  have h2 : GL SepE w' (ks ++ ms) (fun q => (A q ∨ B q) ∧ some q ≠ v.ownBlock ∧ q < w.heap.size) := h1'.keep sepE (fun q hq hlt => hg.block q hlt hq.2.1)
  obtain ⟨a, c, e1, e2⟩ := loosE_of (A := fun q => A q ∨ B q ∨ w.heap.size ≤ q) hx hown (fun g e => by
    rcases hat with h | h
    · exact .inl (hv g (by rw [← h, e]))
    · rw [h] at e; cases e; exact .inr (.inr (Nat.le_refl _))) (h2.mono (fun q hq => ⟨by rcases hq.1 with h | h; exact .inl h; exact .inr (.inl h), by
      rcases hat with h | h
      · rw [h]; exact hq.2.1
      · rw [h]; intro e; cases e; exact absurd hq.2.2 (Nat.lt_irrefl _)⟩)) hfew
  exact ⟨a, c, e1, e2, hg.os, hg.tape, hg.output, hg.size, fun q hq hn => hg.block q hq (fun e => hn (hv q e.symm))⟩

set_option maxRecDepth 100000 in
set_option maxHeartbeats 1000000 in
theorem together_any (ka kb : Kv) (A B : Bl) (w : World) (hA : LoosE w A ka) (hB : LoosE w B kb) (hna : noName ka.x.1 = true) (hnb : noName kb.x.1 = true) (hd : ∀ q, A q → ¬ B q) (hsm : lenF ka.l + lenF kb.l ≤ 4194304) :
    Calls Tryz.prog 122 #[.slice ka.a (lenF ka.l) ka.c, .slice kb.a (lenF kb.l) kb.c] w fun e w' => ∃ F a c, e = .returned (.slice a (lenF F) c) ∧ List.Perm (kidsL F) (kidsL ka.l ++ kidsL kb.l) ∧ LoosE w' (fun q => (A q ∨ B q) ∨ w.heap.size ≤ q) ⟨ka.x, F, a, c⟩ ∧ Turned (fun q => A q ∨ B q) w w' := by
  obtain ⟨ks, k1, k2, k3, k4⟩ := hA.row hna
  obtain ⟨ms, m1, m2, m3, m4⟩ := hB.row hnb
  obtain ⟨xa, la, aa, ca⟩ := ka
  obtain ⟨xb, lb, ab, cb⟩ := kb
  dsimp only at *
  have hkl : ks.length = lenF la := by have := congrArg List.length k1; rwa [List.length_map, kids_len] at this
  have hml : ms.length = lenF lb := by have := congrArg List.length m1; rwa [List.length_map, kids_len] at this
  have hxs : Hid (xa.1.size ≤ maxLen) := hA.1.sizes.name
  have hca := hA.1.sizes.cap
  have hcb := hB.1.sizes.cap
  have hla := hA.1.sizes.len
  have hlb := hB.1.sizes.len
  have ra := k2 0 (fun q _ => Nat.zero_le q)
  have rb := m2 0 (fun q _ => Nat.zero_le q)
  obtain ⟨a1, c1, e1, _, _, ra2, ra3, _⟩ := row_of_owns ra
  cases e1
  obtain ⟨b1, d1, e2, _, _, rb2, rb3, _⟩ := row_of_owns rb
  cases e2
  have HRA : Hid (w.ownsRow 0 28 3 (.slice aa (lenF la) ca) ks.length (kvCells ks)) := by show World.ownsRow _ _ _ _ _ _ _; rw [hkl]; exact ra
  have HRB : Hid (w.ownsRow 0 28 3 (.slice ab (lenF lb) cb) ms.length (kvCells ms)) := by show World.ownsRow _ _ _ _ _ _ _; rw [hml]; exact rb
  have HRA2 : Hid (RowAt w aa (lenF la) ks) := ra2
  have HRB2 : Hid (RowAt w ab (lenF lb) ms) := rb2
  have HA3 : Hid (aa = none → ca = 0) := fun e => (ra3 e).2
  have HB3 : Hid (ab = none → cb = 0) := fun e => (rb3 e).2
  have HK1 : Hid (ks.map Kv.tn = kidsL la) := k1
  have HM1 : Hid (ms.map Kv.tn = kidsL lb) := m1
  have HK3 : Hid (GL SepE w ks (fun q => A q ∧ some q ≠ (Value.slice aa (lenF la) ca).ownBlock)) := k3
  have HM3 : Hid (GL SepE w ms (fun q => B q ∧ some q ≠ (Value.slice ab (lenF lb) cb).ownBlock)) := m3
  have HK4 : Hid (∀ g, (Value.slice aa (lenF la) ca).ownBlock = some g → A g) := k4
  have HM4 : Hid (∀ g, (Value.slice ab (lenF lb) cb).ownBlock = some g → B g) := m4
  have HKL : Hid (ks.length = lenF la) := hkl
  have HML : Hid (ms.length = lenF lb) := hml
  clear hA hB k1 k2 k3 k4 m1 m2 m3 m4 ra rb ra2 ra3 rb2 rb3 hkl hml
  by_cases hlt : lenF la < lenF lb
  · go_enter Tryz.func122, Tryz.ntmps122
    go_wp2_with (at_builtin; refine wpList_append_all rfl _ _ rfl 0 (.slice ab (lenF lb) cb) ms rfl HRB.out aa (lenF la) ca ks rfl HRA2.out HA3.out (by have := HML.out; omega) (Nat.zero_le _) ?_; intro v' w' hown hgrow hat; obtain ⟨a', c', e', hL, hT⟩ := app_loosE (x := xa) hxs.out HM3.out HM4.out (HK3.out.mono (fun q hq => hq.1)) (fun q hq h => hd q h hq) hown hgrow hat (by rw [List.length_append, HML.out, HKL.out]; omega); clear hown hgrow hat)
    go_ret
    refine ⟨mkF ((ms ++ ks).map Kv.tn), a', c', by rw [len_mk, List.length_map, List.length_append]; rfl, ?_, loosE.mono (fun q hq => ?_) hL, hT.mono (fun q _ hq => .inr hq)⟩
    · rw [kids_mk, List.map_append, HM1.out, HK1.out]
      exact List.perm_append_comm
    · rcases hq with h | h | h
      · exact .inl (.inr h)
      · exact .inl (.inl h)
      · exact .inr h
  · go_enter Tryz.func122, Tryz.ntmps122
    go_wp2_with (at_builtin; refine wpList_append_all rfl _ _ rfl 0 (.slice aa (lenF la) ca) ks rfl HRA.out ab (lenF lb) cb ms rfl HRB2.out HB3.out (by have := HKL.out; omega) (Nat.zero_le _) ?_; intro v' w' hown hgrow hat; obtain ⟨a', c', e', hL, hT⟩ := app_loosE (x := xa) hxs.out HK3.out HK4.out (HM3.out.mono (fun q hq => hq.1)) (fun q hq h => hd q hq h) hown hgrow hat (by rw [List.length_append, HML.out, HKL.out]; omega); clear hown hgrow hat)
    go_ret
    refine ⟨mkF ((ks ++ ms).map Kv.tn), a', c', by rw [len_mk, List.length_map, List.length_append]; rfl, ?_, loosE.mono (fun q hq => ?_) hL, hT.mono (fun q _ hq => .inl hq)⟩
    · rw [kids_mk, List.map_append, HM1.out, HK1.out]
    · rcases hq with h | h | h
      · exact .inl (.inl h)
      · exact .inl (.inr h)
      · exact .inr h
end Go.Proofs.YtppgmepmegelbaaGreatDoor
/- What flatten of package canon makes of loose forms. -/
namespace Go.Proofs.YtppgmepmegelbaaGreatDoor
open Go.RowKit Go.Deep

theorem hid {p : Prop} (h : p) : Hid p := h
/-- A signature that stays as long as the blocks below B do. -/
def SigLow (B : Nat) (w : World) (S : Option Addr) (n : Nat) (l : List Sym) : Prop := ∀ W, Below B w W → SigAt W S n l
theorem SigLow.of {w : World} {S : Option Addr} {n : Nat} {l : List Sym} (h : SigAt w S n l) : SigLow w.heap.size w S n l := fun _ hW => h.below hW
theorem SigLow.at_ {B : Nat} {w : World} {S : Option Addr} {n : Nat} {l : List Sym} (h : SigLow B w S n l) : SigAt w S n l := h w (Below.refl _ _)
theorem SigLow.below {B : Nat} {w w' : World} {S : Option Addr} {n : Nat} {l : List Sym} (h : SigLow B w S n l) (hb : Below B w w') : SigLow B w' S n l := fun W hW => h W (hb.trans hW)
/-- A row of terms that stays as long as none but the blocks of A turn. -/
def RowFix (A : Bl) (w : World) (a : Option Addr) (ks : List Kv) : Prop := ∀ W, Turned A w W → RowAt W a ks.length ks

theorem Turned.then {A X : Bl} {a b c : World} (h : Turned A a b) (k : Turned X b c) (hX : ∀ q, q < a.heap.size → X q → A q) : Turned A a c :=
  ⟨k.os.trans h.os, k.tape.trans h.tape, k.output.trans h.output, Nat.le_trans h.size k.size, fun q hq hA => (k.block q (Nat.lt_of_lt_of_le hq h.size) (fun hx => hA (hX q hq hx))).trans (h.block q hq hA)⟩
theorem psizes_len : ∀ l : List Tn, l.length ≤ sizes l
  | [] => Nat.le_refl _
  | t :: r => by rw [sizes_cons, List.length_cons]; have := psizes_len r; have : 1 ≤ sizeT t := by unfold sizeT; omega
                 omega
theorem kidsL_len (F : Fo) : lenF F ≤ sizes (kidsL F) := by rw [← kids_len]; exact psizes_len _
theorem psizes_take (l : List Tn) (j : Nat) : sizes (l.take j) ≤ sizes l := by
  have := sizes_append (l.take j) (l.drop j)
  rw [List.take_append_drop] at this
  omega
theorem sizes_mem {t : Tn} : ∀ {l : List Tn}, t ∈ l → sizeT t ≤ sizes l
  | x :: r, h => by
    rw [sizes_cons]
    rcases List.mem_cons.1 h with rfl | h
    · omega
    · have := sizes_mem h; omega
/-- The cells of a term of a row. -/
theorem RowAt.cells3 {w : World} {a : Option Addr} {ks : List Kv} (h : RowAt w a ks.length ks) {j : Nat} {k : Kv} (hk : ks[j]? = some k) : ∃ b o, a = some ⟨b, o, none⟩ ∧ w.cell? ⟨b, o + j * 3, none⟩ = some (.string k.x.1) ∧ w.cell? ⟨b, o + j * 3 + 1, none⟩ = some (.int .i64 k.x.2) ∧ w.cell? ⟨b, o + j * 3 + 2, none⟩ = some (.slice k.a (lenF k.l) k.c) := by
  obtain ⟨c0, c1, c2⟩ := kv_cells hk
  obtain ⟨b, o, e, h0⟩ := h.cells _ _ c0
  obtain ⟨b1, o1, e1, h1⟩ := h.cells _ _ c1
  obtain ⟨b2, o2, e2, h2⟩ := h.cells _ _ c2
  rw [e] at e1 e2
  cases e1
  cases e2
  exact ⟨b, o, e, h0, by rw [Nat.add_assoc]; exact h1, by rw [Nat.add_assoc]; exact h2⟩
theorem drop_cons {α : Type} {l : List α} {j : Nat} {x : α} (h : l[j]? = some x) : l.drop j = x :: l.drop (j + 1) := by
  obtain ⟨hj, rfl⟩ := List.getElem?_eq_some_iff.1 h
  exact List.drop_eq_getElem_cons hj
theorem take_snoc {α : Type} {l : List α} {j : Nat} {x : α} (h : l[j]? = some x) : l.take (j + 1) = l.take j ++ [x] := by
  rw [List.take_add_one, h]; rfl

/-- Where flatten stands before the term j. -/
structure FlatSt (S : Sg) (f : Int) (A : Bl) (w : World) (hv : Array Value) (ks : List Kv) (j : Nat) (kall : Kv) (W : World) : Prop where
  head : kall.x = (noB, f)
  gl : GL LoosE W (kall :: ks.drop j) (fun q => (A q ∧ q < w.heap.size) ∨ w.heap.size + 2 ≤ q)
  turned : Turned A w W
  fbox : Box W w.heap.size 84 hv
  rbox : XBox W (w.heap.size + 1) (⟨#[]⟩, 0) (.slice none 0 0)
  flat : FlatR S f ((ks.take j).map Kv.tn) (kidsL kall.l)
theorem FlatSt.size {S : Sg} {f : Int} {A : Bl} {w W : World} {hv : Array Value} {ks : List Kv} {j : Nat} {kall : Kv} (h : FlatSt S f A w hv ks j kall W) (hs : sizes (ks.map Kv.tn) ≤ 1048576) : lenF kall.l ≤ 1048576 := by
  have h1 := kidsL_len kall.l
  have h2 := flat_sizes h.flat
  have h3 := psizes_take (ks.map Kv.tn) j
  rw [← List.map_take] at h3
  omega
/-- A step: the list all and the term k have made another list. -/
theorem FlatSt.step {S : Sg} {f : Int} {A : Bl} {w W W2 W3 : World} {hv : Array Value} {ks : List Kv} {j : Nat} {kall k k' : Kv} {A1 A2 R2 : Bl} (h : FlatSt S f A w hv ks j kall W) (hk : ks[j]? = some k)
    (a1 : ∀ q, A1 q → ((A q ∧ q < w.heap.size) ∨ w.heap.size + 2 ≤ q) ∧ q < W.heap.size) (a2 : ∀ q, A2 q → ((A q ∧ q < w.heap.size) ∨ w.heap.size + 2 ≤ q) ∧ q < W.heap.size) (r2 : ∀ q, R2 q → (((A q ∧ q < w.heap.size) ∨ w.heap.size + 2 ≤ q) ∧ q < W.heap.size) ∧ ¬ A1 q ∧ ¬ A2 q)
    (hr : GL LoosE W (ks.drop (j + 1)) R2) (hb : Below W.heap.size W W2) (ht : Turned (fun q => A1 q ∨ A2 q) W2 W3) (hx : k'.x = (noB, f)) (hE : LoosE W3 (fun q => (A1 q ∨ A2 q) ∨ W2.heap.size ≤ q) k') {p : List Tn} (hp : PartR S f k.tn p) (hperm : List.Perm (kidsL k'.l) (kidsL kall.l ++ p)) : FlatSt S f A w hv ks (j + 1) k' W3 := by
  have hbs := hb.size
  have hfl := h.fbox.lt
  have hrl := h.rbox.lt
  have key : ∀ q, q < W.heap.size → ¬ A1 q → ¬ A2 q → W3.heap[q]? = W.heap[q]? := fun q hq n1 n2 => (ht.block q (by omega) (fun e => e.elim n1 n2)).trans (hb.block q hq)
  have nf : ∀ q, (q = w.heap.size ∨ q = w.heap.size + 1) → ¬ A1 q ∧ ¬ A2 q := fun q hq => ⟨fun h' => by rcases (a1 q h').1 with h | h <;> omega, fun h' => by rcases (a2 q h').1 with h | h <;> omega⟩
  refine ⟨hx, ?_, ?_, ?_, ?_, ?_⟩
  · have h3 : GL LoosE W3 (ks.drop (j + 1)) R2 := hr.keep loosE (fun q hq hlt => key q hlt (r2 q hq).2.1 (r2 q hq).2.2)
    refine (GL.cons hE h3 (fun q hq hR => ?_)).mono (fun q hq => ?_)
    · rcases hq with (hq | hq) | hq
      · exact (r2 q hR).2.1 hq
      · exact (r2 q hR).2.2 hq
      · have := (r2 q hR).1.2; omega
    · rcases hq with ((hq | hq) | hq) | hq
      · exact (a1 q hq).1
      · exact (a2 q hq).1
      · exact .inr (by omega)
      · exact (r2 q hq).1.1
  · refine (h.turned.then (Turned.of_below hb A) (fun q _ hq => hq)).then ht (fun q hq hx => ?_)
    rcases hx with hx | hx
    · rcases (a1 q hx).1 with h | h
      · exact h.1
      · omega
    · rcases (a2 q hx).1 with h | h
      · exact h.1
      · omega
  · exact (key _ hfl (nf _ (.inl rfl)).1 (nf _ (.inl rfl)).2).trans h.fbox
  · exact (key _ hrl (nf _ (.inr rfl)).1 (nf _ (.inr rfl)).2).trans h.rbox
  · rw [take_snoc hk, List.map_append]
    exact FlatR.snoc hp h.flat hperm
/-- The list all and the next term, apart. -/
theorem FlatSt.apart {S : Sg} {f : Int} {A : Bl} {w W : World} {hv : Array Value} {ks : List Kv} {j : Nat} {kall k : Kv} (h : FlatSt S f A w hv ks j kall W) (hk : ks[j]? = some k) : ∃ A1 A2 R2 : Bl, LoosE W A1 kall ∧ LoosE W A2 k ∧ GL LoosE W (ks.drop (j + 1)) R2 ∧ (∀ q, A1 q → ¬ A2 q) ∧
    (∀ q, A1 q → ((A q ∧ q < w.heap.size) ∨ w.heap.size + 2 ≤ q) ∧ q < W.heap.size) ∧ (∀ q, A2 q → ((A q ∧ q < w.heap.size) ∨ w.heap.size + 2 ≤ q) ∧ q < W.heap.size) ∧ (∀ q, R2 q → (((A q ∧ q < w.heap.size) ∨ w.heap.size + 2 ≤ q) ∧ q < W.heap.size) ∧ ¬ A1 q ∧ ¬ A2 q) := by
  have hg := h.gl.within loosE
  rw [drop_cons hk] at hg
  obtain ⟨A1, R1, a1, r1, e1, A2, R2, a2, r2, e2, g⟩ := hg
  exact ⟨A1, A2, R2, e1, e2, g, fun q hq h2 => (r1 q (a2 q h2)).2 hq, a1, fun q hq => (r1 q (a2 q hq)).1, fun q hq => ⟨(r1 q (r2 q hq).1).1, (r1 q (r2 q hq).1).2, (r2 q hq).2⟩⟩

theorem sepKids_mk {w : World} : ∀ {F : Fo} {A : Bl} {b o : Nat}, SepKids w F A b o → SepKids w (mkF (kidsL F)) A b o
  | .nil, _, _, _, _ => trivial
  | .node _ _ _ _ _, _, _, _, ⟨A1, A2, h1, h2, h3, h4⟩ => ⟨A1, A2, h1, h2, h3, sepKids_mk h4⟩
theorem len_mk_kids (F : Fo) : lenF (mkF (kidsL F)) = lenF F := by rw [len_mk, kids_len]
theorem LoosE.mk {w : World} {A : Bl} {k : Kv} (h : LoosE w A k) : LoosE w A ⟨k.x, mkF (kidsL k.l), k.a, k.c⟩ := by
  obtain ⟨⟨hs, hl⟩, hr⟩ := h
  refine ⟨⟨by rw [len_mk_kids]; exact hs, ?_⟩, fun hn => ?_⟩
  · rcases hl with e | ⟨g, cur, e1, e2, e3, e4⟩
    · left; show mkF (kidsL k.l) = _; rw [e]; rfl
    · exact .inr ⟨g, cur, e1, e2, e3, sepKids_mk e4⟩
  · rcases hr hn with ⟨h1, h2, h3⟩ | h'
    · exact .inl ⟨h1, h2, by show lenF (mkF (kidsL k.l)) = 0; rw [len_mk_kids]; exact h3⟩
    · exact .inr h'

set_option maxRecDepth 100000 in
set_option maxHeartbeats 2000000 in
theorem flatten_any (S : Option Addr) (n cap : Nat) (l : List Sym) (f : Int) (ks : List Kv) (a : Option Addr) (c B : Nat) (A : Bl) (w : World) (hS : SigLow B w S n l) (hB : B ≤ w.heap.size) (hA : ∀ q, A q → B ≤ q) (hrow : RowFix A w a ks) (hks : GL LoosE w ks A) (hk : kindK l f ≠ 1) (hsz : sizes (ks.map Kv.tn) ≤ 1048576) :
    Calls Tryz.prog 93 #[.agg (headV S n cap l f), .slice a ks.length c] w fun e w' => ∃ k : Kv, e = .returned (.agg #[.string k.x.1, .int .i64 k.x.2, .slice k.a (lenF k.l) k.c]) ∧ FlatOut (sgOf l) f (ks.map Kv.tn) k.tn ∧ LoosE w' (fun q => A q ∨ w.heap.size ≤ q) k ∧ Turned A w w' := by
  have HS : Hid (SigLow B w S n l) := hS
  have HA : Hid (∀ q, A q → B ≤ q) := hA
  have HR : Hid (RowFix A w a ks) := hrow
  have HKS : Hid (GL LoosE w ks A) := hks
  have HSZ : Hid (sizes (ks.map Kv.tn) ≤ 1048576) := hsz
  have hlen : ks.length ≤ 1048576 := by have := psizes_len (ks.map Kv.tn); rw [List.length_map] at this; omega
  obtain ⟨i0, hi, hz0, hz1, hz2⟩ := info_parts Tryz.info28
  have hmax : maxLen = 9223372036854775807 := rfl
  have HKD : Hid ((!decide (kindK l f = 1)) = true) := by show _ = _; simp [hk]
  clear hS hA hrow hks hsz hk
  unfold headV
  by_cases h1 : ks.length = 1
  · obtain ⟨k0, rfl⟩ := List.length_eq_one_iff.1 h1
    have hbb : ∀ o1 o2, Below w.heap.size w ((w.alloc o1).alloc o2) := fun o1 o2 => ((Below.refl _ w).alloc (Nat.le_refl _) o1).alloc (by simp) o2
    obtain ⟨bb, oo, rfl, p0, p1, p2⟩ := (HR.out _ (Turned.of_below (hbb (.cells #[.slice S n cap, .int .i64 f, .int .i64 (kindK l f), .int .i64 (unitI l f), .bool (unitOk l f)] 84) (.cells #[.string ⟨#[]⟩, .int .i64 0, .slice none 0 0] 28)) A)).cells3 (j := 0) (k := k0) rfl
    rw [Nat.zero_mul, Nat.add_zero] at p0 p1 p2
    have HBB : Hid (∀ o1 o2, Below w.heap.size w ((w.alloc o1).alloc o2)) := hbb
    have hX : XBox ((w.alloc (.cells #[.slice S n cap, .int .i64 f, .int .i64 (kindK l f), .int .i64 (unitI l f), .bool (unitOk l f)] 84)).alloc (.cells #[.string k0.x.1, .int .i64 k0.x.2, .slice k0.a (lenF k0.l) k0.c] 28)) (w.heap.size + 1) k0.x (.slice k0.a (lenF k0.l) k0.c) := by
      have := World.alloc_heap_new (w.alloc (.cells #[.slice S n cap, .int .i64 f, .int .i64 (kindK l f), .int .i64 (unitI l f), .bool (unitOk l f)] 84)) (.cells #[.string k0.x.1, .int .i64 k0.x.2, .slice k0.a (lenF k0.l) k0.c] 28)
      rw [World.size_alloc] at this
      exact this
    have HX := hid hX
    clear hbb hX
    go_enter Tryz.func93, Tryz.ntmps93
    go_wp2
    refine bodyPost_ret (results_cell_row rfl _ _ (w.heap.size + 1) 28 #[.string k0.x.1, .int .i64 k0.x.2, .slice k0.a (lenF k0.l) k0.c] (0, 0) _ rfl HX.out Tryz.underlying28 rfl Tryz.size28) rfl ?_
    obtain ⟨A1, h1, h2⟩ := HKS.out.mem (k := k0) (by simp)
    exact ⟨k0, rfl, .inl rfl, loosE.mono (fun q hq => .inl (h1 q hq)) (loosE.keep (fun q _ hq => (HBB.out _ _).block q hq) h2), Turned.of_below (HBB.out _ _) A⟩
  · have hne : ((ks.length : Int) == 1) = false := by simp; omega
    have HH1 : Hid (¬ ks.length = 1) := h1
    clear h1
    obtain ⟨kd, hkd⟩ : ∃ kd, kindK l f = kd := ⟨_, rfl⟩
    obtain ⟨un, hun⟩ : ∃ un, unitI l f = un := ⟨_, rfl⟩
    obtain ⟨uo, huo⟩ : ∃ uo, unitOk l f = uo := ⟨_, rfl⟩
    rw [hkd] at HKD
    rw [hkd, hun, huo]
    clear hkd hun huo
    have HB0 : Hid (Below w.heap.size w ((w.alloc (.cells #[.slice S n cap, .int .i64 f, .int .i64 kd, .int .i64 un, .bool uo] 84)).alloc (.cells #[.string ⟨#[]⟩, .int .i64 0, .slice none 0 0] 28))) := ((Below.refl _ w).alloc (Nat.le_refl _) _).alloc (by simp) _
    have HF0 : Hid (Box ((w.alloc (.cells #[.slice S n cap, .int .i64 f, .int .i64 kd, .int .i64 un, .bool uo] 84)).alloc (.cells #[.string ⟨#[]⟩, .int .i64 0, .slice none 0 0] 28)) w.heap.size 84 #[.slice S n cap, .int .i64 f, .int .i64 kd, .int .i64 un, .bool uo]) := (Box.new w 84 _).below ((Below.refl _ _).alloc (Nat.le_refl _) _)
    have HX0 : Hid (XBox ((w.alloc (.cells #[.slice S n cap, .int .i64 f, .int .i64 kd, .int .i64 un, .bool uo] 84)).alloc (.cells #[.string ⟨#[]⟩, .int .i64 0, .slice none 0 0] 28)) (w.heap.size + 1) (⟨#[]⟩, 0) (.slice none 0 0)) := by
      have := World.alloc_heap_new (w.alloc (.cells #[.slice S n cap, .int .i64 f, .int .i64 kd, .int .i64 un, .bool uo] 84)) (.cells #[.string ⟨#[]⟩, .int .i64 0, .slice none 0 0] 28)
      rw [World.size_alloc] at this
      exact this
    go_enter Tryz.func93, Tryz.ntmps93
    go_wp2_with (at_make; refine wpList_make_own _ rfl _ _ 26 rfl 0 28 i0 (.agg #[.string ⟨#[]⟩, .int .i64 0, .slice none 0 0]) 3 Tryz.underlying26 hi hz0 hz1 .i64 .i64 _ ks.length rfl rfl rfl (by rw [hz2]; omega) (by omega) (Nat.zero_le _) ?_; intro w0 hown0 hgrow0)
    have ST0 : Hid (FlatSt (sgOf l) f A w #[.slice S n cap, .int .i64 f, .int .i64 kd, .int .i64 un, .bool uo] ks 0 ⟨(noB, f), .nil, some ⟨w.heap.size + 1 + 1, 0, none⟩, ks.length⟩ w0) := by
      have hb3 : Below w.heap.size w w0 := HB0.out.grown hgrow0 (by simp; omega) (fun k e => by cases e)
      have hg0 : ∀ q, q < w.heap.size + 2 → w0.heap[q]? = ((w.alloc (.cells #[.slice S n cap, .int .i64 f, .int .i64 kd, .int .i64 un, .bool uo] 84)).alloc (.cells #[.string ⟨#[]⟩, .int .i64 0, .slice none 0 0] 28)).heap[q]? := fun q hq => hgrow0.block q (by simp; omega) (by simp)
      refine ⟨rfl, ?_, Turned.of_below hb3 A, (hg0 _ (by omega)).trans HF0.out, (hg0 _ (by omega)).trans HX0.out, rfl⟩
      have hrest : GL LoosE w0 ks (fun q => A q ∧ q < w.heap.size) := (HKS.out.within loosE).keep loosE (fun q _ hq => hb3.block q hq)
      have hall : LoosE w0 (fun q => q = w.heap.size + 2) ⟨(noB, f), .nil, some ⟨w.heap.size + 1 + 1, 0, none⟩, ks.length⟩ := by
        refine ⟨⟨⟨by show noB.size ≤ maxLen; decide, Nat.zero_le _, by show ks.length ≤ maxLen; omega, by simp [lenF]⟩, .inl rfl⟩, fun _ => ?_⟩
        rcases hown0.2 with ⟨hv, _⟩ | ⟨g', cap', cur, hv, _, hh, _, _, hcs, _⟩
        · cases hv
        · cases hv
          rw [World.size_alloc, World.size_alloc] at hh
          exact .inr ⟨w.heap.size + 1 + 1, cur, rfl, rfl, hh, hcs⟩
      refine (GL.cons hall hrest (fun q hq h => by have := h.2; omega)).mono (fun q hq => ?_)
      rcases hq with h | h
      · exact .inr (by omega)
      · exact .inl h
    clear hown0 hgrow0 HB0 HF0 HX0
    go_loopw [5, 7, 19] (fun ov _ i wr => ∃ (j : Nat) (k : Kv), j ≤ ks.length ∧ ov = .slice k.a (lenF k.l) k.c ∧ i = .int .i64 j ∧ FlatSt (sgOf l) f A w #[.slice S n cap, .int .i64 f, .int .i64 kd, .int .i64 un, .bool uo] ks j k wr) (fun _ _ i _ => ks.length - (intOf i).toNat)
    case atStart => exact ⟨0, _, Nat.zero_le _, rfl, rfl, ST0.out⟩
    case round =>
      obtain ⟨j, k, hj, rfl, rfl, hst⟩ := hrel
      have ST : Hid (FlatSt (sgOf l) f A w #[.slice S n cap, .int .i64 f, .int .i64 kd, .int .i64 un, .bool uo] ks j k wr) := hst
      clear hst
      by_cases hlt : j < ks.length
      · obtain ⟨kj, hkj⟩ : ∃ kj, ks[j]? = some kj := ⟨_, List.getElem?_eq_getElem hlt⟩
        obtain ⟨bb, oo, rfl, p0, p1, p2⟩ := (HR.out wr ST.out.turned).cells3 hkj
        obtain ⟨A1, A2, R2, e1, e2, g, d12, a1, a2, r2⟩ := ST.out.apart hkj
        have HKJ : Hid (ks[j]? = some kj) := hkj
        have HE1 : Hid (LoosE wr A1 k) := e1
        have HE2 : Hid (LoosE wr A2 kj) := e2
        have HGR : Hid (GL LoosE wr (ks.drop (j + 1)) R2) := g
        have HD : Hid (∀ q, A1 q → ¬ A2 q) := d12
        have HA1 : Hid (∀ q, A1 q → ((A q ∧ q < w.heap.size) ∨ w.heap.size + 2 ≤ q) ∧ q < wr.heap.size) := a1
        have HA2 : Hid (∀ q, A2 q → ((A q ∧ q < w.heap.size) ∨ w.heap.size + 2 ≤ q) ∧ q < wr.heap.size) := a2
        have HR2 : Hid (∀ q, R2 q → (((A q ∧ q < w.heap.size) ∨ w.heap.size + 2 ≤ q) ∧ q < wr.heap.size) ∧ ¬ A1 q ∧ ¬ A2 q) := r2
        have hb1 : Below wr.heap.size wr (wr.alloc (.cells #[.string kj.x.1, .int .i64 kj.x.2, .slice kj.a (lenF kj.l) kj.c] 28)) := (Below.refl _ _).alloc (Nat.le_refl _) _
        have HB1 : Hid (Below wr.heap.size wr (wr.alloc (.cells #[.string kj.x.1, .int .i64 kj.x.2, .slice kj.a (lenF kj.l) kj.c] 28))) := hb1
        have hX : XBox (wr.alloc (.cells #[.string kj.x.1, .int .i64 kj.x.2, .slice kj.a (lenF kj.l) kj.c] 28)) wr.heap.size kj.x (.slice kj.a (lenF kj.l) kj.c) := World.alloc_heap_new wr _
        have HX : Hid (XBox (wr.alloc (.cells #[.string kj.x.1, .int .i64 kj.x.2, .slice kj.a (lenF kj.l) kj.c] 28)) wr.heap.size kj.x (.slice kj.a (lenF kj.l) kj.c)) := hX
        have fb := ST.out.fbox.below hb1
        have q0 := fb.c 0; have q1 := fb.c 1; have q2 := fb.c 2; have q3 := fb.c 3; have q4 := fb.c 4
        have hfe : wr.heap.size ≠ w.heap.size := by have := ST.out.fbox.lt; omega
        have hll := ST.out.size HSZ.out
        obtain ⟨gb, hgb⟩ : ∃ gb, (!decide (kd = 1) && headed f kj.tn) = gb := ⟨_, rfl⟩
        have HC : Hid (∀ W, Calls Tryz.prog 121 #[.agg #[.slice S n cap, .int .i64 f, .int .i64 kd, .int .i64 un, .bool uo], .agg #[.string kj.x.1, .int .i64 kj.x.2, .slice kj.a (lenF kj.l) kj.c]] W fun e w' => e = .returned (.bool gb) ∧ Below W.heap.size W w') := fun W => by
          have := gathers_any S n cap f kd un uo kj.tn kj.a kj.c W
          rw [hgb] at this
          exact this
        have HGB : Hid ((!decide (kd = 1) && headed f kj.tn) = gb) := hgb
        clear hgb hkj e1 e2 g d12 a1 a2 r2 hb1 hX fb
        have arm : Hid (∀ w2, Below (wr.alloc (.cells #[.string kj.x.1, .int .i64 kj.x.2, .slice kj.a (lenF kj.l) kj.c] 28)).heap.size (wr.alloc (.cells #[.string kj.x.1, .int .i64 kj.x.2, .slice kj.a (lenF kj.l) kj.c] 28)) w2 → Below wr.heap.size wr w2 ∧ XBox w2 wr.heap.size kj.x (.slice kj.a (lenF kj.l) kj.c) ∧ Box w2 w.heap.size 84 #[.slice S n cap, .int .i64 f, .int .i64 kd, .int .i64 un, .bool uo]) := fun w2 hb2 => ⟨HB1.out.trans (hb2.mono HB1.out.size), HX.out.below hb2, (ST.out.fbox.below HB1.out).below hb2⟩
        cases gb
        · have hnh : headed f kj.tn = false := by have h1 := HKD.out; have h2 := HGB.out; rw [h1] at h2; simpa using h2
          have HNH : Hid (headed f kj.tn = false) := hnh
          have HSE : Hid (∀ w2, Below wr.heap.size wr w2 → Calls Tryz.prog 44 #[.slice S n cap, .agg #[.string kj.x.1, .int .i64 kj.x.2, .slice kj.a (lenF kj.l) kj.c]] w2 fun e w' => ∃ F, e = .returned (.agg #[.string kj.x.1, .int .i64 kj.x.2, .slice kj.a (lenF F) kj.c]) ∧ lenF F = lenF kj.l ∧ SetR (sgOf l) kj.tn (kj.x, F) ∧ LoosE w' A2 ⟨kj.x, F, kj.a, kj.c⟩ ∧ Turned A2 w2 w') := fun w2 hb => settle_any S n cap l kj A2 w2 (HS.out w2 ((ST.out.turned.below HA.out hB).trans (hb.mono (by have := ST.out.turned.size; omega)))) (loosE.keep (fun q _ hq => hb.block q hq) HE2.out)
          have AR : Hid (∀ w2 w3 o, Below wr.heap.size wr w2 → Turned A2 w2 w3 → LoosE (w3.alloc o) A1 k ∧ w2.heap.size ≤ w3.heap.size) := fun w2 w3 o hb ht => ⟨loosE.keep (fun q hq hlt => by
            have h2 := hb.size
            have h3 := ht.size
            exact (Below.heap_alloc _ _ _ (by omega)).trans ((ht.block q (by omega) (HD.out q hq)).trans (hb.block q hlt))) HE1.out, ht.size⟩
          have HNK : Hid (noName k.x.1 = true) := by show _ = _; rw [ST.out.head]; exact noName_noB
          have HXK : Hid (k.x.1.size ≤ maxLen) := HE1.out.1.sizes.name
          clear hnh
          go_wp2_with (first
            | (at_builtin; obtain ⟨la, l1, l2, l3, l4⟩ := (AR.out w2 w3 (.cells #[.string kj.x.1, .int .i64 kj.x.2, .slice kj.a (lenF F) kj.c] 28) HW2.out HT3.out).1.row HNK.out; have hl0 : la.length = lenF k.l := (by have := congrArg List.length l1; rwa [List.length_map, kids_len] at this); refine wpList_append_all rfl _ _ rfl 0 (.slice k.a (lenF k.l) k.c) la rfl (by rw [hl0]; exact l2 0 (fun q _ => Nat.zero_le q)) (some ⟨w3.heap.size, 0, none⟩) 1 1 [⟨kj.x, F, kj.a, kj.c⟩] rfl (RowAt.new w3 ⟨kj.x, F, kj.a, kj.c⟩) (fun e => by cases e) (by omega) (Nat.zero_le _) ?_; intro v' w5 hown hgrow hat; obtain ⟨a', c', e', hL, hT⟩ := app_loosE (x := k.x) (B := A2) HXK.out l3 l4 (GL.one (E := SepE) (sepE.keep (fun q _ hq => Below.heap_alloc _ _ _ hq) HE3.out.1)) HD.out hown hgrow hat (by rw [List.length_append, hl0]; simp; omega); have HL := hid hL; have HT5 := hid hT; have HL1 : Hid (la.map Kv.tn = kidsL k.l) := l1; have HEV : Hid (la.length = lenF k.l) := hl0; clear hown hgrow hat l1 l2 l3 l4 hL hT hl0; subst e')
            | (go_at_call 44; refine (HSE.out _ HW2.out).mono ?_; rintro e w3 ⟨F, rfl, hF, hset, hE3, ht3⟩; have HF3 : Hid (lenF F = lenF kj.l) := hF; have HST : Hid (SetR (sgOf l) kj.tn (kj.x, F)) := hset; have HE3 : Hid (LoosE w3 A2 ⟨kj.x, F, kj.a, kj.c⟩) := hE3; have HT3 : Hid (Turned A2 w2 w3) := ht3; clear hF hset hE3 ht3)
            | (go_at_call 121; refine (HC.out _).mono ?_; rintro e w2 ⟨rfl, hb2⟩; have ha := arm.out w2 hb2; have HW2 : Hid (Below wr.heap.size wr w2) := ha.1; have x0 := ha.2.1.c0; have x1 := ha.2.1.c1; have x2 := ha.2.1.c2; have y0 := ha.2.2.c 0; clear ha hb2 q0 q1 q2 q3 q4)
            | fail)
          go_roundw
          case rel =>
            have hm : kidsL (mkF ((la ++ [(⟨kj.x, F, kj.a, kj.c⟩ : Kv)]).map Kv.tn)) = kidsL k.l ++ [(kj.x, F)] := by rw [kids_mk, List.map_append, HL1.out]; rfl
            have hal := (Below.refl w3.heap.size w3).alloc (Nat.le_refl _) (.cells #[.string kj.x.1, .int .i64 kj.x.2, .slice kj.a (lenF F) kj.c] 28)
            have ht : Turned (fun q => A1 q ∨ A2 q) w2 w5 := ((HT3.out.mono (fun q _ hq => .inr hq)).trans (Turned.of_below hal _)).trans (HT5.out.mono (fun q _ hq => .inl hq))
            refine ⟨j + 1, ⟨k.x, mkF ((la ++ [(⟨kj.x, F, kj.a, kj.c⟩ : Kv)]).map Kv.tn), a', c'⟩, by omega, by simp [len_mk], by go_num, ST.out.step HKJ.out HA1.out HA2.out HR2.out HGR.out HW2.out ht ST.out.head (loosE.mono (fun q hq => ?_) HL.out) (p := [(kj.x, F)]) (by unfold PartR; rw [HNH.out]; exact ⟨_, HST.out, rfl⟩) (by rw [hm])⟩
            rcases hq with h | h | h
            · exact .inl (.inl h)
            · exact .inl (.inr h)
            · exact .inr (by have := HT3.out.size; rw [World.size_alloc] at h; omega)
          case measure => simp [intOf]; omega
        · have hh : headed f kj.tn = true := by have h2 := HGB.out; simp at h2; exact h2.2
          have HHH : Hid (headed f kj.tn = true) := hh
          have hnn : noName kj.x.1 = true := (headed_iff.1 hh).1
          have HTG : Hid (∀ w2, Below wr.heap.size wr w2 → Calls Tryz.prog 122 #[.slice k.a (lenF k.l) k.c, .slice kj.a (lenF kj.l) kj.c] w2 fun e w' => ∃ F a c, e = .returned (.slice a (lenF F) c) ∧ List.Perm (kidsL F) (kidsL k.l ++ kidsL kj.l) ∧ LoosE w' (fun q => (A1 q ∨ A2 q) ∨ w2.heap.size ≤ q) ⟨k.x, F, a, c⟩ ∧ Turned (fun q => A1 q ∨ A2 q) w2 w') := fun w2 hb => by
            refine together_any k kj A1 A2 w2 (loosE.keep (fun q _ hq => hb.block q hq) HE1.out) (loosE.keep (fun q _ hq => hb.block q hq) HE2.out) (by rw [ST.out.head]; exact noName_noB) hnn HD.out ?_
            have h1 := sizes_mem (List.mem_map_of_mem (f := Kv.tn) (List.mem_of_getElem? HKJ.out))
            have h2 := len_nodes kj.l
            have h3 : sizeT kj.tn = nodesF kj.l + 1 := rfl
            have h4 := HSZ.out
            omega
          clear hh hnn
          go_wp2_with (first
            | (go_at_call 122; refine (HTG.out _ HW2.out).mono ?_; rintro e w3 ⟨F, a', c', rfl, hp3, hE3, ht3⟩; have HP3 : Hid (List.Perm (kidsL F) (kidsL k.l ++ kidsL kj.l)) := hp3; have HE3 : Hid (LoosE w3 (fun q => (A1 q ∨ A2 q) ∨ w2.heap.size ≤ q) ⟨k.x, F, a', c'⟩) := hE3; have HT3 : Hid (Turned (fun q => A1 q ∨ A2 q) w2 w3) := ht3; clear hp3 hE3 ht3)
            | (go_at_call 121; refine (HC.out _).mono ?_; rintro e w2 ⟨rfl, hb2⟩; have ha := arm.out w2 hb2; have HW2 : Hid (Below wr.heap.size wr w2) := ha.1; have x0 := ha.2.1.c0; have x1 := ha.2.1.c1; have x2 := ha.2.1.c2; have y0 := ha.2.2.c 0; clear ha hb2 q0 q1 q2 q3 q4)
            | fail)
          go_roundw
          case rel => exact ⟨j + 1, ⟨k.x, F, a', c'⟩, by omega, rfl, by go_num, ST.out.step HKJ.out HA1.out HA2.out HR2.out HGR.out HW2.out HT3.out ST.out.head HE3.out (by unfold PartR; rw [HHH.out]; exact List.Perm.refl _) HP3.out⟩
          case measure => simp [intOf]; omega
      · have ej : j = ks.length := by omega
        have c1 : wr.cell? ⟨w.heap.size, 1, none⟩ = some (.int .i64 f) := ST.out.fbox.c 1
        have X2 := ST.out.rbox
        have r0 := X2.c0; have r1 := X2.c1; have r2 := X2.c2
        have g0 := X2.f (k := 0); have g1 := X2.f (k := 1); have g2 := X2.f (k := 2)
        clear X2
        go_wp2
        refine bodyPost_ret (results_cell_row rfl _ _ (w.heap.size + 1) 28 #[.string ⟨#[]⟩, .int .i64 f, .slice k.a (lenF k.l) k.c] (0, 0) _ rfl (ST.out.rbox.all (x := (⟨#[]⟩, f)) _) Tryz.underlying28 rfl Tryz.size28) rfl ?_
        obtain ⟨A1, R1, a1, r1, e1, _⟩ := ST.out.gl
        have hx := ST.out.head
        have hE := e1.mk
        rw [hx] at hE
        refine ⟨⟨(noB, f), mkF (kidsL k.l), k.a, k.c⟩, by rw [len_mk_kids]; rfl, .inr ⟨by rw [List.length_map]; exact HH1.out, kidsL k.l, ?_, rfl⟩, ?_, ?_⟩
        · have := ST.out.flat
          rwa [ej, List.take_length] at this
        · refine loosE.mono (fun q hq => ?_) (loosE.keep (fun q hq _ => sets_far ?_ _ _ _) hE)
          · rcases a1 q hq with h | h
            · exact .inl h.1
            · exact .inr (by omega)
          · rcases a1 q hq with h | h <;> omega
        · have hT := ST.out.turned
          exact ⟨hT.os, hT.tape, hT.output, by have := hT.size; simp; omega, fun q hq hn => (sets_far (by omega) _ _ _).trans (hT.block q hq hn)⟩
end Go.Proofs.YtppgmepmegelbaaGreatDoor
/- What keep of package canon makes of loose forms: each in order, in its place. -/
namespace Go.Proofs.YtppgmepmegelbaaGreatDoor
open Go.RowKit Go.Deep

/-- A row of terms from a block's head on, with room for c. -/
structure RowL (w : World) (g c : Nat) (ks : List Kv) : Prop where
  row : ∃ cur, w.heap[g]? = some (Obj.cells cur 28 (0, 0)) ∧ cur.size = c * 3 ∧ ∀ (j : Nat) (u : Value), (kvCells ks)[j]? = some u → cur[j]? = some u
  len : ks.length ≤ c
theorem RowL.lt {w : World} {g c : Nat} {ks : List Kv} (h : RowL w g c ks) : g < w.heap.size := by
  obtain ⟨cur, h1, _⟩ := h.row
  exact (Array.getElem?_eq_some_iff.1 h1).1
theorem RowL.keep {w w' : World} {g c : Nat} {ks : List Kv} (h : RowL w g c ks) (hg : w'.heap[g]? = w.heap[g]?) : RowL w' g c ks := by
  obtain ⟨cur, h1, h2, h3⟩ := h.row
  exact ⟨⟨cur, hg.trans h1, h2, h3⟩, h.len⟩
theorem RowL.at_ {w : World} {g c : Nat} {ks : List Kv} (h : RowL w g c ks) : RowAt w (some ⟨g, 0, none⟩) ks.length ks := by
  obtain ⟨cur, h1, h2, h3⟩ := h.row
  exact ⟨rfl, fun j u hu => ⟨g, 0, rfl, by rw [Nat.zero_add, cell_of_row w g j cur 28 (0, 0) h1]; exact h3 j u hu⟩⟩
theorem RowL.cell {w : World} {g c : Nat} {ks : List Kv} (h : RowL w g c ks) {i : Nat} (hi : i < c * 3) : ∃ v, w.cell? ⟨g, i, none⟩ = some v := by
  obtain ⟨cur, h1, h2, _⟩ := h.row
  exact ⟨cur[i]'(by omega), by rw [cell_of_row w g i cur 28 (0, 0) h1]; simp [show i < cur.size by omega]⟩
theorem RowL.frozen {w : World} {g c : Nat} {ks : List Kv} (h : RowL w g c ks) (i : Nat) : w.frozen? ⟨g, i, none⟩ = false := by
  obtain ⟨cur, h1, _⟩ := h.row
  simp [World.frozen?, h1]
theorem kvCells_set (ks : List Kv) (j : Nat) (k : Kv) (hj : j < ks.length) (i : Nat) : (kvCells (ks.set j k))[i]? = if i / 3 = j then k.cells[i % 3]? else (kvCells ks)[i]? := by
  by_cases hi : i / 3 < ks.length
  · have e : i = i / 3 * 3 + i % 3 := by omega
    by_cases hij : i / 3 = j
    · rw [if_pos hij]
      have h1 : (ks.set j k)[i / 3]? = some k := by rw [hij]; simp [hj]
      rw [e]
      have := kvCells_nth (ks.set j k) (i / 3) (i % 3) h1 (by omega)
      rw [this]
      congr 1
      omega
    · rw [if_neg hij]
      have h1 : (ks.set j k)[i / 3]? = ks[i / 3]? := by rw [List.getElem?_set_ne (fun h => hij h.symm)]
      have h2 : ks[i / 3]? = some ks[i / 3] := List.getElem?_eq_getElem hi
      rw [e, kvCells_nth (ks.set j k) (i / 3) (i % 3) (h1.trans h2) (by omega), kvCells_nth ks (i / 3) (i % 3) h2 (by omega)]
  · rw [if_neg (by omega), List.getElem?_eq_none (by rw [kvCells_len, List.length_set]; omega), List.getElem?_eq_none (by rw [kvCells_len]; omega)]
/-- A term is stored at a place. -/
theorem RowL.set {w : World} {g c : Nat} {ks : List Kv} (h : RowL w g c ks) {j : Nat} (hj : j < ks.length) (k : Kv) :
    RowL (((w.setCell ⟨g, j * 3, none⟩ (.string k.x.1)).setCell ⟨g, j * 3 + 1, none⟩ (.int .i64 k.x.2)).setCell ⟨g, j * 3 + 2, none⟩ (.slice k.a (lenF k.l) k.c)) g c (ks.set j k) := by
  obtain ⟨cur, h1, h2, h3⟩ := h.row
  have hl := h.len
  refine ⟨⟨_, block_set (block_set (block_set h1 _) _) _, by simp [h2], fun i u hu => ?_⟩, by rw [List.length_set]; exact hl⟩
  rw [kvCells_set ks j k hj] at hu
  simp only [Array.getElem?_setIfInBounds, Array.size_setIfInBounds]
  by_cases hij : i / 3 = j
  · rw [if_pos hij] at hu
    have hcase : i = j * 3 ∨ i = j * 3 + 1 ∨ i = j * 3 + 2 := by omega
    rcases hcase with e | e | e
    · subst e
      rw [if_neg (by omega), if_neg (by omega), if_pos rfl, if_pos (by omega)]
      rw [show j * 3 % 3 = 0 by omega] at hu
      simpa [Kv.cells] using hu
    · subst e
      rw [if_neg (by omega), if_pos rfl, if_pos (by omega)]
      rw [show (j * 3 + 1) % 3 = 1 by omega] at hu
      simpa [Kv.cells] using hu
    · subst e
      rw [if_pos rfl, if_pos (by omega)]
      rw [show (j * 3 + 2) % 3 = 2 by omega] at hu
      simpa [Kv.cells] using hu
  · rw [if_neg hij] at hu
    rw [if_neg (by omega), if_neg (by omega), if_neg (by omega)]
    exact h3 i u hu
theorem sets_far3 {W : World} {g q i : Nat} (h : q ≠ g) (a b c : Value) : (((W.setCell ⟨g, i, none⟩ a).setCell ⟨g, i + 1, none⟩ b).setCell ⟨g, i + 2, none⟩ c).heap[q]? = W.heap[q]? :=
  (Below.heap_setCell _ _ _ _ h).trans ((Below.heap_setCell _ _ _ _ h).trans (Below.heap_setCell _ _ _ _ h))
theorem gl_set {E : World → Bl → Kv → Prop} {w : World} {ks : List Kv} {A : Bl} {j : Nat} {k : Kv} (h : GL E w ks A) (hj : ks[j]? = some k) : ∃ A1 A2 : Bl, (∀ q, A1 q → A q) ∧ (∀ q, A2 q → A q ∧ ¬ A1 q) ∧ E w A1 k ∧ GL E w (ks.take j ++ ks.drop (j + 1)) A2 := by
  have e : ks = ks.take j ++ k :: ks.drop (j + 1) := by rw [← drop_cons hj, List.take_append_drop]
  rw [e] at h
  obtain ⟨A1, A2, h1, h2, h3, h4⟩ := h.perm List.perm_middle
  exact ⟨A1, A2, h1, h2, h3, h4⟩
theorem gl_put {E : World → Bl → Kv → Prop} {w : World} {ks : List Kv} {A A1 A2 : Bl} {j : Nat} {k : Kv} (hj : j < ks.length) (h1 : ∀ q, A1 q → A q) (h2 : ∀ q, A2 q → A q ∧ ¬ A1 q) (hE : E w A1 k) (hg : GL E w (ks.take j ++ ks.drop (j + 1)) A2) : GL E w (ks.set j k) A := by
  have e : ks.set j k = ks.take j ++ k :: ks.drop (j + 1) := List.set_eq_take_append_cons_drop.trans (if_pos hj)
  rw [e]
  exact GL.perm List.perm_middle.symm ⟨A1, A2, h1, h2, hE, hg⟩

/-- Where keep stands before the term j. -/
structure KeepSt (S : Sg) (A : Bl) (w : World) (g c : Nat) (hv : Array Value) (ks : List Kv) (j : Nat) (ms : List Kv) (W : World) : Prop where
  len : ms.length = ks.length
  row : RowL W g c ms
  gl : GL LoosE W ms (fun q => A q ∧ q < w.heap.size)
  turned : Turned (fun q => A q ∨ q = g) w W
  fbox : Box W w.heap.size 84 hv
  rbox : XBox W (w.heap.size + 1) (⟨#[]⟩, 0) (.slice none 0 0)
  done : All2 (SetR S) ((ks.map Kv.tn).take j) ((ms.map Kv.tn).take j)
  rest : ms.drop j = ks.drop j

theorem KeepSt.step {S : Sg} {A A1 A2 : Bl} {w W w2 w3 : World} {g c : Nat} {hv : Array Value} {ks ms : List Kv} {j : Nat} {k : Kv} {F : Fo} (h : KeepSt S A w g c hv ks j ms W) (hg : ¬ A g) (hgl : g < w.heap.size) (hj : ms[j]? = some k) (h1 : ∀ q, A1 q → A q ∧ q < w.heap.size) (h2 : ∀ q, A2 q → (A q ∧ q < w.heap.size) ∧ ¬ A1 q)
    (hgl2 : GL LoosE W (ms.take j ++ ms.drop (j + 1)) A2) (hb : Below W.heap.size W w2) (ht : Turned A1 w2 w3) (hE : LoosE w3 A1 ⟨k.x, F, k.a, k.c⟩) (hset : SetR S k.tn (k.x, F)) :
    KeepSt S A w g c hv ks (j + 1) (ms.set j ⟨k.x, F, k.a, k.c⟩) (((w3.setCell ⟨g, j * 3, none⟩ (.string k.x.1)).setCell ⟨g, j * 3 + 1, none⟩ (.int .i64 k.x.2)).setCell ⟨g, j * 3 + 2, none⟩ (.slice k.a (lenF F) k.c)) := by
  have hbs := hb.size
  have hfl := h.fbox.lt
  have hrl := h.rbox.lt
  have hjl : j < ms.length := (List.getElem?_eq_some_iff.1 hj).1
  have n1 : ∀ q, q = g ∨ w.heap.size ≤ q → ¬ A1 q := fun q hq h' => by
    rcases hq with rfl | hq
    · exact hg (h1 q h').1
    · have := (h1 q h').2; omega
  have key : ∀ q, q < W.heap.size → ¬ A1 q → w3.heap[q]? = W.heap[q]? := fun q hq hn => (ht.block q (by omega) hn).trans (hb.block q hq)
  have far : ∀ q, q ≠ g → (((w3.setCell ⟨g, j * 3, none⟩ (.string k.x.1)).setCell ⟨g, j * 3 + 1, none⟩ (.int .i64 k.x.2)).setCell ⟨g, j * 3 + 2, none⟩ (.slice k.a (lenF F) k.c)).heap[q]? = w3.heap[q]? := fun q hq => sets_far3 hq _ _ _
  have ng : ∀ q, A q ∧ q < w.heap.size → q ≠ g := fun q hq e => hg (e ▸ hq.1)
  refine ⟨by rw [List.length_set]; exact h.len, RowL.set (h.row.keep (key g (by omega) (n1 g (.inl rfl)))) hjl ⟨k.x, F, k.a, k.c⟩, ?_, ?_, ?_, ?_, ?_, ?_⟩
  · refine gl_put hjl h1 h2 (loosE.keep (fun q hq _ => far q (ng q (h1 q hq))) hE) ?_
    exact hgl2.keep loosE (fun q hq hlt => (far q (ng q (h2 q hq).1)).trans (key q hlt (h2 q hq).2))
  · refine (h.turned.then (Turned.of_below hb (fun _ => False)) (fun q _ hq => hq.elim)).then (X := fun q => A1 q ∨ q = g) ?_ (fun q _ hq => by
      rcases hq with hq | hq
      · exact .inl (h1 q hq).1
      · exact .inr hq)
    exact ⟨ht.os, ht.tape, ht.output, by have := ht.size; simpa using this, fun q hq hn => (far q (fun e => hn (.inr e))).trans (ht.block q hq (fun e => hn (.inl e)))⟩
  · exact (far _ (by omega)).trans ((key _ hfl (n1 _ (.inr (Nat.le_refl _)))).trans h.fbox)
  · exact (far _ (by omega)).trans ((key _ hrl (n1 _ (.inr (by omega)))).trans h.rbox)
  · have hk : ks[j]? = some k := by
      have e := h.rest
      have e1 := drop_cons hj
      rw [e] at e1
      have := congrArg (·[0]?) e1
      simpa using this
    have t1 : (ks.map Kv.tn).take (j + 1) = (ks.map Kv.tn).take j ++ [k.tn] := take_snoc (by rw [List.getElem?_map, hk]; rfl)
    have t2 : ((ms.set j ⟨k.x, F, k.a, k.c⟩).map Kv.tn).take (j + 1) = (ms.map Kv.tn).take j ++ [(k.x, F)] := by
      rw [take_snoc (x := (k.x, F)) (by rw [List.getElem?_map, List.getElem?_set_self hjl]; rfl), ← List.map_take, ← List.map_take, List.take_set_of_le (Nat.le_refl _)]
    rw [t1, t2]
    exact h.done.snoc hset
  · have e := h.rest
    rw [List.drop_set_of_lt (by omega)]
    have := congrArg (List.drop 1) e
    simpa [List.drop_drop] using this

set_option maxRecDepth 100000 in
set_option maxHeartbeats 2000000 in
theorem keep_any (S : Option Addr) (n cap : Nat) (l : List Sym) (f : Int) (ks : List Kv) (g c B : Nat) (A : Bl) (w : World) (hS : SigLow B w S n l) (hB : B ≤ w.heap.size) (hA : ∀ q, A q → B ≤ q) (hgB : B ≤ g) (hg : ¬ A g) (hrow : RowL w g c ks) (hks : GL LoosE w ks A) (hsz : sizes (ks.map Kv.tn) ≤ 1048576) (hc : c ≤ maxLen) :
    Calls Tryz.prog 92 #[.agg (headV S n cap l f), .slice (some ⟨g, 0, none⟩) ks.length c] w fun e w' => ∃ k : Kv, e = .returned (.agg #[.string k.x.1, .int .i64 k.x.2, .slice k.a (lenF k.l) k.c]) ∧ (∃ rs', All2 (SetR (sgOf l)) (ks.map Kv.tn) rs' ∧ k.tn = ((noB, f), mkF rs')) ∧ LoosE w' (fun q => (A q ∨ q = g) ∨ w.heap.size ≤ q) k ∧ Turned (fun q => A q ∨ q = g) w w' := by
  have HS : Hid (SigLow B w S n l) := hS
  have HA : Hid (∀ q, A q → B ≤ q) := hA
  have HG : Hid (¬ A g) := hg
  have HR : Hid (RowL w g c ks) := hrow
  have HKS : Hid (GL LoosE w ks A) := hks
  have hlen : ks.length ≤ 1048576 := by have := psizes_len (ks.map Kv.tn); rw [List.length_map] at this; omega
  have hmax : maxLen = 9223372036854775807 := rfl
  have hlc := hrow.len
  have hglt := hrow.lt
  clear hS hA hrow hks hsz hg
  unfold headV
  obtain ⟨kd, hkd⟩ : ∃ kd, kindK l f = kd := ⟨_, rfl⟩
  obtain ⟨un, hun⟩ : ∃ un, unitI l f = un := ⟨_, rfl⟩
  obtain ⟨uo, huo⟩ : ∃ uo, unitOk l f = uo := ⟨_, rfl⟩
  rw [hkd, hun, huo]
  clear hkd hun huo
  have ST0 : Hid (KeepSt (sgOf l) A w g c #[.slice S n cap, .int .i64 f, .int .i64 kd, .int .i64 un, .bool uo] ks 0 ks ((w.alloc (.cells #[.slice S n cap, .int .i64 f, .int .i64 kd, .int .i64 un, .bool uo] 84)).alloc (.cells #[.string ⟨#[]⟩, .int .i64 0, .slice none 0 0] 28))) := by
    have hb0 : Below w.heap.size w ((w.alloc (.cells #[.slice S n cap, .int .i64 f, .int .i64 kd, .int .i64 un, .bool uo] 84)).alloc (.cells #[.string ⟨#[]⟩, .int .i64 0, .slice none 0 0] 28)) := ((Below.refl _ w).alloc (Nat.le_refl _) _).alloc (by simp) _
    refine ⟨rfl, HR.out.keep (hb0.block g hglt), (HKS.out.within loosE).keep loosE (fun q _ hq => hb0.block q hq), Turned.of_below hb0 _, (Box.new w 84 _).below ((Below.refl _ _).alloc (Nat.le_refl _) _), ?_, trivial, rfl⟩
    have := World.alloc_heap_new (w.alloc (.cells #[.slice S n cap, .int .i64 f, .int .i64 kd, .int .i64 un, .bool uo] 84)) (.cells #[.string ⟨#[]⟩, .int .i64 0, .slice none 0 0] 28)
    rw [World.size_alloc] at this
    exact this
  go_enter Tryz.func92, Tryz.ntmps92
  go_wp2
  go_loopw [5, 6, 9] (fun _ _ i wr => ∃ (j : Nat) (ms : List Kv), j ≤ ks.length ∧ i = .int .i64 j ∧ KeepSt (sgOf l) A w g c #[.slice S n cap, .int .i64 f, .int .i64 kd, .int .i64 un, .bool uo] ks j ms wr) (fun _ _ i _ => ks.length - (intOf i).toNat)
  case atStart => exact ⟨0, ks, Nat.zero_le _, rfl, ST0.out⟩
  case round =>
    obtain ⟨j, ms, hj, rfl, hst⟩ := hrel
    have ST : Hid (KeepSt (sgOf l) A w g c #[.slice S n cap, .int .i64 f, .int .i64 kd, .int .i64 un, .bool uo] ks j ms wr) := hst
    clear hst ST0
    by_cases hlt : j < ks.length
    · obtain ⟨kj, hkj⟩ : ∃ kj, ms[j]? = some kj := ⟨_, List.getElem?_eq_getElem (by rw [ST.out.len]; exact hlt)⟩
      obtain ⟨bb, oo, e0, p0, p1, p2⟩ := ST.out.row.at_.cells3 hkj
      cases e0
      rw [Nat.zero_add] at p0 p1 p2
      obtain ⟨A1, A2, a1, a2, e1, g2⟩ := gl_set ST.out.gl hkj
      have HKJ := hid hkj
      have HA1 := hid a1
      have HA2 := hid a2
      have HE1 := hid e1
      have HG2 := hid g2
      have hb1 : Below wr.heap.size wr (wr.alloc (.cells #[.string kj.x.1, .int .i64 kj.x.2, .slice kj.a (lenF kj.l) kj.c] 28)) := (Below.refl _ _).alloc (Nat.le_refl _) _
      have HB1 := hid hb1
      have hl2 := ST.out.turned.size
      have hfb := ST.out.fbox.lt
      have q0 : (wr.alloc (.cells #[.string kj.x.1, .int .i64 kj.x.2, .slice kj.a (lenF kj.l) kj.c] 28)).cell? ⟨w.heap.size, 0, none⟩ = some (.slice S n cap) := (ST.out.fbox.below hb1).c 0
      have HSE : Hid (Calls Tryz.prog 44 #[.slice S n cap, .agg #[.string kj.x.1, .int .i64 kj.x.2, .slice kj.a (lenF kj.l) kj.c]] (wr.alloc (.cells #[.string kj.x.1, .int .i64 kj.x.2, .slice kj.a (lenF kj.l) kj.c] 28)) fun e w' => ∃ F, e = .returned (.agg #[.string kj.x.1, .int .i64 kj.x.2, .slice kj.a (lenF F) kj.c]) ∧ lenF F = lenF kj.l ∧ SetR (sgOf l) kj.tn (kj.x, F) ∧ LoosE w' A1 ⟨kj.x, F, kj.a, kj.c⟩ ∧ Turned A1 (wr.alloc (.cells #[.string kj.x.1, .int .i64 kj.x.2, .slice kj.a (lenF kj.l) kj.c] 28)) w') :=
        settle_any S n cap l kj A1 _ (HS.out _ ((ST.out.turned.below (fun q hq => by rcases hq with hq | rfl; exact HA.out q hq; exact hgB) hB).trans (hb1.mono (by omega)))) (loosE.keep (fun q _ hq => hb1.block q hq) e1)
      have HROW : Hid (∀ w3, Turned A1 (wr.alloc (.cells #[.string kj.x.1, .int .i64 kj.x.2, .slice kj.a (lenF kj.l) kj.c] 28)) w3 → RowL w3 g c ms) := fun w3 ht => ST.out.row.keep ((ht.block g (by simp; omega) (fun h' => HG.out (HA1.out g h').1)).trans (hb1.block g (by omega)))
      clear hkj a1 a2 e1 g2 hb1
      go_wp2_with (first
        | (go_at_call 44; refine HSE.out.mono ?_; rintro e w3 ⟨F, rfl, hF, hset, hE3, ht3⟩; have HF3 := hid hF; have HST := hid hset; have HE3 := hid hE3; have HT3 := hid ht3; obtain ⟨u0, v0⟩ := (HROW.out w3 ht3).cell (i := j * 3) (by omega); obtain ⟨u1, v1⟩ := (HROW.out w3 ht3).cell (i := j * 3 + 1) (by omega); obtain ⟨u2, v2⟩ := (HROW.out w3 ht3).cell (i := j * 3 + 2) (by omega); have f0 := (HROW.out w3 ht3).frozen (j * 3); have f1 := (HROW.out w3 ht3).frozen (j * 3 + 1); have f2 := (HROW.out w3 ht3).frozen (j * 3 + 2); clear hF hset hE3 ht3 p0 p1 p2 q0)
        | fail)
      go_roundw
      case rel => exact ⟨j + 1, _, by omega, by go_num, ST.out.step HG.out hglt HKJ.out HA1.out HA2.out HG2.out HB1.out HT3.out HE3.out HST.out⟩
      case measure => simp [intOf]; omega
    · have ej : j = ks.length := by omega
      have c1 : wr.cell? ⟨w.heap.size, 1, none⟩ = some (.int .i64 f) := ST.out.fbox.c 1
      have X2 := ST.out.rbox
      have r0 := X2.c0; have r1 := X2.c1; have r2 := X2.c2
      have g0 := X2.f (k := 0); have g1 := X2.f (k := 1); have g2 := X2.f (k := 2)
      clear X2
      go_wp2
      refine bodyPost_ret (results_cell_row rfl _ _ (w.heap.size + 1) 28 #[.string ⟨#[]⟩, .int .i64 f, .slice (some ⟨g, 0, none⟩) ks.length c] (0, 0) _ rfl (ST.out.rbox.all (x := (⟨#[]⟩, f)) _) Tryz.underlying28 rfl Tryz.size28) rfl ?_
      have hml := ST.out.len
      have hT := ST.out.turned
      obtain ⟨cur, h1, h2, h3⟩ := ST.out.row.row
      refine ⟨⟨(noB, f), mkF (ms.map Kv.tn), some ⟨g, 0, none⟩, c⟩, by rw [len_mk, List.length_map, hml]; rfl, ⟨ms.map Kv.tn, ?_, rfl⟩, ?_, ?_⟩
      · have := ST.out.done
        rwa [ej, List.take_of_length_le (by simp), List.take_of_length_le (by simp [hml])] at this
      · refine loosE.mono (A := fun q => A q ∨ q = g) (fun q hq => .inl hq) ?_
        refine LoosE.make (by show noB.size ≤ maxLen; decide) (.inr rfl) ((sets_far (by omega) _ _ _).trans h1) h2 hc (by omega) (by omega) h3 ?_
        refine ((ST.out.gl.weak (E' := SepE) (fun _ _ h => h.1)).keep sepE (fun q hq _ => sets_far (by omega) _ _ _)).mono (fun q hq => ⟨.inl hq.1, fun e => HG.out (e ▸ hq.1)⟩)
      · exact ⟨hT.os, hT.tape, hT.output, by have := hT.size; simp; omega, fun q hq hn => (sets_far (by omega) _ _ _).trans (hT.block q hq hn)⟩
end Go.Proofs.YtppgmepmegelbaaGreatDoor
/- What slices.DeleteFunc makes of a row of loose forms by isUnit of package canon: the units are gone. -/
namespace Go.Proofs.YtppgmepmegelbaaGreatDoor
open Go.RowKit Go.Deep

set_option maxRecDepth 100000 in
theorem run_clear3 (w : World) (g o n c : Nat) (cur : Array Value) (hg : w.heap[g]? = some (Obj.cells cur 28 (0, 0))) (hn : 0 < n) (hsz : o + n * 3 ≤ cur.size) :
    ∃ cur' : Array Value, (∀ ty, (Builtin.clear_ #[26] ty #[.slice (some ⟨g, o, none⟩) n c]).run Tryz.prog w = .ok (.tuple #[]) (w.setRow g cur')) ∧ cur'.size = cur.size ∧ ∀ j : Nat, j < o → cur'[j]? = cur[j]? := by
  have hz : ∀ w, (zeroValue 28).run Tryz.prog w = .ok (.agg #[.string ⟨#[]⟩, .int .i64 0, .slice none 0 0]) w := Tryz.zeroValue28
  obtain ⟨zs, hzs⟩ : ∃ zs, (Builtin.zeroCells (Value.agg #[.string ⟨#[]⟩, .int .i64 0, .slice none 0 0]).cells n).toList = zs := ⟨_, rfl⟩
  have hl : zs.length = n * 3 := by rw [← hzs]; simp [Builtin.zeroCells, Value.cells]
  have h1 : ∀ v ∈ zs, v.oneCell' = true := by
    intro v hv
    rw [← hzs] at hv
    simp only [Builtin.zeroCells, Value.cells, Array.toList_map, List.mem_map] at hv
    obtain ⟨i, _, rfl⟩ := hv
    have : i % 3 = 0 ∨ i % 3 = 1 ∨ i % 3 = 2 := by omega
    show (#[Value.string ⟨#[]⟩, .int .i64 0, .slice none 0 0][i % 3]!).oneCell' = true
    rcases this with e | e | e <;> rw [e] <;> rfl
  have hst := run_storeCells_at (P := Tryz.prog) g o 28 zs 0 cur w hg (by rw [hl]; omega) h1
  simp only [Nat.add_zero] at hst
  refine ⟨(cur.toList.take o ++ zs ++ cur.toList.drop (o + zs.length)).toArray, fun ty => ?_, ?_, fun j hj => ?_⟩
  · obtain ⟨m, rfl⟩ : ∃ m, n = m + 1 := ⟨n - 1, by omega⟩
    simp [Builtin.clear_, run_underlying Tryz.underlying26, hz, hzs, hst]
  · simp; omega
  · simp only [List.getElem?_toArray, List.append_assoc]
    rw [List.getElem?_append_left (by simp; omega), List.getElem?_take_of_lt hj, Array.getElem?_toList]

set_option maxRecDepth 100000 in
set_option maxHeartbeats 1000000 in
theorem index_any (S : Option Addr) (n cap : Nat) (l : List Sym) (f : Int) (ks : List Kv) (g c : Nat) (A : Bl) (w : World) (hrow : RowL w g c ks) (hks : GL LoosE w ks A) (hlen : ks.length ≤ 1048576) :
    Calls Tryz.prog 137 #[.slice (some ⟨g, 0, none⟩) ks.length c, .func (.func 124) #[.agg (headV S n cap l f)] #[]] w fun e w' => Below w.heap.size w w' ∧ ((∃ j : Nat, ∃ k, ks[j]? = some k ∧ isUnB l f k.tn = true ∧ e = .returned (.int .i64 j) ∧ ∀ m ∈ ks.take j, isUnB l f m.tn = false) ∨ (e = .returned (.int .i64 (-1)) ∧ ∀ m ∈ ks, isUnB l f m.tn = false)) := by
  have HR := hid hrow
  have HKS := hid hks
  clear hrow hks
  unfold headV
  obtain ⟨kd, hkd⟩ : ∃ kd, kindK l f = kd := ⟨_, rfl⟩
  rw [hkd]
  clear hkd
  go_enter Tryz.func137, Tryz.ntmps137
  go_wp2
  go_loopw [4, 5, 8] (fun _ _ i wr => ∃ j : Nat, j ≤ ks.length ∧ i = .int .i64 j ∧ Below w.heap.size w wr ∧ ∀ m ∈ ks.take j, isUnB l f m.tn = false) (fun _ _ i _ => ks.length - (intOf i).toNat)
  case atStart => exact ⟨0, Nat.zero_le _, rfl, Below.refl _ _, by simp⟩
  case round =>
    obtain ⟨j, hj, rfl, hb, hno⟩ := hrel
    have HB := hid hb
    have HNO := hid hno
    clear hno
    by_cases hlt : j < ks.length
    · obtain ⟨kj, hkj⟩ : ∃ kj, ks[j]? = some kj := ⟨_, List.getElem?_eq_getElem hlt⟩
      obtain ⟨bb, oo, e0, p0, p1, p2⟩ := (HR.out.keep (hb.block g HR.out.lt)).at_.cells3 hkj
      cases e0
      rw [Nat.zero_add] at p0 p1 p2
      obtain ⟨A1, _, hE⟩ := HKS.out.mem (List.mem_of_getElem? hkj)
      have HT : TmAt wr kj.x kj.a kj.c kj.l := (SepTm.tm hE.1).below hb
      have hC := isUnit_any S n cap f kd l kj.tn kj.a kj.c wr HT
      have HKJ := hid hkj
      have HC : Hid (Calls Tryz.prog 124 #[.agg #[.slice S n cap, .int .i64 f, .int .i64 kd, .int .i64 (unitI l f), .bool (unitOk l f)], .agg #[.string kj.x.1, .int .i64 kj.x.2, .slice kj.a (lenF kj.l) kj.c]] wr fun e w' => e = .returned (.bool (isUnB l f kj.tn)) ∧ Below wr.heap.size wr w') := hC
      clear hkj hE HT hC hb
      cases hu : isUnB l f kj.tn
      · rw [hu] at HC
        go_wp2_with (go_at_call 124; refine HC.out.mono ?_; rintro e w2 ⟨rfl, hb2⟩; have HB2 : Hid (Below w.heap.size w w2) := HB.out.trans (hb2.mono HB.out.size); clear hb2)
        go_roundw
        case rel => exact ⟨j + 1, by omega, by go_num, HB2.out, fun m hm => by
          rw [take_snoc HKJ.out] at hm
          rcases List.mem_append.1 hm with h | h
          · exact HNO.out m h
          · rw [List.mem_singleton] at h; rw [h]; exact hu⟩
        case measure => simp [intOf]; omega
      · rw [hu] at HC
        go_wp2_with (go_at_call 124; refine HC.out.mono ?_; rintro e w2 ⟨rfl, hb2⟩; have HB2 : Hid (Below w.heap.size w w2) := HB.out.trans (hb2.mono HB.out.size); clear hb2)
        go_ret
        exact ⟨HB2.out, .inl ⟨j, kj, HKJ.out, hu, rfl, HNO.out⟩⟩
    · have ej : j = ks.length := by omega
      go_wp2
      go_ret
      refine ⟨HB.out, .inr ⟨rfl, ?_⟩⟩
      have := HNO.out
      rwa [ej, List.take_length] at this

/-- Where DeleteFunc stands: i terms are kept of the first j. -/
structure DelSt (l : List Sym) (f : Int) (w : World) (g c : Nat) (ks : List Kv) (i j : Nat) (ms : List Kv) (W : World) : Prop where
  len : ms.length = ks.length
  row : RowL W g c ms
  turned : Turned (fun q => q = g) w W
  lt : i < j
  done : ms.take i = (ks.take j).filter (fun k => !isUnB l f k.tn)
  rest : ms.drop j = ks.drop j

theorem DelSt.kid {l : List Sym} {f : Int} {w W : World} {g c : Nat} {ks ms : List Kv} {i j : Nat} (h : DelSt l f w g c ks i j ms W) {k : Kv} (hk : ks[j]? = some k) : ms[j]? = some k := by
  have e1 := drop_cons hk
  rw [← h.rest] at e1
  have := congrArg (·[0]?) e1
  simpa using this
theorem filter_snoc (l : List Sym) (f : Int) {ks : List Kv} {j : Nat} {k : Kv} (hk : ks[j]? = some k) : (ks.take (j + 1)).filter (fun k => !isUnB l f k.tn) = (ks.take j).filter (fun k => !isUnB l f k.tn) ++ if isUnB l f k.tn then [] else [k] := by
  rw [take_snoc hk, List.filter_append]
  cases h : isUnB l f k.tn <;> simp [h]
theorem drop_more {α : Type} {a b : List α} {j : Nat} (h : a.drop j = b.drop j) : a.drop (j + 1) = b.drop (j + 1) := by
  have := congrArg (List.drop 1) h
  simpa [List.drop_drop] using this
theorem DelSt.skip {l : List Sym} {f : Int} {w W W' : World} {g c : Nat} {ks ms : List Kv} {i j : Nat} (h : DelSt l f w g c ks i j ms W) {k : Kv} (hk : ks[j]? = some k) (hu : isUnB l f k.tn = true) (hb : Below W.heap.size W W') : DelSt l f w g c ks i (j + 1) ms W' :=
  ⟨h.len, h.row.keep (hb.block g h.row.lt), h.turned.trans (Turned.of_below hb _), by have := h.lt; omega, by rw [filter_snoc l f hk, hu, h.done]; simp, drop_more h.rest⟩
theorem DelSt.put {l : List Sym} {f : Int} {w W W' : World} {g c : Nat} {ks ms : List Kv} {i j : Nat} (h : DelSt l f w g c ks i j ms W) {k : Kv} (hk : ks[j]? = some k) (hu : isUnB l f k.tn = false) (hb : Below W.heap.size W W') :
    DelSt l f w g c ks (i + 1) (j + 1) (ms.set i k) (((W'.setCell ⟨g, i * 3, none⟩ (.string k.x.1)).setCell ⟨g, i * 3 + 1, none⟩ (.int .i64 k.x.2)).setCell ⟨g, i * 3 + 2, none⟩ (.slice k.a (lenF k.l) k.c)) := by
  have hjl : j < ks.length := (List.getElem?_eq_some_iff.1 hk).1
  have hij := h.lt
  have hil : i < ms.length := by rw [h.len]; omega
  refine ⟨by rw [List.length_set]; exact h.len, RowL.set (h.row.keep (hb.block g h.row.lt)) hil k, ?_, by omega, ?_, ?_⟩
  · have hT := h.turned.trans (Turned.of_below hb _)
    exact ⟨hT.os, hT.tape, hT.output, by have := hT.size; simpa using this, fun q hq hn => (sets_far3 hn _ _ _).trans (hT.block q hq hn)⟩
  · rw [filter_snoc l f hk, hu, take_snoc (x := k) (by rw [List.getElem?_set_self hil]), List.take_set_of_le (Nat.le_refl _), h.done]
    simp
  · rw [List.drop_set_of_lt (by omega)]
    exact drop_more h.rest

set_option maxRecDepth 100000 in
set_option maxHeartbeats 2000000 in
theorem delete_any (S : Option Addr) (n cap : Nat) (l : List Sym) (f : Int) (ks : List Kv) (g c : Nat) (A : Bl) (w : World) (hrow : RowL w g c ks) (hks : GL LoosE w ks A) (hg : ¬ A g) (hlen : ks.length ≤ 1048576) (hc : c ≤ maxLen) :
    Calls Tryz.prog 123 #[.slice (some ⟨g, 0, none⟩) ks.length c, .func (.func 124) #[.agg (headV S n cap l f)] #[]] w fun e w' => e = .returned (.slice (some ⟨g, 0, none⟩) (ks.filter fun k => !isUnB l f k.tn).length c) ∧ RowL w' g c (ks.filter fun k => !isUnB l f k.tn) ∧ Turned (fun q => q = g) w w' := by
  have HI := hid (index_any S n cap l f ks g c A w hrow hks hlen)
  have HR := hid hrow
  have HKS := hid hks
  have HG := hid hg
  have hmax : maxLen = 9223372036854775807 := rfl
  have hlc := hrow.len
  have hglt := hrow.lt
  clear hrow hks hg
  unfold headV at HI ⊢
  obtain ⟨kd, hkd⟩ : ∃ kd, kindK l f = kd := ⟨_, rfl⟩
  rw [hkd] at HI ⊢
  clear hkd
  go_enter Tryz.func123, Tryz.ntmps123
  go_wp2_with fail
  refine HI.out.mono ?_
  rintro e w1 ⟨hb1, (⟨i, ki, hki, hui, rfl, hno⟩ | ⟨rfl, hno⟩)⟩
  · have hil : i < ks.length := (List.getElem?_eq_some_iff.1 hki).1
    have hne : ((i : Int) == -1) = false := by simp
    have ST0 : Hid (DelSt l f w g c ks i (i + 1) ks w1) := ⟨rfl, HR.out.keep (hb1.block g hglt), Turned.of_below hb1 _, by omega, by
      rw [filter_snoc l f hki, hui]
      simp only [if_true, List.append_nil]
      exact (List.filter_eq_self.2 (fun k hk => by rw [hno k hk]; rfl)).symm, rfl⟩
    clear hki hui hno hb1 HI
    go_wp2
    go_loopw [5, 6, 7] (fun iv jv _ wr => ∃ (i j : Nat) (ms : List Kv), j ≤ ks.length ∧ iv = .int .i64 i ∧ jv = .int .i64 j ∧ DelSt l f w g c ks i j ms wr) (fun _ jv _ _ => ks.length - (intOf jv).toNat)
    case atStart => exact ⟨i, i + 1, ks, by omega, rfl, by go_num, ST0.out⟩
    case round =>
      obtain ⟨i, j, ms, hj, rfl, rfl, hst⟩ := hrel
      have ST := hid hst
      have hij := hst.lt
      clear hst ST0 hne hil
      by_cases hlt : j < ks.length
      · obtain ⟨kj, hkj⟩ : ∃ kj, ks[j]? = some kj := ⟨_, List.getElem?_eq_getElem hlt⟩
        obtain ⟨bb, oo, e0, p0, p1, p2⟩ := ST.out.row.at_.cells3 (ST.out.kid hkj)
        cases e0
        rw [Nat.zero_add] at p0 p1 p2
        have hml := ST.out.len
        obtain ⟨A1, hA1, hE⟩ := HKS.out.mem (List.mem_of_getElem? hkj)
        have hb1 : Below wr.heap.size wr (wr.alloc (.cells #[.string kj.x.1, .int .i64 kj.x.2, .slice kj.a (lenF kj.l) kj.c] 28)) := (Below.refl _ _).alloc (Nat.le_refl _) _
        have HT : TmAt wr kj.x kj.a kj.c kj.l := SepTm.tm (SepTm.keep (A := A1) (fun q hq hlt => ST.out.turned.block q hlt (fun e => HG.out (hA1 g (e ▸ hq)))) hE.1)
        have hC := isUnit_any S n cap f kd l kj.tn kj.a kj.c _ (HT.below hb1)
        have HKJ := hid hkj
        have HB1 := hid hb1
        have HC : Hid (Calls Tryz.prog 124 #[.agg #[.slice S n cap, .int .i64 f, .int .i64 kd, .int .i64 (unitI l f), .bool (unitOk l f)], .agg #[.string kj.x.1, .int .i64 kj.x.2, .slice kj.a (lenF kj.l) kj.c]] (wr.alloc (.cells #[.string kj.x.1, .int .i64 kj.x.2, .slice kj.a (lenF kj.l) kj.c] 28)) fun e w' => e = .returned (.bool (isUnB l f kj.tn)) ∧ Below (wr.alloc (.cells #[.string kj.x.1, .int .i64 kj.x.2, .slice kj.a (lenF kj.l) kj.c] 28)).heap.size (wr.alloc (.cells #[.string kj.x.1, .int .i64 kj.x.2, .slice kj.a (lenF kj.l) kj.c] 28)) w') := hC
        clear hkj hE HT hC hb1 hA1
        cases hu : isUnB l f kj.tn
        · rw [hu] at HC
          have arm : Hid (∀ w2, Below (wr.alloc (.cells #[.string kj.x.1, .int .i64 kj.x.2, .slice kj.a (lenF kj.l) kj.c] 28)).heap.size (wr.alloc (.cells #[.string kj.x.1, .int .i64 kj.x.2, .slice kj.a (lenF kj.l) kj.c] 28)) w2 → Below wr.heap.size wr w2 ∧ XBox w2 wr.heap.size kj.x (.slice kj.a (lenF kj.l) kj.c) ∧ RowL w2 g c ms) := fun w2 hb2 => ⟨HB1.out.trans (hb2.mono HB1.out.size), XBox.below (World.alloc_heap_new wr _) hb2, ST.out.row.keep ((hb2.block g (by have := ST.out.row.lt; simp; omega)).trans (HB1.out.block g ST.out.row.lt))⟩
          go_wp2_with (go_at_call 124; refine HC.out.mono ?_; rintro e w2 ⟨rfl, hb2⟩; have ha := arm.out w2 hb2; have HB2 := hid ha.1; have x0 := ha.2.1.c0; have x1 := ha.2.1.c1; have x2 := ha.2.1.c2; obtain ⟨u0, v0⟩ := ha.2.2.cell (i := i * 3) (by omega); obtain ⟨u1, v1⟩ := ha.2.2.cell (i := i * 3 + 1) (by omega); obtain ⟨u2, v2⟩ := ha.2.2.cell (i := i * 3 + 2) (by omega); have f0 := ha.2.2.frozen (i * 3); have f1 := ha.2.2.frozen (i * 3 + 1); have f2 := ha.2.2.frozen (i * 3 + 2); clear hb2 ha p0 p1 p2)
          go_roundw
          case rel => exact ⟨i + 1, j + 1, _, by omega, by go_num, by go_num, ST.out.put HKJ.out hu HB2.out⟩
          case measure => simp [intOf]; omega
        · rw [hu] at HC
          go_wp2_with (go_at_call 124; refine HC.out.mono ?_; rintro e w2 ⟨rfl, hb2⟩; have HB2 := hid (HB1.out.trans (hb2.mono HB1.out.size)); clear hb2)
          go_roundw
          case rel => exact ⟨i, j + 1, ms, by omega, rfl, by go_num, ST.out.skip HKJ.out hu HB2.out⟩
          case measure => simp [intOf]; omega
      · have ej : j = ks.length := by omega
        subst ej
        have hml := ST.out.len
        obtain ⟨cur, h1, h2, h3⟩ := ST.out.row.row
        obtain ⟨cur', hcl, hs', hc'⟩ := run_clear3 wr g (i * 3) (ks.length - i) (c - i) cur h1 (by omega) (by omega)
        have H1 := hid h1
        have H2 := hid h2
        have H3 := hid h3
        have HS' := hid hs'
        have HC' := hid hc'
        clear h1 h2 h3 hs' hc'
        go_wp2
        go_ret
        have hd := ST.out.done
        rw [List.take_length] at hd
        have hdl : (ks.filter fun k => !isUnB l f k.tn).length = i := by rw [← hd, List.length_take]; omega
        have hT := ST.out.turned
        refine ⟨by rw [hdl]; rfl, ?_, hT.os, hT.tape, hT.output, by have := hT.size; simpa [World.setRow] using this, fun q hq hn => ?_⟩
        · refine ⟨⟨cur', setRow_heap wr g cur cur' 28 (0, 0) H1.out, HS'.out.trans H2.out, fun j u hu => ?_⟩, by rw [hdl]; omega⟩
          rw [← hd, kvCells_take] at hu
          have hj : j < i * 3 := by
            rcases Nat.lt_or_ge j (i * 3) with h | h
            · exact h
            · rw [List.getElem?_eq_none (by rw [List.length_take]; omega)] at hu; cases hu
          rw [List.getElem?_take_of_lt hj] at hu
          rw [HC'.out j hj]
          exact H3.out j u hu
        · refine Eq.trans ?_ (hT.block q hq hn)
          simp only [World.setRow, Array.getElem?_modify]
          rw [if_neg (fun e => hn e.symm)]
  · have hall : ks.filter (fun k => !isUnB l f k.tn) = ks := List.filter_eq_self.2 (fun k hk => by rw [hno k hk]; rfl)
    have HALL := hid hall
    have HB1 := hid hb1
    clear hall hno hb1 HI
    go_wp2
    go_ret
    rw [HALL.out]
    exact ⟨rfl, HR.out.keep (HB1.out.block g hglt), Turned.of_below HB1.out _⟩
end Go.Proofs.YtppgmepmegelbaaGreatDoor
