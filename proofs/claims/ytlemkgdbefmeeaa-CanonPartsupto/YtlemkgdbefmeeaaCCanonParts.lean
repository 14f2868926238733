/- For every signature, two terms, symbol and list of terms, of bulk at most 1048576, CanonParts returns true: Parts of canonical terms and Join of right ones answer what the document says, of any symbol's place, in new memory, and what was handed in stays; the condition is the second form's bound. -/
import Derived.Test.YtlemkgdbefmeeaaM7
/- For the walk of CanonParts: a slice of terms as a list of arguments; a list of lent terms under way. -/
namespace Go.Proofs.Ytlemkgdbefmeeaa
open Go.RowKit Go.Deep

theorem kids_of_cells {w : World} : ∀ (ks : List Kv) (b o : Nat), (∀ j u, (kvCells ks)[j]? = some u → w.cell? ⟨b, o + j, none⟩ = some u) → (∀ k ∈ ks, TmAt w k.x k.a k.c k.l) → KidsAt w (mkF (ks.map Kv.tn)) b o
  | [], _, _, _, _ => trivial
  | k :: r, b, o, hc, ht => by
    have e : kvCells (k :: r) = .string k.x.1 :: .int .i64 k.x.2 :: .slice k.a (lenF k.l) k.c :: kvCells r := rfl
    rw [e] at hc
    have hk := ht k List.mem_cons_self
    refine ⟨⟨k.a, k.c, hc 0 _ rfl, hc 1 _ rfl, hc 2 _ rfl, hk.sizes, hk.args⟩, kids_of_cells r b (o + 3) (fun j u hu => ?_) (fun q hq => ht q (List.mem_cons_of_mem _ hq))⟩
    rw [show o + 3 + j = o + (j + 3) by omega]
    exact hc (j + 3) u (by simpa using hu)
theorem args_of_row {w : World} {a : Option Addr} {n : Nat} {ks : List Kv} (h : RowAt w a n ks) (ht : ∀ k ∈ ks, TmAt w k.x k.a k.c k.l) : ArgsAt w a (mkF (ks.map Kv.tn)) := by
  cases ks with
  | nil => exact .inl rfl
  | cons k r =>
    obtain ⟨b, o, ha, _⟩ := h.cells 0 _ rfl
    refine .inr ⟨b, o, ha, kids_of_cells _ b o (fun j u hu => ?_) ht⟩
    obtain ⟨b', o', e, hc⟩ := h.cells j u hu
    rw [ha] at e
    cases e
    exact hc
theorem gl_each {w : World} : ∀ {ks : List Kv} {A : Bl}, GL SepE w ks A → ∀ k ∈ ks, TmAt w k.x k.a k.c k.l
  | [], _, _, k, hk => by simp at hk
  | _ :: _, _, ⟨_, _, _, _, hE, hr⟩, k, hk => by
    rcases List.mem_cons.1 hk with rfl | hk
    · exact SepTm.tm hE
    · exact gl_each hr k hk
/-- Join of a slice of terms. -/
theorem pjoin_row (S : Option Addr) (n cap : Nat) (l : List Sym) (f : Int) (ks : List Kv) (a : Option Addr) (c : Nat) (w : World) (hS : SigAt w S n l) (hR : RowAt w a ks.length ks) (hT : ∀ k ∈ ks, TmAt w k.x k.a k.c k.l) (hk : sizes (ks.map Kv.tn) ≤ 1048576) :
    Calls Try.prog 22 #[.slice S n cap, .int .i64 f, .slice a ks.length c] w fun e w' => ∃ k : Kv, e = .returned (.tuple #[.agg #[.string k.x.1, .int .i64 k.x.2, .slice k.a (lenF k.l) k.c], .bool (joinB l f ks.length)]) ∧ JoinR l f (ks.map Kv.tn) (joinB l f ks.length) k.tn ∧ TmAt w' k.x k.a k.c k.l ∧ Below w.heap.size w w' := by
  have hl : lenF (mkF (ks.map Kv.tn)) = ks.length := by rw [len_mk, List.length_map]
  have := pjoin_any S n cap l f (mkF (ks.map Kv.tn)) a c w hS (args_of_row hR hT) (by rw [nodes_mk]; exact hk)
  rw [hl, kids_mk] at this
  refine this.mono ?_
  rintro e w' ⟨k, rfl, hj, hE, hb⟩
  exact ⟨k, rfl, hj, SepTm.tm hE.1, hb⟩

/-- Lent terms under way: a row of its own, the terms' lists elsewhere. -/
structure LstT (B : Nat) (W : World) (v : Value) (ks : List Kv) : Prop where
  row : W.ownsRow B 26 3 v ks.length (kvCells ks)
  own : ∀ k ∈ ks, OwnTm true (fun q => B ≤ q ∧ some q ≠ v.ownBlock) W k.x k.a k.c k.l
set_option maxRecDepth 100000 in
theorem LstT.nil (B : Nat) (W : World) : LstT B W (.slice none 0 0) [] := ⟨World.ownsRow_nil _ _ _ _, by simp⟩
set_option maxRecDepth 100000 in
theorem LstT.below {B : Nat} {W W' : World} {v : Value} {ks : List Kv} (h : LstT B W v ks) (hb : Below W.heap.size W W') : LstT B W' v ks := ⟨owns_below h.row hb, fun k hk => (h.own k hk).below hb⟩
set_option maxRecDepth 100000 in
theorem LstT.base {B B' : Nat} {W : World} {v : Value} {ks : List Kv} (h : LstT B W v ks) (hB : B' ≤ B) : LstT B' W v ks := ⟨owns_base h.row hB, fun k hk => (h.own k hk).mono (fun q _ hq => ⟨by omega, hq.2⟩)⟩
set_option maxRecDepth 100000 in
theorem LstT.lt {B : Nat} {W : World} {v : Value} {ks : List Kv} {g : Nat} (h : LstT B W v ks) (hg : v.ownBlock = some g) : g < W.heap.size := by
  obtain ⟨cur, hc⟩ := (owns_cells h.row hg).2
  exact (Array.getElem?_eq_some_iff.1 hc).1
set_option maxRecDepth 100000 in
theorem LstT.grow {B : Nat} {W W1 W2 : World} {v v' : Value} {ks ms : List Kv} (h : LstT B W v ks) (hW : Below W.heap.size W W1) (hm : ∀ k ∈ ms, OwnTm true (fun q => W.heap.size ≤ q) W1 k.x k.a k.c k.l) (hB : B ≤ W.heap.size)
    (hg : W1.grownBy W2 v.ownBlock) (hat : v'.ownBlock = v.ownBlock ∨ v'.ownBlock = some W1.heap.size) (ho : W2.ownsRow B 26 3 v' (ks ++ ms).length (kvCells (ks ++ ms))) : LstT B W2 v' (ks ++ ms) := by
  refine ⟨ho, fun k hk => ?_⟩
  have h2 : OwnTm true (fun q => (B ≤ q ∧ some q ≠ v'.ownBlock) ∧ some q ≠ v.ownBlock) W1 k.x k.a k.c k.l := by
    rcases List.mem_append.1 hk with hk | hk
    · have h0 : OwnTm true (fun q => (B ≤ q ∧ some q ≠ v'.ownBlock) ∧ some q ≠ v.ownBlock) W k.x k.a k.c k.l := (h.own k hk).mono (fun q hq hp => ⟨⟨hp.1, by
        rcases hat with e | e
        · rw [e]; exact hp.2
        · rw [e]; intro e'; cases e'; have := hW.size; omega⟩, hp.2⟩)
      exact h0.below hW
    · refine (hm k hk).mono (fun q hq hp => ?_)
      have hne : some q ≠ v.ownBlock := fun e => by have := h.lt e.symm; omega
      refine ⟨⟨by omega, ?_⟩, hne⟩
      rcases hat with e | e
      · rw [e]; exact hne
      · rw [e]; intro e'; cases e'; omega
  exact (h2.keep (fun q hq hlt => hg.block q hlt hq.2)).mono (fun q _ hq => hq.1)
theorem row_fr {w w' : World} {a : Option Addr} {n : Nat} {ks : List Kv} (h : RowAt w a n ks) (hb : ∀ b o, a = some ⟨b, o, none⟩ → b < w.heap.size → w'.heap[b]? = w.heap[b]?) : RowAt w' a n ks :=
  ⟨h.len, fun j u hu => by
    obtain ⟨b, o, ha, hc⟩ := h.cells j u hu
    refine ⟨b, o, ha, ?_⟩
    rw [World.cell?_of_block (w := w) (a := ⟨b, o + j, none⟩) (hb b o ha (World.block_lt_of_cell? w _ hc))]
    exact hc⟩
/-- What Join answers is what the document's Join does. -/
theorem join_same {l : List Sym} {f : Int} {F : Fo} {b : Bool} {j : Tn} (hJ : JoinR l f (kidsL F) b j) (hOk : (sgOf l).Ok (arAt l)) (hr : ∀ t ∈ kidsL F, RightT (sgOf l) (arAt l) t) :
    (joinN (sgOf l) f (canonL (sgOf l) F)).isSome = b ∧ (joinN (sgOf l) f (canonL (sgOf l) F)).getD zeroT = j := by
  have h := hJ.2.2 hOk hr
  rw [canonL_map, h]
  cases b with
  | true => exact ⟨rfl, rfl⟩
  | false => exact ⟨rfl, (hJ.2.1 rfl).symm⟩
end Go.Proofs.Ytlemkgdbefmeeaa
/- How a statement of layer 4 follows from its walk: the frame, of CanonParts. -/
namespace Go.Proofs.Ytlemkgdbefmeeaa
open Go.ChangeShapes Go.WideShapes Go.ChangeAt Go.RowKit Go.Deep

def PartsWalk : Prop := ∀ (S : Option Addr) (n cap : Nat) (l : List Sym) (A B : Tn) (a b : Option Addr) (c d : Nat) (f : Int) (La : Option Addr) (F : Fo) (lc : Nat) (W : World), TwoAt W S n l A B a b c d La F → n ≤ cap → nodesF A.2 + nodesF B.2 + nodesF F + 4 ≤ 1048576 →
  Calls Try.prog 4 #[.agg (twoC S n cap A B a b c d f La F lc)] W fun e W' => e = .returned (.bool true) ∧ Below W.heap.size W W'

set_option maxRecDepth 100000 in
theorem canonParts_contract (walk : PartsWalk) (H : Type) (enc : TypeId × Value → H) (W : World) (base : Nat) (args : Array Value) (ds gs : List (DataW H)) (before : List MemPlace)
    (hval : ∀ (j : Nat) t v, Try.f4.params[j]? = some t → args[j]? = some v → Value.okWide Try.prog W .any base t v)
    (hW : DataW.Whole enc Try.prog Try.f4.params.toList Rows.canonPartsSpec.vars false W args.toList ds gs before) (hk : Rows.uptoSmall H (ds ++ gs) = true) :
    Calls Try.prog 4 args W fun e W' => ∃ v, e = .returned v ∧ Rows.canonPartsSpec.post enc Try.prog Try.f4 false true false false W args v W' := by
  have hW' := hW
  obtain ⟨p, q, hA0, hV, rfl, hfz, hnd⟩ := hW
  have hA : DataW.TrodAll enc Try.prog W 0 (fun _ => true) true Try.f4.params.toList args.toList ds p := hA0
  rw [Try.params4] at hA hval
  obtain ⟨v0, vs0, d0, ds0, p0, q0, hargs, rfl, rfl, h0, r0⟩ := trodAll_cons hA
  obtain ⟨rfl, rfl, rfl⟩ := trodAll_nil r0
  obtain rfl : args = #[v0] := by cases args; simp_all
  obtain ⟨rfl, rfl⟩ := trodVars_none hV
  have lt0 : ∀ x ∈ p0, x.block < W.heap.size := by obtain ⟨m, hm⟩ := h0; exact DataW.trod_lt m _ _ _ hm
  have hbulk : Rows.uptoBulk d0 ≤ 1048576 := by
    have h : Rows.uptoBulkAll ([d0] ++ []) ≤ 1048576 := of_decide_eq_true hk
    simp only [List.append_nil, Rows.uptoBulkAll] at h
    omega
  obtain ⟨S, n, cap, l, A, B, a, b, c, d, f, La, F, lc, rfl, hT, hc, hs⟩ := two_open (hval 0 28 v0 rfl rfl) h0 hbulk
  clear hA0
  refine (walk S n cap l A B a b c d f La F lc W hT hc hs).mono fun e W' ⟨he, bel⟩ => ?_
  subst he
  exact ⟨_, rfl, _, _, _, [], _, [], hW', trodAll_mk1 (shut_bool Try.underlying4 _), (trodAll_cons_mk (Below.trod laidOut (by kernel_rfl) (of_decide_eq_true (by kernel_rfl)) h0 bel lt0) trodAll_mk0), rfl, bel.frame _, fun h => by cases h⟩

set_option maxRecDepth 100000 in
theorem canonParts_lifted (walk : PartsWalk) (os : Os) (started : os.Started) (H : Type) (enc : TypeId × Value → H) (F : Stop.Interp) :
    ReturnsInHanded {} Try.checked os 4 .any ((Rows.OpenSpec.upto Rows.canonPartsSpec).pre6 enc Try.prog Try.f4 Rows.canonPartsUptoRow.domain false) (((Rows.OpenSpec.upto Rows.canonPartsSpec).at F).post enc Try.prog Try.f4 false true false false) := by
  refine returnsInHanded_of_cond (C := Try.checked) (s := Rows.OpenSpec.upto Rows.canonPartsSpec) (k := Rows.uptoSmall) rfl own started (by kernel_rfl) Try.func4
    (OpenSpec.witness (enc := enc) (C := Try.checked) (s := Rows.OpenSpec.upto Rows.canonPartsSpec) (k := Rows.uptoSmall) rfl false ⟨#[], #[.agg #[.slice none 0 0, .string .empty, .int .i64 0, .slice none 0 0, .string .empty, .int .i64 0, .slice none 0 0, .int .i64 0, .slice none 0 0]], []⟩ 8 (by kernel_rfl) (by kernel_rfl) (by kernel_rfl)
      (x := ([.agg [.nil, .agg [.lit (.string []), .lit (.int .i64 0), .nil], .agg [.lit (.string []), .lit (.int .i64 0), .nil], .lit (.int .i64 0), .nil]], [], [])) (by kernel_rfl) rfl (by kernel_rfl)) ?_
  intro W base args ds gs before hval hW _ hk _
  exact canonParts_contract walk H enc W base args ds gs before hval hW hk

set_option maxRecDepth 100000 in
theorem canonParts_of (walk : PartsWalk) : Rows.CanonPartsUptoSaid :=
  OpenClaim.holds_of_cond 4 Try.f4 rfl rfl rfl rfl rfl rfl rfl ⟨rfl, rfl, rfl, rfl, rfl⟩ rfl rfl rfl rfl rfl (by kernel_rfl) Try.func4 (by kernel_rfl)
    (of_decide_eq_true (by kernel_rfl)) (by unfold Func.isWrapper; first | (rw [if_pos (by decide +kernel)]; kernel_rfl) | (rw [if_neg (by decide +kernel)]; exact ⟨rfl, rfl⟩))
    (fun os started H enc _ F => canonParts_lifted walk os started H enc F)
end Go.Proofs.Ytlemkgdbefmeeaa
namespace Go.Proofs.Ytlemkgdbefmeeaa
open Go.RowKit Go.Deep

set_option maxRecDepth 100000 in
set_option maxHeartbeats 8000000 in
theorem parts_walk : PartsWalk := by
  intro S n cap l A B a b c d f La F lc w hT hcap hsz
  have HT := hid hT
  have HSZ := hid hsz
  have HLC := hid hT.l
  clear hT hsz
  have I0 : Hid (InSt w (twoC S n cap A B a b c d f La F lc) (w.alloc (.cells (twoC S n cap A B a b c d f La F lc) 28))) := InSt.new w _
  have HRT := hid (fun W (hW : Below w.heap.size w W) => right_any S n cap l A B a b c d f La F lc W (HT.out.below hW))
  unfold twoC at I0 HRT ⊢
  go_enter Try.func4, Try.ntmps4
  go_wp2_with fail
  refine (head_any _).mono ?_
  rintro e w1 ⟨rfl, hb1⟩
  have I1 := hid (I0.out.below hb1)
  clear I0 hb1
  have i0 := I1.out.box.c 0 rfl; have i1 := I1.out.box.c 1 rfl; have i2 := I1.out.box.c 2 rfl; have i3 := I1.out.box.c 3 rfl; have i4 := I1.out.box.c 4 rfl; have i5 := I1.out.box.c 5 rfl; have i6 := I1.out.box.c 6 rfl; have i7 := I1.out.box.c 7 rfl; have i8 := I1.out.box.c 8 rfl
  go_wp2_with fail
  refine (HRT.out w1 I1.out.low).mono ?_
  rintro e w2 ⟨rfl, hb2⟩
  have I2 := hid (I1.out.below hb2)
  clear I1 hb2 i0 i1 i2 i3 i4 i5 i6 i7 i8 HRT
  obtain ⟨rt, hrt⟩ : ∃ rt, (rightB l A && rightB l B && (kidsL F).all (rightB l)) = rt := ⟨_, rfl⟩
  have HRTE := hid hrt
  rw [hrt]
  clear hrt
  have hsz := HSZ.out
  have i0 := I2.out.box.c 0 rfl; have i1 := I2.out.box.c 1 rfl; have i2 := I2.out.box.c 2 rfl; have i3 := I2.out.box.c 3 rfl
  go_wp2_with fail
  refine (canon_all S n cap l 1048576 (Nat.le_refl _) A a c w2 (by omega) (HT.out.sig.below I2.out.low) (HT.out.a.below I2.out.low)).mono ?_
  rintro e w3 ⟨ta, tc, rfl, ho3, hb3⟩
  obtain ⟨T, hTe⟩ : ∃ T, canonT (sgOf l) A = T := ⟨_, rfl⟩
  rw [hTe] at ho3 ⊢
  have HTE := hid hTe
  have B3 := alloc_below w3 (.cells #[.string T.1.1, .int .i64 T.1.2, .slice ta (lenF T.2) tc] 26)
  have I3 := hid ((I2.out.below hb3).below B3)
  have T3 : Hid (OwnTm false (fun _ => True) (w3.alloc (.cells #[.string T.1.1, .int .i64 T.1.2, .slice ta (lenF T.2) tc] 26)) T.1 ta tc T.2) := hid ((ho3.mono (fun _ _ _ => trivial)).below B3)
  have X3 : Hid (XBox (w3.alloc (.cells #[.string T.1.1, .int .i64 T.1.2, .slice ta (lenF T.2) tc] 26)) w3.heap.size T.1 (.slice ta (lenF T.2) tc)) := World.alloc_heap_new w3 _
  clear hTe ho3 hb3 B3 i0 i1 i2 i3 I2
  have x0 := X3.out.c0; have x1 := X3.out.c1; have x2 := X3.out.c2
  go_wp2_with fail
  clear x0 x1 x2
  generalize w3.alloc (.cells #[.string T.1.1, .int .i64 T.1.2, .slice ta (lenF T.2) tc] 26) = W3 at I3 T3 X3 ⊢
  refine (lent_any T.1 T.2 ta tc W3 T3.out.tm).mono ?_
  rintro e w4 ⟨xa, xc, rfl, ho4, hb4⟩
  have B4 := alloc_below w4 (.cells #[.string T.1.1, .int .i64 T.1.2, .slice xa (lenF T.2) xc] 26)
  have I4 := hid ((I3.out.below hb4).below B4)
  have T4 := hid ((T3.out.below hb4).below B4)
  have X4 := hid ((X3.out.below hb4).below B4)
  have L4 := hid (LentAt.new ho4)
  clear ho4 hb4 B4 I3 T3 X3
  go_wp2_with fail
  have i8 := I4.out.box.c 8 rfl
  generalize w4.alloc (.cells #[.string T.1.1, .int .i64 T.1.2, .slice xa (lenF T.2) xc] 26) = W4 at I4 T4 X4 L4 i8 ⊢
  clear i8
  have hlf : lenF F ≤ 1048576 := by have := len_nodes F; omega
  go_loopw [7, 8] (fun ov i wr => ∃ (j : Nat) (v : Value) (ks : List Kv), j ≤ lenF F ∧ v = ov ∧ i = .int .i64 j ∧ LstT W4.heap.size wr v ks ∧ (ks = [] → v = .slice none 0 0) ∧ ks.map Kv.tn = (kidsL F).take j ∧ Below W4.heap.size W4 wr) (fun _ i _ => lenF F - (intOf i).toNat)
  case atStart => exact ⟨0, _, [], Nat.zero_le _, rfl, rfl, LstT.nil _ _, fun _ => rfl, by simp, Below.refl _ _⟩
  case round =>
    obtain ⟨j, v, ks, hj, rfl, rfl, hL, hnil, hmap, hlow⟩ := hrel
    have HN : Hid (ks = [] → v = .slice none 0 0) := hnil
    have HL : Hid (LstT W4.heap.size wr v ks) := hL
    have HM : Hid (ks.map Kv.tn = (kidsL F).take j) := hmap
    have HB : Hid (Below W4.heap.size W4 wr) := hlow
    have hkl : ks.length = j := by
      have := congrArg List.length hmap
      rw [List.length_map, List.length_take, kids_len] at this
      omega
    have HKL := hid hkl
    clear hL hnil hmap hlow hkl
    have i8 := (I4.out.below HB.out).box.c 8 rfl
    by_cases hlt : j < lenF F
    · obtain ⟨bb, oo, rfl, hkk⟩ := HLC.out.get (by omega)
      obtain ⟨y, a1, c1, l1, kd⟩ := hkk.kid (k := j) hlt
      have kd' := kd.below (I4.out.below HB.out).low
      have p0 := kd'.name; have p1 := kd'.sym; have p2 := kd'.list
      have KD : Hid (Kid wr F bb oo j y a1 c1 l1) := kd'
      have hj0 : (0 : Int) ≤ (j : Int) := by omega
      have hjn : (j : Int) < (lenF F : Int) := by omega
      clear kd kd' hkk
      have HC : Hid (∀ W, Below wr.heap.size wr W → Calls Try.prog 10 #[.agg #[.string y.1, .int .i64 y.2, .slice a1 (lenF l1) c1]] W fun e w' => ∃ a' c', e = .returned (.agg #[.string y.1, .int .i64 y.2, .slice a' (lenF l1) c']) ∧ OwnTm true (fun q => W.heap.size ≤ q) w' y a' c' l1 ∧ Below W.heap.size W w') := fun W hW => lent_any y l1 a1 c1 W (KD.out.at_.below hW)
      go_wp2_with (first
        | (go_at_call 10; refine (HC.out _ (Below.refl _ _)).mono ?_; rintro e w5 ⟨a', c', rfl, ho1, hb1⟩; have HO1 : Hid (OwnTm true (fun q => wr.heap.size ≤ q) w5 y a' c' l1) := ho1; have HB1 : Hid (Below wr.heap.size wr w5) := hb1; have hz1 := hb1.size; clear ho1 hb1)
        | (at_builtin; refine wpList_append_lst rfl _ _ rfl W4.heap.size v ks rfl (owns_below HL.out.row (HB1.out.alloc hz1 _)) (some ⟨w5.heap.size, 0, none⟩) 1 1 [⟨y, l1, a', c'⟩] rfl (RowAt.new w5 ⟨y, l1, a', c'⟩) (fun e => by cases e) (fun _ => Nat.one_pos) (by have := HKL.out; omega) (by have := HB.out.size; rw [World.size_alloc]; omega) ?_; intro v2 w6 hown2 hgrow2 hat2; have HL2 : Hid (LstT W4.heap.size w6 v2 (ks ++ [⟨y, l1, a', c'⟩])) := HL.out.grow (HB1.out.alloc hz1 _) (fun k hk => by simp only [List.mem_singleton] at hk; subst hk; exact HO1.out.below ((Below.refl _ _).alloc (Nat.le_refl _) _)) HB.out.size hgrow2 hat2 hown2; have HB2 : Hid (Below W4.heap.size W4 w6) := HB.out.trans (((HB1.out.alloc hz1 _).mono HB.out.size).grown hgrow2 (by have := HB.out.size; rw [World.size_alloc]; omega) (fun k e => (owns_cells HL.out.row e).1)); clear hown2 hgrow2 hat2))
      go_roundw
      case rel =>
        obtain ⟨B1, O1, sp⟩ := KD.out.split
        exact ⟨j + 1, _, _, by omega, rfl, by go_num, HL2.out, fun e => by simp at e, by rw [kids_take sp, ← HM.out]; simp [Kv.tn], HB2.out⟩
      case measure => simp [intOf]; omega
    · obtain rfl : j = lenF F := by omega
      have HM' : Hid (ks.map Kv.tn = kidsL F) := by have := HM.out; rwa [List.take_of_length_le (by rw [kids_len]; exact Nat.le_refl _)] at this
      obtain ⟨W5, hW5⟩ : ∃ W5, W5 = wr := ⟨_, rfl⟩
      subst hW5
      obtain ⟨oa, oc, rfl, hoc, hoc2, hrow, hon, hoff⟩ := row_of_owns HL.out.row
      unfold maxLen at hoc2
      have HROW := hid hrow
      have HOWN := hid HL.out.own
      have I5 := hid (I4.out.below HB.out)
      have T5 := hid (T4.out.below HB.out)
      have X5 := hid (X4.out.below HB.out)
      have L5 := hid (L4.out.below HB.out)
      clear hrow hon hoff HM HN HL I4 T4 X4 L4 i8
      have i0 := I5.out.box.c 0 rfl; have i7 := I5.out.box.c 7 rfl; have i8 := I5.out.box.c 8 rfl
      have x0 := L5.out.box.c0; have x1 := L5.out.box.c1; have x2 := L5.out.box.c2
      go_wp2_with fail
      clear i0 i7 i8 x0 x1 x2
      refine (pparts_any S n cap l f T xa xc W5 (HT.out.sig.below I5.out.low) L5.out.tm).mono ?_
      rintro e w6 ⟨pa, pc, ps, rfl, hps, hN, hb6⟩
      have HPS := hid hps
      have hpl := hN.cap
      unfold maxLen at hpl
      have HPN := hid hN.new
      have I6 := hid (I5.out.below hb6); have T6 := hid (T5.out.below hb6); have X6 := hid (X5.out.below hb6); have L6 := hid (L5.out.below hb6)
      have ROW6 := hid (HROW.out.below hb6)
      have OWN6 := hid (fun k hk => (HOWN.out k hk).below hb6)
      have PR6 := hid hN.row
      have PG6 := hid (GL.within sepE hN.gl)
      have h56 := hb6.size
      have HX5 : Hid (∀ (T : Tn) a c, OwnTm true (fun _ => True) W5 T.1 a c T.2 → OwnTm true (fun q => q < W5.heap.size) W5 T.1 a c T.2) := hid fun T a c h => h.mono (fun k hk _ => hk)
      have HT5 : Hid (∀ (T : Tn) a c, OwnTm false (fun _ => True) W5 T.1 a c T.2 → OwnTm false (fun q => q < W5.heap.size) W5 T.1 a c T.2) := hid fun T a c h => h.mono (fun k hk _ => hk)
      have XO6 := hid ((HX5.out T xa xc L5.out.own).below hb6)
      have TO6 := hid ((HT5.out T ta tc T5.out).below hb6)
      have hw5 := I5.out.low.size
      have HBX := hid L5.out.box.lt
      have HBT := hid X5.out.lt
      clear hps hN hb6 HROW HOWN I5 T5 X5 L5 HX5 HT5
      have i0 := I6.out.box.c 0 rfl; have i7 := I6.out.box.c 7 rfl
      go_wp2_with fail
      clear i0 i7
      have hks : sizes (ks.map Kv.tn) ≤ 1048576 := by rw [HM'.out, ← nodes_sizes]; omega
      refine (pjoin_row S n cap l f ks oa oc w6 (HT.out.sig.below I6.out.low) ROW6.out (fun k hk => (OWN6.out k hk).tm) hks).mono ?_
      rintro e w7 ⟨⟨jx, jl, ja, jc⟩, rfl, hJ, hjt, hb7⟩
      have HJR := hid hJ
      have B7 := alloc_below w7 (.cells #[.string jx.1, .int .i64 jx.2, .slice ja (lenF jl) jc] 26)
      have B67 : Below w6.heap.size w6 (w7.alloc (.cells #[.string jx.1, .int .i64 jx.2, .slice ja (lenF jl) jc] 26)) := hb7.trans (B7.mono hb7.size)
      have I7 := hid (I6.out.below B67); have X7 := hid (X6.out.below B67); have L7 := hid (L6.out.below B67)
      have ROW7 := hid (ROW6.out.below B67)
      have OWN7 := hid (fun k hk => (OWN6.out k hk).below B67)
      have PR7 := hid (PR6.out.below B67)
      have PG7 : Hid (GL SepE _ ps _) := hid (GL.keep sepE (fun k _ hk => B67.block k hk) PG6.out)
      have XO7 := hid (XO6.out.below B67)
      have TO7 := hid (TO6.out.below B67)
      have J7 : Hid (TmAt (w7.alloc (.cells #[.string jx.1, .int .i64 jx.2, .slice ja (lenF jl) jc] 26)) jx ja jc jl) := hid (hjt.below B7)
      have Z7 : Hid (XBox (w7.alloc (.cells #[.string jx.1, .int .i64 jx.2, .slice ja (lenF jl) jc] 26)) w7.heap.size jx (.slice ja (lenF jl) jc)) := World.alloc_heap_new w7 _
      have h67 := B67.size
      clear hJ hjt hb7 B7 B67 I6 T6 X6 L6 ROW6 OWN6 PR6 PG6 XO6 TO6 hks
      have x0 := X7.out.c0; have x1 := X7.out.c1; have x2 := X7.out.c2
      have l0 := L7.out.box.c0; have l1 := L7.out.box.c1; have l2 := L7.out.box.c2
      go_wp2_with fail
      clear x0 x1 x2 l0 l1 l2
      generalize w7.alloc (.cells #[.string jx.1, .int .i64 jx.2, .slice ja (lenF jl) jc] 26) = W7 at I7 X7 L7 ROW7 OWN7 PR7 PG7 XO7 TO7 J7 Z7 h67 ⊢
      refine (kept_any _ T.1 T.2 xa ta xc tc W7 XO7.out TO7.out.tm).mono ?_
      rintro e W8 ⟨rfl, hb8⟩
      have I8 := hid (I7.out.below hb8); have X8 := hid (X7.out.below hb8); have L8 := hid (L7.out.below hb8)
      have ROW8 := hid (ROW7.out.below hb8)
      have OWN8 := hid (fun k hk => (OWN7.out k hk).below hb8)
      have PR8 := hid (PR7.out.below hb8)
      have PG8 : Hid (GL SepE W8 ps _) := hid (GL.keep sepE (fun k _ hk => hb8.block k hk) PG7.out)
      have XO8 := hid (XO7.out.below hb8)
      have TO8 := hid (TO7.out.below hb8)
      have J8 := hid (J7.out.below hb8)
      have Z8 := hid (Z7.out.below hb8)
      have h68 : w6.heap.size ≤ W8.heap.size := Nat.le_trans h67 hb8.size
      clear hb8 I7 X7 L7 ROW7 OWN7 PR7 PG7 XO7 TO7 J7 Z7 h67 HB
      go_wp2_with fail
      go_loopw [12, 13] (fun kv i wv => kv = .bool true ∧ ∃ j : Nat, j ≤ ks.length ∧ i = .int .i64 j ∧ Below W8.heap.size W8 wv) (fun _ i _ => ks.length - (intOf i).toNat)
      case atStart => exact ⟨rfl, 0, Nat.zero_le _, rfl, Below.refl _ _⟩
      case round =>
        obtain ⟨rfl, j, hj, rfl, hlow⟩ := hrel
        have HB := hid hlow
        clear hlow
        by_cases hlt : j < ks.length
        · have hjF : j < lenF F := by have := HKL.out; omega
          obtain ⟨kv, hkv⟩ : ∃ kv, ks[j]? = some kv := ⟨_, List.getElem?_eq_getElem hlt⟩
          obtain ⟨ob, oo, rfl, r0, r1, r2⟩ := (ROW8.out.below HB.out).get hkv
          obtain ⟨Lb, Lo, hLa, hkk⟩ := HLC.out.get (by omega)
          obtain ⟨y, a1, c1, l1, kd⟩ := hkk.kid (k := j) hjF
          subst hLa
          have kd' := kd.below (I8.out.below HB.out).low
          have p0 := kd'.name; have p1 := kd'.sym; have p2 := kd'.list
          have hky : kv.tn = (y, l1) := by
            obtain ⟨B1, O1, sp⟩ := kd.split
            have h1 := kids_split sp
            have h2 := congrArg (·[j]?) HM'.out
            simp only [List.getElem?_map, hkv, Option.map_some] at h2
            rw [h1] at h2
            exact Option.some.inj h2
          have how := OWN8.out kv (List.mem_of_getElem? hkv)
          obtain ⟨kx, kl, ka, kc⟩ := kv
          simp only [Kv.tn, Prod.mk.injEq] at hky
          obtain ⟨rfl, rfl⟩ := hky
          dsimp only at r0 r1 r2 how
          have i8 := (I8.out.below HB.out).box.c 8 rfl
          have HK : Hid (∀ W, Below wr.heap.size wr W → Calls Try.prog 14 #[.agg #[.string kx.1, .int .i64 kx.2, .slice ka (lenF kl) kc], .agg #[.string kx.1, .int .i64 kx.2, .slice a1 (lenF kl) c1]] W fun e w' => e = .returned (.bool true) ∧ Below W.heap.size W w') := hid fun W hW => kept_any _ kx kl ka a1 kc c1 W ((how.below HB.out).below hW) (kd'.at_.below hW)
          have hne := later_some wr
          have e0 := later_cell r0; have e1 := later_cell r1; have e2 := later_cell r2
          have g0 := later_cell p0; have g1 := later_cell p1; have g2 := later_cell p2
          have d8 := later_cell i8
          have hj0 : (0 : Int) ≤ (j : Int) := by omega
          have hjn : (j : Int) < (ks.length : Int) := by omega
          have hjm : (j : Int) < (lenF F : Int) := by omega
          clear r0 r1 r2 p0 p1 p2 i8 kd kd' hkk how
          go_wp2_with fail
          refine wp_region_later (by kernel_rfl) (by kernel_rfl) ?_
          repeat (go_big_quiet_step (first | (go_at_call 14; with_reducible refine calls_later (HK.out _ ?_); exact Later.below _) | fail))
          refine wpQuiet_nil ?_
          intro _ hw'
          obtain ⟨b3, hw''⟩ := hw'
          subst hw''
          clear e0 e1 e2 g0 g1 g2 d8 hne
          go_wp2
          go_roundw
          case rel => exact ⟨rfl, j + 1, by omega, by go_num, HB.out.trans (b3.below.mono HB.out.size)⟩
          case measure => simp [intOf]; omega
        · obtain rfl : j = ks.length := by omega
          have I9 := hid (I8.out.below HB.out); have X9 := hid (X8.out.below HB.out); have L9 := hid (L8.out.below HB.out)
          cases hr : rt with
          | false =>
            go_wp2
            go_ret
            exact ⟨rfl, I9.out.low⟩
          | true =>
            have hrt := HRTE.out
            rw [hr] at hrt
            obtain ⟨W9, hW9⟩ : ∃ W9, W9 = wr := ⟨_, rfl⟩
            subst hW9
            have hra : rightB l A = true := by simp only [Bool.and_eq_true] at hrt; exact hrt.1.1
            have hrl : ∀ t ∈ kidsL F, rightB l t = true := by simp only [Bool.and_eq_true] at hrt; exact List.all_eq_true.1 hrt.2
            obtain ⟨hOk, hRA⟩ := right_facts hra
            have hJ := HJR.out
            rw [HM'.out] at hJ
            have hjs := join_same hJ hOk (fun t ht => (right_facts (hrl t ht)).2)
            have HJS := hid hjs
            have XO9 := hid (XO8.out.below HB.out); have TO9 := hid (TO8.out.below HB.out); have J9 := hid (J8.out.below HB.out); have Z9 := hid (Z8.out.below HB.out)
            have PR9 := hid (PR8.out.below HB.out)
            have PG9 : Hid (GL SepE W9 ps _) := hid (GL.keep sepE (fun k _ hk => HB.out.block k hk) PG8.out)
            have h69 : w6.heap.size ≤ W9.heap.size := Nat.le_trans h68 HB.out.size
            clear hra hrl hOk hRA hJ hjs hrt HJR I8 X8 L8 ROW8 OWN8 PR8 PG8 XO8 TO8 J8 Z8 HB HRTE
            have i0 := I9.out.box.c 0 rfl; have i7 := I9.out.box.c 7 rfl
            have x0 := X9.out.c0; have x1 := X9.out.c1; have x2 := X9.out.c2
            go_wp2_with fail
            clear i0 i7 x0 x1 x2
            refine (parts_any S n cap l f T ta tc W9 (HT.out.sig.below I9.out.low) TO9.out.tm).mono ?_
            rintro e wA ⟨qv, qs, rfl, hQ, hqn, hqs, hbA⟩
            obtain ⟨qa, qc, rfl, hqc, hqc2, hqrow, hqn0, hqb⟩ := row_of_owns hQ.row
            have hlen : qs.length = ps.length := by
              have h1 := congrArg List.length hqs
              have h2 := congrArg List.length HPS.out
              rw [List.length_map] at h1 h2
              omega
            have HQM := hid (hqs.trans HPS.out.symm)
            have QO := hid hQ.own
            have QR := hid hqrow
            have QB := hid hqb
            have I10 := hid (I9.out.below hbA); have X10 := hid (X9.out.below hbA); have L10 := hid (L9.out.below hbA)
            have XO10 := hid (XO9.out.below hbA); have TO10 := hid (TO9.out.below hbA); have J10 := hid (J9.out.below hbA); have Z10 := hid (Z9.out.below hbA)
            have PR10 := hid (PR9.out.below hbA)
            have PG10 : Hid (GL SepE wA ps _) := hid (GL.keep sepE (fun k _ hk => hbA.block k hk) PG9.out)
            have h610 := Nat.le_trans h69 hbA.size
            have h910 := hbA.size
            unfold maxLen at hqc2
            clear hQ hqn hqs hbA hqrow hqn0 hqb I9 X9 L9 XO9 TO9 J9 Z9 PR9 PG9
            have i0 := I10.out.box.c 0 rfl; have i7 := I10.out.box.c 7 rfl; have i8 := I10.out.box.c 8 rfl
            go_wp2_with fail
            clear i0 i7 i8
            refine (join_all S n cap l 1048576 (Nat.le_refl _) f F La lc wA (by omega) (HT.out.sig.below I10.out.low) (HLC.out.below I10.out.low)).mono ?_
            rintro e wB ⟨⟨ra, rc, rfl, hro⟩, hbB⟩
            rw [HJS.out.1]
            rw [HJS.out.2] at hro ⊢
            simp only [Kv.tn] at hro ⊢
            have B11 := alloc_below wB (.cells #[.string jx.1, .int .i64 jx.2, .slice ra (lenF jl) rc] 26)
            have BB : Below wA.heap.size wA (wB.alloc (.cells #[.string jx.1, .int .i64 jx.2, .slice ra (lenF jl) rc] 26)) := hbB.trans (B11.mono hbB.size)
            have I11 := hid (I10.out.below BB); have X11 := hid (X10.out.below BB); have L11 := hid (L10.out.below BB)
            have XO11 := hid (XO10.out.below BB); have TO11 := hid (TO10.out.below BB); have J11 := hid (J10.out.below BB); have Z11 := hid (Z10.out.below BB)
            have PR11 := hid (PR10.out.below BB)
            have PG11 : Hid (GL SepE _ ps _) := hid (GL.keep sepE (fun k _ hk => BB.block k hk) PG10.out)
            have QR11 := hid (QR.out.below BB)
            have QO11 := hid (fun k hk => (QO.out k hk).below BB)
            have R11 : Hid (TmAt (wB.alloc (.cells #[.string jx.1, .int .i64 jx.2, .slice ra (lenF jl) rc] 26)) jx ra rc jl) := hid (hro.tm.below B11)
            have K11 : Hid (XBox (wB.alloc (.cells #[.string jx.1, .int .i64 jx.2, .slice ra (lenF jl) rc] 26)) wB.heap.size jx (.slice ra (lenF jl) rc)) := World.alloc_heap_new wB _
            clear hro hbB B11 BB I10 X10 L10 XO10 TO10 J10 Z10 PR10 PG10 QR QO
            have z0 := Z11.out.c0; have z1 := Z11.out.c1; have z2 := Z11.out.c2
            have k0 := K11.out.c0; have k1 := K11.out.c1; have k2 := K11.out.c2
            obtain ⟨jb, hjb⟩ : ∃ jb, joinB l f ks.length = jb := ⟨_, rfl⟩
            rw [hjb]
            have hbb : (jb != jb) = false := by cases jb <;> rfl
            go_wp2_with fail
            clear z0 z1 z2 k0 k1 k2
            generalize wB.alloc (.cells #[.string jx.1, .int .i64 jx.2, .slice ra (lenF jl) rc] 26) = W11 at I11 X11 L11 XO11 TO11 J11 Z11 PR11 PG11 QR11 QO11 R11 K11 ⊢
            refine (exact_any jx jl ja ra jc rc W11 J11.out R11.out).mono ?_
            rintro e W12 ⟨rfl, hb12⟩
            have I12 := hid (I11.out.below hb12)
            have X12 := hid (X11.out.below hb12)
            have L12 := hid (L11.out.box.below hb12)
            have XO12 := hid (XO11.out.below hb12); have TO12 := hid (TO11.out.below hb12)
            have PR12 := hid (PR11.out.below hb12)
            have PG12 : Hid (GL SepE W12 ps _) := hid (GL.keep sepE (fun k _ hk => hb12.block k hk) PG11.out)
            have QR12 := hid (QR11.out.below hb12)
            have QO12 := hid (fun k hk => (QO11.out k hk).below hb12)
            clear hb12 I11 X11 L11 XO11 TO11 J11 Z11 PR11 PG11 QR11 QO11 R11 K11 hjb hbb
            have HLN := hid hlen
            clear hlen
            go_wp2_with fail
            go_loopw [18] (fun i wr => ∃ (j : Nat) (A : Bl), j ≤ ps.length ∧ i = .int .i64 j ∧ Fr (fun q => (W5.heap.size ≤ q ∧ ∀ b o, pa = some ⟨b, o, none⟩ → q ≠ b) ∧ q < w6.heap.size) W12 wr ∧ GL SepE wr (ps.drop j) A ∧ (∀ q, A q → (W5.heap.size ≤ q ∧ ∀ b o, pa = some ⟨b, o, none⟩ → q ≠ b) ∧ q < w6.heap.size)) (fun i _ => ps.length - (intOf i).toNat)
            case atStart => exact ⟨0, _, Nat.zero_le _, rfl, Fr.refl _ _, PG12.out, fun _ h => h⟩
            case round =>
              obtain ⟨j, A1, hj, rfl, hfr, hgl, hA1⟩ := hrel
              have HF := hid hfr
              have HG := hid hgl
              have HA := hid hA1
              have LOW : Hid (Below w.heap.size w wr) := hid (I12.out.low.trans (hfr.below (fun k hk => Nat.le_trans hw5 hk.1.1) I12.out.low.size))
              clear hfr hgl hA1
              by_cases hlt : j < ps.length
              · obtain ⟨kv, hkv⟩ : ∃ kv, ps[j]? = some kv := ⟨_, List.getElem?_eq_getElem hlt⟩
                have hlq : j < qs.length := by have := HLN.out; omega
                obtain ⟨qv, hqv⟩ : ∃ qv, qs[j]? = some qv := ⟨_, List.getElem?_eq_getElem hlq⟩
                have hpr := row_fr PR12.out (fun b o e hb => HF.out.same b hb (fun h => h.1.2 b o e rfl))
                have hqr := row_fr QR12.out (fun b o e hb => HF.out.same b hb (fun h => by have := (QB.out b o none e).1; omega))
                obtain ⟨pb, po, hpa, r0, r1, r2⟩ := hpr.get hkv
                obtain ⟨qb, qo, hqa, s0, s1, s2⟩ := hqr.get hqv
                have hqt : TmAt wr qv.x qv.a qv.c qv.l := ((QO12.out qv (List.mem_of_getElem? hqv)).keep (fun k hk hlt => HF.out.same k hlt (fun h => by have := hk.1; omega))).tm
                have hkq : qv.tn = kv.tn := by
                  have h2 := congrArg (·[j]?) HQM.out
                  simp only [List.getElem?_map, hkv, hqv, Option.map_some] at h2
                  exact Option.some.inj h2
                have hgl := HG.out
                rw [List.drop_eq_getElem_cons hlt, show ps[j] = kv from Option.some.inj ((List.getElem?_eq_getElem hlt).symm.trans hkv)] at hgl
                obtain ⟨A2, A3, hA2, hA3, hE, hR⟩ := hgl
                obtain ⟨kx, kl, ka, kc⟩ := kv
                obtain ⟨qx, ql, qa', qc'⟩ := qv
                simp only [Kv.tn, Prod.mk.injEq] at hkq
                obtain ⟨rfl, rfl⟩ := hkq
                dsimp only at r0 r1 r2 s0 s1 s2 hqt
                have HE := hid hE
                have HR := hid hR
                have HA2 := hid hA2
                have HA3 := hid hA3
                subst hpa hqa
                have HX : Hid (∀ W, Below wr.heap.size wr W → Calls Try.prog 17 #[.agg #[.string qx.1, .int .i64 qx.2, .slice ka (lenF ql) kc], .agg #[.string qx.1, .int .i64 qx.2, .slice qa' (lenF ql) qc']] W fun e w' => e = .returned (.bool true) ∧ Below W.heap.size W w') := hid fun W hW => exact_any qx ql ka qa' kc qc' W ((SepTm.tm HE.out).below hW) (hqt.below hW)
                have hne := later_some wr
                have e0 := later_cell r0; have e1 := later_cell r1; have e2 := later_cell r2
                have g0 := later_cell s0; have g1 := later_cell s1; have g2 := later_cell s2
                have hj0 : (0 : Int) ≤ (j : Int) := by omega
                have hjn : (j : Int) < (ps.length : Int) := by omega
                clear r0 r1 r2 s0 s1 s2 hqt hpr hqr hE hR hA2 hA3
                go_wp2_with fail
                refine wp_region_later (by kernel_rfl) (by kernel_rfl) ?_
                repeat (go_big_quiet_step (first | (go_at_call 17; with_reducible refine calls_later (HX.out _ ?_); exact Later.below _) | fail))
                refine wpQuiet_nil ?_
                intro _ hw'
                obtain ⟨b3, hw''⟩ := hw'
                subst hw''
                have f0 := e0 b3; have f1 := e1 b3; have f2 := e2 b3
                clear e0 e1 e2 g0 g1 g2 hne
                go_wp2_with fail
                refine (spoil_any A2 qx ql ka kc b3.now (SepTm.below HE.out b3.below)).mono ?_
                rintro e wS ⟨⟨vS, rfl⟩, hfs⟩
                have HFS := hid hfs
                clear hfs f0 f1 f2
                go_wp2
                go_roundw
                case rel =>
                  refine ⟨j + 1, A3, by omega, by go_num, (HF.out.trans (Fr.of_below b3.below)).trans (HFS.out.mono (fun k hk => HA.out k (HA2.out k hk))), ?_, fun q hq => HA.out q (HA3.out q hq).1⟩
                  refine GL.keep sepE (fun k hk hlt => ?_) HR.out
                  rw [HFS.out.same k (Nat.lt_of_lt_of_le hlt b3.below.size) (HA3.out k hk).2, b3.below.block k hlt]
                case measure => simp [intOf]; omega
              · have hxo : OwnTm true (fun q => q < W5.heap.size) wr T.1 xa xc T.2 := XO12.out.keep (fun k hk hlt => HF.out.same k hlt (fun h => by have := h.1.1; omega))
                have hto : OwnTm false (fun q => q < W5.heap.size) wr T.1 ta tc T.2 := TO12.out.keep (fun k hk hlt => HF.out.same k hlt (fun h => by have := h.1.1; omega))
                have hxb : XBox wr w4.heap.size T.1 (.slice xa (lenF T.2) xc) := (HF.out.same _ L12.out.lt (fun h => by have := h.1.1; have := HBX.out; omega)).trans L12.out
                have htb : XBox wr w3.heap.size T.1 (.slice ta (lenF T.2) tc) := (HF.out.same _ X12.out.lt (fun h => by have := h.1.1; have := HBT.out; omega)).trans X12.out
                have HXO := hid hxo
                have HTO := hid hto
                have x0 := htb.c0; have x1 := htb.c1; have x2 := htb.c2
                have l0 := hxb.c0; have l1 := hxb.c1; have l2 := hxb.c2
                clear hxo hto hxb htb
                go_wp2_with fail
                refine (kept_any _ T.1 T.2 xa ta xc tc wr HXO.out HTO.out.tm).mono ?_
                rintro e wE ⟨rfl, hbE⟩
                have HBE := hid hbE
                clear hbE x0 x1 x2 l0 l1 l2
                go_wp2
                go_ret
                exact ⟨rfl, LOW.out.trans (HBE.out.mono LOW.out.size)⟩
theorem canonParts : Rows.CanonPartsUptoSaid := canonParts_of parts_walk
end Go.Proofs.Ytlemkgdbefmeeaa
