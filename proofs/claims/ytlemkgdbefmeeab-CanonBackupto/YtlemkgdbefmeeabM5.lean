/- Texts laid together: PParts, RParts, RJoin, PJoin, TSpoil, RCanon, RExact, Name, RSym, RChk, RIs, RTwo, RApp. -/
import Derived.Laws.ResultCell
import Derived.Test.YtlemkgdbefmeeabM4
/- What Parts of package canon answers. -/
namespace Go.Proofs.Ytlemkgdbefmeeab
open Go.RowKit Go.Deep

/-- A list of new terms that a slice holds, none of which shares a block with another. -/
structure NewL (B : Nat) (w : World) (a : Option Addr) (c : Nat) (ks : List Kv) : Prop where
  row : RowAt w a ks.length ks
  gl : GL SepE w ks (fun q => B ≤ q ∧ ∀ b o, a = some ⟨b, o, none⟩ → q ≠ b)
  nil : a = none → c = 0
  new : ∀ b o, a = some ⟨b, o, none⟩ → B ≤ b
  cap : ks.length ≤ c ∧ c ≤ maxLen
theorem newL_clone {w : World} {B : Nat} {x : ByteArray × Int} {a : Option Addr} {c : Nat} {F : Fo} (h : SepTm w (fun q => B ≤ q) x a c F) (hz : lenF F = 0 → a = none ∧ c = 0) : ∃ ks : List Kv, ks.map Kv.tn = kidsL F ∧ ks.length = lenF F ∧ NewL B w a c ks := by
  rcases h.list with e | ⟨g, cur, e1, e2, e3, e4⟩
  · subst e
    obtain ⟨rfl, rfl⟩ := hz rfl
    exact ⟨[], rfl, rfl, RowAt.empty _ _, trivial, fun _ => rfl, (fun b o e => by cases e), Nat.le_refl _, Nat.zero_le _⟩
  · subst e1
    obtain ⟨ks, k1, k2, k3⟩ := sepKids_list e4
    have hl : ks.length = lenF F := by have := congrArg List.length k1; rwa [List.length_map, kids_len] at this
    exact ⟨ks, k1, hl, ⟨rfl, fun j u hu => ⟨g, 0, rfl, k2 j u hu⟩⟩, k3.mono (fun q hq => ⟨hq.1, fun b o e => by cases e; exact hq.2⟩), (fun e => by cases e), (fun b o e => by cases e; exact e2), by rw [hl]; exact h.sizes.len, h.sizes.cap⟩
theorem parts_eq (l : List Sym) (f : Int) (t : Tn) : partsN (sgOf l) f t = if (!decide (kindK l f = 1) && headed f t) = true then kidsL t.2 else if isUnB l f t then [] else [t] := by
  rw [isUnB_eq]
  have hk := kindK_ok l f
  unfold partsN
  by_cases h1 : kindK l f = 1
  · have hj := hk.free.1 h1
    have hu : isUn (sgOf l) f t = false := by
      have : unitAt l f = none := by
        by_cases hin : 0 ≤ f ∧ f.toNat < l.length
        · obtain ⟨n, rfl⟩ := Int.eq_ofNat_of_zero_le hin.1
          have hn : n < l.length := by simpa using hin.2
          refine unit_not hn ?_
          unfold kindK at h1
          rw [symAt_in hn] at h1
          dsimp only at h1
          intro e
          rw [e] at h1
          simp at h1
        · exact unit_out hin
      unfold isUn
      show (match (unitAt l f).map (fun (i : Nat) => (i : Int)) with | some u => isConst t u | none => false) = false
      rw [this]
      rfl
    rw [hj, hu]
    simp [h1]
  · have hj : (sgOf l).joins f = true := by
      cases h : (sgOf l).joins f with
      | true => rfl
      | false => exact absurd (hk.free.2 h) h1
    rw [hj]
    cases hu : isUn (sgOf l) f t with
    | false => simp [h1]
    | true =>
      obtain ⟨u, _, rfl⟩ := isUn_some hu
      cases hh : headed f (constT u) <;> simp [h1, constT, kidsL]

theorem field2 (s : ByteArray) (i : Int) (a : Option Addr) (n c : Nat) (W : World) : (Instr.field 26 (.agg #[.string s, .int .i64 i, .slice a n c]) 2).run Try.prog W = .ok (.slice a n c) W := by kernel_rfl

set_option maxRecDepth 100000 in
set_option maxHeartbeats 2000000 in
theorem pparts_any (S : Option Addr) (n cap : Nat) (l : List Sym) (f : Int) (t : Tn) (a : Option Addr) (c : Nat) (w : World) (hS : SigAt w S n l) (hT : TmAt w t.1 a c t.2) :
    Calls Try.prog 8 #[.slice S n cap, .int .i64 f, .agg #[.string t.1.1, .int .i64 t.1.2, .slice a (lenF t.2) c]] w fun e w' => ∃ (a' : Option Addr) (c' : Nat) (ks : List Kv), e = .returned (.slice a' ks.length c') ∧ ks.map Kv.tn = partsN (sgOf l) f t ∧ NewL w.heap.size w' a' c' ks ∧ Below w.heap.size w w' := by
  obtain ⟨⟨nm, s⟩, F⟩ := t
  have HH : Hid (∀ W, Below w.heap.size w W → Calls Try.prog 20 #[.slice S n cap, .int .i64 f] W fun e w' => e = .returned (.agg #[.slice S n cap, .int .i64 f, .int .i64 (kindK l f), .int .i64 (unitI l f), .bool (unitOk l f)]) ∧ Below W.heap.size W w') := fun W hW => headAt_any S n cap l f W (hS.below hW)
  have HCL : Hid (∀ W, Below w.heap.size w W → Calls Try.prog 22 #[.agg #[.string nm, .int .i64 s, .slice a (lenF F) c]] W fun e w' => ∃ a' c', e = .returned (.agg #[.string nm, .int .i64 s, .slice a' (lenF F) c']) ∧ SepTm w' (fun k => W.heap.size ≤ k) (nm, s) a' c' F ∧ Below W.heap.size W w' ∧ (lenF F = 0 → a' = none ∧ c' = 0)) := fun W hW => clone_any (nm, s) F a c W (TmAt.below hT hW)
  have hp := parts_eq l f ((nm, s), F)
  obtain ⟨gb, hgb⟩ : ∃ gb, (!decide (kindK l f = 1) && headed f ((nm, s), F)) = gb := ⟨_, rfl⟩
  obtain ⟨ub, hub⟩ : ∃ ub, isUnB l f ((nm, s), F) = ub := ⟨_, rfl⟩
  have HG : Hid (∀ W, Calls Try.prog 21 #[.agg #[.slice S n cap, .int .i64 f, .int .i64 (kindK l f), .int .i64 (unitI l f), .bool (unitOk l f)], .agg #[.string nm, .int .i64 s, .slice a (lenF F) c]] W fun e w' => e = .returned (.bool gb) ∧ Below W.heap.size W w') := fun W => by
    have := gathers_any S n cap f (kindK l f) (unitI l f) (unitOk l f) ((nm, s), F) a c W
    rw [hgb] at this
    exact this
  have HU : Hid (∀ W, Below w.heap.size w W → Calls Try.prog 23 #[.agg #[.slice S n cap, .int .i64 f, .int .i64 (kindK l f), .int .i64 (unitI l f), .bool (unitOk l f)], .agg #[.string nm, .int .i64 s, .slice a (lenF F) c]] W fun e w' => e = .returned (.bool ub) ∧ Below W.heap.size W w') := fun W hW => by
    have := isUnit_any S n cap f (kindK l f) l ((nm, s), F) a c W (TmAt.below hT hW)
    rw [hub] at this
    exact this
  rw [hgb, hub] at hp
  have HP := hid hp
  clear hgb hub hp hS hT
  have HB0 : Hid (Below w.heap.size w (w.alloc (.cells #[.string nm, .int .i64 s, .slice a (lenF F) c] 26))) := (Below.refl _ w).alloc (Nat.le_refl _) _
  have HX0 : Hid (XBox (w.alloc (.cells #[.string nm, .int .i64 s, .slice a (lenF F) c] 26)) w.heap.size (nm, s) (.slice a (lenF F) c)) := World.alloc_heap_new w _
  cases gb
  · cases ub
    · go_enter Try.func8, Try.ntmps8
      go_wp2_with (first
        | (go_at_call 20; refine (HH.out _ HB0.out).mono ?_; rintro e w1 ⟨rfl, hb1⟩; have HB1 := hid (HB0.out.trans (hb1.mono HB0.out.size)); have HX1 := hid (HX0.out.below hb1); have c0 := HX1.out.c0; have c1 := HX1.out.c1; have c2 := HX1.out.c2; have d0 := below_cell ((Below.refl _ w1).alloc (Nat.le_refl _) (.cells #[.slice S n cap, .int .i64 f, .int .i64 (kindK l f), .int .i64 (unitI l f), .bool (unitOk l f)] 50)) _ _ c0; have d1 := below_cell ((Below.refl _ w1).alloc (Nat.le_refl _) (.cells #[.slice S n cap, .int .i64 f, .int .i64 (kindK l f), .int .i64 (unitI l f), .bool (unitOk l f)] 50)) _ _ c1; have d2 := below_cell ((Below.refl _ w1).alloc (Nat.le_refl _) (.cells #[.slice S n cap, .int .i64 f, .int .i64 (kindK l f), .int .i64 (unitI l f), .bool (unitOk l f)] 50)) _ _ c2; clear hb1)
        | (go_at_call 21; refine (HG.out _).mono ?_; rintro e w3 ⟨rfl, hb3⟩; have hb13 : Below w1.heap.size w1 w3 := ((Below.refl _ w1).alloc (Nat.le_refl _) (.cells #[.slice S n cap, .int .i64 f, .int .i64 (kindK l f), .int .i64 (unitI l f), .bool (unitOk l f)] 50)).trans (hb3.mono (by simp)); have HB3 := hid (HB1.out.trans (hb13.mono HB1.out.size)); have HX3 := hid (HX1.out.below hb13); have e0 := HX3.out.c0; have e1 := HX3.out.c1; have e2 := HX3.out.c2; have FB := hid ((Box.new w1 50 #[.slice S n cap, .int .i64 f, .int .i64 (kindK l f), .int .i64 (unitI l f), .bool (unitOk l f)]).below hb3); have g0 := FB.out.c 0; have g1 := FB.out.c 1; have g2 := FB.out.c 2; have g3 := FB.out.c 3; have g4 := FB.out.c 4; clear hb3 hb13 c0 c1 c2 d0 d1 d2)
        | (go_at_call 23; refine (HU.out _ HB3.out).mono ?_; rintro e w4 ⟨rfl, hb4⟩; have HB4 := hid (HB3.out.trans (hb4.mono HB3.out.size)); have HX4 := hid (HX3.out.below hb4); have h0 := HX4.out.c0; have h1 := HX4.out.c1; have h2 := HX4.out.c2; clear hb4 e0 e1 e2 g0 g1 g2 g3 g4)
        | (go_at_call 22; refine (HCL.out _ HB4.out).mono ?_; rintro e w5 ⟨a', c', rfl, hs5, hb5, hz5⟩; have HS5 := hid hs5; have HB5 := hid (HB4.out.trans (hb5.mono HB4.out.size)); clear hs5 hb5 hz5)
        | fail)
      go_ret
      refine ⟨some ⟨w5.heap.size, 0, none⟩, 1, [⟨(nm, s), F, a', c'⟩], rfl, by rw [HP.out]; rfl, ⟨RowAt.new w5 ⟨(nm, s), F, a', c'⟩, GL.one (E := SepE) ?_, (fun e => by cases e), (fun b o e => by cases e; exact HB5.out.size), Nat.le_refl _, by show 1 ≤ maxLen; decide⟩, HB5.out.alloc HB5.out.size _⟩
      refine sepE.mono (fun q hq => ?_) (sepE.keep (k := ⟨(nm, s), F, a', c'⟩) (fun q _ hq => Below.heap_alloc _ _ _ hq) (sepE.within (k := ⟨(nm, s), F, a', c'⟩) HS5.out))
      exact ⟨by have := hq.1; have := HB4.out.size; omega, fun b o e => by cases e; have := hq.2; omega⟩
    · go_enter Try.func8, Try.ntmps8
      go_wp2_with (first
        | (go_at_call 20; refine (HH.out _ HB0.out).mono ?_; rintro e w1 ⟨rfl, hb1⟩; have HB1 := hid (HB0.out.trans (hb1.mono HB0.out.size)); have HX1 := hid (HX0.out.below hb1); have c0 := HX1.out.c0; have c1 := HX1.out.c1; have c2 := HX1.out.c2; have d0 := below_cell ((Below.refl _ w1).alloc (Nat.le_refl _) (.cells #[.slice S n cap, .int .i64 f, .int .i64 (kindK l f), .int .i64 (unitI l f), .bool (unitOk l f)] 50)) _ _ c0; have d1 := below_cell ((Below.refl _ w1).alloc (Nat.le_refl _) (.cells #[.slice S n cap, .int .i64 f, .int .i64 (kindK l f), .int .i64 (unitI l f), .bool (unitOk l f)] 50)) _ _ c1; have d2 := below_cell ((Below.refl _ w1).alloc (Nat.le_refl _) (.cells #[.slice S n cap, .int .i64 f, .int .i64 (kindK l f), .int .i64 (unitI l f), .bool (unitOk l f)] 50)) _ _ c2; clear hb1)
        | (go_at_call 21; refine (HG.out _).mono ?_; rintro e w3 ⟨rfl, hb3⟩; have hb13 : Below w1.heap.size w1 w3 := ((Below.refl _ w1).alloc (Nat.le_refl _) (.cells #[.slice S n cap, .int .i64 f, .int .i64 (kindK l f), .int .i64 (unitI l f), .bool (unitOk l f)] 50)).trans (hb3.mono (by simp)); have HB3 := hid (HB1.out.trans (hb13.mono HB1.out.size)); have HX3 := hid (HX1.out.below hb13); have e0 := HX3.out.c0; have e1 := HX3.out.c1; have e2 := HX3.out.c2; have FB := hid ((Box.new w1 50 #[.slice S n cap, .int .i64 f, .int .i64 (kindK l f), .int .i64 (unitI l f), .bool (unitOk l f)]).below hb3); have g0 := FB.out.c 0; have g1 := FB.out.c 1; have g2 := FB.out.c 2; have g3 := FB.out.c 3; have g4 := FB.out.c 4; clear hb3 hb13 c0 c1 c2 d0 d1 d2)
        | (go_at_call 23; refine (HU.out _ HB3.out).mono ?_; rintro e w4 ⟨rfl, hb4⟩; have HB4 := hid (HB3.out.trans (hb4.mono HB3.out.size)); have HX4 := hid (HX3.out.below hb4); have h0 := HX4.out.c0; have h1 := HX4.out.c1; have h2 := HX4.out.c2; clear hb4 e0 e1 e2 g0 g1 g2 g3 g4)
        | fail)
      go_ret
      exact ⟨none, 0, [], rfl, by rw [HP.out]; rfl, ⟨RowAt.empty _ _, trivial, fun _ => rfl, (fun b o e => by cases e), Nat.le_refl _, Nat.zero_le _⟩, HB4.out⟩
  · have hfd := field2
    go_enter Try.func8, Try.ntmps8
    go_wp2_with (first
      | (go_at_call 20; refine (HH.out _ HB0.out).mono ?_; rintro e w1 ⟨rfl, hb1⟩; have HB1 := hid (HB0.out.trans (hb1.mono HB0.out.size)); have HX1 := hid (HX0.out.below hb1); have c0 := HX1.out.c0; have c1 := HX1.out.c1; have c2 := HX1.out.c2; have d0 := below_cell ((Below.refl _ w1).alloc (Nat.le_refl _) (.cells #[.slice S n cap, .int .i64 f, .int .i64 (kindK l f), .int .i64 (unitI l f), .bool (unitOk l f)] 50)) _ _ c0; have d1 := below_cell ((Below.refl _ w1).alloc (Nat.le_refl _) (.cells #[.slice S n cap, .int .i64 f, .int .i64 (kindK l f), .int .i64 (unitI l f), .bool (unitOk l f)] 50)) _ _ c1; have d2 := below_cell ((Below.refl _ w1).alloc (Nat.le_refl _) (.cells #[.slice S n cap, .int .i64 f, .int .i64 (kindK l f), .int .i64 (unitI l f), .bool (unitOk l f)] 50)) _ _ c2; clear hb1)
      | (go_at_call 21; refine (HG.out _).mono ?_; rintro e w3 ⟨rfl, hb3⟩; have hb13 : Below w1.heap.size w1 w3 := ((Below.refl _ w1).alloc (Nat.le_refl _) (.cells #[.slice S n cap, .int .i64 f, .int .i64 (kindK l f), .int .i64 (unitI l f), .bool (unitOk l f)] 50)).trans (hb3.mono (by simp)); have HB3 := hid (HB1.out.trans (hb13.mono HB1.out.size)); have HX3 := hid (HX1.out.below hb13); have e0 := HX3.out.c0; have e1 := HX3.out.c1; have e2 := HX3.out.c2; have FB := hid ((Box.new w1 50 #[.slice S n cap, .int .i64 f, .int .i64 (kindK l f), .int .i64 (unitI l f), .bool (unitOk l f)]).below hb3); have g0 := FB.out.c 0; have g1 := FB.out.c 1; have g2 := FB.out.c 2; have g3 := FB.out.c 3; have g4 := FB.out.c 4; clear hb3 hb13 c0 c1 c2 d0 d1 d2)
      | (go_at_call 22; refine (HCL.out _ HB3.out).mono ?_; rintro e w5 ⟨a', c', rfl, hs5, hb5, hz5⟩; have HS5 := hid hs5; have HZ5 := hid hz5; have HB5 := hid (HB3.out.trans (hb5.mono HB3.out.size)); clear hs5 hb5 hz5)
      | fail)
    go_ret
    obtain ⟨ks, k1, k2, k3⟩ := newL_clone (B := w.heap.size) (SepTm.mono (fun q hq => by have := HB3.out.size; omega) HS5.out) HZ5.out
    exact ⟨a', c', ks, by rw [k2]; rfl, by rw [HP.out, k1]; rfl, k3, HB5.out⟩
end Go.Proofs.Ytlemkgdbefmeeab
/- What the document's Parts answers, of any term. -/
namespace Go.Proofs.Ytlemkgdbefmeeab
open Go.RowKit Go.Deep

set_option maxRecDepth 100000 in
/-- A list of one new term. -/
theorem Lst.one {B : Nat} {W : World} (k : Kv) (hB : B ≤ W.heap.size) (h : OwnTm false (fun q => B ≤ q) W k.x k.a k.c k.l) : Lst B (W.alloc (.cells #[.string k.x.1, .int .i64 k.x.2, .slice k.a (lenF k.l) k.c] 26)) (.slice (some ⟨W.heap.size, 0, none⟩) 1 1) [k] := by
  refine ⟨⟨rfl, .inr ⟨W.heap.size, 1, _, rfl, hB, World.alloc_heap_new W _, Nat.le_refl _, by decide, rfl, rfl⟩⟩, fun k' hk => ?_⟩
  simp only [List.mem_singleton] at hk
  subst hk
  have h2 : OwnTm false (fun q => B ≤ q ∧ some q ≠ some W.heap.size) W k'.x k'.a k'.c k'.l := h.mono (fun q hq hp => ⟨hp, fun e => by cases e; omega⟩)
  exact h2.below ((Below.refl _ _).alloc (Nat.le_refl _) _)

end Go.Proofs.Ytlemkgdbefmeeab
/- What the document's Join and Canon answer, of any terms. -/
namespace Go.Proofs.Ytlemkgdbefmeeab
open Go.RowKit Go.Deep

set_option maxRecDepth 100000 in
/-- A list that is done, as a term's. -/
theorem Lst.term {B : Nat} {W : World} {v : Value} {ks : List Kv} {F : Fo} (x : ByteArray × Int) (h : Lst B W v ks) (hk : ks.map Kv.tn = kidsL F) (hx : x.1.size ≤ maxLen) (hf : lenF F * 48 ≤ 140737488351232) :
    ∃ a c, v = .slice a (lenF F) c ∧ OwnTm false (fun q => B ≤ q) W x a c F := by
  have hl : ks.length = lenF F := by have := congrArg List.length hk; rwa [List.length_map, kids_len] at this
  rcases h.row.2 with ⟨hv, h0⟩ | ⟨g, cap, cur, hv, hb, hg, hnc, hcm, hsz, hcur⟩
  · refine ⟨none, 0, by rw [← hl, h0]; exact hv, ⟨⟨hx, by omega, by simp, hf⟩, .inl ⟨len_nil (by omega), rfl⟩⟩⟩
  · have hrow := h.row
    rw [hv] at hrow
    refine ⟨_, cap, by rw [← hl]; exact hv, ⟨⟨hx, by omega, hcm, hf⟩, .inr ⟨g, cur, rfl, hb, hg, (fun e => by cases e), ownKids_of F ks 0 hk (owns_at hrow) (fun k hk => (h.own k hk).mono (fun q _ hq => hq.1))⟩⟩⟩
set_option maxRecDepth 100000 in
/-- What comes out of Parts: nil, or some. -/
theorem Lst.shape {B : Nat} {W : World} {v : Value} {ms : List Kv} (h : Lst B W v ms) (hn : ms = [] → v = .slice none 0 0) : ∃ a c, v = .slice a ms.length c ∧ RowAt W a ms.length ms ∧ (a = none → c = 0) ∧ (a ≠ none → 0 < ms.length) := by
  obtain ⟨a, c, rfl, _, _, h3, h4, _⟩ := row_of_owns h.row
  refine ⟨a, c, rfl, h3, fun e => (h4 e).2, fun e => ?_⟩
  cases ms with
  | nil => cases hn rfl; exact absurd rfl e
  | cons k r => simp
set_option maxRecDepth 100000 in
/-- What Sorted makes of a list. -/
theorem Lst.sorted {B : Nat} {W W' : World} {v v' : Value} {ks out : List Kv} (h : Lst B W v ks) (hB : B ≤ W.heap.size) (hb : Below W.heap.size W W') (ho : W'.ownsRow W.heap.size 26 3 v' out.length (kvCells out)) (hin : ∀ k ∈ out, k ∈ ks) : Lst B W' v' out := by
  refine ⟨owns_base ho hB, fun k hk => ?_⟩
  have h2 : OwnTm false (fun q => B ≤ q ∧ some q ≠ v'.ownBlock) W k.x k.a k.c k.l := (h.own k (hin k hk)).mono (fun q hq hp => ⟨hp.1, fun e => by have := (owns_cells ho e.symm).1; omega⟩)
  exact h2.below hb
def zeroT : Tn := ((noB, 0), .nil)
/-- One term, in new memory. -/
def JoinRet (B : Nat) (W : World) (r : Option Tn) (e : Ending) : Prop :=
  ∃ a c, e = .returned (.tuple #[.agg #[.string (r.getD zeroT).1.1, .int .i64 (r.getD zeroT).1.2, .slice a (lenF (r.getD zeroT).2) c], .bool r.isSome]) ∧ OwnTm false (fun q => B ≤ q) W (r.getD zeroT).1 a c (r.getD zeroT).2
set_option maxRecDepth 100000 in
theorem sizes_len : ∀ l : List Tn, l.length ≤ sizes l
  | [] => Nat.le_refl _
  | t :: r => by rw [sizes_cons, List.length_cons]; have := sizes_len r; unfold sizeT; omega
set_option maxRecDepth 100000 in
theorem sizes_take (l : List Tn) (j : Nat) : sizes (l.take j) ≤ sizes l := by
  have := sizes_append (l.take j) (l.drop j)
  rw [List.take_append_drop] at this
  omega
set_option maxRecDepth 100000 in
/-- How many parts there are, at most. -/
theorem flat_few (S : Sg) (f : Int) (F : Fo) (j : Nat) : (((canonL S F).take j).flatMap (partsN S f)).length ≤ nodesF F :=
  Nat.le_trans (sizes_len _) (Nat.le_trans (flat_size S f _) (Nat.le_trans (sizes_take _ j) (canonL_size S F)))
set_option maxRecDepth 100000 in
theorem canonL_take {S : Sg} {F : Fo} {k : Nat} {x : ByteArray × Int} {m : Fo} {B O : Nat} {r : Fo} (h : dropF k F = .node B O x m r) : (canonL S F).take (k + 1) = (canonL S F).take k ++ [canonT S (x, m)] := by
  rw [canonL_map, ← List.map_take, ← List.map_take, kids_take h]
  simp
set_option maxRecDepth 100000 in
/-- The answer, in the box that is the function's. -/
theorem ret_join {fn : Func} {R : Ending → World → Prop} {a : Act} {w : World} {p u B : Nat} {x : ByteArray × Int} {v : Value} (h : fn.results = #[.cell p 26, .tmp u]) (hp : a.tmps.getD p undef = .pointer (some ⟨B, 0, none⟩))
    (hx : XBox w B x v) (hd : a.defers = []) (hR : R (.returned (.tuple #[.agg #[.string x.1, .int .i64 x.2, v], a.tmps.getD u undef])) w) : bodyPost Try.prog fn R .ret a w := by
  refine bodyPost_ret ?_ hd hR
  rw [results_cell_tmp h, hp]
  rw [show (asAddr (.pointer (some ⟨B, 0, none⟩))).run Try.prog w = .ok ⟨B, 0, none⟩ w from rfl]
  simp only [Result.andThen_ok, run_loadVar_row w B 26 26 _ (0, 0) _ hx Try.underlying26 rfl Try.size26]
set_option maxRecDepth 100000 in
theorem own_nil {P : Nat → Prop} (W : World) (x : ByteArray × Int) (hx : x.1.size ≤ maxLen) : OwnTm false P W x none 0 .nil := ⟨⟨hx, Nat.le_refl _, by simp, by simp [lenF]⟩, .inl ⟨rfl, rfl⟩⟩
set_option maxRecDepth 100000 in
theorem OwnTm.sets {W : World} {B : Nat} {x : ByteArray × Int} {a : Option Addr} {c : Nat} {F : Fo} (h : OwnTm false (fun q => B + 1 ≤ q) W x a c F) (u v t : Value) : OwnTm false (fun q => B ≤ q) (((W.setCell ⟨B, 0, none⟩ u).setCell ⟨B, 1, none⟩ v).setCell ⟨B, 2, none⟩ t) x a c F :=
  (h.keep (fun q hq _ => sets_far (by omega) _ _ _)).mono (fun q _ hq => by omega)

end Go.Proofs.Ytlemkgdbefmeeab
/- What Join of package canon answers. -/
namespace Go.Proofs.Ytlemkgdbefmeeab
open Go.RowKit Go.Deep

def joinB (l : List Sym) (f : Int) (n : Nat) : Bool := !decide (kindK l f = 1) && (!(n == 0) || unitOk l f)
/-- What is joined: of right terms the canonical term; no greater than they are, whatever they are. -/
def JoinR (l : List Sym) (f : Int) (ts : List Tn) (b : Bool) (r : Tn) : Prop :=
  sizeT r ≤ sizes ts + 1 ∧ (b = false → r = constT 0) ∧ ((sgOf l).Ok (arAt l) → (∀ t ∈ ts, RightT (sgOf l) (arAt l) t) → joinN (sgOf l) f (ts.map (canonT (sgOf l))) = if b then some r else none)
theorem joinR_no {l : List Sym} {f : Int} {ts : List Tn} (h : joinB l f ts.length = false) : JoinR l f ts false (constT 0) := by
  refine ⟨by simp [sizeT, constT, nodesF], fun _ => rfl, fun _ _ => ?_⟩
  unfold joinB at h
  unfold joinN
  simp only [Bool.false_eq_true, if_false]
  by_cases hk : kindK l f = 1
  · rw [if_pos ((kindK_ok l f).free.1 hk)]
  · simp only [hk, decide_false, Bool.not_false, Bool.true_and, Bool.or_eq_false_iff, Bool.not_eq_false', beq_iff_eq] at h
    obtain ⟨h1, h2⟩ := h
    have hts : ts = [] := List.length_eq_zero_iff.1 h1
    subst hts
    split
    · rfl
    · show ((unitAt l f).map _).map constT = none
      unfold unitOk at h2
      rw [Option.isSome_eq_false_iff, Option.isNone_iff_eq_none] at h2
      rw [h2]
      rfl
theorem joinR_yes {l : List Sym} {f : Int} {F : Fo} {rs : List Tn} {r r' : Tn} (h : joinB l f (lenF F) = true) (ha : All2 (LooseR (sgOf l) (arAt l)) (kidsL F) rs) (hl : LayR (sgOf l) (kindK l f) f (unitI l f) rs r) (hs : SetR (sgOf l) r r') : JoinR l f (kidsL F) true r' := by
  refine ⟨?_, (fun e => by cases e), fun hS hR => ?_⟩
  · rw [set_size hs]
    have h1 := lay_size hl
    have h2 := loose_sizes ha
    omega
  · have hk := kindK_ok l f
    unfold joinB at h
    rw [Bool.and_eq_true, Bool.or_eq_true] at h
    obtain ⟨h1, h2⟩ := h
    have hj : (sgOf l).joins f = true := by
      cases hj : (sgOf l).joins f with
      | true => rfl
      | false => have := hk.free.2 hj; simp [this] at h1
    have hn : kidsL F ≠ [] ∨ (sgOf l).unit f ≠ none := by
      rcases h2 with h2 | h2
      · left
        intro e
        have := congrArg List.length e
        rw [kids_len] at this
        simp [this] at h2
      · right
        intro e
        have e : (unitAt l f).map (fun (i : Nat) => (i : Int)) = none := e
        rw [Option.map_eq_none_iff] at e
        unfold unitOk at h2
        rw [e] at h2
        cases h2
    obtain ⟨c, c1, c2⟩ := lay_join hS hk hj hR ha hl hn
    unfold joinN
    rw [if_neg (by rw [hj]; simp), List.flatMap_map]
    have e : (fun a => partsN (sgOf l) f (canonT (sgOf l) a)) = pc (sgOf l) f := rfl
    rw [e, c1]
    have hcan : CanT (sgOf l) (arAt l) c := join_can hS hj (fun p hp => by
      obtain ⟨t, ht, hp⟩ := List.mem_flatMap.1 hp
      exact parts_good hj (canonT_can hS (hR t ht)) p hp) c1
    rw [mod_set hcan c2 hs]
    rfl

set_option maxRecDepth 100000 in
set_option maxHeartbeats 2000000 in
theorem pjoin_any (S : Option Addr) (n cap : Nat) (l : List Sym) (f : Int) (F : Fo) (a : Option Addr) (c : Nat) (w : World) (hS : SigAt w S n l) (hA : ArgsAt w a F) (hk : nodesF F ≤ 1048576) :
    Calls Try.prog 9 #[.slice S n cap, .int .i64 f, .slice a (lenF F) c] w fun e w' => ∃ k : Kv, e = .returned (.tuple #[.agg #[.string k.x.1, .int .i64 k.x.2, .slice k.a (lenF k.l) k.c], .bool (joinB l f (lenF F))]) ∧ JoinR l f (kidsL F) (joinB l f (lenF F)) k.tn ∧ LoosE w' (fun q => w.heap.size ≤ q) k ∧ Below w.heap.size w w' := by
  have HH : Hid (∀ W, Below w.heap.size w W → Calls Try.prog 20 #[.slice S n cap, .int .i64 f] W fun e w' => e = .returned (.agg #[.slice S n cap, .int .i64 f, .int .i64 (kindK l f), .int .i64 (unitI l f), .bool (unitOk l f)]) ∧ Below W.heap.size W w') := fun W hW => headAt_any S n cap l f W (hS.below hW)
  have HLY : Hid (∀ W, Below w.heap.size w W → Calls Try.prog 24 #[.agg #[.slice S n cap, .int .i64 f, .int .i64 (kindK l f), .int .i64 (unitI l f), .bool (unitOk l f)], .slice a (lenF F) c] W fun e w' => ∃ (k : Kv) (rs : List Tn), e = .returned (.agg #[.string k.x.1, .int .i64 k.x.2, .slice k.a (lenF k.l) k.c]) ∧ All2 (LooseR (sgOf l) (arAt l)) (kidsL F) rs ∧ LayR (sgOf l) (kindK l f) f (unitI l f) rs k.tn ∧ LoosE w' (fun q => W.heap.size ≤ q) k ∧ Below W.heap.size W w') := fun W hW => lay_of S n cap l 1048576 (Nat.le_refl _) (fun j hj => loose_all S n cap l j (by omega)) f F a c W hk (hS.below hW) (hA.below hW)
  have HSE : Hid (∀ W k A, Below w.heap.size w W → LoosE W A k → Calls Try.prog 18 #[.slice S n cap, .agg #[.string k.x.1, .int .i64 k.x.2, .slice k.a (lenF k.l) k.c]] W fun e w' => ∃ F, e = .returned (.agg #[.string k.x.1, .int .i64 k.x.2, .slice k.a (lenF F) k.c]) ∧ lenF F = lenF k.l ∧ SetR (sgOf l) k.tn (k.x, F) ∧ LoosE w' A ⟨k.x, F, k.a, k.c⟩ ∧ Turned A W w') := fun W k A hW hE => settle_any S n cap l k A W (hS.below hW) hE
  have hlen : lenF F ≤ 1048576 := by have := len_nodes F; omega
  clear hS hA
  obtain ⟨kd, hkd⟩ : ∃ kd, kindK l f = kd := ⟨_, rfl⟩
  have HKD := hid hkd
  rw [hkd] at HH HLY
  clear hkd
  have hJ : ∀ w1, Below (w.alloc (.cells #[.string ⟨#[]⟩, .int .i64 0, .slice none 0 0] 26)).heap.size (w.alloc (.cells #[.string ⟨#[]⟩, .int .i64 0, .slice none 0 0] 26)) w1 → Below w.heap.size w (w1.alloc (.cells #[.slice S n cap, .int .i64 f, .int .i64 kd, .int .i64 (unitI l f), .bool (unitOk l f)] 50)) ∧ XBox (w1.alloc (.cells #[.slice S n cap, .int .i64 f, .int .i64 kd, .int .i64 (unitI l f), .bool (unitOk l f)] 50)) w.heap.size (⟨#[]⟩, 0) (.slice none 0 0) := fun w1 hb1 => by
    have h0 : Below w.heap.size w (w.alloc (.cells #[.string ⟨#[]⟩, .int .i64 0, .slice none 0 0] 26)) := (Below.refl _ w).alloc (Nat.le_refl _) _
    have h1 := h0.trans (hb1.mono h0.size)
    exact ⟨h1.alloc h1.size _, (XBox.below (World.alloc_heap_new w _) hb1).below ((Below.refl _ _).alloc (Nat.le_refl _) _)⟩
  by_cases hk1 : kd = 1
  · have HJB : Hid (joinB l f (lenF F) = false) := by show _ = _; unfold joinB; rw [HKD.out, hk1]; rfl
    subst hk1
    go_enter Try.func9, Try.ntmps9
    go_wp2_with (first
      | (go_at_call 20; refine (HH.out _ ((Below.refl _ w).alloc (Nat.le_refl _) _)).mono ?_; rintro e w1 ⟨rfl, hb1⟩; have ha := hJ w1 hb1; have HB2 := hid ha.1; have HX2 := hid ha.2; have y0 := ha.2.c0; have y1 := ha.2.c1; have y2 := ha.2.c2; have z0 := ha.2.f (k := 0); have z1 := ha.2.f (k := 1); have z2 := ha.2.f (k := 2); clear hb1 ha)
      | fail)
    refine ret_join (p := 6) (u := 7) rfl rfl (HX2.out.all (x := (⟨#[]⟩, 0)) (.slice none 0 0)) rfl ?_
    refine ⟨⟨(noB, 0), .nil, none, 0⟩, by rw [HJB.out]; rfl, by rw [HJB.out]; exact joinR_no (by rw [kids_len]; exact HJB.out), loosE_const _ _ _, sets_below HB2.out (Nat.le_refl _) _ _ _⟩
  · by_cases hl0 : lenF F = 0
    · have hz : ((lenF F : Int) == 0) = true := by simp [hl0]
      have HL0 := hid hl0
      clear hl0
      cases hu : unitOk l f
      · have HJB : Hid (joinB l f (lenF F) = false) := by show _ = _; unfold joinB; rw [HL0.out, hu]; simp
        rw [hu] at HH HLY hJ
        go_enter Try.func9, Try.ntmps9
        go_wp2_with (first
          | (go_at_call 20; refine (HH.out _ ((Below.refl _ w).alloc (Nat.le_refl _) _)).mono ?_; rintro e w1 ⟨rfl, hb1⟩; have ha := hJ w1 hb1; have HB2 := hid ha.1; have HX2 := hid ha.2; have y0 := ha.2.c0; have y1 := ha.2.c1; have y2 := ha.2.c2; have z0 := ha.2.f (k := 0); have z1 := ha.2.f (k := 1); have z2 := ha.2.f (k := 2); clear hb1 ha)
          | fail)
        refine ret_join (p := 6) (u := 7) rfl rfl (HX2.out.all (x := (⟨#[]⟩, 0)) (.slice none 0 0)) rfl ?_
        refine ⟨⟨(noB, 0), .nil, none, 0⟩, by rw [HJB.out]; rfl, by rw [HJB.out]; exact joinR_no (by rw [kids_len]; exact HJB.out), loosE_const _ _ _, sets_below HB2.out (Nat.le_refl _) _ _ _⟩
      · have HJB : Hid (joinB l f (lenF F) = true) := by show _ = _; unfold joinB; rw [HKD.out, hu]; simp [hk1]
        rw [hu] at HH HLY hJ
        go_enter Try.func9, Try.ntmps9
        go_wp2_with (first
          | (go_at_call 20; refine (HH.out _ ((Below.refl _ w).alloc (Nat.le_refl _) _)).mono ?_; rintro e w1 ⟨rfl, hb1⟩; have ha := hJ w1 hb1; have HB2 := hid ha.1; have HX2 := hid ha.2; have y0 := ha.2.c0; have y1 := ha.2.c1; have y2 := ha.2.c2; have z0 := ha.2.f (k := 0); have z1 := ha.2.f (k := 1); have z2 := ha.2.f (k := 2); clear hb1 ha)
          | (go_at_call 24; refine (HLY.out _ HB2.out).mono ?_; rintro e w3 ⟨kv, rs, rfl, ha3, hl3, hE3, hb3⟩; have HA3 := hid ha3; have HL3 := hid hl3; have HE3 := hid hE3; have HB3 := hid (HB2.out.trans (hb3.mono HB2.out.size)); have HX3 := hid (HX2.out.below hb3); clear ha3 hl3 hE3 hb3 y0 y1 y2 z0 z1 z2)
          | (go_at_call 18; refine (HSE.out _ kv _ HB3.out HE3.out).mono ?_; rintro e w4 ⟨F4, rfl, hF4, hs4, hE4, ht4⟩; have HF4 := hid hF4; have HS4 := hid hs4; have HE4 := hid hE4; have HT4 := hid ht4; have HX4 : XBox w4 w.heap.size (⟨#[]⟩, 0) (.slice none 0 0) := (ht4.block _ HX3.out.lt (by have := HX2.out.lt; omega)).trans HX3.out; have y0 := HX4.c0; have y1 := HX4.c1; have y2 := HX4.c2; have z0 := HX4.f (k := 0); have z1 := HX4.f (k := 1); have z2 := HX4.f (k := 2); have HXX := hid HX4; clear hF4 hs4 hE4 ht4 HX4)
          | fail)
        refine ret_join (p := 6) (u := 7) rfl rfl (HXX.out.all (x := kv.x) _) rfl ?_
        have hlt := HX2.out.lt
        exact ⟨⟨kv.x, F4, kv.a, kv.c⟩, by rw [HJB.out]; rfl, by rw [HJB.out]; exact joinR_yes HJB.out HA3.out (by rw [HKD.out]; exact HL3.out) HS4.out, loosE.mono (fun q hq => by omega) (loosE.keep (fun q hq _ => sets_far (by omega) _ _ _) HE4.out), sets_below (HB3.out.trans (HT4.out.below (fun q hq => by omega) HB3.out.size)) (Nat.le_refl _) _ _ _⟩
    · have hz : ((lenF F : Int) == 0) = false := by simpa using hl0
      have HJB : Hid (joinB l f (lenF F) = true) := by show _ = _; unfold joinB; rw [HKD.out]; simp [hk1, hl0]
      clear hl0
      go_enter Try.func9, Try.ntmps9
      go_wp2_with (first
        | (go_at_call 20; refine (HH.out _ ((Below.refl _ w).alloc (Nat.le_refl _) _)).mono ?_; rintro e w1 ⟨rfl, hb1⟩; have ha := hJ w1 hb1; have HB2 := hid ha.1; have HX2 := hid ha.2; have y0 := ha.2.c0; have y1 := ha.2.c1; have y2 := ha.2.c2; have z0 := ha.2.f (k := 0); have z1 := ha.2.f (k := 1); have z2 := ha.2.f (k := 2); clear hb1 ha)
        | (go_at_call 24; refine (HLY.out _ HB2.out).mono ?_; rintro e w3 ⟨kv, rs, rfl, ha3, hl3, hE3, hb3⟩; have HA3 := hid ha3; have HL3 := hid hl3; have HE3 := hid hE3; have HB3 := hid (HB2.out.trans (hb3.mono HB2.out.size)); have HX3 := hid (HX2.out.below hb3); clear ha3 hl3 hE3 hb3 y0 y1 y2 z0 z1 z2)
        | (go_at_call 18; refine (HSE.out _ kv _ HB3.out HE3.out).mono ?_; rintro e w4 ⟨F4, rfl, hF4, hs4, hE4, ht4⟩; have HF4 := hid hF4; have HS4 := hid hs4; have HE4 := hid hE4; have HT4 := hid ht4; have HX4 : XBox w4 w.heap.size (⟨#[]⟩, 0) (.slice none 0 0) := (ht4.block _ HX3.out.lt (by have := HX2.out.lt; omega)).trans HX3.out; have y0 := HX4.c0; have y1 := HX4.c1; have y2 := HX4.c2; have z0 := HX4.f (k := 0); have z1 := HX4.f (k := 1); have z2 := HX4.f (k := 2); have HXX := hid HX4; clear hF4 hs4 hE4 ht4 HX4)
        | fail)
      refine ret_join (p := 6) (u := 7) rfl rfl (HXX.out.all (x := kv.x) _) rfl ?_
      have hlt := HX2.out.lt
      exact ⟨⟨kv.x, F4, kv.a, kv.c⟩, by rw [HJB.out]; rfl, by rw [HJB.out]; exact joinR_yes HJB.out HA3.out (by rw [HKD.out]; exact HL3.out) HS4.out, loosE.mono (fun q hq => by omega) (loosE.keep (fun q hq _ => sets_far (by omega) _ _ _) HE4.out), sets_below (HB3.out.trans (HT4.out.below (fun q hq => by omega) HB3.out.size)) (Nat.le_refl _) _ _ _⟩
end Go.Proofs.Ytlemkgdbefmeeab
/- What Spoil turns: the lists of the term it is handed, nothing else; what Exact answers of two that are alike. -/
namespace Go.Proofs.Ytlemkgdbefmeeab
open Go.RowKit Go.Deep

/-- Nothing that there was has turned but blocks of A. -/
structure Fr (A : Nat → Prop) (w w' : World) : Prop where
  low : Below 0 w w'
  same : ∀ k, k < w.heap.size → ¬ A k → w'.heap[k]? = w.heap[k]?
theorem Fr.refl (A : Nat → Prop) (w : World) : Fr A w w := ⟨Below.refl _ _, fun _ _ _ => rfl⟩
theorem Fr.trans {A : Nat → Prop} {x y z : World} (h : Fr A x y) (k : Fr A y z) : Fr A x z := ⟨h.low.trans k.low, fun q hq hA => (k.same q (Nat.lt_of_lt_of_le hq h.low.size) hA).trans (h.same q hq hA)⟩
theorem Fr.mono {A A' : Nat → Prop} {x y : World} (hA : ∀ k, A k → A' k) (h : Fr A x y) : Fr A' x y := ⟨h.low, fun q hq hn => h.same q hq (fun h' => hn (hA q h'))⟩
theorem Fr.of_below {A : Nat → Prop} {x y : World} (h : Below x.heap.size x y) : Fr A x y := ⟨h.mono (Nat.zero_le _), fun q hq _ => h.block q hq⟩
theorem Fr.below {A : Nat → Prop} {x y : World} {n : Nat} (h : Fr A x y) (hn : ∀ k, A k → n ≤ k) (hs : n ≤ x.heap.size) : Below n x y := ⟨h.low.os, h.low.tape, h.low.output, h.low.size, fun k hk => h.same k (by omega) (fun hA => by have := hn k hA; omega)⟩
theorem Fr.sets {A : Nat → Prop} {W : World} {g : Nat} (hg : A g) (i j k : Nat) (a b c : Value) : Fr A W (((W.setCell ⟨g, i, none⟩ a).setCell ⟨g, j, none⟩ b).setCell ⟨g, k, none⟩ c) :=
  ⟨(((Below.refl 0 W).setCell (p := ⟨g, i, none⟩) (Nat.zero_le _) _).setCell (p := ⟨g, j, none⟩) (Nat.zero_le _) _).setCell (p := ⟨g, k, none⟩) (Nat.zero_le _) _, fun q _ hn => by
    have : q ≠ g := fun e => hn (e ▸ hg)
    rw [Below.heap_setCell _ _ _ q this, Below.heap_setCell _ _ _ q this, Below.heap_setCell _ _ _ q this]⟩
/-- Three cells of a row are turned; those behind them are not. -/
theorem sets_behind {W : World} {g i n : Nat} {a b c : Value} {v : Value} (hi : n + 3 ≤ i) (h : W.cell? ⟨g, i, none⟩ = some v) : (((W.setCell ⟨g, n, none⟩ a).setCell ⟨g, n + 1, none⟩ b).setCell ⟨g, n + 2, none⟩ c).cell? ⟨g, i, none⟩ = some v := by
  rw [World.cell?_setCell_other _ _ _ _ (fun e => by cases e; omega), World.cell?_setCell_other _ _ _ _ (fun e => by cases e; omega), World.cell?_setCell_other _ _ _ _ (fun e => by cases e; omega)]
  exact h
theorem row_frozen {W : World} {g i : Nat} {cur : Array Value} {t : TypeId} (h : W.heap[g]? = some (Obj.cells cur t (0, 0))) : W.frozen? ⟨g, i, none⟩ = false := by simp [World.frozen?, h]

def ExactOk (k : Nat) : Prop := ∀ (x : ByteArray × Int) (l : Fo) (a b : Option Addr) (c d : Nat) (w : World), nodesF l ≤ k → TmAt w x a c l → TmAt w x b d l →
  Calls Try.prog 10 #[.agg #[.string x.1, .int .i64 x.2, .slice a (lenF l) c], .agg #[.string x.1, .int .i64 x.2, .slice b (lenF l) d]] w fun e w' => e = .returned (.bool true) ∧ Below w.heap.size w w'

set_option maxRecDepth 100000 in
set_option maxHeartbeats 2000000 in
theorem exact_all : ∀ k, ExactOk k := by
  intro k
  induction k using Nat.strongRecOn with
  | _ k ih =>
    intro x l a b c d w hk hS hT
    have HS : Hid (TmAt w x a c l) := hS
    have HT : Hid (TmAt w x b d l) := hT
    have IH : Hid (∀ j, j < k → ExactOk j) := ih
    have PA : Hid (Pair w x a (lenF l) c x b (lenF l) d ((w.alloc (.cells #[.string x.1, .int .i64 x.2, .slice a (lenF l) c] 26)).alloc (.cells #[.string x.1, .int .i64 x.2, .slice b (lenF l) d] 26))) := Pair.new _ _ _ _ _ _ _ _ _
    have hn : lenF l ≤ 9223372036854775807 := by have := hS.sizes.len; have := hS.sizes.cap; unfold maxLen at *; omega
    clear hS hT ih
    go_enter Try.func10, Try.ntmps10
    go_wp2
    go_loopw [5, 6] (fun i _ wr => ∃ j : Nat, j ≤ lenF l ∧ i = .int .i64 j ∧ Pair w x a (lenF l) c x b (lenF l) d wr) (fun i _ _ => lenF l - (intOf i).toNat)
    case atStart => exact ⟨0, Nat.zero_le _, rfl, PA.out⟩
    case round =>
      obtain ⟨j, hj, rfl, hP⟩ := hrel
      have t2 := hP.l.c2
      by_cases hlt : j < lenF l
      · obtain ⟨b1, o1, rfl, hk1⟩ := HS.out.args.get (by omega)
        obtain ⟨bb, oo, rfl, hkk⟩ := HT.out.args.get (by omega)
        obtain ⟨y, a1, c1, l1, kd⟩ := hk1.kid (k := j) hlt
        obtain ⟨y', a2, c2, l2, kd2⟩ := hkk.kid (k := j) hlt
        obtain ⟨rfl, rfl⟩ := kid_same kd kd2
        have kd' := kd.below hP.low
        have kd2' := kd2.below hP.low
        have HP : Hid (Pair w x (some ⟨b1, o1, none⟩) (lenF l) c x (some ⟨bb, oo, none⟩) (lenF l) d wr) := hP
        have hC : Hid (∀ w', Below wr.heap.size wr w' → Calls Try.prog 10 #[.agg #[.string y'.1, .int .i64 y'.2, .slice a1 (lenF l2) c1], .agg #[.string y'.1, .int .i64 y'.2, .slice a2 (lenF l2) c2]] w' fun e w'' => e = .returned (.bool true) ∧ Below w'.heap.size w' w'') := fun w' hb =>
          IH.out (nodesF l2) (by have := kd.less; omega) y' l2 a1 a2 c1 c2 w' (Nat.le_refl _) (kd'.at_.below hb) (kd2'.at_.below hb)
        have hne := later_some wr
        have d0 := later_cell hP.l.c2
        have d1 := later_cell hP.r.c2
        have p0 := later_cell kd'.name; have p1 := later_cell kd'.sym; have p2 := later_cell kd'.list
        have q0 := later_cell kd2'.name; have q1 := later_cell kd2'.sym; have q2 := later_cell kd2'.list
        have hk0 : (0 : Int) ≤ (j : Int) := by omega
        have hkn : (j : Int) < (lenF l : Int) := by omega
        clear kd kd2 kd' kd2' hk1 hkk hP
        go_wp2_with fail
        refine wp_region_later (by kernel_rfl) (by kernel_rfl) ?_
        repeat (go_big_quiet_step ((refine calls_later (hC.out _ ?_); exact Later.below _)))
        refine wpQuiet_nil ?_
        intro _ hw'
        obtain ⟨b2, hw''⟩ := hw'
        subst hw''
        have HP2 : Hid (Pair w x (some ⟨b1, o1, none⟩) (lenF l) c x (some ⟨bb, oo, none⟩) (lenF l) d b2.now) := HP.out.below b2.below
        clear d0 d1 p0 p1 p2 q0 q1 q2 t2
        go_wp2
        go_roundw
        case rel => exact ⟨j + 1, by omega, by go_num, HP2.out⟩
        case measure => simp [intOf]; omega
      · go_wp2
        go_ret
        exact ⟨rfl, hP.low⟩
theorem exact_any (x : ByteArray × Int) (l : Fo) (a b : Option Addr) (c d : Nat) (w : World) (hS : TmAt w x a c l) (hT : TmAt w x b d l) :
    Calls Try.prog 10 #[.agg #[.string x.1, .int .i64 x.2, .slice a (lenF l) c], .agg #[.string x.1, .int .i64 x.2, .slice b (lenF l) d]] w fun e w' => e = .returned (.bool true) ∧ Below w.heap.size w w' := exact_all _ x l a b c d w (Nat.le_refl _) hS hT
end Go.Proofs.Ytlemkgdbefmeeab
/- (Of another seat: the document's Canon is not called here.) -/
namespace Go.Proofs.Ytlemkgdbefmeeab
end Go.Proofs.Ytlemkgdbefmeeab
/- What the document's Exact answers of any two terms. -/
namespace Go.Proofs.Ytlemkgdbefmeeab
open Go.RowKit Go.Deep

/-- Alike in every field. -/
def exF : Fo → Fo → Bool
  | .nil, _ => true
  | .node _ _ _ _ _, .nil => true
  | .node _ _ x l r, .node _ _ y m s => ((x.1.toList == y.1.toList) && (x.2 == y.2) && (lenF l == lenF m) && exF l m) && exF r s
def exN (x y : ByteArray × Int) (l m : Fo) : Bool := (x.1.toList == y.1.toList) && (x.2 == y.2) && (lenF l == lenF m) && exF l m
def RExactOk (k : Nat) : Prop := ∀ (x y : ByteArray × Int) (l m : Fo) (a b : Option Addr) (c d : Nat) (w : World), nodesF l ≤ k → TmAt w x a c l → TmAt w y b d m →
  Calls Try.prog 10 #[.agg #[.string x.1, .int .i64 x.2, .slice a (lenF l) c], .agg #[.string y.1, .int .i64 y.2, .slice b (lenF m) d]] w fun e w' => e = .returned (.bool (exN x y l m)) ∧ Below w.heap.size w w'

set_option maxRecDepth 100000 in
set_option maxHeartbeats 2000000 in
theorem rexact_all : ∀ k, RExactOk k := by
  intro k
  induction k using Nat.strongRecOn with
  | _ k ih =>
    intro x y l m a b c d w hk hS hT
    have HS : Hid (TmAt w x a c l) := hS
    have HT : Hid (TmAt w y b d m) := hT
    have IH : Hid (∀ j, j < k → RExactOk j) := ih
    have PA : Hid (Pair w x a (lenF l) c y b (lenF m) d ((w.alloc (.cells #[.string x.1, .int .i64 x.2, .slice a (lenF l) c] 26)).alloc (.cells #[.string y.1, .int .i64 y.2, .slice b (lenF m) d] 26))) := Pair.new _ _ _ _ _ _ _ _ _
    have hn : lenF l ≤ 9223372036854775807 := by have := hS.sizes.len; have := hS.sizes.cap; unfold maxLen at *; omega
    have hn2 : lenF m ≤ 9223372036854775807 := by have := hT.sizes.len; have := hT.sizes.cap; unfold maxLen at *; omega
    clear hS hT ih
    obtain ⟨xn, xs⟩ := x
    obtain ⟨yn, ys⟩ := y
    cases h1 : (xn.toList == yn.toList)
    · have e : Hid (exN (xn, xs) (yn, ys) l m = false) := by show _ = _; unfold exN; rw [h1]; rfl
      have hd : ¬ (xn.toList = yn.toList) := by simpa using h1
      go_enter Try.func10, Try.ntmps10
      go_wp2
      go_ret
      exact ⟨by rw [e.out]; rfl, PA.out.low⟩
    · cases h2 : (xs == ys)
      · have e : Hid (exN (xn, xs) (yn, ys) l m = false) := by show _ = _; unfold exN; rw [h1, h2]; rfl
        have h2' : (xs != ys) = true := by simpa using h2
        go_enter Try.func10, Try.ntmps10
        go_wp2
        go_ret
        exact ⟨by rw [e.out]; rfl, PA.out.low⟩
      · obtain rfl : xs = ys := by simpa using h2
        cases h3 : (lenF l == lenF m)
        · have e : Hid (exN (xn, xs) (yn, xs) l m = false) := by show _ = _; unfold exN; rw [h3]; simp
          have h3' : ((lenF l : Int) != (lenF m : Int)) = true := by simp at h3 ⊢; omega
          clear h2 h3
          go_enter Try.func10, Try.ntmps10
          go_wp2
          go_ret
          exact ⟨by rw [e.out]; rfl, PA.out.low⟩
        · have e : Hid (exN (xn, xs) (yn, xs) l m = exF l m) := by show _ = _; unfold exN; rw [h1, h2, h3]; rfl
          have h3' : lenF m = lenF l := by simp at h3; omega
          have HLen : Hid (lenF m = lenF l) := h3'
          rw [h3'] at PA
          dsimp only
          rw [h3']
          clear h2 h3 h3' hn2
          go_enter Try.func10, Try.ntmps10
          go_wp2
          go_loopw [5, 6] (fun i _ wr => ∃ j : Nat, j ≤ lenF l ∧ i = .int .i64 j ∧ Pair w (xn, xs) a (lenF l) c (yn, xs) b (lenF l) d wr ∧ exF (dropF j l) (dropF j m) = exF l m) (fun i _ _ => lenF l - (intOf i).toNat)
          case atStart => exact ⟨0, Nat.zero_le _, rfl, PA.out, by rw [drop_zero, drop_zero]⟩
          case round =>
            obtain ⟨j, hj, rfl, hP, hex⟩ := hrel
            have HX : Hid (exF (dropF j l) (dropF j m) = exF l m) := hex
            clear hex
            have t2 := hP.l.c2
            by_cases hlt : j < lenF l
            · obtain ⟨b1, o1, rfl, hk1⟩ := HS.out.args.get (by omega)
              obtain ⟨bb, oo, rfl, hkk⟩ := HT.out.args.get (by have := HLen.out; omega)
              obtain ⟨z, a1, c1, l1, kd⟩ := hk1.kid (k := j) hlt
              obtain ⟨z', a2, c2, l2, kd2⟩ := hkk.kid (k := j) (by have := HLen.out; omega)
              have kd' := kd.below hP.low
              have kd2' := kd2.below hP.low
              have HP : Hid (Pair w (xn, xs) (some ⟨b1, o1, none⟩) (lenF l) c (yn, xs) (some ⟨bb, oo, none⟩) (lenF l) d wr) := hP
              have HX2 : Hid (exF l m = (exN z z' l1 l2 && exF (dropF (j + 1) l) (dropF (j + 1) m))) := by
                obtain ⟨B1, O1, s1⟩ := kd.split
                obtain ⟨B2, O2, s2⟩ := kd2.split
                show _ = _
                rw [← HX.out, s1, s2]
                rfl
              obtain ⟨ev, hev⟩ : ∃ ev, exN z z' l1 l2 = ev := ⟨_, rfl⟩
              have hC : Hid (∀ w', Below wr.heap.size wr w' → Calls Try.prog 10 #[.agg #[.string z.1, .int .i64 z.2, .slice a1 (lenF l1) c1], .agg #[.string z'.1, .int .i64 z'.2, .slice a2 (lenF l2) c2]] w' fun e w'' => e = .returned (.bool ev) ∧ Below w'.heap.size w' w'') := fun w' hb => by
                have := IH.out (nodesF l1) (by have := kd.less; omega) z z' l1 l2 a1 a2 c1 c2 w' (Nat.le_refl _) (kd'.at_.below hb) (kd2'.at_.below hb)
                rw [hev] at this
                exact this
              rw [hev] at HX2
              have hne := later_some wr
              have d0 := later_cell hP.l.c2
              have d1 := later_cell hP.r.c2
              have p0 := later_cell kd'.name; have p1 := later_cell kd'.sym; have p2 := later_cell kd'.list
              have q0 := later_cell kd2'.name; have q1 := later_cell kd2'.sym; have q2 := later_cell kd2'.list
              have hk0 : (0 : Int) ≤ (j : Int) := by omega
              have hkn : (j : Int) < (lenF l : Int) := by omega
              clear kd kd2 kd' kd2' hk1 hkk hP hev
              go_wp2_with fail
              refine wp_region_later (by kernel_rfl) (by kernel_rfl) ?_
              repeat (go_big_quiet_step ((refine calls_later (hC.out _ ?_); exact Later.below _)))
              refine wpQuiet_nil ?_
              intro _ hw'
              obtain ⟨b2, hw''⟩ := hw'
              subst hw''
              have HP2 : Hid (Pair w (xn, xs) (some ⟨b1, o1, none⟩) (lenF l) c (yn, xs) (some ⟨bb, oo, none⟩) (lenF l) d b2.now) := HP.out.below b2.below
              clear d0 d1 p0 p1 p2 q0 q1 q2 t2
              cases ev with
              | true =>
                go_wp2
                go_roundw
                case rel => exact ⟨j + 1, by omega, by go_num, HP2.out, by rw [HX2.out]; simp⟩
                case measure => simp [intOf]; omega
              | false =>
                go_wp2
                go_ret
                exact ⟨by rw [e.out, HX2.out]; rfl, HP2.out.low⟩
            · obtain rfl : j = lenF l := by omega
              have hX3 : Hid (exF l m = true) := by show _ = _; rw [← HX.out, drop_end]; rfl
              go_wp2
              go_ret
              exact ⟨by rw [e.out, hX3.out]; rfl, hP.low⟩
set_option maxRecDepth 100000 in
theorem rexact_any (x y : Tn) (a b : Option Addr) (c d : Nat) (w : World) (hS : TmAt w x.1 a c x.2) (hT : TmAt w y.1 b d y.2) :
    Calls Try.prog 10 #[.agg #[.string x.1.1, .int .i64 x.1.2, .slice a (lenF x.2) c], .agg #[.string y.1.1, .int .i64 y.1.2, .slice b (lenF y.2) d]] w fun e w' => e = .returned (.bool (exN x.1 y.1 x.2 y.2)) ∧ Below w.heap.size w w' :=
  rexact_all _ x.1 y.1 x.2 y.2 a b c d w (Nat.le_refl _) hS hT
end Go.Proofs.Ytlemkgdbefmeeab
/- What Name and Var of package sig, and the document's, answer of any text. -/
namespace Go.Proofs.Ytlemkgdbefmeeab
open Go.RowKit

set_option maxHeartbeats 400000 in
theorem rname_any (s : ByteArray) (w : World) (hs : s.size ≤ maxLen) : Calls Try.prog 62 #[.string s] w fun e w' => e = .returned (.bool (nameB s)) ∧ w' = w := by
  unfold maxLen at hs
  by_cases h0 : (s.size : Int) < 1
  · go_enter Try.func62, Try.ntmps62
    go_wp2
    go_ret
    exact ⟨by simp [nameB, fitsB]; omega, rfl⟩
  · by_cases h1 : 12 < (s.size : Int)
    · go_enter Try.func62, Try.ntmps62
      go_wp2
      go_ret
      exact ⟨by simp [nameB, fitsB]; omega, rfl⟩
    · have hp : 0 < s.size := by omega
      have hfit : Hid (fitsB s = true) := by show fitsB s = true; simp [fitsB]; omega
      cases hl : lowZ ((s[0]'hp).toNat : Int)
      · have hbad : Hid (nameB s = false) := by
          show nameB s = false
          unfold nameB
          rw [hfit.out, allB_false hp (by rw [bt_of hp]; simp [okName, hl])]; rfl
        go_enter Try.func62, Try.ntmps62
        go_wp2_with (go_at_call 65; refine (rlow_any _ _).mono ?_; rintro e w' ⟨rfl, rfl⟩)
        go_ret
        exact ⟨by rw [hbad.out]; rfl, rfl⟩
      · have h01 : Hid (allB okName s 1 = true) := by
          show allB okName s 1 = true
          rw [allB_succ, allB_zero, bt_of hp]; simp [okName, hl]
        go_enter Try.func62, Try.ntmps62
        go_wp2_with (go_at_call 65; refine (rlow_any _ _).mono ?_; rintro e w' ⟨rfl, rfl⟩)
        go_loop [3] (fun i => ∃ k : Nat, 1 ≤ k ∧ k ≤ s.size ∧ i = .int .i64 k ∧ allB okName s k = true) (fun i => s.size - (intOf i).toNat)
        case atStart => exact ⟨1, Nat.le_refl _, hp, rfl, h01.out⟩
        case round =>
          obtain ⟨k, hk1, hk, rfl, hall⟩ := hrel
          have HA : Hid (allB okName s k = true) := hall
          clear hall
          by_cases hlt : k < s.size
          · have hst : Hid (∀ b, okName k ((s[k]'hlt).toNat : Int) = b → allB okName s (k + 1) = b) := by
              intro b hb; rw [allB_succ, HA.out, bt_of hlt, hb]; rfl
            have hbad : Hid (okName k ((s[k]'hlt).toNat : Int) = false → nameB s = false) := by
              intro hb; unfold nameB; rw [allB_false hlt (by rw [bt_of hlt]; exact hb)]; simp
            cases hlk : lowZ ((s[k]'hlt).toNat : Int)
            · cases hdk : digZ ((s[k]'hlt).toNat : Int)
              · go_wp2_with (first | (go_at_call 65; refine (rlow_any _ _).mono ?_; rintro e w' ⟨rfl, rfl⟩) | (go_at_call 63; refine (rdigit_any _ _).mono ?_; rintro e w' ⟨rfl, rfl⟩))
                go_ret
                exact ⟨by rw [hbad.out (by simp [okName, hlk, hdk])]; rfl, rfl⟩
              · go_wp2_with (first | (go_at_call 65; refine (rlow_any _ _).mono ?_; rintro e w' ⟨rfl, rfl⟩) | (go_at_call 63; refine (rdigit_any _ _).mono ?_; rintro e w' ⟨rfl, rfl⟩))
                go_round
                case rel => exact ⟨k + 1, by omega, by omega, by go_num, hst.out _ (by simp [okName, hdk]; omega)⟩
                case measure => simp [intOf]; omega
            · go_wp2_with (first | (go_at_call 65; refine (rlow_any _ _).mono ?_; rintro e w' ⟨rfl, rfl⟩) | (go_at_call 63; refine (rdigit_any _ _).mono ?_; rintro e w' ⟨rfl, rfl⟩))
              go_round
              case rel => exact ⟨k + 1, by omega, by omega, by go_num, hst.out _ (by simp [okName, hlk])⟩
              case measure => simp [intOf]; omega
          · have hke : s.size = k := by omega
            have hgood : Hid (nameB s = true) := by show nameB s = true; unfold nameB; rw [hfit.out, hke, HA.out]; rfl
            clear hke
            go_wp2
            go_ret
            exact ⟨by rw [hgood.out]; rfl, rfl⟩

end Go.Proofs.Ytlemkgdbefmeeab
/- What the document's symbol and Check answer. -/
namespace Go.Proofs.Ytlemkgdbefmeeab
open Go.RowKit

theorem box_facts {w w1 : World} {x : Sym} (hb : Below (w.heap.size + 1) (w.alloc (.cells #[.string x.name, .int .i64 x.kind, .int .i64 x.arity, .string x.unit] 36)) w1) :
    w1.cell? ⟨w.heap.size, 0, none⟩ = some (.string x.name) ∧ w1.cell? ⟨w.heap.size, 1, none⟩ = some (.int .i64 x.kind) ∧ w1.cell? ⟨w.heap.size, 2, none⟩ = some (.int .i64 x.arity) ∧ w1.cell? ⟨w.heap.size, 3, none⟩ = some (.string x.unit) ∧ w.heap.size < w1.heap.size ∧ Below w.heap.size w w1 := by
  refine ⟨?_, ?_, ?_, ?_, ?_, ?_⟩
  · rw [hb.cell (p := ⟨w.heap.size, 0, none⟩) (by simp)]; simp [go_sem]
  · rw [hb.cell (p := ⟨w.heap.size, 1, none⟩) (by simp)]; simp [go_sem]
  · rw [hb.cell (p := ⟨w.heap.size, 2, none⟩) (by simp)]; simp [go_sem]
  · rw [hb.cell (p := ⟨w.heap.size, 3, none⟩) (by simp)]; simp [go_sem]
  · have := hb.size; simp at this; omega
  · exact ((Below.refl _ _).alloc (Nat.le_refl _) _).trans (hb.mono (by omega))
def freshB (l : List Sym) (nm : ByteArray) : Bool := l.all fun y => !sameB y.name nm
theorem fresh_find (l : List Sym) (nm : ByteArray) : findB l nm = !freshB l nm := by
  unfold findB findL freshB
  rw [List.findIdx?_isSome]
  induction l with
  | nil => rfl
  | cons y l ih => simp only [List.any_cons, List.all_cons, ih]; cases sameB y.name nm <;> simp
theorem fresh_succ {l : List Sym} {k : Nat} (hk : k < l.length) (nm : ByteArray) : freshB (l.take (k + 1)) nm = (freshB (l.take k) nm && !sameB l[k].name nm) := by
  unfold freshB
  rw [List.take_succ_eq_append_getElem hk, List.all_append]
  simp
def okB (l : List Sym) (x : Sym) (k : Nat) : Bool := nameB x.name && freshB (l.take k) x.name
theorem okB_zero (l : List Sym) (x : Sym) : okB l x 0 = nameB x.name := by simp [okB, freshB]
theorem okB_succ {l : List Sym} {k : Nat} (hk : k < l.length) (x : Sym) : okB l x (k + 1) = (okB l x k && !sameB l[k].name x.name) := by
  unfold okB; rw [fresh_succ hk, Bool.and_assoc]
theorem okB_err {l : List Sym} {x : Sym} {k : Nat} (h : okB l x k = false) : symErr (l.take k) x = 11 := by
  unfold symErr
  rw [if_pos]
  unfold okB at h
  rw [fresh_find]
  cases h1 : nameB x.name
  · exact Or.inr rfl
  · rw [h1] at h; simp at h; left; simp [h]
theorem okB_ok {l : List Sym} {x : Sym} {k : Nat} (h : okB l x k = true) : ¬ (findB (l.take k) x.name = true ∨ nameB x.name = false) := by
  unfold okB at h
  rw [fresh_find]
  simp at h
  simp [h.1, h.2]
theorem err12 {l : List Sym} {x : Sym} (h : ¬ (findB l x.name = true ∨ nameB x.name = false)) (hk : kindB x = false) : symErr l x = 12 := by
  unfold symErr; rw [if_neg h, if_pos hk]
theorem err13 {l : List Sym} {x : Sym} (h : ¬ (findB l x.name = true ∨ nameB x.name = false)) (hk : kindB x = true) (ha : arityB x = false) : symErr l x = 13 := by
  unfold symErr; rw [if_neg h, if_neg (by simp [hk]), if_pos ha]
theorem err14 {l : List Sym} {x : Sym} (h : ¬ (findB l x.name = true ∨ nameB x.name = false)) (hk : kindB x = true) (ha : arityB x = true) : symErr l x = if unitB l x = false then 14 else 0 := by
  unfold symErr; rw [if_neg h, if_neg (by simp [hk]), if_neg (by simp [ha])]

set_option maxHeartbeats 1000000 in
theorem rsymbol_any (a : Option Addr) (n cap : Nat) (l : List Sym) (i : Nat) (hi : i < l.length) (w : World) (h : SigAt w a n l) :
    Calls Try.prog 46 #[.slice a n cap, .int .i64 i] w fun e w' => e = .returned (.int .i64 (symErr (l.take i) l[i])) ∧ Below w.heap.size w w' := by
  have HS : Hid (SigAt w a n l) := h
  have hm := h.small
  have hin : (i : Int) < n := by have := h.len; omega
  have hi0 : (0 : Int) ≤ i := by omega
  unfold maxLen at hm
  clear h
  obtain ⟨b, off, rfl, hsym⟩ := HS.out.cells i hi
  have hfx : Hid (l[i].Fits) := HS.out.fits _ (List.getElem_mem hi)
  have c0 := hsym.name
  have c1 := hsym.kind
  have c2 := hsym.arity
  have c3 := hsym.unit
  clear hsym
  go_enter Try.func46, Try.ntmps46
  go_wp2_with (go_at_call 62; refine (rname_any _ _ hfx.out.name).mono ?_; rintro e w1 hh; obtain ⟨rfl, hw⟩ := hh; rw [hw]; clear hw w1)
  clear c0 c1 c2 c3
  generalize hx : l[i] = x at *
  have HX : Hid (l[i] = x) := hx
  clear hx
  go_loopw [6, 7] (fun ok k w' => ∃ j : Nat, j ≤ i ∧ k = .int .i64 j ∧ ok = .bool (okB l x j) ∧ Below (w.heap.size + 1) (w.alloc (.cells #[.string x.name, .int .i64 x.kind, .int .i64 x.arity, .string x.unit] 36)) w') (fun _ k _ => i - (intOf k).toNat)
  case atStart => exact ⟨0, Nat.zero_le _, rfl, by rw [okB_zero], (Below.refl _ _)⟩
  case round =>
    obtain ⟨j, hj, rfl, rfl, hb⟩ := hrel
    have HB : Hid (Below (w.heap.size + 1) (w.alloc (.cells #[.string x.name, .int .i64 x.kind, .int .i64 x.arity, .string x.unit] 36)) wr) := hb
    obtain ⟨x0, x1, x2, x3, hz, hbw⟩ := box_facts hb
    have HW : Hid (Below w.heap.size w wr) := hbw
    by_cases hlt : (j : Int) < i
    · have hlj : j < l.length := by omega
      obtain ⟨b', off', hbo, hsj⟩ := HS.out.cells j hlj
      simp only [Option.some.injEq, Addr.mk.injEq, and_true] at hbo
      obtain ⟨rfl, rfl⟩ := hbo
      have s0 := (hsj.below hbw).name
      clear hsj hb hbw
      have hj0 : (0 : Int) ≤ (j : Int) := by omega
      have hjn : (j : Int) < (n : Int) := by omega
      have hne := later_some wr
      have d0 := later_cell s0
      have d1 := later_cell x0
      have hok := okB_succ hlj x
      have HO : Hid (okB l x (j + 1) = (okB l x j && !sameB l[j].name x.name)) := hok
      clear hok
      cases ho : okB l x j
      · go_wp2
        refine wp_region_later (by kernel_rfl) (by kernel_rfl) ?_
        repeat (go_big_quiet_step (fail))
        refine wpQuiet_nil ?_
        intro _ hw'
        obtain ⟨b2, hw''⟩ := hw'
        subst hw''
        clear d0 d1 x0 x1 x2 x3 s0
        go_wp2
        go_roundw
        case rel => exact ⟨j + 1, by omega, by go_num, by rw [HO.out, ho]; rfl, HB.out.trans (b2.below.mono (by omega))⟩
        case measure => simp [intOf]; omega
      · go_wp2
        refine wp_region_later (by kernel_rfl) (by kernel_rfl) ?_
        repeat (go_big_quiet_step (fail))
        refine wpQuiet_nil ?_
        intro _ hw'
        obtain ⟨b2, hw''⟩ := hw'
        subst hw''
        clear d0 d1 x0 x1 x2 x3 s0
        go_wp2
        go_roundw
        case rel => exact ⟨j + 1, by omega, by go_num, by rw [HO.out, ho]; rfl, HB.out.trans (b2.below.mono (by omega))⟩
        case measure => simp [intOf]; omega
    · have hji : Hid (j = i) := by show j = i; omega
      clear hb hbw
      cases ho : okB l x j
      · have hf : Hid (symErr (l.take i) x = 11) := okB_err (by rw [← hji.out]; exact ho)
        go_wp2
        go_ret
        exact ⟨by rw [HX.out, hf.out]; rfl, HW.out⟩
      · have hgood : Hid (¬ (findB (l.take i) x.name = true ∨ nameB x.name = false)) := okB_ok (by rw [← hji.out]; exact ho)
        by_cases k1 : x.kind = 1
        · have K1 : Hid (x.kind = 1) := k1
          have e1 : (x.kind != 1) = false := by simp [k1]
          have e2 : (x.kind == 1) = true := by simp [k1]
          have e3 : (x.kind != 3) = true := by simp [k1]
          have hkb : Hid (kindB x = true) := by show _ = _; simp [kindB, k1]
          have hkn3 : Hid (x.kind ≠ 3) := by show _ ≠ _; omega
          clear k1
          by_cases r0 : x.arity < 0
          · have hf : Hid (symErr (l.take i) x = 13) := err13 hgood.out hkb.out (by simp [arityB, K1.out]; omega)
            go_wp2
            go_ret
            exact ⟨by rw [HX.out, hf.out]; rfl, HW.out⟩
          · by_cases r4 : 4 < x.arity
            · have hf : Hid (symErr (l.take i) x = 13) := err13 hgood.out hkb.out (by simp [arityB, K1.out]; omega)
              go_wp2
              go_ret
              exact ⟨by rw [HX.out, hf.out]; rfl, HW.out⟩
            · have har : Hid (arityB x = true) := by show _ = _; simp [arityB, K1.out]; omega
              cases hu : x.unit.toList.isEmpty
              · have hf : Hid (symErr (l.take i) x = 14) := by
                  show _ = _
                  rw [err14 hgood.out hkb.out har.out, if_pos (by simp [unitB, hkn3.out, emptyB, hu])]
                go_wp2
                go_ret
                exact ⟨by rw [HX.out, hf.out]; rfl, HW.out⟩
              · have hf : Hid (symErr (l.take i) x = 0) := by
                  show _ = _
                  rw [err14 hgood.out hkb.out har.out, if_neg (by simp [unitB, hkn3.out, emptyB, hu])]
                go_wp2
                go_ret
                exact ⟨by rw [HX.out, hf.out]; rfl, HW.out⟩
        · have e1 : (x.kind != 1) = true := by simp [k1]
          have e2 : (x.kind == 1) = false := by simp [k1]
          by_cases k2 : x.kind = 2
          · have e4 : (x.kind != 2) = false := by simp [k2]
            have e3 : (x.kind != 3) = true := by simp [k2]
            have hkb : Hid (kindB x = true) := by show _ = _; simp [kindB, k2]
            have hkn3 : Hid (x.kind ≠ 3) := by show _ ≠ _; omega
            have hkn1 : Hid (x.kind ≠ 1) := k1
            clear k1 k2
            cases r2 : (x.arity != 2)
            · have har : Hid (arityB x = true) := by show _ = _; simp [arityB, hkn1.out]; simpa using r2
              cases hu : x.unit.toList.isEmpty
              · have hf : Hid (symErr (l.take i) x = 14) := by
                  show _ = _
                  rw [err14 hgood.out hkb.out har.out, if_pos (by simp [unitB, hkn3.out, emptyB, hu])]
                go_wp2
                go_ret
                exact ⟨by rw [HX.out, hf.out]; rfl, HW.out⟩
              · have hf : Hid (symErr (l.take i) x = 0) := by
                  show _ = _
                  rw [err14 hgood.out hkb.out har.out, if_neg (by simp [unitB, hkn3.out, emptyB, hu])]
                go_wp2
                go_ret
                exact ⟨by rw [HX.out, hf.out]; rfl, HW.out⟩
            · have hf : Hid (symErr (l.take i) x = 13) := err13 hgood.out hkb.out (by simp [arityB, hkn1.out]; simpa using r2)
              go_wp2
              go_ret
              exact ⟨by rw [HX.out, hf.out]; rfl, HW.out⟩
          · have e4 : (x.kind != 2) = true := by simp [k2]
            by_cases k3 : x.kind = 3
            · have e3 : (x.kind != 3) = false := by simp [k3]
              have hkb : Hid (kindB x = true) := by show _ = _; simp [kindB, k3]
              have hkn1 : Hid (x.kind ≠ 1) := k1
              have K3 : Hid (x.kind = 3) := k3
              clear k1 k2 k3
              cases r2 : (x.arity != 2)
              · have har : Hid (arityB x = true) := by show _ = _; simp [arityB, hkn1.out]; simpa using r2
                go_wp2
                have HB0 : Hid (Below (w.heap.size + 1) (w.alloc (.cells #[.string x.name, .int .i64 x.kind, .int .i64 x.arity, .string x.unit] 36)) wr) := HB.out
                clear x0 x1 x2 x3 hz ho hlt
                go_loopw [8] (fun k w' => ∃ j : Nat, j ≤ i ∧ k = .int .i64 j ∧ (∀ m (hm : m < l.length), m < j → isUnit x l[m] = false) ∧ Below (w.heap.size + 1) (w.alloc (.cells #[.string x.name, .int .i64 x.kind, .int .i64 x.arity, .string x.unit] 36)) w') (fun k _ => i - (intOf k).toNat)
                case atStart => exact ⟨0, Nat.zero_le _, rfl, fun m _ h => absurd h (by omega), HB0.out⟩
                case round =>
                  rename_i wq
                  obtain ⟨j2, hj2, rfl, hno, hb⟩ := hrel
                  have HN : Hid (∀ m (hm : m < l.length), m < j2 → isUnit x l[m] = false) := hno
                  have HB2 : Hid (Below (w.heap.size + 1) (w.alloc (.cells #[.string x.name, .int .i64 x.kind, .int .i64 x.arity, .string x.unit] 36)) wr) := hb
                  obtain ⟨x0, x1, x2, x3, hz, hbw⟩ := box_facts hb
                  have HW2 : Hid (Below w.heap.size w wr) := hbw
                  clear hno
                  by_cases hlt2 : (j2 : Int) < i
                  · have hlj : j2 < l.length := by omega
                    obtain ⟨b', off', hbo, hsj⟩ := HS.out.cells j2 hlj
                    simp only [Option.some.injEq, Addr.mk.injEq, and_true] at hbo
                    obtain ⟨rfl, rfl⟩ := hbo
                    have s0 := (hsj.below hbw).name
                    have s1 := (hsj.below hbw).kind
                    have s2 := (hsj.below hbw).arity
                    clear hsj hb hbw
                    have hj0 : (0 : Int) ≤ (j2 : Int) := by omega
                    have hjn : (j2 : Int) < (n : Int) := by omega
                    have hne := later_some wr
                    have d0 := later_cell s0
                    have d1 := later_cell s1
                    have d2 := later_cell s2
                    have d3 := later_cell x3
                    cases t1 : (l[j2].kind == 1)
                    · have hu : Hid (isUnit x l[j2] = false) := by show _ = _; simp at t1; simp [isUnit, t1]
                      go_wp2
                      refine wp_region_later (by kernel_rfl) (by kernel_rfl) ?_
                      repeat (go_big_quiet_step (fail))
                      refine wpQuiet_nil ?_
                      intro _ hw'
                      obtain ⟨b2, hw''⟩ := hw'
                      subst hw''
                      clear d0 d1 d2 d3 x0 x1 x2 x3 s0 s1 s2
                      go_wp2
                      go_roundw
                      case rel => exact ⟨j2 + 1, by omega, by go_num, fun m hm h => by
                        rcases Nat.lt_succ_iff_lt_or_eq.1 h with h | rfl
                        · exact HN.out m hm h
                        · exact hu.out, HB2.out.trans (b2.below.mono (by omega))⟩
                      case measure => simp [intOf]; omega
                    · cases t2 : (l[j2].arity == 0)
                      · have hu : Hid (isUnit x l[j2] = false) := by show _ = _; simp at t2; simp [isUnit, t2]
                        go_wp2
                        refine wp_region_later (by kernel_rfl) (by kernel_rfl) ?_
                        repeat (go_big_quiet_step (fail))
                        refine wpQuiet_nil ?_
                        intro _ hw'
                        obtain ⟨b2, hw''⟩ := hw'
                        subst hw''
                        clear d0 d1 d2 d3 x0 x1 x2 x3 s0 s1 s2
                        go_wp2
                        go_roundw
                        case rel => exact ⟨j2 + 1, by omega, by go_num, fun m hm h => by
                          rcases Nat.lt_succ_iff_lt_or_eq.1 h with h | rfl
                          · exact HN.out m hm h
                          · exact hu.out, HB2.out.trans (b2.below.mono (by omega))⟩
                        case measure => simp [intOf]; omega
                      · cases t3 : (l[j2].name.toList == x.unit.toList)
                        · have hu : Hid (isUnit x l[j2] = false) := by show _ = _; simp [isUnit, sameB, t3]
                          go_wp2
                          refine wp_region_later (by kernel_rfl) (by kernel_rfl) ?_
                          repeat (go_big_quiet_step (fail))
                          refine wpQuiet_nil ?_
                          intro _ hw'
                          obtain ⟨b2, hw''⟩ := hw'
                          subst hw''
                          clear d0 d1 d2 d3 x0 x1 x2 x3 s0 s1 s2
                          go_wp2
                          go_roundw
                          case rel => exact ⟨j2 + 1, by omega, by go_num, fun m hm h => by
                            rcases Nat.lt_succ_iff_lt_or_eq.1 h with h | rfl
                            · exact HN.out m hm h
                            · exact hu.out, HB2.out.trans (b2.below.mono (by omega))⟩
                          case measure => simp [intOf]; omega
                        · have hu : Hid (isUnit x l[j2] = true) := by show _ = _; simp at t1 t2; simp [isUnit, sameB, t1, t2, t3]
                          have hf : Hid (symErr (l.take i) x = 0) := by
                            show _ = _
                            rw [err14 hgood.out hkb.out har.out, if_neg]
                            rw [Bool.not_eq_false]
                            unfold unitB
                            rw [if_pos K3.out, List.any_eq_true]
                            exact ⟨l[j2], by rw [List.mem_take_iff_getElem]; exact ⟨j2, by omega, rfl⟩, hu.out⟩
                          go_wp2
                          refine wp_region_later (by kernel_rfl) (by kernel_rfl) ?_
                          repeat (go_big_quiet_step (fail))
                          refine wpQuiet_nil ?_
                          intro _ hw'
                          obtain ⟨b2, hw''⟩ := hw'
                          subst hw''
                          clear d0 d1 d2 d3 x0 x1 x2 x3 s0 s1 s2
                          go_wp2
                          go_ret
                          exact ⟨by rw [HX.out, hf.out]; rfl, HW2.out.trans (b2.below.mono HW2.out.size)⟩
                  · have hf : Hid (symErr (l.take i) x = 14) := by
                      show _ = _
                      rw [err14 hgood.out hkb.out har.out, if_pos]
                      unfold unitB
                      rw [if_pos K3.out, List.any_eq_false]
                      intro y hy
                      obtain ⟨m, hm1, rfl⟩ := List.getElem_of_mem hy
                      have hm2 : m < i := by simp at hm1; omega
                      have := HN.out m (by omega) (by omega)
                      simp [this]
                    clear hb hbw
                    go_wp2
                    go_ret
                    exact ⟨by rw [HX.out, hf.out]; rfl, HW2.out⟩
              · have hf : Hid (symErr (l.take i) x = 13) := err13 hgood.out hkb.out (by simp [arityB, hkn1.out]; simpa using r2)
                go_wp2
                go_ret
                exact ⟨by rw [HX.out, hf.out]; rfl, HW.out⟩
            · have e3 : (x.kind != 3) = true := by simp [k3]
              have hf : Hid (symErr (l.take i) x = 12) := err12 hgood.out (by simp [kindB, k1, k2, k3])
              clear k1 k2 k3
              go_wp2
              go_ret
              exact ⟨by rw [HX.out, hf.out]; rfl, HW.out⟩
end Go.Proofs.Ytlemkgdbefmeeab
/- What the document's Check and Same answer, and what kept answers of a signature that reads as it did. -/
namespace Go.Proofs.Ytlemkgdbefmeeab
open Go.RowKit

def CheckRet (l : List Sym) (e : Ending) : Prop := e = .returned (.tuple #[.int .i64 (checkE l), .int .i64 (checkP l)])

set_option maxHeartbeats 400000 in
theorem rcheck_any (a : Option Addr) (n cap : Nat) (l : List Sym) (w : World) (h : SigAt w a n l) :
    Calls Try.prog 35 #[.slice a n cap] w fun e w' => CheckRet l e ∧ Below w.heap.size w w' := by
  have HS : Hid (SigAt w a n l) := h
  have hm := h.small
  unfold maxLen at hm
  clear h
  by_cases h16 : (16 : Int) < n
  · have hl16 : Hid (16 < l.length) := by show _ < _; have := HS.out.len; omega
    go_enter Try.func35, Try.ntmps35
    go_wp2
    go_ret2
    exact ⟨by have := hl16.out; simp [CheckRet, checkE, checkP, this], Below.refl _ _⟩
  · have hl16 : Hid (¬ 16 < l.length) := by show ¬ _; have := HS.out.len; omega
    go_enter Try.func35, Try.ntmps35
    go_wp2
    go_loopw [4, 5] (fun i _ w' => ∃ k : Nat, k ≤ n ∧ i = .int .i64 k ∧ Below w.heap.size w w' ∧ ∀ j, j < k → errAt l j = 0) (fun i _ _ => n - (intOf i).toNat)
    case atStart => exact ⟨0, Nat.zero_le _, rfl, Below.refl _ _, fun j h => absurd h (by omega)⟩
    case round =>
      obtain ⟨k, hk, rfl, hb, hno⟩ := hrel
      have HN : Hid (∀ j, j < k → errAt l j = 0) := hno
      have HB : Hid (Below w.heap.size w wr) := hb
      clear hno hb
      by_cases hlt : k < n
      · have hlk : k < l.length := by have := HS.out.len; omega
        have HC : Hid (∀ W, SigAt W a n l → Calls Try.prog 46 #[.slice a n cap, .int .i64 k] W fun e w' => e = .returned (.int .i64 (errAt l k)) ∧ Below W.heap.size W w') := by
          intro W hW
          have := rsymbol_any a n cap l k hlk W hW
          rw [show symErr (l.take k) l[k] = errAt l k by unfold errAt; rw [dif_pos hlk]] at this
          exact this
        cases he : (errAt l k != 0)
        · have he' : Hid (errAt l k = 0) := by show _ = _; simpa using he
          go_wp2_with fail
          refine (HC.out _ (HS.out.below HB.out)).mono ?_
          rintro e w2 ⟨rfl, hb2⟩
          have HB2 : Hid (Below w.heap.size w w2) := HB.out.trans (hb2.mono HB.out.size)
          clear hb2
          go_wp2
          go_roundw
          case rel => exact ⟨k + 1, by omega, by go_num, HB2.out, fun j hj => by
            rcases Nat.lt_succ_iff_lt_or_eq.1 hj with hj | rfl
            · exact HN.out j hj
            · exact he'.out⟩
          case measure => simp [intOf]; omega
        · have hf : Hid (firstErr l = some k) := firstErr_hit hlk (by simpa using he) HN.out
          go_wp2_with fail
          refine (HC.out _ (HS.out.below HB.out)).mono ?_
          rintro e w2 ⟨rfl, hb2⟩
          have HB2 : Hid (Below w.heap.size w w2) := HB.out.trans (hb2.mono HB.out.size)
          clear hb2
          go_wp2
          go_ret2
          exact ⟨by unfold CheckRet; rw [checkE_hit hl16.out hf.out, checkP_hit hl16.out hf.out]; rfl, HB2.out⟩
      · have hf : Hid (firstErr l = none) := firstErr_miss fun j hj => HN.out j (by have := HS.out.len; omega)
        go_wp2
        go_ret2
        exact ⟨by unfold CheckRet; rw [checkE_miss hl16.out hf.out, checkP_miss hl16.out hf.out]; rfl, HB.out⟩

end Go.Proofs.Ytlemkgdbefmeeab
/- What the document's Same, Is, Equal and Right answer. -/
namespace Go.Proofs.Ytlemkgdbefmeeab
open Go.RowKit Go.Deep

set_option maxRecDepth 100000 in
set_option maxHeartbeats 2000000 in
theorem sright_any (S : Option Addr) (n cap : Nat) (l : List Sym) (w : World) (hS : SigAt w S n l) :
    Calls Try.prog 27 #[.slice S n cap] w fun e w' => e = .returned (.bool (checkE l == 0)) ∧ Below w.heap.size w w' := by
  have HC : Hid (Calls Try.prog 35 #[.slice S n cap] w fun e w' => CheckRet l e ∧ Below w.heap.size w w') := rcheck_any S n cap l w hS
  clear hS
  go_enter Try.func27, Try.ntmps27
  go_wp2_with (go_at_call 35; refine HC.out.mono ?_; rintro e w1 ⟨he, hb1⟩; unfold CheckRet at he; subst he; have HB1 : Hid (Below w.heap.size w w1) := hb1; clear hb1)
  go_ret
  exact ⟨rfl, HB1.out⟩
def rightB (l : List Sym) (t : Tn) : Bool := (checkE l == 0) && (errT l t.1 t.2 == 0)
set_option maxRecDepth 100000 in
set_option maxHeartbeats 2000000 in
theorem rright_any (S : Option Addr) (n cap : Nat) (l : List Sym) (t : Tn) (a : Option Addr) (c : Nat) (w : World) (hS : SigAt w S n l) (hT : TmAt w t.1 a c t.2) :
    Calls Try.prog 17 #[.slice S n cap, .agg #[.string t.1.1, .int .i64 t.1.2, .slice a (lenF t.2) c]] w fun e w' => e = .returned (.bool (rightB l t)) ∧ Below w.heap.size w w' := by
  obtain ⟨⟨tn, ts⟩, tl⟩ := t
  obtain ⟨ev, hev⟩ : ∃ ev, errT l (tn, ts) tl = ev := ⟨_, rfl⟩
  have ON : Hid (TBox (w.alloc (.cells #[.string tn, .int .i64 ts, .slice a (lenF tl) c] 26)) w.heap.size (tn, ts) a (lenF tl) c) := TBox.new w (tn, ts) a (lenF tl) c
  have HB0 : Hid (Below w.heap.size w (w.alloc (.cells #[.string tn, .int .i64 ts, .slice a (lenF tl) c] 26))) := (Below.refl _ w).alloc (Nat.le_refl _) _
  have HS : Hid (∀ W, Below w.heap.size w W → Calls Try.prog 27 #[.slice S n cap] W fun e w' => e = .returned (.bool (checkE l == 0)) ∧ Below W.heap.size W w') := fun W hW => sright_any S n cap l W (hS.below hW)
  have HN : Hid (∀ W, Below w.heap.size w W → Calls Try.prog 28 #[.slice S n cap, .agg #[.string tn, .int .i64 ts, .slice a (lenF tl) c]] W fun e w' => e = .returned (.int .i64 ev) ∧ Below W.heap.size W w') := fun W hW => by
    have := nodes_all l _ S n cap (tn, ts) tl a c W (Nat.le_refl _) (hS.below hW) (hT.below hW)
    rw [hev] at this
    exact this
  clear hS hT
  cases hc : (checkE l == 0)
  · have e : Hid (rightB l ((tn, ts), tl) = false) := by show _ = _; unfold rightB; rw [hc]; rfl
    rw [hc] at HS
    go_enter Try.func17, Try.ntmps17
    go_wp2_with (go_at_call 27; refine (HS.out _ HB0.out).mono ?_; rintro e w1 ⟨rfl, hb1⟩; have HB1 : Hid (Below w.heap.size w w1) := HB0.out.trans (hb1.mono HB0.out.size); have hbx := ON.out.below hb1; have c0 := hbx.c0; have c1 := hbx.c1; have c2 := hbx.c2; clear hb1 hbx)
    go_ret
    exact ⟨by rw [e.out]; rfl, HB1.out⟩
  · have e : Hid (rightB l ((tn, ts), tl) = (ev == 0)) := by show _ = _; unfold rightB; rw [hc, ← hev]; rfl
    rw [hc] at HS
    clear hev
    go_enter Try.func17, Try.ntmps17
    go_wp2_with (first
      | (go_at_call 27; refine (HS.out _ HB0.out).mono ?_; rintro e w1 ⟨rfl, hb1⟩; have HB1 : Hid (Below w.heap.size w w1) := HB0.out.trans (hb1.mono HB0.out.size); have hbx := ON.out.below hb1; have c0 := hbx.c0; have c1 := hbx.c1; have c2 := hbx.c2; clear hb1 hbx)
      | (go_at_call 28; refine (HN.out _ HB1.out).mono ?_; rintro e w2 ⟨rfl, hb2⟩; have HB2 : Hid (Below w.heap.size w w2) := HB1.out.trans (hb2.mono HB1.out.size); clear hb2))
    go_ret
    exact ⟨by rw [e.out]; rfl, HB2.out⟩
set_option maxRecDepth 100000 in
theorem right_facts {l : List Sym} {t : Tn} (h : rightB l t = true) : (sgOf l).Ok (arAt l) ∧ RightT (sgOf l) (arAt l) t := by
  unfold rightB at h
  simp only [Bool.and_eq_true, beq_iff_eq] at h
  exact ⟨sg_ok h.1, errT_right h.1 h.2⟩
end Go.Proofs.Ytlemkgdbefmeeab
/- What the statements' own 'right' answers of a signature, two terms and a list. -/
namespace Go.Proofs.Ytlemkgdbefmeeab
open Go.RowKit Go.Deep

/-- What a statement is asked about, in memory. -/
structure TwoAt (w : World) (S : Option Addr) (n : Nat) (l : List Sym) (A B : Tn) (a b : Option Addr) (c d : Nat) (La : Option Addr) (F : Fo) : Prop where
  sig : SigAt w S n l
  a : TmAt w A.1 a c A.2
  b : TmAt w B.1 b d B.2
  l : ArgsAt w La F
  few : lenF F * 48 ≤ 140737488351232
set_option maxRecDepth 100000 in
theorem TwoAt.below {w w' : World} {S : Option Addr} {n : Nat} {l : List Sym} {A B : Tn} {a b : Option Addr} {c d : Nat} {La : Option Addr} {F : Fo} (h : TwoAt w S n l A B a b c d La F) (hb : Below w.heap.size w w') : TwoAt w' S n l A B a b c d La F :=
  ⟨h.sig.below hb, h.a.below hb, h.b.below hb, h.l.below hb, h.few⟩
def twoC (S : Option Addr) (n cap : Nat) (A B : Tn) (a b : Option Addr) (c d : Nat) (f : Int) (La : Option Addr) (F : Fo) (lc : Nat) : Array Value :=
  #[.slice S n cap, .string A.1.1, .int .i64 A.1.2, .slice a (lenF A.2) c, .string B.1.1, .int .i64 B.1.2, .slice b (lenF B.2) d, .int .i64 f, .slice La (lenF F) lc]
/-- The box of it. -/
def WBox (W : World) (g : Nat) (cs : Array Value) : Prop := W.heap[g]? = some (.cells cs 28 (0, 0))
set_option maxRecDepth 100000 in
theorem WBox.below {W W' : World} {g : Nat} {cs : Array Value} (h : WBox W g cs) (hb : Below W.heap.size W W') : WBox W' g cs := (hb.block g (Array.getElem?_eq_some_iff.1 h).1).trans h
set_option maxRecDepth 100000 in
theorem WBox.c {W : World} {g : Nat} {cs : Array Value} (h : WBox W g cs) (k : Nat) {v : Value} (hv : cs[k]? = some v) : W.cell? ⟨g, k, none⟩ = some v := by simp [World.cell?, show W.heap[g]? = _ from h, hv]

set_option maxRecDepth 100000 in
set_option maxHeartbeats 2000000 in
theorem right_any (S : Option Addr) (n cap : Nat) (l : List Sym) (A B : Tn) (a b : Option Addr) (c d : Nat) (f : Int) (La : Option Addr) (F : Fo) (lc : Nat) (w : World) (h : TwoAt w S n l A B a b c d La F) :
    Calls Try.prog 6 #[.agg (twoC S n cap A B a b c d f La F lc)] w fun e w' => e = .returned (.bool (rightB l A && rightB l B && (kidsL F).all (rightB l))) ∧ Below w.heap.size w w' := by
  have H : Hid (TwoAt w S n l A B a b c d La F) := h
  have HB0 : Hid (Below w.heap.size w (w.alloc (.cells (twoC S n cap A B a b c d f La F lc) 28))) := (Below.refl _ w).alloc (Nat.le_refl _) _
  have HW0 : Hid (WBox (w.alloc (.cells (twoC S n cap A B a b c d f La F lc) 28)) w.heap.size (twoC S n cap A B a b c d f La F lc)) := World.alloc_heap_new w _
  clear h
  obtain ⟨⟨an, az⟩, al⟩ := A
  obtain ⟨⟨bn, bz⟩, bl⟩ := B
  unfold twoC at *
  dsimp only at *
  obtain ⟨ra, hra⟩ : ∃ ra, rightB l ((an, az), al) = ra := ⟨_, rfl⟩
  obtain ⟨rb, hrb⟩ : ∃ rb, rightB l ((bn, bz), bl) = rb := ⟨_, rfl⟩
  have HA : Hid (∀ W, Below w.heap.size w W → Calls Try.prog 17 #[.slice S n cap, .agg #[.string an, .int .i64 az, .slice a (lenF al) c]] W fun e w' => e = .returned (.bool ra) ∧ Below W.heap.size W w') := fun W hW => by
    have := rright_any S n cap l ((an, az), al) a c W (H.out.below hW).sig (H.out.below hW).a
    rw [hra] at this
    exact this
  have HB : Hid (∀ W, Below w.heap.size w W → Calls Try.prog 17 #[.slice S n cap, .agg #[.string bn, .int .i64 bz, .slice b (lenF bl) d]] W fun e w' => e = .returned (.bool rb) ∧ Below W.heap.size W w') := fun W hW => by
    have := rright_any S n cap l ((bn, bz), bl) b d W (H.out.below hW).sig (H.out.below hW).b
    rw [hrb] at this
    exact this
  rw [hra, hrb]
  clear hra hrb
  cases ra with
  | true =>
    go_enter Try.func6, Try.ntmps6
    go_wp2_with (first
      | (go_at_call 17; refine (HB.out _ HB1.out).mono ?_; rintro e w2 ⟨rfl, hb2⟩; have HB2 : Hid (Below w.heap.size w w2) := HB1.out.trans (hb2.mono HB1.out.size); have HW2 : Hid (WBox w2 w.heap.size #[.slice S n cap, .string an, .int .i64 az, .slice a (lenF al) c, .string bn, .int .i64 bz, .slice b (lenF bl) d, .int .i64 f, .slice La (lenF F) lc]) := HW1.out.below hb2; clear hb2)
      | (go_at_call 17; refine (HA.out _ HB0.out).mono ?_; rintro e w1 ⟨rfl, hb1⟩; have HB1 : Hid (Below w.heap.size w w1) := HB0.out.trans (hb1.mono HB0.out.size); have HW1 : Hid (WBox w1 w.heap.size #[.slice S n cap, .string an, .int .i64 az, .slice a (lenF al) c, .string bn, .int .i64 bz, .slice b (lenF bl) d, .int .i64 f, .slice La (lenF F) lc]) := HW0.out.below hb1; have c0 := HW1.out.c 0 rfl; have c4 := HW1.out.c 4 rfl; have c5 := HW1.out.c 5 rfl; have c6 := HW1.out.c 6 rfl; clear hb1))
    go_loopw [5, 6, 7] (fun ok i _ wr => ∃ j : Nat, j ≤ lenF F ∧ i = .int .i64 j ∧ ok = .bool (rb && ((kidsL F).take j).all (rightB l)) ∧ Below w.heap.size w wr ∧ WBox wr w.heap.size #[.slice S n cap, .string an, .int .i64 az, .slice a (lenF al) c, .string bn, .int .i64 bz, .slice b (lenF bl) d, .int .i64 f, .slice La (lenF F) lc]) (fun _ i _ _ => lenF F - (intOf i).toNat)
    case atStart => exact ⟨0, Nat.zero_le _, rfl, by simp, HB2.out, HW2.out⟩
    case round =>
      clear c0 c4 c5 c6
      obtain ⟨j, hj, rfl, rfl, hlow, hbox⟩ := hrel
      obtain ⟨ov, hov⟩ : ∃ ov, (rb && ((kidsL F).take j).all (rightB l)) = ov := ⟨_, rfl⟩
      have HOV : Hid ((rb && ((kidsL F).take j).all (rightB l)) = ov) := hov
      rw [hov]
      clear hov
      have HLo : Hid (Below w.heap.size w wr) := hlow
      have HBo : Hid (WBox wr w.heap.size #[.slice S n cap, .string an, .int .i64 az, .slice a (lenF al) c, .string bn, .int .i64 bz, .slice b (lenF bl) d, .int .i64 f, .slice La (lenF F) lc]) := hbox
      have c8 : wr.cell? ⟨w.heap.size, 8, none⟩ = some (.slice La (lenF F) lc) := hbox.c 8 rfl
      have hn : lenF F ≤ 9223372036854775807 := by have := H.out.few; omega
      clear hlow
      by_cases hlt : j < lenF F
      · obtain ⟨b1, o1, rfl, hk1⟩ := (H.out.below HLo.out).l.get (by omega)
        obtain ⟨z, a1, c1, l1, kd⟩ := hk1.kid (k := j) hlt
        have KD : Hid (Kid wr F b1 o1 j z a1 c1 l1) := kd
        obtain ⟨iv, hiv⟩ : ∃ iv, rightB l (z, l1) = iv := ⟨_, rfl⟩
        have hC : Hid (∀ W, Below wr.heap.size wr W → Calls Try.prog 17 #[.slice S n cap, .agg #[.string z.1, .int .i64 z.2, .slice a1 (lenF l1) c1]] W fun e w' => e = .returned (.bool iv) ∧ Below W.heap.size W w') := fun W hW => by
          have := rright_any S n cap l (z, l1) a1 c1 W ((H.out.below HLo.out).below hW).sig (KD.out.at_.below hW)
          rw [hiv] at this
          exact this
        have HIV : Hid (rightB l (z, l1) = iv) := hiv
        have hne := later_some wr
        have d0 := later_cell (hbox.c 0 rfl : wr.cell? ⟨w.heap.size, 0, none⟩ = some (.slice S n cap))
        have d1 := later_cell c8
        have p0 := later_cell kd.name; have p1 := later_cell kd.sym; have p2 := later_cell kd.list
        have hk0 : (0 : Int) ≤ (j : Int) := by omega
        have hkn : (j : Int) < (lenF F : Int) := by omega
        clear kd hk1 hbox hiv
        go_wp2_with fail
        refine wp_region_later (by kernel_rfl) (by kernel_rfl) ?_
        repeat (go_big_quiet_step ((refine calls_later (hC.out _ ?_); exact Later.below _)))
        refine wpQuiet_nil ?_
        intro _ hw'
        obtain ⟨b2, hw''⟩ := hw'
        subst hw''
        have HLo2 : Hid (Below w.heap.size w b2.now) := HLo.out.trans (b2.below.mono HLo.out.size)
        have HBo2 : Hid (WBox b2.now w.heap.size #[.slice S n cap, .string an, .int .i64 az, .slice a (lenF al) c, .string bn, .int .i64 bz, .slice b (lenF bl) d, .int .i64 f, .slice (some ⟨b1, o1, none⟩) (lenF F) lc]) := HBo.out.below b2.below
        have HT : Hid ((rb && ((kidsL F).take (j + 1)).all (rightB l)) = (ov && iv)) := by
          obtain ⟨B1, O1, sp⟩ := KD.out.split
          show _ = _
          rw [kids_take sp, List.all_append, ← Bool.and_assoc, HOV.out, List.all_cons, HIV.out]
          simp
        clear d0 d1 p0 p1 p2 c8
        cases ov with
        | true =>
          go_wp2
          go_roundw
          case rel => exact ⟨j + 1, by omega, by go_num, by rw [HT.out]; rfl, HLo2.out, HBo2.out⟩
          case measure => simp [intOf]; omega
        | false =>
          go_wp2
          go_roundw
          case rel => exact ⟨j + 1, by omega, by go_num, by rw [HT.out]; rfl, HLo2.out, HBo2.out⟩
          case measure => simp [intOf]; omega
      · obtain rfl : j = lenF F := by omega
        have hX3 : Hid ((rb && (kidsL F).all (rightB l)) = ov) := by have := HOV.out; rwa [List.take_of_length_le (by rw [kids_len]; exact Nat.le_refl _)] at this
        clear hbox
        go_wp2
        go_ret
        exact ⟨by rw [← hX3.out]; simp, HLo.out⟩
  | false =>
    go_enter Try.func6, Try.ntmps6
    go_wp2_with (first
      | (go_at_call 17; refine (HB.out _ HB1.out).mono ?_; rintro e w2 ⟨rfl, hb2⟩; have HB2 : Hid (Below w.heap.size w w2) := HB1.out.trans (hb2.mono HB1.out.size); have HW2 : Hid (WBox w2 w.heap.size #[.slice S n cap, .string an, .int .i64 az, .slice a (lenF al) c, .string bn, .int .i64 bz, .slice b (lenF bl) d, .int .i64 f, .slice La (lenF F) lc]) := HW1.out.below hb2; clear hb2)
      | (go_at_call 17; refine (HA.out _ HB0.out).mono ?_; rintro e w1 ⟨rfl, hb1⟩; have HB1 : Hid (Below w.heap.size w w1) := HB0.out.trans (hb1.mono HB0.out.size); have HW1 : Hid (WBox w1 w.heap.size #[.slice S n cap, .string an, .int .i64 az, .slice a (lenF al) c, .string bn, .int .i64 bz, .slice b (lenF bl) d, .int .i64 f, .slice La (lenF F) lc]) := HW0.out.below hb1; have c0 := HW1.out.c 0 rfl; have c4 := HW1.out.c 4 rfl; have c5 := HW1.out.c 5 rfl; have c6 := HW1.out.c 6 rfl; clear hb1))
    go_loopw [5, 6, 7] (fun ok i _ wr => ∃ j : Nat, j ≤ lenF F ∧ i = .int .i64 j ∧ ok = .bool (false && ((kidsL F).take j).all (rightB l)) ∧ Below w.heap.size w wr ∧ WBox wr w.heap.size #[.slice S n cap, .string an, .int .i64 az, .slice a (lenF al) c, .string bn, .int .i64 bz, .slice b (lenF bl) d, .int .i64 f, .slice La (lenF F) lc]) (fun _ i _ _ => lenF F - (intOf i).toNat)
    case atStart => exact ⟨0, Nat.zero_le _, rfl, by simp, HB2.out, HW2.out⟩
    case round =>
      clear c0 c4 c5 c6
      obtain ⟨j, hj, rfl, rfl, hlow, hbox⟩ := hrel
      obtain ⟨ov, hov⟩ : ∃ ov, (false && ((kidsL F).take j).all (rightB l)) = ov := ⟨_, rfl⟩
      have HOV : Hid ((false && ((kidsL F).take j).all (rightB l)) = ov) := hov
      rw [hov]
      clear hov
      have HLo : Hid (Below w.heap.size w wr) := hlow
      have HBo : Hid (WBox wr w.heap.size #[.slice S n cap, .string an, .int .i64 az, .slice a (lenF al) c, .string bn, .int .i64 bz, .slice b (lenF bl) d, .int .i64 f, .slice La (lenF F) lc]) := hbox
      have c8 : wr.cell? ⟨w.heap.size, 8, none⟩ = some (.slice La (lenF F) lc) := hbox.c 8 rfl
      have hn : lenF F ≤ 9223372036854775807 := by have := H.out.few; omega
      clear hlow
      by_cases hlt : j < lenF F
      · obtain ⟨b1, o1, rfl, hk1⟩ := (H.out.below HLo.out).l.get (by omega)
        obtain ⟨z, a1, c1, l1, kd⟩ := hk1.kid (k := j) hlt
        have KD : Hid (Kid wr F b1 o1 j z a1 c1 l1) := kd
        obtain ⟨iv, hiv⟩ : ∃ iv, rightB l (z, l1) = iv := ⟨_, rfl⟩
        have hC : Hid (∀ W, Below wr.heap.size wr W → Calls Try.prog 17 #[.slice S n cap, .agg #[.string z.1, .int .i64 z.2, .slice a1 (lenF l1) c1]] W fun e w' => e = .returned (.bool iv) ∧ Below W.heap.size W w') := fun W hW => by
          have := rright_any S n cap l (z, l1) a1 c1 W ((H.out.below HLo.out).below hW).sig (KD.out.at_.below hW)
          rw [hiv] at this
          exact this
        have HIV : Hid (rightB l (z, l1) = iv) := hiv
        have hne := later_some wr
        have d0 := later_cell (hbox.c 0 rfl : wr.cell? ⟨w.heap.size, 0, none⟩ = some (.slice S n cap))
        have d1 := later_cell c8
        have p0 := later_cell kd.name; have p1 := later_cell kd.sym; have p2 := later_cell kd.list
        have hk0 : (0 : Int) ≤ (j : Int) := by omega
        have hkn : (j : Int) < (lenF F : Int) := by omega
        clear kd hk1 hbox hiv
        go_wp2_with fail
        refine wp_region_later (by kernel_rfl) (by kernel_rfl) ?_
        repeat (go_big_quiet_step ((refine calls_later (hC.out _ ?_); exact Later.below _)))
        refine wpQuiet_nil ?_
        intro _ hw'
        obtain ⟨b2, hw''⟩ := hw'
        subst hw''
        have HLo2 : Hid (Below w.heap.size w b2.now) := HLo.out.trans (b2.below.mono HLo.out.size)
        have HBo2 : Hid (WBox b2.now w.heap.size #[.slice S n cap, .string an, .int .i64 az, .slice a (lenF al) c, .string bn, .int .i64 bz, .slice b (lenF bl) d, .int .i64 f, .slice (some ⟨b1, o1, none⟩) (lenF F) lc]) := HBo.out.below b2.below
        have HT : Hid ((false && ((kidsL F).take (j + 1)).all (rightB l)) = (ov && iv)) := by
          obtain ⟨B1, O1, sp⟩ := KD.out.split
          show _ = _
          rw [kids_take sp, List.all_append, ← Bool.and_assoc, HOV.out, List.all_cons, HIV.out]
          simp
        clear d0 d1 p0 p1 p2 c8
        cases ov with
        | true =>
          go_wp2
          go_roundw
          case rel => exact ⟨j + 1, by omega, by go_num, by rw [HT.out]; rfl, HLo2.out, HBo2.out⟩
          case measure => simp [intOf]; omega
        | false =>
          go_wp2
          go_roundw
          case rel => exact ⟨j + 1, by omega, by go_num, by rw [HT.out]; rfl, HLo2.out, HBo2.out⟩
          case measure => simp [intOf]; omega
      · obtain rfl : j = lenF F := by omega
        have hX3 : Hid ((false && (kidsL F).all (rightB l)) = ov) := by have := HOV.out; rwa [List.take_of_length_le (by rw [kids_len]; exact Nat.le_refl _)] at this
        clear hbox
        go_wp2
        go_ret
        exact ⟨by rw [← hX3.out]; simp, HLo.out⟩
end Go.Proofs.Ytlemkgdbefmeeab
/- What the statements' own 'app' answers: a symbol's term of copies. -/
namespace Go.Proofs.Ytlemkgdbefmeeab
open Go.RowKit Go.Deep

set_option maxRecDepth 100000 in
theorem Lst.set {B : Nat} {W : World} {v : Value} {ks : List Kv} (h : Lst B W v ks) {p : Addr} (hp : p.block < B) (u : Value) : Lst B (W.setCell p u) v ks :=
  ⟨owns_block h.row (fun q hq => by have := (owns_cells h.row hq).1; exact Below.heap_setCell W p u q (by omega)), fun k hk => (h.own k hk).keep (fun q hq _ => Below.heap_setCell W p u q (by omega))⟩
/-- The boxes of the answer and of what is built. -/
structure Duo (w : World) (x : ByteArray × Int) (W : World) (v : Value) : Prop where
  low : Below w.heap.size w W
  r : XBox W w.heap.size (⟨#[]⟩, 0) (.slice none 0 0)
  x : XBox W (w.heap.size + 1) x v
set_option maxRecDepth 100000 in
theorem duo_new (w : World) (x : ByteArray × Int) : Duo w x ((w.alloc (.cells #[.string ⟨#[]⟩, .int .i64 0, .slice none 0 0] 26)).alloc (.cells #[.string x.1, .int .i64 x.2, .slice none 0 0] 26)) (.slice none 0 0) :=
  ⟨((Below.refl _ w).alloc (Nat.le_refl _) _).alloc (by simp) _, XBox.below (W := w.alloc (.cells #[.string ⟨#[]⟩, .int .i64 0, .slice none 0 0] 26)) (World.alloc_heap_new w _) ((Below.refl _ _).alloc (Nat.le_refl _) _), heap_alloc2_new w _ _⟩

end Go.Proofs.Ytlemkgdbefmeeab
