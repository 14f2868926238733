/- Canonical forms, without any program: a canonical term is told by its parts; Canon of a right term is canonical; what the axioms and cancelling say. -/
import Derived.Test.YtppgmepmegelbaaGreatDoorCanP
namespace Go.Proofs.YtppgmepmegelbaaGreatDoor
open Go.RowKit Go.Deep

structure Good (S : Sg) (ar : Int → Nat) (f : Int) (p : Tn) : Prop where
  can : CanT S ar p
  unit : isUn S f p = false
  head : headed f p = false

theorem headed_iff {f : Int} {t : Tn} : headed f t = true ↔ noName t.1.1 = true ∧ t.1.2 = f := by
  unfold headed
  rw [Bool.and_eq_true, beq_iff_eq]
theorem isUn_some {S : Sg} {f : Int} {t : Tn} (h : isUn S f t = true) : ∃ u, S.unit f = some u ∧ t = constT u := by
  unfold isUn at h
  cases hu : S.unit f with
  | none => rw [hu] at h; cases h
  | some u =>
    rw [hu] at h
    dsimp only at h
    unfold isConst at h
    rw [Bool.and_eq_true, Bool.and_eq_true, beq_iff_eq, beq_iff_eq] at h
    obtain ⟨⟨h1, h2⟩, h3⟩ := h
    obtain ⟨⟨n, s⟩, l⟩ := t
    refine ⟨u, rfl, ?_⟩
    have e1 : n = noB := noName_eq h1
    have e2 : s = u := h2
    have e3 : l = .nil := len_nil h3
    rw [e1, e2, e3]
    rfl
theorem isUn_const {S : Sg} {f u : Int} (h : S.unit f = some u) : isUn S f (constT u) = true := by
  unfold isUn
  rw [h]
  dsimp only
  unfold isConst constT
  simp [noName_noB, lenF]
theorem can_head {S : Sg} {ar : Int → Nat} {f : Int} {t : Tn} (hj : S.joins f = true) (h : CanT S ar t) (hh : headed f t = true) : t.1 = (noB, f) ∧ 2 ≤ (kidsL t.2).length ∧ Srt (kidsL t.2) ∧ ∀ k ∈ kidsL t.2, Good S ar f k := by
  obtain ⟨h1, h2⟩ := headed_iff.1 hh
  have hc := h.1
  unfold can1 at hc
  rw [if_neg (by rw [h1]; simp), h2, if_pos hj] at hc
  obtain ⟨c1, c2, c3, c4⟩ := hc
  exact ⟨Prod.ext c1 h2, c2, c3, fun k hk => ⟨can_kids h.2 k hk, (c4 k hk).1, (c4 k hk).2⟩⟩
theorem parts_good {S : Sg} {ar : Int → Nat} {f : Int} {t : Tn} (hj : S.joins f = true) (h : CanT S ar t) : ∀ p ∈ partsN S f t, Good S ar f p := by
  unfold partsN
  rw [if_neg (by simp [hj])]
  cases hu : isUn S f t with
  | true => simp
  | false =>
    cases hh : headed f t with
    | true => simpa using (can_head hj h hh).2.2.2
    | false =>
      intro p hp
      simp at hp
      subst hp
      exact ⟨h, hu, hh⟩
theorem parts_of_good {S : Sg} {ar : Int → Nat} {f : Int} {t : Tn} (h : Good S ar f t) : partsN S f t = [t] := by
  unfold partsN
  rw [h.unit, h.head]
  split <;> simp
theorem parts_nil {S : Sg} {ar : Int → Nat} {f : Int} {t : Tn} (hj : S.joins f = true) (h : CanT S ar t) (hp : partsN S f t = []) : ∃ u, S.unit f = some u := by
  unfold partsN at hp
  rw [if_neg (by simp [hj])] at hp
  cases hu : isUn S f t with
  | true => obtain ⟨u, h1, _⟩ := isUn_some hu; exact ⟨u, h1⟩
  | false =>
    rw [hu] at hp
    cases hh : headed f t with
    | true =>
      rw [hh] at hp
      simp only [Bool.false_eq_true, if_false, if_true] at hp
      have := (can_head hj h hh).2.1
      rw [hp] at this
      simp at this
    | false => rw [hh] at hp; simp at hp
theorem join_many (S : Sg) (f : Int) {l : List Tn} (h : 2 ≤ l.length) : joinL S f l = some ((noB, f), mkF (sortN l)) := by
  match l, h with
  | _ :: _ :: _, _ => rfl
theorem join_can {S : Sg} {ar : Int → Nat} (hS : S.Ok ar) {f : Int} {l : List Tn} {t : Tn} (hj : S.joins f = true) (hl : ∀ p ∈ l, Good S ar f p) (h : joinL S f l = some t) : CanT S ar t := by
  match l, hl, h with
  | [], _, h =>
    simp only [joinL, Option.map_eq_some_iff] at h
    obtain ⟨u, hu, rfl⟩ := h
    refine ⟨?_, trivial⟩
    unfold can1 constT
    dsimp only
    rw [if_neg (by simp [noName_noB]), hS.free f u hu]
    simp [kidsL, hS.none f u hu]
  | [a], hl, h =>
    simp only [joinL, Option.some.injEq] at h
    subst h
    exact (hl a (by simp)).can
  | a :: b :: r, hl, h =>
    simp only [joinL, Option.some.injEq] at h
    subst h
    have hm : ∀ k ∈ sortN (a :: b :: r), Good S ar f k := fun k hk => hl k ((sortN_perm _).mem_iff.1 hk)
    refine ⟨?_, can_mk (fun k hk => (hm k hk).can)⟩
    unfold can1
    dsimp only
    rw [if_neg (by simp [noName_noB]), if_pos hj, kids_mk]
    exact ⟨rfl, by rw [sortN_len]; simp, sortN_srt _, fun k hk => ⟨(hm k hk).unit, (hm k hk).head⟩⟩
theorem parts_join {S : Sg} {ar : Int → Nat} {f : Int} {l : List Tn} {t : Tn} (hj : S.joins f = true) (hl : ∀ p ∈ l, Good S ar f p) (h : joinL S f l = some t) : List.Perm (partsN S f t) l := by
  match l, hl, h with
  | [], _, h =>
    simp only [joinL, Option.map_eq_some_iff] at h
    obtain ⟨u, hu, rfl⟩ := h
    unfold partsN
    rw [if_neg (by simp [hj]), isUn_const hu]
    simp
  | [a], hl, h =>
    simp only [joinL, Option.some.injEq] at h
    subst h
    rw [parts_of_good (hl a (by simp))]
  | a :: b :: r, hl, h =>
    simp only [joinL, Option.some.injEq] at h
    subst h
    have hu : isUn S f ((noB, f), mkF (sortN (a :: b :: r))) = false := by
      cases hq : isUn S f ((noB, f), mkF (sortN (a :: b :: r))) with
      | false => rfl
      | true =>
        obtain ⟨u, _, e⟩ := isUn_some hq
        have := congrArg (fun t : Tn => lenF t.2) e
        simp only [constT, len_mk, sortN_len, lenF, List.length_cons] at this
        omega
    have hh : headed f ((noB, f), mkF (sortN (a :: b :: r))) = true := headed_iff.2 ⟨noName_noB, rfl⟩
    unfold partsN
    rw [if_neg (by simp [hj]), hu, hh]
    simp only [Bool.false_eq_true, if_false, if_true, kids_mk]
    exact sortN_perm _
theorem join_parts {S : Sg} {ar : Int → Nat} {f : Int} {t : Tn} (hj : S.joins f = true) (h : CanT S ar t) : joinL S f (partsN S f t) = some t := by
  unfold partsN
  rw [if_neg (by simp [hj])]
  cases hu : isUn S f t with
  | true =>
    obtain ⟨u, h1, rfl⟩ := isUn_some hu
    simp [joinL, h1]
  | false =>
    cases hh : headed f t with
    | true =>
      obtain ⟨c1, c2, c3, c4⟩ := can_head hj h hh
      simp only [Bool.false_eq_true, if_false, if_true]
      rw [join_many S f c2, sort_self (fun k hk => (c4 k hk).can) c3, can_mk_kids h.2, ← c1]
    | false => simp [joinL]
theorem join_perm {S : Sg} {ar : Int → Nat} {f : Int} {l m : List Tn} (hl : ∀ p ∈ l, CanT S ar p) (h : List.Perm l m) : joinL S f l = joinL S f m := by
  have hlen := h.length_eq
  match l, m, hlen, hl, h with
  | [], [], _, _, _ => rfl
  | [a], [b], _, _, h => rw [show a = b by simpa using h]
  | a :: b :: r, c :: d :: s, _, hl, h => simp only [joinL]; rw [sort_eq hl h]
/-- A canonical term is told by its parts. -/
theorem parts_inj {S : Sg} {ar : Int → Nat} {f : Int} {x y : Tn} (hj : S.joins f = true) (hx : CanT S ar x) (hy : CanT S ar y) (h : List.Perm (partsN S f x) (partsN S f y)) : x = y := by
  have h1 := join_parts hj hx
  rw [join_perm (fun p hp => (parts_good hj hx p hp).can) h, join_parts hj hy] at h1
  exact (Option.some.inj h1).symm

/-! ### Canon is canonical -/
theorem flat_good {S : Sg} {ar : Int → Nat} {f : Int} {cs : List Tn} (hj : S.joins f = true) (hc : ∀ c ∈ cs, CanT S ar c) : ∀ p ∈ cs.flatMap (partsN S f), Good S ar f p := fun p hp => by
  obtain ⟨c, h1, h2⟩ := List.mem_flatMap.1 hp
  exact parts_good hj (hc c h1) p h2
theorem join_some {S : Sg} {ar : Int → Nat} {f : Int} {cs : List Tn} (hj : S.joins f = true) (hc : ∀ c ∈ cs, CanT S ar c) (hn : cs ≠ []) : ∃ t, joinL S f (cs.flatMap (partsN S f)) = some t := by
  match hq : cs.flatMap (partsN S f) with
  | [] =>
    match cs, hn, hc with
    | c :: _, _, hc =>
      simp only [List.flatMap_cons, List.append_eq_nil_iff] at hq
      obtain ⟨u, hu⟩ := parts_nil hj (hc c (by simp)) hq.1
      exact ⟨constT u, by simp [joinL, hu]⟩
  | [a] => exact ⟨a, rfl⟩
  | a :: b :: r => exact ⟨_, rfl⟩
theorem canon1_join {S : Sg} {ar : Int → Nat} {x : ByteArray × Int} {cs : List Tn} (hx : noName x.1 = true) (hj : S.joins x.2 = true) (hc : ∀ c ∈ cs, CanT S ar c) (hn : cs ≠ []) : joinL S x.2 (cs.flatMap (partsN S x.2)) = some (canon1 S x cs) := by
  obtain ⟨t, ht⟩ := join_some hj hc hn
  unfold canon1 joinN
  rw [if_neg (by simp [hx]), if_pos hj, if_neg (by simp [hj]), ht]
  rfl
theorem canon1_can {S : Sg} {ar : Int → Nat} (hS : S.Ok ar) {x : ByteArray × Int} {cs : List Tn} (hn : nodeOk S ar x cs.length) (hc : ∀ c ∈ cs, CanT S ar c) : CanT S ar (canon1 S x cs) := by
  unfold nodeOk at hn
  cases hx : noName x.1 with
  | false =>
    unfold canon1
    rw [if_pos hx]
    refine ⟨?_, trivial⟩
    unfold can1
    rw [if_pos hx]
    exact ⟨rfl, rfl⟩
  | true =>
    rw [if_neg (by simp [hx])] at hn
    cases hj : S.joins x.2 with
    | true =>
      rw [if_pos hj] at hn
      have hne : cs ≠ [] := fun e => by rw [e] at hn; simp at hn
      exact join_can hS hj (flat_good hj hc) (canon1_join hx hj hc hne)
    | false =>
      rw [if_neg (by simp [hj])] at hn
      unfold canon1
      rw [if_neg (by simp [hx]), if_neg (by simp [hj])]
      refine ⟨?_, can_mk hc⟩
      unfold can1
      dsimp only
      rw [if_neg (by simp [noName_noB]), if_neg (by simp [hj]), kids_mk]
      exact ⟨rfl, hn⟩
theorem canonL_can {S : Sg} {ar : Int → Nat} (hS : S.Ok ar) : ∀ {F : Fo}, RightF S ar F → ∀ c ∈ canonL S F, CanT S ar c
  | .nil, _, _, h => by simp [canonL] at h
  | .node _ _ x l r, ⟨⟨h1, h2⟩, h3⟩, c, hc => by
    simp only [canonL, List.mem_cons] at hc
    rcases hc with rfl | hc
    · exact canon1_can hS (by rw [canonL_map, List.length_map, kids_len]; exact h1) (canonL_can hS h2)
    · exact canonL_can hS h3 c hc
theorem canonT_can {S : Sg} {ar : Int → Nat} (hS : S.Ok ar) {t : Tn} (h : RightT S ar t) : CanT S ar (canonT S t) :=
  canon1_can hS (by rw [canonL_map, List.length_map, kids_len]; exact h.1) (canonL_can hS h.2)

/-! ### a canonical term is its own form -/
theorem flat_self {S : Sg} {ar : Int → Nat} {f : Int} : ∀ {l : List Tn}, (∀ p ∈ l, Good S ar f p) → l.flatMap (partsN S f) = l
  | [], _ => rfl
  | a :: r, h => by rw [List.flatMap_cons, parts_of_good (h a (by simp)), flat_self (fun p hp => h p (by simp [hp]))]; rfl
theorem canon1_id {S : Sg} {ar : Int → Nat} {x : ByteArray × Int} {l : Fo} (h : can1 S ar x (kidsL l)) (hl : CanF S ar l) : canon1 S x (kidsL l) = (x, l) := by
  cases hx : noName x.1 with
  | false =>
    unfold can1 at h
    rw [if_pos hx] at h
    unfold canon1
    rw [if_pos hx]
    have e : l = .nil := len_nil (by rw [← kids_len, h.2]; rfl)
    rw [e, ← h.1]
  | true =>
    cases hj : S.joins x.2 with
    | true =>
      have hc : CanT S ar (x, l) := ⟨h, hl⟩
      obtain ⟨c1, c2, c3, c4⟩ := can_head hj hc (headed_iff.2 ⟨hx, rfl⟩)
      have hne : kidsL l ≠ [] := fun e => by rw [e] at c2; simp at c2
      have h1 := canon1_join hx hj (can_kids hl) hne
      rw [flat_self c4, join_many S x.2 c2, sort_self (fun k hk => (c4 k hk).can) c3, can_mk_kids hl, Option.some.injEq] at h1
      rw [← h1, ← show x = (noB, x.2) from c1]
    | false =>
      unfold can1 at h
      rw [if_neg (by simp [hx])] at h
      unfold canon1
      rw [if_neg (by simp [hx]), if_neg (by simp [hj]), can_mk_kids hl]
      exact Prod.ext (Prod.ext h.1.symm rfl) rfl
theorem canonL_id {S : Sg} {ar : Int → Nat} : ∀ {F : Fo}, CanF S ar F → canonL S F = kidsL F
  | .nil, _ => rfl
  | .node _ _ x l r, ⟨_, ⟨h1, h2⟩, h3⟩ => by
    simp only [canonL, kidsL]
    rw [canonL_id h2, canonL_id h3, canon1_id h1 h2]
theorem canonT_id {S : Sg} {ar : Int → Nat} {t : Tn} (h : CanT S ar t) : canonT S t = t := by
  unfold canonT
  rw [canonL_id h.2, canon1_id h.1 h.2]
theorem right_of_can1 {S : Sg} {ar : Int → Nat} {x : ByteArray × Int} {l : Fo} (h : can1 S ar x (kidsL l)) : nodeOk S ar x (lenF l) := by
  unfold can1 at h
  unfold nodeOk
  cases hx : noName x.1 with
  | false =>
    rw [if_pos hx] at h
    rw [if_pos rfl]
    exact ⟨h.1, by rw [← kids_len, h.2]; rfl⟩
  | true =>
    rw [if_neg (by simp [hx])] at h
    rw [if_neg (by simp)]
    cases hj : S.joins x.2 with
    | true => rw [if_pos hj] at h; rw [if_pos rfl, ← kids_len]; exact h.2.1
    | false => rw [if_neg (by simp [hj])] at h; rw [if_neg (by simp), ← kids_len]; exact h.2
theorem right_of_canF {S : Sg} {ar : Int → Nat} : ∀ {F : Fo}, CanF S ar F → RightF S ar F
  | .nil, _ => trivial
  | .node _ _ _ _ _, ⟨_, ⟨h1, h2⟩, h3⟩ => ⟨⟨right_of_can1 h1, right_of_canF h2⟩, right_of_canF h3⟩
theorem right_of_can {S : Sg} {ar : Int → Nat} {t : Tn} (h : CanT S ar t) : RightT S ar t := ⟨right_of_can1 h.1, right_of_canF h.2⟩
theorem canonT_twice {S : Sg} {ar : Int → Nat} (hS : S.Ok ar) {t : Tn} (h : RightT S ar t) : canonT S (canonT S t) = canonT S t := canonT_id (canonT_can hS h)
/-- Written alike, just if they are one. -/
theorem same_iff {S : Sg} {ar : Int → Nat} (hS : S.Ok ar) {a b : Tn} (ha : RightT S ar a) (hb : RightT S ar b) : cmpN (canonT S a) (canonT S b) = 0 ↔ canonT S a = canonT S b :=
  ⟨canT_zero (canonT_can hS ha) (canonT_can hS hb), fun e => by rw [e]; have := cmpN_anti (canonT S b) (canonT S b); omega⟩
end Go.Proofs.YtppgmepmegelbaaGreatDoor
