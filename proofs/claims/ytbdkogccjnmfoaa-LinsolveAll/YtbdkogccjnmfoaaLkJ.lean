/- Plain: what the document's walk finds are the minimal solutions, each once. -/
import Derived.Test.YtbdkogccjnmfoaaLkG
namespace Go.Proofs.Ytbdkogccjnmfoaa

def belN (u v : List Nat) : Bool := belV (toI u) (toI v)
def stepF (F : List (List Nat)) (v : List Nat) : List (List Nat) := if F.any (fun u => belN u v) then F else F ++ [v]
/-- The vectors of one side that come to so much, and are so many. -/
def fitY (b : List Int) (Y : List (List Nat)) (m l : Int) : List (List Nat) := (Y.filter (fun y => decide (prodI b (toI y) = m))).filter (fun y => decide (sumI (toI y) = l))
/-- What is tried of one x. -/
def cand (a b : List Int) (Y : List (List Nat)) (s : Int) (x : List Nat) : List (List Nat) := if prodI a (toI x) = 0 then [] else (fitY b Y (prodI a (toI x)) (s - sumI (toI x))).map (fun y => x ++ y)
def vx (a b : List Int) : List (List Nat) := vecsN (grt b).toNat a.length
def vy (a b : List Int) : List (List Nat) := vecsN (grt a).toNat b.length
/-- All of one size. -/
def roundF (a b : List Int) (s : Int) (F : List (List Nat)) : List (List Nat) := ((vx a b).flatMap (cand a b (vy a b) s)).foldl stepF F
/-- All up to a size. -/
def foundF (a b : List Int) : Nat → List (List Nat)
  | 0 => []
  | s + 1 => roundF a b ((s + 1 : Nat) : Int) (foundF a b s)
/-- Found, of those that were tried. -/
structure InvF (a b : List Int) (P : List Nat → Prop) (F : List (List Nat)) : Prop where
  min : ∀ v ∈ F, toI v ∈ ML a b
  all : ∀ v, P v → toI v ∈ ML a b → v ∈ F
  nd : F.Nodup
theorem belN_refl (v : List Nat) : belN v v = true := belV_refl _
theorem InvF.step {a b : List Int} (h0 : chkE a b = 0) {P : List Nat → Prop} {F : List (List Nat)} (h : InvF a b P F) (v : List Nat) (hs : Sol a b (a.length + b.length) (toI v)) (hp : 0 < prodI a (toI v)) (hP : ∀ u, toI u ∈ ML a b → belN u v = true → u ≠ v → P u) : InvF a b (fun u => P u ∨ u = v) (stepF F v) := by
  have hne : ∀ u ∈ F, belN u v = true → toI v ∈ ML a b → u = v := fun u hu hb hm => toI_inj (ml_least h0 (h.min u hu) hm hb)
  unfold stepF
  by_cases hany : F.any (fun u => belN u v) = true
  · rw [if_pos hany]
    obtain ⟨u, hu, hb⟩ := List.any_eq_true.1 hany
    refine ⟨h.min, fun x hx hm => ?_, h.nd⟩
    rcases hx with hx | rfl
    · exact h.all x hx hm
    · rw [← hne u hu hb hm]; exact hu
  · rw [if_neg hany]
    have hno : ∀ u ∈ F, belN u v = false := fun u hu => by
      cases hb : belN u v with
      | false => rfl
      | true => exact absurd (List.any_eq_true.2 ⟨u, hu, hb⟩) hany
    have hvm : toI v ∈ ML a b := by
      obtain ⟨m, hm, hb⟩ := ml_below h0 hs hp
      obtain ⟨u, hu, hmu⟩ : ∃ u, toI u = m ∧ toI u ∈ ML a b := by
        have hm' := hm
        unfold ML at hm'
        obtain ⟨u, _, rfl⟩ := List.mem_map.1 hm'
        exact ⟨u, rfl, hm⟩
      subst hu
      by_cases he : u = v
      · rw [← he]; exact hmu
      · have := hno u (h.all u (hP u hmu hb he) hmu)
        rw [show belN u v = true from hb] at this
        cases this
    refine ⟨fun u hu => ?_, fun x hx hm => ?_, ?_⟩
    · rcases List.mem_append.1 hu with hu | hu
      · exact h.min u hu
      · rw [List.mem_singleton.1 hu]; exact hvm
    · rcases hx with hx | rfl
      · exact List.mem_append_left _ (h.all x hx hm)
      · exact List.mem_append_right _ (List.mem_singleton.2 rfl)
    · refine List.nodup_append.2 ⟨h.nd, by simp, fun u hu w hw e => ?_⟩
      rw [List.mem_singleton.1 hw] at e
      have := hno u hu
      rw [e, belN_refl] at this
      cases this
theorem InvF.fold {a b : List Int} (h0 : chkE a b = 0) : ∀ (C : List (List Nat)) (P : List Nat → Prop) (F : List (List Nat)), InvF a b P F → (∀ v ∈ C, Sol a b (a.length + b.length) (toI v) ∧ 0 < prodI a (toI v) ∧ ∀ u, toI u ∈ ML a b → belN u v = true → u ≠ v → P u) → InvF a b (fun u => P u ∨ u ∈ C) (C.foldl stepF F) := by
  intro C
  induction C with
  | nil =>
    intro P F h _
    exact ⟨h.min, fun v hv hm => h.all v (hv.elim id (fun e => by cases e)) hm, h.nd⟩
  | cons v C ih =>
    intro P F h hC
    obtain ⟨q1, q2, q3⟩ := hC v List.mem_cons_self
    have h1 := ih _ _ (h.step h0 v q1 q2 q3) (fun u hu => ⟨(hC u (List.mem_cons_of_mem _ hu)).1, (hC u (List.mem_cons_of_mem _ hu)).2.1, fun x hx hb hne => .inl ((hC u (List.mem_cons_of_mem _ hu)).2.2 x hx hb hne)⟩)
    rw [List.foldl_cons]
    refine ⟨h1.min, fun x hx hm => h1.all x ?_ hm, h1.nd⟩
    rcases hx with hx | hx
    · exact .inl (.inl hx)
    · rcases List.mem_cons.1 hx with rfl | hx
      · exact .inl (.inr rfl)
      · exact .inr hx
theorem toI_nonneg (l : List Nat) : ∀ x ∈ toI l, 0 ≤ x := fun x hx => by
  unfold toI at hx
  obtain ⟨k, _, rfl⟩ := List.mem_map.1 hx
  omega
theorem sumI_toI (l : List Nat) : sumI (toI l) = ((l.sum : Nat) : Int) := by
  induction l with
  | nil => rfl
  | cons x l ih =>
    show ((x : Int) + sumI (toI l)) = _
    rw [ih, List.sum_cons]
    omega
theorem toI_small {l : List Nat} {M : Nat} (h : l.sum ≤ M) (hM : M ≤ 1048576) : Cnt (toI l) := fun x hx => by
  unfold toI at hx
  obtain ⟨k, hk, rfl⟩ := List.mem_map.1 hx
  have h1 : k ≤ l.sum := by
    clear h hx
    induction l with
    | nil => cases hk
    | cons y l ih =>
      rw [List.sum_cons]
      rcases List.mem_cons.1 hk with rfl | hk
      · omega
      · have := ih hk; omega
  omega
theorem cand_mem {a b : List Int} {s : Int} {v : List Nat} : v ∈ (vx a b).flatMap (cand a b (vy a b) s) ↔ ∃ x y, v = x ++ y ∧ x.length = a.length ∧ y.length = b.length ∧ (x.sum : Int) ≤ grt b ∧ (y.sum : Int) ≤ grt a ∧ prodI a (toI x) = prodI b (toI y) ∧ prodI a (toI x) ≠ 0 ∧ ((x.sum + y.sum : Nat) : Int) = s := by
  have n1 := grt_nonneg a; have n2 := grt_nonneg b
  rw [List.mem_flatMap]
  constructor
  · rintro ⟨x, hx, hv⟩
    unfold cand at hv
    split at hv
    · cases hv
    · next hz =>
      obtain ⟨y, hy, rfl⟩ := List.mem_map.1 hv
      unfold fitY at hy
      obtain ⟨hy1, hy2⟩ := List.mem_filter.1 hy
      obtain ⟨hy3, hy4⟩ := List.mem_filter.1 hy1
      have k1 := (vecs_mem _ _ _).1 hx
      have k2 := (vecs_mem _ _ _).1 hy3
      have k3 := of_decide_eq_true hy2
      have k4 := of_decide_eq_true hy4
      rw [sumI_toI, sumI_toI] at k3
      exact ⟨x, y, rfl, k1.1, k2.1, by omega, by omega, k4.symm, hz, by omega⟩
  · rintro ⟨x, y, rfl, h1, h2, h3, h4, h5, h6, h7⟩
    refine ⟨x, (vecs_mem _ _ _).2 ⟨h1, by omega⟩, ?_⟩
    unfold cand
    rw [if_neg h6]
    refine List.mem_map.2 ⟨y, ?_, rfl⟩
    unfold fitY
    refine List.mem_filter.2 ⟨List.mem_filter.2 ⟨(vecs_mem _ _ _).2 ⟨h2, by omega⟩, decide_eq_true h5.symm⟩, decide_eq_true ?_⟩
    rw [sumI_toI, sumI_toI]
    omega
theorem prodI_left : ∀ (ks x y : List Int), x.length = ks.length → prodI ks (x ++ y) = prodI ks x := by
  intro ks
  induction ks with
  | nil => intro x y h; rw [prodI_nil, prodI_nil]
  | cons k ks ih =>
    intro x y h
    cases x with
    | nil => simp at h
    | cons z x =>
      rw [List.cons_append, prodI, prodI, ih x y (by simpa using h)]
/-- What is tried is a solution. -/
theorem cand_sol {a b : List Int} (h0 : chkE a b = 0) {s : Int} {v : List Nat} (h : v ∈ (vx a b).flatMap (cand a b (vy a b) s)) : Sol a b (a.length + b.length) (toI v) ∧ 0 < prodI a (toI v) ∧ sumI (toI v) = s := by
  obtain ⟨l5, l6, k1, k2⟩ := chk_zero h0
  have g1 := grt_six (coe_of k1); have g2 := grt_six (coe_of k2)
  have n1 := grt_nonneg a; have n2 := grt_nonneg b
  obtain ⟨x, y, rfl, h1, h2, h3, h4, h5, h6, h7⟩ := cand_mem.1 h
  have hc : Cnt (toI (x ++ y)) := toI_small (M := 12) (by rw [List.sum_append]; omega) (by omega)
  have e1 : prodI a (toI (x ++ y)) = prodI a (toI x) := by rw [toI_append]; exact prodI_left a _ _ (by rw [toI_len, h1])
  have e2 : (toI (x ++ y)).drop a.length = toI y := by
    rw [toI_append, List.drop_append_of_le_length (by rw [toI_len]; omega), List.drop_of_length_le (by rw [toI_len]; omega), List.nil_append]
  refine ⟨⟨by rw [toI_len, List.length_append, h1, h2], hc, ?_⟩, ?_, ?_⟩
  · unfold gapOf
    rw [e1, e2, h5]
    omega
  · rw [e1]
    have := fx_S h0 (v := toI (x ++ y)) hc
    rw [e1] at this
    omega
  · rw [sumI_toI, List.sum_append]
    omega
/-- Each minimal one is tried. -/
theorem ml_cand {a b : List Int} (h0 : chkE a b = 0) {v : List Nat} (h : toI v ∈ ML a b) : v ∈ (vx a b).flatMap (cand a b (vy a b) (sumI (toI v))) := by
  have hs := ml_sol h0 h
  have hb := ml_bound h0 h
  have hl : v.length = a.length + b.length := by have := hs.1; rw [toI_len] at this; exact this
  have et : (toI v).take a.length = toI (v.take a.length) := by unfold toI; rw [List.map_take]
  have ed : (toI v).drop a.length = toI (v.drop a.length) := by unfold toI; rw [List.map_drop]
  rw [et, ed, sumI_toI, sumI_toI] at hb
  have hg := hs.2.2
  unfold gapOf at hg
  rw [ed] at hg
  have e1 : prodI a (toI v) = prodI a (toI (v.take a.length)) := by
    conv => lhs; rw [← List.take_append_drop a.length v, toI_append]
    exact prodI_left a _ _ (by rw [toI_len, List.length_take]; omega)
  refine cand_mem.2 ⟨v.take a.length, v.drop a.length, (List.take_append_drop _ _).symm, by rw [List.length_take]; omega, by rw [List.length_drop]; omega, hb.1, hb.2.1, by rw [← e1]; omega, ?_, ?_⟩
  · rw [← e1, fx_S h0 hs.2.1]
    obtain ⟨x, y, hv, m⟩ := (ml_mem h0 _).1 h
    have hp := m.pos
    have : S (pbOf a b).a (fx a (toI v)) (pbOf a b).n = S (pbOf a b).a x (pbOf a b).n := S_ext _ _ (fun i hi => by
      unfold fx
      rw [if_pos (show i < a.length from hi), hv, told_get1 _ _ _ i hi]
      omega)
    omega
  · rw [sumI_toI, ← List.sum_append, List.take_append_drop]
theorem found_inv {a b : List Int} (h0 : chkE a b = 0) : ∀ s : Nat, InvF a b (fun u => sumI (toI u) ≤ (s : Int)) (foundF a b s) := by
  intro s
  induction s with
  | zero =>
    refine ⟨fun v hv => absurd hv List.not_mem_nil, fun v hv hm => ?_, List.nodup_nil⟩
    have hb := ml_bound h0 hm
    have : sumI (toI v) = sumI ((toI v).take a.length) + sumI ((toI v).drop a.length) := by rw [← sumI_append, List.take_append_drop]
    omega
  | succ s ih =>
    have h1 := InvF.fold h0 ((vx a b).flatMap (cand a b (vy a b) ((s + 1 : Nat) : Int))) _ _ ih (fun v hv => by
      obtain ⟨q1, q2, q3⟩ := cand_sol h0 hv
      refine ⟨q1, q2, fun u hu hb hne => ?_⟩
      have hsu := ml_sol h0 hu
      have := sum_below (toI u) (toI v) (hsu.1.trans q1.1.symm) ((belV_iff (hsu.1.trans q1.1.symm)).1 hb) (fun e => hne (toI_inj e))
      omega)
    refine ⟨h1.min, fun v hv hm => h1.all v ?_ hm, h1.nd⟩
    by_cases hle : sumI (toI v) ≤ (s : Int)
    · exact .inl hle
    · right
      have := ml_cand h0 hm
      rw [show sumI (toI v) = ((s + 1 : Nat) : Int) by omega] at this
      exact this
/-- All of them are found. -/
theorem found_all {a b : List Int} (h0 : chkE a b = 0) (G : Nat) (hG : grt a + grt b = (G : Int)) : (foundF a b G).Perm (res (pbOf a b) 13 root) := by
  have hi := found_inv h0 G
  have hm : ∀ v, v ∈ foundF a b G ↔ v ∈ res (pbOf a b) 13 root := fun v => by
    have hml : v ∈ res (pbOf a b) 13 root ↔ toI v ∈ ML a b := by
      unfold ML
      rw [List.mem_map]
      constructor
      · intro h; exact ⟨v, h, rfl⟩
      · rintro ⟨u, hu, e⟩; rw [← toI_inj e]; exact hu
    rw [hml]
    constructor
    · exact hi.min v
    · intro h
      refine hi.all v ?_ h
      have hb := ml_bound h0 h
      have : sumI (toI v) = sumI ((toI v).take a.length) + sumI ((toI v).drop a.length) := by rw [← sumI_append, List.take_append_drop]
      omega
  exact (List.perm_ext_iff_of_nodup hi.nd (search_all (pb_ok h0) (by omega) (by omega)).1).2 hm
theorem step_len (F : List (List Nat)) (v : List Nat) : (stepF F v).length ≤ F.length + 1 := by
  unfold stepF
  split
  · omega
  · simp
end Go.Proofs.Ytbdkogccjnmfoaa
