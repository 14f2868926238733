/- What is put in is told there; what is told, put in, makes the term again; how many nodes there are then. -/
import Derived.Test.YtppgmepmegelbaaGreatDoorTPath
namespace Go.Proofs.YtppgmepmegelbaaGreatDoor
open Go.RowKit Go.Deep

theorem kids_set : ∀ (n : Nat) (F : Fo) (t : Tn), n < lenF F → (kidsL (setF n F t))[n]? = some t
  | n, .nil, _, h => by simp [lenF] at h
  | 0, .node _ _ _ _ _, t, _ => by simp [setF, kidsL]
  | n + 1, .node _ _ _ _ r, t, h => by
    simp only [setF, kidsL, List.getElem?_cons_succ]
    exact kids_set n r t (by simp only [lenF] at h; omega)
theorem set_same : ∀ (n : Nat) (F : Fo) (t : Tn), (kidsL F)[n]? = some t → setF n F t = F
  | n, .nil, _, h => by simp [kidsL] at h
  | 0, .node _ _ _ _ _, t, h => by
    simp only [kidsL, List.getElem?_cons_zero, Option.some.injEq] at h
    subst h
    rfl
  | n + 1, .node _ _ _ _ r, t, h => by
    simp only [kidsL, List.getElem?_cons_succ] at h
    simp only [setF]
    rw [set_same n r t h]
theorem nodes_set : ∀ (n : Nat) (F : Fo) (t u : Tn), (kidsL F)[n]? = some t → nodesF (setF n F u) + nodesF t.2 = nodesF F + nodesF u.2
  | n, .nil, _, _, h => by simp [kidsL] at h
  | 0, .node _ _ _ l r, t, u, h => by
    simp only [kidsL, List.getElem?_cons_zero, Option.some.injEq] at h
    subst h
    simp only [setF, nodesF]
    omega
  | n + 1, .node _ _ _ _ r, t, u, h => by
    simp only [kidsL, List.getElem?_cons_succ] at h
    have := nodes_set n r t u h
    simp only [setF, nodesF]
    omega
theorem kidT_get {i : Int} {l : Fo} {k : Tn} (h : kidT i l = some k) : (0 ≤ i ∧ i < lenF l) ∧ (kidsL l)[i.toNat]? = some k := by
  unfold kidT at h
  split at h
  · exact ⟨by assumption, h⟩
  · cases h
theorem kidT_set {i : Int} {l : Fo} {k : Tn} (u : Tn) (h : kidT i l = some k) : kidT i (setF i.toNat l u) = some u := by
  obtain ⟨⟨h0, h1⟩, _⟩ := kidT_get h
  unfold kidT
  rw [len_set, if_pos ⟨h0, h1⟩]
  exact kids_set _ _ _ (by omega)
theorem put_some (u : Tn) : ∀ (ps : List Int) (t x : Tn), subT ps t = some x → ∃ y, putT u ps t = some y
  | [], _, _, _ => ⟨u, rfl⟩
  | i :: p, t, x, h => by
    simp only [subT] at h
    cases hk : kidT i t.2 with
    | none => rw [hk] at h; cases h
    | some k =>
      rw [hk] at h
      obtain ⟨y, hy⟩ := put_some u p k x h
      exact ⟨(t.1, setF i.toNat t.2 y), by simp only [putT, hk, hy]⟩
theorem back_at (u : Tn) : ∀ (ps : List Int) (t y : Tn), putT u ps t = some y → subT ps y = some u
  | [], _, _, h => by simp only [putT] at h; rw [subT, ← h]
  | i :: p, t, y, h => by
    simp only [putT] at h
    cases hk : kidT i t.2 with
    | none => rw [hk] at h; cases h
    | some k =>
      rw [hk] at h
      dsimp only at h
      cases hp : putT u p k with
      | none => rw [hp] at h; cases h
      | some k' =>
        rw [hp] at h
        simp only [Option.some.injEq] at h
        subst h
        simp only [subT, kidT_set k' hk]
        exact back_at u p k k' hp
theorem back_put : ∀ (ps : List Int) (t x : Tn), subT ps t = some x → putT x ps t = some t
  | [], _, _, h => by simp only [subT] at h; rw [putT, h]
  | i :: p, t, x, h => by
    simp only [subT] at h
    cases hk : kidT i t.2 with
    | none => rw [hk] at h; cases h
    | some k =>
      rw [hk] at h
      simp only [putT, hk, back_put p k x h]
      rw [set_same _ _ _ (kidT_get hk).2]
theorem back_size (u : Tn) : ∀ (ps : List Int) (t x y : Tn), subT ps t = some x → putT u ps t = some y → nodesF y.2 + nodesF x.2 = nodesF t.2 + nodesF u.2
  | [], _, _, _, h, h2 => by
    simp only [subT, Option.some.injEq] at h
    simp only [putT, Option.some.injEq] at h2
    subst h h2
    omega
  | i :: p, t, x, y, h, h2 => by
    simp only [subT] at h
    simp only [putT] at h2
    cases hk : kidT i t.2 with
    | none => rw [hk] at h; cases h
    | some k =>
      rw [hk] at h h2
      dsimp only at h2
      cases hp : putT u p k with
      | none => rw [hp] at h2; cases h2
      | some k' =>
        rw [hp] at h2
        simp only [Option.some.injEq] at h2
        subst h2
        have h3 := back_size u p k x k' h hp
        have h4 := nodes_set _ _ _ k' (kidT_get hk).2
        show nodesF (setF i.toNat t.2 k') + nodesF x.2 = nodesF t.2 + nodesF u.2
        omega

end Go.Proofs.YtppgmepmegelbaaGreatDoor
