import Derived.Test.YtgidgmgpgfonnaaGreatKSLawP
/- Lists of binds under way, as binds in memory. -/
namespace Go.Proofs.YtgidgmgpgfonnaaGreat
open Go.RowKit Go.Deep

theorem SepB.at_ {B : Nat} {W : World} {v : Value} {ks : List Bk} {F : List Bn} (h : SepB B W v ks) (hF : ks.map bkBn = F) (hf : ∀ x ∈ F, x.1.size ≤ maxLen) : ∃ P c, v = .slice P F.length c ∧ BindsAt W P F.length F := by
  have hl : F.length = ks.length := by rw [← hF, List.length_map]
  have hfk : ∀ k ∈ ks, k.1.size ≤ maxLen := fun k hk => hf (bkBn k) (by rw [← hF]; exact List.mem_map_of_mem hk)
  rcases h.slice with ⟨rfl, rfl⟩ | ⟨g, cap, rfl⟩
  · have : F = [] := by rw [← hF]; rfl
    subst this
    exact ⟨none, 0, rfl, rfl, by simp, fun i hi => absurd hi (by simp), fun x hx => by cases hx⟩
  · have := h.binds hfk
    rw [hF] at this
    rw [← hl] at this ⊢
    exact ⟨_, cap, rfl, this⟩
theorem LstB.at_ {mk : Bool} {B : Nat} {W : World} {v : Value} {ks : List Bk} {F : List Bn} (h : LstB mk B W v ks) (hF : ks.map bkBn = F) (hf : ∀ x ∈ F, x.1.size ≤ maxLen) : ∃ P c, v = .slice P F.length c ∧ BindsAt W P F.length F := by
  have hl : F.length = ks.length := by rw [← hF, List.length_map]
  rcases h.row.2 with ⟨h1, h2⟩ | ⟨g, cap, cur, h1, _⟩
  · subst h1
    have hk : ks = [] := List.eq_nil_of_length_eq_zero h2
    subst hk
    have : F = [] := by rw [← hF]; rfl
    subst this
    exact ⟨none, 0, rfl, rfl, by simp, fun i hi => absurd hi (by simp), fun x hx => by cases hx⟩
  · subst h1
    have hc := owns_cap h.row
    refine ⟨some ⟨g, 0, none⟩, cap, by rw [hl], rfl, by omega, fun i hi => ?_, hf⟩
    have hi' : i < ks.length := by omega
    refine ⟨g, 0, ks[i].2.a, ks[i].2.c, rfl, ?_⟩
    have h3 := row_bd h.row i hi' (h.own _ (List.getElem_mem hi')).tm
    have e : bkBn ks[i] = F[i] := by simp [← hF]
    rw [e] at h3
    exact h3
end Go.Proofs.YtgidgmgpgfonnaaGreat
