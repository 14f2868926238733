/- All things of an agenda as they come out. -/
import Derived.Test.YtchjdpmgocapjaaAgR
namespace Go.Proofs.Ytchjdpmgocapjaa

theorem nx_cond {L : List Th} : nxI L < L.length ↔ L ≠ [] := ⟨fun h e => by subst e; simp at h, nx_lt⟩
/-- All things as they come out. -/
def allN : Nat → List Th → List Th
  | 0, _ => []
  | n + 1, L => if h : nxI L < L.length then L[nxI L] :: allN n (L.eraseIdx (nxI L)) else []
def allL (L : List Th) : List Th := allN L.length L
theorem rise_erase {L : List Th} (h : Rise L) (k : Nat) : Rise (L.eraseIdx k) := List.Pairwise.sublist (List.eraseIdx_sublist _ _) h
theorem eraseT_perm : ∀ (L : List Th) (i : Nat) (hi : i < L.length), (L[i] :: L.eraseIdx i).Perm L
  | e :: r, 0, _ => List.Perm.refl _
  | e :: r, i + 1, hi => by
    have h := eraseT_perm r i (by simpa using hi)
    simp only [List.getElem_cons_succ, List.eraseIdx_cons_succ]
    exact (List.Perm.swap _ _ _).trans (h.cons e)
theorem lessT_trans {a b c : Th} (h1 : lessT a b) (h2 : lessT b c) : lessT a c := by unfold lessT at *; omega
theorem nx_ahead {L : List Th} (hR : Rise L) (hn : nxI L < L.length) : ∀ b ∈ L.eraseIdx (nxI L), lessT L[nxI L] b := fun b hb => by
  have hnx := nx_is L (nx_cond.1 hn)
  obtain ⟨k, hk, rfl⟩ := List.getElem_of_mem hb
  rw [List.length_eraseIdx, if_pos hn] at hk
  rw [List.getElem_eraseIdx]
  split
  · exact nx_less hR hnx k _ (by omega)
  · exact nx_less hR hnx (k + 1) _ (by omega)
theorem all_spec : ∀ (n : Nat) (L : List Th), L.length = n → Rise L → (allN n L).Perm L ∧ (allN n L).Pairwise lessT
  | 0, L, h, _ => by
    have : L = [] := List.length_eq_zero_iff.1 h
    subst this
    exact ⟨List.Perm.refl _, List.Pairwise.nil⟩
  | n + 1, L, h, hR => by
    have hn : nxI L < L.length := nx_lt (fun e => by rw [e] at h; simp at h)
    obtain ⟨p, s⟩ := all_spec n (L.eraseIdx (nxI L)) (by rw [List.length_eraseIdx, if_pos hn]; omega) (rise_erase hR _)
    unfold allN
    rw [dif_pos hn]
    refine ⟨(p.cons _).trans (eraseT_perm L _ hn), List.pairwise_cons.2 ⟨fun b hb => ?_, s⟩⟩
    exact nx_ahead hR hn b (p.subset hb)
theorem sorted_one {A B : List Th} (ha : A.Pairwise lessT) (hb : B.Pairwise lessT) (h : A.Perm B) : A = B := by
  refine List.Perm.eq_of_pairwise (le := lessT) ?_ ha hb h
  intro a b _ _ h1 h2
  unfold lessT at h1 h2
  omega
theorem all_one {L : List Th} (hR : Rise L) {A : List Th} (ha : A.Pairwise lessT) (h : A.Perm L) : A = allL L := by
  obtain ⟨p, s⟩ := all_spec L.length L rfl hR
  exact sorted_one ha s (h.trans p.symm)
theorem all_step {L : List Th} (hn : nxI L < L.length) : allL L = L[nxI L] :: allL (L.eraseIdx (nxI L)) := by
  unfold allL
  rw [show (L.eraseIdx (nxI L)).length = L.length - 1 by rw [List.length_eraseIdx, if_pos hn]]
  obtain ⟨m, hm⟩ : ∃ m, L.length = m + 1 := ⟨L.length - 1, by omega⟩
  rw [hm]
  have e : allN (m + 1) L = L[nxI L] :: allN m (L.eraseIdx (nxI L)) := by
    rw [allN, dif_pos hn]
  rw [e]
  simp
theorem all_len (L : List Th) (hR : Rise L) : (allL L).length = L.length := (all_spec L.length L rfl hR).1.length_eq
end Go.Proofs.Ytchjdpmgocapjaa
