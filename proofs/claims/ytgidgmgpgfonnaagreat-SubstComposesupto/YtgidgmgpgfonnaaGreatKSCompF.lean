import Derived.Test.YtgidgmgpgfonnaaGreatKSAt
/- What Compose leaves, as binds in memory. -/
namespace Go.Proofs.YtgidgmgpgfonnaaGreat
open Go.RowKit Go.Deep

/-- What Compose answered, plainly. -/
structure CompR (sg : List Sym) (as' bs : List Bn) (C : List Bn) (ks ms R : List Bk) (rs : List Kv) : Prop where
  eC : C = R.map bkBn
  len : as'.length = rs.length
  can : ∀ i (h : i < as'.length) (h' : i < rs.length), CanR sg (putN (lkB bs) as'[i].2.1 as'[i].2.2) rs[i].tn
  eks : ks = comp1 as' rs
  ems : ms.map bkBn = bs.filter (fun b => (lkB as' b.1).isNone)
  sd : Sd ltI R
  perm : (ks ++ ms).Perm R
theorem CompEnd.form {sg : List Sym} {as' bs : List Bn} {w : World} {e : Ending} {w' : World} (h : CompEnd sg as' bs w e w') (hfa : ∀ b ∈ as', b.1.size ≤ maxLen) (hfb : ∀ b ∈ bs, b.1.size ≤ maxLen) (hl : as'.length + bs.length ≤ 1048576) :
    ∃ (P : Option Addr) (cc : Nat) (C : List Bn) (ec : Int), e = .returned (.tuple #[.slice P C.length cc, .int .i64 ec]) ∧ Below w.heap.size w w' ∧ BindsAt w' P C.length C ∧ C.length ≤ 1048576 ∧ ((ec = 73 ∧ ∃ b ∈ as', leftN (lkB bs) b.2.1 b.2.2 400 < 0) ∨ (ec = 0 ∧ (∀ b ∈ as', 0 ≤ leftN (lkB bs) b.2.1 b.2.2 400) ∧ ∃ ks ms R rs, CompR sg as' bs C ks ms R rs ∧ ∃ v, v = .slice P C.length cc ∧ SepB w.heap.size w' v R)) := by
  rcases h with ⟨hb, ⟨rfl, h1⟩ | ⟨h0, v, ks, ms, R, rs, rfl, h1, h2, h3, h4, h5, h6, h7⟩⟩
  · exact ⟨none, 0, [], 73, rfl, hb, ⟨rfl, by simp, fun i hi => absurd hi (by simp), fun x hx => by cases hx⟩, by simp, .inl ⟨rfl, h1⟩⟩
  · have hlen : R.length ≤ 1048576 := by
      rw [← h6.1.length_eq, List.length_append, h3]
      have g1 := comp1_len as' rs
      have g2 := congrArg List.length h4
      rw [List.length_map] at g2
      have g3 := List.length_filter_le (fun b : Bn => (lkB as' b.1).isNone) bs
      omega
    have hfit : ∀ b ∈ R.map bkBn, b.1.size ≤ maxLen := fun b hb => by
      obtain ⟨k, hk, rfl⟩ := List.mem_map.1 hb
      have hk2 : k ∈ ks ++ ms := h6.1.mem_iff.2 hk
      rcases List.mem_append.1 hk2 with hk2 | hk2
      · rw [h3] at hk2
        obtain ⟨i, g1, g2, rfl, _⟩ := comp1_mem hk2
        exact hfa as'[i] (List.getElem_mem g1)
      · have hm : bkBn k ∈ bs.filter (fun b => (lkB as' b.1).isNone) := by rw [← h4]; exact List.mem_map_of_mem hk2
        exact hfb _ (List.mem_filter.1 hm).1
    obtain ⟨P, cc, hv, hB⟩ := h7.at_ rfl hfit
    exact ⟨P, cc, R.map bkBn, 0, by rw [hv], hb, hB, by rw [List.length_map]; exact hlen, .inr ⟨rfl, h0, ks, ms, R, rs, ⟨rfl, h1, h2, h3, h4, h5, h6.1⟩, v, hv, h7⟩⟩
end Go.Proofs.YtgidgmgpgfonnaaGreat
