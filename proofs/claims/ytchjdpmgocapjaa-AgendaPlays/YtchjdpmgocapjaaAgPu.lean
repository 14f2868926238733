/- An agenda's Push. -/
import Derived.Test.YtchjdpmgocapjaaAgPk
namespace Go.Proofs.Ytchjdpmgocapjaa
open Go.RowKit Go.Shelf

set_option maxRecDepth 100000 in
theorem push_full {w : World} {A : Nat} {most last : Int} {L : List Th} {F : Nat → Prop} (h : AgAt w A most last L F) (x wt : Int) (hf : most ≤ L.length) : Calls Try.prog 19 #[.pointer (some ⟨A, 0, none⟩), .int .i64 x, .int .i64 wt] w fun e w' => e = .returned (.tuple #[.int .i64 0, .int .i64 111]) ∧ AgEnd w w' A most last L F := by
  have HL := hid (aLen_any h.drew)
  have HE : Hid (AgEnd w w.drew A most last L F) := hid (AgEnd.same h ((Below.refl _ w).drew))
  obtain ⟨es, v, mb, n, D, h1, h2, _⟩ := h
  have c0 : w.drew.cell? ⟨A, 0, none⟩ = some (.int .i64 most) := cell_box h1.box rfl
  clear h1 h2
  go_enter Try.func19, Try.ntmps19
  go_wp2_with fail
  go_region_with ((first
    | (go_at_call 18; refine Calls.mono HL.out ?_; rintro e w3 ⟨rfl, rfl⟩)
    | fail))
  all_goals
    go_wp2_with fail
    go_ret2
    exact ⟨rfl, HE.out⟩
/-- Behind Push: the row has one entry more, the map too. -/
theorem push_end {w W2 w3 w4 : World} {A : Nat} {most last : Int} {es : List En} {v : Value} {mb n : Nat} {D : DataW Value} {L : List Th} {F : Nat → Prop} {e : En} (h1 : AgS w A most last es v mb n D) (h2 : Ab es L last) (hn : (n : Int) ≤ last) (hm : (es.length : Int) < most) (hmm : most ≤ 65536) (f1 : F A) (f2 : F mb) (f3 : ∀ g, v.ownBlock = some g → F g) (f4 : ∀ k (hk : k < es.length), F es[k].b) (f5 : ∀ b, F b → b < w.heap.size)
    (hf2 : Fr (fun b => b = A) w W2) (heb : w.heap.size ≤ e.b) (het : e.tk = last + 1) (box2 : W2.heap[A]? = some (.cells #[.int .i64 most, .int .i64 (last + 1), v, .map (some mb)] 82 (0, 0))) {g cap : Nat} (hQ : QAt w3 g cap (upE (es ++ [e]) es.length)) (hf3 : Fr (fun b => b = A ∨ b = e.b ∨ v.ownBlock = some b ∨ ∃ k, ∃ h : k < es.length, b = es[k].b) W2 w3)
    (hbx : ∀ cs t, W2.heap[A]? = some (.cells cs t (0, 0)) → w3.heap[A]? = some (.cells (cs.setIfInBounds 2 (.slice (some ⟨g, 0, none⟩) (es.length + 1) cap)) t (0, 0))) (hg : v.ownBlock = some g ∨ W2.heap.size ≤ g) (hM : MapAt w4 mb (n + 1) (D.put (keyL (last + 1)) (.held (.pointer (some ⟨e.b, 0, none⟩))))) (hf4 : Fr (fun q => q = mb) w3 w4) :
    AgEnd w w4 A most (last + 1) (L ++ [tri e]) F := by
  have b3 := hbx _ _ box2
  have hup := push_spec h2.heap e
  have hmem : ∀ q, q ∈ upE (es ++ [e]) es.length ↔ q ∈ es ∨ q = e := fun q => by rw [hup.1.mem_iff]; simp
  have hlen : (upE (es ++ [e]) es.length).length = es.length + 1 := by rw [hup.1.length_eq]; simp
  have hin : ∀ q ∈ es, ∃ k, ∃ hk : k < es.length, es[k] = q := fun q hq => by obtain ⟨k, hk, e⟩ := List.getElem_of_mem hq; exact ⟨k, hk, e⟩
  have hsz := hf2.low.size
  have hbe : ∀ k (hk : k < (upE (es ++ [e]) es.length).length), F (upE (es ++ [e]) es.length)[k].b ∨ (upE (es ++ [e]) es.length)[k].b = e.b := fun k hk => by
    rcases (hmem _).1 (List.getElem_mem hk) with h | h
    · obtain ⟨j, hj, ej⟩ := hin _ h
      rw [← ej]
      exact .inl (f4 j hj)
    · rw [h]
      exact .inr rfl
  have hmb := f5 _ f2
  have gmb : g ≠ mb := fun hx => by
    rcases hg with h | h
    · exact h1.v_mb (by rw [h, hx])
    · omega
  have ab := h2.push e het (by omega)
  have htk : ∀ q ∈ es, q.tk ≠ last + 1 := fun q hq => by
    have := (h2.tks _ (h2.perm.subset (List.mem_map.2 ⟨q, hq, rfl⟩))).2
    show (tri q).tk ≠ _
    omega
  have hS : AgS w4 A most (last + 1) (upE (es ++ [e]) es.length) (.slice (some ⟨g, 0, none⟩) (es.length + 1) cap) mb (n + 1) (D.put (keyL (last + 1)) (.held (.pointer (some ⟨e.b, 0, none⟩)))) := by
    refine ⟨(hf4.same A (Array.getElem?_eq_some_iff.1 b3).1 h1.mb_A).trans b3, .inr ⟨g, cap, by rw [hlen], hQ.fr hf4 gmb (fun k hk hx => ?_)⟩, hM, fun q hq => ?_, fun t ht => ?_⟩
    · rcases (hmem _).1 (List.getElem_mem hk) with h | h
      · obtain ⟨j, hj, ej⟩ := hin _ h
        rw [← ej] at hx
        exact h1.mb_e j hj hx
      · rw [h] at hx
        omega
    · rw [look_put (MapAt.is h1.map)]
      rcases (hmem q).1 hq with h | h
      · rw [if_neg (htk q h)]
        exact h1.here q h
      · rw [h, if_pos het]
    · rw [look_put (MapAt.is h1.map), if_neg]
      · exact h1.gone t (fun q hq => ht q ((hmem q).2 (.inl hq)))
      · intro hx
        exact ht e ((hmem e).2 (.inr rfl)) (by rw [het, hx])
  have hsz3 : w.heap.size ≤ w3.heap.size := Nat.le_trans hsz hf3.low.size
  refine ⟨fun b => F b ∨ b = e.b ∨ b = g, ⟨_, _, mb, n + 1, _, hS, ab, by omega, by rw [hlen]; omega, hmm, .inl f1, .inl f2, fun b hb => .inr (.inr (Option.some.inj hb).symm), fun k hk => (hbe k hk).imp id .inl, fun b hb => ?_⟩, ?_, fun b hb => ?_⟩
  · refine Nat.lt_of_lt_of_le ?_ hf4.low.size
    rcases hb with h | h | h
    · have := f5 b h; omega
    · obtain ⟨k, hk, ek⟩ := List.getElem_of_mem ((hmem e).2 (.inr rfl))
      have := (Array.getElem?_eq_some_iff.1 (hQ.ents k hk)).1
      rw [ek] at this
      omega
    · obtain ⟨cs, hc, _⟩ := hQ.row
      have := (Array.getElem?_eq_some_iff.1 hc).1
      omega
  · refine ⟨(hf2.low.trans hf3.low).trans hf4.low, fun k hk hF => ?_⟩
    have hkA : k ≠ A := fun hx => hF (by rw [hx]; exact f1)
    refine (hf4.same k (by omega) (fun hx => hF (by rw [hx]; exact f2))).trans ((hf3.same k (by omega) (fun hx => ?_)).trans (hf2.same k hk hkA))
    rcases hx with hx | hx | hx | ⟨j, hj, hx⟩
    · exact hkA hx
    · omega
    · exact hF (f3 k hx)
    · exact hF (by rw [hx]; exact f4 j hj)
  · rcases hb with h | h | h
    · exact .inl h
    · exact .inr (by omega)
    · rcases hg with h' | h'
      · exact .inl (f3 b (by rw [h', h]))
      · exact .inr (by omega)
end Go.Proofs.Ytchjdpmgocapjaa
