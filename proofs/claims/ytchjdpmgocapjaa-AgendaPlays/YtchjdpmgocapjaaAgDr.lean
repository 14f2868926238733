/- An agenda's Drop. -/
import Derived.Test.YtchjdpmgocapjaaAgPv
namespace Go.Proofs.Ytchjdpmgocapjaa
open Go.RowKit Go.Shelf

/-- Behind Drop: the row has one entry less, the map too. -/
theorem drop_end {w w3 w4 : World} {A : Nat} {most last : Int} {es : List En} {g cap : Nat} {mb n : Nat} {D : DataW Value} {L : List Th} {F : Nat → Prop} {i m : Nat} (h1 : AgS w A most last es (.slice (some ⟨g, 0, none⟩) es.length cap) mb n D) (h2 : Ab es L last) (hn : (n : Int) ≤ last) (hm : (es.length : Int) ≤ most) (hmm : most ≤ 65536) (f1 : F A) (f2 : F mb) (f3 : F g) (f4 : ∀ k (hk : k < es.length), F es[k].b) (f5 : ∀ b, F b → b < w.heap.size)
    (hi : i < es.length) (hl : es.length = m + 1) (hQ : QAt w3 g cap (outE es i m hi (by omega)).dropLast) (hf3 : Fr (fun b => b = A ∨ b = g ∨ ∃ k, ∃ h : k < es.length, b = es[k].b) w w3)
    (hbx : ∀ cs t, w.heap[A]? = some (.cells cs t (0, 0)) → w3.heap[A]? = some (.cells (cs.setIfInBounds 2 (.slice (some ⟨g, 0, none⟩) m cap)) t (0, 0))) (hM : MapAt w4 mb n (D.del (keyL es[i].tk))) (hf4 : Fr (fun q => q = mb) w3 w4) :
    AgEnd w w4 A most last (dropT L es[i].tk) F := by
  have b3 := hbx _ _ h1.box
  obtain ⟨o1, o2, o3⟩ := out_spec hi hl h2.heap
  have ab := h2.drop hi hl
  generalize hes : (outE es i m hi (by omega)).dropLast = es' at *
  have hmem : ∀ q, q ∈ es' → ∃ k, ∃ hk : k < es.length, es[k] = q ∧ k ≠ i := fun q hq => by
    have h9 := o1.mem_iff.1 hq
    obtain ⟨k, hk, e⟩ := List.getElem_of_mem h9
    rw [List.length_eraseIdx, if_pos hi] at hk
    rw [List.getElem_eraseIdx] at e
    split at e
    · exact ⟨k, by omega, e, by omega⟩
    · exact ⟨k + 1, by omega, e, by omega⟩
  have hmem2 : ∀ k (hk : k < es.length), k ≠ i → es[k] ∈ es' := fun k hk hki => by
    refine o1.mem_iff.2 ?_
    have h9 := (erase_perm es i hi).mem_iff.2 (List.getElem_mem hk)
    rcases List.mem_cons.1 h9 with h | h
    · exact absurd (h2.tk_inj hk hi (by rw [h])) hki
    · exact h
  have hS : AgS w4 A most last es' (.slice (some ⟨g, 0, none⟩) m cap) mb n (D.del (keyL es[i].tk)) := by
    refine ⟨(hf4.same A (Array.getElem?_eq_some_iff.1 b3).1 h1.mb_A).trans b3, .inr ⟨g, cap, by rw [o3], hQ.fr hf4 (fun hx => h1.v_mb (by rw [← hx]; rfl)) (fun k hk hx => ?_)⟩, hM, fun q hq => ?_, fun t ht => ?_⟩
    · obtain ⟨j, hj, ej, _⟩ := hmem _ (List.getElem_mem hk)
      rw [← ej] at hx
      exact h1.mb_e j hj hx
    · obtain ⟨j, hj, ej, hne⟩ := hmem q hq
      rw [look_del, if_neg (fun hx => hne (h2.tk_inj hj hi (by rw [ej]; exact hx)))]
      rw [← ej]
      exact h1.here _ (List.getElem_mem hj)
    · rw [look_del]
      by_cases htt : t = es[i].tk
      · rw [if_pos htt]
      · rw [if_neg htt]
        refine h1.gone t (fun q hq hx => ?_)
        obtain ⟨k, hk, ek⟩ := List.getElem_of_mem hq
        by_cases hki : k = i
        · subst hki
          rw [ek] at htt
          exact htt hx.symm
        · exact ht q (by rw [← ek]; exact hmem2 k hk hki) hx
  have s3 := hf3.low.size
  have s4 := hf4.low.size
  refine ⟨F, ⟨_, _, mb, n, _, hS, ab, hn, by omega, hmm, f1, f2, fun b hb => by rw [← Option.some.inj hb]; exact f3, fun k hk => ?_, fun b hb => ?_⟩, ⟨hf3.low.trans hf4.low, fun k hk hF => ?_⟩, fun b hb => .inl hb⟩
  · obtain ⟨j, hj, ej, _⟩ := hmem _ (List.getElem_mem hk)
    rw [← ej]
    exact f4 j hj
  · have := f5 b hb; omega
  · refine (hf4.same k (by omega) (fun hx => hF (by rw [hx]; exact f2))).trans (hf3.same k hk (fun hx => ?_))
    rcases hx with hx | hx | ⟨j, hj, hx⟩
    · exact hF (by rw [hx]; exact f1)
    · exact hF (by rw [hx]; exact f3)
    · exact hF (by rw [hx]; exact f4 j hj)
set_option maxRecDepth 100000 in
set_option maxHeartbeats 4000000 in
theorem drop_any {w : World} {A : Nat} {most last : Int} {L : List Th} {F : Nat → Prop} (h : AgAt w A most last L F) (t : Int) (ht : Is64 t) : Calls Try.prog 22 #[.pointer (some ⟨A, 0, none⟩), .int .i64 t] w fun e w' => e = .returned (.bool (hasT L t)) ∧ AgEnd w w' A most last (dropT L t) F := by
  have HE : Hid (AgEnd w w A most last L F) := hid (AgEnd.same h (Below.refl _ w))
  obtain ⟨es, v, mb, n, D, h1, h2, h3, h4, h5, f1, f2, f3, f4, f5⟩ := h
  have k3 : w.cell? ⟨A, 3, none⟩ = some (.map (some mb)) := cell_box h1.box rfl
  have hlk := look_run h1.map ht
  by_cases hin : hasT L t = true
  · obtain ⟨i, hi, rfl⟩ := (h2.has t).2 (hasT_iff.1 hin)
    rw [hin]
    rw [h1.here _ (List.getElem_mem hi)] at hlk
    have hE := h1.q.ents i hi
    rcases h1.q with ⟨_, rfl⟩ | ⟨g, cap, rfl, hQ⟩
    · simp at hi
    · obtain ⟨m, hl⟩ : ∃ m, es.length = m + 1 := ⟨es.length - 1, by omega⟩
      have a3 : w.drew.cell? ⟨es[i].b, 3, none⟩ = some (.int .i64 i) := cell_box hE rfl
      have hbd : w.drew.heap[A]? = some (.cells #[.int .i64 most, .int .i64 last, .slice (some ⟨g, 0, none⟩) es.length cap, .map (some mb)] 82 (0, 0)) := h1.box
      have HRM := hid (remove_any A g cap es m hl w.drew (cell_box hbd rfl) (free_box hbd) hQ.drew (by omega) i hi (fun hx => h1.v_A (by rw [hx]; rfl)) (fun k hk => h1.A_e k hk))
      have hml : m < es.length := by omega
      obtain ⟨R, hR⟩ : ∃ R, (outE es i m hi hml).dropLast = R := ⟨_, rfl⟩
      rw [hR] at HRM
      have HRR := hid hR
      have HS := hid h1; have HAB := hid h2; have HLL := hid hl
      have HF4 := hid f4; have HF5 := hid f5
      have f3' := f3 g rfl
      obtain ⟨T, hT⟩ : ∃ T, es[i].tk = T := ⟨_, rfl⟩
      obtain ⟨eb, heb⟩ : ∃ q, es[i].b = q := ⟨_, rfl⟩
      have HTT := hid hT
      rw [hT] at hlk ht ⊢
      rw [heb] at hlk a3
      have hlk2 : (Instr.lookup 78 (.map (some mb)) (.int .i64 T) true).run Try.prog w = .ok (.tuple #[.pointer (some ⟨eb, 0, none⟩), .bool true]) w := hlk
      clear h1 h2 hE hQ f4 f5 f3 hlk hbd hR hT heb hl
      go_enter Try.func22, Try.ntmps22
      go_wp2_with fail
      go_region_with ((first
        | (go_at_call 32; refine Calls.mono HRM.out ?_; rintro r w3 ⟨⟨u3, rfl⟩, hQ3, hA3, hf3, hbx⟩; have HQ3 := hid hQ3; have HF3 := hid hf3; have HBX := hid hbx; clear hQ3 hA3 hf3 hbx)
        | fail))
      all_goals
        have b3 := HBX.out _ _ HS.out.box
        have m3 : w3.cell? ⟨A, 3, none⟩ = some (.map (some mb)) := cell_box b3 rfl
        have hfr : Fr (fun b => b = A ∨ b = g ∨ ∃ k, ∃ h : k < es.length, b = es[k].b) w w3 := ((Fr.refl _ w).drew).trans HF3.out
        have hM3 := MapAt.fr HS.out.map hfr (fun hx => by
          rcases hx with hx | hx | ⟨j, hj, hx⟩
          · exact HS.out.mb_A hx.symm
          · exact HS.out.v_mb (by rw [hx]; rfl)
          · exact HS.out.mb_e j hj hx.symm)
        obtain ⟨w4, hr4, hM4, hf4⟩ := del_run hM3 ht 0
        have HEND := hid (drop_end HS.out HAB.out h3 h4 h5 f1 f2 f3' HF4.out HF5.out hi HLL.out (by have h9 := HQ3.out; rw [← HRR.out] at h9; exact h9) hfr HBX.out (by rw [HTT.out]; exact hM4) hf4)
        rw [HTT.out] at HEND
        clear b3 hfr hM3 hM4 hf4
        go_wp2_with fail
        go_ret
        exact ⟨rfl, HEND.out⟩
  · rw [Bool.not_eq_true] at hin
    rw [hin, drop_none hin]
    rw [h1.gone t (fun e he hx => by
      have := hasT_iff.2 ((h2.has t).1 (by obtain ⟨k, hk, ek⟩ := List.getElem_of_mem he; exact ⟨k, hk, by rw [ek]; exact hx⟩))
      rw [hin] at this; cases this)] at hlk
    have hlk2 : (Instr.lookup 78 (.map (some mb)) (.int .i64 t) true).run Try.prog w = .ok (.tuple #[.pointer none, .bool false]) w := hlk
    clear h1 h2 hlk f3 f4 f5
    go_enter Try.func22, Try.ntmps22
    go_wp2_with fail
    go_ret
    exact ⟨rfl, HE.out⟩
end Go.Proofs.Ytchjdpmgocapjaa
