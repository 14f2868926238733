/- An agenda's Push, where there is room. -/
import Derived.Test.YtchjdpmgocapjaaAgPu
namespace Go.Proofs.Ytchjdpmgocapjaa
open Go.RowKit Go.Shelf

set_option maxRecDepth 100000 in
set_option maxHeartbeats 4000000 in
theorem push_more {w : World} {A : Nat} {most last : Int} {L : List Th} {F : Nat → Prop} (h : AgAt w A most last L F) (x wt : Int) (hf : (L.length : Int) < most) (hl : last < 9223372036854775807) : Calls Try.prog 19 #[.pointer (some ⟨A, 0, none⟩), .int .i64 x, .int .i64 wt] w fun e w' => e = .returned (.tuple #[.int .i64 (last + 1), .int .i64 0]) ∧ AgEnd w w' A most (last + 1) (L ++ [⟨x, wt, last + 1⟩]) F := by
  have HL := hid (aLen_any h.drew)
  obtain ⟨es, v, mb, n, D, h1, h2, h3, h4, h5, f1, f2, f3, f4, f5⟩ := h
  have hlen := h2.len
  have c0 : w.drew.cell? ⟨A, 0, none⟩ = some (.int .i64 most) := cell_box h1.box rfl
  have hb0 : w.drew.heap[A]? = some (.cells #[.int .i64 most, .int .i64 last, v, .map (some mb)] 82 (0, 0)) := h1.box
  have fd : Fr (fun b => b = A) w w.drew := (Fr.refl _ w).drew
  have hszd : w.drew.heap.size = w.heap.size := rfl
  have h0 : 0 ≤ last := by omega
  have hcond : ((most : Int) ≤ (L.length : Int)) = False := by simp; omega
  have HH1 := hid h1; have HH2 := hid h2
  have HF3 := hid f3; have HF4 := hid f4; have HF5 := hid f5
  clear f3 f4 f5 h2 h1
  go_enter Try.func19, Try.ntmps19
  go_wp2_with fail
  go_region_with ((first
    | (go_at_call 18; refine Calls.mono HL.out ?_; rintro e w3 ⟨rfl, rfl⟩)
    | fail))
  all_goals
    generalize hw0 : w.drew = w0 at *
    have HW0 := hid hw0
    have c1 : w0.cell? ⟨A, 1, none⟩ = some (.int .i64 last) := cell_box hb0 rfl
    have g1 : w0.frozen? ⟨A, 1, none⟩ = false := free_box hb0
    have hb1 := block_set (k := 1) hb0 (.int .i64 (last + 1))
    have c2 : (w0.setCell ⟨A, 1, none⟩ (.int .i64 (last + 1))).cell? ⟨A, 1, none⟩ = some (.int .i64 (last + 1)) := cell_box hb1 rfl
    have fr1 : Fr (fun b => b = A) w (w0.setCell ⟨A, 1, none⟩ (.int .i64 (last + 1))) := fd.trans (fr_set _ _ _ _)
    have sz1 : (w0.setCell ⟨A, 1, none⟩ (.int .i64 (last + 1))).heap.size = w.heap.size := by rw [← hszd]; simp
    have b2 := alloc_below0 (w0.setCell ⟨A, 1, none⟩ (.int .i64 (last + 1))) (.cells #[.int .i64 x, .int .i64 wt, .int .i64 (last + 1), .int .i64 0] 88)
    have n2 := World.alloc_heap_new (w0.setCell ⟨A, 1, none⟩ (.int .i64 (last + 1))) (.cells #[.int .i64 x, .int .i64 wt, .int .i64 (last + 1), .int .i64 0] 88)
    rw [sz1] at n2
    have fr2 := fr1.trans (Fr.of_below b2)
    have hb2 := below_blk b2 hb1
    have S2 := HH1.out
    have hv2 := S2.q.fr fr2 (fun g hg hx => S2.v_A (by rw [hg, hx])) (fun k hk hx => S2.A_e k hk hx)
    have lts : ∀ k (hk : k < es.length), es[k].b < w.heap.size := fun k hk => (Array.getElem?_eq_some_iff.1 (S2.q.ents k hk)).1
    have hvl : ∀ g, v.ownBlock = some g → g < w.heap.size := fun g hg => by obtain ⟨cs, hc⟩ := S2.q.row hg; exact (Array.getElem?_eq_some_iff.1 hc).1
    have hAl : A < w.heap.size := (Array.getElem?_eq_some_iff.1 S2.box).1
    have HP := hid (hpush_any A v es ⟨w.heap.size, x, wt, last + 1⟩ 0 ((w0.setCell ⟨A, 1, none⟩ (.int .i64 (last + 1))).alloc (.cells #[.int .i64 x, .int .i64 wt, .int .i64 (last + 1), .int .i64 0] 88)) (cell_box hb2 rfl) (free_box hb2) hv2 n2 (by omega) (fun k hk hx => by have h9 := lts k hk; have h8 : es[k].b = w.heap.size := hx; omega) (fun hx => by have h9 : w.heap.size < w.heap.size := hvl _ hx; omega) S2.v_A (fun hx => by have h8 : A = w.heap.size := hx; omega) (fun k hk => S2.A_e k hk))
    have HFR2 := hid fr2; have HB2 := hid hb2; have HSZ := hid sz1; have HMP := hid (MapAt.fr S2.map fr2 (fun hx => S2.mb_A hx.symm))
    have hwb : w0.heap.size = w.heap.size := hszd
    have HLN := hid hlen; have HAL := hid hAl
    clear b2 n2 fr1 fr2 hb2 hb1 S2 hv2 lts hvl hAl sz1 fd hb0 hlen
    go_wp2_with fail
    refine HP.out.mono ?_
    rintro r w3 ⟨⟨u3, rfl⟩, g, cap, hQ, hgA, hA3, hf3, hbx, hg⟩
    have b3 := hbx _ _ HB2.out
    have k3 : w3.drew.cell? ⟨A, 3, none⟩ = some (.map (some mb)) := cell_box b3 rfl
    have hmem := (push_spec HH2.out.heap ⟨w.heap.size, x, wt, last + 1⟩).1.mem_iff.2 (show (⟨w.heap.size, x, wt, last + 1⟩ : En) ∈ es ++ [⟨w.heap.size, x, wt, last + 1⟩] by simp)
    obtain ⟨kk, hkk, ekk⟩ := List.getElem_of_mem hmem
    have hE3 := hQ.ents kk hkk
    rw [ekk] at hE3
    have k4 : w3.drew.cell? ⟨w.heap.size, 2, none⟩ = some (.int .i64 (last + 1)) := cell_box hE3 rfl
    have hM3 := MapAt.fr HMP.out hf3 (fun hx => by
      rcases hx with hx | hx | hx | ⟨j, hj, hx⟩
      · exact HH1.out.mb_A hx.symm
      · have h9 := HF5.out _ f2; have h8 : mb = w.heap.size := hx; omega
      · exact HH1.out.v_mb hx
      · exact HH1.out.mb_e j hj hx.symm)
    have hM4 : MapAt w3.drew mb n D := hM3
    obtain ⟨w4, hr4, hM5, hf4⟩ := put_run hM4 (by unfold maxLen; omega) (t := last + 1) (by unfold Is64; omega) (.pointer (some ⟨w.heap.size, 0, none⟩))
    have k5 : w4.cell? ⟨w.heap.size, 2, none⟩ = some (.int .i64 (last + 1)) := hf4.cell k4 (fun hx => by have h9 := HF5.out _ f2; have h8 : w.heap.size = mb := hx; omega)
    have HEND := hid (push_end (e := ⟨w.heap.size, x, wt, last + 1⟩) HH1.out HH2.out h3 (by rw [HLN.out]; exact hf) h5 f1 f2 HF3.out HF4.out HF5.out HFR2.out (Nat.le_refl _) rfl HB2.out hQ hf3 hbx (hg.imp id (fun h => h)) hM5 ((Fr.refl _ w3).drew.trans hf4))
    clear hQ hgA hA3 hf3 hbx hg b3 hmem ekk hE3 hM3 hM4 hM5 hf4
    go_wp2_with fail
    go_region_with ((first
      | fail))
    all_goals
      go_wp2_with fail
      go_ret2
      exact ⟨rfl, HEND.out⟩
end Go.Proofs.Ytchjdpmgocapjaa
