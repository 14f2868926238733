import Derived.Test.YtfnfbljijkjkjaaGreatKSpA
/- The statements' head: the program is there. -/
namespace Go.Proofs.YtfnfbljijkjkjaaGreat
open Go.RowKit Go.Deep

theorem one_head : oneP someL ((bX, 0), .nil) ((noS, 0), .nil) = setW bX ((noS, 0), .nil) := by kernel_rfl
set_option maxRecDepth 100000 in
set_option maxHeartbeats 4000000 in
theorem head_ok : HeadOk := by
  intro w
  have H18 := hid fun W => some_any W
  go_enter Tryz.func5, Tryz.ntmps5
  go_wp2_with (first
    | (go_at_call 17; (with_reducible refine (H18.out _).mono ?_); rintro e w1 ⟨g1, rfl, hs1, hb1⟩; first
        | (have HB3 := hid (HB2.out.trans (hb1.mono HB2.out.size)); have HS3 := hid hs1; have HY3 := hid (HY2.out.below hb1); clear hs1 hb1)
        | (have HB1 := hid hb1; have HS1 := hid hs1; clear hs1 hb1))
    | (go_at_call 9; refine (one_any _ 5 5 someL ((bX, 0), .nil) ((noS, 0), .nil) none none 0 0 _ HS1.out (kX_at _) (zT_at _) (by simp [nodesF]) (by simp [nodesF])).mono ?_; rw [one_head]; rintro e w2 ⟨⟨v, rfl, hv⟩, hb2⟩; obtain ⟨⟨⟨tn, ts⟩, tl, ta, tc⟩, ks, la, lc, rfl, htk, hy1, hy2, hy3⟩ := hv.is; clear hy1 hy2 hy3; have e1 : (tn, ts) = (noS, (0 : Int)) := congrArg Prod.fst htk; have e2 : tl = .nil := congrArg Prod.snd htk; cases e1; subst e2; have hb2' := hb2.trans ((alloc_below0 w2 (.cells (wayC 3 bX (noS, 0) ta (lenF .nil) tc la 0 lc 0) 41)).mono hb2.size); have HB2 := hid (HB1.out.trans (hb2'.mono HB1.out.size)); have HY2 := hid (Box.new w2 41 (wayC 3 bX (noS, 0) ta (lenF .nil) tc la 0 lc 0)); clear hv htk hb2 hb2'; simp only [setW, List.length_nil]; unfold wayC at *))
  have hb4 := alloc_below0 w1 (.cells #[.string bX, .int .i64 0, .slice none 0 0, .string noS, .int .i64 0, .slice none 0 0] 28)
  have hx4 := Box.new w1 28 #[.string bX, .int .i64 0, .slice none 0 0, .string noS, .int .i64 0, .slice none 0 0]
  have hcs : CellsAt (w1.alloc (.cells #[.string bX, .int .i64 0, .slice none 0 0, .string noS, .int .i64 0, .slice none 0 0] 28)) w1.heap.size [kX, kA] := fun i u hu => by
    rw [hx4.c i]
    have e : kvCells [kX, kA] = [.string bX, .int .i64 0, .slice none 0 0, .string noS, .int .i64 0, .slice none 0 0] := rfl
    rw [e] at hu
    simpa using hu
  have HB4 := hid (HB3.out.trans (hb4.mono HB3.out.size))
  have HY4 := hid (HY3.out.below hb4)
  refine (free_head _ 5 w1.heap.size _ (HS3.out.below hb4) hcs).mono ?_
  rintro e w5 ⟨⟨p5, c5, rfl⟩, hb5⟩
  have HB5 := hid (HB4.out.trans (hb5.mono HB4.out.size))
  have Y5 := HY4.out.below hb5
  have z0 : w5.cell? ⟨w2.heap.size, 0, none⟩ = some (.int .i64 3) := Y5.c 0
  have z1 : w5.cell? ⟨w2.heap.size, 1, none⟩ = some (.string ⟨#[88]⟩) := Y5.c 1
  have z2 : w5.cell? ⟨w2.heap.size, 2, none⟩ = some (.string ⟨#[]⟩) := Y5.c 2
  clear hb4 hx4 hcs hb5 Y5
  go_wp2_with fail
  go_ret
  exact ⟨rfl, HB5.out⟩
end Go.Proofs.YtfnfbljijkjkjaaGreat
