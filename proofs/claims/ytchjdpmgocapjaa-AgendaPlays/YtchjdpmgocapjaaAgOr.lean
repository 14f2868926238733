/- The order of two entries, the world behind it told. -/
import Derived.Test.YtchjdpmgocapjaaAgB
namespace Go.Proofs.Ytchjdpmgocapjaa
open Go.RowKit Go.Shelf

set_option maxRecDepth 100000 in
set_option maxHeartbeats 4000000 in
theorem order_ex (p q : Nat) (w1 t1 w2 t2 : Int) (w : World) (h1 : w.cell? ⟨p, 1, none⟩ = some (.int .i64 w1)) (h2 : w.cell? ⟨p, 2, none⟩ = some (.int .i64 t1)) (h3 : w.cell? ⟨q, 1, none⟩ = some (.int .i64 w2)) (h4 : w.cell? ⟨q, 2, none⟩ = some (.int .i64 t2)) :
    Calls Try.prog 42 #[.pointer (some ⟨p, 0, none⟩), .pointer (some ⟨q, 0, none⟩)] w fun e w' => e = .returned (.int .i64 (ordI w1 t1 w2 t2)) ∧ ∃ o, w' = (w.alloc o).drew := by
  have g1 : w.drew.cell? ⟨p, 1, none⟩ = some (.int .i64 w1) := h1
  have g2 : w.drew.cell? ⟨p, 2, none⟩ = some (.int .i64 t1) := h2
  have g3 : w.drew.cell? ⟨q, 1, none⟩ = some (.int .i64 w2) := h3
  have g4 : w.drew.cell? ⟨q, 2, none⟩ = some (.int .i64 t2) := h4
  have HC1 := hid (cmp_any w1 w2 w.drew)
  have HC2 := hid (cmp_any t1 t2 w.drew)
  have HC3 := hid (or_any w.heap.size (cmpI w1 w2) (cmpI t1 t2) (w.alloc (.cells #[.int .i64 (cmpI w1 w2), .int .i64 (cmpI t1 t2)] 3)).drew (cell_new w (cs := #[.int .i64 (cmpI w1 w2), .int .i64 (cmpI t1 t2)]) 3 0 rfl) (cell_new w (cs := #[.int .i64 (cmpI w1 w2), .int .i64 (cmpI t1 t2)]) 3 1 rfl))
  have HB : Hid (Below w.heap.size w (w.alloc (.cells #[.int .i64 (cmpI w1 w2), .int .i64 (cmpI t1 t2)] 3)).drew) := hid (((Below.refl _ w).alloc (Nat.le_refl _) _).drew)
  have hall : (w.alloc (.cells #[.int .i64 (cmpI w1 w2), .int .i64 (cmpI t1 t2)] 3)).drew.cell? ⟨p, 1, none⟩ = some (.int .i64 w1) ∧ (w.alloc (.cells #[.int .i64 (cmpI w1 w2), .int .i64 (cmpI t1 t2)] 3)).drew.cell? ⟨p, 2, none⟩ = some (.int .i64 t1) ∧ (w.alloc (.cells #[.int .i64 (cmpI w1 w2), .int .i64 (cmpI t1 t2)] 3)).drew.cell? ⟨q, 1, none⟩ = some (.int .i64 w2) ∧ (w.alloc (.cells #[.int .i64 (cmpI w1 w2), .int .i64 (cmpI t1 t2)] 3)).drew.cell? ⟨q, 2, none⟩ = some (.int .i64 t2) := ⟨below_cell HB.out _ _ h1, below_cell HB.out _ _ h2, below_cell HB.out _ _ h3, below_cell HB.out _ _ h4⟩
  have HAL := hid hall
  clear hall
  have HE : Hid (ordI w1 t1 w2 t2 = orI (cmpI w1 w2) (cmpI t1 t2)) := hid rfl
  generalize ordI w1 t1 w2 t2 = R at HE ⊢
  generalize orI (cmpI w1 w2) (cmpI t1 t2) = R' at HC3 HE
  generalize cmpI w1 w2 = c1 at *
  generalize cmpI t1 t2 = c2 at *
  clear h1 h2 h3 h4
  go_enter Try.func42, Try.ntmps42
  go_wp2_with fail
  go_region_held3 (fun w' => w'.cell? ⟨p, 1, none⟩ = some (.int .i64 w1) ∧ w'.cell? ⟨p, 2, none⟩ = some (.int .i64 t1) ∧ w'.cell? ⟨q, 1, none⟩ = some (.int .i64 w2) ∧ w'.cell? ⟨q, 2, none⟩ = some (.int .i64 t2)) ((first | exact HAL.out | go_keep | fail)) ((first
    | (go_at_call 48; refine Calls.mono HC1.out ?_; rintro e w3 ⟨rfl, rfl⟩; clear HC1)
    | (go_at_call 48; refine Calls.mono HC2.out ?_; rintro e w3 ⟨rfl, rfl⟩; clear HC2)
    | (go_at_call 47; refine Calls.mono HC3.out ?_; rintro e w3 ⟨rfl, rfl⟩)
    | fail))
  all_goals
    go_wp2_with fail
    go_ret
    exact ⟨by rw [HE.out]; rfl, _, rfl⟩
end Go.Proofs.Ytchjdpmgocapjaa
