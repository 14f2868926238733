/- An agenda's New and Push. -/
import Derived.Test.YtchjdpmgocapjaaAgV
namespace Go.Proofs.Ytchjdpmgocapjaa
open Go.RowKit Go.Shelf

/-- What an operation leaves: the agenda as told, all else as it was. -/
def AgEnd (w w' : World) (A : Nat) (most last : Int) (L : List Th) (F : Nat → Prop) : Prop := ∃ F', AgAt w' A most last L F' ∧ Fr F w w' ∧ ∀ b, F' b → F b ∨ w.heap.size ≤ b
theorem AgEnd.same {w w' : World} {A : Nat} {most last : Int} {L : List Th} {F : Nat → Prop} (h : AgAt w A most last L F) (hb : Below w.heap.size w w') : AgEnd w w' A most last L F := ⟨F, h.below hb, Fr.of_below hb, fun _ h => .inl h⟩
theorem new_none (most : Int) (h : most < 1 ∨ 65536 < most) (w : World) : Calls Try.prog 15 #[.int .i64 most] w fun e w' => e = .returned (.tuple #[.pointer none, .int .i64 1]) ∧ w' = w := by
  go_enter Try.func15, Try.ntmps15
  by_cases h1 : most < 1
  · go_wp2_with fail
    go_ret2
    exact ⟨rfl, rfl⟩
  · have h2 : 65536 < most := by omega
    go_wp2_with fail
    go_ret2
    exact ⟨rfl, rfl⟩
theorem make_run (W : World) : (Instr.makeMap 78 none).run Try.prog W = .ok (.map (some W.heap.size)) (W.alloc (.map #[] 0)) := by
  simp [Instr.makeMap, Result.andThen]
theorem new_any (most : Int) (h1 : 1 ≤ most) (h2 : most ≤ 65536) (w : World) : Calls Try.prog 15 #[.int .i64 most] w fun e w' => ∃ A F, e = .returned (.tuple #[.pointer (some ⟨A, 0, none⟩), .int .i64 0]) ∧ AgAt w' A most 0 [] F ∧ Below w.heap.size w w' ∧ ∀ b, F b → w.heap.size ≤ b := by
  have hm := make_run w
  have hM := map_made w
  have HF : Hid (AgAt ((w.alloc (.map #[] 0)).alloc (.cells #[.int .i64 most, .int .i64 0, .slice none 0 0, .map (some w.heap.size)] 82)) (w.heap.size + 1) most 0 [] (fun b => b = w.heap.size ∨ b = w.heap.size + 1)) := hid (by
    have hsz : (w.alloc (.map #[] 0)).heap.size = w.heap.size + 1 := World.size_alloc _ _
    have hb := World.alloc_heap_new (w.alloc (.map #[] 0)) (.cells #[.int .i64 most, .int .i64 0, .slice none 0 0, .map (some w.heap.size)] 82)
    rw [hsz] at hb
    refine ⟨[], _, w.heap.size, 0, _, ⟨hb, .inl ⟨rfl, rfl⟩, MapAt.fr hM (Fr.of_below (A := fun _ => False) (alloc_below0 _ _)) (fun hx => hx), fun e he => absurd he (by simp), fun t _ => look_none t⟩, ab_none, by simp, (by simp; omega), h2, .inr rfl, .inl rfl, fun g hg => (by cases hg), fun k hk => absurd hk (Nat.not_lt_zero _), fun b hb => ?_⟩
    have : ((w.alloc (.map #[] 0)).alloc (.cells #[.int .i64 most, .int .i64 0, .slice none 0 0, .map (some w.heap.size)] 82)).heap.size = w.heap.size + 2 := by rw [World.size_alloc, World.size_alloc]
    omega)
  have HB : Hid (Below w.heap.size w ((w.alloc (.map #[] 0)).alloc (.cells #[.int .i64 most, .int .i64 0, .slice none 0 0, .map (some w.heap.size)] 82))) := hid (((Below.refl _ w).alloc (Nat.le_refl _) _).alloc (by rw [World.size_alloc]; omega) _)
  clear hM
  go_enter Try.func15, Try.ntmps15
  go_wp2_with fail
  go_ret2
  exact ⟨w.heap.size + 1, _, rfl, HF.out, HB.out, fun b hb => by rcases hb with h | h <;> omega⟩
end Go.Proofs.Ytchjdpmgocapjaa
