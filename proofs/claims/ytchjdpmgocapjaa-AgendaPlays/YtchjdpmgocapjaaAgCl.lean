/- slices.Clone of a row of entries. -/
import Derived.Test.YtchjdpmgocapjaaAgV
namespace Go.Proofs.Ytchjdpmgocapjaa
open Go.RowKit Go.Shelf

def ptrE (e : En) : Value := .pointer (some ⟨e.b, 0, none⟩)
/-- A clone of a row: pointers to the same entries, in a new block. -/
def RowE (w : World) (base g cap : Nat) (es : List En) : Prop := base ≤ g ∧ ∃ cur : Array Value, w.heap[g]? = some (.cells cur 86 (0, 0)) ∧ es.length ≤ cap ∧ cap ≤ maxLen ∧ cur.size = cap ∧ ∀ i (h : i < es.length), cur[i]? = some (.pointer (some ⟨es[i].b, 0, none⟩))
set_option maxRecDepth 100000 in
set_option maxHeartbeats 2000000 in
theorem clone_any (v : Value) (es : List En) (w : World) (hZ : QZ w v es) (hn : es.length ≤ 1048576) :
    Calls Try.prog 40 #[v] w fun e w' => Below w.heap.size w w' ∧ ((e = .returned (.slice none 0 0) ∧ es = []) ∨ ∃ g cap, e = .returned (.slice (some ⟨g, 0, none⟩) es.length cap) ∧ RowE w' w.heap.size g cap es) := by
  rcases hZ with ⟨rfl, rfl⟩ | ⟨g, cap, rfl, hQ⟩
  · have h1 : (binOp .eql 80 (.slice none 0 0) (.slice none 0 0)).run Try.prog w = .ok (.bool true) w := rfl
    go_enter Try.func40, Try.ntmps40
    go_wp2_with fail
    go_ret
    exact ⟨Below.refl _ _, .inl ⟨rfl, trivial⟩⟩
  · have h1 : (binOp .eql 80 (.slice (some ⟨g, 0, none⟩) es.length cap) (.slice none 0 0)).run Try.prog w = .ok (.bool false) w := rfl
    obtain ⟨i0, hi0, hz0, hz1, hz2⟩ := info_parts info86
    have b1 := alloc_below0 w (.cells #[] 86)
    have hE : (w.alloc (.cells #[] 86)).ownsRow w.heap.size 86 1 (.slice (some ⟨w.heap.size, 0, none⟩) 0 0) 0 [] := ⟨rfl, .inr ⟨w.heap.size, 0, #[], rfl, Nat.le_refl _, World.alloc_heap_new w _, Nat.le_refl _, Nat.zero_le _, rfl, rfl⟩⟩
    have hQ1 := hQ.below b1
    obtain ⟨v', w1, hr1, hA1, hG1, hnil, h5⟩ := run_append_own_at (P := Try.prog) (w.alloc (.cells #[] 86)) w.heap.size 80 80 86 i0 _ 1 8 Try.underlying80 hi0 hz0 hz1 hz2 rfl (by decide) (.slice (some ⟨w.heap.size, 0, none⟩) 0 0) 0 [] hE ⟨g, 0, none⟩ es.length cap (es.map ptrE) (by simp) (fun j y hj => by
      rw [List.getElem?_map] at hj
      obtain ⟨e, he, rfl⟩ := Option.map_eq_some_iff.1 hj
      obtain ⟨hjl, rfl⟩ := List.getElem?_eq_some_iff.1 he
      rw [Addr.add_lit, Nat.zero_add]
      exact hQ1.cell j hjl) (fun u hu => by obtain ⟨e, _, rfl⟩ := List.mem_map.1 hu; rfl) (by unfold maxLen; omega) (by omega) (by rw [World.size_alloc]; omega)
    rw [Nat.zero_add] at hA1
    rw [List.nil_append] at hA1
    have hb1 : Below w.heap.size w w1 := b1.trans ((fr_grown hG1).below (fun k hk => by have h7 : some w.heap.size = some k := hk; have := Option.some.inj h7; omega) b1.size)
    have hfin : ∃ g' cap', v' = .slice (some ⟨g', 0, none⟩) es.length cap' ∧ RowE w1 w.heap.size g' cap' es := by
      rcases hA1.2 with ⟨e1, e2⟩ | ⟨g', cap', cur, e1, e2, e3, e4, e5, e6, e7⟩
      · have := (hnil.1 e1).1
        cases this
      · refine ⟨g', cap', e1, e2, cur, e3, e4, e5, by omega, fun i hi => ?_⟩
        have h8 : (cur.toList.take (es.length * 1))[i]? = (es.map ptrE)[i]? := by rw [e7]
        rw [List.getElem?_take, if_pos (by omega), Array.getElem?_toList, List.getElem?_map, List.getElem?_eq_getElem hi] at h8
        exact h8
    obtain ⟨g', cap', rfl, hrow⟩ := hfin
    have HB1 := hid hb1; have HROW := hid hrow
    clear hE hG1 hA1 hb1 b1 hQ hQ1 hnil h5 hrow
    go_enter Try.func40, Try.ntmps40
    go_wp2_with (first
      | (at_builtin; refine Lib.wpList_append_run _ rfl _ _ _ _ rfl _ _ rfl rfl _ _ hr1 ?_; clear hr1)
      | fail)
    go_ret
    exact ⟨HB1.out, .inr ⟨_, _, rfl, HROW.out⟩⟩
end Go.Proofs.Ytchjdpmgocapjaa
