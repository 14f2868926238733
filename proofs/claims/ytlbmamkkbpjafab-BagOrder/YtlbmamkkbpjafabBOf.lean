/- What Of answers. -/
import Derived.Test.YtlbmamkkbpjafabBGath
import Derived.Laws.MakeOwn
namespace Go.Proofs.Ytlbmamkkbpjafab
open Go.RowKit Go.Deep

def ones (l : List Th) : List It := l.map fun x => (x, 1)
theorem ones_len (l : List Th) : (ones l).length = l.length := List.length_map ..
theorem ones_at (l : List Th) (i : Nat) (h : i < (ones l).length) : (ones l)[i] = (l[i]'(by rwa [ones_len] at h), 1) := List.getElem_map ..
theorem ones_sum : ∀ l : List Th, sumN (ones l) = l.length
  | [] => rfl
  | x :: r => by
    show (1 : Int) + sumN (ones r) = _
    rw [ones_sum r, List.length_cons]
    omega
/-- A bag of the program's in new memory. -/
def NewBag (w : World) (l : List It) (e : Ending) (w' : World) : Prop := ∃ B p c, e = .returned (.pointer (some ⟨B, 0, none⟩)) ∧ BagAt w.heap.size B w' l p c ∧ w.heap.size ≤ B ∧ Below w.heap.size w w'
set_option maxRecDepth 100000 in
set_option maxHeartbeats 8000000 in
theorem of_any (a : Option Addr) (c : Nat) (l : List Th) (w : World) (hT : ThsAt w a l.length l) (hn : l.length ≤ 1048576) :
    Calls Try.prog 12 #[ordV, .slice a l.length c] w (NewBag w (mkP l)) := by
  by_cases hl : l.length = 0
  · have hl' : l = [] := List.eq_nil_of_length_eq_zero hl
    subst hl'
    refine Calls.mono (of_none a c w) ?_
    rintro e w' ⟨B, rfl, hB, hz, hb⟩
    exact ⟨B, none, 0, rfl, ⟨hB, World.ownsRow_nil _ _ _ _, fun h => by cases h⟩, hz, hb⟩
  obtain ⟨i0, hi0, hz0, hz1, hz2⟩ := info_parts Try.info32
  have h1 := eq_ord
  obtain ⟨n, hN⟩ : ∃ n, l.length = n := ⟨_, rfl⟩
  have hmk := run_make (P := Try.prog) w 29 32 i0 _ Try.underlying29 hi0 hz0 .i64 .i64 (n : Int) (n : Int) (by omega) (Int.le_refl _) (by rw [hz2]; omega) (by omega)
  rw [hz1, Int.toNat_natCast] at hmk
  obtain ⟨cur, hcur⟩ : ∃ cur, madeCells (Value.agg #[.int .i64 0, .int .i64 0, .int .i64 0]).cells (n * 3) = cur := ⟨_, rfl⟩
  have hcs : cur.size = n * 3 := by rw [← hcur, size_madeCells]
  rw [hcur] at hmk
  have b0 := alloc_below0 w (.cells cur 32)
  have hrow : (w.alloc (.cells cur 32)).ownsRow w.heap.size 32 3 (.slice (some ⟨w.heap.size, 0, none⟩) n n) n cur.toList := ⟨by rw [Array.length_toList, hcs], .inr ⟨w.heap.size, n, cur, rfl, Nat.le_refl _, World.alloc_heap_new w _, Nat.le_refl _, by unfold maxLen; omega, hcs, by rw [List.take_of_length_le (by rw [Array.length_toList, hcs]; exact Nat.le_refl _)]⟩⟩
  have HROW := hid hrow; have B0 := hid b0; have HT := hid hT; have HNN := hid hN
  rw [hN] at hn ⊢
  clear hcur hcs hrow b0 hT
  have hGs : w.heap.size < (w.alloc (.cells cur 32)).heap.size := by rw [World.size_alloc]; omega
  go_enter Try.func12, Try.ntmps12
  go_wp2_with fail
  generalize w.alloc (.cells cur 32) = V at HROW B0 hmk hGs ⊢
  clear hmk
  go_loopw [6, 7, 15] (fun _ _ iv wr => ∃ (i : Nat) (xs : List Value), iv = .int .i64 i ∧ i ≤ n ∧ wr.ownsRow w.heap.size 32 3 (.slice (some ⟨w.heap.size, 0, none⟩) n n) n xs ∧ (∀ j, j < i * 3 → xs[j]? = (itAll (ones l))[j]?) ∧ Below w.heap.size w wr) (fun _ _ iv _ => n - (intOf iv).toNat)
  case atStart => exact ⟨0, cur.toList, rfl, Nat.zero_le _, HROW.out, fun j hj => absurd hj (by omega), B0.out⟩
  case round =>
    obtain ⟨i, xs, rfl, hi, hown, hxs, hbl⟩ := hrel
    have HOw := hid hown; have HXS := hid hxs; have HBl := hid hbl
    clear hown hxs hbl
    by_cases hlt : i < n
    · have hN2 := HNN.out
      obtain ⟨b1, o1, rfl, e1, e2⟩ := (HT.out.below HBl.out).cells i (by omega)
      have hone := ones_at l i (by rw [ones_len]; omega)
      obtain ⟨x, hx⟩ : ∃ x, l[i]'(by omega) = x := ⟨_, rfl⟩
      rw [hx] at e1 e2 hone
      obtain ⟨xk, xm⟩ := x
      dsimp only at e1 e2
      have b4 := alloc_below0 wr (.cells #[.int .i64 xk, .int .i64 xm] 26)
      have hO4 := HOw.out.alloc (.cells #[.int .i64 xk, .int .i64 xm] 26)
      have hcell : ∀ k, k < 3 → ∃ v, (wr.alloc (.cells #[.int .i64 xk, .int .i64 xm] 26)).cell? ⟨w.heap.size, i * 3 + k, none⟩ = some v := fun k hk => by
        have hxl := hO4.1
        have h := hO4.cells (g := w.heap.size) rfl (i * 3 + k) (xs[i * 3 + k]'(by omega)) (List.getElem?_eq_getElem (by omega))
        rw [Addr.add_lit, Nat.zero_add] at h
        exact ⟨_, h⟩
      obtain ⟨v0, c0⟩ := hcell 0 (by decide); obtain ⟨v1, c1⟩ := hcell 1 (by decide); obtain ⟨v2, c2⟩ := hcell 2 (by decide)
      rw [Nat.add_zero] at c0
      have f0 : (wr.alloc (.cells #[.int .i64 xk, .int .i64 xm] 26)).frozen? ⟨w.heap.size, i * 3, none⟩ = false := hO4.frozenAt _
      have f1 : (wr.alloc (.cells #[.int .i64 xk, .int .i64 xm] 26)).frozen? ⟨w.heap.size, i * 3 + 1, none⟩ = false := hO4.frozenAt _
      have f2 : (wr.alloc (.cells #[.int .i64 xk, .int .i64 xm] 26)).frozen? ⟨w.heap.size, i * 3 + 2, none⟩ = false := hO4.frozenAt _
      have s0 := World.ownsRow.stored hO4 (i * 3) (.int .i64 xk)
      have s1 := World.ownsRow.stored s0.1 (i * 3 + 1) (.int .i64 xm)
      have s2 := World.ownsRow.stored s1.1 (i * 3 + 2) (.int .i64 1)
      have HS2 := hid s2.1; have HB4 := hid (HBl.out.trans (b4.mono HBl.out.size))
      have HONE := hid hone
      have hxl := HOw.out.1
      clear b4 hO4 hcell s0 s1 s2 hone hx hN2
      have hiz : (i : Int) < (n : Int) := by omega
      go_wp2_with fail
      go_roundw
      case rel =>
        refine ⟨i + 1, _, by go_num, by omega, HS2.out, fun j hj => ?_, (((HB4.out.setCell (p := ⟨w.heap.size, i * 3, none⟩) (Nat.le_refl _) _).setCell (p := ⟨w.heap.size, i * 3 + 1, none⟩) (Nat.le_refl _) _).setCell (p := ⟨w.heap.size, i * 3 + 2, none⟩) (Nat.le_refl _) _)⟩
        have hN2 := HNN.out
        by_cases hj0 : j < i * 3
        · rw [List.getElem?_set_ne (by omega), List.getElem?_set_ne (by omega), List.getElem?_set_ne (by omega)]
          exact HXS.out j hj0
        · obtain ⟨k, hk, rfl⟩ : ∃ k, k < 3 ∧ j = i * 3 + k := ⟨j - i * 3, by omega, by omega⟩
          rw [itAll_at (ones l) i (by rw [ones_len]; omega) k hk, HONE.out]
          have h3 : k = 0 ∨ k = 1 ∨ k = 2 := by omega
          rcases h3 with rfl | rfl | rfl
          · rw [List.getElem?_set_ne (by omega), List.getElem?_set_ne (by omega), show i * 3 + 0 = i * 3 from rfl, List.getElem?_set_self (by omega)]
            rfl
          · rw [List.getElem?_set_ne (by omega), List.getElem?_set_self (by rw [List.length_set]; omega)]
            rfl
          · rw [List.getElem?_set_self (by rw [List.length_set, List.length_set]; omega)]
            rfl
      case measure => simp [intOf]; omega
    · have he : i = n := by omega
      have hxs : xs = itAll (ones l) := by
        have h1 := HOw.out.1
        have hN2 := HNN.out
        apply List.ext_getElem?
        intro j
        by_cases hj : j < i * 3
        · exact HXS.out j hj
        · rw [List.getElem?_eq_none (by omega), List.getElem?_eq_none (by rw [itAll_len, ones_len]; omega)]
      have hO := HOw.out
      rw [hxs] at hO
      have hlo : (ones l).length = n := by rw [ones_len, HNN.out]
      have hG := gather_any w.heap.size (some ⟨w.heap.size, 0, none⟩) n (ones l) wr (by rw [hlo]; exact hO) (by rw [hlo]; omega) (fun y hm => by obtain ⟨x, _, rfl⟩ := List.mem_map.1 hm; exact Int.le_refl _) (by rw [ones_sum, HNN.out]; omega)
      rw [hlo, show canB (ones l) = mkP l from canB_ones l] at hG
      have HG := hid hG
      clear hG hO hxs hlo
      go_wp2_with fail
      refine HG.out.mono ?_
      rintro e w2 ⟨v', rfl, hv1, hv2⟩
      obtain ⟨p', c', rfl⟩ := owns65_form hv1
      have hb2 : Below w.heap.size wr w2 := hv2.below (fun k hk => by have h7 : some w.heap.size = some k := hk; have := Option.some.inj h7; omega) HBl.out.size
      have HV1 := hid hv1; have HB2 := hid (HBl.out.trans hb2)
      clear hv1 hv2 hb2
      go_wp2_with fail
      go_ret
      refine ⟨w2.heap.size, p', c', rfl, ⟨World.alloc_heap_new w2 _, owns65_mono (owns65_below HV1.out (alloc_below0 w2 _)) HBl.out.size, fun e => ?_⟩, HB2.out.size, HB2.out.alloc HB2.out.size _⟩
      have := (HV1.out.lt _ (by rw [own_eq]; exact e)).2
      omega
end Go.Proofs.Ytlbmamkkbpjafab
