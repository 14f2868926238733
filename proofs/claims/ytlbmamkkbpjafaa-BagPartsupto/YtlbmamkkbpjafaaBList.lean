/- What List answers. -/
import Derived.Test.YtlbmamkkbpjafaaBLen
import Derived.Laws.MakeOwn
namespace Go.Proofs.Ytlbmamkkbpjafaa
open Go.RowKit Go.Deep

theorem Try.info31 : (Try.prog.info? 31).map (fun i => (i.zero, i.size, i.bytes)) = some (some (.agg #[.int .i64 0, .int .i64 0]), 2, 16) := by kernel_rfl
def listP (l : List It) : List Th := l.flatMap fun y => List.replicate y.2.toNat y.1
def thCells (x : Th) : List Value := [.int .i64 x.1, .int .i64 x.2]
def thAll (l : List Th) : List Value := l.flatMap thCells
theorem thAll_len : ∀ l : List Th, (thAll l).length = l.length * 2
  | [] => rfl
  | x :: r => by
    show (thCells x ++ thAll r).length = _
    rw [List.length_append, thAll_len r]
    show 2 + _ = (r.length + 1) * 2
    omega
theorem thAll_append (a b : List Th) : thAll (a ++ b) = thAll a ++ thAll b := by simp [thAll]
theorem listP_take (l : List It) (i : Nat) (h : i < l.length) : listP (l.take (i + 1)) = listP (l.take i) ++ List.replicate l[i].2.toNat l[i].1 := by
  unfold listP
  rw [List.take_succ_eq_append_getElem h, List.flatMap_append]
  simp
theorem listP_sum : ∀ (l : List It), (∀ i (h : i < l.length), 0 ≤ l[i].2) → sumN l = ((listP l).length : Int)
  | [], _ => rfl
  | y :: r, h => by
    have h1 := listP_sum r (fun i hi => h (i + 1) (by simpa using hi))
    have h2 : (0 : Int) ≤ y.2 := h 0 (by simp)
    show y.2 + sumN r = ((List.replicate y.2.toNat y.1 ++ listP r).length : Int)
    rw [h1, List.length_append, List.length_replicate]
    omega
theorem listP_le (l : List It) (i : Nat) : (listP (l.take i)).length ≤ (listP l).length := by
  have h : listP l = listP (l.take i) ++ listP (l.drop i) := by
    unfold listP
    rw [← List.flatMap_append, List.take_append_drop]
  rw [h, List.length_append]
  omega
set_option maxRecDepth 100000 in
set_option maxHeartbeats 4000000 in
/-- List. -/
theorem list_any (B : Nat) (p : Option Addr) (c : Nat) (l : List It) (w : World) (hB : BagBox w B (.slice p l.length c)) (hI : ItsAt w p l.length l) (hn : l.length ≤ 1048576) (hb : ∀ k, k ≤ l.length → -1000000000000 ≤ sumN (l.take k) ∧ sumN (l.take k) ≤ 1000000000000) (hy : ∀ i (h : i < l.length), 0 ≤ l[i].2 ∧ l[i].2 ≤ 1000000000000) (hN : (listP l).length ≤ 1000000000) :
    Calls Try.prog 37 #[.pointer (some ⟨B, 0, none⟩)] w fun e w' => ∃ v', e = .returned v' ∧ w'.ownsRow w.heap.size 31 2 v' (listP l).length (thAll (listP l)) ∧ Below w.heap.size w w' := by
  obtain ⟨i0, hi0, hz0, hz1, hz2⟩ := info_parts Try.info31
  have HI := hid hI; have HY := hid hy
  have hL := len_any B p c l w hB hI hn hb (fun i h => ⟨by have := (hy i h).1; omega, (hy i h).2⟩)
  rw [listP_sum l (fun i h => (hy i h).1)] at hL
  have HL := hid hL
  have HB := hid hB
  have HN := hid hN
  clear hI hb hy hL hB
  obtain ⟨N, hNN⟩ : ∃ N, (listP l).length = N := ⟨_, rfl⟩
  rw [hNN] at HL HN ⊢
  have HNN := hid hNN
  clear hNN hN
  go_enter Try.func37, Try.ntmps37
  go_wp2_with fail
  refine HL.out.mono ?_
  rintro e w1 ⟨rfl, hb1⟩
  obtain ⟨w2, hr, ho, hg⟩ := run_make_own (P := Try.prog) w1 w.heap.size 23 31 i0 _ 2 Try.underlying23 hi0 hz0 hz1 .i64 .i64 N (by rw [hz2]; have := HN.out; omega) (by unfold maxLen; have := HN.out; omega) hb1.size
  have hb2 : Below w.heap.size w w2 := hb1.trans ((fr_grown hg).below (fun k hk => by cases hk) hb1.size)
  have f1 := (HB.out.below hb2).c1
  have HO := hid ho; have HB2 := hid hb2
  clear hb1 ho hg hb2
  go_wp2_with fail
  clear f1 hr
  go_loopw [3, 14] (fun lv iv wr => ∃ i : Nat, iv = .int .i64 i ∧ i ≤ l.length ∧ wr.ownsRow w.heap.size 31 2 lv (listP (l.take i)).length (thAll (listP (l.take i))) ∧ Below w.heap.size w wr) (fun _ iv _ => l.length - (intOf iv).toNat)
  case atStart => exact ⟨0, rfl, Nat.zero_le _, HO.out, HB2.out⟩
  case round =>
    obtain ⟨i, rfl, hi, hown, hbl⟩ := hrel
    have HBl := hid hbl
    have HOw := hid hown
    clear hbl hown
    by_cases hlt : i < l.length
    · obtain ⟨b1, o1, rfl, e1, e2, e3⟩ := (HI.out.below HBl.out).cells i hlt
      have hlen := listP_le l (i + 1)
      have htk := listP_take l i hlt
      have h0 := (HY.out i hlt).1
      obtain ⟨y, hyi⟩ : ∃ y, l[i] = y := ⟨_, rfl⟩
      rw [hyi] at e1 e2 e3 h0 htk
      obtain ⟨⟨yk, ym⟩, yn⟩ := y
      dsimp only at e1 e2 e3 h0 htk
      rw [htk, List.length_append, List.length_replicate, HNN.out] at hlen
      have hN2 := HN.out
      have HTK := hid htk
      obtain ⟨P, hP⟩ : ∃ P, listP (l.take i) = P := ⟨_, rfl⟩
      rw [hP] at HOw HTK hlen
      clear htk hyi hP
      have n4 := World.alloc_heap_new wr (.cells #[.int .i64 yk, .int .i64 ym, .int .i64 yn] 65)
      have b4 := alloc_below0 wr (.cells #[.int .i64 yk, .int .i64 ym, .int .i64 yn] 65)
      have HO4 := hid (HOw.out.alloc (.cells #[.int .i64 yk, .int .i64 ym, .int .i64 yn] 65))
      have HX4 : Hid (u3.ownBlock ≠ some wr.heap.size) := hid fun e => by
        have := (HOw.out.lt _ e).2
        omega
      have HB4 := hid (HBl.out.trans (b4.mono HBl.out.size))
      have N4 := hid n4
      clear n4 b4
      go_wp2_with fail
      clear e1 e2 e3
      generalize wr.alloc (.cells #[.int .i64 yk, .int .i64 ym, .int .i64 yn] 65) = V at HO4 HB4 N4 ⊢
      generalize wr.heap.size = X at HX4 N4 ⊢
      go_loopw [3, 20] (fun lv jv wr2 => ∃ j : Nat, jv = .int .i64 j ∧ (j : Int) ≤ yn ∧ wr2.ownsRow w.heap.size 31 2 lv (P.length + j) (thAll (P ++ List.replicate j (yk, ym))) ∧ lv.ownBlock ≠ some X ∧ wr2.heap[X]? = some (.cells #[.int .i64 yk, .int .i64 ym, .int .i64 yn] 65 (0, 0)) ∧ Below w.heap.size w wr2) (fun _ jv _ => yn.toNat - (intOf jv).toNat)
      case atStart => exact ⟨0, rfl, h0, by rw [show List.replicate 0 (yk, ym) = [] from rfl, List.append_nil]; exact HO4.out, HX4.out, N4.out, HB4.out⟩
      case round =>
        obtain ⟨j, rfl, hj, hown, hob, hx, hbl⟩ := hrel
        have HOb := hid hob; have HXx := hid hx; have HBj := hid hbl; have HOj := hid hown
        by_cases hjl : (j : Int) < yn
        · have c0 : wr.cell? ⟨X, 0, none⟩ = some (.int .i64 yk) := cell_box hx rfl
          have c1 : wr.cell? ⟨X, 1, none⟩ = some (.int .i64 ym) := cell_box hx rfl
          have hXl : X < wr.heap.size := (Array.getElem?_eq_some_iff.1 hx).1
          have b5 := alloc_below0 wr (.cells #[.int .i64 yk, .int .i64 ym] 31)
          have HO5 := hid (HOj.out.alloc (.cells #[.int .i64 yk, .int .i64 ym] 31))
          have n5 := World.alloc_heap_new wr (.cells #[.int .i64 yk, .int .i64 ym] 31)
          have HN5 : Hid (∀ m u, (thCells (yk, ym))[m]? = some u → (wr.alloc (.cells #[.int .i64 yk, .int .i64 ym] 31)).cell? ((⟨wr.heap.size, 0, none⟩ : Addr).add m) = some u) := hid fun m u hm => by
            rw [Addr.add_lit, Nat.zero_add]
            exact cell_box n5 (by rw [← hm]; simp [thCells])
          have HB5 := hid b5
          have hone : ∀ u ∈ thCells (yk, ym), u.oneCell' = true := by
            intro v hv
            simp [thCells] at hv
            rcases hv with rfl | rfl <;> rfl
          have hlt5 : ∀ k, u3.ownBlock = some k → w.heap.size ≤ k := fun k hk => (HOj.out.lt k hk).1
          have hbase : w.heap.size ≤ (wr.alloc (.cells #[.int .i64 yk, .int .i64 ym] 31)).heap.size := Nat.le_trans hbl.size b5.size
          have hbnd : P.length + j + 1 ≤ 1000000000 := by omega
          have HLT := hid hlt5
          clear hown hob hx hbl b5 n5 hlt5
          go_wp2_with (at_builtin; refine wpList_append_lies _ rfl _ _ 23 rfl w.heap.size 31 i0 _ 2 16 Try.underlying23 hi0 hz0 hz1 hz2 rfl (by decide) u3 (P.length + j) (thAll (P ++ List.replicate j (yk, ym))) rfl HO5.out ⟨wr.heap.size, 0, none⟩ 1 1 (thCells (yk, ym)) rfl rfl HN5.out hone (by decide) (by unfold maxLen; omega) (by omega) hbase _ rfl ?_; intro g' cap' w' h1 h2 h3 _; have H1 := hid h1; have H2 := hid h2; have H3 := hid h3; clear h1 h2 h3)
          all_goals
            go_roundw
            case rel =>
              refine ⟨j + 1, by go_num, by omega, ?_, ?_, ?_, ?_⟩
              · have h5 := H1.out
                have e5 : thAll (P ++ List.replicate j (yk, ym)) ++ thCells (yk, ym) = thAll (P ++ List.replicate (j + 1) (yk, ym)) := by
                  rw [List.replicate_succ', ← List.append_assoc, thAll_append (P ++ List.replicate j (yk, ym))]
                  show _ = _ ++ (thCells (yk, ym) ++ [])
                  rw [List.append_nil]
                rw [e5] at h5
                exact h5
              · intro e
                have e' : some g' = some X := e
                rcases H3.out with h | h
                · exact HOb.out (h.trans e')
                · have h6 := Option.some.inj e'
                  have h7 := HB5.out.size
                  omega
              · exact (H2.out.block X (Nat.lt_of_lt_of_le hXl HB5.out.size) (fun e => HOb.out e.symm)).trans ((HB5.out.block X hXl).trans HXx.out)
              · exact (HBj.out.trans (HB5.out.mono HBj.out.size)).trans ((fr_grown H2.out).below HLT.out hbase)
            case measure => simp [intOf]; omega
        · have hje : (j : Int) = yn := by omega
          clear hown hob hx hbl
          go_wp2_with fail
          go_roundw
          case rel =>
            refine ⟨i + 1, by go_num, by omega, ?_, HBj.out⟩
            rw [HTK.out, List.length_append, List.length_replicate]
            have h5 := HOj.out
            have h6 : yn.toNat = j := by omega
            rw [h6]
            exact h5
          case measure => simp [intOf]; omega
    · have he : i = l.length := by omega
      have ht : l.take i = l := List.take_of_length_le (by omega)
      go_wp2_with fail
      go_ret
      have h5 := HOw.out
      rw [ht, HNN.out] at h5
      exact ⟨_, rfl, h5, HBl.out⟩
end Go.Proofs.Ytlbmamkkbpjafaa
