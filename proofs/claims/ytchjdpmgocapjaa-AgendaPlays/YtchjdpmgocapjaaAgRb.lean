/- The document's next and find. -/
import Derived.Test.YtchjdpmgocapjaaAgRa
namespace Go.Proofs.Ytchjdpmgocapjaa
open Go.RowKit Go.Shelf

theorem nxV_one {L : List Th} (h : 0 < L.length) : nxV (L.take 1) = 0 := by
  unfold nxV
  rw [if_neg (take_ne (n := 1) (by omega) (by omega))]
  have := nx_lt (take_ne (n := 1) (L := L) (by omega) (by omega))
  rw [List.length_take] at this
  omega
theorem nxV_pos {L : List Th} {n : Nat} (hn : n ≤ L.length) (h0 : 0 < n) : ∃ a : Nat, a < n ∧ nxI (L.take n) = a ∧ nxV (L.take n) = (a : Int) := by
  have h1 := nx_lt (take_ne hn h0)
  rw [List.length_take] at h1
  exact ⟨_, by omega, rfl, by unfold nxV; rw [if_neg (take_ne hn h0)]⟩
theorem below_drewN {w0 w : World} {b : Nat} (h : Below b w0 w) (n : Nat) : Below b w0 (w.drewN n) := ⟨h.os, h.tape, h.output, h.size, h.block⟩
set_option maxRecDepth 100000 in
set_option maxHeartbeats 2000000 in
theorem next_any (p : Option Addr) (c : Nat) (L : List Th) (w : World) (h : TOwn w (.slice p L.length c) L) (hn : L.length ≤ 65536) : Calls Try.prog 49 #[.slice p L.length c] w fun e w' => e = .returned (.int .i64 (nxV L)) ∧ Below w.heap.size w w' := by
  have HT := hid h
  have hnz : (L.length : Int) ≤ 65536 := by omega
  clear h
  go_enter Try.func49, Try.ntmps49
  go_wp2_with fail
  go_loopw [3, 4] (fun av iv wr => ∃ i : Nat, iv = .int .i64 i ∧ i ≤ L.length ∧ av = .int .i64 (nxV (L.take i)) ∧ Below w.heap.size w wr) (fun _ iv _ => L.length - (intOf iv).toNat)
  case atStart => exact ⟨0, rfl, Nat.zero_le _, rfl, Below.refl _ _⟩
  case round =>
    obtain ⟨i, rfl, hi, rfl, hb⟩ := hrel
    by_cases hlt : i < L.length
    · obtain ⟨g, cur, rfl, _, hc1, hc2, hg, hcs, hat⟩ := HT.out.some (by omega)
      have hgw := below_blk hb hg
      have hiz : (i : Int) < (L.length : Int) := by omega
      have HB := hid hb
      by_cases h0 : i = 0
      · subst h0
        have hv : nxV (L.take 0) = -1 := by rw [List.take_zero]; rfl
        rw [hv]
        have HV1 := hid (nxV_one hlt)
        clear hb hat hg hgw hv
        go_wp2_with fail
        go_big_quiet (fail)
        go_wp2_with fail
        go_roundw
        case rel => exact ⟨1, by go_num, by omega, by rw [HV1.out], below_drewN HB.out _⟩
        case measure => simp [intOf]; omega
      · obtain ⟨a, ha, ea, hv⟩ := nxV_pos (L := L) (n := i) (by omega) (by omega)
        rw [hv]
        have hst := nx_take_eq hlt (by omega) (by rw [ea]; omega)
        have x1 : wr.cell? ⟨g, i * 3 + 1, none⟩ = some (.int .i64 L[i].wt) := cell_box hgw (hat i hlt 1 (by omega))
        have x2 : wr.cell? ⟨g, a * 3 + 1, none⟩ = some (.int .i64 (L[a]'(by omega)).wt) := cell_box hgw (hat a (by omega) 1 (by omega))
        have haz : (a : Int) < (L.length : Int) := by omega
        have haz0 : decide ((a : Int) < 0) = false := decide_eq_false (by omega)
        have hN : nxV (L.take (i + 1)) = if L[i].wt < (L[a]'(by omega)).wt then (i : Int) else (a : Int) := by
          unfold nxV
          rw [if_neg (take_ne (n := i + 1) (by omega) (by omega)), hst]
          subst ea
          split <;> rfl
        obtain ⟨xi, hxi⟩ : ∃ x, L[i].wt = x := ⟨_, rfl⟩
        obtain ⟨xa, hxa⟩ : ∃ x, (L[a]'(by omega)).wt = x := ⟨_, rfl⟩
        rw [hxi] at x1 hN
        rw [hxa] at x2 hN
        have HN := hid hN
        clear hb hat hg hgw hv hst ea hxi hxa hN
        by_cases hc : xi < xa
        · have hd : decide (xi < xa) = true := decide_eq_true hc
          go_wp2_with fail
          go_big_quiet (fail)
          go_wp2_with fail
          go_roundw
          case rel => exact ⟨i + 1, by go_num, by omega, by rw [HN.out, if_pos (by omega)], below_drewN HB.out _⟩
          case measure => simp [intOf]; omega
        · have hd : decide (xi < xa) = false := decide_eq_false hc
          go_wp2_with fail
          go_big_quiet (fail)
          go_wp2_with fail
          go_roundw
          case rel => exact ⟨i + 1, by go_num, by omega, by rw [HN.out, if_neg (by omega)], below_drewN HB.out _⟩
          case measure => simp [intOf]; omega
    · obtain rfl : i = L.length := by omega
      rw [List.take_length]
      have HB := hid hb
      clear hb
      go_wp2_with fail
      go_ret
      exact ⟨rfl, HB.out⟩
/-- The place of a ticket; -1: it is not in. -/
def findI (L : List Th) (t : Int) : Int := match L.findIdx? (fun a => decide (a.tk = t)) with
  | some k => k
  | none => -1
theorem find_spec {L : List Th} {t : Int} : (findI L t = -1 ∧ hasT L t = false) ∨ ∃ k : Nat, ∃ hk : k < L.length, findI L t = k ∧ L[k].tk = t ∧ hasT L t = true := by
  unfold findI
  cases h : L.findIdx? (fun a => decide (a.tk = t)) with
  | none =>
    refine .inl ⟨rfl, ?_⟩
    rw [← Bool.not_eq_true, hasT_iff]
    rintro ⟨a, ha, e⟩
    have := List.findIdx?_eq_none_iff.1 h a ha
    simp [e] at this
  | some k =>
    obtain ⟨hk, h1, _⟩ := List.findIdx?_eq_some_iff_getElem.1 h
    have h2 : L[k].tk = t := by simpa using h1
    exact .inr ⟨k, hk, rfl, h2, hasT_iff.2 ⟨_, List.getElem_mem hk, h2⟩⟩
theorem find_at {L : List Th} {t : Int} {i : Nat} (hi : i < L.length) (ht : L[i].tk = t) (hb : ∀ j (hj : j < i), (L[j]'(by omega)).tk ≠ t) : findI L t = i := by
  unfold findI
  have : L.findIdx? (fun a => decide (a.tk = t)) = some i := List.findIdx?_eq_some_iff_getElem.2 ⟨hi, by simpa using ht, fun j hj => by simpa using hb j hj⟩
  rw [this]
theorem find_no {L : List Th} {t : Int} (hb : ∀ j (hj : j < L.length), L[j].tk ≠ t) : findI L t = -1 := by
  unfold findI
  have : L.findIdx? (fun a => decide (a.tk = t)) = none := List.findIdx?_eq_none_iff.2 (fun a ha => by
    obtain ⟨j, hj, rfl⟩ := List.getElem_of_mem ha
    simpa using hb j hj)
  rw [this]
end Go.Proofs.Ytchjdpmgocapjaa
