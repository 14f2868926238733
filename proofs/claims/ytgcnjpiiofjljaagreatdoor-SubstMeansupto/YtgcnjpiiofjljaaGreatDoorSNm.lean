/- Sets of names: what namesOf and has answer. -/
import Derived.Test.YtgcnjpiiofjljaaGreatDoorSOp
namespace Go.Proofs.YtgcnjpiiofjljaaGreatDoor
open Go.RowKit Go.Deep Go.Maps

theorem zero86 (W : World) : (zeroValue 74).run Tryz.prog W = .ok (.agg #[]) W := by kernel_rfl
/-- Is a name among these? -/
def inL (l : List ByteArray) (s : ByteArray) : Bool := l.any fun b => decide (b = s)
theorem inL_snoc (l : List ByteArray) (s s' : ByteArray) : inL (l ++ [s]) s' = (inL l s' || decide (s = s')) := by simp [inL]
/-- A set of names in memory. -/
structure NmAt (W : World) (b n : Nat) (l : List ByteArray) : Prop where
  ex : ∃ D, MapAt W b n D ∧ ∀ s, lookD D s = if inL l s = true then some (Value.agg #[]) else none
theorem NmAt.below {W W' : World} {b n : Nat} {l : List ByteArray} (h : NmAt W b n l) (hb : Below W.heap.size W W') : NmAt W' b n l := by
  obtain ⟨D, hD, hl⟩ := h.ex
  exact ⟨D, hD.below hb, hl⟩
theorem look_run63 {W : World} {b n : Nat} {l : List ByteArray} (h : NmAt W b n l) (s : ByteArray) (hs : s.size ≤ maxLen) :
    (Instr.lookup 51 (.map (some b)) (.string s) true).run Tryz.prog W = .ok (.tuple #[.agg #[], .bool (inL l s)]) W := by
  obtain ⟨D, hD, hl⟩ := h.ex
  have h1 := hl s
  obtain ⟨es, clock, hb, F, _, rfl⟩ := hD
  unfold lookD at h1
  rcases fit_look true law9 Tryz.underlying51 (zero86 W) hb F (key_run s hs) with ⟨hrun, _, hat⟩ | ⟨e0, y, _, _, hrun, hRv, hat, _⟩
  · rw [hat] at h1
    by_cases hm : inL l s = true
    · rw [if_pos hm] at h1; cases h1
    · rw [show inL l s = false by simpa using hm]
      exact hrun
  · have hy : y.1 = .held e0.val := by
      unfold rH at hRv
      rw [← Option.some.inj hRv]
    rw [hat, hy] at h1
    by_cases hm : inL l s = true
    · rw [if_pos hm] at h1
      rw [hm]
      have e : e0.val = .agg #[] := Option.some.inj h1
      rw [e] at hrun
      exact hrun
    · rw [if_neg hm] at h1; cases h1
theorem make_run63 (W : World) (n : Int) : (Instr.makeMap 51 (some (.int .i64 n))).run Tryz.prog W = .ok (.map (some W.heap.size)) (W.alloc (.map #[] 0)) := by
  simp [Instr.makeMap, run_underlying Tryz.underlying51, asInt, asIntOf, Result.andThen]
theorem NmAt.put {W : World} {b n : Nat} {l : List ByteArray} (h : NmAt W b n l) (hn : n < maxLen) (s : ByteArray) (hs : s.size ≤ maxLen) :
    ∃ W', (Instr.mapUpdate 51 (.map (some b)) (.string s) (.agg #[])).run Tryz.prog W = .ok () W' ∧ NmAt W' b (n + 1) (l ++ [s]) ∧ W.grownBy W' (some b) := by
  obtain ⟨D, hD, hl⟩ := h.ex
  obtain ⟨W', h1, h2, h3⟩ := hD.update (val := .agg #[]) law9 Tryz.underlying51 hn (key_run s hs) rfl
  refine ⟨W', h1, ⟨_, h2, fun s' => ?_⟩, h3⟩
  rw [look_put hD.isMap, hl s', inL_snoc]
  by_cases e : s' = s
  · simp [e]
  · have e' : ¬ s = s' := fun h => e h.symm
    simp [e, e']
set_option maxRecDepth 100000 in
set_option maxHeartbeats 1000000 in
/-- namesOf. -/
theorem names_any (p : Option Addr) (cap : Nat) (ss : List ByteArray) (w : World) (hB : StrsAt w p ss.length ss) (hn : ss.length ≤ 1048576) :
    Calls Tryz.prog 21 #[.slice p ss.length cap] w fun e w' => e = .returned (.map (some w.heap.size)) ∧ NmAt w' w.heap.size ss.length ss ∧ Below w.heap.size w w' := by
  have hmk := make_run63 w (ss.length : Int)
  have HM := hid (map_made w)
  have HL := hid (alloc_below0 w (.map #[] 0))
  have HB := hid hB
  clear hB
  go_enter Tryz.func21, Tryz.ntmps21
  go_wp2_with fail
  clear hmk
  generalize w.alloc (.map #[] 0) = V at HM HL ⊢
  go_loopw [11] (fun iv wr => ∃ i : Nat, i ≤ ss.length ∧ iv = .int .i64 i ∧ NmAt wr w.heap.size i (ss.take i) ∧ Below w.heap.size w wr) (fun iv _ => ss.length - (intOf iv).toNat)
  case atStart => exact ⟨0, Nat.zero_le _, rfl, ⟨_, HM.out, fun s => by simp [look_none, inL]⟩, HL.out⟩
  case round =>
    obtain ⟨i, hi, rfl, htab, hlow⟩ := hrel
    by_cases hlt : i < ss.length
    · obtain ⟨b1, o1, rfl, p0⟩ := (HB.out.below hlow).cells i hlt
      have hfit := HB.out.fits ss[i] (List.getElem_mem hlt)
      have htk : ss.take (i + 1) = ss.take i ++ [ss[i]] := List.take_succ_eq_append_getElem hlt
      obtain ⟨s, hs⟩ : ∃ s, ss[i] = s := ⟨_, rfl⟩
      rw [hs] at p0 hfit htk
      obtain ⟨W', hrun, htab', hgr⟩ := htab.put (by unfold maxLen; omega) s hfit
      have HT' := hid htab'; have HG := hid (map_low hlow hgr); have HTK := hid htk
      clear htab htab' hgr htk hs hlow
      go_wp2_with fail
      refine ⟨⟨i + 1, by omega, rfl, ?_, HG.out⟩, by simp [intOf]; omega⟩
      rw [HTK.out]
      exact HT'.out
    · have he : i = ss.length := by omega
      have ht : ss.take i = ss := List.take_of_length_le (by omega)
      rw [ht, he] at htab
      go_wp2
      go_ret
      exact ⟨rfl, htab, hlow⟩
set_option maxRecDepth 100000 in
set_option maxHeartbeats 1000000 in
/-- has. -/
theorem has_any (b n : Nat) (l : List ByteArray) (s : ByteArray) (w : World) (hN : NmAt w b n l) (hs : s.size ≤ maxLen) :
    Calls Tryz.prog 53 #[.map (some b), .string s] w fun e w' => e = .returned (.bool (inL l s)) ∧ Below w.heap.size w w' := by
  have hrun := look_run63 hN s hs
  obtain ⟨bv, hbv⟩ : ∃ bv, inL l s = bv := ⟨_, rfl⟩
  rw [hbv] at hrun ⊢
  have HL := hid (alloc_below0 w (.cells #[] 74))
  clear hN hbv
  go_enter Tryz.func53, Tryz.ntmps53
  go_wp2_with fail
  go_ret
  exact ⟨rfl, HL.out⟩
end Go.Proofs.YtgcnjpiiofjljaaGreatDoor
