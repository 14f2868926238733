/- What Find answers: the program's and the document's. -/
import Derived.Test.YtppgmepmegelbaaGreatDoorSigMem
namespace Go.Proofs.YtppgmepmegelbaaGreatDoor
open Go.RowKit

def FindRet (l : List Sym) (nm : ByteArray) (e : Ending) : Prop := e = .returned (.tuple #[.int .i64 (findI l nm), .bool (findB l nm)])

set_option maxHeartbeats 400000 in
theorem rfind_any (a : Option Addr) (n cap : Nat) (l : List Sym) (nm : ByteArray) (w : World) (h : SigAt w a n l) :
    Calls Tryz.prog 57 #[.slice a n cap, .string nm] w fun e w' => FindRet l nm e ∧ w' = w := by
  obtain ⟨hl, hm, hcells, _⟩ := h
  unfold maxLen at hm
  have HL : Hid (n = l.length) := hl
  clear hl
  have HC : Hid (∀ i (h : i < l.length), ∃ b off, a = some ⟨b, off, none⟩ ∧ SymAt w b (off + i * 4) l[i]) := hcells
  clear hcells
  go_enter Tryz.func57, Tryz.ntmps57
  go_wp2
  go_loop [6] (fun i => ∃ k : Nat, k ≤ n ∧ i = .int .i64 k ∧ ∀ j (hj : j < l.length), j < k → sameB l[j].name nm = false) (fun i => n - (intOf i).toNat)
  case atStart => exact ⟨0, Nat.zero_le _, rfl, fun j _ h => absurd h (by omega)⟩
  case round =>
    obtain ⟨k, hk, rfl, hno⟩ := hrel
    have HN : Hid (∀ j (hj : j < l.length), j < k → sameB l[j].name nm = false) := hno
    clear hno
    by_cases hlt : k < n
    · have hlk : k < l.length := by have := HL.out; omega
      obtain ⟨b, off, rfl, hw⟩ := HC.out k hlk
      have c0 := hw.name
      clear hw
      cases ht : (l[k].name.toList == nm.toList)
      · go_wp2
        go_round
        case rel => exact ⟨k + 1, by omega, by go_num, fun j hj h => by
          rcases Nat.lt_succ_iff_lt_or_eq.1 h with h | rfl
          · exact HN.out j hj h
          · exact ht⟩
        case measure => simp [intOf]; omega
      · have hf : Hid (findL l nm = some k) := find_hit hlk ht HN.out
        go_wp2
        go_ret2
        exact ⟨by unfold FindRet; rw [findI_some hf.out, findB_some hf.out]; rfl, rfl⟩
    · have hf : Hid (findL l nm = none) := find_miss fun j hj => HN.out j hj (by have := HL.out; omega)
      go_wp2
      go_ret2
      exact ⟨by unfold FindRet; rw [findI_none hf.out, findB_none hf.out]; rfl, rfl⟩
end Go.Proofs.YtppgmepmegelbaaGreatDoor
