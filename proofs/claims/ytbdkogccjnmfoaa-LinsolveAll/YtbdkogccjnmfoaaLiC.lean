/- Check. -/
import Derived.Test.YtbdkogccjnmfoaaLiB
namespace Go.Proofs.Ytbdkogccjnmfoaa
open Go.RowKit

/-- What may not be of coefficients. -/
def chkE (a b : List Int) : Int := if 5 < a.length ∨ 5 < b.length then 91 else if a.any badK = true ∨ b.any badK = true then 92 else 0
set_option maxRecDepth 100000 in
set_option maxHeartbeats 2000000 in
theorem check_any (p : Option Addr) (c : Nat) (a : List Int) (q : Option Addr) (d : Nat) (b : List Int) (w : World) (hA : IntsAt w p a) (hB : IntsAt w q b) :
    Calls Try.prog 11 #[.slice p a.length c, .slice q b.length d] w fun e w' => e = .returned (.int .i64 (chkE a b)) ∧ w' = w := by
  have HA := hid (containsK_any p c a w hA)
  have HB := hid (containsK_any q d b w hB)
  have hs1 := hA.small; have hs2 := hB.small
  have hmax : maxLen = 9223372036854775807 := rfl
  clear hA hB
  obtain ⟨R, hRR⟩ : ∃ R, chkE a b = R := ⟨_, rfl⟩
  rw [hRR]
  unfold chkE at hRR
  by_cases h1 : 5 < a.length
  · rw [if_pos (.inl h1)] at hRR
    subst hRR
    go_enter Try.func11, Try.ntmps11
    go_wp2_with fail
    go_ret
    exact ⟨rfl, rfl⟩
  by_cases h2 : 5 < b.length
  · rw [if_pos (.inr h2)] at hRR
    subst hRR
    go_enter Try.func11, Try.ntmps11
    go_wp2_with fail
    go_ret
    exact ⟨rfl, rfl⟩
  rw [if_neg (by omega)] at hRR
  cases ha : a.any badK with
  | true =>
    rw [ha, if_pos (.inl rfl)] at hRR
    subst hRR
    rw [ha] at HA
    go_enter Try.func11, Try.ntmps11
    go_wp2_with fail
    refine HA.out.mono ?_
    rintro e w1 ⟨rfl, rfl⟩
    go_wp2_with fail
    go_ret
    exact ⟨rfl, rfl⟩
  | false =>
  rw [ha] at HA
  cases hb : b.any badK with
  | true =>
    rw [hb, if_pos (.inr rfl)] at hRR
    subst hRR
    rw [hb] at HB
    go_enter Try.func11, Try.ntmps11
    go_wp2_with fail
    refine HA.out.mono ?_
    rintro e w1 ⟨rfl, rfl⟩
    clear HA
    go_wp2_with fail
    refine HB.out.mono ?_
    rintro e w1 ⟨rfl, rfl⟩
    go_wp2_with fail
    go_ret
    exact ⟨rfl, rfl⟩
  | false =>
    rw [ha, hb, if_neg (by simp)] at hRR
    subst hRR
    rw [hb] at HB
    go_enter Try.func11, Try.ntmps11
    go_wp2_with fail
    refine HA.out.mono ?_
    rintro e w1 ⟨rfl, rfl⟩
    clear HA
    go_wp2_with fail
    refine HB.out.mono ?_
    rintro e w1 ⟨rfl, rfl⟩
    go_wp2_with fail
    go_ret
    exact ⟨rfl, rfl⟩
end Go.Proofs.Ytbdkogccjnmfoaa
