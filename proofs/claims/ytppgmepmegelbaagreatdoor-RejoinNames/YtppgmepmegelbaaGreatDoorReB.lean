/- What the program's check says of rows. -/
import Derived.Test.YtppgmepmegelbaaGreatDoorReA
namespace Go.Proofs.YtppgmepmegelbaaGreatDoor
open Go.RowKit Go.Deep

set_option maxRecDepth 100000 in
set_option maxHeartbeats 1000000 in
/-- The first of the rows of which the closure says so. -/
theorem indexR_any (u B : Nat) (a : Option Addr) (c : Nat) (rs : List (List Int)) (w : World) (hB : Box w B 3 #[.int .i64 u]) (hN : RowsZ w a rs) :
    Calls Tryz.prog 63 #[.slice a rs.length c, .func (.func 37) #[] #[.pointer (some ⟨B, 0, none⟩)]] w fun e w' => (∃ r : Int, e = .returned (.int .i64 r) ∧ decide (0 ≤ r) = rs.any (badR u)) ∧ w' = w := by
  have HN := hid hN; have HB := hid hB
  have hmax : maxLen = 9223372036854775807 := rfl
  have hsm := hN.small
  clear hN hB
  go_enter Tryz.func63, Tryz.ntmps63
  go_wp2
  go_loopw [4, 5, 8] (fun _ _ i wr => ∃ j : Nat, j ≤ rs.length ∧ i = .int .i64 j ∧ wr = w ∧ (rs.drop j).any (badR u) = rs.any (badR u)) (fun _ _ i _ => rs.length - (intOf i).toNat)
  case atStart => exact ⟨0, Nat.zero_le _, rfl, rfl, rfl⟩
  case round =>
    obtain ⟨j, hj, rfl, rfl, hm⟩ := hrel
    by_cases hlt : j < rs.length
    · obtain ⟨b, o, p, c2, rfl, hc, hr⟩ := HN.out.cells j hlt
      rw [List.drop_eq_getElem_cons hlt, List.any_cons] at hm
      obtain ⟨x, hx⟩ : ∃ x, rs[j] = x := ⟨_, rfl⟩
      rw [hx] at hm hc hr
      have HM := hid hm
      obtain ⟨bv, hbv⟩ : ∃ bv, badR u x = bv := ⟨_, rfl⟩
      have HC := hid (wrong_any u B p c2 x wr HB.out hr)
      rw [hbv] at HC HM
      clear hm hx hbv hr
      cases bv
      · go_wp2_with (go_at_call 37; refine HC.out.mono ?_; rintro e w1 ⟨rfl, rfl⟩)
        go_roundw
        case rel => exact ⟨j + 1, by omega, by go_num, trivial, HM.out⟩
        case measure => simp [intOf]; omega
      · go_wp2_with (go_at_call 37; refine HC.out.mono ?_; rintro e w1 ⟨rfl, rfl⟩)
        go_ret
        exact ⟨⟨j, rfl, by rw [← HM.out]; simp⟩, rfl⟩
    · have e1 : j = rs.length := by omega
      rw [e1, List.drop_length] at hm
      have HM := hid hm
      clear hm
      go_wp2
      go_ret
      exact ⟨⟨-1, rfl, by rw [← HM.out]; rfl⟩, rfl⟩
set_option maxRecDepth 100000 in
set_option maxHeartbeats 1000000 in
theorem containsR_any (u B : Nat) (a : Option Addr) (c : Nat) (rs : List (List Int)) (w : World) (hB : Box w B 3 #[.int .i64 u]) (hN : RowsZ w a rs) :
    Calls Tryz.prog 41 #[.slice a rs.length c, .func (.func 37) #[] #[.pointer (some ⟨B, 0, none⟩)]] w fun e w' => e = .returned (.bool (rs.any (badR u))) ∧ w' = w := by
  have H := hid (indexR_any u B a c rs w hB hN)
  clear hN hB
  go_enter Tryz.func41, Tryz.ntmps41
  go_wp2_with fail
  refine H.out.mono ?_
  rintro e w1 ⟨⟨r, rfl, hr⟩, rfl⟩
  have HR := hid hr
  clear hr H
  go_wp2_with fail
  go_ret
  exact ⟨by rw [← HR.out]; rfl, rfl⟩
/-- Does a symbol stand there whose terms are sums? -/
def sumB (l : List Sym) (f : Int) : Bool := if h : 0 ≤ f ∧ f.toNat < l.length then l[f.toNat].kind == 2 || l[f.toNat].kind == 3 else false
set_option maxRecDepth 100000 in
set_option maxHeartbeats 1000000 in
theorem isSum_any (S : Option Addr) (n cap : Nat) (l : List Sym) (f : Int) (w : World) (hS : SigAt w S n l) :
    Calls Tryz.prog 40 #[.slice S n cap, .int .i64 f] w fun e w' => e = .returned (.bool (sumB l f)) ∧ w' = w := by
  have hn := hS.len
  have hmax : maxLen = 9223372036854775807 := rfl
  have hsm := hS.small
  by_cases h0 : 0 ≤ f
  · obtain ⟨k, rfl⟩ : ∃ k : Nat, f = k := ⟨f.toNat, by omega⟩
    by_cases h1 : k < l.length
    · obtain ⟨b, o, rfl, q0, q1, q2, q3⟩ := hS.cells k h1
      have hb : sumB l (k : Int) = (l[k].kind == 2 || l[k].kind == 3) := by
        unfold sumB
        rw [dif_pos ⟨h0, by omega⟩]
        simp
      rw [hb]
      obtain ⟨kd, hkd⟩ : ∃ kd, l[k].kind = kd := ⟨_, rfl⟩
      rw [hkd] at q1 ⊢
      subst hn
      clear hS hb hkd h0
      by_cases hk : kd = 2
      · subst hk
        go_enter Tryz.func40, Tryz.ntmps40
        go_wp2_with fail
        go_ret
        exact ⟨rfl, rfl⟩
      · have hk2 : (kd == 2) = false := by simpa using hk
        rw [hk2, Bool.false_or]
        go_enter Tryz.func40, Tryz.ntmps40
        go_wp2_with fail
        go_ret
        exact ⟨rfl, rfl⟩
    · have hb : sumB l (k : Int) = false := by unfold sumB; rw [dif_neg (by omega)]
      rw [hb]
      have hk : ¬ (k : Int) < (n : Int) := by omega
      clear hS hb hn h1
      go_enter Tryz.func40, Tryz.ntmps40
      go_wp2_with fail
      go_ret
      exact ⟨rfl, rfl⟩
  · have hb : sumB l f = false := by unfold sumB; rw [dif_neg (by omega)]
    rw [hb]
    clear hS hb hn
    go_enter Tryz.func40, Tryz.ntmps40
    go_wp2_with fail
    go_ret
    exact ⟨rfl, rfl⟩
end Go.Proofs.YtppgmepmegelbaaGreatDoor
