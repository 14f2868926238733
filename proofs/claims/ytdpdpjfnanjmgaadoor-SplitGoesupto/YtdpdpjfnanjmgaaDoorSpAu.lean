/- The document's All. -/
import Derived.Test.YtdpdpjfnanjmgaaDoorSpAt
import Derived.Test.YtdpdpjfnanjmgaaDoorSpAa
namespace Go.Proofs.YtdpdpjfnanjmgaaDoor
open Go.RowKit Go.Shelf

set_option maxRecDepth 100000 in
set_option maxHeartbeats 4000000 in
theorem rall_bad (a b : Option Addr) (c d : Nat) (m k : List Int) (e : Bool) (most : Int) (w : World) (hM : IntsAt w a m) (hK : IntsAt w b k) (h : chkE m k ≠ 0) :
    Calls Tryd.prog 11 #[.slice a m.length c, .slice b k.length d, .bool e, .int .i64 most] w fun en w' => en = .returned (.slice none 0 0) ∧ w' = w := by
  have H := hid (rchk_any a b c d m k w hM hK)
  have hne : (chkE m k != 0) = true := by simpa using h
  clear hM hK h
  go_enter Tryd.func11, Tryd.ntmps11
  go_wp2_with fail
  refine H.out.mono ?_
  rintro en w1 ⟨rfl, rfl⟩
  go_wp2_with fail
  go_ret
  exact ⟨rfl, rfl⟩
set_option maxRecDepth 100000 in
set_option maxHeartbeats 4000000 in
theorem rall_any (a b : Option Addr) (c d : Nat) (m k : List Nat) (e : Bool) (most : Nat) (w : World) (hM : IntsAt w a (up m)) (hK : IntsAt w b (up k)) (hF : Fine m k) (hcap : k.length ≤ d) (h1 : 1 ≤ most) (hmost : most ≤ 1000000) :
    Calls Tryd.prog 11 #[.slice a m.length c, .slice b k.length d, .bool e, .int .i64 (most : Int)] w fun en w' => ∃ po oc, en = .returned (.slice po ((WW e k m).take most).length oc) ∧ WaysZ w' w.heap.size (.slice po ((WW e k m).take most).length oc) ((WW e k m).take most) ∧ Below w.heap.size w w' := by
  have hrc := rchk_any a b c d (up m) (up k) w hM hK
  rw [fine_chk hF, up_len, up_len] at hrc
  have HRC := hid hrc
  have hdl := deal_any e most hmost k hF.often a c m b d none 0 [] none 0 [] w.heap.size w hM hK hcap (WayZ.nil _ _) (WaysZ.nil _ _) (Nat.le_refl _) (by simpa using hF.takers) (fun r hr => absurd hr (by simp)) (show 0 < most by omega) hF.few hF.small (fun g o _ h => by cases h) (fun g o _ h => by cases h)
  simp only [List.nil_append, List.length_nil, Nat.sub_zero] at hdl
  rw [show (WW e k m).map (fun x => x) = WW e k m from List.map_id' _] at hdl
  obtain ⟨L, hL⟩ : ∃ L, (WW e k m).take most = L := ⟨_, rfl⟩
  rw [hL] at hdl ⊢
  clear hL
  have HDL := hid hdl
  have hmz : ¬ (most : Int) < 1 := by omega
  clear hM hK hF hrc hdl
  go_enter Tryd.func11, Tryd.ntmps11
  go_wp2_with fail
  refine HRC.out.mono ?_
  rintro en w1 ⟨rfl, rfl⟩
  go_wp2_with fail
  refine HDL.out.mono ?_
  rintro en w2 ⟨po, oc, rfl, hz1, hz2, hz3⟩
  have HZ1 := hid hz1; have HZ2 := hid hz2
  clear hz1 hz2 hz3
  go_wp2_with fail
  go_ret
  exact ⟨po, oc, rfl, HZ1.out, HZ2.out.below (fun q hq => by cases hq) (Nat.le_refl _)⟩
end Go.Proofs.YtdpdpjfnanjmgaaDoor
