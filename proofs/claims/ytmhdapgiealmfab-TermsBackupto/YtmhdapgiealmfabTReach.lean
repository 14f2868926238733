/- Where the program's reach leads; what At answers. -/
import Derived.Test.YtmhdapgiealmfabTPath
import Derived.Test.YtmhdapgiealmfabTClone
namespace Go.Proofs.Ytmhdapgiealmfab
open Go.RowKit Go.Deep

/-- The term that the path leads to, with its cells. -/
structure Led (w : World) (ps : List Int) (b o : Nat) (t : Tn) (v : Value) (u : Tn) : Prop where
  at_ : ∃ b' o' a c, v = .pointer (some ⟨b', o', none⟩) ∧ Node w b' o' u.1 a c u.2 ∧ TmAt w u.1 a c u.2 ∧ Leads w ps b o t b' o'

theorem leads_step {w : World} {ps : List Int} {k : Nat} (hk : k < ps.length) {b o : Nat} {t : Tn} {g q c n : Nat} {u : Tn} {b' o' : Nat} (hi : ps[k] = (n : Int)) (hn : n < lenF t.2) (hu : (kidsL t.2)[n]? = some u)
    (hc : w.cell? ⟨b, o + 2, none⟩ = some (.slice (some ⟨g, q, none⟩) (lenF t.2) c)) (h : Leads w (ps.drop (k + 1)) g (q + n * 3) u b' o') : Leads w (ps.drop k) b o t b' o' := by
  rw [List.drop_eq_getElem_cons hk, hi]
  exact ⟨n, g, q, c, u, rfl, hn, hu, hc, h⟩

set_option maxRecDepth 100000 in
set_option maxHeartbeats 2000000 in
theorem reach_any (ps : List Int) (b0 o0 : Nat) (t0 : Tn) (a0 : Option Addr) (c0 : Nat) (pa : Option Addr) (pn pc : Nat) (w : World) (hN : Node w b0 o0 t0.1 a0 c0 t0.2) (hT : TmAt w t0.1 a0 c0 t0.2) (hP : IntsAt w pa pn ps) (hpn : pn ≤ 9223372036854775807) :
    Calls Try.prog 13 #[.pointer (some ⟨b0, o0, none⟩), .slice pa pn pc] w fun e w' => ∃ v, e = .returned v ∧ w' = w ∧ ((subT ps t0 = none ∧ v = .pointer none) ∨ ∃ u, subT ps t0 = some u ∧ Led w ps b0 o0 t0 v u) := by
  have HP : Hid (IntsAt w pa pn ps) := hP
  obtain rfl := hP.len
  have I0 : Hid (Node w b0 o0 t0.1 a0 c0 t0.2 ∧ TmAt w t0.1 a0 c0 t0.2) := ⟨hN, hT⟩
  clear hN hT hP
  go_enter Try.func13, Try.ntmps13
  go_wp2
  go_loopw [0, 6, 9] (fun v _ i wr => ∃ (k b o : Nat) (t : Tn) (a : Option Addr) (c : Nat), k ≤ ps.length ∧ v = .pointer (some ⟨b, o, none⟩) ∧ i = .int .i64 k ∧ wr = w ∧ Node w b o t.1 a c t.2 ∧ TmAt w t.1 a c t.2 ∧ subT (ps.drop k) t = subT ps t0 ∧ ∀ b' o', Leads w (ps.drop k) b o t b' o' → Leads w ps b0 o0 t0 b' o') (fun _ _ i _ => ps.length - (intOf i).toNat)
  case atStart => exact ⟨0, b0, o0, t0, a0, c0, Nat.zero_le _, rfl, rfl, rfl, I0.out.1, I0.out.2, rfl, fun _ _ h => h⟩
  case round =>
    obtain ⟨k, b, o, t, a, c, hk, rfl, rfl, rfl, hN, hT, hS, hL⟩ := hrel
    have HN : Hid (Node wr b o t.1 a c t.2) := hN
    have HT : Hid (TmAt wr t.1 a c t.2) := hT
    have HS : Hid (subT (ps.drop k) t = subT ps t0) := hS
    have HL : Hid (∀ b' o', Leads wr (ps.drop k) b o t b' o' → Leads wr ps b0 o0 t0 b' o') := hL
    have q2 := hN.list
    have hnl : lenF t.2 ≤ 9223372036854775807 := by have := hT.sizes.len; have := hT.sizes.cap; unfold maxLen at *; omega
    clear hN hT hS hL
    by_cases hlt : k < ps.length
    · obtain ⟨pb, po, rfl, p0⟩ := HP.out.cells k hlt
      obtain ⟨i, hid⟩ : ∃ i, ps[k] = i := ⟨_, rfl⟩
      rw [hid] at p0
      have HD : Hid (ps.drop k = i :: ps.drop (k + 1)) := by show _ = _; rw [List.drop_eq_getElem_cons hlt, hid]
      by_cases hbad : i < 0
      · have e : Hid (subT ps t0 = none) := by
          show _ = _
          rw [← HS.out, HD.out, subT, kidT_bad (by omega)]
        go_wp2
        go_ret
        exact ⟨_, rfl, rfl, .inl ⟨e.out, rfl⟩⟩
      · obtain ⟨n, rfl⟩ : ∃ n : Nat, i = n := ⟨i.toNat, by omega⟩
        by_cases hge : lenF t.2 ≤ n
        · have e : Hid (subT ps t0 = none) := by
            show _ = _
            rw [← HS.out, HD.out, subT, kidT_bad (by omega)]
          go_wp2
          go_ret
          exact ⟨_, rfl, rfl, .inl ⟨e.out, rfl⟩⟩
        · obtain ⟨g, q, rfl, hkk⟩ := HT.out.args.get (by omega)
          obtain ⟨y, a1, c1, l1, kd⟩ := hkk.kid (k := n) (by omega)
          obtain ⟨B1, O1, sp⟩ := kd.split
          have hu := kids_split sp
          have KD : Hid (Kid wr t.2 g q n y a1 c1 l1) := kd
          have HU : Hid ((kidsL t.2)[n]? = some (y, l1)) := hu
          clear hkk kd sp hu
          go_wp2
          go_roundw
          case rel =>
            refine ⟨k + 1, g, q + n * 3, (y, l1), a1, c1, by omega, rfl, by go_num, trivial, ⟨KD.out.name, KD.out.sym, KD.out.list⟩, KD.out.at_, ?_, fun b' o' h => HL.out b' o' (leads_step hlt hid (by omega) HU.out q2 h)⟩
            rw [← HS.out, HD.out, subT, kidT_is (by omega) HU.out]
          case measure => simp [intOf]; omega
    · have e1 : ps.drop k = [] := List.drop_eq_nil_iff.2 (by omega)
      rw [Hid] at HS HL
      rw [e1] at HS HL
      have HS' : Hid (some t = subT ps t0) := HS
      have HL' : Hid (∀ b' o', Leads wr [] b o t b' o' → Leads wr ps b0 o0 t0 b' o') := HL
      clear HS HL
      go_wp2
      go_ret
      exact ⟨_, rfl, rfl, .inr ⟨t, HS'.out.symm, ⟨b, o, a, c, rfl, HN.out, HT.out, HL'.out b o ⟨rfl, rfl⟩⟩⟩⟩
end Go.Proofs.Ytmhdapgiealmfab
