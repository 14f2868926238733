/- What WordsApart walks. -/
import Derived.Test.YtfkfehkbdmemnaaTurn
namespace Go.Proofs.Ytfkfehkbdmemnaa
open Go.RowKit

set_option maxRecDepth 100000 in
set_option maxHeartbeats 4000000 in
theorem wordsApart_walk (s t : ByteArray) (w : World) (hst : s.size + t.size ≤ 1048576) :
    Calls Try.prog 7 #[.string s, .string t] w fun e w' => e = .returned (.bool true) ∧ Below w.heap.size w w' := by
  go_enter Try.func7, Try.ntmps7
  go_wp2_with fail
  refine (head_any _).mono ?_
  rintro e w1 ⟨rfl, hb1⟩
  have T1 : Hid (Below w.heap.size w w1) := hb1
  clear hb1
  go_wp2_with fail
  refine (list_any s _ (by omega)).mono ?_
  rintro e w2 ⟨v2, rfl, hrow2, hb2⟩
  have T2 : Hid (Below w.heap.size w w2) := T1.out.trans (hb2.mono T1.out.size)
  obtain ⟨A, ca, rfl, _, hatA, hA⟩ := wdsAt_of_owns hrow2
  have hA2 : Hid (∀ b off sp, A = some ⟨b, off, sp⟩ → b < w2.heap.size) := fun b off sp e => by
    obtain ⟨_, _, cur, hg, _⟩ := hA b off sp e
    exact (Array.getElem?_eq_some_iff.1 hg).1
  have HA2 : Hid (WdsAt w2 A (lstWords s).length (lstWords s)) := hatA
  clear hb2 hrow2 hA hatA
  go_wp2_with fail
  refine (list_any t _ (by omega)).mono ?_
  rintro e w3 ⟨v3, rfl, hrow3, hb3⟩
  have T3 : Hid (Below w.heap.size w w3) := T2.out.trans (hb3.mono T2.out.size)
  have HA3 : Hid (WdsAt w3 A (lstWords s).length (lstWords s)) := HA2.out.below hb3
  have hsz3 := hb3.size
  clear hb3
  obtain ⟨B, cb, rfl, hcb, _, hB⟩ := wdsAt_of_owns hrow3
  by_cases hes : errOf s = 0
  · by_cases het : errOf t = 0
    · have hls : lstWords s = wordsFrom s 0 := by unfold lstWords; rw [if_pos hes]
      have hlt : lstWords t = wordsFrom t 0 := by unfold lstWords; rw [if_pos het]
      have hj := (joined_of s t).words hes het
      have hlc : lstWords (s ++ ⟨#[32]⟩ ++ t) = wordsFrom s 0 ++ (wordsFrom t 0).map (shiftW (s.size + 1)) := by
        unfold lstWords; rw [if_pos hj.1, hj.2]
      have HEC : Hid (errOf (s ++ ⟨#[32]⟩ ++ t) = 0) := hj.1
      have HLC : Hid (lstWords (s ++ ⟨#[32]⟩ ++ t) = wordsFrom s 0 ++ (wordsFrom t 0).map (shiftW (s.size + 1))) := hlc
      have HSC : Hid ((s ++ ⟨#[32]⟩ ++ t).size ≤ 4398046511104) := by
        show _ ≤ _; rw [(joined_of s t).size]; omega
      rw [hls] at HA3 ⊢
      rw [hlt] at hrow3 hB hcb ⊢
      rw [hes, het]
      have hPL : Hid (∀ x ∈ wordsFrom t 0, x.place < t.size) := words_place t t.size 0 (Nat.zero_le _) (by omega)
      have hln := words_small s
      have hlm := words_small t
      clear hls hlt hj hlc HA2 hes het
      obtain ⟨ws, hws⟩ : ∃ ws, ws = wordsFrom s 0 := ⟨_, rfl⟩
      obtain ⟨us, hus⟩ : ∃ us, us = wordsFrom t 0 := ⟨_, rfl⟩
      rw [← hws] at HA3 HLC hln ⊢
      rw [← hus] at hrow3 hB hcb HLC hPL hlm ⊢
      clear hws hus
      have hne3 : Hid (∀ b, (Value.slice B us.length cb).ownBlock = some b → w2.heap.size ≤ b ∧ b < w3.heap.size) := by
        intro b hb
        rcases hrow3.2 with ⟨hv, _⟩ | ⟨g, cap, cur, hv, hbase, hg, _⟩
        · rw [hv] at hb; cases hb
        · rw [hv] at hb
          simp [Value.ownBlock] at hb
          subst hb
          exact ⟨hbase, (Array.getElem?_eq_some_iff.1 hg).1⟩
      go_wp2_with fail
      refine (list_any _ _ HSC.out).mono ?_
      rintro e w4 ⟨v4, rfl, hrow4, hb4⟩
      rw [HLC.out] at hrow4
      rw [HEC.out]
      obtain ⟨C, cc, rfl, hcc, hatC, hC⟩ := wdsAt_of_owns hrow4
      have hlen : (ws ++ us.map (shiftW (s.size + 1))).length = ws.length + us.length := by simp
      rw [hlen] at hatC hcc ⊢
      have HC4 : Hid (WdsAt w4 C (ws.length + us.length) (ws ++ us.map (shiftW (s.size + 1)))) := hatC
      have HA4 : Hid (WdsAt w4 A ws.length ws) := HA3.out.below hb4
      have HR4 : Hid (w4.ownsRow w2.heap.size 26 3 (.slice B us.length cb) us.length (wdCells us)) := owns_below hrow3 hb4
      have T4 : Hid (Below w.heap.size w w4) := T3.out.trans (hb4.mono T3.out.size)
      have hneC : Hid (∀ b off, C = some ⟨b, off, none⟩ → some b ≠ (Value.slice B us.length cb).ownBlock) := fun b off e h => by
        have h1 := (hC b off none e).1
        have h2 := (hne3.out b h.symm).2
        omega
      have hneA : Hid (∀ b off, A = some ⟨b, off, none⟩ → some b ≠ (Value.slice B us.length cb).ownBlock) := fun b off e h => by
        have h1 := hA2.out b off none e
        have h2 := (hne3.out b h.symm).1
        omega
      have hCoff : Hid (∀ b off sp, C = some ⟨b, off, sp⟩ → off = 0 ∧ sp = none) := fun b off sp e => by
        refine ⟨(hC b off sp e).2.1, ?_⟩
        rcases hrow4.2 with ⟨hv, _⟩ | ⟨g, cap, cur, hv, _⟩
        · injection hv with h1
          rw [h1] at e; cases e
        · injection hv with h1
          rw [h1] at e; cases e; rfl
      clear hrow3 hB hrow4 hb4 hatC hC HA3 HLC HEC HSC hlen
      go_wp2
      go_loopw [15] (fun i wr => ∃ k : Nat, i = .int .i64 k ∧ k ≤ us.length ∧ wr.ownsRow w2.heap.size 26 3 (.slice B us.length cb) us.length (wdCells (turnK (s.size + 1) us k)) ∧ w4.grownBy wr (Value.slice B us.length cb).ownBlock) (fun i _ => us.length - (intOf i).toNat)
      case atStart => exact ⟨0, rfl, Nat.zero_le _, by rw [turnK_zero]; exact HR4.out, ⟨rfl, rfl, rfl, Nat.le_refl _, fun _ _ _ => rfl⟩⟩
      case round =>
        obtain ⟨k, rfl, hk, hrow, hgr⟩ := hrel
        by_cases hlt : k < us.length
        · have hrow' := hrow
          obtain ⟨B', cb', hv, _, hat, hB'⟩ := wdsAt_of_owns hrow
          cases hv
          have hlk : k < (turnK (s.size + 1) us k).length := by rw [turnK_len]; exact hlt
          obtain ⟨g, off, rfl, hx⟩ := hat.cells k hlk
          obtain ⟨_, rfl, _⟩ := hB' g off none rfl
          rw [turnK_at _ _ _ hlt] at hx
          have c2 := hx.place
          rw [Nat.zero_add] at c2
          have f2 := owns_frozen hrow (k * 3 + 2)
          have hpl := hPL.out us[k] (List.getElem_mem hlt)
          have HROW : Hid (wr.ownsRow w2.heap.size 26 3 (.slice (some ⟨g, 0, none⟩) us.length cb) us.length (wdCells (turnK (s.size + 1) us k))) := hrow
          have HGR : Hid (w4.grownBy wr (Value.slice (some ⟨g, 0, none⟩) us.length cb).ownBlock) := hgr
          clear hrow hrow' hat hB' hx hgr
          have hk0 : (0 : Int) ≤ (k : Int) := by omega
          have hkn : (k : Int) < (us.length : Int) := by omega
          go_wp2
          have hz : ((us[k].place : Int) + s.size + 1) = ((s.size + 1 + us[k].place : Nat) : Int) := by omega
          go_roundw
          case rel =>
            refine ⟨k + 1, by go_num, by omega, ?_, ?_⟩
            · have h := owns_set HROW.out (k * 3 + 2) (.int .i64 ((us[k].place : Int) + s.size + 1))
              rw [hz] at h ⊢
              rw [wdCells_set _ k hlk, turnK_at _ _ _ hlt] at h
              rw [← turnK_succ _ _ _ hlt]
              exact h
            · have h := HGR.out
              refine ⟨h.os, h.tape, h.output, by simp [World.setCell]; exact h.size, fun i hi hne => ?_⟩
              rw [Below.heap_setCell _ _ _ i (fun e => hne (by rw [e]; rfl))]
              exact h.block i hi hne
          case measure => simp [intOf]; omega
        · have hkl : k = us.length := by omega
          rw [hkl, turnK_all] at hrow
          obtain ⟨B', cb', hv, _, hat, _⟩ := wdsAt_of_owns hrow
          cases hv
          have HBm : Hid (WdsAt wr B us.length (us.map (shiftW (s.size + 1)))) := hat
          have HAm : Hid (WdsAt wr A ws.length ws) := HA4.out.grown hgr hneA.out
          have hCm := HC4.out.grown hgr hneC.out
          have HT : Hid (Below w.heap.size w wr) := by
            have h4 := T4.out
            refine ⟨hgr.os.trans h4.os, hgr.tape.trans h4.tape, hgr.output.trans h4.output, Nat.le_trans h4.size hgr.size, fun i hi => ?_⟩
            have h2 := T2.out.size
            have h42 := h4.size
            rw [hgr.block i (by omega) (fun e => by have := (hne3.out i e.symm).1; omega)]
            exact h4.block i hi
          clear hrow hgr hat hkl HA4 HC4 hneA hneC hne3 HR4
          cases C with
          | none =>
            have h0 : ws.length + us.length = 0 := by
              rcases Nat.eq_zero_or_pos (ws.length + us.length) with h | h
              · exact h
              · obtain ⟨b, off, e, _⟩ := hCm.cells 0 (by rw [← hCm.len]; exact h)
                cases e
            obtain rfl : ws = [] := List.length_eq_zero_iff.1 (by omega)
            obtain rfl : us = [] := List.length_eq_zero_iff.1 (by omega)
            have HZ : Hid (∀ w, WdsAt w none 0 []) := fun w => ⟨rfl, Nat.zero_le _, fun i hi => absurd hi (by simp)⟩
            clear hCm h0
            simp only [List.length_nil, List.map_nil, Nat.add_zero] at HAm HBm hcc ⊢
            have hk0 : k = 0 := by simp at hk; omega
            subst hk0
            go_wp2_with fail
            refine (same_any _ _ _ _ _ [] _ (HZ.out _) HAm.out).mono ?_
            rintro e w6 ⟨rfl, hb6⟩
            have HB6 : Hid (WdsAt w6 B 0 []) := HBm.out.below hb6
            have T6 : Hid (Below w.heap.size w w6) := HT.out.trans (hb6.mono HT.out.size)
            clear hb6
            go_wp2_with fail
            refine (same_any _ _ _ _ _ [] _ (HZ.out _) HB6.out).mono ?_
            rintro e w7 ⟨rfl, hb7⟩
            have T7 : Hid (Below w.heap.size w w7) := T6.out.trans (hb7.mono T6.out.size)
            clear hb7
            go_wp2
            go_ret
            exact ⟨rfl, T7.out⟩
          | some ad =>
            obtain ⟨g, off, sp⟩ := ad
            obtain ⟨rfl, rfl⟩ := hCoff.out g off sp rfl
            have HC1 : Hid (WdsAt wr (some ⟨g, 0, none⟩) ws.length ws) := by
              have h := hCm.take (k := ws.length) (by omega)
              rwa [List.take_left] at h
            have HC2 : Hid (WdsAt wr (some ⟨g, 0 + ws.length * 3, none⟩) us.length (us.map (shiftW (s.size + 1)))) := by
              have h := hCm.drop (k := ws.length)
              rwa [List.drop_left, show ws.length + us.length - ws.length = us.length by omega] at h
            clear hCm
            have hcc' : (ws.length : Int) ≤ (cc : Int) := by omega
            go_wp2_with fail
            refine (same_any _ _ _ _ _ ws _ HC1.out HAm.out).mono ?_
            rintro e w6 ⟨rfl, hb6⟩
            have HB6 : Hid (WdsAt w6 B us.length (us.map (shiftW (s.size + 1)))) := HBm.out.below hb6
            have HC6 : Hid (WdsAt w6 (some ⟨g, 0 + ws.length * 3, none⟩) us.length (us.map (shiftW (s.size + 1)))) := HC2.out.below hb6
            have T6 : Hid (Below w.heap.size w w6) := HT.out.trans (hb6.mono HT.out.size)
            have HC7 : Hid (WdsAt w6 (some ⟨g, ws.length * 3, none⟩) us.length (us.map (shiftW (s.size + 1)))) := by
              have h := HC6.out
              rwa [Nat.zero_add] at h
            clear hb6
            go_wp2_with fail
            · have hu0 : us.length = 0 := by omega
              refine (same_any _ _ _ _ _ (us.map (shiftW (s.size + 1))) _ ⟨by simp, by rw [hu0]; exact Nat.zero_le _, fun i hi => absurd hi (by simp; omega)⟩ HB6.out).mono ?_
              rintro e w7 ⟨rfl, hb7⟩
              have T7 : Hid (Below w.heap.size w w7) := T6.out.trans (hb7.mono T6.out.size)
              clear hb7
              go_wp2
              go_ret
              exact ⟨rfl, T7.out⟩
            · refine (same_any _ _ _ _ _ (us.map (shiftW (s.size + 1))) _ HC7.out HB6.out).mono ?_
              rintro e w7 ⟨rfl, hb7⟩
              have T7 : Hid (Below w.heap.size w w7) := T6.out.trans (hb7.mono T6.out.size)
              clear hb7
              go_wp2
              go_ret
              exact ⟨rfl, T7.out⟩
    · have hne : (errOf t != 0) = true := by simpa using het
      rw [hes]
      clear hes het
      clear hrow3 hB
      go_wp2
      go_ret
      exact ⟨rfl, T3.out⟩
  · have hne : (errOf s != 0) = true := by simpa using hes
    clear hes
    clear hrow3 hB
    go_wp2
    go_ret
    exact ⟨rfl, T3.out⟩
end Go.Proofs.Ytfkfehkbdmemnaa
