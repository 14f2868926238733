/- follow, and the function that it hands back: the next mask that may fit. -/
import Derived.Deep.RegionWith
import Derived.Test.YteakakonjfcpmaaDoorPkTm
namespace Go.Proofs.YteakakonjfcpmaaDoor
open Go.RowKit Go.Shelf

/-- What follow's function reads: its three boxes, rows, wants, the library's table. -/
structure FolAt (X : Nat → Prop) (W : World) (bw bs br V : Nat) (pw : Option Addr) (cw : Nat) (ws : List Int) (pr : Option Addr) (cr : Nat) (rs : List (List Int)) : Prop where
  w : W.cell? ⟨bw, 0, none⟩ = some (.slice pw ws.length cw)
  s : W.cell? ⟨bs, 0, none⟩ = some (.slice (some ⟨V, 0, none⟩) ws.length ws.length)
  r : W.cell? ⟨br, 0, none⟩ = some (.slice pr rs.length cr)
  ints : IntsIn X W pw ws
  rows : RowsIn X W pr rs
  tab : Tab W
  nX : ¬ X V
  nw : bw ≠ V
  ns : bs ≠ V
  nr : br ≠ V
  n0 : V ≠ 0
theorem RowsIn.fr {X A : Nat → Prop} {w w' : World} {a : Option Addr} {rs : List (List Int)} (h : RowsIn X w a rs) (hf : Fr A w w') (hA : ∀ b, X b → ¬ A b) : RowsIn X w' a rs :=
  ⟨h.small, fun i hi => let ⟨b, o, p, c, h1, h2, h3, h4⟩ := h.cells i hi; ⟨b, o, p, c, h1, h2, hf.cell h3 (hA b h2), h4.small, fun j hj => let ⟨b', o', k1, k2, k3⟩ := h4.cells j hj; ⟨b', o', k1, k2, hf.cell k3 (hA b' k2)⟩⟩⟩
theorem IntsIn.fr {X A : Nat → Prop} {w w' : World} {a : Option Addr} {ns : List Int} (h : IntsIn X w a ns) (hf : Fr A w w') (hA : ∀ b, X b → ¬ A b) : IntsIn X w' a ns :=
  ⟨h.small, fun i hi => let ⟨b, o, h1, h2, h3⟩ := h.cells i hi; ⟨b, o, h1, h2, hf.cell h3 (hA b h2)⟩⟩
theorem FolAt.fr {X : Nat → Prop} {W W' : World} {bw bs br V : Nat} {pw : Option Addr} {cw : Nat} {ws : List Int} {pr : Option Addr} {cr : Nat} {rs : List (List Int)} (h : FolAt X W bw bs br V pw cw ws pr cr rs) (hf : Fr (fun b => b = V) W W') : FolAt X W' bw bs br V pw cw ws pr cr rs :=
  ⟨hf.cell h.w h.nw, hf.cell h.s h.ns, hf.cell h.r h.nr, h.ints.fr hf (fun _ hb e => h.nX (e ▸ hb)), h.rows.fr hf (fun _ hb e => h.nX (e ▸ hb)), fun i hi => hf.cell (h.tab i hi) (fun e => h.n0 e.symm), h.nX, h.nw, h.ns, h.nr, h.n0⟩
theorem shl_one (p : Nat) (h : p < 16) : IntKind.u32.wrap (2 ^ p) = ((2 ^ p : Nat) : Int) := by
  have h1 : 2 ^ p < 2 ^ 16 := Nat.pow_lt_pow_right (by omega) h
  have h2 : ((2 ^ p : Nat) : Int) < 4294967296 := by omega
  rw [IntKind.wrap_u32', show ((2 : Int) ^ p) = ((2 ^ p : Nat) : Int) by simp]
  exact Int.emod_eq_of_lt (Int.natCast_nonneg _) h2
/-- How the function ends. -/
def FolEnd (rs : List (List Int)) (ws : List Int) (V M : Nat) (w : World) (e : Ending) (w' : World) : Prop :=
  Fr (fun b => b = V) w w' ∧ ((∃ M' : Nat, e = .returned (.tuple #[.int .u32 M', .bool true]) ∧ M < M' ∧ M' < 2 ^ rs.length ∧ IRow w' V (sumN rs ws.length M') ∧ fromM (fitN rs ws) (2 ^ rs.length) (M + 1) = fromM (fitN rs ws) (2 ^ rs.length) M') ∨
    (e = .returned (.tuple #[.int .u32 0, .bool false]) ∧ fromM (fitN rs ws) (2 ^ rs.length) (M + 1) = []))
theorem top_le {rs : List (List Int)} {M p0 : Nat} (hM : M < 2 ^ rs.length) (hl : M % 2 ^ p0 = 0) (hk : p0 < rs.length ∨ p0 = 0) : M + 2 ^ p0 ≤ 2 ^ rs.length := by
  rcases hk with hk | rfl
  · have h3 := Nat.div_add_mod M (2 ^ p0)
    rw [hl, Nat.add_zero] at h3
    have h4 : 2 ^ rs.length = 2 ^ p0 * 2 ^ (rs.length - p0) := by rw [← Nat.pow_add]; congr 1; omega
    rw [← h3, h4] at hM ⊢
    have h5 := Nat.lt_of_mul_lt_mul_left hM
    have h6 : 2 ^ p0 * (M / 2 ^ p0 + 1) ≤ 2 ^ p0 * 2 ^ (rs.length - p0) := Nat.mul_le_mul_left _ h5
    rw [Nat.mul_add, Nat.mul_one] at h6
    exact h6
  · omega
theorem top_lt {A p k : Nat} (h : A.testBit p = false) (hp : p < k) (hle : A + 2 ^ p ≤ 2 ^ k) : A + 2 ^ p < 2 ^ k := by
  refine Nat.lt_of_le_of_ne hle fun e => ?_
  have h1 := bit_more h p
  rw [e, if_pos rfl, Nat.testBit_two_pow, decide_eq_false (by omega)] at h1
  cases h1
theorem mod_step {A p : Nat} (h0 : A % 2 ^ p = 0) (h1 : A.testBit p = true) : (A - 2 ^ p) % 2 ^ (p + 1) = 0 ∧ A - 2 ^ p + 2 ^ (p + 1) = A + 2 ^ p := by
  obtain ⟨q, hq⟩ := odd_part h0 h1
  have hle := bit_le h1
  have e1 : A - 2 ^ p = 2 ^ (p + 1) * q := by rw [hq, Nat.mul_add, Nat.mul_one, Nat.add_sub_cancel, Nat.pow_succ, Nat.mul_assoc]
  refine ⟨by rw [e1]; exact Nat.mul_mod_right _ _, ?_⟩
  rw [Nat.pow_succ]
  omega
set_option maxRecDepth 100000 in
set_option maxHeartbeats 4000000 in
theorem fol_from (X : Nat → Prop) (bw bs br V : Nat) (pw : Option Addr) (cw : Nat) (ws : List Int) (pr : Option Addr) (cr : Nat) (rs : List (List Int)) (M : Nat) (w : World) (hO : RowsOk rs ws.length) (hF : FolAt X w bw bs br V pw cw ws pr cr rs) (hI : IRow w V (sumN rs ws.length M)) (hM : M < 2 ^ rs.length) :
    Calls Tryd.prog 41 #[.int .u32 M, .pointer (some ⟨bw, 0, none⟩), .pointer (some ⟨bs, 0, none⟩), .pointer (some ⟨br, 0, none⟩)] w (FolEnd rs ws V M w) := by
  have hf16 := hO.few; have hw10 := hO.wide
  have hmax : maxLen = 9223372036854775807 := rfl
  have hk : 2 ^ rs.length ≤ 65536 := Nat.pow_le_pow_right (n := 2) (by omega) hf16
  have hlen := sumN_len (M := M) hO
  have h1 := too_any pw cw ws (some ⟨V, 0, none⟩) ws.length (sumN rs ws.length M) w hF.ints.at (hI.ints (by omega)) hlen
  rw [hlen] at h1
  have HT := hid h1; have HF := hid hF; have HI := hid hI; have HO := hid hO
  have c1 := hF.w; have c2 := hF.s; have c3 := hF.r
  have HM := hid hM
  clear h1 hI hO hlen hF
  obtain ⟨bv, hbv⟩ : ∃ bv, tooM ws (sumN rs ws.length M) = bv := ⟨_, rfl⟩
  have HBV := hid hbv
  rw [hbv] at HT
  clear hbv
  have HP : Hid (∃ p0, (p0 < rs.length ∨ p0 = 0) ∧ M % 2 ^ p0 = 0 ∧ (bv = false → p0 = 0) ∧ (bv = true → M.testBit p0 = true) ∧ ((p0 = 0) ∨ (tooM ws (sumN rs ws.length M) = true ∧ M % 2 ^ p0 = 0 ∧ M.testBit p0 = true))) := hid (by
    cases bv with
    | false => exact ⟨0, .inr rfl, by omega, fun _ => rfl, (fun h => by cases h), .inl rfl⟩
    | true =>
      have hne : M ≠ 0 := fun e => by
        have h2 := HBV.out
        rw [e, too_zero] at h2
        cases h2
      obtain ⟨p, h2, h3⟩ := low_there hne
      refine ⟨p, .inl (Nat.lt_of_not_le fun hle => ?_), h2, (fun h => by cases h), fun _ => h3, .inr ⟨HBV.out, h2, h3⟩⟩
      have h9 : 2 ^ rs.length ≤ 2 ^ p := Nat.pow_le_pow_right (by omega) hle
      have := bit_le h3
      omega)
  obtain ⟨p0, hp1, hp2, hp3, hp4, hp5⟩ := HP.out
  clear HP
  have HTZ : Hid (bv = true → Calls Tryd.prog 43 #[.int .u32 M] w fun e w' => e = .returned (.int .i64 p0) ∧ w' = w) := hid fun h => tz_any M p0 hp2 (hp4 h) (by omega) w HF.out.tab
  have HN := hid (next_skip HO.out hM hp5)
  have HP1 := hid hp1; have HP2 := hid hp2
  have hp16 : p0 ≤ 16 := by omega
  have hpk : p0 ≤ rs.length := by omega
  have hMz : M < 4294967296 := by omega
  clear hp1 hp2 hp4 hp5 hM
  go_enter Tryd.func41, Tryd.ntmps41
  go_wp2_with fail
  refine HT.out.mono ?_
  intro e w1 h1
  obtain ⟨rfl, h2⟩ := h1
  rw [h2]
  clear h2
  have HP3 := hid hp3
  clear hp3 HT HBV
  cases bv
  case' false =>
    have HP0 : Hid ((0 : Int) = (p0 : Int)) := hid (by rw [HP3.out rfl]; rfl)
    clear HP3 HTZ
    go_wp2_with fail
  case' true =>
    have HP0 : Hid ((p0 : Int) = (p0 : Int)) := rfl
    have HZ := hid (HTZ.out rfl)
    clear HP3 HTZ
    go_wp2_with fail
    refine HZ.out.mono ?_
    intro e w2 h1
    obtain ⟨rfl, h2⟩ := h1
    rw [h2]
    clear h2
    go_wp2_with fail
  all_goals
    go_loopw [0, 7] (fun mk pl wr => ∃ A p : Nat, mk = .int .u32 A ∧ pl = .int .i64 p ∧ p ≤ rs.length ∧ A + 2 ^ p = M + 2 ^ p0 ∧ A % 2 ^ p = 0 ∧ IRow wr V (sumN rs ws.length A) ∧ Fr (fun b => b = V) w wr) (fun _ pl _ => rs.length - (intOf pl).toNat)
    case atStart => exact ⟨M, p0, rfl, by first | rfl | rw [HP0.out], hpk, rfl, HP2.out, HI.out, Fr.refl _ _⟩
    case round =>
      obtain ⟨A, p, rfl, rfl, hp, hA, hA0, hI, hfr⟩ := hrel
      have hle := top_le HM.out HP2.out HP1.out
      have hpp := Nat.two_pow_pos p
      have hA2 : A < 2 ^ rs.length := by omega
      have hpp0 := Nat.two_pow_pos p0
      have F2 := HF.out.fr hfr.drew
      have c3' : wr.cell? ⟨br, 0, none⟩ = some (.slice pr rs.length cr) := F2.r
      have HFR := hid hfr; have HII := hid hI
      by_cases hlt : p < rs.length
      · have hx := shl_one p (by omega)
        obtain ⟨b1, o1, pp, cc, rfl, hXb, hcell, hints⟩ := F2.rows.cells p hlt
        have hmem : rs[p] ∈ rs := List.getElem_mem hlt
        have hlr := HO.out.len _ hmem
        have hls := sumN_len (M := A) HO.out
        have HCT := fun (o : Int) ho => count_fr V ws.length (sumN rs ws.length A) pp cc rs[p] o wr.drew hI (fun w' hw' => (hints.fr hw' (fun b hb e => F2.nX (e ▸ hb))).at) (by rw [hlr, hls]) (by rw [hls]; omega) ho (HO.out.nums _ hmem) (fun x hx => by have := sumN_bd HO.out x hx; omega)
        rw [hlr, hls] at HCT
        rw [hlr] at hcell
        have d2 := F2.s; have d3 := F2.r
        have hxo0 : 2 ^ p < 2 ^ 16 := Nat.pow_lt_pow_right (by omega) (show p < 16 by omega)
        cases htb : A.testBit p with
        | false =>
          have hxo : bits .xor .u32 (A : Int) ((2 ^ p : Nat) : Int) = ((A + 2 ^ p : Nat) : Int) := by
            rw [u32_xor_nat _ _ (by omega) (by omega), xor_more htb]
          have hup := sum_up HO.out htb hlt (by omega)
          have hlast := top_lt htb hlt (by omega)
          have hone := bit_more htb p
          rw [if_pos rfl] at hone
          have HNN : Hid (fromM (fitN rs ws) (2 ^ rs.length) (M + 1) = fromM (fitN rs ws) (2 ^ rs.length) (A + 2 ^ p)) := hid (by rw [HN.out, hA])
          have hgt : M < A + 2 ^ p := by omega
          obtain ⟨A', hA'⟩ : ∃ A', A + 2 ^ p = A' := ⟨_, rfl⟩
          rw [hA'] at hxo hup hlast hone HNN hgt
          have HH := has_any (A' : Int) p wr
          rw [hasB_bit A' p (by omega), hone] at HH
          have HH1 := hid HH; have HC1 := hid (HCT 1 (.inl rfl)); have HUP := hid hup; have HLA := hid hlast; have HGT := hid hgt
          generalize ((2 ^ p : Nat) : Int) = x2 at hx hxo
          clear HCT HH hup hlast hgt hone hA' hA hA0 hle hpp hpp0 F2 hI hfr hints hmem hls hlr hxo0 htb hXb
          go_wp2_with fail
          refine HH1.out.mono ?_
          rintro e w3 ⟨rfl, rfl⟩
          go_wp2_with fail
          go_region_with ((first
            | (go_at_call 29; refine Calls.mono HC1.out ?_; rintro e w4 ⟨⟨u, rfl⟩, hI4, hf4⟩; have HI4 := hid hI4; have HF4 := hid (HFR.out.drew.trans hf4); clear hI4 hf4)
            | fail))
          all_goals
            go_wp2_with fail
            go_ret2
            exact ⟨HF4.out, .inl ⟨A', rfl, HGT.out, HLA.out, by rw [← HUP.out]; exact HI4.out, HNN.out⟩⟩
        | true =>
          have hxo : bits .xor .u32 (A : Int) ((2 ^ p : Nat) : Int) = ((A - 2 ^ p : Nat) : Int) := by
            rw [u32_xor_nat _ _ (by omega) (by omega), xor_less htb]
          have hdn := sum_dn HO.out htb hlt (by omega)
          have hone := bit_less htb
          obtain ⟨hm1, hm2⟩ := mod_step hA0 htb
          rw [hA] at hm2
          have hle' := bit_le htb
          obtain ⟨A', hA'⟩ : ∃ A', A - 2 ^ p = A' := ⟨_, rfl⟩
          rw [hA'] at hxo hdn hone hm1 hm2
          have HH := has_any (A' : Int) p wr
          rw [hasB_bit A' p (by omega), hone] at HH
          have HH1 := hid HH; have HC1 := hid (HCT (-1) (.inr rfl)); have HDN := hid hdn; have HM1 := hid hm1; have HM2 := hid hm2
          generalize ((2 ^ p : Nat) : Int) = x2 at hx hxo
          clear HCT HH hdn hm1 hm2 hone hA' hA hA0 hle hpp hpp0 F2 hI hfr hints hmem hls hlr hxo0 htb hXb hle'
          go_wp2_with fail
          refine HH1.out.mono ?_
          rintro e w3 ⟨rfl, rfl⟩
          go_wp2_with fail
          go_region_with ((first
            | (go_at_call 29; refine Calls.mono HC1.out ?_; rintro e w4 ⟨⟨u, rfl⟩, hI4, hf4⟩; have HI4 := hid hI4; have HF4 := hid (HFR.out.drew.trans hf4); clear hI4 hf4)
            | fail))
          all_goals
            go_wp2_with fail
            go_roundw
            case rel => exact ⟨A', p + 1, rfl, by go_num, by omega, HM2.out, HM1.out, by rw [← HDN.out]; exact HI4.out, HF4.out⟩
            case measure => simp [intOf]; omega
      · have e1 : p = rs.length := by omega
        have e2 : A = 0 := by rw [e1] at hA0; rw [Nat.mod_eq_of_lt hA2] at hA0; exact hA0
        have HNN : Hid (fromM (fitN rs ws) (2 ^ rs.length) (M + 1) = []) := hid (by rw [HN.out, ← hA, e2, e1]; exact fromM_end (by omega))
        clear hA hA0 hI hfr F2 hle hpp hpp0 hA2 e2
        go_wp2_with fail
        go_ret2
        exact ⟨HFR.out, .inr ⟨rfl, HNN.out⟩⟩
set_option maxRecDepth 100000 in
set_option maxHeartbeats 4000000 in
theorem follow_any (r w s : Value) (W : World) (hr : ∃ p n c, r = .slice p n c) (hw : ∃ p n c, w = .slice p n c) (hs : ∃ p n c, s = .slice p n c) : Calls Tryd.prog 39 #[r, w, s] W fun e W' => e = .returned (.func (.func 41) #[] #[.pointer (some ⟨W.heap.size + 1, 0, none⟩), .pointer (some ⟨W.heap.size + 1 + 1, 0, none⟩), .pointer (some ⟨W.heap.size, 0, none⟩)]) ∧ W' = ((W.alloc (.cells #[r] 27)).alloc (.cells #[w] 29)).alloc (.cells #[s] 29) := by
  obtain ⟨_, _, _, rfl⟩ := hr
  obtain ⟨_, _, _, rfl⟩ := hw
  obtain ⟨_, _, _, rfl⟩ := hs
  go_enter Tryd.func39, Tryd.ntmps39
  go_wp2
  go_ret
  exact ⟨rfl, rfl⟩
end Go.Proofs.YteakakonjfcpmaaDoor
