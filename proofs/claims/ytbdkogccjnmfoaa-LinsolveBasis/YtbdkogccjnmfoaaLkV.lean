/- LinsolveBasis: the walk. -/
import Derived.Test.YtbdkogccjnmfoaaLkU
namespace Go.Proofs.Ytbdkogccjnmfoaa
open Go.RowKit Go.Shelf

theorem rows_of {w : World} {base : Nat} {q : Option Addr} {c : Nat} {vs : List Vc} (h : XRow w base (.slice q vs.length c) vs) (hl : vs.length ≤ 16) (L : List (List Nat)) (hL : vs.map Vc.l = L) : RowsAt w q (L.map toI) := by
  have h1 := h.rows (by unfold maxLen; omega)
  rw [← hL, List.map_map]
  exact h1
theorem spoilAll_any (base : Nat) (q : Option Addr) (c : Nat) (vs : List Vc) (w0 w : World) (h0 : XRowZ w0 base (.slice q vs.length c) vs) (h : XRowZ w base (.slice q vs.length c) vs) (hge : ∀ x ∈ vs, base ≤ x.b) :
    Calls Try.prog 18 #[.slice q vs.length c] w fun e w' => (∃ u, e = .returned u) ∧ Fr (fun k => base ≤ k ∧ k < w0.heap.size) w w' := by
  rcases h.own with ⟨h1, hv⟩ | ⟨g, cap, h1, h2, h3, h4, h5⟩
  · subst hv
    injection h1 with h1 _ h01
    subst h1 h01
    refine (spoilAll_none w).mono ?_
    rintro e w' ⟨hu, rfl⟩
    exact ⟨hu, Fr.refl _ _⟩
  · injection h1 with h1 _ h11
    subst h1 h11
    refine (spoilAll_some g vs.length c vs w rfl h3 h4 h5 h.vec).mono ?_
    rintro e w' ⟨hu, hf⟩
    refine ⟨hu, hf.mono (fun k hk => ?_)⟩
    rcases hk with rfl | ⟨x, hx, rfl⟩
    · obtain ⟨cur, k1, k2⟩ := own_blk h0.row (q := k) rfl
      exact ⟨h2, (Array.getElem?_eq_some_iff.1 k1).1⟩
    · obtain ⟨cur, k1, _⟩ := (h0.vec x hx).blk
      exact ⟨hge x hx, (Array.getElem?_eq_some_iff.1 k1).1⟩
theorem XRow.fr {w w' : World} {base V : Nat} {v : Value} {vs : List Vc} (h : XRow w V v vs) (hge : ∀ x ∈ vs, V ≤ x.b) (hf : Fr (fun k => base ≤ k ∧ k < V) w w') : XRow w' V v vs :=
  h.keep (fun q hq => by obtain ⟨cur, h1, h2⟩ := own_blk h.row hq; exact hf.same q (Array.getElem?_eq_some_iff.1 h1).1 (by omega)) (fun x hx => by obtain ⟨cur, h1, _⟩ := (h.vec x hx).blk; have := hge x hx; exact hf.same _ (Array.getElem?_eq_some_iff.1 h1).1 (by omega))
set_option maxRecDepth 100000 in
set_option maxHeartbeats 8000000 in
theorem linsolveBasis_walk (p : Option Addr) (c : Nat) (a : List Int) (q : Option Addr) (d : Nat) (b : List Int) (w : World) (hA : IntsAt w p a) (hB : IntsAt w q b) (hp : p = none → c = 0) (ha : a.length ≤ 17592186043904) (_ : ∀ x ∈ a, Is64 x) (hq : q = none → d = 0) (hb : b.length ≤ 17592186043904) (_ : ∀ x ∈ b, Is64 x) :
    Calls Try.prog 4 #[.slice p a.length c, .slice q b.length d] w fun e w' => e = .returned (.bool true) ∧ Below w.heap.size w w' := by
  have hmax : maxLen = 9223372036854775807 := rfl
  have HA := hid hA; have HB := hid hB; have HP := hid hp; have HQ := hid hq; have HLA := hid ha; have HLB := hid hb
  clear hA hB hp hq ha hb
  go_enter Try.func4, Try.ntmps4
  go_wp2_with fail
  refine (lives_any w).mono ?_
  rintro e w1 ⟨rfl, hb1⟩
  have HB1 := hid hb1
  have HL1 := hid (lent_any p c a w1 (HA.out.below hb1) HP.out HLA.out)
  clear hb1
  go_wp2_with fail
  refine HL1.out.mono ?_
  rintro e w2 ⟨g1, rfl, hl1, hb2⟩
  have HB2 : Hid (Below w.heap.size w w2) := hid (HB1.out.trans (hb2.mono HB1.out.size))
  have HX1 := hid hl1
  have HL2 := hid (lent_any q d b w2 (HB.out.below HB2.out) HQ.out HLB.out)
  clear hb2 hl1 HL1
  go_wp2_with fail
  refine HL2.out.mono ?_
  rintro e w3 ⟨g2, rfl, hl2, hb3⟩
  have HB3 : Hid (Below w.heap.size w w3) := hid (HB2.out.trans (hb3.mono HB2.out.size))
  have HX1' := hid (HX1.out.below hb3)
  have HX2 := hid hl2
  have HCK := hid (check_any (some ⟨g1, 0, none⟩) (a.length + 1) a (some ⟨g2, 0, none⟩) (b.length + 1) b w3 HX1'.out.ints.at hl2.ints.at)
  have HBA := hid (basis_p (some ⟨g1, 0, none⟩) (a.length + 1) a (some ⟨g2, 0, none⟩) (b.length + 1) b w3 HX1'.out.ints.at hl2.ints.at)
  obtain ⟨z, hz⟩ : ∃ z, chkE a b = z := ⟨_, rfl⟩
  rw [hz] at HCK
  have HZ := hid hz
  clear hb3 hl2 HL2 HX1 hz
  go_wp2_with fail
  refine HCK.out.mono ?_
  rintro e w4 ⟨rfl, hw4⟩
  subst hw4
  rename World => w3
  clear HCK
  go_wp2_with fail
  refine HBA.out.mono ?_
  rintro e w5 ⟨hb5, ql, cl, vs, E, rfl, hXl, hgl, hBl⟩
  have HB5 : Hid (Below w3.heap.size w3 w5) := hid hb5
  have HXL := hid hXl; have HGL := hid hgl; have HBL := hid hBl
  have HBM := hid (basis_p (some ⟨g1, 0, none⟩) (a.length + 1) a (some ⟨g2, 0, none⟩) (b.length + 1) b w5 (HX1'.out.below hb5).ints.at (HX2.out.below hb5).ints.at)
  have hl16 : vs.length ≤ 16 := by have := hBl.len; rw [List.length_map] at this; exact this
  obtain ⟨L, hL⟩ : ∃ L, vs.map Vc.l = L := ⟨_, rfl⟩
  have HLL := hid hL
  obtain ⟨n, hn⟩ : ∃ n, vs.length = n := ⟨_, rfl⟩
  have hLn : L.length = n := by rw [← hL, List.length_map, hn]
  rw [hn]
  have HNN := hid hn; have HLN := hid hLn
  clear hb5 hXl hgl hBl HBA hL hn hLn
  go_wp2_with fail
  refine HBM.out.mono ?_
  rintro e w6 ⟨hb6, qm, cm, us, E2, rfl, hXm, hgm, hBm⟩
  obtain ⟨hu1, hu2⟩ := hBm.unique HBL.out
  have HB6 : Hid (Below w5.heap.size w5 w6) := hid hb6
  have HXM := hid hXm; have HGM := hid hgm
  have HUM : Hid (us.map Vc.l = L) := hid (by rw [hu1, HLL.out])
  have hun : us.length = n := by have := HUM.out; rw [← HLN.out, ← this, List.length_map]
  rw [hun]
  have HUN := hid hun
  have hlo6 : Below w.heap.size w w6 := HB3.out.trans ((HB5.out.trans (hb6.mono HB5.out.size)).mono HB3.out.size)
  have HB6w := hid hlo6
  have HRB := hid (rbasis_p p c a q d b w6 (HA.out.below hlo6) (HB.out.below hlo6))
  subst hu2
  clear hb6 hXm hgm hBm hu1 hun hlo6 HBM
  go_wp2_with fail
  refine HRB.out.mono ?_
  rintro e w7 ⟨hb7, qw, cw, ws, E3, rfl, hXw, hgw, hBw⟩
  obtain ⟨hw1, hw2⟩ := hBw.unique HBL.out
  have HB7 : Hid (Below w6.heap.size w6 w7) := hid hb7
  have HXW := hid hXw; have HGW := hid hgw
  have HWM : Hid (ws.map Vc.l = L) := hid (by rw [hw1, HLL.out])
  have hwn : ws.length = n := by have := HWM.out; rw [← HLN.out, ← this, List.length_map]
  rw [hwn]
  have HWN := hid hwn
  subst hw2
  have hlow7 : Below w3.heap.size w3 w7 := HB5.out.trans ((HB6.out.trans (hb7.mono HB6.out.size)).mono HB5.out.size)
  have HLO7 := hid hlow7
  have hXl7 := HXL.out.below ((HB6.out.trans (hb7.mono HB6.out.size)))
  have HXL7 := hid hXl7
  have hXm7 := HXM.out.x.below hb7
  have HXM7 := hid hXm7
  have hSM := sameAll_any ql cl (L.map toI) qw cw (L.map toI) w7 (rows_of hXl7.x hl16 L HLL.out) (rows_of hXw (by rw [hwn, ← HNN.out]; exact hl16) L HWM.out)
  rw [List.length_map, HLN.out, show decide (L.map toI = L.map toI) = true by simp] at hSM
  have HSM := hid hSM
  clear hb7 hXw hgw hBw hw1 hwn hlow7 hXl7 hXm7 hSM HRB
  go_wp2_with fail
  refine HSM.out.mono ?_
  rintro e w8 ⟨rfl, hb8⟩
  have HB8 := hid hb8
  have hXl8 := HXL7.out.below hb8
  have hSP := spoilAll_any w3.heap.size ql cl vs w5 w8 HXL.out hXl8 HGL.out
  rw [HNN.out] at hSP
  have HSP := hid hSP
  clear hb8 hXl8 hSP HSM
  go_wp2_with fail
  refine HSP.out.mono ?_
  rintro e w9 ⟨⟨u9, rfl⟩, hf9⟩
  have hs5 := HB5.out.size; have hs6 := HB6.out.size
  have hXm9 : XRow w9 w5.heap.size (.slice qm us.length cm) us := (HXM7.out.below HB8.out).fr HGM.out hf9
  have hXw9 : XRow w9 w6.heap.size (.slice qw ws.length cw) ws := (HXW.out.below HB8.out).fr HGW.out (hf9.mono (fun k hk => ⟨hk.1, by omega⟩))
  have hlo8 : Below w3.heap.size w3 w8 := HLO7.out.trans (HB8.out.mono HLO7.out.size)
  have hlo9 : Below w3.heap.size w3 w9 := hlo8.trans (hf9.below (fun k hk => hk.1) hlo8.size)
  have HB9 : Hid (Below w.heap.size w w9) := hid (HB3.out.trans (hlo9.mono HB3.out.size))
  have HX19 := hid (HX1'.out.below hlo9); have HX29 := hid (HX2.out.below hlo9)
  have hn16 : n ≤ 16 := by rw [← HNN.out]; exact hl16
  have hS2 := sameAll_any qm cm (L.map toI) qw cw (L.map toI) w9 (rows_of hXm9 (by rw [HUN.out]; exact hn16) L HUM.out) (rows_of hXw9 (by rw [HWN.out]; exact hn16) L HWM.out)
  rw [List.length_map, HLN.out, show decide (L.map toI = L.map toI) = true by simp] at hS2
  have HS2 := hid hS2
  clear hf9 hXm9 hXw9 hlo8 hlo9 hS2 HSP HXM7 HXW HXL7 HXM HXL
  go_wp2_with fail
  refine HS2.out.mono ?_
  rintro e w10 ⟨rfl, hb10⟩
  have HB10 : Hid (Below w.heap.size w w10) := hid (HB9.out.trans (hb10.mono HB9.out.size))
  have HK1 := hid (kept_any _ g1 a p c w10 (HX19.out.below hb10) (HA.out.below HB10.out) HLA.out)
  have HX210 := hid (HX29.out.below hb10)
  clear hb10 HS2
  go_wp2_with fail
  refine HK1.out.mono ?_
  rintro e w11 ⟨rfl, hb11⟩
  have HB11 : Hid (Below w.heap.size w w11) := hid (HB10.out.trans (hb11.mono HB10.out.size))
  have HK2 := hid (kept_any _ g2 b q d w11 (HX210.out.below hb11) (HB.out.below HB11.out) HLB.out)
  clear hb11 HK1
  go_wp2_with fail
  refine HK2.out.mono ?_
  rintro e w12 ⟨rfl, hb12⟩
  have HB12 : Hid (Below w.heap.size w w12) := hid (HB11.out.trans (hb12.mono HB11.out.size))
  have HRC := hid (rcheck_any p c a q d b w12 (HA.out.below HB12.out) (HB.out.below HB12.out))
  rw [HZ.out] at HRC
  clear hb12 HK2
  have e1 : (E3 == E3) = true := by simp
  have e2 : (z == z) = true := by simp
  go_wp2_with fail
  refine HRC.out.mono ?_
  rintro e w13 ⟨rfl, hw13⟩
  subst hw13
  go_wp2_with fail
  go_ret
  exact ⟨rfl, HB12.out⟩
end Go.Proofs.Ytbdkogccjnmfoaa
