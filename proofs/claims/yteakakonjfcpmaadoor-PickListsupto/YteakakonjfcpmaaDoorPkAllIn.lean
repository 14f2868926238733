/- What All hands out, to any loop. -/
import Derived.Laws.MakeOwn
import Derived.Test.YteakakonjfcpmaaDoorPkAll
namespace Go.Proofs.YteakakonjfcpmaaDoor
open Go.RowKit Go.Shelf

attribute [local go_sem] Oper.semAt_some

theorem made_i (n : Nat) : (madeCells (Value.int .i64 0).cells (n * 1)).toList = cAll (List.replicate n 0) := by
  rw [Nat.mul_one]
  unfold cAll
  rw [List.map_replicate]
  exact toList_madeCells_one _ _
/-- How much is left of a walk through masks. -/
def msr (K : Nat) : Value → Value → Nat
  | mk, .bool true => K - (intOf mk).toNat + 1
  | _, _ => 0
/-- The iterator's own memory: the sum, and follow's three boxes. -/
structure OwnB (V : Nat) (rs : List (List Int)) (ws : List Int) (pr : Option Addr) (cr : Nat) (pw : Option Addr) (cw M : Nat) (W : World) : Prop where
  s : IRow W V (sumN rs ws.length M)
  b1 : W.heap[V + 1]? = some (.cells #[.slice pr rs.length cr] 27 (0, 0))
  b2 : W.heap[V + 1 + 1]? = some (.cells #[.slice pw ws.length cw] 29 (0, 0))
  b3 : W.heap[V + 1 + 1 + 1]? = some (.cells #[.slice (some ⟨V, 0, none⟩) ws.length ws.length] 29 (0, 0))
theorem OwnB.same {V : Nat} {rs : List (List Int)} {ws : List Int} {pr : Option Addr} {cr : Nat} {pw : Option Addr} {cw M : Nat} {W W' : World} (h : OwnB V rs ws pr cr pw cw M W) (hs : ∀ b, V ≤ b → b < V + 4 → W'.heap[b]? = W.heap[b]?) : OwnB V rs ws pr cr pw cw M W' :=
  ⟨(hs V (by omega) (by omega)).trans h.s, (hs _ (by omega) (by omega)).trans h.b1, (hs _ (by omega) (by omega)).trans h.b2, (hs _ (by omega) (by omega)).trans h.b3⟩
theorem OwnB.fr {V : Nat} {rs : List (List Int)} {ws : List Int} {pr : Option Addr} {cr : Nat} {pw : Option Addr} {cw M M' : Nat} {W W' : World} (h : OwnB V rs ws pr cr pw cw M W) (hf : Fr (fun b => b = V) W W') (hI : IRow W' V (sumN rs ws.length M')) : OwnB V rs ws pr cr pw cw M' W' :=
  ⟨hI, (hf.same _ (Array.getElem?_eq_some_iff.1 h.b1).1 (by omega)).trans h.b1, (hf.same _ (Array.getElem?_eq_some_iff.1 h.b2).1 (by omega)).trans h.b2, (hf.same _ (Array.getElem?_eq_some_iff.1 h.b3).1 (by omega)).trans h.b3⟩
theorem OwnB.fol {X : Nat → Prop} {V bw br : Nat} {rs : List (List Int)} {ws : List Int} {pr : Option Addr} {cr : Nat} {pw : Option Addr} {cw M : Nat} {W : World} (h : OwnB V rs ws pr cr pw cw M W) (hA : AllAt X W br bw pr cr rs pw cw ws) (hT : Tab W) (hX : ∀ b, X b → b < V) (h0 : 0 < V) : FolAt X W (V + 1 + 1) (V + 1 + 1 + 1) (V + 1) V pw cw ws pr cr rs :=
  ⟨cell_box h.b2 rfl, cell_box h.b3 rfl, cell_box h.b1 rfl, hA.ints, hA.rows, hT, fun hx => by have := hX V hx; omega, by omega, by omega, by omega, by omega⟩
theorem own_start {V : Nat} {rs : List (List Int)} {ws : List Int} {pr : Option Addr} {cr : Nat} {pw : Option Addr} {cw : Nat} {W0 : World} (hV : W0.heap.size = V) (W1 : World) (hW1 : W1 = (((W0.alloc (.cells (cAll (List.replicate ws.length 0)).toArray 3)).alloc (.cells #[.slice pr rs.length cr] 27)).alloc (.cells #[.slice pw ws.length cw] 29)).alloc (.cells #[.slice (some ⟨V, 0, none⟩) ws.length ws.length] 29)) :
    OwnB V rs ws pr cr pw cw 0 W1 ∧ Below V W0 W1 := by
  have b1 := alloc_below0 W0 (.cells (cAll (List.replicate ws.length 0)).toArray 3)
  have n1 := World.alloc_heap_new W0 (.cells (cAll (List.replicate ws.length 0)).toArray 3)
  have s1 := World.size_alloc W0 (.cells (cAll (List.replicate ws.length 0)).toArray 3)
  generalize W0.alloc (.cells (cAll (List.replicate ws.length 0)).toArray 3) = A at b1 n1 s1 hW1
  have b2 := alloc_below0 A (.cells #[.slice pr rs.length cr] 27)
  have n2 := World.alloc_heap_new A (.cells #[.slice pr rs.length cr] 27)
  have s2 := World.size_alloc A (.cells #[.slice pr rs.length cr] 27)
  generalize A.alloc (.cells #[.slice pr rs.length cr] 27) = B at b2 n2 s2 hW1
  have b3 := alloc_below0 B (.cells #[.slice pw ws.length cw] 29)
  have n3 := World.alloc_heap_new B (.cells #[.slice pw ws.length cw] 29)
  have s3 := World.size_alloc B (.cells #[.slice pw ws.length cw] 29)
  generalize B.alloc (.cells #[.slice pw ws.length cw] 29) = C at b3 n3 s3 hW1
  have b4 := alloc_below0 C (.cells #[.slice (some ⟨V, 0, none⟩) ws.length ws.length] 29)
  have n4 := World.alloc_heap_new C (.cells #[.slice (some ⟨V, 0, none⟩) ws.length ws.length] 29)
  rw [← hW1] at b4 n4
  rw [s3, s2, s1, hV] at n4
  rw [s2, s1, hV] at n3
  rw [s1, hV] at n2
  rw [hV] at n1 b1
  refine ⟨⟨?_, (b4.block _ (by omega)).trans ((b3.block _ (by omega)).trans n2), (b4.block _ (by omega)).trans n3, n4⟩, b1.trans ((b2.mono (by omega)).trans ((b3.mono (by omega)).trans (b4.mono (by omega))))⟩
  rw [sumN_zero]
  exact (b4.block _ (by omega)).trans ((b3.block _ (by omega)).trans ((b2.block _ (by omega)).trans n1))
theorem fit_step {rs : List (List Int)} {ws : List Int} {M k : Nat} (hM : M < 2 ^ rs.length) (hd : fromM (fitN rs ws) (2 ^ rs.length) M = (fitL rs ws).drop k) :
    (fitN rs ws M = true → (fitL rs ws)[k]? = some M ∧ fromM (fitN rs ws) (2 ^ rs.length) (M + 1) = (fitL rs ws).drop (k + 1)) ∧ (fitN rs ws M = false → fromM (fitN rs ws) (2 ^ rs.length) (M + 1) = (fitL rs ws).drop k) := by
  rw [fromM_step hM] at hd
  constructor
  · intro hf
    rw [if_pos hf] at hd
    have hk : k < (fitL rs ws).length := Nat.lt_of_not_le fun hle => by
      rw [List.drop_of_length_le hle] at hd
      cases hd
    rw [List.drop_eq_getElem_cons hk] at hd
    injection hd with h1 h2
    exact ⟨by rw [List.getElem?_eq_getElem hk, h1], h2⟩
  · intro hf
    rw [if_neg (by rw [hf]; decide)] at hd
    exact hd
set_option maxRecDepth 100000 in
set_option maxHeartbeats 8000000 in
theorem all_in (m lp bw br : Nat) (X : Nat → Prop) (pr : Option Addr) (cr : Nat) (rs : List (List Int)) (pw : Option Addr) (cw : Nat) (ws : List Int) (hO : RowsOk rs ws.length) (J : Nat → World → Prop) (Jx : World → Prop) (W0 : World)
    (hst : ∀ k W W', J k W → Fr (fun b => W0.heap.size ≤ b ∧ b < W0.heap.size + 4) W W' → J k W')
    (hat : ∀ k W, J k W → AllAt X W br bw pr cr rs pw cw ws ∧ Tab W) (hX : ∀ b, X b → b < W0.heap.size)
    (hY : ∀ mm k W (M : Nat), (fitL rs ws)[k]? = some M → W0.heap.size + 4 ≤ W.heap.size → J k W → YieldAt Fence.wide mm Tryd.prog lp #[.int .u32 (M : Int)] W fun e W' => (∀ b, W0.heap.size ≤ b → b < W0.heap.size + 4 → W'.heap[b]? = W.heap[b]?) ∧ ((e = .returned (.bool true) ∧ J (k + 1) W') ∨ (e = .returned (.bool false) ∧ Jx W')))
    (h0 : J 0 W0) :
    CallsIn Fence.wide (m + 4) Tryd.prog 38 #[.func (.yield lp) #[] #[], .pointer (some ⟨bw, 0, none⟩), .pointer (some ⟨br, 0, none⟩)] W0 fun e W' => (∃ v, e = .returned v) ∧ (J (fitL rs ws).length W' ∨ Jx W') := by
  obtain ⟨i0, hi0, hz0, hz1, hz2⟩ := info_parts Tryd.info3
  have hf16 := hO.few; have hw10 := hO.wide
  have hmk := run_make (P := Tryd.prog) W0 29 3 i0 _ Tryd.underlying29 hi0 hz0 .i64 .i64 (ws.length : Int) (ws.length : Int) (by omega) (Int.le_refl _) (by rw [hz2]; omega) (by omega)
  rw [hz1, Int.toNat_natCast, show madeCells (Value.int .i64 0).cells (ws.length * 1) = (cAll (List.replicate ws.length 0)).toArray from Array.toList_inj.1 (by rw [made_i])] at hmk
  have hA0 := (hat 0 W0 h0).1
  have hpos : 0 < W0.heap.size := by
    have h9 : 0 < W0.heap.size := World.block_lt_of_cell? W0 ⟨0, 0, none⟩ ((hat 0 W0 h0).2 0 (by omega))
    exact h9
  have k1 : W0.cell? ⟨bw, 0, none⟩ = some (.slice pw ws.length cw) := cell_box hA0.w rfl
  have ba := alloc_below0 W0 (.cells (cAll (List.replicate ws.length 0)).toArray 3)
  have k2 := below_cell ba _ _ k1
  have k3 := below_cell ba _ _ (show W0.cell? ⟨br, 0, none⟩ = some (.slice pr rs.length cr) from cell_box hA0.r rfl)
  have HFO := hid (follow_any (.slice pr rs.length cr) (.slice pw ws.length cw) (.slice (some ⟨W0.heap.size, 0, none⟩) ws.length ws.length) (W0.alloc (.cells (cAll (List.replicate ws.length 0)).toArray 3)) ⟨_, _, _, rfl⟩ ⟨_, _, _, rfl⟩ ⟨_, _, _, rfl⟩)
  have HOS := hid (own_start (rs := rs) (ws := ws) (pr := pr) (cr := cr) (pw := pw) (cw := cw) (W0 := W0) rfl _ rfl)
  have hsz : (W0.alloc (.cells (cAll (List.replicate ws.length 0)).toArray 3)).heap.size = W0.heap.size + 1 := World.size_alloc _ _
  rw [hsz] at HFO
  have HJ0 := hid h0; have HST := hid hst; have HAT := hid hat; have HX := hid hX; have HY := hid hY; have HO := hid hO
  have hk : 2 ^ rs.length ≤ 65536 := Nat.pow_le_pow_right (n := 2) (by omega) hf16
  have hmax : maxLen = 9223372036854775807 := rfl
  clear hst hat hX hY h0 hA0 ba hsz hO
  generalize (((W0.alloc (.cells (cAll (List.replicate ws.length 0)).toArray 3)).alloc (.cells #[.slice pr rs.length cr] 27)).alloc (.cells #[.slice pw ws.length cw] 29)).alloc (.cells #[.slice (some ⟨W0.heap.size, 0, none⟩) ws.length ws.length] 29) = W1 at HOS HFO
  generalize W0.alloc (.cells (cAll (List.replicate ws.length 0)).toArray 3) = WA at hmk k2 k3 HFO
  obtain ⟨L, hL⟩ : ∃ L, fitL rs ws = L := ⟨_, rfl⟩
  have HL := hid hL
  have HSTP := hid (fun M k hM hd => fit_step (rs := rs) (ws := ws) (M := M) (k := k) hM hd)
  rw [hL] at HSTP
  rw [hL] at HY
  rw [hL]
  clear hL
  have HOS1 := hid HOS.out.1
  have HJ1 := hid (HST.out 0 W0 W1 HJ0.out (Fr.of_below HOS.out.2))
  clear HOS HJ0
  generalize W0.heap.size = V at *
  refine callsIn_of_wp Tryd.func38 rfl trivial ?_ rfl
  simp only [Tryd.ntmps38, List.size_toArray, List.length_cons, List.length_nil, Nat.reduceAdd, Nat.reduceSub, Array.replicate_succ, Array.replicate_zero, List.push_toArray, List.append_toArray, List.nil_append, List.cons_append]
  gi_wp2_with fail
  refine ⟨trivial, ?_⟩
  refine (callsIn_wide.2 HFO.out).mono ?_
  intro e w' h1
  obtain ⟨rfl, h2⟩ := h1
  rw [h2]
  clear h2 HFO hmk k1 k2 k3
  gi_wp2_with fail
  gi_loopw [6, 7] (fun mk mo wr => ∃ (M k : Nat) (more : Bool), mk = .int .u32 M ∧ mo = .bool more ∧ ((more = true ∧ M < 2 ^ rs.length ∧ fromM (fitN rs ws) (2 ^ rs.length) M = L.drop k ∧ k ≤ L.length ∧ J k wr ∧ OwnB V rs ws pr cr pw cw M wr) ∨ (more = false ∧ J L.length wr))) (fun mk mo _ => msr (2 ^ rs.length) mk mo)
  case atStart => exact ⟨0, 0, true, rfl, rfl, .inl ⟨rfl, Nat.two_pow_pos _, by rw [← HL.out]; rfl, Nat.zero_le _, HJ1.out, HOS1.out⟩⟩
  case round =>
    obtain ⟨M, k, more, rfl, rfl, hm⟩ := hrel
    rcases hm with ⟨rfl, hM, hd, hkl, hj, hB⟩ | ⟨rfl, hj⟩
    · obtain ⟨hA, hT⟩ := HAT.out k wr hj
      have hFo := hB.fol hA hT HX.out hpos
      have hlen := sumN_len (M := M) HO.out
      have hWa := wanted_any pw cw ws (some ⟨V, 0, none⟩) ws.length (sumN rs ws.length M) wr hA.ints.at (hB.s.ints (by omega)) hlen
      rw [hlen] at hWa
      have c1 : wr.cell? ⟨bw, 0, none⟩ = some (.slice pw ws.length cw) := cell_box hA.w rfl
      have HWA := hid hWa; have HM := hid hM; have HD := hid hd; have HJ := hid hj; have HB := hid hB; have HKL := hid hkl
      obtain ⟨hs1, hs2⟩ := HSTP.out M k hM hd
      have HS1 := hid hs1; have HS2 := hid hs2
      have HF1 := hid (fol_from X (V + 1 + 1) (V + 1 + 1 + 1) (V + 1) V pw cw ws pr cr rs M wr HO.out hFo hB.s hM)
      clear hWa hd hj hB hkl hA hT hFo hlen hs1 hs2
      obtain ⟨fv, hfv⟩ : ∃ fv, fitN rs ws M = fv := ⟨_, rfl⟩
      rw [show fitW ws (sumN rs ws.length M) = fv from hfv] at HWA
      rw [hfv] at HS1 HS2
      clear hfv
      gi_wp2_with fail
      refine ⟨trivial, ?_⟩
      refine (callsIn_wide.2 HWA.out).mono ?_
      intro e w2 h1
      obtain ⟨rfl, h2⟩ := h1
      rw [h2]
      clear h2 HWA
      cases fv
      · have hd2 := HS2.out rfl
        have HD2 := hid hd2
        clear hd2 HS1 HS2 HY
        gi_wp2_with fail
        refine ⟨(fun f h => by cases h), ?_⟩
        gi_wp2_with fail
        refine ⟨trivial, ?_⟩
        refine (callsIn_wide.2 HF1.out).mono ?_
        rintro e w4 ⟨hf4, (⟨M', rfl, h1, h2, h3, h4⟩ | ⟨rfl, h4⟩)⟩
        · have HJ4 := hid (HST.out k wr w4 HJ.out (hf4.mono (fun b e => ⟨by omega, by omega⟩)))
          have HB4 := hid (HB.out.fr hf4 h3)
          have H1 := hid h1; have H2 := hid h2; have H4 := hid h4
          clear h1 h2 h3 h4 hf4
          gi_wp2_with fail
          go_roundw
          case rel => exact ⟨M', k, true, rfl, rfl, .inl ⟨rfl, H2.out, H4.out.symm.trans HD2.out, HKL.out, HJ4.out, HB4.out⟩⟩
          case measure => have := H1.out; have := H2.out; simp [msr, intOf]; omega
        · have HJ4 := hid (HST.out k wr w4 HJ.out (hf4.mono (fun b e => ⟨by omega, by omega⟩)))
          have H4 := hid h4
          clear h4 hf4
          gi_wp2_with fail
          go_roundw
          case rel =>
            refine ⟨0, 0, false, rfl, rfl, .inr ⟨rfl, ?_⟩⟩
            have h7 : L.drop k = [] := HD2.out.symm.trans H4.out
            have h8 : L.length ≤ k := List.drop_eq_nil_iff.1 h7
            rw [show L.length = k by have := HKL.out; omega]
            exact HJ4.out
          case measure => simp [msr]
      · obtain ⟨hMk, hd1⟩ := HS1.out rfl
        have HD1 := hid hd1
        have HK1 : Hid (k + 1 ≤ L.length) := hid (List.getElem?_eq_some_iff.1 hMk).1
        obtain ⟨fn, tmps, assign, body, hy, hR⟩ := HY.out (m + 3) k wr M hMk (Array.getElem?_eq_some_iff.1 HB.out.b3).1 HJ.out
        have HRR := hid hR
        clear hd1 hMk hR HS1 HS2 HF1
        gi_wp2_with fail
        refine HRR.out.mono ?_
        rintro e W3 ⟨hsm, (⟨rfl, hJ3⟩ | ⟨rfl, hJx3⟩)⟩
        · have hB3 := HB.out.same hsm
          obtain ⟨hA3, hT3⟩ := HAT.out _ _ hJ3
          have HF3 := hid (fol_from X (V + 1 + 1) (V + 1 + 1 + 1) (V + 1) V pw cw ws pr cr rs M W3 HO.out (hB3.fol hA3 hT3 HX.out hpos) hB3.s HM.out)
          have HJ3 := hid hJ3; have HB3 := hid hB3
          clear hsm hJ3 hB3 hA3 hT3 HY
          gi_wp2_with fail
          refine ⟨trivial, ?_⟩
          refine (callsIn_wide.2 HF3.out).mono ?_
          rintro e w4 ⟨hf4, (⟨M', rfl, h1, h2, h3, h4⟩ | ⟨rfl, h4⟩)⟩
          · have HJ4 := hid (HST.out _ W3 w4 HJ3.out (hf4.mono (fun b e => ⟨by omega, by omega⟩)))
            have HB4 := hid (HB3.out.fr hf4 h3)
            have H1 := hid h1; have H2 := hid h2; have H4 := hid h4
            clear h1 h2 h3 h4 hf4
            gi_wp2_with fail
            go_roundw
            case rel => exact ⟨M', k + 1, true, rfl, rfl, .inl ⟨rfl, H2.out, H4.out.symm.trans HD1.out, HK1.out, HJ4.out, HB4.out⟩⟩
            case measure => have := H1.out; have := H2.out; simp [msr, intOf]; omega
          · have HJ4 := hid (HST.out _ W3 w4 HJ3.out (hf4.mono (fun b e => ⟨by omega, by omega⟩)))
            have H4 := hid h4
            clear h4 hf4
            gi_wp2_with fail
            go_roundw
            case rel =>
              refine ⟨0, 0, false, rfl, rfl, .inr ⟨rfl, ?_⟩⟩
              have h7 : L.drop (k + 1) = [] := HD1.out.symm.trans H4.out
              have h8 : L.length ≤ k + 1 := List.drop_eq_nil_iff.1 h7
              rw [show L.length = k + 1 by have := HK1.out; omega]
              exact HJ4.out
            case measure => simp [msr]
        · gi_wp2_with fail
          refine bodyPost_ret (results_none rfl _ _ _) rfl ?_
          exact ⟨⟨_, rfl⟩, .inr hJx3⟩
    · have HJ := hid hj
      clear hj
      gi_wp2_with fail
      refine bodyPost_end (results_none rfl _ _ _) rfl ?_
      exact ⟨⟨_, rfl⟩, .inl HJ.out⟩
end Go.Proofs.YteakakonjfcpmaaDoor
