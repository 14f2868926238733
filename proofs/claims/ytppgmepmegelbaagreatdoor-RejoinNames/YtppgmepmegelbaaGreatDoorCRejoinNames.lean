/- RejoinNames, which takes no input, returns true: the chapter's examples, and the errors by their numbers; no condition but that the library's variables hold what their initialisers lay (the card's tie). -/
import Derived.Test.YtppgmepmegelbaaGreatDoorLeaf
import Derived.Test.YtppgmepmegelbaaGreatDoorChkPlain
import Derived.Test.YtppgmepmegelbaaGreatDoorLater
import Derived.Test.YtppgmepmegelbaaGreatDoorCards
import Derived.Test.YtppgmepmegelbaaGreatDoorTie
import Derived.ProofKit
import Derived.OpenShut
import Derived.SliceStrings
import Derived.Deep.DeepHandedRow
import Derived.Lib.LaidTab
import Derived.WideKeyPair
import Derived.LaidSub
import Derived.LaidLaws
import Derived.LaidMore
import Derived.Test.YtppgmepmegelbaaGreatDoorKRJoin
/- The program's Equations where nothing is wrong. -/
namespace Go.Proofs.YtppgmepmegelbaaGreatDoor
open Go.RowKit Go.Deep

/-- What holds where nothing is wrong. -/
structure EqOk (l : List Sym) (f : Int) (u : Nat) (rs : List (List Int)) (fr : Int) : Prop where
  sum : sumB l f = true
  fr0 : 0 ≤ fr
  fr1 : fr ≤ 1048576
  few : rs.length ≤ 16
  rows : ∀ r ∈ rs, r.length = u ∧ ∀ n ∈ r, 0 ≤ n ∧ n ≤ 1048576
  tot : ∀ k, k < u → 0 < (varK fr k rs 0).length ∧ (varK fr k rs 0).length ≤ 400
theorem eqOk_of {l : List Sym} {f : Int} {u : Nat} {rs : List (List Int)} {fr : Int} (h : eqE l f u rs fr = 0) : EqOk l f u rs fr := by
  unfold eqE at h
  by_cases h1 : sumB l f = false
  · rw [if_pos h1] at h; cases h
  rw [if_neg h1] at h
  by_cases h2 : badC fr = true
  · rw [if_pos h2] at h; cases h
  rw [if_neg h2] at h
  by_cases h3 : 16 < rs.length ∨ rs.any (badR u) = true
  · rw [if_pos h3] at h; cases h
  rw [if_neg h3] at h
  rw [not_or] at h3
  have hg := rows_good (u := u) (rs := rs) (by simpa using h3.2)
  unfold badC at h2
  simp only [Bool.or_eq_true, decide_eq_true_eq, not_or] at h2
  refine ⟨by simpa using h1, by omega, by omega, by omega, hg, fun k hk => ?_⟩
  have hl := varK_len fr k rs 0 (fun r hr n hn => ((hg r hr).2 n hn).1)
  have ht : totN rs k ≠ 0 ∧ totN rs k < 400 := by
    have : ∀ m i, totE rs i m = 0 → ∀ k, i ≤ k → k < i + m → totN rs k ≠ 0 ∧ totN rs k < 400 := by
      intro m
      induction m with
      | zero => intro i _ k h1 h2; omega
      | succ m ih =>
        intro i h k h1 h2
        unfold totE at h
        by_cases e1 : totN rs i = 0
        · rw [if_pos e1] at h; cases h
        · rw [if_neg e1] at h
          by_cases e2 : 400 ≤ totN rs i
          · rw [if_pos e2] at h; cases h
          · rw [if_neg e2] at h
            by_cases hk : k = i
            · subst hk; exact ⟨e1, by omega⟩
            · exact ih (i + 1) h k (by omega) (by omega)
    exact this u 0 h k (Nat.zero_le _) (by omega)
  omega
theorem sizes_vars (fr : Int) (k : Nat) : ∀ (rs : List (List Int)) (s : Nat), sizes ((varK fr k rs s).map Kv.tn) = (varK fr k rs s).length
  | [], _ => rfl
  | r :: rs, s => by
    have ih := sizes_vars fr k rs (s + 1)
    unfold varK
    rw [List.map_append, sizes_append, ih, List.length_append]
    congr 1
    generalize (r.getD k 0).toNat = n
    induction n with
    | zero => rfl
    | succ n ihn =>
      rw [List.replicate_succ, List.map_cons, sizes_cons, ihn, List.length_cons]
      have : sizeT (vk fr s).tn = 1 := rfl
      omega
set_option maxRecDepth 100000 in
set_option maxHeartbeats 4000000 in
theorem eqs_ok (S : Option Addr) (n cap : Nat) (l : List Sym) (f : Int) (pu : Option Addr) (us : List Unk) (cu : Nat) (a : Option Addr) (c : Nat) (rs : List (List Int)) (fr : Int) (w : World) (hS : SigAt w S n l) (hN : RowsZ w a rs) (hU : UnkZ w pu us) (hs : Std w) (hR : eqE l f us.length rs fr = 0) :
    Calls Tryz.prog 7 #[.slice S n cap, .int .i64 f, .slice pu us.length cu, .slice a rs.length c, .int .i64 fr] w fun e w' => ∃ (g : Nat) (ks : List Kv), e = .returned (.tuple #[.slice (some ⟨g, 0, none⟩) us.length us.length, .int .i64 (fr + rs.length), .int .i64 0]) ∧ EqsAt w.heap.size w' g us.length ks ∧ DnQ l f fr rs us ks ∧ Below w.heap.size w w' := by
  have hok := eqOk_of hR
  obtain ⟨hm1, h0, h1, hfew, hrows, htot⟩ := hok
  have b0 := alloc_below0 w (.cells #[.int .i64 fr] 3)
  obtain ⟨W0, hW0⟩ : ∃ W0, w.alloc (.cells #[.int .i64 fr] 3) = W0 := ⟨_, rfl⟩
  obtain ⟨H, hH⟩ : ∃ H, w.heap.size = H := ⟨_, rfl⟩
  rw [hW0] at b0
  have hBX : Box W0 H 3 #[.int .i64 fr] := by rw [← hW0, ← hH]; exact Box.new w 3 #[.int .i64 fr]
  have HC := hid (check_any S n cap l f us.length a c rs fr W0 (hS.below b0) (hN.below b0) hU.small)
  rw [hR] at HC
  have HB := hid b0
  have c0 : W0.cell? ⟨H, 0, none⟩ = some (.int .i64 fr) := hBX.c 0
  have HBX := hid hBX; have HST := hid (hs.below b0 hs.pos); have HS0 := hid (hS.below b0); have HN0 := hid (hN.below b0); have HU0 := hid (hU.below b0); have HROW := hid hrows; have HTOT := hid htot; have HP := hid (show 0 < W0.heap.size by have := b0.size; have := hs.pos; omega)
  have husm := hU.small
  clear hS hN hU hs hR hBX hrows htot hm1
  rw [hH] at HB ⊢
  go_enter Tryz.func7, Tryz.ntmps7
  go_upto_region 4 with (first
    | (go_at_call 16; refine HC.out.mono ?_; rintro e w1 ⟨rfl, hb⟩; have HB1 := hid hb; have c1 : w1.cell? ⟨H, 0, none⟩ = some (.int .i64 fr) := (HBX.out.below hb).c 0; clear hb)
    | fail)
  have HLY := hid (lay_any H fr h0 h1 rs.length hfew w1 (HBX.out.below HB1.out) (HST.out.below HB1.out HP.out))
  rename_i Kr hKr
  refine wp_region_lit ?_
  iterate 3
    refine wpList_step fun KQ hK' => ?_
    have HKK := hid hK'
    clear hK'
    go_simp
    refine HKK.out _ _ ?_
    clear HKK
  refine wpList_step fun KQ hK' => ?_
  have HKK := hid hK'
  clear hK'
  go_simp
  refine HLY.out.mono ?_
  rintro e w2 ⟨rfl, hb⟩
  have HB2 := hid hb
  clear hb
  refine HKK.out _ _ ?_
  clear HKK
  refine wpList_step fun KQ hK' => ?_
  have HKK := hid hK'
  clear hK'
  go_simp
  refine HKK.out _ _ ?_
  clear HKK
  refine wpList_step fun KQ hK' => ?_
  refine step_store_new rfl 59 (.tmp 14) (.tmp 33) rfl _ (nmC fr rs.length).toArray (by rfl) (by rfl) (by rw [List.size_toArray]; exact size59 fr rs.length) (by rw [show (nmC fr rs.length).toArray.size = 16 by rw [List.size_toArray, nmC_len]]; rfl) (all_oneCell (nmC_one fr rs.length)) ?_
  refine hK' _ _ ?_
  clear hK'
  refine wpList_nil ?_
  refine hKr _ _ ?_
  clear hKr
  obtain ⟨U, hU⟩ : ∃ U, w2.alloc (.cells (nmC fr rs.length).toArray 59) = U := ⟨_, rfl⟩
  obtain ⟨Bn, hBn⟩ : ∃ Bn, w2.heap.size = Bn := ⟨_, rfl⟩
  have hbU : Below W0.heap.size W0 U := by
    rw [← hU]
    have h2 := HB1.out.trans (HB2.out.mono HB1.out.size)
    exact h2.trans ((alloc_below0 w2 _).mono h2.size)
  have hNM : Box U Bn 59 (nmC fr rs.length).toArray := by rw [← hU, ← hBn]; exact Box.new w2 _ _
  rw [hU, hBn]
  have HBU := hid hbU; have HNM := hid hNM
  clear hU hBn hbU hNM HB1 HB2 HLY HC c1 c0
  obtain ⟨i0, hi, hz0, hz1, hz2⟩ := info_parts Tryz.info39
  have hmax : maxLen = 9223372036854775807 := rfl
  go_upto_region 6 with (at_make; refine wpList_make_full _ rfl _ _ 32 rfl U.heap.size 39 i0 zQ 6 Tryz.underlying32 hi hz0 hz1 .i64 .i64 _ _ us.length rfl rfl rfl rfl (by rw [hz2]; omega) (by omega) (Nat.le_refl _) ?_; intro V hown0 hgrow0)
  have hbm : Below U.heap.size U V := (Below.refl _ _).grown hgrow0 (Nat.le_refl _) (fun k e => by cases e)
  have HHU := hid (show H ≤ U.heap.size by have := HB.out.size; have := HBU.out.size; have := HBX.out.lt; omega)
  have HF0 := hid ((FillQ.start hown0).base' HHU.out)
  have HBM := hid hbm
  clear hown0 hgrow0 hbm
  go_wp2_with fail
  go_loopw [39] (fun iv wq => ∃ (i : Nat) (ks : List Kv), i ≤ us.length ∧ ks.length = 2 * i ∧ iv = .int .i64 (i : Int) ∧ FillQ H us.length U.heap.size wq ks ∧ Below U.heap.size U wq ∧ DnQ l f fr rs us ks) (fun iv _ => us.length - (intOf iv).toNat)
  case atStart => exact ⟨0, [], Nat.zero_le _, rfl, rfl, HF0.out, HBM.out, fun i _ h' => absurd h' (by simp)⟩
  case round =>
    obtain ⟨i, ks, hil, hkl, rfl, hF, hlow, hks⟩ := hrel
    by_cases hlt : i < us.length
    · obtain ⟨b, o, p, c2, rfl, p0, p1, p2, p3, p4, hT⟩ := HU0.out.cells i hlt
      obtain ⟨⟨⟨x, F⟩, N, al⟩, hbd⟩ : ∃ y, us[i] = y := ⟨_, rfl⟩
      rw [hbd] at p0 p1 p2 p3 p4 hT
      dsimp only at p0 p1 p2 p3 p4 hT
      have hbU : Below W0.heap.size W0 wr := HBU.out.trans (hlow.mono HBU.out.size)
      have q0 := below_cell hbU _ _ p0; have q1 := below_cell hbU _ _ p1; have q2 := below_cell hbU _ _ p2; have q3 := below_cell hbU _ _ p3; have q4 := below_cell hbU _ _ p4
      obtain ⟨wx, hwx⟩ : ∃ wx, wr.alloc (.cells #[.string x.1, .int .i64 x.2, .slice p (lenF F) c2, .int .i64 N, .bool al] 30) = wx := ⟨_, rfl⟩
      have bx : Below wr.heap.size wr wx := by rw [← hwx]; exact alloc_below0 _ _
      have hszx : wx.heap.size = wr.heap.size + 1 := by rw [← hwx, World.size_alloc]
      have HX : Hid (Box wx wr.heap.size 30 #[.string x.1, .int .i64 x.2, .slice p (lenF F) c2, .int .i64 N, .bool al]) := by rw [← hwx]; exact Box.new wr 30 _
      have HBX2 := hid bx; have HSX := hid hszx
      have HLX := hid (hbU.trans (bx.mono hbU.size))
      have HNX := hid ((HNM.out.below (hlow.trans (bx.mono hlow.size))))
      have HVR := hid (vars_any fr h0 h1 a c rs i wx (HN0.out.below HLX.out) (fun r hr => by rw [(HROW.out r hr).1]; exact hlt) hfew (fun r hr => (HROW.out r hr).2) (by have := (HTOT.out i hlt).2; omega))
      have HTT := hid hT; have HF := hid hF; have HL := hid hlow; have HKS := hid hks; have HBD := hid hbd
      clear p0 p1 p2 p3 p4 hT hF hlow hks hbd bx hbU hszx
      go_upto_region 9 with fail
      clear q0 q1 q2 q3 q4 hwx
      rename_i K9 hK9
      refine wp_region_lit ?_
      iterate 2
        refine wpList_step fun KQ hK' => ?_
        have HKK := hid hK'
        clear hK'
        go_simp
        refine HKK.out _ _ ?_
        clear HKK
      refine wpList_step fun KQ hK' => ?_
      refine step_load rfl 59 (.tmp 14) rfl Bn 0 (by rfl) (nmC fr rs.length) _ (box_range HNX.out) Tryz.underlying59 rfl (size59 fr rs.length) ?_
      refine hK' _ _ ?_
      clear hK'
      go_upto_region 10 with (first
        | (go_at_call 20; refine HVR.out.mono ?_; rintro e w3 ⟨v, rfl, hL, hn, hb⟩; obtain ⟨a2, c3, rfl, hO⟩ := hL.term (F := mkF ((varK fr i rs 0).map Kv.tn)) (⟨#[]⟩, 0) (kids_mk _).symm (by decide) (by rw [len_mk, List.length_map]; have := (HTOT.out i hlt).2; omega); have HO3 := hid hO.tm.args; have HB3 := hid hb; clear hL hn hb hO)
        | (go_at_call 19; refine (pjoin_any S n cap l f (mkF ((varK fr i rs 0).map Kv.tn)) a2 c3 w3 (HS0.out.below (HLX.out.trans (HB3.out.mono HLX.out.size))) HO3.out (by rw [nodes_mk, sizes_vars]; have := (HTOT.out i hlt).2; omega)).mono ?_; rintro e w4 ⟨k, rfl, hj, hl, hb4⟩; have HJ := hid hj; have HLO := hid hl; have HB4 := hid hb4; clear hj hl hb4)
        | fail)
      obtain ⟨w5, hw5⟩ : ∃ w5, w4.alloc (.cells #[.string k.x.1, .int .i64 k.x.2, .slice k.a (lenF k.l) k.c] 28) = w5 := ⟨_, rfl⟩
      have b45 : Below w4.heap.size w4 w5 := by rw [← hw5]; exact alloc_below0 _ _
      have HZ : Hid (Box w5 w4.heap.size 28 #[.string k.x.1, .int .i64 k.x.2, .slice k.a (lenF k.l) k.c]) := by rw [← hw5]; exact Box.new w4 28 _
      have s45 : w5.heap.size = w4.heap.size + 1 := by rw [← hw5, World.size_alloc]
      rw [hw5]
      have b35 : Below w3.heap.size w3 w5 := HB4.out.trans (b45.mono HB4.out.size)
      have bx5 : Below wx.heap.size wx w5 := HB3.out.trans (b35.mono HB3.out.size)
      have HXX := hid (HX.out.below bx5)
      have HR5 := hid (HBX2.out.trans (bx5.mono HBX2.out.size))
      have HL5 := hid (HLX.out.trans (bx5.mono HLX.out.size))
      have HLO5 := hid ((HLO.out.1.within).below b45)
      have H35 := hid (show w3.heap.size ≤ w4.heap.size ∧ w5.heap.size = w4.heap.size + 1 ∧ wr.heap.size ≤ w3.heap.size from ⟨HB4.out.size, s45, by have := HB3.out.size; have := HSX.out; omega⟩)
      have x0 := HXX.out.c 0; have x1 := HXX.out.c 1; have x2 := HXX.out.c 2
      have z0 := HZ.out.c 0; have z1 := HZ.out.c 1; have z2 := HZ.out.c 2
      clear b45 s45 b35 bx5 hw5 HX HLX HB3 HB4 HLO HO3 HVR HNX HBX2
      go_region_with (first
        | (go_at_call 21; refine Calls.mono (clone_any x F p c2 _ (HTT.out.below HL5.out.drew)) ?_; rintro e w6 ⟨a5, c5, rfl, hsep, hb6, -⟩; have HSEP := hid hsep; have HB6 := hid (((Below.refl _ w5).drew).trans hb6); have HZ6 := hid (HZ.out.below HB6.out); have y0 := HZ6.out.c 0; have y1 := HZ6.out.c 1; have y2 := HZ6.out.c 2; have HW6 := hid (HR5.out.trans (HB6.out.mono HR5.out.size)); have HF6 := hid (HF.out.below HW6.out); obtain ⟨u0, v0⟩ := HF6.out.cells i hlt 0 (by decide); rw [Nat.add_zero] at v0; obtain ⟨u1, v1⟩ := HF6.out.cells i hlt 1 (by decide); obtain ⟨u2, v2⟩ := HF6.out.cells i hlt 2 (by decide); obtain ⟨u3, v3⟩ := HF6.out.cells i hlt 3 (by decide); obtain ⟨u4, v4⟩ := HF6.out.cells i hlt 4 (by decide); obtain ⟨u5, v5⟩ := HF6.out.cells i hlt 5 (by decide); have f0 := owns_froz HF6.out.row (i * 6); have f1 := owns_froz HF6.out.row (i * 6 + 1); have f2 := owns_froz HF6.out.row (i * 6 + 2); have f3 := owns_froz HF6.out.row (i * 6 + 3); have f4 := owns_froz HF6.out.row (i * 6 + 4); have f5 := owns_froz HF6.out.row (i * 6 + 5); clear hsep hb6)
        | fail)
      all_goals
        have HD := hid (HKS.out.step hkl hlt (k1 := ⟨x, F, a5, c5⟩) (k2 := k) (by rw [HBD.out]; rfl) (by have := HJ.out; rw [kids_mk, len_mk, List.length_map] at this; exact this))
        have HF4 := hid (HF.out.step (y1 := ⟨x, F, a5, c5⟩) (y2 := k) (A1 := fun q => w5.heap.size ≤ q) (A2 := fun q => w3.heap.size ≤ q ∧ q < w4.heap.size) HW6.out HSEP.out (HLO5.out.below HB6.out) (fun q hq => by have := H35.out; omega) (fun q hq => by have := H35.out; omega) (fun q hq hq2 => by have := H35.out; omega) (by have := HL.out.size; have := HHU.out; omega) i hkl hlt)
        have HL4 := hid (set3_below (g := U.heap.size) (set3_below (g := U.heap.size) (HL.out.trans (HW6.out.mono HL.out.size)) (Nat.le_refl _) (i * 6) ⟨x, F, a5, c5⟩) (Nat.le_refl _) (i * 6 + 3) k)
        clear x0 x1 x2 z0 z1 z2 y0 y1 y2 v0 v1 v2 v3 v4 v5 f0 f1 f2 f3 f4 f5 HF6 HW6 HZ6 HB6 HSEP HZ HXX HR5 HL5 HLO5 HF HL HKS HJ HTT HBD
        go_wp2_with fail
        go_roundw
        case rel => exact ⟨i + 1, ks ++ [⟨x, F, a5, c5⟩, k], by omega, by simp; omega, by go_num, HF4.out, HL4.out, HD.out⟩
        case measure => simp [intOf]; omega
    · have e1 : i = us.length := by omega
      have HFD := hid (hF.done (by omega))
      have hlU : Below W0.heap.size W0 wr := HBU.out.trans (hlow.mono HBU.out.size)
      have HLL := hid (HB.out.trans (hlU.mono (by have := HB.out.size; omega)))
      have HKS := hid hks
      have c5 : wr.cell? ⟨H, 0, none⟩ = some (.int .i64 fr) := (HBX.out.below hlU).c 0
      have hrl : (rs.length : Int) ≤ 16 := by omega
      clear hF hlow hks hlU
      go_wp2_with fail
      go_region_with (fail)
      all_goals
        go_wp2_with fail
        go_ret3
        refine ⟨U.heap.size, ks, ?_, HFD.out.below ((Below.refl _ _).drew), HKS.out, HLL.out.drew⟩
        simp [Act.put]
        rw [IntKind.wrap_i64]
        omega
end Go.Proofs.YtppgmepmegelbaaGreatDoor
/- What the document's Canon answers, of any term. -/
namespace Go.Proofs.YtppgmepmegelbaaGreatDoor
open Go.RowKit Go.Deep

set_option maxRecDepth 100000 in
set_option maxHeartbeats 2000000 in
theorem canon_of {S : Option Addr} {n cap : Nat} {l : List Sym} {k : Nat} (ih : ∀ j, j < k → CanonOk S n cap l j) (hJ : JoinOk S n cap l k) : CanonOk S n cap l k := by
  rintro ⟨⟨nm, sy⟩, F⟩ a c w hF hS hT
  have HS : Hid (SigAt w S n l) := hS
  have HT : Hid (TmAt w (nm, sy) a c F) := hT
  have IH : Hid (∀ j, j < k → CanonOk S n cap l j) := ih
  have HJ : Hid (∀ W, Below w.heap.size w W → Calls Tryz.prog 30 #[.slice S n cap, .int .i64 sy] W fun e w' => e = .returned (.bool (joinsAt l sy)) ∧ w' = W) := fun W hW => joins_still S n cap l sy W (HS.out.below hW)
  have HJo : Hid (∀ W, Below w.heap.size w W → Calls Tryz.prog 13 #[.slice S n cap, .int .i64 sy, .slice a (lenF F) c] W fun e w' => JoinRet W.heap.size w' (joinN (sgOf l) sy (canonL (sgOf l) F)) e ∧ Below W.heap.size W w') := fun W hW => hJ sy F a c W hF (HS.out.below hW) (HT.out.args.below hW)
  have HB0 : Hid (Below w.heap.size w ((w.alloc (.cells #[.string nm, .int .i64 sy, .slice a (lenF F) c] 28)).alloc (.cells #[.string ⟨#[]⟩, .int .i64 0, .slice none 0 0] 28))) := ((Below.refl _ w).alloc (Nat.le_refl _) _).alloc (by simp) _
  have hfew := HT.out.sizes.few
  have hnm := HT.out.sizes.name
  clear hS hT ih hJ
  cases hn : nm.toList.isEmpty
  · have e : Hid (canonT (sgOf l) ((nm, sy), F) = ((nm, 0), .nil)) := by show _ = _; unfold canonT canon1; rw [if_pos (show noName ((nm, sy), F).1.1 = false from hn)]
    have HBn : Hid (Below w.heap.size w ((w.alloc (.cells #[.string nm, .int .i64 sy, .slice a (lenF F) c] 28)).alloc (.cells #[.string nm, .int .i64 0, .slice none 0 0] 28))) := ((Below.refl _ w).alloc (Nat.le_refl _) _).alloc (by simp) _
    go_enter Tryz.func32, Tryz.ntmps32
    go_wp2
    refine bodyPost_ret (results_cell_row rfl _ _ (w.heap.size + 1) 28 #[.string nm, .int .i64 0, .slice none 0 0] (0, 0) _ rfl (heap_alloc2_new w _ _) Tryz.underlying28 rfl Tryz.size28) rfl ?_
    refine ⟨none, 0, by rw [e.out]; rfl, ?_, HBn.out⟩
    rw [e.out]
    exact own_nil _ _ hnm
  · have hnb : nm = noB := noName_eq hn
    subst hnb
    have HXt : Hid (TBox ((w.alloc (.cells #[.string noB, .int .i64 sy, .slice a (lenF F) c] 28)).alloc (.cells #[.string ⟨#[]⟩, .int .i64 0, .slice none 0 0] 28)) w.heap.size (noB, sy) a (lenF F) c) := (TBox.new w (noB, sy) a (lenF F) c).below ((Below.refl _ _).alloc (Nat.le_refl _) _)
    have HXr : Hid (XBox ((w.alloc (.cells #[.string noB, .int .i64 sy, .slice a (lenF F) c] 28)).alloc (.cells #[.string ⟨#[]⟩, .int .i64 0, .slice none 0 0] 28)) (w.heap.size + 1) (⟨#[]⟩, 0) (.slice none 0 0)) := heap_alloc2_new w _ _
    cases hj : joinsAt l sy
    · obtain ⟨G, hG⟩ : ∃ G, mkF (canonL (sgOf l) F) = G := ⟨_, rfl⟩
      have e : Hid (canonT (sgOf l) ((noB, sy), F) = ((noB, sy), G)) := by show _ = _; unfold canonT canon1; rw [if_neg (show ¬ noName ((noB, sy), F).1.1 = false by show ¬ noName noB = false; rw [noName_noB]; simp), if_neg (show ¬ (sgOf l).joins ((noB, sy), F).1.2 = true by show ¬ joinsAt l sy = true; rw [hj]; simp), hG]
      have HGk : Hid (kidsL G = canonL (sgOf l) F) := by show _ = _; rw [← hG, kids_mk]
      have hGl : lenF G = lenF F := by rw [← hG, len_mk, canonL_map, List.length_map, kids_len]
      obtain ⟨i0, hi, hz0, hz1, hz2⟩ := info_parts Tryz.info28
      rw [hj] at HJ
      clear hG
      go_enter Tryz.func32, Tryz.ntmps32
      go_wp2_with (first
        | (go_at_call 30; refine (HJ.out _ HB0.out).mono ?_; rintro e w9 ⟨rfl, hw9⟩; rw [hw9]; clear hw9))
      go_loopw [8] (fun i wr => ∃ (j : Nat) (v : Value) (ks : List Kv), j ≤ lenF F ∧ i = .int .i64 j ∧ Three w (noB, sy) a (lenF F) c wr v ∧ Built false w wr v j ks ∧ ks.map (fun k => (k.x, k.l)) = (canonL (sgOf l) F).take j) (fun i _ => lenF F - (intOf i).toNat)
      case atStart => exact ⟨0, _, [], Nat.zero_le _, rfl, Three.new w (noB, sy) a (lenF F) c, ⟨World.ownsRow_nil _ _ _ _, by simp⟩, by simp⟩
      case round =>
        obtain ⟨j, v, ks, hj, rfl, hTh, hBu, hks⟩ := hrel
        have hb := hTh.low
        have bT := hTh.t
        have bX := hTh.x
        have hrow := hBu.row
        have t2 := bT.c2
        have hn : lenF F ≤ 9223372036854775807 := by omega
        by_cases hlt : j < lenF F
        · obtain ⟨bb, oo, rfl, hkk⟩ := HT.out.args.get (by omega)
          obtain ⟨y, a1, c1, l1, kd⟩ := hkk.kid (k := j) hlt
          have kd' := kd.below hb
          have X0 : Hid (XBox wr (w.heap.size + 1 + 1) (noB, sy) v) := bX
          have cX := X0.out.c2
          have hbb : bb < w.heap.size := World.block_lt_of_cell? w _ kd.name
          have p0 := kd'.name; have p1 := kd'.sym; have p2 := kd'.list
          obtain ⟨ct, hct⟩ : ∃ ct, canonT (sgOf l) (y, l1) = ct := ⟨_, rfl⟩
          have hIH := IH.out (nodesF l1) (by have := kd.less; omega) (y, l1) a1 c1 wr.drew (Nat.le_refl _) ((HS.out.below hb).below ((Below.refl _ wr).drew)) (kd'.at_.kept (fun _ _ h => h))
          rw [hct] at hIH
          have HIH : Hid (Calls Tryz.prog 32 #[.slice S n cap, .agg #[.string y.1, .int .i64 y.2, .slice a1 (lenF l1) c1]] wr.drew fun e w' => ∃ a' c', e = .returned (.agg #[.string ct.1.1, .int .i64 ct.1.2, .slice a' (lenF ct.2) c']) ∧ OwnTm false (fun q => wr.heap.size ≤ q) w' ct.1 a' c' ct.2 ∧ Below wr.heap.size wr.drew w') := hIH
          have HCT : Hid (canonT (sgOf l) (y, l1) = ct) := hct
          have HR : Hid (wr.ownsRow (w.heap.size + 3) 28 3 v j (kvCells ks)) := hrow
          have HB : Hid (Below w.heap.size w wr) := hb
          have TH : Hid (Three w (noB, sy) (some ⟨bb, oo, none⟩) (lenF F) c wr v) := hTh
          have BU : Hid (Built false w wr v j ks) := hBu
          have HK : Hid (ks.map (fun k => (k.x, k.l)) = (canonL (sgOf l) F).take j) := hks
          have KD : Hid (Kid w F bb oo j y a1 c1 l1) := kd
          have hmax : maxLen = 9223372036854775807 := rfl
          have hXlt : w.heap.size + 1 + 1 < wr.heap.size := X0.out.lt
          clear hIH kd' hkk kd hrow hb hTh hBu hks bT bX hct
          go_wp2_with fail
          go_region_law
            ((first
              | (refine step_append_lies _ (by rfl) _ _ 26 (by rfl) (w.heap.size + 3) 28 i0 _ 3 48 Tryz.underlying26 hi hz0 hz1 hz2 rfl (by decide) v j (kvCells ks) (by rfl) (owns_below (owns_below HR.out HW1.out) ((Below.refl _ _).alloc (Nat.le_refl _) _)) ⟨w1.heap.size, 0, none⟩ 1 1 (Kv.cells ⟨ct.1, ct.2, a', c'⟩) (by rfl) rfl (World.news_of_block (heap_alloc_new w1 _)) (kv_one _) (by decide) (by omega) (by omega) (by have := HW1.out.size; simp; omega) _ rfl ?_; intro g3 cap3 w3 hown3 hgrow3 hat3 hlt3; have X3 : Hid (XBox w3 (w.heap.size + 1 + 1) (noB, sy) v) := X2.out.kept hgrow3 (fun e => by have := (owns_cells HR.out e.symm).1; omega); have cX3 := X3.out.c2; have fX3 := X3.out.f (k := 2); have HO3 : Hid (w3.ownsRow (w.heap.size + 3) 28 3 (.slice (some ⟨g3, 0, none⟩) (j + 1) cap3) (j + 1) (kvCells ks ++ Kv.cells ⟨ct.1, ct.2, a', c'⟩)) := hown3; have HG3 : Hid ((w1.alloc (.cells #[.string ct.1.1, .int .i64 ct.1.2, .slice a' (lenF ct.2) c'] 28)).grownBy w3 v.ownBlock ∧ (v.ownBlock = some g3 ∨ g3 = w1.heap.size + 1)) := ⟨hgrow3, by simpa using hat3⟩; clear hown3 hgrow3 hat3)
              | (go_simp; go_wp2_with (go_at_call 32; refine HIH.out.mono ?_; rintro e w1 ⟨a', c', rfl, ho1, hb1⟩; have HO1 : Hid (OwnTm false (fun k => wr.heap.size ≤ k) w1 ct.1 a' c' ct.2) := ho1; have HW1 : Hid (Below wr.heap.size wr w1) := ((Below.refl _ wr).drew).trans hb1; have X1 : Hid (XBox w1 (w.heap.size + 1 + 1) (noB, sy) v) := X0.out.below HW1.out; have cX1 := X1.out.c2; have X2 : Hid (XBox (w1.alloc (.cells #[.string ct.1.1, .int .i64 ct.1.2, .slice a' (lenF ct.2) c'] 28)) (w.heap.size + 1 + 1) (noB, sy) v) := X1.out.below ((Below.refl _ _).alloc (Nat.le_refl _) _); have cX2 := X2.out.c2; clear ho1 hb1))
              | fail))
          all_goals
            go_wp2
            go_roundw
            case rel =>
              obtain ⟨h1, h2⟩ := build_step (kv := ⟨ct.1, ct.2, a', c'⟩) TH.out BU.out HW1.out HO1.out HG3.out.1 HG3.out.2 HO3.out
              obtain ⟨B1, O1, sp⟩ := KD.out.split
              exact ⟨j + 1, _, _, by omega, by go_num, h1, h2, by rw [canonL_take sp, ← HK.out, HCT.out]; simp⟩
            case measure => simp [intOf]; omega
        · have hjl : j = lenF F := by omega
          subst hjl
          have hks' : ks.map (fun k => (k.x, k.l)) = kidsL G := by rw [hks, HGk.out, List.take_of_length_le (by rw [canonL_map, List.length_map, kids_len]; exact Nat.le_refl _)]
          have hBu' : Built false w wr v (lenF G) ks := by rw [hGl]; exact hBu
          obtain ⟨a3, c3, rfl, hrt⟩ := built_done (x := (noB, sy)) hBu' hks' hnm (by rw [hGl]; exact hfew)
          have x0 := bX.c0; have x1 := bX.c1; have x2 := bX.c2
          have R4 : XBox wr (w.heap.size + 1) (⟨#[]⟩, 0) (.slice none 0 0) := hTh.r
          have r0 := R4.c0
          have r1 := R4.c1
          have r2 := R4.c2
          have f0 := R4.f (k := 0)
          have f1 := R4.f (k := 1)
          have f2 := R4.f (k := 2)
          have HR4 : Hid (XBox wr (w.heap.size + 1) (⟨#[]⟩, 0) (.slice none 0 0)) := R4
          have HL : Hid (Below w.heap.size w wr) := hb
          have HRT : Hid (RowTm (w.heap.size + 3) wr (noB, sy) a3 c3 G) := hrt
          clear R4 hTh hBu hBu' hks hks' hb bT bX hrow hrt
          go_wp2
          refine bodyPost_ret (results_cell_row rfl _ _ (w.heap.size + 1) 28 #[.string noB, .int .i64 sy, .slice a3 (lenF F) c3] (0, 0) _ rfl (HR4.out.all (x := (noB, sy)) _) Tryz.underlying28 rfl Tryz.size28) rfl ?_
          refine ⟨a3, c3, by rw [e.out, hGl], ?_, sets_below HL.out (by omega) _ _ _⟩
          rw [e.out]
          have h5 : OwnTm false (fun q => w.heap.size + 1 + 1 ≤ q) wr (noB, sy) a3 c3 G := HRT.out.own.mono (fun q _ hq => by omega)
          exact (h5.sets _ _ _).mono (fun q _ hq => by omega)
    · have e : Hid (canonT (sgOf l) ((noB, sy), F) = (joinN (sgOf l) sy (canonL (sgOf l) F)).getD (constT sy)) := by show _ = _; unfold canonT canon1; rw [if_neg (show ¬ noName ((noB, sy), F).1.1 = false by show ¬ noName noB = false; rw [noName_noB]; simp), if_pos (show (sgOf l).joins ((noB, sy), F).1.2 = true from hj)]
      rw [hj] at HJ
      obtain ⟨W0, hW0⟩ : ∃ W0, (w.alloc (.cells #[.string noB, .int .i64 sy, .slice a (lenF F) c] 28)).alloc (.cells #[.string ⟨#[]⟩, .int .i64 0, .slice none 0 0] 28) = W0 := ⟨_, rfl⟩
      rw [hW0] at HB0 HXt HXr
      obtain ⟨r, hr⟩ : ∃ r, joinN (sgOf l) sy (canonL (sgOf l) F) = r := ⟨_, rfl⟩
      rw [hr] at e HJo
      clear hr
      have t0 := HXt.out.c0; have t1 := HXt.out.c1; have t2 := HXt.out.c2
      have hz0 : W0.heap.size = w.heap.size + 1 + 1 := by rw [← hW0]; simp
      cases r with
      | none =>
        go_enter Tryz.func32, Tryz.ntmps32
        go_wp2_with (first
          | (rw [hW0])
          | (go_at_call 30; refine (HJ.out _ HB0.out).mono ?_; rintro e w9 ⟨rfl, hw9⟩; rw [hw9]; clear hw9)
          | (go_at_call 13; refine (HJo.out _ HB0.out).mono ?_; rintro e w2 ⟨⟨a2, c2, rfl, ho2⟩, hb2⟩; have HO2 : Hid (OwnTm false (fun q => w.heap.size + 1 + 1 ≤ q) w2 zeroT.1 a2 c2 zeroT.2) := ho2.mono (fun q _ hq => by rw [hz0] at hq; exact hq); have hba : Below w2.heap.size w2 (w2.alloc (.cells #[.string zeroT.1.1, .int .i64 zeroT.1.2, .slice a2 (lenF zeroT.2) c2] 28)) := (Below.refl _ _).alloc (Nat.le_refl _) _; have HB3 : Hid (Below w.heap.size w (w2.alloc (.cells #[.string zeroT.1.1, .int .i64 zeroT.1.2, .slice a2 (lenF zeroT.2) c2] 28))) := HB0.out.trans ((hb2.trans (hba.mono hb2.size)).mono HB0.out.size); have HO3 : Hid (OwnTm false (fun q => w.heap.size + 1 + 1 ≤ q) (w2.alloc (.cells #[.string zeroT.1.1, .int .i64 zeroT.1.2, .slice a2 (lenF zeroT.2) c2] 28)) zeroT.1 a2 c2 zeroT.2) := HO2.out.below hba; have ht := (HXt.out.below hb2).below hba; have hrr := (HXr.out.below hb2).below hba; have HR3 : Hid (XBox (w2.alloc (.cells #[.string zeroT.1.1, .int .i64 zeroT.1.2, .slice a2 (lenF zeroT.2) c2] 28)) (w.heap.size + 1) (⟨#[]⟩, 0) (.slice none 0 0)) := hrr; have q0 := ht.c0; have q1 := ht.c1; have q2 := ht.c2; have r0 := hrr.c0; have r1 := hrr.c1; have r2 := hrr.c2; have f0 := hrr.f (k := 0); have f1 := hrr.f (k := 1); have f2 := hrr.f (k := 2); clear ht hrr hba ho2 hb2))
        refine bodyPost_ret (results_cell_row rfl _ _ (w.heap.size + 1) 28 #[.string noB, .int .i64 sy, .slice none 0 0] (0, 0) _ rfl (HR3.out.all (x := (noB, sy)) _) Tryz.underlying28 rfl Tryz.size28) rfl ?_
        refine ⟨none, 0, by rw [e.out]; rfl, ?_, sets_below HB3.out (by omega) _ _ _⟩
        rw [e.out]
        exact own_nil _ _ (show noB.size ≤ maxLen by decide)
      | some t =>
        go_enter Tryz.func32, Tryz.ntmps32
        go_wp2_with (first
          | (rw [hW0])
          | (go_at_call 30; refine (HJ.out _ HB0.out).mono ?_; rintro e w9 ⟨rfl, hw9⟩; rw [hw9]; clear hw9)
          | (go_at_call 13; refine (HJo.out _ HB0.out).mono ?_; rintro e w2 ⟨⟨a2, c2, rfl, ho2⟩, hb2⟩; have HO2 : Hid (OwnTm false (fun q => w.heap.size + 1 + 1 ≤ q) w2 t.1 a2 c2 t.2) := ho2.mono (fun q _ hq => by rw [hz0] at hq; exact hq); have hba : Below w2.heap.size w2 (w2.alloc (.cells #[.string t.1.1, .int .i64 t.1.2, .slice a2 (lenF t.2) c2] 28)) := (Below.refl _ _).alloc (Nat.le_refl _) _; have HB3 : Hid (Below w.heap.size w (w2.alloc (.cells #[.string t.1.1, .int .i64 t.1.2, .slice a2 (lenF t.2) c2] 28))) := HB0.out.trans ((hb2.trans (hba.mono hb2.size)).mono HB0.out.size); have HO3 : Hid (OwnTm false (fun q => w.heap.size + 1 + 1 ≤ q) (w2.alloc (.cells #[.string t.1.1, .int .i64 t.1.2, .slice a2 (lenF t.2) c2] 28)) t.1 a2 c2 t.2) := HO2.out.below hba; have ht := (HXt.out.below hb2).below hba; have hrr := (HXr.out.below hb2).below hba; have HR3 : Hid (XBox (w2.alloc (.cells #[.string t.1.1, .int .i64 t.1.2, .slice a2 (lenF t.2) c2] 28)) (w.heap.size + 1) (⟨#[]⟩, 0) (.slice none 0 0)) := hrr; have q0 := ht.c0; have q1 := ht.c1; have q2 := ht.c2; have r0 := hrr.c0; have r1 := hrr.c1; have r2 := hrr.c2; have f0 := hrr.f (k := 0); have f1 := hrr.f (k := 1); have f2 := hrr.f (k := 2); clear ht hrr hba ho2 hb2))
        refine bodyPost_ret (results_cell_row rfl _ _ (w.heap.size + 1) 28 #[.string t.1.1, .int .i64 t.1.2, .slice a2 (lenF t.2) c2] (0, 0) _ rfl (HR3.out.all (x := t.1) _) Tryz.underlying28 rfl Tryz.size28) rfl ?_
        refine ⟨a2, c2, by rw [e.out]; rfl, ?_, sets_below HB3.out (by omega) _ _ _⟩
        rw [e.out]
        exact (HO3.out.sets _ _ _).mono (fun q _ hq => by omega)

set_option maxRecDepth 100000 in
theorem canon_all (S : Option Addr) (n cap : Nat) (l : List Sym) : ∀ k, k ≤ 1048576 → CanonOk S n cap l k := by
  intro k
  induction k using Nat.strongRecOn with
  | _ k ih =>
    intro hk
    have h : ∀ j, j < k → CanonOk S n cap l j := fun j hj => ih j hj (by omega)
    exact canon_of h (join_of hk h)
set_option maxRecDepth 100000 in
theorem join_all (S : Option Addr) (n cap : Nat) (l : List Sym) (k : Nat) (hk : k ≤ 1048576) : JoinOk S n cap l k := join_of hk fun j hj => canon_all S n cap l j (by omega)
end Go.Proofs.YtppgmepmegelbaaGreatDoor
/- What the document's Exact answers of any two terms. -/
namespace Go.Proofs.YtppgmepmegelbaaGreatDoor
open Go.RowKit Go.Deep

/-- Alike in every field. -/
def exF : Fo → Fo → Bool
  | .nil, _ => true
  | .node _ _ _ _ _, .nil => true
  | .node _ _ x l r, .node _ _ y m s => ((x.1.toList == y.1.toList) && (x.2 == y.2) && (lenF l == lenF m) && exF l m) && exF r s
def exN (x y : ByteArray × Int) (l m : Fo) : Bool := (x.1.toList == y.1.toList) && (x.2 == y.2) && (lenF l == lenF m) && exF l m
end Go.Proofs.YtppgmepmegelbaaGreatDoor
/- What Name and Var of package sig, and the document's, answer of any text. -/
namespace Go.Proofs.YtppgmepmegelbaaGreatDoor
open Go.RowKit

end Go.Proofs.YtppgmepmegelbaaGreatDoor
/- What the document's symbol and Check answer. -/
namespace Go.Proofs.YtppgmepmegelbaaGreatDoor
open Go.RowKit

theorem box_facts {w w1 : World} {x : Sym} (hb : Below (w.heap.size + 1) (w.alloc (.cells #[.string x.name, .int .i64 x.kind, .int .i64 x.arity, .string x.unit] 57)) w1) :
    w1.cell? ⟨w.heap.size, 0, none⟩ = some (.string x.name) ∧ w1.cell? ⟨w.heap.size, 1, none⟩ = some (.int .i64 x.kind) ∧ w1.cell? ⟨w.heap.size, 2, none⟩ = some (.int .i64 x.arity) ∧ w1.cell? ⟨w.heap.size, 3, none⟩ = some (.string x.unit) ∧ w.heap.size < w1.heap.size ∧ Below w.heap.size w w1 := by
  refine ⟨?_, ?_, ?_, ?_, ?_, ?_⟩
  · rw [hb.cell (p := ⟨w.heap.size, 0, none⟩) (by simp)]; simp [go_sem]
  · rw [hb.cell (p := ⟨w.heap.size, 1, none⟩) (by simp)]; simp [go_sem]
  · rw [hb.cell (p := ⟨w.heap.size, 2, none⟩) (by simp)]; simp [go_sem]
  · rw [hb.cell (p := ⟨w.heap.size, 3, none⟩) (by simp)]; simp [go_sem]
  · have := hb.size; simp at this; omega
  · exact ((Below.refl _ _).alloc (Nat.le_refl _) _).trans (hb.mono (by omega))
def freshB (l : List Sym) (nm : ByteArray) : Bool := l.all fun y => !sameB y.name nm
theorem fresh_find (l : List Sym) (nm : ByteArray) : findB l nm = !freshB l nm := by
  unfold findB findL freshB
  rw [List.findIdx?_isSome]
  induction l with
  | nil => rfl
  | cons y l ih => simp only [List.any_cons, List.all_cons, ih]; cases sameB y.name nm <;> simp
theorem fresh_succ {l : List Sym} {k : Nat} (hk : k < l.length) (nm : ByteArray) : freshB (l.take (k + 1)) nm = (freshB (l.take k) nm && !sameB l[k].name nm) := by
  unfold freshB
  rw [List.take_succ_eq_append_getElem hk, List.all_append]
  simp
def okB (l : List Sym) (x : Sym) (k : Nat) : Bool := nameB x.name && freshB (l.take k) x.name
theorem okB_zero (l : List Sym) (x : Sym) : okB l x 0 = nameB x.name := by simp [okB, freshB]
theorem okB_succ {l : List Sym} {k : Nat} (hk : k < l.length) (x : Sym) : okB l x (k + 1) = (okB l x k && !sameB l[k].name x.name) := by
  unfold okB; rw [fresh_succ hk, Bool.and_assoc]
theorem okB_err {l : List Sym} {x : Sym} {k : Nat} (h : okB l x k = false) : symErr (l.take k) x = 11 := by
  unfold symErr
  rw [if_pos]
  unfold okB at h
  rw [fresh_find]
  cases h1 : nameB x.name
  · exact Or.inr rfl
  · rw [h1] at h; simp at h; left; simp [h]
theorem okB_ok {l : List Sym} {x : Sym} {k : Nat} (h : okB l x k = true) : ¬ (findB (l.take k) x.name = true ∨ nameB x.name = false) := by
  unfold okB at h
  rw [fresh_find]
  simp at h
  simp [h.1, h.2]
theorem err12 {l : List Sym} {x : Sym} (h : ¬ (findB l x.name = true ∨ nameB x.name = false)) (hk : kindB x = false) : symErr l x = 12 := by
  unfold symErr; rw [if_neg h, if_pos hk]
theorem err13 {l : List Sym} {x : Sym} (h : ¬ (findB l x.name = true ∨ nameB x.name = false)) (hk : kindB x = true) (ha : arityB x = false) : symErr l x = 13 := by
  unfold symErr; rw [if_neg h, if_neg (by simp [hk]), if_pos ha]
theorem err14 {l : List Sym} {x : Sym} (h : ¬ (findB l x.name = true ∨ nameB x.name = false)) (hk : kindB x = true) (ha : arityB x = true) : symErr l x = if unitB l x = false then 14 else 0 := by
  unfold symErr; rw [if_neg h, if_neg (by simp [hk]), if_neg (by simp [ha])]

end Go.Proofs.YtppgmepmegelbaaGreatDoor
/- What the document's Check and Same answer, and what kept answers of a signature that reads as it did. -/
namespace Go.Proofs.YtppgmepmegelbaaGreatDoor
open Go.RowKit

def CheckRet (l : List Sym) (e : Ending) : Prop := e = .returned (.tuple #[.int .i64 (checkE l), .int .i64 (checkP l)])

end Go.Proofs.YtppgmepmegelbaaGreatDoor
/- What the document's Same, Is, Equal and Right answer. -/
namespace Go.Proofs.YtppgmepmegelbaaGreatDoor
open Go.RowKit Go.Deep

set_option maxRecDepth 100000 in
set_option maxHeartbeats 2000000 in
theorem rsame_any (x y : Tn) (a b : Option Addr) (c d : Nat) (w : World) (hS : TmAt w x.1 a c x.2) (hT : TmAt w y.1 b d y.2) :
    Calls Tryz.prog 11 #[.agg #[.string x.1.1, .int .i64 x.1.2, .slice a (lenF x.2) c], .agg #[.string y.1.1, .int .i64 y.1.2, .slice b (lenF y.2) d]] w fun e w' => e = .returned (.bool (cmpN x y == 0)) ∧ Below w.heap.size w w' := by
  obtain ⟨⟨xn, xs⟩, l⟩ := x
  obtain ⟨⟨yn, ys⟩, m⟩ := y
  obtain ⟨cv, hcv⟩ : ∃ cv, cmpN ((xn, xs), l) ((yn, ys), m) = cv := ⟨_, rfl⟩
  have PA : Hid (Pair w (xn, xs) a (lenF l) c (yn, ys) b (lenF m) d ((w.alloc (.cells #[.string xn, .int .i64 xs, .slice a (lenF l) c] 28)).alloc (.cells #[.string yn, .int .i64 ys, .slice b (lenF m) d] 28))) := Pair.new _ _ _ _ _ _ _ _ _
  have HC : Hid (∀ V, Below w.heap.size w V → Calls Tryz.prog 29 #[.agg #[.string xn, .int .i64 xs, .slice a (lenF l) c], .agg #[.string yn, .int .i64 ys, .slice b (lenF m) d]] V fun e w' => e = .returned (.int .i64 cv) ∧ Below V.heap.size V w') := fun V hV => by
    have := rcompare_all _ (xn, xs) (yn, ys) a b c d l m V (Nat.le_refl _) (hS.below hV) (hT.below hV)
    rw [show cmp1 (xn, xs) (yn, ys) (lenF l) (lenF m) (cmpF l m) = cv from hcv] at this
    exact this
  rw [hcv]
  clear hcv hS hT
  go_enter Tryz.func11, Tryz.ntmps11
  go_wp2_with (go_at_call 29; refine (HC.out _ PA.out.low).mono ?_; rintro e w1 ⟨rfl, hb1⟩; have HB1 : Hid (Below w.heap.size w w1) := PA.out.low.trans (hb1.mono PA.out.low.size); clear hb1)
  go_ret
  exact ⟨rfl, HB1.out⟩

def rightB (l : List Sym) (t : Tn) : Bool := (checkE l == 0) && (errT l t.1 t.2 == 0)
set_option maxRecDepth 100000 in
theorem right_facts {l : List Sym} {t : Tn} (h : rightB l t = true) : (sgOf l).Ok (arAt l) ∧ RightT (sgOf l) (arAt l) t := by
  unfold rightB at h
  simp only [Bool.and_eq_true, beq_iff_eq] at h
  exact ⟨sg_ok h.1, errT_right h.1 h.2⟩
end Go.Proofs.YtppgmepmegelbaaGreatDoor
/- What the document's SameEquations answers. -/
namespace Go.Proofs.YtppgmepmegelbaaGreatDoor
open Go.RowKit Go.Deep

/-- The slice with this address holds so many equations. -/
structure QAt (w : World) (a : Option Addr) (n : Nat) (L R : Nat → Tn) : Prop where
  small : n ≤ 1048576
  cells : ∀ i, i < n → ∃ b o p1 c1 p2 c2, a = some ⟨b, o, none⟩ ∧ w.cell? ⟨b, o + i * 6, none⟩ = some (.string (L i).1.1) ∧ w.cell? ⟨b, o + i * 6 + 1, none⟩ = some (.int .i64 (L i).1.2) ∧ w.cell? ⟨b, o + i * 6 + 2, none⟩ = some (.slice p1 (lenF (L i).2) c1) ∧ w.cell? ⟨b, o + i * 6 + 3, none⟩ = some (.string (R i).1.1) ∧ w.cell? ⟨b, o + i * 6 + 4, none⟩ = some (.int .i64 (R i).1.2) ∧ w.cell? ⟨b, o + i * 6 + 5, none⟩ = some (.slice p2 (lenF (R i).2) c2) ∧ TmAt w (L i).1 p1 c1 (L i).2 ∧ TmAt w (R i).1 p2 c2 (R i).2
theorem QAt.below {w w' : World} {a : Option Addr} {n : Nat} {L R : Nat → Tn} (h : QAt w a n L R) (hb : Below w.heap.size w w') : QAt w' a n L R :=
  ⟨h.small, fun i hi => let ⟨b, o, p1, c1, p2, c2, h0, h1, h2, h3, h4, h5, h6, h7, h8⟩ := h.cells i hi; ⟨b, o, p1, c1, p2, c2, h0, below_cell hb _ _ h1, below_cell hb _ _ h2, below_cell hb _ _ h3, below_cell hb _ _ h4, below_cell hb _ _ h5, below_cell hb _ _ h6, h7.below hb, h8.below hb⟩⟩
def qAll (L R L' R' : Nat → Tn) : Nat → Nat → Bool
  | _, 0 => true
  | i, m + 1 => if cmpN (L i) (L' i) == 0 then (if cmpN (R i) (R' i) == 0 then qAll L R L' R' (i + 1) m else false) else false
set_option maxRecDepth 100000 in
set_option maxHeartbeats 2000000 in
theorem sameq_any (a a' : Option Addr) (n c c' : Nat) (L R L' R' : Nat → Tn) (w : World) (hQ : QAt w a n L R) (hQ' : QAt w a' n L' R') :
    Calls Tryz.prog 8 #[.slice a n c, .slice a' n c'] w fun e w' => e = .returned (.bool (qAll L R L' R' 0 n)) ∧ Below w.heap.size w w' := by
  have HQ := hid hQ; have HQ' := hid hQ'
  have hsm := hQ.small
  obtain ⟨rb, hrb⟩ : ∃ rb, qAll L R L' R' 0 n = rb := ⟨_, rfl⟩
  rw [hrb]
  have HRB := hid hrb
  clear hQ hQ' hrb
  go_enter Tryz.func8, Tryz.ntmps8
  go_wp2_with fail
  go_loopw [5] (fun iv wr => ∃ i : Nat, i ≤ n ∧ iv = .int .i64 i ∧ qAll L R L' R' i (n - i) = rb ∧ Below w.heap.size w wr) (fun iv _ => n - (intOf iv).toNat)
  case atStart => exact ⟨0, Nat.zero_le _, rfl, HRB.out, Below.refl _ _⟩
  case round =>
    obtain ⟨i, hi, rfl, hr, hlow⟩ := hrel
    by_cases hlt : i < n
    · obtain ⟨m, hm⟩ : ∃ m, n - i = m + 1 := ⟨n - i - 1, by omega⟩
      rw [hm] at hr
      unfold qAll at hr
      have hm2 : n - (i + 1) = m := by omega
      obtain ⟨b, o, p1, c1, p2, c2, rfl, q0, q1, q2, q3, q4, q5, t1, t2⟩ := (HQ.out.below hlow).cells i hlt
      obtain ⟨b', o', p1', c1', p2', c2', rfl, r0, r1, r2, r3, r4, r5, t1', t2'⟩ := (HQ'.out.below hlow).cells i hlt
      obtain ⟨xl, hxl⟩ : ∃ x, L i = x := ⟨_, rfl⟩
      obtain ⟨xr, hxr⟩ : ∃ x, R i = x := ⟨_, rfl⟩
      obtain ⟨yl, hyl⟩ : ∃ x, L' i = x := ⟨_, rfl⟩
      obtain ⟨yr, hyr⟩ : ∃ x, R' i = x := ⟨_, rfl⟩
      rw [hxl] at q0 q1 q2 t1 hr
      rw [hxr] at q3 q4 q5 t2 hr
      rw [hyl] at r0 r1 r2 t1' hr
      rw [hyr] at r3 r4 r5 t2' hr
      obtain ⟨s1, hs1⟩ : ∃ s, (cmpN xl yl == 0) = s := ⟨_, rfl⟩
      obtain ⟨s2, hs2⟩ : ∃ s, (cmpN xr yr == 0) = s := ⟨_, rfl⟩
      rw [hs1, hs2] at hr
      have HS1 := hid hs1; have HS2 := hid hs2; have HR := hid hr; have HM := hid hm2; have HL := hid hlow
      have T1 := hid t1; have T2 := hid t2; have T1' := hid t1'; have T2' := hid t2'
      have C3 := hid q3; have C4 := hid q4; have C5 := hid q5; have D3 := hid r3; have D4 := hid r4; have D5 := hid r5
      clear hm hm2 hxl hxr hyl hyr hs1 hs2 hr hlow t1 t2 t1' t2' q3 q4 q5 r3 r4 r5
      go_upto_region 6 with fail
      go_region_with (first
        | (go_at_call 11; refine Calls.mono (rsame_any xl yl p1 p1' c1 c1' _ (T1.out.below (Below.refl _ _).drew) (T1'.out.below (Below.refl _ _).drew)) ?_; rintro e w1 ⟨rfl, hb⟩; rw [HS1.out]; have HB1 := hid (((Below.refl _ wr).drew).trans hb); have q3 := below_cell HB1.out _ _ C3.out; have q4 := below_cell HB1.out _ _ C4.out; have q5 := below_cell HB1.out _ _ C5.out; have r3 := below_cell HB1.out _ _ D3.out; have r4 := below_cell HB1.out _ _ D4.out; have r5 := below_cell HB1.out _ _ D5.out; clear hb q0 q1 q2 r0 r1 r2)
        | fail)
      all_goals
        go_upto_region 7 with fail
        go_region_with (first
          | (go_at_call 11; refine Calls.mono (rsame_any xr yr p2 p2' c2 c2' _ (T2.out.below HB1.out.drew) (T2'.out.below HB1.out.drew)) ?_; rintro e w2 ⟨rfl, hb⟩; rw [HS2.out]; have HB2 := hid (HB1.out.trans ((((Below.refl _ w1).drew).trans hb).mono HB1.out.size)); clear hb q3 q4 q5 r3 r4 r5)
          | fail)
        all_goals
          have HBE := hid (HL.out.trans (HB2.out.mono HL.out.size))
          cases s1 <;> cases s2 <;> go_wp2_with fail
          all_goals first
            | (go_ret
               have h9 := HR.out
               simp at h9
               subst h9
               exact ⟨rfl, HBE.out⟩)
            | (go_roundw
               case rel => exact ⟨i + 1, by omega, by go_num, by rw [HM.out]; simpa using HR.out, HBE.out⟩
               case measure => simp [intOf]; omega)
    · have e1 : n - i = 0 := by omega
      rw [e1] at hr
      have hr2 : true = rb := hr
      subst hr2
      have HL := hid hlow
      clear hr hlow e1
      go_wp2_with fail
      go_ret
      exact ⟨rfl, HL.out⟩
end Go.Proofs.YtppgmepmegelbaaGreatDoor
/- The law's signature; what its calls answer, plainly. -/
namespace Go.Proofs.YtppgmepmegelbaaGreatDoor
open Go.RowKit Go.Deep

def someL : List Sym := [⟨⟨#[97]⟩, 1, 0, ⟨#[]⟩⟩, ⟨⟨#[111, 110, 101]⟩, 1, 0, ⟨#[]⟩⟩, ⟨⟨#[102]⟩, 1, 2, ⟨#[]⟩⟩, ⟨⟨#[112, 108, 117, 115]⟩, 2, 2, ⟨#[]⟩⟩, ⟨⟨#[116, 105, 109, 101, 115]⟩, 3, 2, ⟨#[111, 110, 101]⟩⟩]
theorem sig_new (w : World) : SigAt (w.alloc (.cells #[.string ⟨#[97]⟩, .int .i64 1, .int .i64 0, .string ⟨#[]⟩, .string ⟨#[111, 110, 101]⟩, .int .i64 1, .int .i64 0, .string ⟨#[]⟩, .string ⟨#[102]⟩, .int .i64 1, .int .i64 2, .string ⟨#[]⟩, .string ⟨#[112, 108, 117, 115]⟩, .int .i64 2, .int .i64 2, .string ⟨#[]⟩, .string ⟨#[116, 105, 109, 101, 115]⟩, .int .i64 3, .int .i64 2, .string ⟨#[111, 110, 101]⟩] 57)) (some ⟨w.heap.size, 0, none⟩) 5 someL := by
  have h := Box.new w 57 #[.string ⟨#[97]⟩, .int .i64 1, .int .i64 0, .string ⟨#[]⟩, .string ⟨#[111, 110, 101]⟩, .int .i64 1, .int .i64 0, .string ⟨#[]⟩, .string ⟨#[102]⟩, .int .i64 1, .int .i64 2, .string ⟨#[]⟩, .string ⟨#[112, 108, 117, 115]⟩, .int .i64 2, .int .i64 2, .string ⟨#[]⟩, .string ⟨#[116, 105, 109, 101, 115]⟩, .int .i64 3, .int .i64 2, .string ⟨#[111, 110, 101]⟩]
  refine ⟨rfl, by decide, fun i hi => ⟨_, 0, rfl, ?_⟩, ?_⟩
  · match i, hi with
    | 0, _ => exact ⟨h.c 0, h.c 1, h.c 2, h.c 3⟩
    | 1, _ => exact ⟨h.c 4, h.c 5, h.c 6, h.c 7⟩
    | 2, _ => exact ⟨h.c 8, h.c 9, h.c 10, h.c 11⟩
    | 3, _ => exact ⟨h.c 12, h.c 13, h.c 14, h.c 15⟩
    | 4, _ => exact ⟨h.c 16, h.c 17, h.c 18, h.c 19⟩
  · intro x hx
    simp only [someL, List.mem_cons, List.not_mem_nil, or_false] at hx
    rcases hx with rfl | rfl | rfl | rfl | rfl <;> exact ⟨by decide, by decide⟩
set_option maxRecDepth 100000 in
set_option maxHeartbeats 1000000 in
theorem some_any (w : World) : Calls Tryz.prog 6 #[] w fun e w' => e = .returned (.slice (some ⟨w.heap.size, 0, none⟩) 5 5) ∧ SigAt w' (some ⟨w.heap.size, 0, none⟩) 5 someL ∧ Below w.heap.size w w' := by
  have H := hid (sig_new w)
  go_enter Tryz.func6, Tryz.ntmps6
  go_wp2_with fail
  go_ret
  exact ⟨rfl, H.out, alloc_below0 _ _⟩
theorem some_ok : checkE someL = 0 := by decide +kernel
theorem e0 : eqE someL 3 2 [[1, 0], [1, 1]] 4 = 0 := by decide
theorem e1 : eqE someL 3 2 [[1, 0]] 0 = 142 := by decide
theorem e2 : eqE someL 3 2 [[1]] 0 = 141 := by decide
theorem e3 : eqE someL 0 2 [] 0 = 121 := by decide
theorem e4 : eqE someL 3 2 [] (-1) = 1 := by decide
theorem e5 : eqE someL 3 2 [[400, 1]] 0 = 2 := by decide
theorem digit_name (d : Nat) (h : 1 ≤ d) (h9 : d < 10) : nameL (d : Int) = [95, UInt8.ofNat (48 + d)] := by
  unfold nameL
  rw [if_neg (by omega), itoa_nat (by omega), show ((d : Int)).toNat = d by omega, Lib.decDigits, dif_pos h9]
def v5 : Tn := ((⟨#[95, 53]⟩, 0), .nil)
def v6 : Tn := ((⟨#[95, 54]⟩, 0), .nil)
theorem vk5 : (vk 4 0).tn = v5 := by
  have h := digit_name 5 (by decide) (by decide)
  show ((strB (nameL (4 + 1 + (0 : Nat))), (0 : Int)), Deep.BT.nil) = _
  rw [show ((4 : Int) + 1 + (0 : Nat)) = ((5 : Nat) : Int) by decide, h]; rfl
theorem vk6 : (vk 4 1).tn = v6 := by
  have h := digit_name 6 (by decide) (by decide)
  show ((strB (nameL (4 + 1 + (1 : Nat))), (0 : Int)), Deep.BT.nil) = _
  rw [show ((4 : Int) + 1 + (1 : Nat)) = ((6 : Nat) : Int) by decide, h]; rfl
theorem vars0 : (varK 4 0 [[1, 0], [1, 1]] 0).map Kv.tn = [v5, v6] := by
  show [(vk 4 0).tn, (vk 4 1).tn] = _
  rw [vk5, vk6]
theorem vars1 : (varK 4 1 [[1, 0], [1, 1]] 0).map Kv.tn = [v6] := by
  show [(vk 4 1).tn] = _
  rw [vk6]
def sum56 : Tn := ((⟨#[]⟩, 3), mkF [v5, v6])
theorem right5 : RightT (sgOf someL) (arAt someL) v5 := by
  refine ⟨?_, trivial⟩
  have h : noName v5.1.1 = false := by kernel_rfl
  unfold nodeOk
  rw [if_pos h]
  exact ⟨rfl, rfl⟩
theorem right6 : RightT (sgOf someL) (arAt someL) v6 := by
  refine ⟨?_, trivial⟩
  have h : noName v6.1.1 = false := by kernel_rfl
  unfold nodeOk
  rw [if_pos h]
  exact ⟨rfl, rfl⟩
theorem join0 {b : Bool} (hb : b = true) {r : Tn} (h : JoinR someL 3 [v5, v6] b r) : r = sum56 := by
  subst hb
  have h3 := h.2.2 (sg_ok some_ok) (fun t ht => by
    simp only [List.mem_cons, List.not_mem_nil, or_false] at ht
    rcases ht with rfl | rfl
    · exact right5
    · exact right6)
  have h4 : joinN (sgOf someL) 3 ([v5, v6].map (canonT (sgOf someL))) = some sum56 := by kernel_rfl
  rw [h4] at h3
  exact (Option.some.inj h3).symm
theorem join1 {b : Bool} (hb : b = true) {r : Tn} (h : JoinR someL 3 [v6] b r) : r = v6 := by
  subst hb
  have h3 := h.2.2 (sg_ok some_ok) (fun t ht => by
    simp only [List.mem_cons, List.not_mem_nil, or_false] at ht
    subst ht
    exact right6)
  have h4 : joinN (sgOf someL) 3 ([v6].map (canonT (sgOf someL))) = some v6 := by kernel_rfl
  rw [h4] at h3
  exact (Option.some.inj h3).symm
def uX : Tn := ((⟨#[88]⟩, 0), .nil)
def uA : Tn := ((⟨#[]⟩, 0), .nil)
def usL : List Unk := [(uX, 1, false), (uA, 1, true)]
def wL : Nat → Tn | 0 => uX | _ => uA
def wR : Nat → Tn | 0 => sum56 | _ => v6
theorem q_all {L R : Nat → Tn} (h0 : L 0 = uX) (h1 : R 0 = sum56) (h2 : L 1 = uA) (h3 : R 1 = v6) : qAll L R wL wR 0 2 = true := by
  unfold qAll
  rw [h0, h1]
  unfold qAll
  rw [h2, h3]
  kernel_rfl
theorem ints_new (V : World) (ns : List Int) (h : ns.length ≤ maxLen) : IntsZ (V.alloc (.cells (ns.map (Value.int .i64)).toArray 3)) (some ⟨V.heap.size, 0, none⟩) ns :=
  ⟨h, fun i hi => ⟨_, 0, rfl, by rw [Nat.zero_add, (Box.new V 3 _).c i, List.getElem?_toArray, List.getElem?_map, List.getElem?_eq_getElem hi]; rfl⟩⟩
theorem rows_one (V : World) (p : Option Addr) (c : Nat) (r : List Int) (h : IntsZ V p r) : RowsZ (V.alloc (.cells #[.slice p r.length c] 36)) (some ⟨V.heap.size, 0, none⟩) [r] :=
  ⟨by show 1 ≤ maxLen; decide, fun i hi => by
    obtain rfl : i = 0 := by simpa using hi
    exact ⟨_, 0, p, c, rfl, (Box.new V 36 _).c 0, h.below (alloc_below0 _ _)⟩⟩
theorem rows_two (V : World) (p q : Option Addr) (c d : Nat) (r s : List Int) (h : IntsZ V p r) (k : IntsZ V q s) : RowsZ (V.alloc (.cells #[.slice p r.length c, .slice q s.length d] 36)) (some ⟨V.heap.size, 0, none⟩) [r, s] :=
  ⟨by show 2 ≤ maxLen; decide, fun i hi => by
    match i, hi with
    | 0, _ => exact ⟨_, 0, p, c, rfl, (Box.new V 36 _).c 0, h.below (alloc_below0 _ _)⟩
    | 1, _ => exact ⟨_, 0, q, d, rfl, (Box.new V 36 _).c 1, k.below (alloc_below0 _ _)⟩⟩
theorem rows_none (V : World) : RowsZ V none [] := ⟨Nat.zero_le _, fun i hi => absurd hi (by simp)⟩
theorem unk_new (V : World) : UnkZ (V.alloc (.cells #[.string ⟨#[88]⟩, .int .i64 0, .slice none 0 0, .int .i64 1, .bool false, .string ⟨#[]⟩, .int .i64 0, .slice none 0 0, .int .i64 1, .bool true] 30)) (some ⟨V.heap.size, 0, none⟩) usL := by
  have h := Box.new V 30 #[.string ⟨#[88]⟩, .int .i64 0, .slice none 0 0, .int .i64 1, .bool false, .string ⟨#[]⟩, .int .i64 0, .slice none 0 0, .int .i64 1, .bool true]
  refine ⟨by decide, fun i hi => ?_⟩
  match i, hi with
  | 0, _ => exact ⟨_, 0, none, 0, rfl, h.c 0, h.c 1, h.c 2, h.c 3, h.c 4, ⟨⟨(by decide : 1 ≤ maxLen), Nat.le_refl _, (by decide : 0 ≤ maxLen), (by decide : 0 * 48 ≤ 140737488351232)⟩, .inl rfl⟩⟩
  | 1, _ => exact ⟨_, 0, none, 0, rfl, h.c 5, h.c 6, h.c 7, h.c 8, h.c 9, ⟨⟨(by decide : 0 ≤ maxLen), Nat.le_refl _, (by decide : 0 ≤ maxLen), (by decide : 0 * 48 ≤ 140737488351232)⟩, .inl rfl⟩⟩
end Go.Proofs.YtppgmepmegelbaaGreatDoor
/- The walk of RejoinNames. -/
namespace Go.Proofs.YtppgmepmegelbaaGreatDoor
open Go.RowKit Go.Deep

theorem q_at {B n g : Nat} {W : World} {ks : List Kv} (h : EqsAt B W g n ks) (hn : n ≤ 1048576) : QAt W (some ⟨g, 0, none⟩) n (fun i => ((ks[2 * i]?).map Kv.tn).getD uA) (fun i => ((ks[2 * i + 1]?).map Kv.tn).getD uA) := by
  refine ⟨hn, fun i hi => ?_⟩
  have hl := h.len
  obtain ⟨k1, e1⟩ : ∃ k, ks[2 * i]? = some k := ⟨_, List.getElem?_eq_getElem (by omega)⟩
  obtain ⟨k2, e2⟩ : ∃ k, ks[2 * i + 1]? = some k := ⟨_, List.getElem?_eq_getElem (by omega)⟩
  obtain ⟨a0, a1, a2⟩ := kv_cells e1
  obtain ⟨b0, b1, b2⟩ := kv_cells e2
  have hat := owns_at h.row
  have c0 := hat _ _ a0; have c1 := hat _ _ a1; have c2 := hat _ _ a2
  have d0 := hat _ _ b0; have d1 := hat _ _ b1; have d2 := hat _ _ b2
  obtain ⟨_, _, s1⟩ := h.gl.mem (List.mem_of_getElem? e1)
  obtain ⟨_, _, s2⟩ := h.gl.mem (List.mem_of_getElem? e2)
  rw [e1, e2]
  rw [show 0 + 2 * i * 3 = 0 + i * 6 by omega] at c0
  rw [show 0 + (2 * i * 3 + 1) = 0 + i * 6 + 1 by omega] at c1
  rw [show 0 + (2 * i * 3 + 2) = 0 + i * 6 + 2 by omega] at c2
  rw [show 0 + (2 * i + 1) * 3 = 0 + i * 6 + 3 by omega] at d0
  rw [show 0 + ((2 * i + 1) * 3 + 1) = 0 + i * 6 + 4 by omega] at d1
  rw [show 0 + ((2 * i + 1) * 3 + 2) = 0 + i * 6 + 5 by omega] at d2
  exact ⟨g, 0, k1.a, k1.c, k2.a, k2.c, rfl, c0, c1, c2, d0, d1, d2, SepTm.tm s1, SepTm.tm s2⟩
/-- The first call's rows in memory. -/
def wA (V : World) : World := ((V.alloc (.cells #[.int .i64 1, .int .i64 0] 3)).alloc (.cells #[.int .i64 1, .int .i64 1] 3)).alloc (.cells #[.slice (some ⟨V.heap.size, 0, none⟩) 2 2, .slice (some ⟨V.heap.size + 1, 0, none⟩) 2 2] 36)
theorem wA_below (V : World) : Below V.heap.size V (wA V) := by
  have b1 := alloc_below0 V (.cells #[.int .i64 1, .int .i64 0] 3)
  have b2 := b1.trans ((alloc_below0 (V.alloc (.cells #[.int .i64 1, .int .i64 0] 3)) (.cells #[.int .i64 1, .int .i64 1] 3)).mono b1.size)
  exact b2.trans ((alloc_below0 _ _).mono b2.size)
theorem wA_rows (V : World) : RowsZ (wA V) (some ⟨V.heap.size + 1 + 1, 0, none⟩) [[1, 0], [1, 1]] := by
  have h1 := ints_new V [1, 0] (by decide)
  have h2 := ints_new (V.alloc (.cells #[.int .i64 1, .int .i64 0] 3)) [1, 1] (by decide)
  rw [World.size_alloc] at h2
  have h3 := h1.below (alloc_below0 _ (.cells #[.int .i64 1, .int .i64 1] 3))
  have h4 := rows_two _ _ _ 2 2 _ _ h3 h2
  rw [World.size_alloc, World.size_alloc] at h4
  exact h4
theorem eqs_first (BS BU : Nat) (V : World) (hS : SigAt V (some ⟨BS, 0, none⟩) 5 someL) (hU : UnkZ V (some ⟨BU, 0, none⟩) usL) (hs : Std V) :
    Calls Tryz.prog 7 #[.slice (some ⟨BS, 0, none⟩) 5 5, .int .i64 3, .slice (some ⟨BU, 0, none⟩) 2 2, .slice (some ⟨V.heap.size + 1 + 1, 0, none⟩) 2 2, .int .i64 4] (wA V) fun e w' => ∃ g L R, e = .returned (.tuple #[.slice (some ⟨g, 0, none⟩) 2 2, .int .i64 6, .int .i64 0]) ∧ QAt w' (some ⟨g, 0, none⟩) 2 L R ∧ qAll L R wL wR 0 2 = true ∧ Below V.heap.size V w' := by
  have hb := wA_below V
  refine (eqs_ok (some ⟨BS, 0, none⟩) 5 5 someL 3 (some ⟨BU, 0, none⟩) usL 2 _ 2 [[1, 0], [1, 1]] 4 (wA V) (hS.below hb) (wA_rows V) (hU.below hb) (hs.below hb hs.pos) e0).mono ?_
  rintro e w' ⟨g, ks, rfl, hE, hD, hbl⟩
  refine ⟨g, _, _, rfl, q_at hE (by decide), ?_, hb.trans (hbl.mono hb.size)⟩
  have hl : ks.length = 4 := hE.len
  obtain ⟨k1, k2, a1, a2, a3, a4⟩ := hD 0 (by decide) (by omega)
  obtain ⟨k3, k4, b1, b2, b3, b4⟩ := hD 1 (by decide) (by omega)
  rw [vars0] at a4
  rw [vars1] at b4
  have j0 := join0 (by rfl) a4
  have j1 := join1 (by rfl) b4
  refine q_all ?_ ?_ ?_ ?_
  · simp only [a1]; exact a3
  · simp only [a2]; exact j0
  · simp only [b1]; exact b3
  · simp only [b2]; exact j1
/-- One row in memory. -/
def wB (V : World) (l : List Int) : World := (V.alloc (.cells (l.map (Value.int .i64)).toArray 3)).alloc (.cells #[.slice (some ⟨V.heap.size, 0, none⟩) l.length l.length] 36)
theorem wB_below (V : World) (l : List Int) : Below V.heap.size V (wB V l) := by
  have b1 := alloc_below0 V (.cells (l.map (Value.int .i64)).toArray 3)
  exact b1.trans ((alloc_below0 _ _).mono b1.size)
theorem wB_rows (V : World) (l : List Int) (h : l.length ≤ maxLen) : RowsZ (wB V l) (some ⟨V.heap.size + 1, 0, none⟩) [l] := by
  have h4 := rows_one _ _ l.length _ (ints_new V l h)
  rw [World.size_alloc] at h4
  exact h4
theorem eqs_row (BS : Nat) (pu : Option Addr) (V : World) (hS : SigAt V (some ⟨BS, 0, none⟩) 5 someL) (l : List Int) (hl : l.length ≤ maxLen) (R : Int) (hR : eqE someL 3 2 [l] 0 = R) (h0 : R ≠ 0) :
    Calls Tryz.prog 7 #[.slice (some ⟨BS, 0, none⟩) 5 5, .int .i64 3, .slice pu 2 2, .slice (some ⟨V.heap.size + 1, 0, none⟩) 1 1, .int .i64 0] (wB V l) fun e w' => e = .returned (.tuple #[.slice none 0 0, .int .i64 0, .int .i64 R]) ∧ Below V.heap.size V w' := by
  have hb := wB_below V l
  refine (eqs_bad (some ⟨BS, 0, none⟩) 5 5 someL 3 pu 2 2 _ 1 [l] 0 (wB V l) (hS.below hb) (wB_rows V l hl) (by decide) R hR h0).mono ?_
  rintro e w' ⟨rfl, hbl⟩
  exact ⟨rfl, hb.trans (hbl.mono hb.size)⟩
theorem eqs_none (BS : Nat) (pu : Option Addr) (V : World) (hS : SigAt V (some ⟨BS, 0, none⟩) 5 someL) (f fr R : Int) (hR : eqE someL f 2 [] fr = R) (h0 : R ≠ 0) :
    Calls Tryz.prog 7 #[.slice (some ⟨BS, 0, none⟩) 5 5, .int .i64 f, .slice pu 2 2, .slice none 0 0, .int .i64 fr] V fun e w' => e = .returned (.tuple #[.slice none 0 0, .int .i64 0, .int .i64 R]) ∧ Below V.heap.size V w' :=
  eqs_bad (some ⟨BS, 0, none⟩) 5 5 someL f pu 2 2 none 0 [] fr V hS (rows_none V) (by decide) R hR h0
/-- What is wanted, in memory. -/
def wZ (V : World) : World := (V.alloc (.cells #[.string ⟨#[95, 53]⟩, .int .i64 0, .slice none 0 0, .string ⟨#[95, 54]⟩, .int .i64 0, .slice none 0 0] 28)).alloc (.cells #[.string ⟨#[88]⟩, .int .i64 0, .slice none 0 0, .string ⟨#[]⟩, .int .i64 3, .slice (some ⟨V.heap.size, 0, none⟩) 2 2, .string ⟨#[]⟩, .int .i64 0, .slice none 0 0, .string ⟨#[95, 54]⟩, .int .i64 0, .slice none 0 0] 39)
theorem wZ_below (V : World) : Below V.heap.size V (wZ V) := by
  have b1 := alloc_below0 V (.cells #[.string ⟨#[95, 53]⟩, .int .i64 0, .slice none 0 0, .string ⟨#[95, 54]⟩, .int .i64 0, .slice none 0 0] 28)
  exact b1.trans ((alloc_below0 _ _).mono b1.size)
theorem wZ_q (V : World) : QAt (wZ V) (some ⟨V.heap.size + 1, 0, none⟩) 2 wL wR := by
  obtain ⟨V1, hV1⟩ : ∃ V1, V.alloc (.cells #[.string ⟨#[95, 53]⟩, .int .i64 0, .slice none 0 0, .string ⟨#[95, 54]⟩, .int .i64 0, .slice none 0 0] 28) = V1 := ⟨_, rfl⟩
  have s1 : V1.heap.size = V.heap.size + 1 := by rw [← hV1, World.size_alloc]
  have t1 : Box V1 V.heap.size 28 #[.string ⟨#[95, 53]⟩, .int .i64 0, .slice none 0 0, .string ⟨#[95, 54]⟩, .int .i64 0, .slice none 0 0] := by rw [← hV1]; exact Box.new V 28 _
  unfold wZ
  rw [hV1]
  have t := t1.below (alloc_below0 V1 (.cells #[.string ⟨#[88]⟩, .int .i64 0, .slice none 0 0, .string ⟨#[]⟩, .int .i64 3, .slice (some ⟨V.heap.size, 0, none⟩) 2 2, .string ⟨#[]⟩, .int .i64 0, .slice none 0 0, .string ⟨#[95, 54]⟩, .int .i64 0, .slice none 0 0] 39))
  have h := Box.new V1 39 #[.string ⟨#[88]⟩, .int .i64 0, .slice none 0 0, .string ⟨#[]⟩, .int .i64 3, .slice (some ⟨V.heap.size, 0, none⟩) 2 2, .string ⟨#[]⟩, .int .i64 0, .slice none 0 0, .string ⟨#[95, 54]⟩, .int .i64 0, .slice none 0 0]
  rw [s1] at h
  have lf : ∀ (W : World) (x : ByteArray × Int), x.1.size ≤ maxLen → TmAt W x none 0 .nil := fun W x hx => ⟨⟨hx, Nat.le_refl _, (by decide : 0 ≤ maxLen), (by decide : 0 * 48 ≤ 140737488351232)⟩, .inl rfl⟩
  refine ⟨by decide, fun i hi => ?_⟩
  match i, hi with
  | 0, _ =>
    refine ⟨V.heap.size + 1, 0, none, 0, some ⟨V.heap.size, 0, none⟩, 2, rfl, h.c 0, h.c 1, h.c 2, h.c 3, h.c 4, h.c 5, lf _ _ (by decide), ⟨⟨(by decide : 0 ≤ maxLen), (by decide : 2 ≤ 2), (by decide : 2 ≤ maxLen), (by decide : 2 * 48 ≤ 140737488351232)⟩, .inr ⟨V.heap.size, 0, rfl, ?_⟩⟩⟩
    exact ⟨⟨none, 0, t.c 0, t.c 1, t.c 2, (lf V v5.1 (by decide)).sizes, .inl rfl⟩, ⟨none, 0, t.c 3, t.c 4, t.c 5, (lf V v6.1 (by decide)).sizes, .inl rfl⟩, trivial⟩
  | 1, _ => exact ⟨V.heap.size + 1, 0, none, 0, none, 0, rfl, h.c 6, h.c 7, h.c 8, h.c 9, h.c 10, h.c 11, lf _ _ (by decide), lf _ _ (by decide)⟩
set_option maxRecDepth 100000 in
set_option maxHeartbeats 4000000 in
theorem names_walk (w : World) (hs : Std w) : Calls Tryz.prog 3 #[] w fun e w' => e = .returned (.bool true) ∧ Below w.heap.size w w' := by
  have HS := hid hs
  have HLV := hid (lives_any w hs)
  have HP := hid hs.pos
  clear hs
  go_enter Tryz.func3, Tryz.ntmps3
  go_upto_region 3 with (first
    | (go_at_call 5; refine HLV.out.mono ?_; rintro e w1 ⟨rfl, hb⟩; have HB1 := hid hb; clear hb)
    | (go_at_call 6; refine (some_any w1).mono ?_; rintro e w2 ⟨rfl, hS, hb⟩; have HSG := hid hS; have HB2 := hid (HB1.out.trans (hb.mono HB1.out.size)); clear hS hb)
    | fail)
  obtain ⟨V, hV⟩ : ∃ V, w2.alloc (.cells #[.string ⟨#[88]⟩, .int .i64 0, .slice none 0 0, .int .i64 1, .bool false, .string ⟨#[]⟩, .int .i64 0, .slice none 0 0, .int .i64 1, .bool true] 30) = V := ⟨_, rfl⟩
  have bV : Below w2.heap.size w2 V := by rw [← hV]; exact alloc_below0 _ _
  have HU : Hid (UnkZ V (some ⟨w2.heap.size, 0, none⟩) usL) := by rw [← hV]; exact unk_new w2
  have HBV := hid (HB2.out.trans (bV.mono HB2.out.size))
  have HSV := hid (HSG.out.below bV)
  obtain ⟨BS, hBS⟩ : ∃ BS, w1.heap.size = BS := ⟨_, rfl⟩
  obtain ⟨BU, hBU⟩ : ∃ BU, w2.heap.size = BU := ⟨_, rfl⟩
  rw [hBS] at HSV ⊢
  rw [hBU] at HU
  clear bV HB2 HSG HB1 hBS
  go_upto_region 4 with fail
  clear hV hBU
  have HE1 := hid (eqs_first BS BU V HSV.out HU.out (HS.out.below HBV.out HP.out))
  go_upto_region 5 with (first
    | (go_at_call 7; refine Calls.mono HE1.out ?_; rintro e w3 ⟨g, L, R, rfl, hq, hqa, hb⟩; have HQ := hid hq; have HQA := hid hqa; have HB3 := hid (HBV.out.trans (hb.mono HBV.out.size)); have HS3 := hid (HSV.out.below hb); clear hq hqa hb)
    | fail)
  clear HE1 HSV HBV HU
  have HE2 := hid (eqs_row BS (some ⟨BU, 0, none⟩) w3 HS3.out [1, 0] (by decide) 142 e1 (by decide))
  go_upto_region 6 with (first
    | (go_at_call 7; refine Calls.mono HE2.out ?_; rintro e w4 ⟨rfl, hb⟩; have HQ4 := hid (HQ.out.below hb); have HB4 := hid (HB3.out.trans (hb.mono HB3.out.size)); have HS4 := hid (HS3.out.below hb); clear hb)
    | fail)
  clear HE2 HQ HB3 HS3
  have HE3 := hid (eqs_row BS (some ⟨BU, 0, none⟩) w4 HS4.out [1] (by decide) 141 e2 (by decide))
  go_upto_region 7 with (first
    | (go_at_call 7; refine Calls.mono HE3.out ?_; rintro e w5 ⟨rfl, hb⟩; have HQ5 := hid (HQ4.out.below hb); have HB5 := hid (HB4.out.trans (hb.mono HB4.out.size)); have HS5 := hid (HS4.out.below hb); clear hb)
    | fail)
  clear HE3 HQ4 HB4 HS4
  have HE4 := hid (eqs_none BS (some ⟨BU, 0, none⟩) w5 HS5.out 0 0 121 e3 (by decide))
  go_upto_region 8 with (first
    | (go_at_call 7; refine Calls.mono HE4.out ?_; rintro e w6 ⟨rfl, hb⟩; have HQ6 := hid (HQ5.out.below hb); have HB6 := hid (HB5.out.trans (hb.mono HB5.out.size)); have HS6 := hid (HS5.out.below hb); clear hb)
    | fail)
  clear HE4 HQ5 HB5 HS5
  have HE5 := hid (eqs_none BS (some ⟨BU, 0, none⟩) w6 HS6.out 3 (-1) 1 e4 (by decide))
  go_upto_region 9 with (first
    | (go_at_call 7; refine Calls.mono HE5.out ?_; rintro e w7 ⟨rfl, hb⟩; have HQ7 := hid (HQ6.out.below hb); have HB7 := hid (HB6.out.trans (hb.mono HB6.out.size)); have HS7 := hid (HS6.out.below hb); clear hb)
    | fail)
  clear HE5 HQ6 HB6 HS6
  have HE6 := hid (eqs_row BS (some ⟨BU, 0, none⟩) w7 HS7.out [400, 1] (by decide) 2 e5 (by decide))
  go_upto_region 10 with (first
    | (go_at_call 7; refine Calls.mono HE6.out ?_; rintro e w8 ⟨rfl, hb⟩; have HQ8 := hid (HQ7.out.below hb); have HB8 := hid (HB7.out.trans (hb.mono HB7.out.size)); clear hb)
    | fail)
  clear HE6 HQ7 HB7 HS7
  have HSQ := hid (sameq_any (some ⟨g, 0, none⟩) (some ⟨w8.heap.size + 1, 0, none⟩) 2 2 2 L R wL wR (wZ w8) (HQ8.out.below (wZ_below w8)) (wZ_q w8))
  go_wp2_with (first
    | (go_at_call 8; refine Calls.mono HSQ.out ?_; rintro e w9 ⟨rfl, hb⟩; rw [HQA.out]; have HB9 := hid (HB8.out.trans (((wZ_below w8).trans (hb.mono (wZ_below w8).size)).mono HB8.out.size)); clear hb)
    | fail)
  trace_state
  go_ret
  exact ⟨rfl, HB9.out⟩
end Go.Proofs.YtppgmepmegelbaaGreatDoor
namespace Go.Proofs.YtppgmepmegelbaaGreatDoor
open Go.ChangeShapes Go.WideShapes Go.ChangeAt Go.RowKit Go.Deep Go.WideMaps

theorem own : ownKnob Tryz.prog.godebug = none := by kernel_rfl
theorem gPowType : (Tryz.prog.globals[0]?).map (·.type) = some 165 := by kernel_rfl
theorem gSyn : Tryz.prog.globalNamed (Rows.rejoinNamesRow.named.getD 3 "") = some 1 := by kernel_rfl
theorem gSynType : (Tryz.prog.globals[1]?).map (·.type) = some 106 := by kernel_rfl
theorem Tryz.cells165 : Tryz.prog.cellsOf 165 = 20 := by kernel_rfl
theorem Tryz.cells87 : Tryz.prog.cellsOf 87 = 1 := by kernel_rfl
/-- What the row's list gives. -/
theorem std_of {W : World} (h : laidMetH Tryz.prog Rows.rejoinNamesRow.laid W) : Std W := by
  have hP := laidMetH.filter (fun x => x.1 == Rows.rejoinNamesRow.named.headD "") h
  have hE := laidMetH.filter (fun x => x.1 == Rows.rejoinNamesRow.named.getD 3 "") h
  refine ⟨Lib.tabIs_of_head (rest := []) gPow gPowType Tryz.underlying165 Tryz.underlying87 Tryz.cells87 Tryz.cells165 hP, ?_⟩
  obtain ⟨ps, ⟨g, t, cs, fuel, p, q, hg, ht, hvar, hd, _, _⟩, _⟩ := hE
  obtain rfl := Option.some.inj (gSyn.symm.trans hg)
  obtain rfl := Option.some.inj (gSynType.symm.trans ht)
  obtain ⟨_, u, v, hcs, _, _⟩ := iface_of_trod Tryz.underlying106 hd
  refine ⟨u, v, ?_⟩
  have := World.var?_cell hg hvar 0
  rw [Array.eq_one_of_toList hcs] at this
  simpa using this
theorem rejoinNames_contract (H : Type) (enc : TypeId × Value → H) (W : World) (base : Nat) (args : Array Value) (ds gs : List (DataW H)) (before : List MemPlace)
    (hval : ∀ (j : Nat) t v, Tryz.f3.params[j]? = some t → args[j]? = some v → Value.okWide Tryz.prog W .any base t v)
    (hW : DataW.Whole enc Tryz.prog Tryz.f3.params.toList Rows.rejoinNamesSpec.vars false W args.toList ds gs before) (hL : laidMetH Tryz.prog Rows.rejoinNamesRow.laid W) :
    Calls Tryz.prog 3 args W fun e W' => ∃ v, e = .returned v ∧ Rows.rejoinNamesSpec.post enc Tryz.prog Tryz.f3 false true false false W args v W' := by
  have hW' := hW
  obtain ⟨p, q, hA0, hV, rfl, hfz, hnd⟩ := hW
  have hA : DataW.TrodAll enc Tryz.prog W 0 (fun _ => true) true Tryz.f3.params.toList args.toList ds p := hA0
  rw [Tryz.params3] at hA hval
  obtain ⟨hargs, rfl, rfl⟩ := trodAll_nil hA
  obtain rfl : args = #[] := by cases args; simp_all
  obtain ⟨rfl, rfl⟩ := trodVars_none hV
  clear hA0
  simp only [List.append_nil] at hW'
  refine (names_walk W (std_of hL)).mono fun e W' ⟨he, bel⟩ => ?_
  subst he
  exact ⟨_, rfl, _, _, _, [], _, [], hW', trodAll_mk1 (shut_bool Tryz.underlying4 _), trodAll_mk0, rfl, bel.frame _, fun h => by cases h⟩

theorem rejoinNames_met (os : Os) : laidMet Tryz.prog Rows.rejoinNamesRow.laid (World.forCall (World.doorLaid Tryz.prog 400 os) (fun _ _ => 0) ⟨#[], #[], []⟩).memory :=
  laidMet_of_run' 8 (by kernel_rfl) (by kernel_rfl)
theorem rejoinNames_reads (os : Os) {H : Type} (enc : TypeId × Value → H) : ∃ places, DataW.whole enc Tryz.prog (World.forCall (World.doorLaid Tryz.prog 400 os) (fun _ _ => 0) ⟨#[], #[], []⟩).memory Tryz.f3.params.toList Rows.rejoinNamesSpec.vars false (#[] : Array Value).toList 8 = some ([], [], places) :=
  ⟨[], by kernel_rfl⟩
set_option maxRecDepth 100000 in
theorem rejoinNames_lifted (os : Os) (started : os.Started) (H : Type) (enc : TypeId × Value → H) (F : Stop.Interp) :
    ReturnsInHanded {} Tryz.checked os 3 .any ((OpenSpec.ofChange Rows.rejoinNamesSpec).preRow enc Tryz.prog Tryz.f3 Rows.rejoinNamesRow.domain false Rows.rejoinNamesRow.laid) (((OpenSpec.ofChange Rows.rejoinNamesSpec).at F).post enc Tryz.prog Tryz.f3 false true false false) := by
  obtain ⟨places, hx⟩ := rejoinNames_reads os enc
  refine returnsInHanded_of_row (C := Tryz.checked) (s := OpenSpec.ofChange Rows.rejoinNamesSpec) own started (by kernel_rfl) Tryz.func3
    (witness_row_at (enc := enc) (C := Tryz.checked) false (World.doorLaid Tryz.prog 400 os) #[] rfl (by kernel_rfl) (by kernel_rfl) (by kernel_rfl)
      (OpenSpec.preRow_of_cond 8 hx (by kernel_rfl) (fun k hk => by cases hk) (by kernel_rfl) (rejoinNames_met os))) ?_
  intro W base args ds gs before hval hW _ _ _ hL _ _
  exact rejoinNames_contract H enc W base args ds gs before hval hW hL
theorem rejoinNames_said : Rows.RejoinNamesSaid :=
  OpenClaim.holds_of_cond 3 Tryz.f3 rfl rfl rfl rfl rfl rfl rfl ⟨rfl, rfl, rfl, rfl, rfl⟩ rfl rfl rfl rfl rfl (by kernel_rfl) Tryz.func3 (by kernel_rfl)
    (of_decide_eq_true (by kernel_rfl)) (by unfold Func.isWrapper; first | (rw [if_pos (by decide +kernel)]; kernel_rfl) | (rw [if_neg (by decide +kernel)]; exact ⟨rfl, rfl⟩))
    (fun os started H enc _ F => by rw [OpenClaim.pre_eq_preRow]; exact rejoinNames_lifted os started H enc F)
theorem rejoinNames_plain (f : FuncId) (fn : Func) (hf : Tryz.pinned.checked.prog.funcNamed Rows.rejoinNamesRow.func = some f) (hfn : Tryz.pinned.checked.prog.funcs[f]? = some fn) :
    true = Tryz.pinned.checked.prog.looks [] ∧ ∀ (j : Nat) t, fn.params[j]? = some t → Tryz.pinned.checked.prog.wantsStandIn t = false := by
  obtain rfl : f = 3 := Option.some.inj ((show Tryz.prog.funcNamed Rows.rejoinNamesRow.func = some 3 by kernel_rfl).symm.trans hf) |>.symm
  obtain rfl : fn = Tryz.f3 := (Option.some.inj (Tryz.func3.symm.trans hfn)).symm
  refine ⟨by kernel_rfl, fun j t ht => ?_⟩
  rw [Tryz.params3] at ht
  have hm : t ∈ ([] : List Nat) := by simpa using Array.mem_of_getElem? ht
  have hall : (([] : List Nat).all fun u => !Tryz.prog.wantsStandIn u) = true := by kernel_rfl
  exact (show Tryz.prog.wantsStandIn t = false by simpa using List.all_eq_true.1 hall t hm)
theorem rejoinNames_card : Rows.RejoinNamesCardSaid :=
  Claim7.holds_tied_plain_at .later [] _ _ _ _ rejoinNames_said (fun _ h => by cases h) (by kernel_rfl) (fun _ h => by cases h) rejoinNames_row_tie rfl ⟨rfl, rfl⟩ (by kernel_rfl) rfl rejoinNames_plain (by kernel_rfl)
end Go.Proofs.YtppgmepmegelbaaGreatDoor
