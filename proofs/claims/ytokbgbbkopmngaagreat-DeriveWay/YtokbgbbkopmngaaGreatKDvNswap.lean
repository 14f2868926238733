import Derived.Deep.RegionHeld3
import Derived.Deep.DeepCutAuto
import Derived.Test.YtokbgbbkopmngaaGreatKDvLb
/- The document's node, swap. -/
namespace Go.Proofs.YtokbgbbkopmngaaGreat
open Go.RowKit Go.Deep

set_option maxRecDepth 100000 in
set_option maxHeartbeats 4000000 in
theorem dnode_swap (S : Option Addr) (n cap : Nat) (L : List Sym) (t : Tn) (a : Option Addr) (c : Nat) (p : Sp) (pa : Option Addr) (pn pc : Nat) (w : World)
    (hS : SigAt w S n L) (hT : TmAt w t.1 a c t.2) (hn : nodesF t.2 ≤ 1048576) (hG : gathN (sgOf L) t = true → 2 ≤ lenF t.2) (hk : p.kind = 3) :
    Calls Tryz.prog 34 #[.slice S n cap, .agg #[.string t.1.1, .int .i64 t.1.2, .slice a (lenF t.2) c], stepV p pa pn pc] w (NodeEnd w (stepN (sgOf L) t p)) := by
  obtain ⟨kd, at_, many, sym⟩ := p
  obtain ⟨W0, hW0⟩ : ∃ W0, ((w.alloc (.cells #[.string t.1.1, .int .i64 t.1.2, .slice a (lenF t.2) c] 26)).alloc (.cells #[.int .i64 kd, .slice pa pn pc, .int .i64 at_, .int .i64 many, .int .i64 sym] 47)).alloc (.cells #[.string ⟨#[]⟩, .int .i64 0, .slice none 0 0] 26) = W0 := ⟨_, rfl⟩
  have hb0 : Below w.heap.size w W0 := by rw [← hW0]; exact ((alloc_below0 w _).alloc (by simp) _).alloc (by simp; omega) _
  have B0 : Box W0 w.heap.size 26 (tmC t a c) := by rw [← hW0]; exact ((Box.new w 26 _).over _).over _
  have B1 : Box W0 (w.heap.size + 1) 47 (stepC ⟨kd, at_, many, sym⟩ pa pn pc) := by rw [← hW0]; exact (box_new (by rw [World.size_alloc]) 47 _).over _
  have B2 : Box W0 (w.heap.size + 2) 26 (tmC ((⟨#[]⟩, 0), .nil) none 0) := by rw [← hW0]; exact box_new (by rw [World.size_alloc, World.size_alloc]) 26 _
  have hsz : W0.heap.size = w.heap.size + 3 := by rw [← hW0]; simp
  have HJ := hid (djoins_any S n cap L t a c W0 (hS.below hb0))
  have d0 := B0.v (k := 0) rfl; have d1 := B0.v (k := 1) rfl; have d2 := B0.v (k := 2) rfl
  have hlen := len_nodes t.2
  have hcc := hT.sizes.len; have hcm := hT.sizes.cap
  unfold maxLen at hcm
  have HB0 := hid hb0; have HX0 := hid B0; have HX1 := hid B1; have HX2 := hid B2; have HS := hid hS; have HT := hid hT; have HN := hid hn; have HG := hid hG; have HSZ := hid hsz
  clear hb0 B0 B1 B2 hS hT hn hG hsz
  go_enter Tryz.func34, Tryz.ntmps34
  go_upto_region 2 with (first | (go_at_call 50; refine HJ.out.mono ?_; rintro e w1 ⟨rfl, hb1⟩; have HB1 := hid hb1; clear hb1) | fail)
  clear hW0 d0 d1 d2
  have hst1 : NSt0 w t a c ⟨kd, at_, many, sym⟩ pa pn pc w1 := ⟨HB0.out.trans (HB1.out.mono HB0.out.size), HX0.out.below HB1.out, HX1.out.below HB1.out, HX2.out.below HB1.out, by have := HSZ.out; have := HB1.out.size; omega⟩
  have HST1 := hid hst1
  have s2 := hst1.x.v (k := 2) rfl
  have n2 := hst1.n.v (k := 2) rfl
  obtain ⟨g, hg⟩ : ∃ g, gathN (sgOf L) t = g := ⟨_, rfl⟩
  rw [hg]
  have HGG := hid hg
  clear hst1 hg
  go_cut [9] (fun v w' => v = .bool (inI at_ (lenF t.2)) ∧ w' = w1)
  case first =>
    by_cases h0 : 0 ≤ at_
    · by_cases h1 : at_ < (lenF t.2 : Int)
      · have e : inI at_ (lenF t.2) = true := by unfold inI; simp [h0, h1]
        go_wp2_with fail
        go_meet
        exact ⟨by rw [e] <;> rfl, rfl⟩
      · have e : inI at_ (lenF t.2) = false := by unfold inI; simp [h1]
        go_wp2_with fail
        go_meet
        exact ⟨by rw [e] <;> rfl, rfl⟩
    · have e : inI at_ (lenF t.2) = false := by unfold inI; simp [h0]
      go_wp2_with fail
      go_meet
      exact ⟨by rw [e] <;> rfl, rfl⟩
  case rest =>
    obtain ⟨rfl, rfl⟩ := hcut
    obtain ⟨i, hi⟩ : ∃ i, inI at_ (lenF t.2) = i := ⟨_, rfl⟩
    rw [hi]
    have HII := hid hi
    have HCl := hid (rclone_any t.1 t.2 a c wc (HT.out.below HST1.out.low))
    have n0 := HST1.out.n.v (k := 0) rfl; have n1 := HST1.out.n.v (k := 1) rfl
    clear hi s2
    go_upto_region 4 with (first | (go_at_call 21; refine HCl.out.mono ?_; rintro e w2 ⟨a', c', rfl, hR2, hb2⟩; have HR2 := hid hR2; have HB2 := hid hb2; clear hR2 hb2) | fail)
    obtain ⟨V, hV⟩ : ∃ V, w2.alloc (.cells #[.string t.1.1, .int .i64 t.1.2, .slice a' (lenF t.2) c'] 26) = V := ⟨_, rfl⟩
    rw [hV]
    have hst : NSt w t a c ⟨kd, at_, many, sym⟩ pa pn pc w2.heap.size a' c' V := by rw [← hV]; exact NSt.new HST1.out HB2.out HR2.out
    have HST := hid hst
    generalize w2.heap.size = Bo at HST ⊢
    clear hst n0 n1 n2 hV HR2 HB2 HCl HST1 HX0 HX1 HX2 HJ HB1
    have s0 := HST.out.x.v (k := 0) rfl
    have hk1 : kd = 3 := hk
    subst hk1
    clear hk
    have s2 := HST.out.x.v (k := 2) rfl
    have n1 := HST.out.n.v (k := 1) rfl; have n2 := HST.out.n.v (k := 2) rfl
    cases g
    · have o0 := HST.out.o.v (k := 0) rfl; have o1 := HST.out.o.v (k := 1) rfl; have o2 := HST.out.o.v (k := 2) rfl
      have z0 := HST.out.r.v (k := 0) rfl; have z1 := HST.out.r.v (k := 1) rfl; have z2 := HST.out.r.v (k := 2) rfl
      have f0 := HST.out.r.f 0; have f1 := HST.out.r.f 1; have f2 := HST.out.r.f 2
      go_wp2_with fail
      refine ret_term rfl rfl (sets3_box HST.out.r _ _ _) rfl rfl ?_
      exact HST.out.no (by unfold stepN; rw [if_neg (by simp), if_neg (by rw [HGG.out]; simp)])
    · cases i
      · have o0 := HST.out.o.v (k := 0) rfl; have o1 := HST.out.o.v (k := 1) rfl; have o2 := HST.out.o.v (k := 2) rfl
        have z0 := HST.out.r.v (k := 0) rfl; have z1 := HST.out.r.v (k := 1) rfl; have z2 := HST.out.r.v (k := 2) rfl
        have f0 := HST.out.r.f 0; have f1 := HST.out.r.f 1; have f2 := HST.out.r.f 2
        go_wp2_with fail
        refine ret_term rfl rfl (sets3_box HST.out.r _ _ _) rfl rfl ?_
        exact HST.out.no (by unfold stepN; rw [if_neg (by simp), if_neg (by rw [HII.out]; simp)])
      · obtain ⟨k, hk, hlt⟩ := inI_iff.1 HII.out
        have hk' : at_ = (k : Int) := hk
        subst hk'
        have hrt : stepN (sgOf L) t ⟨3, k, many, sym⟩ = swapN t ⟨3, k, many, sym⟩ := by unfold stepN; rw [if_neg (by simp), if_pos ⟨HGG.out, HII.out⟩, if_neg (by simp), if_neg (by simp), if_pos rfl]
        have HRT := hid hrt
        have hnn := HN.out
        have hlf : lenF t.2 ≤ 1048576 := by omega
        have hk0 : (0 : Int) ≤ (k : Int) := by omega
        have hkn : (k : Int) < (lenF t.2 : Int) := by omega
        have hw1 : IntKind.i64.wrap ((lenF t.2 : Int) - 1) = (lenF t.2 : Int) - 1 := IntWalk.i64_in _ (by constructor <;> omega)
        clear hrt hk hnn
        by_cases hla : (k : Int) = (lenF t.2 : Int) - 1
        · have hlb : ((k : Int) == (lenF t.2 : Int) - 1) = true := by simp [hla]
          have HLA := hid hla
          clear hla
          have o0 := HST.out.o.v (k := 0) rfl; have o1 := HST.out.o.v (k := 1) rfl; have o2 := HST.out.o.v (k := 2) rfl
          have z0 := HST.out.r.v (k := 0) rfl; have z1 := HST.out.r.v (k := 1) rfl; have z2 := HST.out.r.v (k := 2) rfl
          have f0 := HST.out.r.f 0; have f1 := HST.out.r.f 1; have f2 := HST.out.r.f 2
          go_wp2_with fail
          refine ret_term rfl rfl (sets3_box HST.out.r _ _ _) rfl rfl ?_
          exact HST.out.no (by rw [HRT.out]; unfold swapN; have hz : (kidsL t.2)[k + 1]? = none := List.getElem?_eq_none_iff.2 (by rw [kids_len]; have := HLA.out; omega); simp only [Int.toNat_natCast, hz]; split <;> simp_all)
        · have hlb : ((k : Int) == (lenF t.2 : Int) - 1) = false := by simp [hla]
          have hlt1 : k + 1 < lenF t.2 := by omega
          obtain ⟨bb, oo, rfl, hkk⟩ := HT.out.args.get (by omega)
          obtain ⟨y, a1, c1, l1, kd0⟩ := hkk.kid (k := k) hlt
          obtain ⟨z, a2, c2, l2, kd1⟩ := hkk.kid (k := k + 1) hlt1
          have hgy := kid_get kd0
          have hgz := kid_get kd1
          obtain ⟨Fy, hFy⟩ : ∃ Fy, mkF (layL (kidsL t.2) k 2 [(z, l2), (y, l1)]) = Fy := ⟨_, rfl⟩
          have HRS : Hid (stepN (sgOf L) t ⟨3, k, many, sym⟩ = some ((t.1, Fy), ⟨3, k, 0, 0⟩)) := by
            show _ = _
            rw [HRT.out]
            unfold swapN
            simp only [Int.toNat_natCast, hgy, hgz, hFy]
          have HKS : Hid (kidsL (setF (k + 1) (setF k t.2 (z, l2)) (y, l1)) = kidsL Fy) := by show _ = _; rw [swap_kids hgy hgz, ← hFy, kids_mk]
          obtain ⟨g, hg, hsw⟩ := HST.out.sw (by omega)
          subst hg
          have HSW := hid hsw
          have hbl : bb < w.heap.size := World.block_lt_of_cell? w _ kd0.name
          have HNE : Hid (Bo ≠ g ∧ w.heap.size ≠ g ∧ w.heap.size + 1 ≠ g ∧ bb ≠ g) := ⟨hsw.ne, by have := hsw.row.lo; omega, by have := hsw.row.lo; omega, by have := hsw.row.lo; omega⟩
          have HCZ : Hid (∀ W, Below V.heap.size V W → Calls Tryz.prog 21 #[.agg #[.string z.1, .int .i64 z.2, .slice a2 (lenF l2) c2]] W fun e w' => ∃ a' c', e = .returned (.agg #[.string z.1, .int .i64 z.2, .slice a' (lenF l2) c']) ∧ RowTm W.heap.size w' z a' c' l2 ∧ Below W.heap.size W w') := fun W hW => rclone_any z l2 a2 c2 W ((kd1.below (HST.out.low)).at_.below hW)
          have HCY : Hid (∀ W, Below w.heap.size w W → Calls Tryz.prog 21 #[.agg #[.string y.1, .int .i64 y.2, .slice a1 (lenF l1) c1]] W fun e w' => ∃ a' c', e = .returned (.agg #[.string y.1, .int .i64 y.2, .slice a' (lenF l1) c']) ∧ RowTm W.heap.size w' y a' c' l1 ∧ Below W.heap.size W w') := fun W hW => rclone_any y l1 a1 c1 W (kd0.below hW).at_
          have o2 := HST.out.o.v (k := 2) rfl
          have kdV := kd1.below HST.out.low
          have p0 := kdV.name; have p1 := kdV.sym; have p2 := kdV.list
          have HKD := hid kd0
          have hwk : IntKind.i64.wrap ((k : Int) + 1) = (k : Int) + 1 := IntWalk.i64_in _ (by constructor <;> omega)
          have hk1n : ((k : Int) + 1).toNat = k + 1 := by omega
          have hk10 : (0 : Int) ≤ (k : Int) + 1 := by omega
          have hk1l : (k : Int) + 1 < (lenF t.2 : Int) := by omega
          clear hla kd0 kd1 hgy hgz hFy hsw hbl kdV hkk
          go_wp2_with fail
          go_cut [9] (fun v w' => v = .bool true ∧ SwSt w t (some ⟨bb, oo, none⟩) c ⟨3, k, many, sym⟩ pa pn pc Bo g c' (setF k t.2 (z, l2)) w')
          case first =>
            go_region_held3 (fun w' => w'.cell? ⟨Bo, 2, none⟩ = some (.slice (some ⟨g, 0, none⟩) (lenF t.2) c') ∧ w'.cell? ⟨w.heap.size, 2, none⟩ = some (.slice (some ⟨bb, oo, none⟩) (lenF t.2) c) ∧ w'.cell? ⟨w.heap.size + 1, 2, none⟩ = some (.int .i64 k) ∧ w'.cell? ⟨bb, oo + (k + 1) * 3, none⟩ = some (.string z.1) ∧ w'.cell? ⟨bb, oo + (k + 1) * 3 + 1, none⟩ = some (.int .i64 z.2) ∧ w'.cell? ⟨bb, oo + (k + 1) * 3 + 2, none⟩ = some (.slice a2 (lenF l2) c2)) ((first | (go_split_ands; refine ⟨?_, ?_, ?_, ?_, ?_, ?_⟩ <;> ((with_reducible refine below_cell HB5.out _ _ ?_); assumption)) | (have hqq := HB5.out; clear hqq; go_split_ands; refine ⟨?_, ?_, ?_, ?_, ?_, ?_⟩ <;> (refine keep_sets HB5.out (by assumption) ?_; first | exact HNE.out.1 | exact HNE.out.2.1 | exact HNE.out.2.2.1 | exact HNE.out.2.2.2)) | go_keep | fail)) ((first | (go_at_call 21; (with_reducible refine Calls.mono (HCZ.out (World.drew V) (Below.refl _ V).drew) ?_); rintro e w5 ⟨a5, c5, rfl, hR5, hb5⟩; have HO5 : Hid (OwnTm false (fun q => V.heap.size ≤ q) w5 z a5 c5 l2) := hR5.own; have HB5 : Hid (Below V.heap.size V w5) := ((Below.refl _ V).drew).trans hb5; have hg5 := HSW.out.row.below HB5.out; obtain ⟨cur5, hcur5⟩ := hg5.blk; obtain ⟨qx, qa, qc, ql, kd5⟩ := hg5.kids.kids.kid (k := k) (by rw [HSW.out.len]; omega); have v0 := kd5.name; have v1 := kd5.sym; have v2 := kd5.list; rw [Nat.zero_add] at v0 v1 v2; have vf0 := row_frozen (i := k * 3) hcur5; have vf1 := row_frozen (i := k * 3 + 1) hcur5; have vf2 := row_frozen (i := k * 3 + 2) hcur5; clear hg5 hcur5 kd5 hR5 hb5) | fail))
            all_goals (go_wp2_with fail; go_meet)
            all_goals exact ⟨rfl, HSW.out.put HB5.out (by omega) HO5.out⟩
          case rest =>
            obtain ⟨rfl, hsw2⟩ := hcut
            obtain ⟨V2, rfl⟩ : ∃ V2, V2 = wc := ⟨_, rfl⟩
            have HCY2 : Hid (∀ W, Below V2.heap.size V2 W → Calls Tryz.prog 21 #[.agg #[.string y.1, .int .i64 y.2, .slice a1 (lenF l1) c1]] W fun e w' => ∃ a' c', e = .returned (.agg #[.string y.1, .int .i64 y.2, .slice a' (lenF l1) c']) ∧ RowTm W.heap.size w' y a' c' l1 ∧ Below W.heap.size W w') := fun W hW => HCY.out W (hsw2.low.trans (hW.mono hsw2.low.size))
            clear HSW HCZ n1 n2 s2 o2 p0 p1 p2 HST
            have HSW := hid hsw2
            have kdV := HKD.out.below hsw2.low
            have n2 := hsw2.n.v (k := 2) rfl
            have s2 := hsw2.x.v (k := 2) rfl
            have o2 := hsw2.o.v (k := 2) rfl
            have p0 := kdV.name; have p1 := kdV.sym; have p2 := kdV.list
            clear hsw2 kdV HCY HKD
            go_wp2_with fail
            go_cut [9] (fun v w' => v = .bool true ∧ SwSt w t (some ⟨bb, oo, none⟩) c ⟨3, k, many, sym⟩ pa pn pc Bo g c' (setF (k + 1) (setF k t.2 (z, l2)) (y, l1)) w')
            case first =>
              go_region_held3 (fun w' => w'.cell? ⟨Bo, 2, none⟩ = some (.slice (some ⟨g, 0, none⟩) (lenF t.2) c') ∧ w'.cell? ⟨w.heap.size, 2, none⟩ = some (.slice (some ⟨bb, oo, none⟩) (lenF t.2) c) ∧ w'.cell? ⟨w.heap.size + 1, 2, none⟩ = some (.int .i64 k) ∧ w'.cell? ⟨bb, oo + k * 3, none⟩ = some (.string y.1) ∧ w'.cell? ⟨bb, oo + k * 3 + 1, none⟩ = some (.int .i64 y.2) ∧ w'.cell? ⟨bb, oo + k * 3 + 2, none⟩ = some (.slice a1 (lenF l1) c1)) ((first | (go_split_ands; refine ⟨?_, ?_, ?_, ?_, ?_, ?_⟩ <;> ((with_reducible refine below_cell HB5.out _ _ ?_); assumption)) | (have hqq := HB5.out; clear hqq; go_split_ands; refine ⟨?_, ?_, ?_, ?_, ?_, ?_⟩ <;> (refine keep_sets HB5.out (by assumption) ?_; first | exact HNE.out.1 | exact HNE.out.2.1 | exact HNE.out.2.2.1 | exact HNE.out.2.2.2)) | go_keep | fail)) ((first | (go_at_call 21; (with_reducible refine Calls.mono (HCY2.out (World.drew V2) (Below.refl _ V2).drew) ?_); rintro e w5 ⟨a5, c5, rfl, hR5, hb5⟩; have HO5 : Hid (OwnTm false (fun q => V2.heap.size ≤ q) w5 y a5 c5 l1) := hR5.own; have HB5 : Hid (Below V2.heap.size V2 w5) := ((Below.refl _ V2).drew).trans hb5; have hg5 := HSW.out.row.below HB5.out; obtain ⟨cur5, hcur5⟩ := hg5.blk; obtain ⟨qx, qa, qc, ql, kd5⟩ := hg5.kids.kids.kid (k := (k + 1)) (by rw [HSW.out.len]; omega); have v0 := kd5.name; have v1 := kd5.sym; have v2 := kd5.list; rw [Nat.zero_add] at v0 v1 v2; have vf0 := row_frozen (i := (k + 1) * 3) hcur5; have vf1 := row_frozen (i := (k + 1) * 3 + 1) hcur5; have vf2 := row_frozen (i := (k + 1) * 3 + 2) hcur5; clear hg5 hcur5 kd5 hR5 hb5) | fail))
              all_goals (go_wp2_with fail; go_meet)
              all_goals exact ⟨rfl, HSW.out.put HB5.out (by omega) HO5.out⟩
            case rest =>
              obtain ⟨rfl, hsw3⟩ := hcut
              have hy := hsw3.done HKS.out
              have hlF : lenF Fy = lenF t.2 := by rw [← kids_len, ← HKS.out, kids_len]; exact hsw3.len
              have HY := hid hy
              have o0 := hy.o.v (k := 0) rfl; have o1 := hy.o.v (k := 1) rfl
              have HLF := hid hlF
              clear o2 n2 s2 p0 p1 p2
              have o2 := hsw3.o.v (k := 2) rfl
              have z0 := hy.r.v (k := 0) rfl; have z1 := hy.r.v (k := 1) rfl; have z2 := hy.r.v (k := 2) rfl
              have f0 := hy.r.f 0; have f1 := hy.r.f 1; have f2 := hy.r.f 2
              clear hy hsw3 hlF
              go_wp2_with fail
              refine ret_term rfl rfl (sets3_box HY.out.r _ _ _) rfl rfl ?_
              have := HY.out.yes HRS.out (x0 := .string t.1.1) (x1 := .int .i64 t.1.2) (x2 := .slice (some ⟨g, 0, none⟩) (lenF t.2) c')
              unfold tmC at this
              rw [show lenF ((t.1, Fy) : Tn).2 = lenF t.2 from HLF.out] at this
              exact this
end Go.Proofs.YtokbgbbkopmngaaGreat
/- The document's grow. -/
namespace Go.Proofs.YtokbgbbkopmngaaGreat
open Go.RowKit Go.Deep

/-- grow's boxes. -/
structure GSt (w : World) (t : Tn) (a : Option Addr) (c : Nat) (p : Sp) (pa : Option Addr) (pn pc Bo : Nat) (u : Int) (V : World) : Prop extends NSt0 w t a c p pa pn pc V where
  o : Box V Bo 26 #[.string ⟨#[]⟩, .int .i64 u, .slice none 0 0]
  far : w.heap.size + 2 < Bo
theorem node_fin {w W : World} (hl : Below w.heap.size w W) {y : Tn} {a : Option Addr} {c : Nat} (hO : OwnTm false (fun q => w.heap.size + 3 ≤ q) W y.1 a c y.2) {r : Option (Tn × Sp)} {q : Sp} (hr : r = some (y, q)) {x0 x1 x2 : Value} :
    NodeEnd w r (.returned (.tuple #[.agg (tmC y a c), .bool true])) (((W.setCell ⟨w.heap.size + 2, 0, none⟩ x0).setCell ⟨w.heap.size + 2, 1, none⟩ x1).setCell ⟨w.heap.size + 2, 2, none⟩ x2) := by
  subst hr
  refine ⟨y, a, c, rfl, fun s e => ?_, ?_⟩
  · cases e
    exact ⟨rfl, hO.keep (fun q hq hl => (sets3_fr (B := w.heap.size + 2) x0 x1 x2).same q hl (by omega))⟩
  · exact hl.trans ((sets3_fr (B := w.heap.size + 2) x0 x1 x2).below (fun k hk => by omega) hl.size)
theorem two_own {N : Nat} {w5 : World} {k1 k2 : Kv} {x : ByteArray × Int} (hN : N ≤ w5.heap.size) (hx : x.1.size ≤ maxLen) (h1 : OwnTm false (fun q => N ≤ q) w5 k1.x k1.a k1.c k1.l) (h2 : OwnTm false (fun q => N ≤ q) w5 k2.x k2.a k2.c k2.l) :
    OwnTm false (fun q => N ≤ q) (w5.alloc (.cells #[.string k1.x.1, .int .i64 k1.x.2, .slice k1.a (lenF k1.l) k1.c, .string k2.x.1, .int .i64 k2.x.2, .slice k2.a (lenF k2.l) k2.c] 26)) x (some ⟨w5.heap.size, 0, none⟩) 2 (mkF [k1.tn, k2.tn]) := by
  obtain ⟨W, hW⟩ : ∃ W, w5.alloc (.cells #[.string k1.x.1, .int .i64 k1.x.2, .slice k1.a (lenF k1.l) k1.c, .string k2.x.1, .int .i64 k2.x.2, .slice k2.a (lenF k2.l) k2.c] 26) = W := ⟨_, rfl⟩
  have hb : Below w5.heap.size w5 W := by rw [← hW]; exact alloc_below0 _ _
  have hB : Box W w5.heap.size 26 #[.string k1.x.1, .int .i64 k1.x.2, .slice k1.a (lenF k1.l) k1.c, .string k2.x.1, .int .i64 k2.x.2, .slice k2.a (lenF k2.l) k2.c] := by rw [← hW]; exact Box.new _ _ _
  rw [hW]
  have g1 := h1.below hb
  have g2 := h2.below hb
  refine ⟨⟨hx, Nat.le_refl _, by decide, by show 2 * 48 ≤ 140737488351232; decide⟩, .inr ⟨w5.heap.size, _, rfl, hN, hB, (fun e => by cases e), ?_⟩⟩
  exact ⟨⟨k1.a, k1.c, hB.v rfl, hB.v rfl, hB.v rfl, g1.sizes, g1.list⟩, ⟨k2.a, k2.c, hB.v rfl, hB.v rfl, hB.v rfl, g2.sizes, g2.list⟩, trivial⟩
theorem const_own {N : Nat} {w : World} {u : Int} : OwnTm false (fun q => N ≤ q) w (noB, u) none 0 .nil := ⟨⟨by show (0 : Nat) ≤ _; exact Nat.zero_le _, Nat.le_refl _, Nat.zero_le _, Nat.zero_le _⟩, .inl ⟨rfl, rfl⟩⟩
theorem node_no {w W : World} (hl : Below w.heap.size w W) {y : Tn} {a : Option Addr} {c : Nat} {r : Option (Tn × Sp)} (hr : r = none) {x0 x1 x2 : Value} :
    NodeEnd w r (.returned (.tuple #[.agg (tmC y a c), .bool false])) (((W.setCell ⟨w.heap.size + 2, 0, none⟩ x0).setCell ⟨w.heap.size + 2, 1, none⟩ x1).setCell ⟨w.heap.size + 2, 2, none⟩ x2) := by
  subst hr
  refine ⟨y, a, c, rfl, fun s e => ?_, ?_⟩
  · exact absurd e (by simp)
  · exact hl.trans ((sets3_fr (B := w.heap.size + 2) x0 x1 x2).below (fun k hk => by omega) hl.size)
set_option maxRecDepth 100000 in
set_option maxHeartbeats 4000000 in
theorem dgrow_any (S : Option Addr) (n cap : Nat) (L : List Sym) (t : Tn) (a : Option Addr) (c : Nat) (p : Sp) (pa : Option Addr) (pn pc : Nat) (w : World)
    (hS : SigAt w S n L) (hT : TmAt w t.1 a c t.2) (hn : nodesF t.2 ≤ 1048576) (hG : gathN (sgOf L) t = true → 2 ≤ lenF t.2) (hUJ : ∀ f u, (sgOf L).unit f = some u → (sgOf L).joins f = true) :
    Calls Tryz.prog 54 #[.slice S n cap, .agg #[.string t.1.1, .int .i64 t.1.2, .slice a (lenF t.2) c], stepV p pa pn pc] w (NodeEnd w (growN (sgOf L) t p)) := by
  obtain ⟨kd, at_, many, sym⟩ := p
  obtain ⟨W0, hW0⟩ : ∃ W0, ((w.alloc (.cells #[.string t.1.1, .int .i64 t.1.2, .slice a (lenF t.2) c] 26)).alloc (.cells #[.int .i64 kd, .slice pa pn pc, .int .i64 at_, .int .i64 many, .int .i64 sym] 47)).alloc (.cells #[.string ⟨#[]⟩, .int .i64 0, .slice none 0 0] 26) = W0 := ⟨_, rfl⟩
  have hb0 : Below w.heap.size w W0 := by rw [← hW0]; exact ((alloc_below0 w _).alloc (by simp) _).alloc (by simp; omega) _
  have B0 : Box W0 w.heap.size 26 (tmC t a c) := by rw [← hW0]; exact ((Box.new w 26 _).over _).over _
  have B1 : Box W0 (w.heap.size + 1) 47 (stepC ⟨kd, at_, many, sym⟩ pa pn pc) := by rw [← hW0]; exact (box_new (by rw [World.size_alloc]) 47 _).over _
  have B2 : Box W0 (w.heap.size + 2) 26 (tmC ((⟨#[]⟩, 0), .nil) none 0) := by rw [← hW0]; exact box_new (by rw [World.size_alloc, World.size_alloc]) 26 _
  have hsz : W0.heap.size = w.heap.size + 3 := by rw [← hW0]; simp
  have hst0 : NSt0 w t a c ⟨kd, at_, many, sym⟩ pa pn pc W0 := ⟨hb0, B0, B1, B2, by omega⟩
  have HU := hid (runit_any S n cap L sym W0 (hS.below hb0))
  have d4 := B1.v (k := 4) rfl
  have hlen := len_nodes t.2
  have hcc := hT.sizes.len; have hcm := hT.sizes.cap
  unfold maxLen at hcm
  have hlf : lenF t.2 ≤ 1048576 := by omega
  obtain ⟨ui, hui⟩ : ∃ ui, unitI L sym = ui := ⟨_, rfl⟩
  have HS := hid hS; have HT := hid hT; have HG := hid hG; have HST0 := hid hst0; have HUJ := hid hUJ
  clear hb0 B0 B1 B2 hS hT hn hG hsz hst0 hUJ hlen
  go_enter Tryz.func54, Tryz.ntmps54
  cases huo : unitOk L sym
  · have HNO : Hid (growN (sgOf L) t ⟨kd, at_, many, sym⟩ = none) := by
      show _ = _
      unfold growN
      unfold unitOk at huo
      cases hq : unitAt L sym with
      | none => simp [sgOf, hq]
      | some i => rw [hq] at huo; simp at huo
    have n0 := HST0.out.n.v (k := 0) rfl; have n1 := HST0.out.n.v (k := 1) rfl; have n2 := HST0.out.n.v (k := 2) rfl
    have z0 := HST0.out.r.v (k := 0) rfl; have z1 := HST0.out.r.v (k := 1) rfl; have z2 := HST0.out.r.v (k := 2) rfl
    have f0 := HST0.out.r.f 0; have f1 := HST0.out.r.f 1; have f2 := HST0.out.r.f 2
    go_wp2_with (first | (go_at_call 48; refine HU.out.mono ?_; rintro e w9 ⟨he, hw9⟩; unfold UnitRet at he; rw [hui, huo] at he; subst he; rw [hw9]; clear hw9) | fail)
    refine ret_term rfl rfl (sets3_box HST0.out.r _ _ _) rfl rfl ?_
    exact node_no HST0.out.low HNO.out
  · obtain ⟨u, hu⟩ : ∃ u, (sgOf L).unit sym = some u := by
      unfold unitOk at huo
      cases hq : unitAt L sym with
      | none => rw [hq] at huo; simp at huo
      | some i => exact ⟨i, by simp [sgOf, hq]⟩
    have hui2 : ui = u := by
      rw [← hui]
      unfold unitI
      simp only [sgOf, Option.map_eq_some_iff] at hu
      obtain ⟨i, hi, rfl⟩ := hu
      rw [hi]
    have HGR : Hid (growN (sgOf L) t ⟨kd, at_, many, sym⟩ = if many = 1 then (if 0 ≤ at_ ∧ at_ ≤ 1 then some (((noB, sym), mkF (layL [t] at_.toNat 0 [constT u])), ⟨4, at_, 0, 0⟩) else none) else if many = 0 then (if headed sym t = true ∧ 0 ≤ at_ ∧ at_ ≤ lenF t.2 then some ((t.1, mkF (layL (kidsL t.2) at_.toNat 0 [constT u])), ⟨4, at_, 0, 0⟩) else none) else none) := by show _ = _; unfold growN; rw [hu]
    have HUU := hid hu
    have HUI := hid hui
    clear hu
    subst hui2
    go_upto_region 5 with (first | (go_at_call 48; refine HU.out.mono ?_; rintro e w9 ⟨he, hw9⟩; unfold UnitRet at he; rw [hui, huo] at he; subst he; rw [hw9]; clear hw9) | fail)
    clear hW0 d4
    obtain ⟨V, hV⟩ : ∃ V, W0.alloc (.cells #[.string ⟨#[]⟩, .int .i64 ui, .slice none 0 0] 26) = V := ⟨_, rfl⟩
    rw [hV]
    have hbV : Below W0.heap.size W0 V := by rw [← hV]; exact alloc_below0 _ _
    have hst : GSt w t a c ⟨kd, at_, many, sym⟩ pa pn pc W0.heap.size ui V := { HST0.out.below hbV with o := by rw [← hV]; exact Box.new _ _ _, far := by have := HST0.out.sz; omega }
    generalize W0.heap.size = Bo at hst ⊢
    have HST := hid hst
    clear hst hbV hV hui huo
    have n0 := HST.out.n.v (k := 0) rfl; have n1 := HST.out.n.v (k := 1) rfl; have n2 := HST.out.n.v (k := 2) rfl
    have s2 := HST.out.x.v (k := 2) rfl; have s3 := HST.out.x.v (k := 3) rfl; have s4 := HST.out.x.v (k := 4) rfl
    have o0 := HST.out.o.v (k := 0) rfl; have o1 := HST.out.o.v (k := 1) rfl; have o2 := HST.out.o.v (k := 2) rfl
    have z0 := HST.out.r.v (k := 0) rfl; have z1 := HST.out.r.v (k := 1) rfl; have z2 := HST.out.r.v (k := 2) rfl
    have f0 := HST.out.r.f 0; have f1 := HST.out.r.f 1; have f2 := HST.out.r.f 2
    have HNE : Hid (w.heap.size ≠ w.heap.size + 2 ∧ w.heap.size + 1 ≠ w.heap.size + 2 ∧ Bo ≠ w.heap.size + 2) := ⟨by omega, by omega, by have := HST.out.far; omega⟩
    by_cases hm0 : many = 0
    · subst hm0
      have e1 : ((0 : Int) == 1) = false := by decide
      by_cases hh : headed sym t = true
      · have hx := head_eq hh
        obtain ⟨⟨nm, f⟩, F⟩ := t
        obtain ⟨rfl, rfl⟩ := Prod.mk.inj hx
        have ex : noB.toList.isEmpty = true := by decide +kernel
        by_cases h0 : 0 ≤ at_
        · by_cases h1 : at_ ≤ (lenF F : Int)
          · obtain ⟨k, hk⟩ : ∃ k : Nat, at_ = k := ⟨at_.toNat, by omega⟩
            subst hk
            have hG2 : 2 ≤ lenF F := HG.out (gath_app (sgOf L) (HUJ.out f ui HUU.out))
            obtain ⟨bb, oo, rfl, hkk⟩ := HT.out.args.get (by show 0 < lenF F; omega)
            obtain ⟨F', hF'⟩ : ∃ F', mkF (layL (kidsL F) k 0 [constT ui]) = F' := ⟨_, rfl⟩
            have HRS : Hid (growN (sgOf L) ((noB, f), F) ⟨kd, k, 0, f⟩ = some (((noB, f), F'), ⟨4, k, 0, 0⟩)) := by
              show _ = _
              rw [HGR.out, if_neg (by decide), if_pos rfl, if_pos ⟨hh, h0, h1⟩]
              simp only [Int.toNat_natCast, hF']
            have HLD : Hid (∀ W, Below V.heap.size V W → Box W V.heap.size 26 #[.string ⟨#[]⟩, .int .i64 ui, .slice none 0 0] → Calls Tryz.prog 51 #[.slice (some ⟨bb, oo, none⟩) (lenF F) c, .int .i64 k, .int .i64 0, .slice (some ⟨V.heap.size, 0, none⟩) 1 1] W fun e w' => ∃ a5 c5, e = .returned (.slice a5 (lenF F') c5) ∧ OwnTm false (fun q => W.heap.size ≤ q) w' (noB, f) a5 c5 F' ∧ Below W.heap.size W w') := fun W hW hB4 => by
              have hbW : Below w.heap.size w W := HST.out.low.trans (hW.mono HST.out.low.size)
              have hX : ArgsAt W (some ⟨V.heap.size, 0, none⟩) (.node 0 0 (⟨#[]⟩, ui) .nil .nil) := .inr ⟨V.heap.size, 0, rfl, ⟨none, 0, hB4.v rfl, hB4.v rfl, hB4.v rfl, ⟨by show (0 : Nat) ≤ _; exact Nat.zero_le _, Nat.le_refl _, Nat.zero_le _, Nat.zero_le _⟩, .inl rfl⟩, trivial⟩
              have h0' := dlaid_any bb oo F _ c k 0 (some ⟨V.heap.size, 0, none⟩) 1 W (kids_below hkk hbW) hX (by omega) hcc (by unfold maxLen; omega) hlf (by simp [lenF])
              simp only [lenF, kidsL, Nat.zero_add] at h0'
              refine Calls.mono h0' ?_
              intro e w' h
              have := ld_term (x := (noB, f)) h (Nat.zero_le _) (by unfold layL; simp only [List.length_append, List.length_take, List.length_drop, List.length_cons, List.length_nil, kids_len]; have : lenF F ≤ 1048576 := hlf; omega)
              rw [show mkF (layL (kidsL F) k 0 [((⟨#[]⟩, ui), .nil)]) = F' from hF'] at this
              exact this
            clear hF' hkk
            go_wp2_with fail
            go_cut [7] (fun v w' => v = .bool true ∧ ∃ a5 c5 W, Below w.heap.size w W ∧ OwnTm false (fun q => w.heap.size + 3 ≤ q) W (noB, f) a5 c5 F' ∧ Box W (w.heap.size + 2) 26 (tmC ((⟨#[]⟩, 0), .nil) none 0) ∧ w' = ((W.setCell ⟨w.heap.size + 2, 0, none⟩ (.string ⟨#[]⟩)).setCell ⟨w.heap.size + 2, 1, none⟩ (.int .i64 f)).setCell ⟨w.heap.size + 2, 2, none⟩ (.slice a5 (lenF F') c5))
            case first =>
              go_region_held3 (fun w' => w'.cell? ⟨w.heap.size, 1, none⟩ = some (.int .i64 f) ∧ w'.cell? ⟨w.heap.size, 2, none⟩ = some (.slice (some ⟨bb, oo, none⟩) (lenF F) c) ∧ w'.cell? ⟨w.heap.size + 1, 2, none⟩ = some (.int .i64 k) ∧ w'.cell? ⟨Bo, 0, none⟩ = some (.string ⟨#[]⟩) ∧ w'.cell? ⟨Bo, 1, none⟩ = some (.int .i64 ui) ∧ w'.cell? ⟨Bo, 2, none⟩ = some (.slice none 0 0)) ((first | (go_split_ands; refine ⟨?_, ?_, ?_, ?_, ?_, ?_⟩ <;> ((with_reducible refine below_cell HB5.out _ _ ?_); assumption)) | (have hqq := HB5.out; clear hqq; go_split_ands; refine ⟨?_, ?_, ?_, ?_, ?_, ?_⟩ <;> (refine keep_sets (n := 0) HB5.out (by assumption) ?_; first | exact HNE.out.1 | exact HNE.out.2.1 | exact HNE.out.2.2)) | (go_split_ands; refine ⟨?_, ?_, ?_, ?_, ?_, ?_⟩ <;> (refine below_cell ((Below.refl _ V).alloc (Nat.le_refl _) _) _ _ ?_; assumption)) | go_keep | fail)) ((first | (go_at_call 51; refine Calls.mono (HLD.out (World.drew (World.alloc V (.cells #[.string ⟨#[]⟩, .int .i64 ui, .slice none 0 0] 26))) ((Below.refl _ V).alloc (Nat.le_refl _) _).drew (Box.new V 26 _)) ?_; rintro e w5 ⟨a5, c5, rfl, hO5, hb5⟩; have HO5 : Hid (OwnTm false (fun q => V.heap.size ≤ q) w5 (noB, f) a5 c5 F') := hO5.mono (fun q _ hq => by have hq : (World.drew (World.alloc V (.cells #[.string ⟨#[]⟩, .int .i64 ui, .slice none 0 0] 26))).heap.size ≤ q := hq; rw [show (World.drew (World.alloc V (.cells #[.string ⟨#[]⟩, .int .i64 ui, .slice none 0 0] 26))).heap.size = V.heap.size + 1 from World.size_alloc _ _] at hq; omega); have HB5 : Hid (Below V.heap.size V w5) := (((Below.refl _ V).alloc (Nat.le_refl _) _).drew).trans (hb5.mono (by show _ ≤ (V.alloc _).heap.size; rw [World.size_alloc]; omega)); have X5 := HST.out.r.below HB5.out; have y0 := X5.v (k := 0) rfl; have y1 := X5.v (k := 1) rfl; have y2 := X5.v (k := 2) rfl; have yf0 := X5.f 0; have yf1 := X5.f 1; have yf2 := X5.f 2; clear X5 hO5 hb5) | fail))
              all_goals (go_wp2_with fail; go_meet)
              all_goals exact ⟨rfl, a5, c5, w5, HST.out.low.trans (HB5.out.mono HST.out.low.size), HO5.out.mono (fun q _ hq => by have := HST.out.sz; omega), HST.out.r.below HB5.out, rfl⟩
            case rest =>
              obtain ⟨rfl, a5, c5, W, hl5, hO5, hr5, rfl⟩ := hcut
              have HL5 := hid hl5; have HO5 := hid hO5; have HR5 := hid hr5
              clear hl5 hO5 hr5
              go_wp2_with fail
              refine ret_term rfl rfl (sets3_box HR5.out _ _ _) rfl rfl ?_
              exact node_fin (y := ((noB, f), F')) HL5.out HO5.out HRS.out
          · have HNO : Hid (growN (sgOf L) ((noB, f), F) ⟨kd, at_, 0, f⟩ = none) := by show _ = _; rw [HGR.out, if_neg (by decide), if_pos rfl, if_neg (fun h => h1 h.2.2)]
            go_wp2_with fail
            refine ret_term rfl rfl (sets3_box HST.out.r _ _ _) rfl rfl ?_
            exact node_no (y := ((noB, f), F)) (a := a) (c := c) HST.out.low HNO.out
        · have HNO : Hid (growN (sgOf L) ((noB, f), F) ⟨kd, at_, 0, f⟩ = none) := by show _ = _; rw [HGR.out, if_neg (by decide), if_pos rfl, if_neg (fun h => h0 h.2.1)]
          go_wp2_with fail
          refine ret_term rfl rfl (sets3_box HST.out.r _ _ _) rfl rfl ?_
          exact node_no (y := ((noB, f), F)) (a := a) (c := c) HST.out.low HNO.out
      · have HNO : Hid (growN (sgOf L) t ⟨kd, at_, 0, sym⟩ = none) := by show _ = _; rw [HGR.out, if_neg (by decide), if_pos rfl, if_neg (fun h => hh h.1)]
        cases hx : t.1.1.toList.isEmpty
        · go_wp2_with fail
          refine ret_term rfl rfl (sets3_box HST.out.r _ _ _) rfl rfl ?_
          exact node_no HST.out.low HNO.out
        · have hs : (t.1.2 == sym) = false := by
            cases hs : (t.1.2 == sym)
            · rfl
            · exact absurd (by unfold headed noName; rw [hx, hs]; rfl) hh
          go_wp2_with fail
          refine ret_term rfl rfl (sets3_box HST.out.r _ _ _) rfl rfl ?_
          exact node_no HST.out.low HNO.out
    · have em0 : (many == 0) = false := by simp [hm0]
      by_cases hm1 : many = 1
      · subst hm1
        by_cases h0 : at_ = 0
        · subst h0
          have HCl : Hid (∀ W, Below V.heap.size V W → Calls Tryz.prog 21 #[.agg #[.string t.1.1, .int .i64 t.1.2, .slice a (lenF t.2) c]] W fun e w' => ∃ a' c', e = .returned (.agg #[.string t.1.1, .int .i64 t.1.2, .slice a' (lenF t.2) c']) ∧ RowTm W.heap.size w' t.1 a' c' t.2 ∧ Below W.heap.size W w') := fun W hW => rclone_any t.1 t.2 a c W ((HT.out.below HST.out.low).below hW)
          have HRS : Hid (growN (sgOf L) t ⟨kd, 0, 1, sym⟩ = some (((noB, sym), mkF [constT ui, t]), ⟨4, 0, 0, 0⟩)) := by show _ = _; rw [HGR.out, if_pos rfl, if_pos (by decide)]; rfl
          go_wp2_with fail
          go_cut [7] (fun v w' => v = .bool true ∧ ∃ c5 W a5, Below w.heap.size w W ∧ OwnTm false (fun q => w.heap.size + 3 ≤ q) W (noB, sym) (some ⟨a5, 0, none⟩) c5 (mkF [constT ui, t]) ∧ c5 = 2 ∧ Box W (w.heap.size + 2) 26 (tmC ((⟨#[]⟩, 0), .nil) none 0) ∧ w' = ((W.setCell ⟨w.heap.size + 2, 0, none⟩ (.string ⟨#[]⟩)).setCell ⟨w.heap.size + 2, 1, none⟩ (.int .i64 sym)).setCell ⟨w.heap.size + 2, 2, none⟩ (.slice (some ⟨a5, 0, none⟩) 2 2))
          case first =>
            go_region_held3 (fun w' => w'.cell? ⟨w.heap.size + 1, 4, none⟩ = some (.int .i64 sym) ∧ w'.cell? ⟨w.heap.size, 0, none⟩ = some (.string t.1.1) ∧ w'.cell? ⟨w.heap.size, 1, none⟩ = some (.int .i64 t.1.2) ∧ w'.cell? ⟨w.heap.size, 2, none⟩ = some (.slice a (lenF t.2) c) ∧ w'.cell? ⟨Bo, 0, none⟩ = some (.string ⟨#[]⟩) ∧ w'.cell? ⟨Bo, 1, none⟩ = some (.int .i64 ui) ∧ w'.cell? ⟨Bo, 2, none⟩ = some (.slice none 0 0)) ((first | (go_split_ands; refine ⟨?_, ?_, ?_, ?_, ?_, ?_, ?_⟩ <;> ((with_reducible refine below_cell HB5.out _ _ ?_); assumption)) | (have hqq := HB5.out; clear hqq; go_split_ands; refine ⟨?_, ?_, ?_, ?_, ?_, ?_, ?_⟩ <;> ((with_reducible refine below_cell (HB5.out.alloc HB5.out.size (.cells #[.string ⟨#[]⟩, .int .i64 ui, .slice none 0 0, .string t.1.1, .int .i64 t.1.2, .slice a5 (lenF t.2) c5] 26)) _ _ ?_); assumption)) | (have hqq := HB5.out; clear hqq; go_split_ands; refine ⟨?_, ?_, ?_, ?_, ?_, ?_, ?_⟩ <;> (refine keep_sets (n := 0) (HB5.out.alloc HB5.out.size (.cells #[.string ⟨#[]⟩, .int .i64 ui, .slice none 0 0, .string t.1.1, .int .i64 t.1.2, .slice a5 (lenF t.2) c5] 26)) (by assumption) ?_; first | exact HNE.out.1 | exact HNE.out.2.1 | exact HNE.out.2.2)) | go_keep | fail)) ((first | (go_at_call 21; (with_reducible refine Calls.mono (HCl.out (World.drew V) (Below.refl _ V).drew) ?_); rintro e w5 ⟨a5, c5, rfl, hR5, hb5⟩; have HO5 : Hid (OwnTm false (fun q => V.heap.size ≤ q) w5 t.1 a5 c5 t.2) := hR5.own; have HB5 : Hid (Below V.heap.size V w5) := ((Below.refl _ V).drew).trans hb5; have X5 := HST.out.r.below (HB5.out.alloc HB5.out.size (.cells #[.string ⟨#[]⟩, .int .i64 ui, .slice none 0 0, .string t.1.1, .int .i64 t.1.2, .slice a5 (lenF t.2) c5] 26)); have y0 := X5.v (k := 0) rfl; have y1 := X5.v (k := 1) rfl; have y2 := X5.v (k := 2) rfl; have yf0 := X5.f 0; have yf1 := X5.f 1; have yf2 := X5.f 2; clear X5 hR5 hb5) | fail))
            all_goals (go_wp2_with fail; go_meet)
            all_goals
              have hb6 : Below V.heap.size V (w5.alloc (.cells #[.string ⟨#[]⟩, .int .i64 ui, .slice none 0 0, .string t.1.1, .int .i64 t.1.2, .slice a5 (lenF t.2) c5] 26)) := HB5.out.alloc HB5.out.size _
              have hsz5 := HB5.out.size
              have hsz := HST.out.sz
              exact ⟨rfl, 2, _, w5.heap.size, HST.out.low.trans (hb6.mono HST.out.low.size), two_own (k1 := ⟨(noB, ui), .nil, none, 0⟩) (k2 := ⟨t.1, t.2, a5, c5⟩) (by omega) (Nat.zero_le _) const_own (HO5.out.mono (fun q _ hq => by omega)), rfl, HST.out.r.below hb6, rfl⟩
          case rest =>
            obtain ⟨rfl, c5, W, a5, hl5, hO5, rfl, hr5, rfl⟩ := hcut
            have HL5 := hid hl5; have HO5 := hid hO5; have HR5 := hid hr5
            clear hl5 hO5 hr5
            go_wp2_with fail
            refine ret_term rfl rfl (sets3_box HR5.out _ _ _) rfl rfl ?_
            exact node_fin (y := ((noB, sym), mkF [constT ui, t])) HL5.out HO5.out HRS.out
        · have ea0 : (at_ == 0) = false := by simp [h0]
          by_cases h1 : at_ = 1
          · subst h1
            have HCl : Hid (∀ W, Below V.heap.size V W → Calls Tryz.prog 21 #[.agg #[.string t.1.1, .int .i64 t.1.2, .slice a (lenF t.2) c]] W fun e w' => ∃ a' c', e = .returned (.agg #[.string t.1.1, .int .i64 t.1.2, .slice a' (lenF t.2) c']) ∧ RowTm W.heap.size w' t.1 a' c' t.2 ∧ Below W.heap.size W w') := fun W hW => rclone_any t.1 t.2 a c W ((HT.out.below HST.out.low).below hW)
            have HRS : Hid (growN (sgOf L) t ⟨kd, 1, 1, sym⟩ = some (((noB, sym), mkF [t, constT ui]), ⟨4, 1, 0, 0⟩)) := by show _ = _; rw [HGR.out, if_pos rfl, if_pos (by decide)]; rfl
            go_wp2_with fail
            go_cut [7] (fun v w' => v = .bool true ∧ ∃ c5 W a5, Below w.heap.size w W ∧ OwnTm false (fun q => w.heap.size + 3 ≤ q) W (noB, sym) (some ⟨a5, 0, none⟩) c5 (mkF [t, constT ui]) ∧ c5 = 2 ∧ Box W (w.heap.size + 2) 26 (tmC ((⟨#[]⟩, 0), .nil) none 0) ∧ w' = ((W.setCell ⟨w.heap.size + 2, 0, none⟩ (.string ⟨#[]⟩)).setCell ⟨w.heap.size + 2, 1, none⟩ (.int .i64 sym)).setCell ⟨w.heap.size + 2, 2, none⟩ (.slice (some ⟨a5, 0, none⟩) 2 2))
            case first =>
              go_region_held3 (fun w' => w'.cell? ⟨w.heap.size + 1, 4, none⟩ = some (.int .i64 sym) ∧ w'.cell? ⟨w.heap.size, 0, none⟩ = some (.string t.1.1) ∧ w'.cell? ⟨w.heap.size, 1, none⟩ = some (.int .i64 t.1.2) ∧ w'.cell? ⟨w.heap.size, 2, none⟩ = some (.slice a (lenF t.2) c) ∧ w'.cell? ⟨Bo, 0, none⟩ = some (.string ⟨#[]⟩) ∧ w'.cell? ⟨Bo, 1, none⟩ = some (.int .i64 ui) ∧ w'.cell? ⟨Bo, 2, none⟩ = some (.slice none 0 0)) ((first | (go_split_ands; refine ⟨?_, ?_, ?_, ?_, ?_, ?_, ?_⟩ <;> ((with_reducible refine below_cell HB5.out _ _ ?_); assumption)) | (have hqq := HB5.out; clear hqq; go_split_ands; refine ⟨?_, ?_, ?_, ?_, ?_, ?_, ?_⟩ <;> ((with_reducible refine below_cell (HB5.out.alloc HB5.out.size (.cells #[.string t.1.1, .int .i64 t.1.2, .slice a5 (lenF t.2) c5, .string ⟨#[]⟩, .int .i64 ui, .slice none 0 0] 26)) _ _ ?_); assumption)) | (have hqq := HB5.out; clear hqq; go_split_ands; refine ⟨?_, ?_, ?_, ?_, ?_, ?_, ?_⟩ <;> (refine keep_sets (n := 0) (HB5.out.alloc HB5.out.size (.cells #[.string t.1.1, .int .i64 t.1.2, .slice a5 (lenF t.2) c5, .string ⟨#[]⟩, .int .i64 ui, .slice none 0 0] 26)) (by assumption) ?_; first | exact HNE.out.1 | exact HNE.out.2.1 | exact HNE.out.2.2)) | go_keep | fail)) ((first | (go_at_call 21; (with_reducible refine Calls.mono (HCl.out (World.drew V) (Below.refl _ V).drew) ?_); rintro e w5 ⟨a5, c5, rfl, hR5, hb5⟩; have HO5 : Hid (OwnTm false (fun q => V.heap.size ≤ q) w5 t.1 a5 c5 t.2) := hR5.own; have HB5 : Hid (Below V.heap.size V w5) := ((Below.refl _ V).drew).trans hb5; have X5 := HST.out.r.below (HB5.out.alloc HB5.out.size (.cells #[.string t.1.1, .int .i64 t.1.2, .slice a5 (lenF t.2) c5, .string ⟨#[]⟩, .int .i64 ui, .slice none 0 0] 26)); have y0 := X5.v (k := 0) rfl; have y1 := X5.v (k := 1) rfl; have y2 := X5.v (k := 2) rfl; have yf0 := X5.f 0; have yf1 := X5.f 1; have yf2 := X5.f 2; clear X5 hR5 hb5) | fail))
              all_goals (go_wp2_with fail; go_meet)
              all_goals
                have hb6 : Below V.heap.size V (w5.alloc (.cells #[.string t.1.1, .int .i64 t.1.2, .slice a5 (lenF t.2) c5, .string ⟨#[]⟩, .int .i64 ui, .slice none 0 0] 26)) := HB5.out.alloc HB5.out.size _
                have hsz5 := HB5.out.size
                have hsz := HST.out.sz
                exact ⟨rfl, 2, _, w5.heap.size, HST.out.low.trans (hb6.mono HST.out.low.size), two_own (k1 := ⟨t.1, t.2, a5, c5⟩) (k2 := ⟨(noB, ui), .nil, none, 0⟩) (by omega) (Nat.zero_le _) (HO5.out.mono (fun q _ hq => by omega)) const_own, rfl, HST.out.r.below hb6, rfl⟩
            case rest =>
              obtain ⟨rfl, c5, W, a5, hl5, hO5, rfl, hr5, rfl⟩ := hcut
              have HL5 := hid hl5; have HO5 := hid hO5; have HR5 := hid hr5
              clear hl5 hO5 hr5
              go_wp2_with fail
              refine ret_term rfl rfl (sets3_box HR5.out _ _ _) rfl rfl ?_
              exact node_fin (y := ((noB, sym), mkF [t, constT ui])) HL5.out HO5.out HRS.out
          · have ea1 : (at_ == 1) = false := by simp [h1]
            have HNO : Hid (growN (sgOf L) t ⟨kd, at_, 1, sym⟩ = none) := by show _ = _; rw [HGR.out, if_pos rfl, if_neg (fun h => by omega)]
            go_wp2_with fail
            refine ret_term rfl rfl (sets3_box HST.out.r _ _ _) rfl rfl ?_
            exact node_no HST.out.low HNO.out
      · have em1 : (many == 1) = false := by simp [hm1]
        have HNO : Hid (growN (sgOf L) t ⟨kd, at_, many, sym⟩ = none) := by show _ = _; rw [HGR.out, if_neg hm1, if_neg hm0]
        go_wp2_with fail
        refine ret_term rfl rfl (sets3_box HST.out.r _ _ _) rfl rfl ?_
        exact node_no HST.out.low HNO.out
end Go.Proofs.YtokbgbbkopmngaaGreat
/- The document's node, grow. -/
namespace Go.Proofs.YtokbgbbkopmngaaGreat
open Go.RowKit Go.Deep

set_option maxRecDepth 100000 in
set_option maxHeartbeats 4000000 in
theorem dnode_grow (S : Option Addr) (n cap : Nat) (L : List Sym) (t : Tn) (a : Option Addr) (c : Nat) (p : Sp) (pa : Option Addr) (pn pc : Nat) (w : World)
    (hS : SigAt w S n L) (hT : TmAt w t.1 a c t.2) (hn : nodesF t.2 ≤ 1048576) (hG : gathN (sgOf L) t = true → 2 ≤ lenF t.2) (hUJ : ∀ f u, (sgOf L).unit f = some u → (sgOf L).joins f = true) (hk : p.kind = 5) :
    Calls Tryz.prog 34 #[.slice S n cap, .agg #[.string t.1.1, .int .i64 t.1.2, .slice a (lenF t.2) c], stepV p pa pn pc] w (NodeEnd w (stepN (sgOf L) t p)) := by
  obtain ⟨kd, at_, many, sym⟩ := p
  obtain ⟨W0, hW0⟩ : ∃ W0, ((w.alloc (.cells #[.string t.1.1, .int .i64 t.1.2, .slice a (lenF t.2) c] 26)).alloc (.cells #[.int .i64 kd, .slice pa pn pc, .int .i64 at_, .int .i64 many, .int .i64 sym] 47)).alloc (.cells #[.string ⟨#[]⟩, .int .i64 0, .slice none 0 0] 26) = W0 := ⟨_, rfl⟩
  have hb0 : Below w.heap.size w W0 := by rw [← hW0]; exact ((alloc_below0 w _).alloc (by simp) _).alloc (by simp; omega) _
  have B0 : Box W0 w.heap.size 26 (tmC t a c) := by rw [← hW0]; exact ((Box.new w 26 _).over _).over _
  have B1 : Box W0 (w.heap.size + 1) 47 (stepC ⟨kd, at_, many, sym⟩ pa pn pc) := by rw [← hW0]; exact (box_new (by rw [World.size_alloc]) 47 _).over _
  have B2 : Box W0 (w.heap.size + 2) 26 (tmC ((⟨#[]⟩, 0), .nil) none 0) := by rw [← hW0]; exact box_new (by rw [World.size_alloc, World.size_alloc]) 26 _
  have hsz : W0.heap.size = w.heap.size + 3 := by rw [← hW0]; simp
  have HJ := hid (djoins_any S n cap L t a c W0 (hS.below hb0))
  have d0 := B0.v (k := 0) rfl; have d1 := B0.v (k := 1) rfl; have d2 := B0.v (k := 2) rfl
  have hlen := len_nodes t.2
  have hcc := hT.sizes.len; have hcm := hT.sizes.cap
  unfold maxLen at hcm
  have HB0 := hid hb0; have HX0 := hid B0; have HX1 := hid B1; have HX2 := hid B2; have HS := hid hS; have HT := hid hT; have HN := hid hn; have HG := hid hG; have HSZ := hid hsz
  clear hb0 B0 B1 B2 hS hT hn hG hsz
  go_enter Tryz.func34, Tryz.ntmps34
  go_upto_region 2 with (first | (go_at_call 50; refine HJ.out.mono ?_; rintro e w1 ⟨rfl, hb1⟩; have HB1 := hid hb1; clear hb1) | fail)
  clear hW0 d0 d1 d2
  have hst1 : NSt0 w t a c ⟨kd, at_, many, sym⟩ pa pn pc w1 := ⟨HB0.out.trans (HB1.out.mono HB0.out.size), HX0.out.below HB1.out, HX1.out.below HB1.out, HX2.out.below HB1.out, by have := HSZ.out; have := HB1.out.size; omega⟩
  have HST1 := hid hst1
  have s2 := hst1.x.v (k := 2) rfl
  have n2 := hst1.n.v (k := 2) rfl
  obtain ⟨g, hg⟩ : ∃ g, gathN (sgOf L) t = g := ⟨_, rfl⟩
  rw [hg]
  have HGG := hid hg
  clear hst1 hg
  go_cut [9] (fun v w' => v = .bool (inI at_ (lenF t.2)) ∧ w' = w1)
  case first =>
    by_cases h0 : 0 ≤ at_
    · by_cases h1 : at_ < (lenF t.2 : Int)
      · have e : inI at_ (lenF t.2) = true := by unfold inI; simp [h0, h1]
        go_wp2_with fail
        go_meet
        exact ⟨by rw [e] <;> rfl, rfl⟩
      · have e : inI at_ (lenF t.2) = false := by unfold inI; simp [h1]
        go_wp2_with fail
        go_meet
        exact ⟨by rw [e] <;> rfl, rfl⟩
    · have e : inI at_ (lenF t.2) = false := by unfold inI; simp [h0]
      go_wp2_with fail
      go_meet
      exact ⟨by rw [e] <;> rfl, rfl⟩
  case rest =>
    obtain ⟨rfl, rfl⟩ := hcut
    obtain ⟨i, hi⟩ : ∃ i, inI at_ (lenF t.2) = i := ⟨_, rfl⟩
    rw [hi]
    have HII := hid hi
    have HCl := hid (rclone_any t.1 t.2 a c wc (HT.out.below HST1.out.low))
    have n0 := HST1.out.n.v (k := 0) rfl; have n1 := HST1.out.n.v (k := 1) rfl
    clear hi s2
    go_upto_region 4 with (first | (go_at_call 21; refine HCl.out.mono ?_; rintro e w2 ⟨a', c', rfl, hR2, hb2⟩; have HR2 := hid hR2; have HB2 := hid hb2; clear hR2 hb2) | fail)
    obtain ⟨V, hV⟩ : ∃ V, w2.alloc (.cells #[.string t.1.1, .int .i64 t.1.2, .slice a' (lenF t.2) c'] 26) = V := ⟨_, rfl⟩
    rw [hV]
    have hst : NSt w t a c ⟨kd, at_, many, sym⟩ pa pn pc w2.heap.size a' c' V := by rw [← hV]; exact NSt.new HST1.out HB2.out HR2.out
    have HST := hid hst
    generalize w2.heap.size = Bo at HST ⊢
    clear hst n0 n1 n2 hV HR2 HB2 HCl HST1 HX0 HX1 HX2 HJ HB1
    have s0 := HST.out.x.v (k := 0) rfl
    have hk1 : kd = 5 := hk
    have HUJ := hid hUJ
    subst hk1
    clear hk
    have n0 := HST.out.n.v (k := 0) rfl; have n1 := HST.out.n.v (k := 1) rfl; have n2 := HST.out.n.v (k := 2) rfl
    have s1 := HST.out.x.v (k := 1) rfl; have s2 := HST.out.x.v (k := 2) rfl; have s3 := HST.out.x.v (k := 3) rfl; have s4 := HST.out.x.v (k := 4) rfl
    have HGw := hid (dgrow_any S n cap L t a c ⟨5, at_, many, sym⟩ pa pn pc V (HS.out.below HST.out.low) (HT.out.below HST.out.low) HN.out HG.out HUJ.out)
    have HSE : Hid (stepN (sgOf L) t ⟨5, at_, many, sym⟩ = growN (sgOf L) t ⟨5, at_, many, sym⟩) := by show _ = _; unfold stepN; rw [if_pos rfl]
    obtain ⟨r, hr⟩ : ∃ r, growN (sgOf L) t ⟨5, at_, many, sym⟩ = r := ⟨_, rfl⟩
    rw [hr] at HGw HSE
    clear hr
    go_wp2_with fail
    refine HGw.out.mono ?_
    rintro e w5 ⟨y, a5, c5, rfl, hy5, hb5⟩
    have X5 := HST.out.r.below hb5
    have HX5 := hid X5
    have z0 := X5.v (k := 0) rfl; have z1 := X5.v (k := 1) rfl; have z2 := X5.v (k := 2) rfl
    have f0 := X5.f 0; have f1 := X5.f 1; have f2 := X5.f 2
    have HB5 := hid hb5; have HY5 := hid hy5
    clear X5 hb5 hy5 n0 n1 n2 s0 s1 s2 s3 s4
    go_wp2_with fail
    refine ret_term rfl rfl (sets3_box HX5.out _ _ _) rfl rfl ?_
    have hlow : Below w.heap.size w w5 := HST.out.low.trans (HB5.out.mono HST.out.low.size)
    refine ⟨y, a5, c5, by rw [HSE.out]; rfl, fun s e => ?_, hlow.trans ((sets3_fr (B := w.heap.size + 2) _ _ _).below (fun k hk => by omega) hlow.size)⟩
    rw [HSE.out] at e
    obtain ⟨h1, h2⟩ := HY5.out s e
    have hsz := HST.out.sz
    exact ⟨h1, (h2.keep (fun q hq hl => (sets3_fr (B := w.heap.size + 2) _ _ _).same q hl (by omega))).mono (fun q _ hq => by omega)⟩
end Go.Proofs.YtokbgbbkopmngaaGreat
/- What the document's At answers. -/
namespace Go.Proofs.YtokbgbbkopmngaaGreat
open Go.RowKit Go.Deep

theorem own_none (W : World) (B0 : Nat) : RowTm B0 W (ansT none).1 none 0 (ansT none).2 := ⟨⟨by decide, Nat.le_refl _, by simp, by simp [ansT, noT, lenF]⟩, .inl rfl⟩
theorem TBox.sets {W : World} {B : Nat} {x y : ByteArray × Int} {a b : Option Addr} {n m c d : Nat} (h : TBox W B y b m d) : TBox (((W.setCell ⟨B, 0, none⟩ (.string x.1)).setCell ⟨B, 1, none⟩ (.int .i64 x.2)).setCell ⟨B, 2, none⟩ (.slice a n c)) B x a n c := XBox.all (x := x) (y := y) h _

set_option maxRecDepth 100000 in
set_option maxHeartbeats 4000000 in
theorem rat_own (ps : List Int) (t : Tn) (a : Option Addr) (c : Nat) (pa : Option Addr) (pn pc : Nat) (w : World) (hT : TmAt w t.1 a c t.2) (hP : IntsAt w pa pn ps) (hpn : pn ≤ 9223372036854775807) :
    Calls Tryz.prog 33 #[.agg #[.string t.1.1, .int .i64 t.1.2, .slice a (lenF t.2) c], .slice pa pn pc] w fun e w' => ∃ a' c', e = .returned (ansV (subT ps t) a' c') ∧ OwnTm false (fun q => w.heap.size ≤ q) w' (ansT (subT ps t)).1 a' c' (ansT (subT ps t)).2 ∧ Below w.heap.size w w' := by
  have hb1 : Below w.heap.size w (w.alloc (.cells #[.string t.1.1, .int .i64 t.1.2, .slice a (lenF t.2) c] 26)) := (Below.refl _ w).alloc (Nat.le_refl _) _
  have hb2 : Below w.heap.size w ((w.alloc (.cells #[.string t.1.1, .int .i64 t.1.2, .slice a (lenF t.2) c] 26)).alloc (.cells #[.string ⟨#[]⟩, .int .i64 0, .slice none 0 0] 26)) := hb1.alloc hb1.size _
  have hbx : TBox ((w.alloc (.cells #[.string t.1.1, .int .i64 t.1.2, .slice a (lenF t.2) c] 26)).alloc (.cells #[.string ⟨#[]⟩, .int .i64 0, .slice none 0 0] 26)) w.heap.size t.1 a (lenF t.2) c := (TBox.new w _ a _ c).below ((Below.refl _ _).alloc (Nat.le_refl _) _)
  have hrx : XBox ((w.alloc (.cells #[.string t.1.1, .int .i64 t.1.2, .slice a (lenF t.2) c] 26)).alloc (.cells #[.string ⟨#[]⟩, .int .i64 0, .slice none 0 0] 26)) (w.heap.size + 1) (⟨#[]⟩, 0) (.slice none 0 0) := heap_alloc2_new w _ _
  obtain rfl := hP.len
  have HT : Hid (TmAt w t.1 a c t.2) := hT
  have HP : Hid (IntsAt w pa ps.length ps) := hP
  clear hT hP hb1
  go_enter Tryz.func33, Tryz.ntmps33
  go_wp2
  go_loopw [6] (fun i wr => ∃ (k : Nat) (t1 : Tn) (a1 : Option Addr) (c1 : Nat), k ≤ ps.length ∧ i = .int .i64 k ∧ TBox wr w.heap.size t1.1 a1 (lenF t1.2) c1 ∧ TmAt w t1.1 a1 c1 t1.2 ∧ subT (ps.drop k) t1 = subT ps t ∧ Below w.heap.size w wr ∧ XBox wr (w.heap.size + 1) (⟨#[]⟩, 0) (.slice none 0 0)) (fun i _ => ps.length - (intOf i).toNat)
  case atStart => exact ⟨0, t, a, c, Nat.zero_le _, rfl, hbx, HT.out, rfl, hb2, hrx⟩
  case round =>
    obtain ⟨k, t1, a1, c1, hk, rfl, hB, hT1, hS, hb, hX⟩ := hrel
    clear hbx hb2 hrx
    have HB : Hid (TBox wr w.heap.size t1.1 a1 (lenF t1.2) c1) := hB
    have HT1 : Hid (TmAt w t1.1 a1 c1 t1.2) := hT1
    have HS : Hid (subT (ps.drop k) t1 = subT ps t) := hS
    have HL : Hid (Below w.heap.size w wr) := hb
    have HX : Hid (XBox wr (w.heap.size + 1) (⟨#[]⟩, 0) (.slice none 0 0)) := hX
    have hnl : lenF t1.2 ≤ 9223372036854775807 := by have := hT1.sizes.len; have := hT1.sizes.cap; unfold maxLen at *; omega
    by_cases hlt : k < ps.length
    · obtain ⟨pb, po, rfl, p0'⟩ := HP.out.cells k hlt
      obtain ⟨i, hid⟩ : ∃ i, ps[k] = i := ⟨_, rfl⟩
      rw [hid] at p0'
      have p0 := below_cell hb _ _ p0'
      have b2 := hB.c2
      have HD : Hid (ps.drop k = i :: ps.drop (k + 1)) := by show _ = _; rw [List.drop_eq_getElem_cons hlt, hid]
      have hj0 : (0 : Int) ≤ (k : Int) := by omega
      have hjn : (k : Int) < (ps.length : Int) := by omega
      have hne := later_some wr
      have d0 := later_cell p0
      have d1 := later_cell b2
      clear hB hT1 hS hb hX hid
      by_cases hbad : i < 0
      · have hd : decide (i < 0) = true := by simp; omega
        have HN : Hid (subT ps t = none) := by
          show _ = _
          rw [← HS.out, HD.out, subT, kidT_bad (by omega)]
        go_wp2_with fail
        refine wp_region_later (by kernel_rfl) (by kernel_rfl) ?_
        repeat (go_big_quiet_step (fail))
        refine wpQuiet_nil ?_
        intro _ hw'
        obtain ⟨b3, hw''⟩ := hw'
        subst hw''
        have hX3 := HX.out.below b3.below
        have r0 := hX3.c0; have r1 := hX3.c1; have r2 := hX3.c2
        have f0 := hX3.f (k := 0); have f1 := hX3.f (k := 1); have f2 := hX3.f (k := 2)
        have HX3 : Hid (XBox b3.now (w.heap.size + 1) (⟨#[]⟩, 0) (.slice none 0 0)) := hX3
        have HL3 : Hid (Below w.heap.size w b3.now) := HL.out.trans (b3.below.mono HL.out.size)
        clear hX3 d0 d1 hne p0 p0' b2
        go_wp2
        refine ret_pair rfl rfl (HX3.out.all (x := (⟨#[]⟩, 0)) _) rfl ?_
        rw [HN.out]
        exact ⟨none, 0, rfl, (own_none _ w.heap.size).own, sets_below HL3.out (by omega) _ _ _⟩
      · obtain ⟨n, rfl⟩ : ∃ n : Nat, i = n := ⟨i.toNat, by omega⟩
        have hd : decide ((n : Int) < 0) = false := by simp
        by_cases hge : lenF t1.2 ≤ n
        · have hd2 : decide (lenF t1.2 ≤ n) = true := by simp; omega
          have HN : Hid (subT ps t = none) := by
            show _ = _
            rw [← HS.out, HD.out, subT, kidT_bad (by omega)]
          go_wp2_with fail
          refine wp_region_later (by kernel_rfl) (by kernel_rfl) ?_
          repeat (go_big_quiet_step (fail))
          refine wpQuiet_nil ?_
          intro _ hw'
          obtain ⟨b3, hw''⟩ := hw'
          subst hw''
          have hX3 := HX.out.below b3.below
          have r0 := hX3.c0; have r1 := hX3.c1; have r2 := hX3.c2
          have f0 := hX3.f (k := 0); have f1 := hX3.f (k := 1); have f2 := hX3.f (k := 2)
          have HX3 : Hid (XBox b3.now (w.heap.size + 1) (⟨#[]⟩, 0) (.slice none 0 0)) := hX3
          have HL3 : Hid (Below w.heap.size w b3.now) := HL.out.trans (b3.below.mono HL.out.size)
          clear hX3 d0 d1 hne p0 p0' b2
          go_wp2
          refine ret_pair rfl rfl (HX3.out.all (x := (⟨#[]⟩, 0)) _) rfl ?_
          rw [HN.out]
          exact ⟨none, 0, rfl, (own_none _ w.heap.size).own, sets_below HL3.out (by omega) _ _ _⟩
        · have hd2 : decide (lenF t1.2 ≤ n) = false := by simp; omega
          obtain ⟨g, q, rfl, hkk⟩ := HT1.out.args.get (by omega)
          obtain ⟨y, a2, c2, l2, kd⟩ := hkk.kid (k := n) (by omega)
          obtain ⟨B1, O1, sp⟩ := kd.split
          have HU : Hid ((kidsL t1.2)[n]? = some (y, l2)) := kids_split sp
          have kd' := kd.below HL.out
          have HK : Hid (TmAt w y a2 c2 l2) := kd.at_
          have hn0 : (0 : Int) ≤ (n : Int) := by omega
          have hnn : (n : Int) < (lenF t1.2 : Int) := by omega
          have k0 := kd'.name; have k1 := kd'.sym; have k2 := kd'.list
          clear hkk kd sp kd'
          go_wp2_with fail
          refine wp_region_later (by kernel_rfl) (by kernel_rfl) ?_
          repeat (go_big_quiet_step (fail))
          refine wpQuiet_nil ?_
          intro _ hw'
          obtain ⟨b3, hw''⟩ := hw'
          subst hw''
          have HX3 : Hid (XBox b3.now (w.heap.size + 1) (⟨#[]⟩, 0) (.slice none 0 0)) := HX.out.below b3.below
          have HB3 : Hid (TBox b3.now w.heap.size t1.1 (some ⟨g, q, none⟩) (lenF t1.2) c1) := HB.out.below b3.below
          have HL3 : Hid (Below w.heap.size w b3.now) := HL.out.trans (b3.below.mono HL.out.size)
          have e0 := later_cell k0 b3
          have e1 := later_cell k1 b3
          have e2 := later_cell k2 b3
          have p1 := d0 b3
          have b1 := d1 b3
          obtain ⟨W9, hW9⟩ : ∃ W9, b3.now = W9 := ⟨_, rfl⟩
          rw [hW9] at HX3 HB3 HL3 e0 e1 e2 p1 b1 ⊢
          clear hW9 d0 d1 hne p0 p0' b2 k0 k1 k2
          have u0 := HB3.out.c0
          have u1 := HB3.out.c1
          have f0 := XBox.f (k := 0) HB3.out
          have f1 := XBox.f (k := 1) HB3.out
          have f2 := XBox.f (k := 2) HB3.out
          go_wp2
          go_region
          all_goals
            go_wp2
            go_roundw
            case rel =>
              refine ⟨k + 1, (y, l2), a2, c2, by omega, by go_num, ?_, HK.out, ?_, ?_, ?_⟩
              · exact TBox.sets HB3.out
              · rw [← HS.out, HD.out, subT, kidT_is (by omega) HU.out]
              · exact (sets_below HL3.out (Nat.le_refl _) _ _ _).drew
              · exact (sets_far (by omega) _ _ _).trans HX3.out
            case measure => simp [intOf]; omega
    · have e1 : ps.drop k = [] := List.drop_eq_nil_iff.2 (by omega)
      rw [e1, subT] at hS
      have HS' : Hid (subT ps t = some t1) := hS.symm
      have x0 := hB.c0; have x1 := hB.c1; have x2 := hB.c2
      clear hB hT1 hS hb hX HS
      go_wp2_with fail
      refine (rclone_any t1.1 t1.2 a1 c1 wr (HT1.out.below HL.out)).mono ?_
      rintro e w2 ⟨a2, c2, rfl, ho2, hb⟩
      have hX3 := HX.out.below hb
      have r0 := hX3.c0; have r1 := hX3.c1; have r2 := hX3.c2
      have f0 := hX3.f (k := 0); have f1 := hX3.f (k := 1); have f2 := hX3.f (k := 2)
      have HX3 : Hid (XBox w2 (w.heap.size + 1) (⟨#[]⟩, 0) (.slice none 0 0)) := hX3
      have HL3 : Hid (Below w.heap.size w w2) := HL.out.trans (hb.mono HL.out.size)
      have HO : Hid (RowTm wr.heap.size w2 t1.1 a2 c2 t1.2) := ho2
      have hxlt := HX.out.lt
      clear hX3 hb ho2 x0 x1 x2
      go_wp2
      refine ret_pair rfl rfl (HX3.out.all (x := t1.1) _) rfl ?_
      rw [HS'.out]
      exact ⟨a2, c2, rfl, ((HO.out.keep (fun q hq _ => sets_far (by omega) _ _ _)).own.mono (fun q _ hq => Nat.le_trans HL.out.size hq)), sets_below HL3.out (by omega) _ _ _⟩
theorem rat_any (ps : List Int) (t : Tn) (a : Option Addr) (c : Nat) (pa : Option Addr) (pn pc : Nat) (w : World) (hT : TmAt w t.1 a c t.2) (hP : IntsAt w pa pn ps) (hpn : pn ≤ 9223372036854775807) :
    Calls Tryz.prog 33 #[.agg #[.string t.1.1, .int .i64 t.1.2, .slice a (lenF t.2) c], .slice pa pn pc] w fun e w' => ∃ a' c', e = .returned (ansV (subT ps t) a' c') ∧ TmAt w' (ansT (subT ps t)).1 a' c' (ansT (subT ps t)).2 ∧ Below w.heap.size w w' :=
  (rat_own ps t a c pa pn pc w hT hP hpn).mono fun _ _ ⟨a', c', he, ho, hb⟩ => ⟨a', c', he, ho.tm, hb⟩
end Go.Proofs.YtokbgbbkopmngaaGreat
/- What the document's Put answers. -/
namespace Go.Proofs.YtokbgbbkopmngaaGreat
open Go.RowKit Go.Deep

def RPutOk (ps : List Int) : Prop := ∀ (t u : Tn) (a ua : Option Addr) (c uc : Nat) (pa : Option Addr) (pn pc : Nat) (w : World), TmAt w t.1 a c t.2 → TmAt w u.1 ua uc u.2 → IntsAt w pa pn ps → pn ≤ pc → pc ≤ 9223372036854775807 →
  Calls Tryz.prog 35 #[.agg #[.string t.1.1, .int .i64 t.1.2, .slice a (lenF t.2) c], .slice pa pn pc, .agg #[.string u.1.1, .int .i64 u.1.2, .slice ua (lenF u.2) uc]] w fun e w' => ∃ a' c', e = .returned (ansV (putT u ps t) a' c') ∧ OwnTm false (fun q => w.heap.size ≤ q) w' (ansT (putT u ps t)).1 a' c' (ansT (putT u ps t)).2 ∧ Below w.heap.size w w'

theorem put_cons_none {u : Tn} {n : Nat} {p : List Int} {t k : Tn} (hn : n < lenF t.2) (hk : (kidsL t.2)[n]? = some k) (h : putT u p k = none) : putT u ((n : Int) :: p) t = none := by
  rw [putT, kidT_is (m := k.2) (x := k.1) hn hk]; simp only [h]
theorem put_cons_some {u : Tn} {n : Nat} {p : List Int} {t k k' : Tn} (hn : n < lenF t.2) (hk : (kidsL t.2)[n]? = some k) (h : putT u p k = some k') : putT u ((n : Int) :: p) t = some (t.1, setF n t.2 k') := by
  rw [putT, kidT_is (m := k.2) (x := k.1) hn hk]; simp only [h, Int.toNat_natCast]

set_option maxRecDepth 100000 in
set_option maxHeartbeats 4000000 in
theorem rput_all : ∀ ps, RPutOk ps := by
  intro ps
  induction ps with
  | nil =>
    intro t u a ua c uc pa pn pc w hT hU hP hpc hpm
    obtain rfl := hP.len
    have I0 := PutIn.new w t u a ua c uc
    obtain ⟨W, hW⟩ : ∃ W, ((w.alloc (.cells #[.string t.1.1, .int .i64 t.1.2, .slice a (lenF t.2) c] 26)).alloc (.cells #[.string u.1.1, .int .i64 u.1.2, .slice ua (lenF u.2) uc] 26)).alloc (.cells #[.string ⟨#[]⟩, .int .i64 0, .slice none 0 0] 26) = W := ⟨_, rfl⟩
    rw [hW] at I0
    have HI : Hid (PutIn w t u a ua c uc W) := I0
    have HU : Hid (TmAt w u.1 ua uc u.2) := hU
    have x0 := I0.u.c0; have x1 := I0.u.c1; have x2 := I0.u.c2
    clear I0 hT hU hP
    go_enter Tryz.func35, Tryz.ntmps35
    go_wp2_with (rw [hW])
    clear hW
    refine (rclone_any u.1 u.2 ua uc W (HU.out.below HI.out.low)).mono ?_
    rintro e w1 ⟨a1, c1, rfl, hS1, hb⟩
    have HI1 : Hid (PutIn w t u a ua c uc w1) := HI.out.below hb
    have HS1 : Hid (RowTm W.heap.size w1 u.1 a1 c1 u.2) := hS1
    have hlt := HI.out.r.lt
    clear hb hS1 x0 x1 x2
    have r0 := HI1.out.r.c0; have r1 := HI1.out.r.c1; have r2 := HI1.out.r.c2
    have f0 := HI1.out.r.f (k := 0); have f1 := HI1.out.r.f (k := 1); have f2 := HI1.out.r.f (k := 2)
    go_wp2
    refine ret_pair rfl rfl (HI1.out.r.all (x := u.1) _) rfl ?_
    exact ⟨a1, c1, rfl, (HS1.out.keep (fun q hq _ => sets_far (by omega) _ _ _)).own.mono (fun q _ hq => by have := HI.out.low.size; omega), sets_below HI1.out.low (by omega) _ _ _⟩
  | cons i p ih =>
    intro t u a ua c uc pa pn pc w hT hU hP hpc hpm
    obtain rfl := hP.len
    have I0 := PutIn.new w t u a ua c uc
    obtain ⟨W, hW⟩ : ∃ W, ((w.alloc (.cells #[.string t.1.1, .int .i64 t.1.2, .slice a (lenF t.2) c] 26)).alloc (.cells #[.string u.1.1, .int .i64 u.1.2, .slice ua (lenF u.2) uc] 26)).alloc (.cells #[.string ⟨#[]⟩, .int .i64 0, .slice none 0 0] 26) = W := ⟨_, rfl⟩
    rw [hW] at I0
    have hWs : W.heap.size = w.heap.size + 1 + 1 + 1 := by rw [← hW, World.size_alloc, World.size_alloc, World.size_alloc]
    have HI : Hid (PutIn w t u a ua c uc W) := I0
    have HT : Hid (TmAt w t.1 a c t.2) := hT
    have HU : Hid (TmAt w u.1 ua uc u.2) := hU
    have HP : Hid (IntsAt w pa (i :: p).length (i :: p)) := hP
    have IH : Hid (RPutOk p) := ih
    obtain ⟨pb, po, rfl, p0'⟩ := hP.cells 0 (by simp)
    have p0 := below_cell I0.low _ _ p0'
    simp only [List.getElem_cons_zero, Nat.add_zero] at p0
    have hlen : (i :: p).length = p.length + 1 := rfl
    rw [hlen] at hpc HP ⊢
    have b2 := I0.t.c2
    have hnl : lenF t.2 ≤ 9223372036854775807 := by have := hT.sizes.len; have := hT.sizes.cap; unfold maxLen at *; omega
    have hne := later_some W
    have d0 := later_cell p0
    have d1 := later_cell b2
    have hj0 : (0 : Int) < (p.length : Int) + 1 := by omega
    have hlz : ((p.length : Int) + 1 == 0) = false := by simp; omega
    clear I0 hT hU hP ih p0'
    by_cases hbad : i < 0
    · have hd : decide (i < 0) = true := by simp; omega
      have HN : Hid (putT u (i :: p) t = none) := by
        show _ = _
        rw [putT, kidT_bad (by omega)]
      go_enter Tryz.func35, Tryz.ntmps35
      go_wp2_with (rw [hW])
      clear hW
      refine wp_region_later (by kernel_rfl) (by kernel_rfl) ?_
      repeat (go_big_quiet_step (fail))
      refine wpQuiet_nil ?_
      intro _ hw'
      obtain ⟨b3, hw''⟩ := hw'
      subst hw''
      have HI3 : Hid (PutIn w t u a ua c uc b3.now) := HI.out.below b3.below
      have r0 := HI3.out.r.c0; have r1 := HI3.out.r.c1; have r2 := HI3.out.r.c2
      have f0 := HI3.out.r.f (k := 0); have f1 := HI3.out.r.f (k := 1); have f2 := HI3.out.r.f (k := 2)
      clear d0 d1 hne p0 b2
      go_wp2
      refine ret_pair rfl rfl (HI3.out.r.all (x := (⟨#[]⟩, 0)) _) rfl ?_
      rw [HN.out]
      exact ⟨none, 0, rfl, (own_none _ _).own, sets_below HI3.out.low (by omega) _ _ _⟩
    · obtain ⟨n, rfl⟩ : ∃ n : Nat, i = n := ⟨i.toNat, by omega⟩
      have hd : decide ((n : Int) < 0) = false := by simp
      by_cases hge : lenF t.2 ≤ n
      · have hd2 : decide (lenF t.2 ≤ n) = true := by simp; omega
        have HN : Hid (putT u ((n : Int) :: p) t = none) := by
          show _ = _
          rw [putT, kidT_bad (by omega)]
        go_enter Tryz.func35, Tryz.ntmps35
        go_wp2_with (rw [hW])
        clear hW
        refine wp_region_later (by kernel_rfl) (by kernel_rfl) ?_
        repeat (go_big_quiet_step (fail))
        refine wpQuiet_nil ?_
        intro _ hw'
        obtain ⟨b3, hw''⟩ := hw'
        subst hw''
        have HI3 : Hid (PutIn w t u a ua c uc b3.now) := HI.out.below b3.below
        have r0 := HI3.out.r.c0; have r1 := HI3.out.r.c1; have r2 := HI3.out.r.c2
        have f0 := HI3.out.r.f (k := 0); have f1 := HI3.out.r.f (k := 1); have f2 := HI3.out.r.f (k := 2)
        clear d0 d1 hne p0 b2
        go_wp2
        refine ret_pair rfl rfl (HI3.out.r.all (x := (⟨#[]⟩, 0)) _) rfl ?_
        rw [HN.out]
        exact ⟨none, 0, rfl, (own_none _ _).own, sets_below HI3.out.low (by omega) _ _ _⟩
      · have hd2 : decide (lenF t.2 ≤ n) = false := by simp; omega
        obtain ⟨g, q, rfl, hkk⟩ := HT.out.args.get (by omega)
        obtain ⟨y, a2, c2, l2, kd⟩ := hkk.kid (k := n) (by omega)
        obtain ⟨B1, O1, sp⟩ := kd.split
        have HU1 : Hid ((kidsL t.2)[n]? = some (y, l2)) := kids_split sp
        have HKT : Hid (TmAt w y a2 c2 l2) := kd.at_
        have kd' := kd.below HI.out.low
        have k0 := kd'.name; have k1 := kd'.sym; have k2 := kd'.list
        have hn0 : (0 : Int) ≤ (n : Int) := by omega
        have hnn : (n : Int) < (lenF t.2 : Int) := by omega
        have HTail : Hid (∀ pa', (pc ≠ 1 → pa' = some ⟨pb, po + 1, none⟩) → IntsAt w pa' p.length p) := fun pa' h => by
          refine ⟨rfl, fun j hj => ⟨pb, po + 1, h (by omega), ?_⟩⟩
          obtain ⟨b, off, e, hc⟩ := HP.out.cells (j + 1) (by simp; omega)
          cases e
          rw [show po + 1 + j = po + (j + 1) by omega, hc]
          simp
        have x0 := HI.out.u.c0; have x1 := HI.out.u.c1; have x2 := HI.out.u.c2
        clear hkk kd sp kd'
        go_enter Tryz.func35, Tryz.ntmps35
        go_wp2_with (rw [hW])
        clear hW
        refine wp_region_later (by kernel_rfl) (by kernel_rfl) ?_
        repeat (go_big_quiet_step (fail))
        refine wpQuiet_nil ?_
        intro _ hw'
        obtain ⟨b3, hw''⟩ := hw'
        subst hw''
        have HI3 : Hid (PutIn w t u (some ⟨g, q, none⟩) ua c uc b3.now) := HI.out.below b3.below
        have e0 := later_cell k0 b3
        have e1 := later_cell k1 b3
        have e2 := later_cell k2 b3
        have p1 := d0 b3
        have b1 := d1 b3
        have y0 := later_cell x0 b3
        have y1 := later_cell x1 b3
        have y2 := later_cell x2 b3
        have hsz3 := b3.below.size
        obtain ⟨W9, hW9⟩ : ∃ W9, b3.now = W9 := ⟨_, rfl⟩
        rw [hW9] at HI3 e0 e1 e2 p1 b1 y0 y1 y2 hsz3 ⊢
        clear hW9 d0 d1 hne p0 b2 k0 k1 k2 x0 x1 x2 HI
        obtain ⟨r, hr⟩ : ∃ r, putT u p (y, l2) = r := ⟨_, rfl⟩
        have HR : Hid (putT u p (y, l2) = r) := hr
        have HIH : Hid (∀ W' pa' pc', Below w.heap.size w W' → IntsAt w pa' p.length p → p.length ≤ pc' → pc' ≤ 9223372036854775807 → Calls Tryz.prog 35 #[.agg #[.string y.1, .int .i64 y.2, .slice a2 (lenF l2) c2], .slice pa' p.length pc', .agg #[.string u.1.1, .int .i64 u.1.2, .slice ua (lenF u.2) uc]] W' fun e w' => ∃ a' c', e = .returned (.tuple #[.agg #[.string (ansT r).1.1, .int .i64 (ansT r).1.2, .slice a' (lenF (ansT r).2) c'], .int .i64 (ansE r)]) ∧ OwnTm false (fun q => W'.heap.size ≤ q) w' (ansT r).1 a' c' (ansT r).2 ∧ Below W'.heap.size W' w') := fun W' pa' pc' hbl h1 h2 h3 => by
          have := IH.out (y, l2) u a2 ua c2 uc pa' p.length pc' W' (HKT.out.below hbl) (HU.out.below hbl) (h1.below hbl) h2 h3
          rw [hr] at this
          exact this
        obtain ⟨xr, hxr⟩ : ∃ xr, ansT r = xr := ⟨_, rfl⟩
        obtain ⟨er, her⟩ : ∃ er, ansE r = er := ⟨_, rfl⟩
        rw [hxr, her] at HIH
        have HXR : Hid (ansT r = xr) := hxr
        have HER : Hid (ansE r = er) := her
        have hpo : Hid (Below w.heap.size w W9) := HI3.out.low
        clear hr hxr her
        go_upto_region 5 with fail
        go_cut [8, 9] (fun v8 v9 wc => ∃ B8 a' c', v8 = .pointer (some ⟨B8, 0, none⟩) ∧ v9 = .int .i64 er ∧ TBox wc B8 xr.1 a' (lenF xr.2) c' ∧ OwnTm false (fun q => W9.heap.size ≤ q) wc xr.1 a' c' xr.2 ∧ Below W9.heap.size W9 wc)
        case first =>
          by_cases hpc1 : pc = 1
          · subst hpc1
            have hs1 : (1 : Int) ≤ (p.length : Int) + 1 := by omega
            have hs2 : (p.length : Int) + 1 ≤ (1 : Int) := by omega
            have HIH0 : Hid (∀ W', Below w.heap.size w W' → Calls Tryz.prog 35 #[.agg #[.string y.1, .int .i64 y.2, .slice a2 (lenF l2) c2], .slice (some ⟨pb, po, none⟩) 0 0, .agg #[.string u.1.1, .int .i64 u.1.2, .slice ua (lenF u.2) uc]] W' fun e w' => ∃ a' c', e = .returned (.tuple #[.agg #[.string xr.1.1, .int .i64 xr.1.2, .slice a' (lenF xr.2) c'], .int .i64 er]) ∧ OwnTm false (fun q => W'.heap.size ≤ q) w' xr.1 a' c' xr.2 ∧ Below W'.heap.size W' w') := fun W' hb => by
              have hp0 : p.length = 0 := by omega
              have := HIH.out W' (some ⟨pb, po, none⟩) 0 hb (HTail.out _ (fun h => absurd rfl h)) (by omega) (by omega)
              rw [hp0] at this
              exact this
            go_region_held3 (fun w' => w'.cell? ⟨w.heap.size, 2, none⟩ = some (.slice (some ⟨g, q, none⟩) (lenF t.2) c) ∧ w'.cell? ⟨pb, po, none⟩ = some (.int .i64 n) ∧ w'.cell? ⟨g, q + n * 3, none⟩ = some (.string y.1) ∧ w'.cell? ⟨g, q + n * 3 + 1, none⟩ = some (.int .i64 y.2) ∧ w'.cell? ⟨g, q + n * 3 + 2, none⟩ = some (.slice a2 (lenF l2) c2) ∧ w'.cell? ⟨w.heap.size + 1, 0, none⟩ = some (.string u.1.1) ∧ w'.cell? ⟨w.heap.size + 1, 1, none⟩ = some (.int .i64 u.1.2) ∧ w'.cell? ⟨w.heap.size + 1, 2, none⟩ = some (.slice ua (lenF u.2) uc)) ((first | (go_split_ands; refine ⟨?_, ?_, ?_, ?_, ?_, ?_, ?_, ?_⟩ <;> (refine below_cell HB2.out _ _ ?_; assumption)) | (go_split_ands; refine ⟨?_, ?_, ?_, ?_, ?_, ?_, ?_, ?_⟩ <;> (refine below_cell (HB2.out.alloc HB2.out.size _) _ _ ?_; assumption)) | (go_split_ands; refine ⟨?_, ?_, ?_, ?_, ?_, ?_, ?_, ?_⟩ <;> (refine below_cell (sets_below HB2.out (Nat.le_refl _) _ _ _) _ _ ?_; assumption)) | (go_split_ands; refine ⟨?_, ?_, ?_, ?_, ?_, ?_, ?_, ?_⟩ <;> (refine below_cell ((Below.refl _ W9).alloc (Nat.le_refl _) _) _ _ ?_; assumption)) | go_keep | fail)) ((first | (go_at_call 35; refine (HIH0.out (World.drew W9) hpo.out.drew).mono ?_; rintro e w2 ⟨a', c', rfl, hT2, hb2⟩; have HT2 : Hid (OwnTm false (fun q => W9.heap.size ≤ q) w2 xr.1 a' c' xr.2) := hT2; have HB2 : Hid (Below W9.heap.size W9 w2) := ((Below.refl _ W9).drew).trans hb2; clear hT2 hb2) | (go_at_call 35; refine (HIH0.out (World.drew (World.alloc W9 (.cells #[.string ⟨#[]⟩, .int .i64 0, .slice none 0 0] 26))) (hpo.out.alloc hpo.out.size _).drew).mono ?_; rintro e w2 ⟨a', c', rfl, hT2, hb2⟩; have HT2 : Hid (OwnTm false (fun q => W9.heap.size < q) w2 xr.1 a' c' xr.2) := hT2.mono (fun q _ hq => by rw [show (World.drew (World.alloc W9 (.cells #[.string ⟨#[]⟩, .int .i64 0, .slice none 0 0] 26))).heap.size = W9.heap.size + 1 from World.size_alloc _ _] at hq; omega); have HB2 : Hid (Below W9.heap.size W9 w2) := (((Below.refl _ W9).alloc (Nat.le_refl _) _).drew).trans (hb2.mono (by show _ ≤ (W9.alloc _).heap.size; rw [World.size_alloc]; omega)); have HX2 : Hid (XBox w2 W9.heap.size (⟨#[]⟩, 0) (.slice none 0 0)) := XBox.below (W := World.drew (World.alloc W9 (.cells #[.string ⟨#[]⟩, .int .i64 0, .slice none 0 0] 26))) (heap_alloc_new W9 _) hb2; have z0 := HX2.out.c0; have z1 := HX2.out.c1; have z2 := HX2.out.c2; have zf0 := HX2.out.f (k := 0); have zf1 := HX2.out.f (k := 1); have zf2 := HX2.out.f (k := 2); clear hT2 hb2) | fail))
            all_goals (go_wp2_with fail; go_meet)
            all_goals first
              | exact ⟨w2.heap.size, a', c', rfl, rfl, TBox.new _ _ _ _ _, HT2.out.below ((Below.refl _ _).alloc (Nat.le_refl _) _), HB2.out.alloc HB2.out.size _⟩
              | exact ⟨W9.heap.size, a', c', rfl, rfl, HX2.out.all (x := xr.1) _, (HT2.out.keep (fun q hq _ => sets_far (by omega) _ _ _)).mono (fun q _ hq => by omega), sets_below HB2.out (Nat.le_refl _) _ _ _⟩
          · have hs1 : (1 : Int) ≤ (p.length : Int) + 1 := by omega
            have hs2 : (p.length : Int) + 1 ≤ (pc : Int) := by omega
            have hs3 : (1 : Int) ≤ (pc : Int) := by omega
            go_region_held3 (fun w' => w'.cell? ⟨w.heap.size, 2, none⟩ = some (.slice (some ⟨g, q, none⟩) (lenF t.2) c) ∧ w'.cell? ⟨pb, po, none⟩ = some (.int .i64 n) ∧ w'.cell? ⟨g, q + n * 3, none⟩ = some (.string y.1) ∧ w'.cell? ⟨g, q + n * 3 + 1, none⟩ = some (.int .i64 y.2) ∧ w'.cell? ⟨g, q + n * 3 + 2, none⟩ = some (.slice a2 (lenF l2) c2) ∧ w'.cell? ⟨w.heap.size + 1, 0, none⟩ = some (.string u.1.1) ∧ w'.cell? ⟨w.heap.size + 1, 1, none⟩ = some (.int .i64 u.1.2) ∧ w'.cell? ⟨w.heap.size + 1, 2, none⟩ = some (.slice ua (lenF u.2) uc)) ((first | (go_split_ands; refine ⟨?_, ?_, ?_, ?_, ?_, ?_, ?_, ?_⟩ <;> (refine below_cell HB2.out _ _ ?_; assumption)) | (go_split_ands; refine ⟨?_, ?_, ?_, ?_, ?_, ?_, ?_, ?_⟩ <;> (refine below_cell (HB2.out.alloc HB2.out.size _) _ _ ?_; assumption)) | (go_split_ands; refine ⟨?_, ?_, ?_, ?_, ?_, ?_, ?_, ?_⟩ <;> (refine below_cell (sets_below HB2.out (Nat.le_refl _) _ _ _) _ _ ?_; assumption)) | (go_split_ands; refine ⟨?_, ?_, ?_, ?_, ?_, ?_, ?_, ?_⟩ <;> (refine below_cell ((Below.refl _ W9).alloc (Nat.le_refl _) _) _ _ ?_; assumption)) | go_keep | fail)) ((first | (go_at_call 35; refine (HIH.out (World.drew W9) _ _ hpo.out.drew (HTail.out _ (fun _ => rfl)) (by omega) (by omega)).mono ?_; rintro e w2 ⟨a', c', rfl, hT2, hb2⟩; have HT2 : Hid (OwnTm false (fun q => W9.heap.size ≤ q) w2 xr.1 a' c' xr.2) := hT2; have HB2 : Hid (Below W9.heap.size W9 w2) := ((Below.refl _ W9).drew).trans hb2; clear hT2 hb2) | (go_at_call 35; refine (HIH.out (World.drew (World.alloc W9 (.cells #[.string ⟨#[]⟩, .int .i64 0, .slice none 0 0] 26))) _ _ (hpo.out.alloc hpo.out.size _).drew (HTail.out _ (fun _ => rfl)) (by omega) (by omega)).mono ?_; rintro e w2 ⟨a', c', rfl, hT2, hb2⟩; have HT2 : Hid (OwnTm false (fun q => W9.heap.size < q) w2 xr.1 a' c' xr.2) := hT2.mono (fun q _ hq => by rw [show (World.drew (World.alloc W9 (.cells #[.string ⟨#[]⟩, .int .i64 0, .slice none 0 0] 26))).heap.size = W9.heap.size + 1 from World.size_alloc _ _] at hq; omega); have HB2 : Hid (Below W9.heap.size W9 w2) := (((Below.refl _ W9).alloc (Nat.le_refl _) _).drew).trans (hb2.mono (by show _ ≤ (W9.alloc _).heap.size; rw [World.size_alloc]; omega)); have HX2 : Hid (XBox w2 W9.heap.size (⟨#[]⟩, 0) (.slice none 0 0)) := XBox.below (W := World.drew (World.alloc W9 (.cells #[.string ⟨#[]⟩, .int .i64 0, .slice none 0 0] 26))) (heap_alloc_new W9 _) hb2; have z0 := HX2.out.c0; have z1 := HX2.out.c1; have z2 := HX2.out.c2; have zf0 := HX2.out.f (k := 0); have zf1 := HX2.out.f (k := 1); have zf2 := HX2.out.f (k := 2); clear hT2 hb2) | fail))
            all_goals (go_wp2_with fail; go_meet)
            all_goals first
              | exact ⟨w2.heap.size, a', c', rfl, rfl, TBox.new _ _ _ _ _, HT2.out.below ((Below.refl _ _).alloc (Nat.le_refl _) _), HB2.out.alloc HB2.out.size _⟩
              | exact ⟨W9.heap.size, a', c', rfl, rfl, HX2.out.all (x := xr.1) _, (HT2.out.keep (fun q hq _ => sets_far (by omega) _ _ _)).mono (fun q _ hq => by omega), sets_below HB2.out (Nat.le_refl _) _ _ _⟩
        case rest =>
          obtain ⟨B8, a8, c8, rfl, rfl, hB8, hT8, hb8⟩ := hcut
          have HB8 : Hid (TBox wc B8 xr.1 a8 (lenF xr.2) c8) := hB8
          have HT8 : Hid (OwnTm false (fun q => W9.heap.size ≤ q) wc xr.1 a8 c8 xr.2) := hT8
          have HI8 : Hid (PutIn w t u (some ⟨g, q, none⟩) ua c uc wc) := HI3.out.below hb8
          have hsz8 := hb8.size
          clear hB8 hT8 hb8 e0 e1 e2 p1 b1 y0 y1 y2 HIH
          cases r with
          | none =>
            obtain rfl : er = 35 := HER.out.symm
            have HN : Hid (putT u ((n : Int) :: p) t = none) := put_cons_none (by omega) HU1.out HR.out
            have r0 := HI8.out.r.c0; have r1 := HI8.out.r.c1; have r2 := HI8.out.r.c2
            have f0 := HI8.out.r.f (k := 0); have f1 := HI8.out.r.f (k := 1); have f2 := HI8.out.r.f (k := 2)
            go_wp2
            refine ret_pair rfl rfl (HI8.out.r.all (x := (⟨#[]⟩, 0)) _) rfl ?_
            rw [HN.out]
            exact ⟨none, 0, rfl, (own_none _ _).own, sets_below HI8.out.low (by omega) _ _ _⟩
          | some k' =>
            obtain rfl : er = 0 := HER.out.symm
            obtain rfl : xr = k' := HXR.out.symm
            have HN : Hid (putT u ((n : Int) :: p) t = some (t.1, setF n t.2 xr)) := put_cons_some (by omega) HU1.out HR.out
            have x0 := HI8.out.t.c0; have x1 := HI8.out.t.c1; have x2 := HI8.out.t.c2
            go_wp2_with fail
            refine (rclone_any t.1 t.2 (some ⟨g, q, none⟩) c wc (HT.out.below HI8.out.low)).mono ?_
            rintro e w4 ⟨a4, c4, rfl, hR4, hb4⟩
            rcases hR4.list with hnil | ⟨g4, cur, rfl, hg4, hcur, hkids⟩
            · rw [hnil] at hge; simp [lenF] at hge
            · obtain ⟨W4, hW4⟩ : ∃ W4, w4.alloc (.cells #[.string t.1.1, .int .i64 t.1.2, .slice (some ⟨g4, 0, none⟩) (lenF t.2) c4] 26) = W4 := ⟨_, rfl⟩
              have hbW : Below w4.heap.size w4 W4 := by rw [← hW4]; exact (Below.refl _ _).alloc (Nat.le_refl _) _
              have hbC : Below wc.heap.size wc W4 := hb4.trans (hbW.mono hb4.size)
              have hg4lt : g4 < w4.heap.size := (Array.getElem?_eq_some_iff.1 hcur).1
              have hcur4 : W4.heap[g4]? = some (Obj.cells cur 26 (0, 0)) := (hbW.block g4 hg4lt).trans hcur
              have hkids4 : OwnKids false (fun q => wc.heap.size ≤ q ∧ q ≠ g4) W4 t.2 g4 0 := hkids.keep (fun k _ hlt => hbW.block k hlt) (hbW.block g4 hg4lt)
              have HB10 : Hid (TBox W4 w4.heap.size t.1 (some ⟨g4, 0, none⟩) (lenF t.2) c4) := by show TBox _ _ _ _ _ _; rw [← hW4]; exact TBox.new _ _ _ _ _
              have HI4 : Hid (PutIn w t u (some ⟨g, q, none⟩) ua c uc W4) := HI8.out.below hbC
              have HB84 : Hid (TBox W4 B8 xr.1 a8 (lenF xr.2) c8) := HB8.out.below hbC
              have hP0 : w.cell? ⟨pb, po, none⟩ = some (.int .i64 n) := by
                obtain ⟨b, off, e, hc⟩ := HP.out.cells 0 (by simp)
                cases e
                exact hc
              have p4 := below_cell HI4.out.low _ _ hP0
              obtain ⟨y4, a5, c5, l5, kd⟩ := hkids4.kids.kid (k := n) (by omega)
              have k0 := kd.name; have k1 := kd.sym; have k2 := kd.list
              rw [Nat.zero_add] at k0 k1 k2
              have hcz := cell_size hcur4 k2
              have f0 := row_frozen (i := n * 3) hcur4
              have f1 := row_frozen (i := n * 3 + 1) hcur4
              have f2 := row_frozen (i := n * 3 + 2) hcur4
              have v0 := HB84.out.c0; have v1 := HB84.out.c1; have v2 := HB84.out.c2
              have s2 := HB10.out.c2
              have hg40 : w.heap.size + 1 + 1 + 1 ≤ g4 := by omega
              have hwc := hb4.size
              obtain ⟨W5, hW5⟩ : ∃ W5, ((W4.setCell ⟨g4, n * 3, none⟩ (.string xr.1.1)).setCell ⟨g4, n * 3 + 1, none⟩ (.int .i64 xr.1.2)).setCell ⟨g4, n * 3 + 2, none⟩ (.slice a8 (lenF xr.2) c8) = W5 := ⟨_, rfl⟩
              have hlow5 : Below w.heap.size w W5 := by rw [← hW5]; exact sets_low HI4.out.low (by omega) _ _ _
              have hlowC : Below wc.heap.size wc W5 := by rw [← hW5]; exact sets_low hbC hg4 _ _ _
              have hr5 : XBox W5 (w.heap.size + 1 + 1) (⟨#[]⟩, 0) (.slice none 0 0) := by rw [← hW5]; exact (sets_elsewhere (by omega)).trans HI4.out.r
              have hB5 : TBox W5 w4.heap.size t.1 (some ⟨g4, 0, none⟩) (lenF t.2) c4 := by rw [← hW5]; exact (sets_elsewhere (by omega)).trans HB10.out
              obtain ⟨cur5, hcur5⟩ : ∃ cur5, W5.heap[g4]? = some (Obj.cells cur5 26 (0, 0)) := ⟨_, by rw [← hW5]; exact block_set (block_set (block_set hcur4 _) _) _⟩
              obtain ⟨z0, z1, z2⟩ := sets_cells (a := .string xr.1.1) (b := .int .i64 xr.1.2) (c := .slice a8 (lenF xr.2) c8) hcur4 (n := n * 3) (by omega)
              have hrep : OwnKids false (fun q => w.heap.size + 1 + 1 + 1 ≤ q) W5 (setF n t.2 xr) g4 0 := by
                have hw0 := HI8.out.low.size
                refine OwnKids.replace (W := W4) (W' := W5) (a' := a8) (c' := c8) (P := fun q => wc.heap.size ≤ q ∧ q ≠ g4) (fun k hk => by omega) (fun k hk _ => by rw [← hW5]; exact sets_elsewhere hk.2) ((HT8.out.below hlowC).mono (fun q _ hq => by have := HI3.out.low.size; omega)) n hkids4 (by omega) (fun j v _ hj hv => by rw [← hW5]; exact sets_outside (by omega) hv) ?_
                rw [Nat.zero_add, ← hW5]
                exact ⟨z0, z1, z2⟩
              have HO5 : Hid (OwnTm false (fun q => w.heap.size + 1 + 1 + 1 ≤ q) W5 t.1 (some ⟨g4, 0, none⟩) c4 (setF n t.2 xr)) := ⟨by rw [len_set]; exact hR4.sizes, .inr ⟨g4, _, rfl, by omega, hcur5, (fun e => by cases e), hrep⟩⟩
              have HR5 : Hid (XBox W5 (w.heap.size + 1 + 1) (⟨#[]⟩, 0) (.slice none 0 0)) := hr5
              have HB5 : Hid (TBox W5 w4.heap.size t.1 (some ⟨g4, 0, none⟩) (lenF t.2) c4) := hB5
              have HL5 : Hid (Below w.heap.size w W5) := hlow5
              have HW5 : Hid (((W4.setCell ⟨g4, n * 3, none⟩ (.string xr.1.1)).setCell ⟨g4, n * 3 + 1, none⟩ (.int .i64 xr.1.2)).setCell ⟨g4, n * 3 + 2, none⟩ (.slice a8 (lenF xr.2) c8) = W5) := hW5
              clear hkids4 hkids hcur hcur4 hR4 hb4 hbW hbC hlow5 hlowC hr5 hB5 hcur5 z0 z1 z2 hrep hW5 kd hP0 x0 x1 x2
              go_wp2_with (rw [hW4])
              clear hW4
              go_region
              all_goals
                have y0 : W5.drew.cell? ⟨w4.heap.size, 0, none⟩ = _ := HB5.out.c0
                have y1 : W5.drew.cell? ⟨w4.heap.size, 1, none⟩ = _ := HB5.out.c1
                have y2 : W5.drew.cell? ⟨w4.heap.size, 2, none⟩ = _ := HB5.out.c2
                have r0 : W5.drew.cell? ⟨w.heap.size + 1 + 1, 0, none⟩ = _ := HR5.out.c0
                have r1 : W5.drew.cell? ⟨w.heap.size + 1 + 1, 1, none⟩ = _ := HR5.out.c1
                have r2 : W5.drew.cell? ⟨w.heap.size + 1 + 1, 2, none⟩ = _ := HR5.out.c2
                have g0 : W5.drew.frozen? ⟨w.heap.size + 1 + 1, 0, none⟩ = _ := HR5.out.f (k := 0)
                have g1 : W5.drew.frozen? ⟨w.heap.size + 1 + 1, 1, none⟩ = _ := HR5.out.f (k := 1)
                have g2 : W5.drew.frozen? ⟨w.heap.size + 1 + 1, 2, none⟩ = _ := HR5.out.f (k := 2)
                rw [HW5.out]
                obtain ⟨W6, hW6⟩ : ∃ W6, W5.drew = W6 := ⟨_, rfl⟩
                have HO6 : Hid (OwnTm false (fun q => w.heap.size + 1 + 1 + 1 ≤ q) W6 t.1 (some ⟨g4, 0, none⟩) c4 (setF n t.2 xr)) := by show OwnTm _ _ _ _ _ _ _; rw [← hW6]; exact HO5.out.below ((Below.refl _ _).drew)
                have HR6 : Hid (XBox W6 (w.heap.size + 1 + 1) (⟨#[]⟩, 0) (.slice none 0 0)) := by show XBox _ _ _ _; rw [← hW6]; exact HR5.out
                have HL6 : Hid (Below w.heap.size w W6) := by show Below _ _ _; rw [← hW6]; exact HL5.out.drew
                rw [hW6] at y0 y1 y2 r0 r1 r2 g0 g1 g2 ⊢
                clear hW6
                go_wp2
                refine ret_pair rfl rfl (HR6.out.all (x := t.1) _) rfl ?_
                rw [HN.out]
                refine ⟨some ⟨g4, 0, none⟩, c4, (by rw [show ansV (some (t.1, setF n t.2 xr)) (some ⟨g4, 0, none⟩) c4 = .tuple #[.agg #[.string t.1.1, .int .i64 t.1.2, .slice (some ⟨g4, 0, none⟩) (lenF t.2) c4], .int .i64 0] by simp only [ansV, ansT, ansE, Option.getD_some, len_set]]; rfl), ?_, sets_below HL6.out (by omega) _ _ _⟩
                exact (HO6.out.keep (fun q hq _ => sets_far (by omega) _ _ _)).mono (fun q _ hq => by omega)
end Go.Proofs.YtokbgbbkopmngaaGreat
/- The document's node and Do. -/
namespace Go.Proofs.YtokbgbbkopmngaaGreat
open Go.RowKit Go.Deep

theorem dnode_any (S : Option Addr) (n cap : Nat) (L : List Sym) (t : Tn) (a : Option Addr) (c : Nat) (p : Sp) (pa : Option Addr) (pn pc : Nat) (w : World)
    (hS : SigAt w S n L) (hT : TmAt w t.1 a c t.2) (hn : nodesF t.2 ≤ 1048576) (hG : gathN (sgOf L) t = true → 2 ≤ lenF t.2) :
    Calls Tryz.prog 34 #[.slice S n cap, .agg #[.string t.1.1, .int .i64 t.1.2, .slice a (lenF t.2) c], stepV p pa pn pc] w (NodeEnd w (stepN (sgOf L) t p)) := by
  by_cases h1 : p.kind = 1
  · exact dnode_flat S n cap L t a c p pa pn pc w hS hT hn hG h1
  by_cases h2 : p.kind = 2
  · exact dnode_group S n cap L t a c p pa pn pc w hS hT hn hG h2
  by_cases h3 : p.kind = 3
  · exact dnode_swap S n cap L t a c p pa pn pc w hS hT hn hG h3
  by_cases h4 : p.kind = 4
  · exact dnode_drop S n cap L t a c p pa pn pc w hS hT hn hG h4
  by_cases h5 : p.kind = 5
  · exact dnode_grow S n cap L t a c p pa pn pc w hS hT hn hG unit_joins h5
  exact dnode_other S n cap L t a c p pa pn pc w hS hT hn hG ⟨h1, h2, h3, h4, h5⟩
theorem right_gath {L : List Sym} {t x : Tn} {ps : List Int} (h : rightB L t = true) (hs : subT ps t = some x) : gathN (sgOf L) x = true → 2 ≤ lenF x.2 := fun hg => (node_two (sub_right ps (right_facts h).2 hs) hg).1
theorem sub_few : ∀ (ps : List Int) (t x : Tn), subT ps t = some x → nodesF x.2 ≤ nodesF t.2
  | [], t, x, h => by simp only [subT, Option.some.injEq] at h; subst h; exact Nat.le_refl _
  | i :: ps, t, x, h => by
    simp only [subT] at h
    cases hk : kidT i t.2 with
    | none => rw [hk] at h; cases h
    | some k =>
      rw [hk] at h
      have h1 := sub_few ps k x h
      have h2 := nodes_get (kidT_get hk).2
      omega
/-- What the document's Do answers. -/
def RDoEnd (w : World) (r : Option (Tn × Sp)) (e : Ending) (w' : World) : Prop := ∃ a c, e = .returned (.tuple #[.agg (tmC (ansN r) a c), .int .i64 (ansC r)]) ∧ OwnTm false (fun q => w.heap.size ≤ q) w' (ansN r).1 a c (ansN r).2 ∧ Below w.heap.size w w'
theorem zero_own {N : Nat} {w : World} : OwnTm false (fun q => N ≤ q) w (⟨#[]⟩, 0) none 0 .nil := ⟨⟨by show (0 : Nat) ≤ _; exact Nat.zero_le _, Nat.le_refl _, Nat.zero_le _, Nat.zero_le _⟩, .inl ⟨rfl, rfl⟩⟩
set_option maxRecDepth 100000 in
set_option maxHeartbeats 4000000 in
theorem rdo_any (S : Option Addr) (n cap : Nat) (L : List Sym) (t : Tn) (a : Option Addr) (c : Nat) (p : Sp) (ps : List Int) (pa : Option Addr) (pn pc : Nat) (w : World)
    (hS : SigAt w S n L) (hT : TmAt w t.1 a c t.2) (hn : nodesF t.2 ≤ 1048576) (hr : rightB L t = true) (hI : IntsAt w pa pn ps) (hpn : pn ≤ 1048576) (hpc : pn ≤ pc) (hpm : pc ≤ maxLen) :
    Calls Tryz.prog 22 #[.slice S n cap, .agg #[.string t.1.1, .int .i64 t.1.2, .slice a (lenF t.2) c], stepV p pa pn pc] w (RDoEnd w (stepT (sgOf L) t ps p)) := by
  obtain ⟨kd, at_, many, sym⟩ := p
  obtain ⟨W0, hW0⟩ : ∃ W0, ((w.alloc (.cells #[.string t.1.1, .int .i64 t.1.2, .slice a (lenF t.2) c] 26)).alloc (.cells #[.int .i64 kd, .slice pa pn pc, .int .i64 at_, .int .i64 many, .int .i64 sym] 47)).alloc (.cells #[.string ⟨#[]⟩, .int .i64 0, .slice none 0 0] 26) = W0 := ⟨_, rfl⟩
  have hb0 : Below w.heap.size w W0 := by rw [← hW0]; exact ((alloc_below0 w _).alloc (by simp) _).alloc (by simp; omega) _
  have B0 : Box W0 w.heap.size 26 (tmC t a c) := by rw [← hW0]; exact ((Box.new w 26 _).over _).over _
  have B1 : Box W0 (w.heap.size + 1) 47 (stepC ⟨kd, at_, many, sym⟩ pa pn pc) := by rw [← hW0]; exact (box_new (by rw [World.size_alloc]) 47 _).over _
  have B2 : Box W0 (w.heap.size + 2) 26 (tmC ((⟨#[]⟩, 0), .nil) none 0) := by rw [← hW0]; exact box_new (by rw [World.size_alloc, World.size_alloc]) 26 _
  have hsz : W0.heap.size = w.heap.size + 3 := by rw [← hW0]; simp
  have hst0 : NSt0 w t a c ⟨kd, at_, many, sym⟩ pa pn pc W0 := ⟨hb0, B0, B1, B2, by omega⟩
  have HAt := hid (rat_any ps t a c pa pn pc W0 (hT.below hb0) (hI.below hb0) (by omega))
  have d0 := B0.v (k := 0) rfl; have d1 := B0.v (k := 1) rfl; have d2 := B0.v (k := 2) rfl; have x1 := B1.v (k := 1) rfl
  have HST0 := hid hst0; have HS := hid hS; have HT := hid hT; have HN := hid hn; have HR := hid hr; have HI := hid hI; have HPC := hid hpc; have HPM := hid hpm
  clear hb0 B0 B1 B2 hsz hst0 hS hT hn hr hI hpc hpm
  go_enter Tryz.func22, Tryz.ntmps22
  go_wp2_with fail
  clear hW0
  refine HAt.out.mono ?_
  rintro e w3 ⟨a', c', he, hT3, hb3⟩
  unfold ansV at he
  obtain ⟨X, hX⟩ : ∃ X, ansT (subT ps t) = X := ⟨_, rfl⟩
  obtain ⟨E, hE⟩ : ∃ E, ansE (subT ps t) = E := ⟨_, rfl⟩
  rw [hX, hE] at he
  rw [hX] at hT3
  subst he
  obtain ⟨V, hV⟩ : ∃ V, w3.alloc (.cells #[.string X.1.1, .int .i64 X.1.2, .slice a' (lenF X.2) c'] 26) = V := ⟨_, rfl⟩
  have hbV3 : Below w3.heap.size w3 V := by rw [← hV]; exact alloc_below0 _ _
  have hBX : Box V w3.heap.size 26 (tmC X a' c') := by rw [← hV]; exact Box.new _ _ _
  have hst := (HST0.out.below hb3).below hbV3
  have HST := hid hst; have HTX := hid (hT3.below hbV3); have HXX := hid hX; have HEE := hid hE
  have z0 := hst.r.v (k := 0) rfl; have z1 := hst.r.v (k := 1) rfl; have z2 := hst.r.v (k := 2) rfl
  have f0 := hst.r.f 0; have f1 := hst.r.f 1; have f2 := hst.r.f 2
  have s0 := hst.x.v (k := 0) rfl; have s1 := hst.x.v (k := 1) rfl; have s2 := hst.x.v (k := 2) rfl; have s3 := hst.x.v (k := 3) rfl; have s4 := hst.x.v (k := 4) rfl
  have b0 := hBX.v (k := 0) rfl; have b1 := hBX.v (k := 1) rfl; have b2 := hBX.v (k := 2) rfl
  clear hT3 hb3 hX hE hbV3 hBX hst d0 d1 d2 x1 HST0 HAt
  cases hsub : subT ps t with
  | none =>
    have hE0 : E = 35 := by rw [← HEE.out, hsub]; rfl
    subst hE0
    have HNO : Hid (stepT (sgOf L) t ps ⟨kd, at_, many, sym⟩ = none) := stepT_none hsub
    clear hsub
    go_wp2_with fail
    refine ret_term rfl rfl (sets3_box HST.out.r _ _ _) rfl rfl ?_
    rw [HNO.out]
    exact ⟨none, 0, rfl, zero_own, HST.out.low.trans ((sets3_fr (B := w.heap.size + 2) _ _ _).below (fun k hk => by omega) HST.out.low.size)⟩
  | some x =>
    have hE0 : E = 0 := by rw [← HEE.out, hsub]; rfl
    have hX0 : X = x := by rw [← HXX.out, hsub]; rfl
    subst hE0 hX0
    have HSUB := hid hsub
    have HND := hid (dnode_any S n cap L X a' c' ⟨kd, at_, many, sym⟩ pa pn pc V (HS.out.below HST.out.low) HTX.out (Nat.le_trans (sub_few _ _ _ hsub) HN.out) (right_gath HR.out hsub))
    obtain ⟨r, hr⟩ : ∃ r, stepN (sgOf L) X ⟨kd, at_, many, sym⟩ = r := ⟨_, rfl⟩
    rw [hr] at HND
    have HRR := hid hr
    clear hsub hr z0 z1 z2 f0 f1 f2
    go_wp2_with fail
    refine HND.out.mono ?_
    rintro e w4 ⟨y, ya, yc, rfl, hy, hb4⟩
    obtain ⟨V4, hV4⟩ : ∃ V4, w4.alloc (.cells #[.string y.1.1, .int .i64 y.1.2, .slice ya (lenF y.2) yc] 26) = V4 := ⟨_, rfl⟩
    have hb44 : Below w4.heap.size w4 V4 := by rw [← hV4]; exact alloc_below0 _ _
    have hBY : Box V4 w4.heap.size 26 (tmC y ya yc) := by rw [← hV4]; exact Box.new _ _ _
    have hst4 := (HST.out.below hb4).below hb44
    have HST4 := hid hst4; have HY := hid hy; have HB44 := hid hb44
    have z0 := hst4.r.v (k := 0) rfl; have z1 := hst4.r.v (k := 1) rfl; have z2 := hst4.r.v (k := 2) rfl
    have f0 := hst4.r.f 0; have f1 := hst4.r.f 1; have f2 := hst4.r.f 2
    have n0 := hst4.n.v (k := 0) rfl; have n1 := hst4.n.v (k := 1) rfl; have n2 := hst4.n.v (k := 2) rfl
    have v1 := hst4.x.v (k := 1) rfl
    have y0 := hBY.v (k := 0) rfl; have y1 := hBY.v (k := 1) rfl; have y2 := hBY.v (k := 2) rfl
    clear hb44 hBY hst4 hb4 s0 s1 s2 s3 s4 b0 b1 b2 HST hy
    cases hrr : r with
    | none =>
      have HNO : Hid (stepT (sgOf L) t ps ⟨kd, at_, many, sym⟩ = none) := by show _ = _; unfold stepT; rw [HSUB.out]; simp only; rw [HRR.out, hrr]
      clear hrr
      go_wp2_with fail
      refine ret_term rfl rfl (sets3_box HST4.out.r _ _ _) rfl rfl ?_
      rw [HNO.out]
      exact ⟨none, 0, rfl, zero_own, HST4.out.low.trans ((sets3_fr (B := w.heap.size + 2) _ _ _).below (fun k hk => by omega) HST4.out.low.size)⟩
    | some s =>
      obtain ⟨hy1, hyO⟩ := HY.out s hrr
      obtain ⟨yy, hyy⟩ := put_some s.1 ps t X HSUB.out
      have HYS : Hid (stepT (sgOf L) t ps ⟨kd, at_, many, sym⟩ = some (yy, s.2)) := by show _ = _; unfold stepT; rw [HSUB.out]; simp only; rw [HRR.out, hrr]; simp only; rw [hyy]; rfl
      have hput := rput_all ps t y a ya c yc pa pn pc V4 (HT.out.below HST4.out.low) (hyO.tm.below HB44.out) (HI.out.below HST4.out.low) HPC.out HPM.out
      have HPUT := hid hput
      have HYY : Hid (putT y ps t = some yy) := by show _ = _; rw [hy1]; exact hyy
      clear hrr hy1 hyO hyy hput
      go_wp2_with fail
      refine HPUT.out.mono ?_
      rintro e w8 ⟨a8, c8, he8, hO8, hb8⟩
      have he8' : e = .returned (.tuple #[.agg #[.string yy.1.1, .int .i64 yy.1.2, .slice a8 (lenF yy.2) c8], .int .i64 0]) := by rw [he8, HYY.out]; rfl
      subst he8'
      have hO8' : OwnTm false (fun q => V4.heap.size ≤ q) w8 yy.1 a8 c8 yy.2 := by have := hO8; rw [HYY.out] at this; exact this
      obtain ⟨V8, hV8⟩ : ∃ V8, w8.alloc (.cells #[.string yy.1.1, .int .i64 yy.1.2, .slice a8 (lenF yy.2) c8] 26) = V8 := ⟨_, rfl⟩
      have hb88 : Below w8.heap.size w8 V8 := by rw [← hV8]; exact alloc_below0 _ _
      have hB8 : Box V8 w8.heap.size 26 (tmC yy a8 c8) := by rw [← hV8]; exact Box.new _ _ _
      have hst8 := (HST4.out.below hb8).below hb88
      have HST8 := hid hst8; have HO8 := hid (hO8'.below hb88)
      clear z0 z1 z2 f0 f1 f2 n0 n1 n2 v1 y0 y1 y2
      have z0 := hst8.r.v (k := 0) rfl; have z1 := hst8.r.v (k := 1) rfl; have z2 := hst8.r.v (k := 2) rfl
      have f0 := hst8.r.f 0; have f1 := hst8.r.f 1; have f2 := hst8.r.f 2
      have o0 := hB8.v (k := 0) rfl; have o1 := hB8.v (k := 1) rfl; have o2 := hB8.v (k := 2) rfl
      clear he8 hO8 hO8' hb8 hb88 hB8 hst8
      go_wp2_with fail
      refine ret_term rfl rfl (sets3_box HST8.out.r _ _ _) rfl rfl ?_
      rw [HYS.out]
      have hs4 := HST4.out.sz
      exact ⟨a8, c8, rfl, (HO8.out.keep (fun q hq hl => (sets3_fr (B := w.heap.size + 2) _ _ _).same q hl (by omega))).mono (fun q _ hq => by omega), HST8.out.low.trans ((sets3_fr (B := w.heap.size + 2) _ _ _).below (fun k hk => by omega) HST8.out.low.size)⟩
end Go.Proofs.YtokbgbbkopmngaaGreat
/- The document's Play. -/
namespace Go.Proofs.YtokbgbbkopmngaaGreat
open Go.RowKit Go.Deep

/-- What the document's Play answers. -/
def RPlayEnd (w : World) (r : Option Tn × Nat) (e : Ending) (w' : World) : Prop := ∃ a c, e = .returned (.tuple #[.agg (tmC (plT r) a c), .int .i64 (plC r), .int .i64 r.2]) ∧ TmAt w' (plT r).1 a c (plT r).2 ∧ Below w.heap.size w w'
structure RySt (w : World) (L : List Sym) (t : Tn) (Ls : List St) (Bx j : Nat) (T : Tn) (a : Option Addr) (c : Nat) (W : World) : Prop where
  low : Below w.heap.size w W
  lo : w.heap.size + 2 ≤ Bx
  box : Box W Bx 26 (tmC T a c)
  own : OwnTm false (fun q => w.heap.size + 2 ≤ q) W T.1 a c T.2
  res : Box W (w.heap.size + 1) 26 (tmC ((⟨#[]⟩, 0), .nil) none 0)
  few : nodesF T.2 ≤ nodesF t.2 + 2 * j
  right : rightB L T = true
  cln : Cln T.2
  play : playN (sgOf L) T (Ls.drop j) j = playN (sgOf L) t Ls 0
theorem RySt.below {w : World} {L : List Sym} {t : Tn} {Ls : List St} {Bx j : Nat} {T : Tn} {a : Option Addr} {c : Nat} {W W' : World} (h : RySt w L t Ls Bx j T a c W) (hb : Below W.heap.size W W') : RySt w L t Ls Bx j T a c W' :=
  ⟨h.low.trans (hb.mono h.low.size), h.lo, h.box.below hb, h.own.below hb, h.res.below hb, h.few, h.right, h.cln, h.play⟩
set_option maxRecDepth 100000 in
set_option maxHeartbeats 4000000 in
theorem rplay_any (S : Option Addr) (n cap : Nat) (L : List Sym) (t : Tn) (a : Option Addr) (c : Nat) (la : Option Addr) (ln lc : Nat) (Ls : List St) (w : World)
    (hS : SigAt w S n L) (hT : TmAt w t.1 a c t.2) (hn : nodesF t.2 + 2 * ln ≤ 1048576) (hr : rightB L t = true) (hc : Cln t.2) (hL : StpsAt w la ln Ls) :
    Calls Tryz.prog 9 #[.slice S n cap, .agg (tmC t a c), .slice la ln lc] w (RPlayEnd w (playN (sgOf L) t Ls 0)) := by
  obtain ⟨r, hrr⟩ : ∃ r, playN (sgOf L) t Ls 0 = r := ⟨_, rfl⟩
  rw [hrr]
  obtain rfl := hL.len
  obtain ⟨W0, hW0⟩ : ∃ W0, (w.alloc (.cells #[.string t.1.1, .int .i64 t.1.2, .slice a (lenF t.2) c] 26)).alloc (.cells #[.string ⟨#[]⟩, .int .i64 0, .slice none 0 0] 26) = W0 := ⟨_, rfl⟩
  have hb0 : Below w.heap.size w W0 := by rw [← hW0]; exact (alloc_below0 w _).alloc (by simp) _
  have hsz : W0.heap.size = w.heap.size + 2 := by rw [← hW0]; simp
  have B0 : Box W0 w.heap.size 26 (tmC t a c) := by rw [← hW0]; exact (Box.new w 26 _).over _
  have B2 : Box W0 (w.heap.size + 1) 26 (tmC ((⟨#[]⟩, 0), .nil) none 0) := by rw [← hW0]; exact box_new (by rw [World.size_alloc]) 26 _
  have HCl := hid (rclone_any t.1 t.2 a c W0 (hT.below hb0))
  have d0 := B0.v (k := 0) rfl; have d1 := B0.v (k := 1) rfl; have d2 := B0.v (k := 2) rfl
  have HB0 := hid hb0; have HSZ := hid hsz; have HX2 := hid B2; have HS := hid hS; have HL := hid hL
  have HRR := hid hrr; have HN := hid hn; have HR := hid hr; have HC := hid hc
  clear hb0 hsz B0 B2 hS hT hL hrr hn hr hc
  go_enter Tryz.func9, Tryz.ntmps9
  go_wp2_with fail
  clear hW0
  refine HCl.out.mono ?_
  rintro e w1 ⟨a', c', rfl, hR1, hb1⟩
  obtain ⟨V, hV⟩ : ∃ V, w1.alloc (.cells #[.string t.1.1, .int .i64 t.1.2, .slice a' (lenF t.2) c'] 26) = V := ⟨_, rfl⟩
  have hbV : Below w1.heap.size w1 V := by rw [← hV]; exact alloc_below0 _ _
  have hst : RySt w L t Ls w1.heap.size 0 t a' c' V := by
    have h0 := HSZ.out
    have h1 := hb1.size
    have hl : Below w.heap.size w w1 := HB0.out.trans (hb1.mono HB0.out.size)
    exact ⟨hl.trans (hbV.mono hl.size), by omega, by rw [← hV]; exact Box.new _ _ _, (hR1.own.below hbV).mono (fun q _ hq => by omega), (HX2.out.below hb1).below hbV, by omega, HR.out, HC.out, by rw [List.drop_zero]⟩
  have HST := hid hst
  clear hst hR1 hb1 hbV d0 d1 d2 HCl
  go_wp2_with fail
  clear hV
  generalize w1.heap.size = Bx at HST ⊢
  go_loopw [10, 11, 12] (fun ix _ _ wr => ∃ (j : Nat) (T : Tn) (ta : Option Addr) (tc : Nat), j ≤ Ls.length ∧ ix = .int .i64 j ∧ RySt w L t Ls Bx j T ta tc wr) (fun ix _ _ _ => Ls.length - (intOf ix).toNat)
  case atStart => exact ⟨0, t, a', c', Nat.zero_le _, rfl, HST.out⟩
  case round =>
    obtain ⟨j, T, ta, tc, hj, rfl, hst⟩ := hrel
    have HST := hid hst
    have hlen := HL.out.few
    by_cases hlt : j < Ls.length
    · obtain ⟨sb, so, pa, pn, pc, rfl, hsa⟩ := HL.out.cells j hlt
      have hstr := hsa.below hst.low
      obtain ⟨sp, hsp⟩ : ∃ sp, Ls[j].sp = sp := ⟨_, rfl⟩
      obtain ⟨pth, hpth⟩ : ∃ pth, Ls[j].path = pth := ⟨_, rfl⟩
      have t0 := hstr.kind; have t1 := hstr.path; have t2 := hstr.at_; have t3 := hstr.many; have t4 := hstr.sym
      have hpI := hsa.ints
      rw [hsp] at t0 t2 t3 t4
      rw [hpth] at hpI
      have hpn := hsa.few; have hpf := hsa.fits; have hpm := hsa.cap
      have hj0 : (0 : Int) ≤ (j : Int) := by omega
      have hjn : (j : Int) < (Ls.length : Int) := by omega
      have x0 := hst.box.v (k := 0) rfl; have x1 := hst.box.v (k := 1) rfl; have x2 := hst.box.v (k := 2) rfl
      obtain ⟨r1, hr1⟩ : ∃ r1, stepT (sgOf L) T pth sp = r1 := ⟨_, rfl⟩
      obtain ⟨y, hy⟩ : ∃ y, ansN r1 = y := ⟨_, rfl⟩
      obtain ⟨ec, hec⟩ : ∃ ec, ansC r1 = ec := ⟨_, rfl⟩
      have HPI := hid hpI; have HPF := hid hpf; have HPM := hid hpm; have HPN := hid hpn
      have HD1 : Hid (∀ W, Below wr.heap.size wr W → Calls Tryz.prog 22 #[.slice S n cap, .agg #[.string T.1.1, .int .i64 T.1.2, .slice ta (lenF T.2) tc], stepV sp pa pn pc] W fun e w' => ∃ a' c', e = .returned (.tuple #[.agg #[.string y.1.1, .int .i64 y.1.2, .slice a' (lenF y.2) c'], .int .i64 ec]) ∧ OwnTm false (fun q => W.heap.size ≤ q) w' y.1 a' c' y.2 ∧ Below W.heap.size W w') := fun W hW => by
        have hbW : Below w.heap.size w W := HST.out.low.trans (hW.mono HST.out.low.size)
        have hfew := HST.out.few
        have hnn := HN.out
        have := rdo_any S n cap L T ta tc sp pth pa pn pc W (HS.out.below hbW) (HST.out.own.tm.below hW) (by omega) HST.out.right (HPI.out.below hbW) HPN.out HPF.out HPM.out
        rw [hr1] at this
        unfold RDoEnd tmC at this
        rw [hy, hec] at this
        exact this
      have HRE : Hid (stepT (sgOf L) T Ls[j].path Ls[j].sp = r1) := by show _ = _; rw [hsp, hpth]; exact hr1
      have HR1 := hid hr1; have HY := hid hy; have HEC := hid hec; have HLT := hid hlt
      clear hsa hstr hsp hpth hpI hr1 hy hec hst hpn hpf hpm
      go_wp2_with fail
      go_cut [11, 12] (fun x e w' => ∃ B a4 c4, x = .pointer (some ⟨B, 0, none⟩) ∧ e = .int .i64 ec ∧ Box w' B 26 #[.string y.1.1, .int .i64 y.1.2, .slice a4 (lenF y.2) c4] ∧ OwnTm false (fun q => wr.heap.size ≤ q) w' y.1 a4 c4 y.2 ∧ Below wr.heap.size wr w')
      case first =>
        go_region_held3 (fun w' => w'.cell? ⟨Bx, 0, none⟩ = some (.string T.1.1) ∧ w'.cell? ⟨Bx, 1, none⟩ = some (.int .i64 T.1.2) ∧ w'.cell? ⟨Bx, 2, none⟩ = some (.slice ta (lenF T.2) tc) ∧ w'.cell? ⟨sb, so + j * 5, none⟩ = some (.int .i64 sp.kind) ∧ w'.cell? ⟨sb, so + j * 5 + 1, none⟩ = some (.slice pa pn pc) ∧ w'.cell? ⟨sb, so + j * 5 + 2, none⟩ = some (.int .i64 sp.at_) ∧ w'.cell? ⟨sb, so + j * 5 + 3, none⟩ = some (.int .i64 sp.many) ∧ w'.cell? ⟨sb, so + j * 5 + 4, none⟩ = some (.int .i64 sp.sym)) ((first | (go_split_ands; refine ⟨?_, ?_, ?_, ?_, ?_, ?_, ?_, ?_⟩ <;> ((with_reducible refine below_cell HB4.out _ _ ?_); assumption)) | (have hqq := HX4.out; clear hqq; go_split_ands; refine ⟨?_, ?_, ?_, ?_, ?_, ?_, ?_, ?_⟩ <;> (refine below_cell (sets_below HB4.out (Nat.le_refl _) _ _ _) _ _ ?_; assumption)) | (go_split_ands; refine ⟨?_, ?_, ?_, ?_, ?_, ?_, ?_, ?_⟩ <;> (refine below_cell (HB4.out.alloc HB4.out.size _) _ _ ?_; assumption)) | (go_split_ands; refine ⟨?_, ?_, ?_, ?_, ?_, ?_, ?_, ?_⟩ <;> (refine below_cell ((Below.refl _ wr).alloc (Nat.le_refl _) _) _ _ ?_; assumption)) | go_keep | fail)) ((first | (go_at_call 22; (with_reducible refine Calls.mono (HD1.out (World.drew wr) (Below.refl _ wr).drew) ?_); rintro e w4 ⟨a4, c4, rfl, hF4, hb4⟩; have HF4 : Hid (OwnTm false (fun q => wr.heap.size ≤ q) w4 y.1 a4 c4 y.2) := hF4; have HB4 : Hid (Below wr.heap.size wr w4) := ((Below.refl _ wr).drew).trans hb4; clear hF4 hb4) | (go_at_call 22; refine (HD1.out (World.drew (World.alloc wr (.cells #[.string ⟨#[]⟩, .int .i64 0, .slice none 0 0] 26))) ((Below.refl _ wr).alloc (Nat.le_refl _) _).drew).mono ?_; rintro e w4 ⟨a4, c4, rfl, hF4, hb4⟩; have HF4 : Hid (OwnTm false (fun q => wr.heap.size < q) w4 y.1 a4 c4 y.2) := hF4.mono (fun q _ hq => by have hq : (World.drew (World.alloc wr (.cells #[.string ⟨#[]⟩, .int .i64 0, .slice none 0 0] 26))).heap.size ≤ q := hq; rw [show (World.drew (World.alloc wr (.cells #[.string ⟨#[]⟩, .int .i64 0, .slice none 0 0] 26))).heap.size = wr.heap.size + 1 from World.size_alloc _ _] at hq; omega); have HB4 : Hid (Below wr.heap.size wr w4) := (((Below.refl _ wr).alloc (Nat.le_refl _) _).drew).trans (hb4.mono (by show _ ≤ (wr.alloc _).heap.size; rw [World.size_alloc]; omega)); have HX4 : Hid (Box w4 wr.heap.size 26 #[.string ⟨#[]⟩, .int .i64 0, .slice none 0 0]) := Box.below (W := World.drew (World.alloc wr (.cells #[.string ⟨#[]⟩, .int .i64 0, .slice none 0 0] 26))) (Box.new wr 26 _) hb4; have z0 := HX4.out.v (k := 0) rfl; have z1 := HX4.out.v (k := 1) rfl; have z2 := HX4.out.v (k := 2) rfl; have zf0 := HX4.out.f 0; have zf1 := HX4.out.f 1; have zf2 := HX4.out.f 2; clear hF4 hb4) | fail))
        all_goals (go_wp2_with fail; go_meet)
        all_goals first
          | exact ⟨wr.heap.size, a4, c4, rfl, rfl, sets3_box HX4.out _ _ _, (HF4.out.keep (fun q hq _ => sets_far (by omega) _ _ _)).mono (fun q _ hq => by omega), sets_below HB4.out (Nat.le_refl _) _ _ _⟩
          | exact ⟨w4.heap.size, a4, c4, rfl, rfl, Box.new _ _ _, HF4.out.below (alloc_below0 _ _), HB4.out.alloc HB4.out.size _⟩
      case rest =>
        obtain ⟨B1, a4, c4, rfl, rfl, hX1, hF1, hW1⟩ := hcut
        have hst2 := HST.out.below hW1
        have HST2 := hid hst2; have HF1 := hid hF1; have HW1 := hid hW1
        have HBB : Hid (Bx < wr.heap.size) := HST.out.box.lt
        clear x0 x1 x2 t0 t1 t2 t3 t4 hF1 hW1
        cases hrr : r1 with
        | none =>
          have e1 : ec = 81 := by rw [← HEC.out, hrr]; rfl
          subst e1
          have HRP : Hid (r = (none, j)) := by show _ = _; rw [← HRR.out, ← HST.out.play]; exact play_stop HLT.out (HRE.out.trans hrr)
          have z0 := hst2.res.v (k := 0) rfl; have z1 := hst2.res.v (k := 1) rfl; have z2 := hst2.res.v (k := 2) rfl
          have f0 := hst2.res.f 0; have f1 := hst2.res.f 1; have f2 := hst2.res.f 2
          clear hrr hX1 hst2
          go_wp2_with fail
          refine ret_term2 rfl rfl (sets3_box HST2.out.res _ _ _) rfl rfl ?_
          rw [HRP.out]
          exact ⟨none, 0, rfl, zero_own (N := 0).tm, HST2.out.low.trans ((sets3_fr (B := w.heap.size + 1) _ _ _).below (fun k hk => by omega) HST2.out.low.size)⟩
        | some s =>
          have e1 : ec = 0 := by rw [← HEC.out, hrr]; rfl
          subst e1
          have hys : y = s.1 := by rw [← HY.out, hrr]; rfl
          subst hys
          have hstp := HRE.out.trans hrr
          obtain ⟨g1, g2, _, _⟩ := step_sound (t' := s.1) (q := s.2) HST.out.right HST.out.cln hstp
          have hnod := stepT_nodes (t' := s.1) (q := s.2) hstp
          have hplay := (play_step HLT.out hstp).symm.trans HST.out.play
          have G1 := hid g1; have G2 := hid g2; have HND := hid hnod; have HPY := hid hplay
          have b0 := hX1.v (k := 0) rfl; have b1 := hX1.v (k := 1) rfl; have b2 := hX1.v (k := 2) rfl
          have x0 := hst2.box.v (k := 0) rfl; have x1 := hst2.box.v (k := 1) rfl; have x2 := hst2.box.v (k := 2) rfl
          have f0 := hst2.box.f 0; have f1 := hst2.box.f 1; have f2 := hst2.box.f 2
          clear hrr hX1 hst2 g1 g2 hnod hplay hstp
          go_wp2_with fail
          go_roundw
          case rel =>
            have hlo := HST.out.lo
            have hBB := HBB.out
            have hls := HST.out.low.size
            refine ⟨j + 1, s.1, a4, c4, by have := HLT.out; omega, by go_num, ?_⟩
            refine ⟨HST2.out.low.trans ((sets3_fr (B := Bx) _ _ _).below (fun k hk => by omega) HST2.out.low.size), hlo, sets3_box HST2.out.box _ _ _, (HF1.out.keep (fun q hq hl => (sets3_fr (B := Bx) _ _ _).same q hl (by omega))).mono (fun q _ hq => by omega), HST2.out.res.fr (sets3_fr (B := Bx) _ _ _) (by omega), by have h1 := HND.out; have h2 := HST.out.few; unfold sizeT at h1; omega, G1.out, G2.out, HPY.out⟩
          case measure => simp [intOf]; omega
    · have hjn : ¬ (j : Int) < (Ls.length : Int) := by omega
      have x0 := hst.box.v (k := 0) rfl; have x1 := hst.box.v (k := 1) rfl; have x2 := hst.box.v (k := 2) rfl
      have z0 := hst.res.v (k := 0) rfl; have z1 := hst.res.v (k := 1) rfl; have z2 := hst.res.v (k := 2) rfl
      have f0 := hst.res.f 0; have f1 := hst.res.f 1; have f2 := hst.res.f 2
      have hrr : r = (some T, 0) := by
        rw [← HRR.out, ← hst.play, List.drop_eq_nil_of_le (by omega)]; rfl
      subst hrr
      clear hst
      go_wp2_with fail
      refine ret_term2 rfl rfl (sets3_box HST.out.res _ _ _) rfl rfl ?_
      exact ⟨ta, tc, rfl, (HST.out.own.keep (fun q hq hl => (sets3_fr (B := w.heap.size + 1) _ _ _).same q hl (by omega))).tm, HST.out.low.trans ((sets3_fr (B := w.heap.size + 1) _ _ _).below (fun k hk => by omega) HST.out.low.size)⟩
end Go.Proofs.YtokbgbbkopmngaaGreat
