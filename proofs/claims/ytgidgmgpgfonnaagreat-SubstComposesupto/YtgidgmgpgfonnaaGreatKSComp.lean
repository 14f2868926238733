import Derived.Test.YtgidgmgpgfonnaaGreatKSWalkA
/- What Compose answers. -/
namespace Go.Proofs.YtgidgmgpgfonnaaGreat
open Go.RowKit Go.Deep

/-- The binds of the first list, with what became of their terms; those that stand for themselves are left out. -/
def comp1 (as' : List Bn) (rs : List Kv) : List Bk := ((as'.zip rs).filter (fun p => !(p.2.x.1.toList == p.1.1.toList))).map (fun p => (p.1.1, p.2))
theorem comp1_snoc {as' : List Bn} {rs : List Kv} (hl : as'.length = rs.length) (b : Bn) (r : Kv) : comp1 (as' ++ [b]) (rs ++ [r]) = comp1 as' rs ++ if (r.x.1.toList == b.1.toList) = true then [] else [(b.1, r)] := by
  unfold comp1
  rw [List.zip_append hl, List.filter_append, List.map_append]
  congr 1
  by_cases h : (r.x.1.toList == b.1.toList) = true
  · simp [h]
  · simp [h]
theorem comp1_len (as' : List Bn) (rs : List Kv) : (comp1 as' rs).length ≤ as'.length := by
  unfold comp1
  rw [List.length_map]
  refine Nat.le_trans (List.length_filter_le _ _) ?_
  rw [List.length_zip]
  omega
/-- What Compose leaves. -/
def CompEnd (sg : List Sym) (as' bs : List Bn) (w : World) (e : Ending) (w' : World) : Prop := Below w.heap.size w w' ∧
  ((e = .returned (.tuple #[.slice none 0 0, .int .i64 73]) ∧ ∃ b ∈ as', leftN (lkB bs) b.2.1 b.2.2 400 < 0) ∨
   ((∀ b ∈ as', 0 ≤ leftN (lkB bs) b.2.1 b.2.2 400) ∧ ∃ (v : Value) (ks ms R : List Bk) (rs : List Kv), e = .returned (.tuple #[v, .int .i64 0]) ∧ as'.length = rs.length ∧ (∀ i (h : i < as'.length) (h' : i < rs.length), CanR sg (putN (lkB bs) as'[i].2.1 as'[i].2.2) rs[i].tn) ∧ ks = comp1 as' rs ∧ ms.map bkBn = bs.filter (fun b => (lkB as' b.1).isNone) ∧ Sd ltI R ∧ Stb ltI (ks ++ ms) R ∧ SepB w.heap.size w' v R))
theorem SepB.base {B B' : Nat} {W : World} {v : Value} {ks : List Bk} (h : SepB B W v ks) (hB : B' ≤ B) : SepB B' W v ks := ⟨owns_base h.row hB, h.gl.mono (fun q hq => ⟨by omega, hq.2⟩)⟩
set_option maxRecDepth 100000 in
set_option maxHeartbeats 8000000 in
theorem pcompose_any (S : Option Addr) (n cap : Nat) (sg : List Sym) (pa : Option Addr) (ca : Nat) (as' : List Bn) (pb : Option Addr) (cb : Nat) (bs : List Bn) (w : World) (hS : SigAt w S n sg) (hA : BindsAt w pa as'.length as') (hB : BindsAt w pb bs.length bs) (hna : as'.length ≤ 1000000) (hnb : bs.length ≤ 1000000) (hsum : as'.length + bs.length ≤ 1048576) :
    Calls Tryz.prog 11 #[.slice S n cap, .slice pa as'.length ca, .slice pb bs.length cb] w (CompEnd sg as' bs w) := by
  have HTA := hid fun (W : World) (hW : Below w.heap.size w W) => table_any pa ca as' W (hA.below hW) (by omega)
  have HTB := hid fun (W : World) (hW : Below w.heap.size w W) => table_any pb cb bs W (hB.below hW) (by omega)
  have HA := hid hA; have HB := hid hB; have HS := hid hS
  clear hS hA hB
  go_enter Tryz.func11, Tryz.ntmps11
  go_wp2_with fail
  refine (HTA.out w (Below.refl _ _)).mono ?_
  rintro e w1 ⟨rfl, ht1, hb1⟩
  have T1 := hid ht1; have B1 := hid hb1
  clear ht1 hb1 HTA
  go_wp2_with fail
  refine (HTB.out w1 B1.out).mono ?_
  rintro e w2 ⟨rfl, ht2, hb2⟩
  have T2 := hid ht2; have T1' := hid (T1.out.below hb2); have B2 := hid (B1.out.trans (hb2.mono B1.out.size))
  generalize w1.heap.size = tb at T2 ⊢
  clear ht2 hb2 HTB T1 B1
  go_wp2_with fail
  have HA2 := hid (HA.out.below B2.out); have HB2 := hid (HB.out.below B2.out); have HS2 := hid (HS.out.below B2.out)
  have HFA := hid HA.out.fits; have HFB := hid HB.out.fits
  clear HA HB HS
  go_loopw [10, 12, 13, 14, 25] (fun ov _ _ _ iv wr => ∃ (j : Nat) (v : Value) (rs : List Kv), j ≤ as'.length ∧ v = ov ∧ iv = .int .i64 j ∧ rs.length = j ∧ SepB w2.heap.size wr v (comp1 (as'.take j) rs) ∧ (∀ b ∈ as'.take j, 0 ≤ leftN (lkB bs) b.2.1 b.2.2 400) ∧ (∀ i (h : i < as'.length) (h' : i < rs.length), CanR sg (putN (lkB bs) as'[i].2.1 as'[i].2.2) rs[i].tn) ∧ Below w2.heap.size w2 wr) (fun _ _ _ _ iv _ => as'.length - (intOf iv).toNat)
  case atStart => exact ⟨0, _, [], Nat.zero_le _, rfl, rfl, rfl, SepB.nil _ _, by simp, fun i _ h' => absurd h' (by simp), Below.refl _ _⟩
  case round =>
    obtain ⟨j, ov, rs, hj, rfl, rfl, hrl, hL, hle, hcan, hlow⟩ := hrel
    have HL := hid hL; have HLE := hid hle; have HCAN := hid hcan; have HW := hid hlow; have HRL := hid hrl
    clear hL hle hcan hlow hrl
    by_cases hlt : j < as'.length
    · obtain ⟨b1, o1, a1, c1, rfl, hbd⟩ := (HA2.out.below HW.out).cells j hlt
      have htk : as'.take (j + 1) = as'.take j ++ [as'[j]] := List.take_succ_eq_append_getElem hlt
      have hmem : as'[j] ∈ as' := List.getElem_mem hlt
      obtain ⟨⟨vn, ⟨x, l⟩⟩, hy⟩ : ∃ y, as'[j] = y := ⟨_, rfl⟩
      rw [hy] at hbd htk hmem
      have HTK := hid htk; have HY := hid hy; have HMEM := hid hmem
      have HBD := hid hbd
      have p0 := hbd.var; have p1 := hbd.name; have p2 := hbd.sym; have p3 := hbd.list
      dsimp only at p0 p1 p2 p3
      have bx := alloc_below0 wr (.cells #[.string vn, .string x.1, .int .i64 x.2, .slice a1 (lenF l) c1] 43)
      have BX : Hid (Box (wr.alloc (.cells #[.string vn, .string x.1, .int .i64 x.2, .slice a1 (lenF l) c1] 43)) wr.heap.size 43 #[.string vn, .string x.1, .int .i64 x.2, .slice a1 (lenF l) c1]) := hid (Box.new wr 43 _)
      have HBX := hid bx
      have HAP := hid (apply_any (.map (some tb)) (lkB bs) S n cap sg x l a1 c1 _ ((HS2.out.below HW.out).below bx) (hbd.tm.below bx) (.inr ⟨_, _, rfl, (T2.out.below HW.out).below bx⟩))
      have hwz := HW.out.size
      clear hbd htk hy hmem bx
      go_wp2_with fail
      clear p0 p1 p2 p3
      generalize wr.alloc (.cells #[.string vn, .string x.1, .int .i64 x.2, .slice a1 (lenF l) c1] 43) = V at HBX BX HAP ⊢
      refine HAP.out.mono ?_
      intro e w3 hend
      obtain ⟨k, er, rfl, hb3, hE3, hr3⟩ := ApplyEnd.form2 (sg := sg) (lk := lkB bs) (x := x) (l := l) hend
      have bz := alloc_below0 w3 (.cells #[.string k.x.1, .int .i64 k.x.2, .slice k.a (lenF k.l) k.c] 27)
      have HB3 := hid (HBX.out.trans ((hb3.trans (bz.mono hb3.size)).mono HBX.out.size))
      have XB := (BX.out.below hb3).below bz
      have YB : XBox (w3.alloc (.cells #[.string k.x.1, .int .i64 k.x.2, .slice k.a (lenF k.l) k.c] 27)) w3.heap.size k.x (.slice k.a (lenF k.l) k.c) := World.alloc_heap_new w3 _
      have HE3 : Hid (SepTm (w3.alloc (.cells #[.string k.x.1, .int .i64 k.x.2, .slice k.a (lenF k.l) k.c] 27)) (fun q => wr.heap.size ≤ q) k.x k.a k.c k.l) := hid ((SepTm.mono (fun q hq => by have := HBX.out.size; omega) hE3.1).below bz)
      have HR3 := hid hr3
      have q0 := XB.c 0
      have y0 := YB.c0; have y1 := YB.c1; have y2 := YB.c2
      clear hend hb3 hE3 hr3 bz XB YB BX HBX HAP
      rcases HR3.out with ⟨h1, h2, rfl⟩ | ⟨h1, rfl, h2⟩
      · have H1 := hid h1
        clear h1 h2 HR3
        go_wp2_with fail
        go_ret2
        refine ⟨B2.out.trans ((HW.out.trans (HB3.out.mono hwz)).mono B2.out.size), .inl ⟨rfl, _, HMEM.out, H1.out⟩⟩
      · have H1 := hid h1; have H2 := hid h2
        clear h1 h2 HR3
        have hnew : comp1 (as'.take (j + 1)) (rs ++ [k]) = comp1 (as'.take j) rs ++ if (k.x.1.toList == vn.toList) = true then [] else [(vn, k)] := by
          rw [HTK.out]
          exact comp1_snoc (by rw [HRL.out, List.length_take]; omega) (vn, (x, l)) k
        have hle2 : ∀ b ∈ as'.take (j + 1), 0 ≤ leftN (lkB bs) b.2.1 b.2.2 400 := fun b hb => by
          rw [HTK.out] at hb
          rcases List.mem_append.1 hb with hb | hb
          · exact HLE.out b hb
          · rw [List.mem_singleton.1 hb]; exact H1.out
        have hcan2 : ∀ i (h : i < as'.length) (h' : i < (rs ++ [k]).length), CanR sg (putN (lkB bs) as'[i].2.1 as'[i].2.2) (rs ++ [k])[i].tn := fun i h h' => by
          by_cases hi : i < rs.length
          · rw [List.getElem_append_left hi]; exact HCAN.out i h hi
          · have hij : i = j := by rw [List.length_append, List.length_singleton] at h'; have := HRL.out; omega
            subst hij
            simp only [HY.out]
            have e : (rs ++ [k])[i]'h' = k := by
              rw [List.getElem_append_right (by omega)]
              simp [HRL.out]
            rw [e]
            exact H2.out
        have HLE2 := hid hle2; have HCAN2 := hid hcan2; have HNEW := hid hnew
        clear hle2 hcan2 hnew
        by_cases he : k.x.1.toList = vn.toList
        · have heb : (k.x.1.toList == vn.toList) = true := by simp [he]
          have HEB := hid heb
          go_wp2_with fail
          go_roundw
          case rel => exact ⟨j + 1, _, rs ++ [k], by omega, rfl, by go_num, by rw [List.length_append, HRL.out]; rfl, by rw [HNEW.out, if_pos HEB.out, List.append_nil]; exact HL.out.below HB3.out, HLE2.out, HCAN2.out, HW.out.trans (HB3.out.mono hwz)⟩
          case measure => simp [intOf]; omega
        · have heb : (k.x.1.toList == vn.toList) = false := by simp [he]
          have HEB := hid heb
          have hcl := comp1_len (as'.take j) rs
          rw [List.length_take] at hcl
          obtain ⟨K, hK⟩ : ∃ K, comp1 (as'.take j) rs = K := ⟨_, rfl⟩
          rw [hK] at HL HNEW hcl
          have by4 := alloc_below0 (w3.alloc (.cells #[.string k.x.1, .int .i64 k.x.2, .slice k.a (lenF k.l) k.c] 27)) (.cells #[.string vn, .string k.x.1, .int .i64 k.x.2, .slice k.a (lenF k.l) k.c] 43)
          have HB4 := hid (HB3.out.trans (by4.mono HB3.out.size))
          have hz4 : w3.heap.size + 1 + 1 = ((w3.alloc (.cells #[.string k.x.1, .int .i64 k.x.2, .slice k.a (lenF k.l) k.c] 27)).alloc (.cells #[.string vn, .string k.x.1, .int .i64 k.x.2, .slice k.a (lenF k.l) k.c] 43)).heap.size := by simp
          have HZ4 := hid hz4
          have HCL := hid (show K.length ≤ 1000000 by omega)
          have hnw : ((w3.alloc (.cells #[.string k.x.1, .int .i64 k.x.2, .slice k.a (lenF k.l) k.c] 27)).alloc (.cells #[.string vn, .string k.x.1, .int .i64 k.x.2, .slice k.a (lenF k.l) k.c] 43)).heap[w3.heap.size + 1]? = some (.cells #[.string vn, .string k.x.1, .int .i64 k.x.2, .slice k.a (lenF k.l) k.c] 43 (0, 0)) := by
            have := World.alloc_heap_new (w3.alloc (.cells #[.string k.x.1, .int .i64 k.x.2, .slice k.a (lenF k.l) k.c] 27)) (.cells #[.string vn, .string k.x.1, .int .i64 k.x.2, .slice k.a (lenF k.l) k.c] 43)
            rw [World.size_alloc] at this
            exact this
          have HNW := hid hnw
          clear hK by4 hz4 hcl hnw
          go_wp2_with (at_builtin; refine wpList_append_bk rfl _ _ rfl w2.heap.size ov K rfl (owns_below HL.out.row HB4.out) (w3.heap.size + 1) (vn, k) rfl (World.news_of_block HNW.out) (by have := HCL.out; omega) (by have := HB4.out.size; omega) ?_; intro g5 cap5 w5 hown5 hgrow5 hat5; have HO5 := hid hown5; have HG5 := hid hgrow5; have HA5 := hid hat5; clear hown5 hgrow5 hat5)
          go_roundw
          case rel =>
            have hgr : SepB w2.heap.size w5 (.slice (some ⟨g5, 0, none⟩) (K.length + 1) cap5) (K ++ [(vn, k)]) := HL.out.grow HB4.out (HE3.out.below (alloc_below0 (w3.alloc (.cells #[.string k.x.1, .int .i64 k.x.2, .slice k.a (lenF k.l) k.c] 27)) _)) hwz HG5.out (HA5.out.imp (fun e => e) (fun e => by rw [e]; rfl)) HO5.out
            refine ⟨j + 1, _, rs ++ [k], by omega, rfl, by go_num, by rw [List.length_append, HRL.out]; rfl, by rw [HNEW.out, if_neg (by simp [HEB.out])]; exact hgr, HLE2.out, HCAN2.out, HW.out.trans ((HB4.out.mono hwz).grown HG5.out (by rw [← HZ4.out]; have := HB3.out.size; rw [World.size_alloc] at this; omega) (fun q e => (owns_cells HL.out.row e).1))⟩
          case measure => simp [intOf]; omega
    · have hjl : j = as'.length := by omega
      subst hjl
      have hL2 := HL.out; have hle2 := HLE.out
      rw [List.take_of_length_le (Nat.le_refl _)] at hL2 hle2
      have HL2 := hid hL2; have HLE2 := hid hle2
      have hcl := comp1_len as' rs
      obtain ⟨K, hK⟩ : ∃ K, comp1 as' rs = K := ⟨_, rfl⟩
      rw [hK] at HL2 hcl
      have HK := hid hK; have HCL := hid (show K.length ≤ as'.length from hcl)
      clear hL2 hle2 HL HLE hK hcl
      go_wp2_with fail
      go_loopw [10, 16, 17, 18, 55] (fun ov _ _ _ iv wr2 => ∃ (i : Nat) (v : Value) (ms : List Bk), i ≤ bs.length ∧ v = ov ∧ iv = .int .i64 i ∧ SepB w2.heap.size wr2 v (K ++ ms) ∧ ms.map bkBn = (bs.take i).filter (fun b => (lkB as' b.1).isNone) ∧ Below w2.heap.size w2 wr2) (fun _ _ _ _ iv _ => bs.length - (intOf iv).toNat)
      case atStart => exact ⟨0, _, [], Nat.zero_le _, rfl, rfl, by rw [List.append_nil]; exact HL2.out, by simp, HW.out⟩
      case round =>
        obtain ⟨i, ov, ms, hi, rfl, rfl, hL, hms, hlow⟩ := hrel
        have HLm := hid hL; have HMS := hid hms; have HWi := hid hlow
        have hml : ms.length ≤ i := by
          have := congrArg List.length hms
          rw [List.length_map] at this
          have h2 := List.length_filter_le (fun b : Bn => (lkB as' b.1).isNone) (bs.take i)
          rw [List.length_take] at h2
          omega
        clear hL hms hlow
        by_cases hlt2 : i < bs.length
        · obtain ⟨b1, o1, a1, c1, rfl, hbd⟩ := (HB2.out.below HWi.out).cells i hlt2
          have hfit := HFB.out bs[i] (List.getElem_mem hlt2)
          have htk : bs.take (i + 1) = bs.take i ++ [bs[i]] := List.take_succ_eq_append_getElem hlt2
          obtain ⟨⟨vn, ⟨x, l⟩⟩, hy⟩ : ∃ y, bs[i] = y := ⟨_, rfl⟩
          rw [hy] at hbd htk hfit
          have HTK := hid htk
          have HBD := hid hbd
          have p0 := hbd.var; have p1 := hbd.name; have p2 := hbd.sym; have p3 := hbd.list
          dsimp only at p0 p1 p2 p3 hfit
          have bx := alloc_below0 wr (.cells #[.string vn, .string x.1, .int .i64 x.2, .slice a1 (lenF l) c1] 43)
          have BX : Hid (Box (wr.alloc (.cells #[.string vn, .string x.1, .int .i64 x.2, .slice a1 (lenF l) c1] 43)) wr.heap.size 43 #[.string vn, .string x.1, .int .i64 x.2, .slice a1 (lenF l) c1]) := hid (Box.new wr 43 _)
          have HBX := hid bx
          have hwz := HWi.out.size
          have hrun := tab_run (.inr ⟨_, _, rfl, T1'.out.below HWi.out⟩ : TabV wr (.map (some w.heap.size)) (lkB as')) vn hfit
          clear hbd hy htk bx
          rcases hrun with ⟨hlk, hrun⟩ | ⟨t, at', ct, hlk, _, hrun⟩
          · have hr := hrun _ HBX.out
            have HLK := hid hlk
            have bz := alloc_below0 (wr.alloc (.cells #[.string vn, .string x.1, .int .i64 x.2, .slice a1 (lenF l) c1] 43)) (.cells #[.string ⟨#[]⟩, .int .i64 0, .slice none 0 0] 27)
            have HB3 := hid (HBX.out.trans (bz.mono HBX.out.size))
            have XB := BX.out.below bz
            have q0 := XB.c 0; have q1 := XB.c 1; have q2 := XB.c 2; have q3 := XB.c 3
            have HC := hid (cloneb_any vn x l a1 c1 _ (HBD.out.tm.below HB3.out))
            clear hrun hlk bz XB BX
            go_wp2_with fail
            clear p0 p1 p2 p3 hr q0 q1 q2 q3
            generalize (wr.alloc (.cells #[.string vn, .string x.1, .int .i64 x.2, .slice a1 (lenF l) c1] 43)).alloc (.cells #[.string ⟨#[]⟩, .int .i64 0, .slice none 0 0] 27) = V at HB3 HC ⊢
            refine HC.out.mono ?_
            rintro e w3 ⟨a', c', rfl, hs3, hb3⟩
            have HS3 : Hid (SepTm w3 (fun q => wr.heap.size ≤ q) x a' c' l) := hid (hs3.mono (fun q hq => by have := HB3.out.size; omega))
            have HB4 := hid (HB3.out.trans (hb3.mono HB3.out.size))
            have by3 := alloc_below0 w3 (.cells #[.string vn, .string x.1, .int .i64 x.2, .slice a' (lenF l) c'] 43)
            have HB5 := hid (HB4.out.trans (by3.mono HB4.out.size))
            have hz4 : w3.heap.size + 1 = (w3.alloc (.cells #[.string vn, .string x.1, .int .i64 x.2, .slice a' (lenF l) c'] 43)).heap.size := by simp
            have HZ4 := hid hz4
            clear hs3 hb3 HC by3 hz4
            go_wp2_with (at_builtin; refine wpList_append_bk rfl _ _ rfl w2.heap.size ov (K ++ ms) rfl (owns_below HLm.out.row HB5.out) w3.heap.size (vn, ⟨x, l, a', c'⟩) rfl (World.news_of_block (heap_alloc_new w3 _)) (by rw [List.length_append]; have := HCL.out; omega) (by have := HB5.out.size; omega) ?_; intro g5 cap5 w5 hown5 hgrow5 hat5; have HO5 := hid hown5; have HG5 := hid hgrow5; have HA5 := hid hat5; clear hown5 hgrow5 hat5)
            go_roundw
            case rel =>
              have hgr : SepB w2.heap.size w5 (.slice (some ⟨g5, 0, none⟩) ((K ++ ms).length + 1) cap5) ((K ++ ms) ++ [(vn, ⟨x, l, a', c'⟩)]) := HLm.out.grow HB5.out (HS3.out.below (alloc_below0 w3 _)) hwz HG5.out (HA5.out.imp (fun e => e) (fun e => by rw [e]; rfl)) HO5.out
              rw [List.append_assoc, List.length_append] at hgr
              refine ⟨i + 1, _, ms ++ [(vn, ⟨x, l, a', c'⟩)], by omega, rfl, by go_num, hgr, by rw [HTK.out, List.filter_append, ← HMS.out]; simp [bkBn, Kv.tn, HLK.out], HWi.out.trans ((HB5.out.mono hwz).grown HG5.out (by rw [← HZ4.out]; have := HB4.out.size; omega) (fun q e => (owns_cells HLm.out.row e).1))⟩
            case measure => simp [intOf]; omega
          · have hr := hrun _ HBX.out
            have HLK := hid hlk
            have bz := alloc_below0 (wr.alloc (.cells #[.string vn, .string x.1, .int .i64 x.2, .slice a1 (lenF l) c1] 43)) (.cells #[.string t.1.1, .int .i64 t.1.2, .slice at' (lenF t.2) ct] 27)
            have HB3 := hid (HBX.out.trans (bz.mono HBX.out.size))
            clear hrun hlk bz BX
            go_wp2_with fail
            go_roundw
            case rel => exact ⟨i + 1, _, ms, by omega, rfl, by go_num, HLm.out.below HB3.out, by rw [HTK.out, List.filter_append, ← HMS.out]; simp [HLK.out], HWi.out.trans (HB3.out.mono hwz)⟩
            case measure => simp [intOf]; omega
        · have hil : i = bs.length := by omega
          subst hil
          have hms2 := HMS.out
          rw [List.take_of_length_le (Nat.le_refl _)] at hms2
          have HMS2 := hid hms2
          have HC := hid (sort_any w2.heap.size ov (K ++ ms) wr HLm.out (by rw [List.length_append]; have := HCL.out; omega))
          clear hms2 HMS
          go_wp2_with fail
          refine HC.out.mono ?_
          rintro e w3 ⟨rfl, R, h1, h2, h3, h4⟩
          have H1 := hid h1; have H2 := hid h2; have H3 := hid h3; have H4 := hid h4
          clear h1 h2 h3 h4 HC
          go_wp2
          go_ret2
          refine ⟨B2.out.trans ((HWi.out.trans (H4.out.below (fun _ h => h) HWi.out.size)).mono B2.out.size), .inr ⟨HLE2.out, ov, K, ms, R, rs, rfl, HRL.out.symm, HCAN.out, HK.out.symm, HMS2.out, H1.out, H2.out, H3.out.base B2.out.size⟩⟩
end Go.Proofs.YtgidgmgpgfonnaaGreat
