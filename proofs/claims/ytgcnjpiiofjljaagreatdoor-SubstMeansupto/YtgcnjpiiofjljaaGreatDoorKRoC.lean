import Derived.Test.YtgcnjpiiofjljaaGreatDoorSOp
import Derived.Test.YtgcnjpiiofjljaaGreatDoorRVar
import Derived.Test.YtgcnjpiiofjljaaGreatDoorLater
import Derived.Deep.DeepCutAuto
import Derived.BigQuiet
import Derived.Laws.AppendOwnNone
import Derived.Lib.Atoi
import Derived.Lib.ItoaNum
import Derived.Test.YtgcnjpiiofjljaaGreatDoorCanR
import Derived.Test.YtgcnjpiiofjljaaGreatDoorCanS
import Derived.Deep.RegionHeld3
import Derived.Test.YtgcnjpiiofjljaaGreatDoorKPCanon
/- The document's Rename. -/
namespace Go.Proofs.YtgcnjpiiofjljaaGreatDoor
open Go.RowKit Go.Deep Go.Sort

def gB (p : ByteArray × ByteArray) : Bn := (p.1, ((p.2, 0), .nil))
theorem bk_gB (p : ByteArray × ByteArray) : bkBn (bkG p) = gB p := rfl
theorem getG (l : List (ByteArray × ByteArray)) (s : ByteArray) : (getN (l.map gB) s).2 = .nil := by
  unfold getN getB
  cases h : (l.map gB).find? fun b => decide (b.1 = s) with
  | none => rfl
  | some b =>
    obtain ⟨p, _, rfl⟩ := List.mem_map.1 (List.mem_of_find?_eq_some h)
    rfl
theorem pinG_nodes (l : List (ByteArray × ByteArray)) : ∀ F : Fo, nodesF (pinF (l.map gB) F) ≤ nodesF F
  | .nil => Nat.le_refl _
  | .node B O x a r => by
    have h1 := pinG_nodes l a
    have h2 := pinG_nodes l r
    unfold pinF
    split
    · simp only [nodesF]; omega
    · simp only [nodesF, getG]; omega
theorem pinG_nodesN (l : List (ByteArray × ByteArray)) (x : ByteArray × Int) (F : Fo) : nodesF (pinN (l.map gB) x F).2 ≤ nodesF F := by
  have h1 := pinG_nodes l F
  unfold pinN
  split
  · exact h1
  · rw [getG]; simp only [nodesF]; omega
/-- What the document makes of binds. -/
def renD (sg : List Sym) (GB : List Bn) (b : Bn) : Bn := (b.1, canonT (sgOf sg) (pinN GB b.2.1 b.2.2))
set_option maxRecDepth 100000 in
set_option maxHeartbeats 4000000 in
theorem rrename_any (S : Option Addr) (sn cap : Nat) (sg : List Sym) (p : Option Addr) (bcap : Nat) (ls : List Bn) (pn : Option Addr) (cn : Nat) (keep : List ByteArray) (f : Int) (w : World)
    (inj : ∀ a b, nmB a = nmB b → a = b) (hstd : Std w) (hw0 : 0 < w.heap.size) (hS : SigAt w S sn sg) (hB : BindsAt w p ls.length ls) (hK : StrsAt w pn keep.length keep) (hf0 : -9223372036854775808 ≤ f) (hf : f ≤ 1099511627776) (hk : keep.length ≤ 1048576) (ho : (occB ls).length ≤ 1048576) (hl : ls.length ≤ 1048576) (hn : ∀ b ∈ ls, nodesF b.2.2 ≤ 1048576)
    (hoc : ∀ b ∈ ls, namesN b.2.1 ++ namesFo b.2.2 = (occs b.2).map fun s => s.data.toList) (hfo : ∀ s ∈ occB ls, s.size ≤ maxLen) :
    Calls Tryz.prog 11 #[.slice S sn cap, .slice p ls.length bcap, .slice pn keep.length cn, .int .i64 f] w fun e w' => ∃ v ks, e = .returned (.tuple #[v, .int .i64 ((((occB ls).foldl onceN []).foldl (nameD keep nmB) ([], fst1 f)).2 : Nat)]) ∧
      ks.map bkBn = ls.map (renD sg ((((occB ls).foldl onceN []).foldl (nameD keep nmB) ([], fst1 f)).1.map gB)) ∧ LstB false w.heap.size w' v ks ∧ Below w.heap.size w w' := by
  obtain ⟨i0, hq0, hz0, hz1, hz2⟩ := info_parts Tryz.info42
  have hmax : maxLen = 9223372036854775807 := rfl
  have HNA := hid (rnames2_any p bcap ls pn cn keep f w inj hstd hw0 hB hK hf0 hf hk ho hn hoc hfo)
  have hfl := foldD_len keep ((occB ls).foldl onceN []) ([], fst1 f)
  have hol := (once_fold (occB ls) [] (by simp) hfo).2
  have hfits : ∀ k ∈ (((occB ls).foldl onceN []).foldl (nameD keep nmB) ([], fst1 f)).1.map bkG, k.1.size ≤ maxLen := by
    intro k hk
    obtain ⟨q, hq, rfl⟩ := List.mem_map.1 hk
    have h1 : q.1 ∈ (((occB ls).foldl onceN []).foldl (nameD keep nmB) ([], fst1 f)).1.map (·.1) := List.mem_map.2 ⟨q, hq, rfl⟩
    rw [keys_fold, List.map_nil, List.nil_append] at h1
    exact (once_fold (occB ls) [] (by simp) hfo).1 _ (List.mem_filter.1 h1).1
  obtain ⟨ST, hST⟩ : ∃ ST, ((occB ls).foldl onceN []).foldl (nameD keep nmB) ([], fst1 f) = ST := ⟨_, rfl⟩
  rw [hST] at HNA hfl hfits ⊢
  have hGl : ST.1.length ≤ 1048576 := by simp only [List.length_nil] at hfl hol; omega
  have HS := hid hS; have HB := hid hB; have HNN := hid hn; have HFT := hid hfits
  clear inj hstd hS hB hK ho hn hoc hfo hfl hol hfits hST
  go_enter Tryz.func11, Tryz.ntmps11
  go_wp2_with (go_at_call 15; refine HNA.out.mono ?_; rintro e wn ⟨vn, rfl, hsn, hbn⟩; have HSN := hid hsn; have HBN := hid hbn; clear hsn hbn)
  obtain ⟨pg, cg, hvg⟩ : ∃ pg cg, vn = .slice pg (ST.1.map gB).length cg := by
    rw [List.length_map]
    rcases HSN.out.slice with ⟨h1, h2⟩ | ⟨g, cap, h1⟩
    · have := List.map_eq_nil_iff.1 h2
      rw [this]; exact ⟨none, 0, h1⟩
    · rw [List.length_map] at h1
      exact ⟨_, cap, h1⟩
  subst hvg
  have HGB : Hid (BindsAt wn pg (ST.1.map gB).length (ST.1.map gB)) := hid (by
    have h := HSN.out
    have e : (ST.1.map bkG).length = (ST.1.map gB).length := by rw [List.length_map, List.length_map]
    rw [← e] at h
    have h2 := h.binds HFT.out
    rw [List.map_map, show bkBn ∘ bkG = gB from rfl, e] at h2
    exact h2)
  have HPG := hid (pinG_nodesN ST.1)
  have hgb : (ST.1.map gB).length ≤ 1048576 := by rw [List.length_map]; exact hGl
  obtain ⟨GB, hGB⟩ : ∃ GB, ST.1.map gB = GB := ⟨_, rfl⟩
  rw [hGB] at HGB HPG hgb ⊢
  have HGE := hid hGB
  clear hGB
  have HLN : Hid (∀ W, Below wn.heap.size wn W → Below w.heap.size w W) := hid fun W hW => HBN.out.trans (hW.mono HBN.out.size)
  clear HNA HFT
  go_loopw [12, 13] (fun ow iv wr => ∃ (j : Nat) (v : Value) (ks : List Bk), v = ow ∧ j ≤ ls.length ∧ iv = .int .i64 j ∧ ks.map bkBn = (ls.take j).map (renD sg GB) ∧ LstB false wn.heap.size wr v ks ∧ Below wn.heap.size wn wr) (fun _ iv _ => ls.length - (intOf iv).toNat)
  case atStart => exact ⟨0, _, [], rfl, Nat.zero_le _, rfl, rfl, LstB.nil _ _ _, Below.refl _ _⟩
  case round =>
    obtain ⟨j, v, ks, rfl, hj, rfl, hks, hLB, hlow⟩ := hrel
    have hkl : ks.length = j := by
      have := congrArg List.length hks
      rw [List.length_map, List.length_map, List.length_take] at this
      omega
    by_cases hlt : j < ls.length
    · obtain ⟨bb, oo, a1, c1, rfl, bd0⟩ := HB.out.cells j hlt
      have htk : ls.take (j + 1) = ls.take j ++ [ls[j]] := List.take_succ_eq_append_getElem hlt
      have hmem := List.getElem_mem hlt
      have hnl := HNN.out _ hmem
      obtain ⟨⟨vn, ⟨x, l⟩⟩, hbd⟩ : ∃ b, ls[j] = b := ⟨_, rfl⟩
      rw [hbd] at bd0 htk hnl
      have bd := bd0.below (HLN.out _ hlow)
      have p0 := bd.var; have p1 := bd.name; have p2 := bd.sym; have p3 := bd.list
      dsimp only at p0 p1 p2 p3 hnl
      have HPT := hid (pin_all GB hgb 1048576 x l a1 c1 pg cg wr hnl bd.tm (HGB.out.below hlow))
      have hq := Nat.le_trans (HPG.out x l) hnl
      have hrn : renD sg GB (vn, (x, l)) = (vn, canonT (sgOf sg) (pinN GB x l)) := rfl
      obtain ⟨t, ht⟩ : ∃ t, pinN GB x l = t := ⟨_, rfl⟩
      rw [ht] at HPT hq hrn
      have HP0 := hid p0; have HLB := hid hLB; have HL := hid hlow; have HKS := hid hks; have HTK := hid htk; have HRN := hid hrn
      have hwn : wn.heap.size ≤ wr.heap.size := hlow.size
      clear bd bd0 ht htk hrn hmem hbd hLB hlow hks
      go_upto_region 7 with (go_at_call 16; refine HPT.out.mono ?_; rintro e w2 ⟨a', c', rfl, hT2, hb2⟩; have HT2 := hid hT2.own.tm; have HB2 := hid hb2; clear hT2 hb2)
      have bx := alloc_below0 w2 (.cells #[.string t.1.1, .int .i64 t.1.2, .slice a' (lenF t.2) c'] 27)
      have HX := hid (TBox.new w2 t.1 a' (lenF t.2) c')
      have HB3 := hid (HB2.out.trans (bx.mono HB2.out.size))
      have x0 := HX.out.c0; have x1 := HX.out.c1; have x2 := HX.out.c2
      have q0 := bd_cell HB3.out _ _ HP0.out
      have HCN := hid fun (W : World) (hW : Below (w2.alloc (.cells #[.string t.1.1, .int .i64 t.1.2, .slice a' (lenF t.2) c'] 27)).heap.size (w2.alloc (.cells #[.string t.1.1, .int .i64 t.1.2, .slice a' (lenF t.2) c'] 27)) W) => canon_all S sn cap sg 1048576 (Nat.le_refl _) t a' c' W hq (HS.out.below (HLN.out _ (HL.out.trans ((HB3.out.trans (hW.mono HB3.out.size)).mono HL.out.size)))) ((HT2.out.below bx).below hW)
      obtain ⟨r, hr⟩ : ∃ r, canonT (sgOf sg) t = r := ⟨_, rfl⟩
      rw [hr] at HCN HRN
      have hkn : ks.length ≤ 1048576 := by omega
      clear hr bx p0 p1 p2 p3 HT2 HB2 HPT HX
      go_region_law
        ((first
          | (refine step_append_lies _ (by rfl) (.tmp 35) (.tmp 45) 24 (by rfl) wn.heap.size 42 i0 _ 4 64 Tryz.underlying24 hq0 hz0 hz1 hz2 rfl (by decide) v ks.length (bkAll ks) (by rfl) HRO.out ⟨w3.heap.size, 0, none⟩ 1 1 (bkCells (vn, ⟨r.1, r.2, a3, c3⟩)) (by rfl) rfl HNB.out (bk_one _) (by decide) (by omega) (by omega) (Nat.le_trans hwn HB5.out.size) _ rfl ?_; intro g5 cap5 w5 hown5 hgrow5 hat5 hlt5; have HK5 := hid (HLB.out.grow (v' := .slice (some ⟨g5, 0, none⟩) (ks.length + 1) cap5) (ms := [(vn, ⟨r.1, r.2, a3, c3⟩)]) HB5.out (fun k hk => by rw [List.mem_singleton.1 hk]; exact HO5.out) hwn hgrow5 (by rcases hat5 with h | h; exact .inl h.symm; exact .inr (congrArg some h)) (by rw [bkAll_snoc, List.length_append]; exact hown5)); have HG5 := hid ((HL.out.trans (HB5.out.mono HL.out.size)).grown hgrow5 (Nat.le_trans hwn HB5.out.size) (fun k e => (owns_cells HLB.out.row e).1)); clear hown5 hgrow5 hat5)
          | (go_simp; go_wp2_with (go_at_call 28; refine Calls.mono (HCN.out _ ((Below.refl _ _).drew)) ?_; rintro e w3 ⟨a3, c3, rfl, hO3, hb3⟩; have hb4 := HB3.out.trans ((((Below.refl _ _).drew).trans hb3).mono HB3.out.size); have q1 := bd_cell hb4 _ _ HP0.out; have bz := alloc_below0 w3 (.cells #[.string vn, .string r.1.1, .int .i64 r.1.2, .slice a3 (lenF r.2) c3] 42); have HB5 := hid (hb4.trans (bz.mono hb4.size)); have HRO := hid (owns_below HLB.out.row HB5.out); have HNB := hid (World.news_of_block (heap_alloc_new w3 (.cells #[.string vn, .string r.1.1, .int .i64 r.1.2, .slice a3 (lenF r.2) c3] 42))); have HO5 : Hid (OwnTm false (fun q => wr.heap.size ≤ q) (w3.alloc (.cells #[.string vn, .string r.1.1, .int .i64 r.1.2, .slice a3 (lenF r.2) c3] 42)) r.1 a3 c3 r.2) := hid ((hO3.below bz).mono (fun q _ hq => Nat.le_trans HB3.out.size hq)); clear hO3 hb3 hb4 bz))
          | fail))
      all_goals
        clear x0 x1 x2 q0 q1 HRO HNB HO5
        go_wp2_with fail
        go_roundw
        case rel =>
          refine ⟨j + 1, _, ks ++ [(vn, ⟨r.1, r.2, a3, c3⟩)], rfl, by omega, by go_num, ?_, (by have h := HK5.out; rw [hkl] at h; exact h), HG5.out⟩
          rw [List.map_append, HKS.out, HTK.out, List.map_append, List.map_cons, List.map_nil, List.map_cons, List.map_nil, HRN.out]
          rfl
        case measure => simp [intOf]; omega
    · obtain rfl : j = ls.length := by omega
      have ht : ls.take ls.length = ls := List.take_of_length_le (by omega)
      rw [ht] at hks
      have HKE := hid hks; have HLB := hid hLB; have HL := hid hlow
      clear hks hLB hlow ht
      go_wp2_with fail
      refine bodyPost_ret (results_tmp2 rfl _ _ _) rfl ?_
      rw [HGE.out]
      exact ⟨_, ks, rfl, HKE.out, HLB.out.base HBN.out.size, HLN.out _ HL.out⟩
end Go.Proofs.YtgcnjpiiofjljaaGreatDoor
/- The document's Apply. -/
namespace Go.Proofs.YtgcnjpiiofjljaaGreatDoor
open Go.RowKit Go.Deep Go.Shelf

theorem szB_eq (bs : List Bn) (s : ByteArray) : szB bs s = nodesF (getN bs s).2 + 1 := by
  unfold szB getN
  cases getB bs s <;> rfl
theorem growF_eq (bs : List Bn) : ∀ (F : Fo) (r : Int), 0 ≤ growF bs F r → growF bs F r = r - nodesF (pinF bs F)
  | .nil, r, _ => by simp [growF, pinF, nodesF]
  | .node _ _ x l s, r, h => by
    unfold growF at h ⊢
    unfold pinF
    by_cases hr : r < 0
    · rw [if_pos hr] at h; omega
    · rw [if_neg hr] at h ⊢
      by_cases hk : noName x.1 = true
      · rw [if_pos hk] at h ⊢
        rw [if_pos hk]
        have h1 : 0 ≤ growF bs l (r - 1) := by
          rcases Int.lt_or_le (growF bs l (r - 1)) 0 with h2 | h2
          · rw [growF_neg bs s _ h2] at h; omega
          · exact h2
        have e1 := growF_eq bs l (r - 1) h1
        have e2 := growF_eq bs s _ h
        rw [e2, e1]
        simp only [nodesF]
        omega
      · rw [if_neg hk] at h ⊢
        rw [if_neg hk]
        have e2 := growF_eq bs s _ h
        rw [e2, szB_eq]
        simp only [nodesF]
        omega
theorem growN_eq (bs : List Bn) (x : ByteArray × Int) (l : Fo) (r : Int) (h : 0 ≤ growN bs x l r) : growN bs x l r = r - (nodesF (pinN bs x l).2 + 1 : Nat) := by
  unfold growN at h ⊢
  unfold pinN
  by_cases hk : noName x.1 = true
  · rw [if_pos hk] at h ⊢
    rw [if_pos hk, growF_eq bs l _ h]
    simp only
    omega
  · rw [if_neg hk] at h ⊢
    rw [if_neg hk, szB_eq]
/-- What the document's Apply leaves. -/
def RApplyEnd (sg : List Sym) (bs : List Bn) (x : ByteArray × Int) (l : Fo) (w : World) (e : Ending) (w' : World) : Prop := Below w.heap.size w w' ∧
  ((growN bs x l 400 < 0 ∧ e = .returned (.tuple #[.agg #[.string ⟨#[]⟩, .int .i64 0, .slice none 0 0], .int .i64 73])) ∨
   (0 ≤ growN bs x l 400 ∧ ∃ (r : Tn) (a' : Option Addr) (c' : Nat), r = canonT (sgOf sg) (pinN bs x l) ∧ e = .returned (.tuple #[.agg #[.string r.1.1, .int .i64 r.1.2, .slice a' (lenF r.2) c'], .int .i64 0]) ∧ OwnTm false (fun q => w.heap.size ≤ q) w' r.1 a' c' r.2))
end Go.Proofs.YtgcnjpiiofjljaaGreatDoor
/- Plain: of binds with unlike names, and of right terms, the program puts in what the document does. -/
namespace Go.Proofs.YtgcnjpiiofjljaaGreatDoor
open Go.RowKit

theorem getB_snoc (l : List Bn) (x : Bn) (s : ByteArray) : getB (l ++ [x]) s = match getB l s with | some t => some t | none => if x.1 = s then some x.2 else none := by
  unfold getB
  rw [List.find?_append]
  cases h : l.find? (fun b => decide (b.1 = s)) with
  | some b => rfl
  | none =>
    by_cases hx : x.1 = s
    · simp [hx]
    · simp [hx]
theorem getB_none {l : List Bn} {s : ByteArray} (h : ∀ b ∈ l, b.1 ≠ s) : getB l s = none := by
  unfold getB
  rw [List.find?_eq_none.2 (fun b hb => by simpa using h b hb)]
  rfl
theorem lk_get (s : ByteArray) : ∀ r : List Bn, (r.reverse.map (·.1)).Nodup → lkB r.reverse s = getB r.reverse s
  | [], _ => rfl
  | x :: r, h => by
    rw [List.reverse_cons] at h ⊢
    rw [List.map_append, List.nodup_append] at h
    rw [lkB_snoc, getB_snoc, ← lk_get s r h.1]
    by_cases hs : s = x.1
    · have hn : getB r.reverse s = none := getB_none fun b hb e => h.2.2 b.1 (List.mem_map.2 ⟨b, hb, rfl⟩) x.1 (by simp) (by rw [e, hs])
      rw [lk_get s r h.1, hn]
      simp [hs]
    · have hs' : ¬ x.1 = s := fun e => hs e.symm
      simp only [if_neg hs]
      cases lkB r.reverse s with
      | some t => rfl
      | none => simp only [if_neg hs']
theorem lk_get' {bs : List Bn} (h : (bs.map (·.1)).Nodup) (s : ByteArray) : lkB bs s = getB bs s := by
  have := lk_get s bs.reverse (by rw [List.reverse_reverse]; exact h)
  rwa [List.reverse_reverse] at this
/-- Of right terms both put in the same. -/
theorem put_pin {S : Sg} {ar : Int → Nat} {bs : List Bn} (hb : (bs.map (·.1)).Nodup) : ∀ F : Fo, RightF S ar F → putF (lkB bs) F = pinF bs F
  | .nil, _ => rfl
  | .node B O x l r, h => by
    obtain ⟨⟨h1, h2⟩, h3⟩ := h
    unfold putF pinF
    have i2 := put_pin hb l h2
    have i3 := put_pin hb r h3
    unfold lkN
    by_cases hn : noName x.1 = true
    · rw [if_pos hn, if_pos hn]
      simp only
      rw [i2, i3]
    · rw [if_neg hn, if_neg hn, lk_get' hb, i3, i2]
      unfold getN
      cases getB bs x.1 with
      | some t => rfl
      | none =>
        unfold nodeOk at h1
        rw [if_pos (by simpa using hn)] at h1
        have hl := len_nil h1.2
        subst hl
        have hx : x = (x.1, 0) := Prod.ext rfl h1.1
        simp only [pinF]
        rw [← hx]
theorem putN_pin {S : Sg} {ar : Int → Nat} {bs : List Bn} (hb : (bs.map (·.1)).Nodup) (x : ByteArray × Int) (l : Fo) (h : RightT S ar (x, l)) : putN (lkB bs) x l = pinN bs x l := by
  obtain ⟨h1, h2⟩ := h
  unfold putN pinN lkN
  by_cases hn : noName x.1 = true
  · rw [if_pos hn, if_pos hn]
    simp only
    rw [put_pin hb l h2]
  · rw [if_neg hn, if_neg hn, lk_get' hb]
    unfold getN
    cases getB bs x.1 with
    | some t => rfl
    | none =>
      unfold nodeOk at h1
      rw [if_pos (by simpa using hn)] at h1
      have hl := len_nil h1.2
      subst hl
      have hx : x = (x.1, 0) := Prod.ext rfl h1.1
      simp only [putF]
      rw [← hx]
theorem left0F_nn : ∀ (F : Fo) (r : Int), (nodesF F : Int) ≤ r → 0 ≤ left0F F r
  | .nil, r, h => by simpa [left0F, nodesF] using h
  | .node _ _ x l s, r, h => by
    simp only [nodesF] at h
    unfold left0F
    rw [if_neg (by omega)]
    have h1 := left0F_nn l (r - 1) (by omega)
    have e1 := left0F_eq l (r - 1) h1
    exact left0F_nn s _ (by omega)
theorem leftF_nn (lk : ByteArray → Option Tn) : ∀ (F : Fo) (r : Int), (nodesF (putF lk F) : Int) ≤ r → 0 ≤ leftF lk F r
  | .nil, r, h => by simpa [leftF, putF, nodesF] using h
  | .node _ _ x l s, r, h => by
    unfold putF at h
    unfold leftF
    cases hk : lkN lk x.1 with
    | none =>
      rw [hk] at h
      simp only [nodesF] at h
      rw [if_neg (by omega)]
      simp only
      have h1 := leftF_nn lk l (r - 1) (by omega)
      have e1 := leftF_eq lk l (r - 1) h1
      exact leftF_nn lk s _ (by omega)
    | some t =>
      rw [hk] at h
      simp only [nodesF] at h
      rw [if_neg (by omega)]
      simp only
      have h1 := left0F_nn t.2 (r - 1) (by omega)
      have e1 := left0F_eq t.2 (r - 1) h1
      exact leftF_nn lk s _ (by omega)
theorem leftN_iff (lk : ByteArray → Option Tn) (x : ByteArray × Int) (l : Fo) (r : Int) : 0 ≤ leftN lk x l r ↔ ((nodesF (putN lk x l).2 + 1 : Nat) : Int) ≤ r := by
  constructor
  · intro h
    have := leftN_eq lk x l r h
    omega
  · intro h
    unfold putN at h
    unfold leftN
    cases hk : lkN lk x.1 with
    | none => rw [hk] at h; exact leftF_nn lk l _ (by simp only at h; omega)
    | some t => rw [hk] at h; exact left0F_nn t.2 _ (by simp only at h; omega)
theorem growF_nn (bs : List Bn) : ∀ (F : Fo) (r : Int), (nodesF (pinF bs F) : Int) ≤ r → 0 ≤ growF bs F r
  | .nil, r, h => by simpa [growF, pinF, nodesF] using h
  | .node _ _ x l s, r, h => by
    unfold pinF at h
    unfold growF
    by_cases hn : noName x.1 = true
    · rw [if_pos hn] at h
      simp only [nodesF] at h
      rw [if_neg (by omega), if_pos hn]
      have h1 := growF_nn bs l (r - 1) (by omega)
      have e1 := growF_eq bs l (r - 1) h1
      exact growF_nn bs s _ (by omega)
    · rw [if_neg hn] at h
      simp only [nodesF] at h
      rw [if_neg (by omega), if_neg hn, szB_eq]
      exact growF_nn bs s _ (by omega)
theorem growN_iff (bs : List Bn) (x : ByteArray × Int) (l : Fo) (r : Int) : 0 ≤ growN bs x l r ↔ ((nodesF (pinN bs x l).2 + 1 : Nat) : Int) ≤ r := by
  constructor
  · intro h
    have := growN_eq bs x l r h
    omega
  · intro h
    unfold pinN at h
    unfold growN
    by_cases hn : noName x.1 = true
    · rw [if_pos hn] at h ⊢
      exact growF_nn bs l _ (by simp only at h; omega)
    · rw [if_neg hn] at h ⊢
      rw [szB_eq]
      omega
/-- The program's Apply and the document's, of a right term by unlike names: too great just if the other one is, and the same canonical form. -/
theorem fits_alike {S : Sg} {ar : Int → Nat} {bs : List Bn} (hb : (bs.map (·.1)).Nodup) (x : ByteArray × Int) (l : Fo) (h : RightT S ar (x, l)) (r : Int) : 0 ≤ leftN (lkB bs) x l r ↔ 0 ≤ growN bs x l r := by
  rw [leftN_iff, growN_iff, putN_pin hb x l h]
theorem getN_right {S : Sg} {ar : Int → Nat} {bs : List Bn} (hb : ∀ b ∈ bs, RightT S ar b.2) {s : ByteArray} (hs : noName s = false) : RightT S ar (getN bs s) := by
  unfold getN
  cases h : getB bs s with
  | none =>
    refine ⟨?_, trivial⟩
    unfold nodeOk
    rw [if_pos hs]
    exact ⟨rfl, rfl⟩
  | some t =>
    unfold getB at h
    cases hf : bs.find? (fun b => decide (b.1 = s)) with
    | none => rw [hf] at h; cases h
    | some b =>
      rw [hf] at h
      have h1 : b.2 = t := Option.some.inj h
      have h2 := hb b (List.mem_of_find?_eq_some hf)
      rw [h1] at h2
      exact h2
theorem pinF_right {S : Sg} {ar : Int → Nat} {bs : List Bn} (hb : ∀ b ∈ bs, RightT S ar b.2) : ∀ F : Fo, RightF S ar F → RightF S ar (pinF bs F)
  | .nil, _ => trivial
  | .node B O x l r, h => by
    obtain ⟨⟨h1, h2⟩, h3⟩ := h
    unfold pinF
    by_cases hn : noName x.1 = true
    · rw [if_pos hn]
      exact ⟨⟨by rw [pinF_len]; exact h1, pinF_right hb l h2⟩, pinF_right hb r h3⟩
    · rw [if_neg hn]
      have := getN_right hb (s := x.1) (by simpa using hn)
      exact ⟨⟨this.1, this.2⟩, pinF_right hb r h3⟩
/-- What is put in right terms' places makes right terms. -/
theorem pinN_right {S : Sg} {ar : Int → Nat} {bs : List Bn} (hb : ∀ b ∈ bs, RightT S ar b.2) (x : ByteArray × Int) (l : Fo) (h : RightT S ar (x, l)) : RightT S ar (pinN bs x l) := by
  unfold pinN
  by_cases hn : noName x.1 = true
  · rw [if_pos hn]
    exact ⟨by show nodeOk S ar x (lenF (pinF bs l)); rw [pinF_len]; exact h.1, pinF_right hb l h.2⟩
  · rw [if_neg hn]
    exact getN_right hb (by simpa using hn)
end Go.Proofs.YtgcnjpiiofjljaaGreatDoor
/- The document's Over. -/
namespace Go.Proofs.YtgcnjpiiofjljaaGreatDoor
open Go.RowKit Go.Deep Go.Shelf

def OverOk (k : Nat) : Prop := ∀ (x : ByteArray × Int) (l : Fo) (a : Option Addr) (c : Nat) (room : Int) (w : World), nodesF l ≤ k → TmAt w x a c l → 0 ≤ room → room ≤ 1048576 →
  Calls Tryz.prog 65 #[.agg #[.string x.1, .int .i64 x.2, .slice a (lenF l) c], .int .i64 room] w fun e w' => e = .returned (.int .i64 (left0F l (room - 1))) ∧ Below w.heap.size w w'
set_option maxRecDepth 100000 in
set_option maxHeartbeats 2000000 in
theorem over_all : ∀ k, OverOk k := by
  intro k
  induction k using Nat.strongRecOn with
  | _ k ih =>
    intro x l a c room w hk hT hr0 hr4
    have HT := hid hT
    have IH : Hid (∀ j, j < k → OverOk j) := ih
    have O0 := hid (One.new w x a (lenF l) c)
    have hn0 := len_nodes l
    have hln : lenF l ≤ 2932031007402 := by have := hT.sizes.few; omega
    clear hT ih
    go_enter Tryz.func65, Tryz.ntmps65
    go_wp2_with fail
    generalize w.alloc (.cells #[.string x.1, .int .i64 x.2, .slice a (lenF l) c] 27) = V at O0 ⊢
    go_loopw [1, 5] (fun rv iv wr => ∃ (j : Nat) (r : Int), j ≤ lenF l ∧ rv = .int .i64 r ∧ iv = .int .i64 j ∧ -1 ≤ r ∧ r ≤ 1048576 ∧ One w x a (lenF l) c wr ∧ left0F (dropF j l) r = left0F l (room - 1)) (fun _ iv _ => lenF l - (intOf iv).toNat)
    case atStart => exact ⟨0, room - 1, Nat.zero_le _, rfl, rfl, by omega, by omega, O0.out, by rw [drop_zero]⟩
    case round =>
      obtain ⟨j, r, hj, rfl, rfl, hr1, hr2, hO, hm⟩ := hrel
      have HO := hid hO
      have t2 := hO.t.c2
      by_cases hlt : j < lenF l
      · obtain ⟨b1, o1, rfl, hk1⟩ := HT.out.args.get (by omega)
        obtain ⟨z, a1, c1, l1, kd⟩ := hk1.kid (k := j) hlt
        have kd' := kd.below hO.low
        obtain ⟨B1, O1', s1⟩ := kd.split
        rw [s1] at hm
        have p0 := kd'.name; have p1 := kd'.sym; have p2 := kd'.list
        by_cases hr : r < 0
        · rw [left0F_neg _ r hr] at hm
          clear kd kd' s1 hk1 hO
          go_wp2_with fail
          go_ret
          exact ⟨by rw [← hm] <;> rfl, HO.out.low⟩
        · have HC := hid (IH.out (nodesF l1) (by have := kd.less; omega) z l1 a1 c1 r wr (Nat.le_refl _) kd'.at_ (by omega) hr2)
          have hstep : left0F (dropF (j + 1) l) (left0F l1 (r - 1)) = left0F l (room - 1) := by
            rw [← hm]
            conv => rhs; unfold left0F
            rw [if_neg hr]
          have HS := hid hstep
          have hbd := left0F_bd l1 (r - 1) (by omega)
          clear kd kd' s1 hk1 hO hstep
          go_wp2_with fail
          refine HC.out.mono ?_
          rintro e w3 ⟨rfl, hb3⟩
          have HO4 := hid (HO.out.below hb3)
          clear hb3 p0 p1 p2 t2
          go_wp2_with fail
          go_roundw
          case rel => exact ⟨j + 1, left0F l1 (r - 1), by omega, rfl, by go_num, hbd.1, by omega, HO4.out, HS.out⟩
          case measure => simp [intOf]; omega
      · have e1 : j = lenF l := by omega
        rw [e1, drop_end] at hm
        have hm' : r = left0F l (room - 1) := hm
        go_wp2_with fail
        go_ret
        exact ⟨by rw [hm'] <;> rfl, HO.out.low⟩
/-- Over: are there more nodes than these? -/
theorem over_any (x : ByteArray × Int) (l : Fo) (a : Option Addr) (c : Nat) (most : Nat) (w : World) (hT : TmAt w x a c l) (hm : most ≤ 1048576) :
    Calls Tryz.prog 44 #[.agg #[.string x.1, .int .i64 x.2, .slice a (lenF l) c], .int .i64 most] w fun e w' => e = .returned (.bool (decide (most < nodesF l + 1))) ∧ Below w.heap.size w w' := by
  have O0 := hid (One.new w x a (lenF l) c)
  have b1 := alloc_below0 w (.cells #[.string x.1, .int .i64 x.2, .slice a (lenF l) c] 27)
  have HC := hid (over_all (nodesF l) x l a c most _ (Nat.le_refl _) (hT.below b1) (by omega) (by omega))
  have B1 := hid b1
  have t0 := O0.out.t.c0; have t1 := O0.out.t.c1; have t2 := O0.out.t.c2
  have hd : decide (left0F l ((most : Int) - 1) < 0) = decide (most < nodesF l + 1) := by
    by_cases h : 0 ≤ left0F l ((most : Int) - 1)
    · have := left0F_eq l _ h
      rw [decide_eq_false (by omega), decide_eq_false (by omega)]
    · rw [decide_eq_true (by omega), decide_eq_true]
      rcases Nat.lt_or_ge most (nodesF l + 1) with h1 | h1
      · exact h1
      · exact absurd (left0F_nn l ((most : Int) - 1) (by omega)) h
  have HD := hid hd
  clear hT b1 hd
  go_enter Tryz.func44, Tryz.ntmps44
  go_wp2_with fail
  refine HC.out.mono ?_
  rintro e w1 ⟨rfl, hb⟩
  have HL := hid (B1.out.trans (hb.mono B1.out.size))
  clear hb HC
  go_wp2_with fail
  go_ret
  exact ⟨by rw [← HD.out] <;> rfl, HL.out⟩
end Go.Proofs.YtgcnjpiiofjljaaGreatDoor
/- What the document's Check and Is answer of binds. -/
namespace Go.Proofs.YtgcnjpiiofjljaaGreatDoor
open Go.RowKit Go.Deep

/-- A text that is not above another one. -/
def leS (a b : ByteArray) : Bool := Op.bytesLess a.toList b.toList || (a.toList == b.toList)
def badV (prev : Option ByteArray) (x : Bn) : Bool := !(varB x.1) || (match prev with | some p => leS x.1 p | none => false) || (x.2.1.1.toList == x.1.toList)
/-- What may not be of a bind behind another one. -/
def bdE (sg : List Sym) (prev : Option ByteArray) (x : Bn) : Int :=
  if badV prev x = true then 71 else if 400 < nodesF x.2.2 + 1 then 73 else if rightB sg x.2 = false then 72 else if exN (canonT (sgOf sg) x.2).1 x.2.1 (canonT (sgOf sg) x.2).2 x.2.2 = false then 72 else 0
/-- The first bind that may not be. -/
def chkB (sg : List Sym) : List Bn → Option ByteArray → Nat → Int × Nat
  | [], _, _ => (0, 0)
  | x :: r, p, i => if bdE sg p x = 0 then chkB sg r (some x.1) (i + 1) else (bdE sg p x, i)
def prevB (bs : List Bn) (j : Nat) : Option ByteArray := if j = 0 then none else (bs[j - 1]?).map (·.1)
theorem chkB_step {sg : List Sym} {bs : List Bn} {j : Nat} (h : j < bs.length) : chkB sg (bs.drop j) (prevB bs j) j = if bdE sg (prevB bs j) bs[j] = 0 then chkB sg (bs.drop (j + 1)) (prevB bs (j + 1)) (j + 1) else (bdE sg (prevB bs j) bs[j], j) := by
  rw [List.drop_eq_getElem_cons h]
  conv => lhs; unfold chkB
  have : prevB bs (j + 1) = some bs[j].1 := by simp [prevB, h]
  rw [this]
set_option maxRecDepth 100000 in
set_option maxHeartbeats 8000000 in
theorem rchk_any (S : Option Addr) (n cap : Nat) (sg : List Sym) (p : Option Addr) (bcap : Nat) (bs : List Bn) (w : World) (hS : SigAt w S n sg) (hB : BindsAt w p bs.length bs) (hn : bs.length ≤ 1048576) (hnd : ∀ b ∈ bs, nodesF b.2.2 ≤ 1048576) :
    Calls Tryz.prog 27 #[.slice S n cap, .slice p bs.length bcap] w fun e w' => e = .returned (.tuple #[.int .i64 (chkB sg bs none 0).1, .int .i64 (chkB sg bs none 0).2]) ∧ Below w.heap.size w w' := by
  have HB := hid hB; have HS := hid hS; have HND := hid hnd
  obtain ⟨R, hR⟩ : ∃ R, chkB sg bs none 0 = R := ⟨_, rfl⟩
  rw [hR]
  have HR := hid hR
  clear hB hS hnd hR
  go_enter Tryz.func27, Tryz.ntmps27
  go_wp2_with fail
  go_loopw [6, 7, 8, 9, 10] (fun iv _ _ _ _ wr => ∃ (j : Nat), j ≤ bs.length ∧ iv = .int .i64 j ∧ chkB sg (bs.drop j) (prevB bs j) j = R ∧ Below w.heap.size w wr) (fun iv _ _ _ _ _ => bs.length - (intOf iv).toNat)
  case atStart => exact ⟨0, Nat.zero_le _, rfl, HR.out, Below.refl _ _⟩
  case round =>
    obtain ⟨j, hj, rfl, hc, hlow⟩ := hrel
    have HW := hid hlow
    clear hlow
    by_cases hlt : j < bs.length
    · rw [chkB_step hlt] at hc
      obtain ⟨b1, o1, a1, c1, rfl, hbd⟩ := (HB.out.below HW.out).cells j hlt
      have hfit := HB.out.fits bs[j] (List.getElem_mem hlt)
      have hnod := HND.out bs[j] (List.getElem_mem hlt)
      obtain ⟨⟨vn, ⟨x, l⟩⟩, hy⟩ : ∃ y, bs[j] = y := ⟨_, rfl⟩
      rw [hy] at hbd hc hfit hnod
      have HBD := hid hbd; have HC := hid hc
      have p0 := hbd.var
      dsimp only at p0 hfit hnod
      have HV := hid (rvar_any vn wr hfit)
      clear hbd hc hy
      go_wp2_with fail
      refine HV.out.mono ?_
      rintro e w1 ⟨rfl, hw1⟩
      subst w1
      have HOV := hid fun (W : World) (hW : Below wr.heap.size wr W) => over_any x l a1 c1 400 W (HBD.out.tm.below hW) (by decide)
      have HRT := hid fun (W : World) (hW : Below wr.heap.size wr W) => rright_any S n cap sg (x, l) a1 c1 W ((HS.out.below HW.out).below hW) (HBD.out.tm.below hW)
      have HIS := hid fun (W : World) (hW : Below wr.heap.size wr W) => is_any S n cap sg (x, l) a1 c1 W ((HS.out.below HW.out).below hW) (HBD.out.tm.below hW) hnod
      have hne := later_some wr
      have q0 := later_cell HBD.out.var; have q1 := later_cell HBD.out.name
      dsimp only at q0 q1 HRT HIS
      have hj0 : (0 : Int) ≤ (j : Int) := by omega
      have hjn : (j : Int) < (bs.length : Int) := by omega
      clear p0 HV
      obtain ⟨bv, hbv⟩ : ∃ bv, badV (prevB bs j) (vn, (x, l)) = bv := ⟨_, rfl⟩
      have HBW := hid hbv
      go_upto_region 5 with fail
      go_cut [56] (fun cv wx => cv = .bool bv ∧ Below wr.heap.size wr wx)
      case first =>
        by_cases hv : varB vn = true
        · by_cases hjz : j = 0
          · subst hjz
            simp only [Nat.zero_mul, Nat.add_zero] at q0 q1
            by_cases he : x.1.toList = vn.toList
            · have HBV : Hid (bv = true) := hid (by rw [← hbv]; simp [badV, prevB, hv, he])
              have heb : (x.1.toList == vn.toList) = true := by simp [he]
              clear hbv
              (refine wp_region_later (by kernel_rfl) (by kernel_rfl) ?_
               repeat (go_big_quiet_step (fail))
               refine wpQuiet_nil ?_
               intro _ hw'
               obtain ⟨b2, hw''⟩ := hw'
               subst hw''
               go_wp2
               go_meet
               exact ⟨congrArg Value.bool (by rw [HBV.out]), b2.below⟩)
            · have HBV : Hid (bv = false) := hid (by rw [← hbv]; simp [badV, prevB, hv, he])
              have heb : (x.1.toList == vn.toList) = false := by simp [he]
              clear hbv
              (refine wp_region_later (by kernel_rfl) (by kernel_rfl) ?_
               repeat (go_big_quiet_step (fail))
               refine wpQuiet_nil ?_
               intro _ hw'
               obtain ⟨b2, hw''⟩ := hw'
               subst hw''
               go_wp2
               go_meet
               exact ⟨congrArg Value.bool (by rw [HBV.out]), b2.below⟩)
          · obtain ⟨jp, rfl⟩ : ∃ jp, j = jp + 1 := ⟨j - 1, by omega⟩
            obtain ⟨b2', o2', a2', c2', e2', hbd'⟩ := (HB.out.below HW.out).cells jp (by omega)
            cases e2'
            obtain ⟨vp, hvp⟩ : ∃ vp, bs[jp].1 = vp := ⟨_, rfl⟩
            have r0 := later_cell hbd'.var
            rw [hvp] at r0
            have hpv : prevB bs (jp + 1) = some vp := by rw [← hvp]; simp [prevB, (show jp < bs.length by omega)]
            have hjp : (0 : Int) < ((jp + 1 : Nat) : Int) := by omega
            have hjq : (((jp + 1 : Nat) : Int) - 1) = (jp : Int) := by omega
            clear hbd' hvp
            rw [hpv] at hbv
            cases hl1 : Op.bytesLess vn.toList vp.toList
            · by_cases hl2 : vn.toList = vp.toList
              · have HBV : Hid (bv = true) := hid (by rw [← hbv]; simp [badV, leS, hl2])
                have hlb : (vn.toList == vp.toList) = true := by simp [hl2]
                clear hbv
                (refine wp_region_later (by kernel_rfl) (by kernel_rfl) ?_
                 repeat (go_big_quiet_step (fail))
                 refine wpQuiet_nil ?_
                 intro _ hw'
                 obtain ⟨b2, hw''⟩ := hw'
                 subst hw''
                 go_wp2
                 go_meet
                 exact ⟨congrArg Value.bool (by rw [HBV.out]), b2.below⟩)
              · have hlb : (vn.toList == vp.toList) = false := by simp [hl2]
                by_cases he : x.1.toList = vn.toList
                · have HBV : Hid (bv = true) := hid (by rw [← hbv]; simp [badV, he])
                  have heb : (x.1.toList == vn.toList) = true := by simp [he]
                  clear hbv
                  (refine wp_region_later (by kernel_rfl) (by kernel_rfl) ?_
                   repeat (go_big_quiet_step (fail))
                   refine wpQuiet_nil ?_
                   intro _ hw'
                   obtain ⟨b2, hw''⟩ := hw'
                   subst hw''
                   go_wp2
                   go_meet
                   exact ⟨congrArg Value.bool (by rw [HBV.out]), b2.below⟩)
                · have HBV : Hid (bv = false) := hid (by rw [← hbv]; simp [badV, leS, hv, hl1, hl2, he])
                  have heb : (x.1.toList == vn.toList) = false := by simp [he]
                  clear hbv
                  (refine wp_region_later (by kernel_rfl) (by kernel_rfl) ?_
                   repeat (go_big_quiet_step (fail))
                   refine wpQuiet_nil ?_
                   intro _ hw'
                   obtain ⟨b2, hw''⟩ := hw'
                   subst hw''
                   go_wp2
                   go_meet
                   exact ⟨congrArg Value.bool (by rw [HBV.out]), b2.below⟩)
            · have HBV : Hid (bv = true) := hid (by rw [← hbv]; simp [badV, leS, hl1])
              clear hbv
              (refine wp_region_later (by kernel_rfl) (by kernel_rfl) ?_
               repeat (go_big_quiet_step (fail))
               refine wpQuiet_nil ?_
               intro _ hw'
               obtain ⟨b2, hw''⟩ := hw'
               subst hw''
               go_wp2
               go_meet
               exact ⟨congrArg Value.bool (by rw [HBV.out]), b2.below⟩)
        · have hv' : varB vn = false := by simpa using hv
          have HBV : Hid (bv = true) := hid (by rw [← hbv]; simp [badV, hv'])
          clear hbv
          (refine wp_region_later (by kernel_rfl) (by kernel_rfl) ?_
           repeat (go_big_quiet_step (fail))
           refine wpQuiet_nil ?_
           intro _ hw'
           obtain ⟨b2, hw''⟩ := hw'
           subst hw''
           go_wp2
           go_meet
           exact ⟨congrArg Value.bool (by rw [HBV.out]), b2.below⟩)
      case rest =>
        obtain ⟨rfl, hb5⟩ := hcut
        have HW5 := hid hb5
        clear q0 q1 hne hb5
        have hR : R = if badV (prevB bs j) (vn, (x, l)) = true then (71, j) else if 400 < nodesF l + 1 then (73, j) else if rightB sg (x, l) = false then (72, j) else if exN (canonT (sgOf sg) (x, l)).1 x (canonT (sgOf sg) (x, l)).2 l = false then (72, j) else chkB sg (bs.drop (j + 1)) (prevB bs (j + 1)) (j + 1) := by
          rw [← HC.out]
          unfold bdE
          dsimp only
          split
          · rfl
          · split
            · rfl
            · split
              · rfl
              · split
                · rfl
                · rfl
        rw [hbv] at hR
        cases bv with
        | true =>
          rw [if_pos rfl] at hR
          subst hR
          go_wp2
          go_ret2
          exact ⟨rfl, HW.out.trans (HW5.out.mono HW.out.size)⟩
        | false =>
          rw [if_neg (by simp)] at hR
          have HRR := hid hR
          clear hR hbv HBW HC
          have bd := HBD.out.below HW5.out
          have p1 := bd.name; have p2 := bd.sym; have p3 := bd.list
          dsimp only at p1 p2 p3
          clear bd
          go_wp2_with fail
          refine (HOV.out _ HW5.out).mono ?_
          rintro e w6 ⟨rfl, hb6⟩
          have HW6 := hid (HW5.out.trans (hb6.mono HW5.out.size))
          clear hb6 p1 p2 p3
          by_cases hov : 400 < nodesF l + 1
          · have hR := HRR.out
            rw [if_pos hov] at hR
            rw [decide_eq_true hov]
            subst hR
            clear HRR hov
            go_wp2
            go_ret2
            exact ⟨rfl, HW.out.trans (HW6.out.mono HW.out.size)⟩
          · have hR := HRR.out
            rw [if_neg hov] at hR
            rw [decide_eq_false hov]
            have HRR2 := hid hR
            clear HRR hov hR
            have bd := HBD.out.below HW6.out
            have p1 := bd.name; have p2 := bd.sym; have p3 := bd.list
            dsimp only at p1 p2 p3
            clear bd
            go_wp2_with fail
            refine (HRT.out _ HW6.out).mono ?_
            rintro e w7 ⟨rfl, hb7⟩
            have HW7 := hid (HW6.out.trans (hb7.mono HW6.out.size))
            clear hb7 p1 p2 p3
            cases hrt : rightB sg (x, l) with
            | false =>
              have hR := HRR2.out
              rw [if_pos hrt] at hR
              subst hR
              clear HRR2 hrt
              go_wp2
              go_ret2
              exact ⟨rfl, HW.out.trans (HW7.out.mono HW.out.size)⟩
            | true =>
              have hR := HRR2.out
              rw [if_neg (by simp [hrt])] at hR
              have HRR3 := hid hR
              clear HRR2 hrt hR
              have bd := HBD.out.below HW7.out
              have p1 := bd.name; have p2 := bd.sym; have p3 := bd.list
              dsimp only at p1 p2 p3
              clear bd
              go_wp2_with fail
              refine (HIS.out _ HW7.out).mono ?_
              rintro e w8 ⟨rfl, hb8⟩
              have HW8 := hid (HW7.out.trans (hb8.mono HW7.out.size))
              clear hb8 p1 p2 p3
              cases hex : exN (canonT (sgOf sg) (x, l)).1 x (canonT (sgOf sg) (x, l)).2 l with
              | false =>
                have hR := HRR3.out
                rw [if_pos hex] at hR
                subst hR
                clear HRR3 hex
                go_wp2
                go_ret2
                exact ⟨rfl, HW.out.trans (HW8.out.mono HW.out.size)⟩
              | true =>
                have hR := HRR3.out
                rw [if_neg (by simp [hex])] at hR
                have HRR4 := hid hR
                clear HRR3 hex hR
                go_wp2
                go_roundw
                case rel =>
                  exact ⟨j + 1, by omega, by go_num, HRR4.out.symm, HW.out.trans (HW8.out.mono HW.out.size)⟩
                case measure => simp [intOf]; omega
    · have he : j = bs.length := by omega
      rw [he, List.drop_length] at hc
      have hc' : R = (0, 0) := hc.symm
      subst hc'
      clear hc he
      go_wp2
      go_ret2
      exact ⟨rfl, HW.out⟩
end Go.Proofs.YtgcnjpiiofjljaaGreatDoor
/- What the document's Names and Vars answer. -/
namespace Go.Proofs.YtgcnjpiiofjljaaGreatDoor
open Go.RowKit Go.Deep

/-- The slice with this address holds these texts. -/
structure TextsAt (w : World) (a : Option Addr) (n : Nat) (ss : List Nm) : Prop where
  len : n = ss.length
  cells : ∀ i (h : i < ss.length), ∃ b off, a = some ⟨b, off, none⟩ ∧ w.cell? ⟨b, off + i, none⟩ = some (.string ⟨ss[i].toArray⟩)
set_option maxRecDepth 100000 in
theorem TextsAt.below {w w' : World} {a : Option Addr} {n : Nat} {ss : List Nm} (h : TextsAt w a n ss) (hb : Below w.heap.size w w') : TextsAt w' a n ss :=
  ⟨h.len, fun i hi => by obtain ⟨b, off, ha, hc⟩ := h.cells i hi; exact ⟨b, off, ha, below_cell hb _ _ hc⟩⟩
set_option maxRecDepth 100000 in
theorem texts_of_owns {w : World} {base n : Nat} {v : Value} {ss : List Nm} (h : w.ownsRow base 9 1 v n (ss.map encStr)) : ∃ a cap, v = .slice a n cap ∧ n ≤ cap ∧ cap ≤ maxLen ∧ TextsAt w a n ss ∧ (a = none → n = 0 ∧ cap = 0) ∧ (∀ b off sp, a = some ⟨b, off, sp⟩ → base ≤ b ∧ off = 0 ∧ sp = none ∧ ∃ cur, w.heap[b]? = some (Obj.cells cur 9 (0, 0))) := by
  have hl : ss.length = n := by simpa using h.1
  rcases h.2 with ⟨rfl, h0⟩ | ⟨g, cap, cur, rfl, hb, hg, hnc, hcm, hsz, hcur⟩
  · exact ⟨none, 0, by rw [h0], by omega, by simp, ⟨by omega, fun i hi => by omega⟩, fun _ => ⟨h0, rfl⟩, fun b off sp e => by cases e⟩
  · refine ⟨_, cap, rfl, hnc, hcm, ⟨hl.symm, fun i hi => ⟨g, 0, rfl, ?_⟩⟩, (fun e => by cases e), (fun b off sp e => by cases e; exact ⟨hb, rfl, rfl, cur, hg⟩)⟩
    exact owns_at h i _ (by simp [hi])
set_option maxRecDepth 100000 in
theorem less_bytes (a b : Nm) : Op.bytesLess a b = decide (Lib.compareBytes a b = -1) := by
  rw [bytesLess_eq]
  exact decide_eq_decide.2 (lt_bytes _ _)

set_option maxRecDepth 100000 in
theorem own_empty9 (w : World) : (w.alloc (.cells #[] 9)).ownsRow w.heap.size 9 1 (.slice (some ⟨w.heap.size, 0, none⟩) 0 0) 0 [] :=
  ⟨rfl, Or.inr ⟨w.heap.size, 0, #[], rfl, Nat.le_refl _, heap_alloc_new w _, Nat.le_refl _, by simp, rfl, rfl⟩⟩
set_option maxRecDepth 100000 in
theorem own_base9 {w : World} {B B' k : Nat} {v : Value} {xs : List Value} (h : w.ownsRow B 9 1 v k xs) (hB : B' ≤ B) : w.ownsRow B' 9 1 v k xs := by
  refine ⟨h.1, ?_⟩
  rcases h.2 with h | ⟨g, cap, cur, h1, h2, h3⟩
  · exact .inl h
  · exact .inr ⟨g, cap, cur, h1, by omega, h3⟩
set_option maxRecDepth 100000 in
theorem enc_one (l : List Nm) : ∀ u ∈ l.map encStr, u.oneCell' = true := by
  intro u hu
  obtain ⟨x, _, rfl⟩ := List.mem_map.1 hu
  rfl
set_option maxRecDepth 100000 in
/-- Where a piece of a list of texts lies. -/
theorem texts_news {w : World} {g n : Nat} {out : List Nm} (h : TextsAt w (some ⟨g, 0, none⟩) n out) (m : Nat) : ∀ j u, ((out.drop m).map encStr)[j]? = some u → w.cell? ((⟨g, m, none⟩ : Addr).add j) = some u := by
  intro j u hu
  have e : (⟨g, m, none⟩ : Addr).add j = ⟨g, m + j, none⟩ := by unfold Addr.add; split <;> simp_all
  rw [e]
  rw [List.getElem?_map, List.getElem?_drop] at hu
  rcases Nat.lt_or_ge (m + j) out.length with hlt | hge
  · rw [List.getElem?_eq_getElem hlt] at hu
    simp only [Option.map_some, Option.some.injEq] at hu
    subst hu
    obtain ⟨b, off, hb, hc⟩ := h.cells (m + j) hlt
    cases hb
    rw [Nat.zero_add] at hc
    exact hc
  · rw [List.getElem?_eq_none hge] at hu; cases hu
set_option maxRecDepth 100000 in
theorem texts_front {w : World} {g n : Nat} {out : List Nm} (h : TextsAt w (some ⟨g, 0, none⟩) n out) (m : Nat) : ∀ j u, ((out.take m).map encStr)[j]? = some u → w.cell? ((⟨g, 0, none⟩ : Addr).add j) = some u := by
  intro j u hu
  refine texts_news h 0 j u ?_
  rw [List.drop_zero]
  rw [List.getElem?_map] at hu ⊢
  rw [List.getElem?_take] at hu
  split at hu
  · exact hu
  · cases hu

end Go.Proofs.YtgcnjpiiofjljaaGreatDoor
/- Of right terms: the order's nought is to be alike in every field. -/
namespace Go.Proofs.YtgcnjpiiofjljaaGreatDoor
open Go.RowKit Go.Deep

theorem names_iff (a b : ByteArray) : a.toList = b.toList ↔ a = b := by
  constructor
  · intro h
    rw [ByteArray.toList_eq, ByteArray.toList_eq] at h
    exact bytes_eq h
  · rintro rfl; rfl
theorem cmpS_self {a : ByteArray} (h : noName a = false) : cmpS a a = 0 := by
  have := cmpN_anti ((a, 0), .nil) ((a, 0), .nil)
  have e : cmpN ((a, 0), .nil) ((a, 0), .nil) = cmpS a a := by unfold cmpN cmp1; rw [if_pos h, if_pos h]
  rw [e] at this
  omega
theorem right1_ex {S : Sg} {ar : Int → Nat} {x y : ByteArray × Int} {n m : Nat} {deep : Int} {ex : Bool} (hx : nodeOk S ar x n) (hy : nodeOk S ar y m) (hz : n = 0 → ex = true) (hd : n = m → (deep = 0 ↔ ex = true)) :
    cmp1 x y n m deep = 0 ↔ (((x.1.toList == y.1.toList) && (x.2 == y.2) && (n == m) && ex) = true) := by
  simp only [Bool.and_eq_true, beq_iff_eq, names_iff]
  unfold nodeOk at hx hy
  unfold cmp1
  cases e1 : noName x.1 <;> cases e2 : noName y.1 <;> simp only [e1, e2, if_true, if_false, Bool.true_eq_false] at hx hy ⊢
  · constructor
    · intro h
      exact ⟨⟨⟨bytes_eq (bytes_zero h), hx.1.trans hy.1.symm⟩, hx.2.trans hy.2.symm⟩, hz hx.2⟩
    · rintro ⟨⟨⟨h, _⟩, _⟩, _⟩
      rw [h]
      exact cmpS_self e2
  · constructor
    · intro h; omega
    · rintro ⟨⟨⟨h, _⟩, _⟩, _⟩
      rw [h, e2] at e1
      cases e1
  · constructor
    · intro h; omega
    · rintro ⟨⟨⟨h, _⟩, _⟩, _⟩
      rw [h, e2] at e1
      cases e1
  · have hn : x.1 = y.1 := (noName_eq e1).trans (noName_eq e2).symm
    by_cases h1 : x.2 = y.2
    · rw [if_pos h1]
      by_cases h2 : n = m
      · rw [if_pos h2, hd h2]
        simp [hn, h1, h2]
      · rw [if_neg h2]
        constructor
        · intro h; exact absurd (by have := compareInt_zero h; omega) h2
        · rintro ⟨⟨_, h⟩, _⟩; exact absurd h h2
    · rw [if_neg h1]
      constructor
      · intro h; exact absurd (compareInt_zero h) h1
      · rintro ⟨⟨⟨_, h⟩, _⟩, _⟩; exact absurd h h1
theorem exF_nil {F G : Fo} (h : lenF F = 0) : exF F G = true := by rw [len_nil h]; cases G <;> rfl
theorem rightF_ex {S : Sg} {ar : Int → Nat} : ∀ {F G : Fo}, RightF S ar F → RightF S ar G → lenF F = lenF G → (cmpF F G = 0 ↔ exF F G = true)
  | .nil, _, _, _, _ => by simp [cmpF, exF]
  | .node _ _ _ _ _, .nil, _, _, h => by simp [lenF] at h
  | .node _ _ x l r, .node _ _ y m s, hF, hG, h => by
    simp only [lenF, Nat.add_right_cancel_iff] at h
    obtain ⟨⟨h1, h2⟩, h3⟩ := hF
    obtain ⟨⟨k1, k2⟩, k3⟩ := hG
    have i1 := right1_ex (deep := cmpF l m) (ex := exF l m) h1 k1 (fun e => exF_nil e) (fun e => rightF_ex h2 k2 e)
    have i2 := rightF_ex h3 k3 h
    rw [cmpF, thenC, exF, Bool.and_eq_true, ← i1, ← i2]
    by_cases hz : cmp1 x y (lenF l) (lenF m) (cmpF l m) = 0
    · simp [hz]
    · simp [hz]
theorem right_ex {S : Sg} {ar : Int → Nat} {x y : Tn} (hx : RightT S ar x) (hy : RightT S ar y) : (cmpN x y == 0) = exN x.1 y.1 x.2 y.2 := by
  have := right1_ex (deep := cmpF x.2 y.2) (ex := exF x.2 y.2) hx.1 hy.1 (fun e => exF_nil e) (fun e => rightF_ex hx.2 hy.2 e)
  unfold cmpN exN
  rw [Bool.eq_iff_iff, beq_iff_eq]
  exact this
theorem is_same {l : List Sym} {t r : Tn} (h : rightB l t = true) (hr : CanR l t r) : (cmpN t r == 0) = exN (canonT (sgOf l) t).1 t.1 (canonT (sgOf l) t).2 t.2 := by
  obtain ⟨h1, h2⟩ := right_facts h
  rw [hr.2 h1 h2, ← right_ex (right_of_can (canonT_can h1 h2)) h2]
  have := cmpN_anti t (canonT (sgOf l) t)
  rw [Bool.eq_iff_iff, beq_iff_eq, beq_iff_eq]
  omega
theorem exN_self (x : Tn) : exN x.1 x.1 x.2 x.2 = true := by
  have go : ∀ F : Fo, exF F F = true := by
    intro F
    induction F with
    | nil => rfl
    | node _ _ x l r ihl ihr => simp [exF, ihl, ihr]
  unfold exN
  simp [go]
end Go.Proofs.YtgcnjpiiofjljaaGreatDoor
/- Plain: what binds are that Check finds right. -/
namespace Go.Proofs.YtgcnjpiiofjljaaGreatDoor
open Go.RowKit Go.Deep

theorem leS_lt {a b : ByteArray} (h : leS a b = false) : LtN b.data.toList a.data.toList := by
  unfold leS at h
  rw [Bool.or_eq_false_iff, less_bytes, decide_eq_false_iff_not, beq_eq_false_iff_ne, ByteArray.toList_eq, ByteArray.toList_eq] at h
  exact ltN_total h.1 h.2
/-- A substitution by a right signature. -/
structure SubOk (sg : List Sym) (bs : List Bn) : Prop where
  up : bs.Pairwise fun x y => LtN x.1.data.toList y.1.data.toList
  var : ∀ b ∈ bs, varB b.1 = true
  self : ∀ b ∈ bs, (b.2.1.1.toList == b.1.toList) = false
  few : ∀ b ∈ bs, nodesF b.2.2 + 1 ≤ 400
  right : ∀ b ∈ bs, rightB sg b.2 = true
  can : ∀ b ∈ bs, exN (canonT (sgOf sg) b.2).1 b.2.1 (canonT (sgOf sg) b.2).2 b.2.2 = true
theorem bdE_ok {sg : List Sym} {p : Option ByteArray} {x : Bn} (h : bdE sg p x = 0) : badV p x = false ∧ nodesF x.2.2 + 1 ≤ 400 ∧ rightB sg x.2 = true ∧ exN (canonT (sgOf sg) x.2).1 x.2.1 (canonT (sgOf sg) x.2).2 x.2.2 = true := by
  unfold bdE at h
  by_cases h1 : badV p x = true
  · rw [if_pos h1] at h; cases h
  · rw [if_neg h1] at h
    by_cases h2 : 400 < nodesF x.2.2 + 1
    · rw [if_pos h2] at h; cases h
    · rw [if_neg h2] at h
      by_cases h3 : rightB sg x.2 = false
      · rw [if_pos h3] at h; cases h
      · rw [if_neg h3] at h
        by_cases h4 : exN (canonT (sgOf sg) x.2).1 x.2.1 (canonT (sgOf sg) x.2).2 x.2.2 = false
        · rw [if_pos h4] at h; cases h
        · exact ⟨by simpa using h1, by omega, by simpa using h3, by simpa using h4⟩
theorem chk_ok {sg : List Sym} : ∀ (bs : List Bn) (p : Option ByteArray) (i : Nat), (chkB sg bs p i).1 = 0 → SubOk sg bs ∧ ∀ q, p = some q → ∀ b ∈ bs, LtN q.data.toList b.1.data.toList
  | [], _, _, _ => ⟨⟨List.Pairwise.nil, by simp, by simp, by simp, by simp, by simp⟩, fun _ _ b hb => by cases hb⟩
  | x :: r, p, i, h => by
    unfold chkB at h
    by_cases hx : bdE sg p x = 0
    · rw [if_pos hx] at h
      obtain ⟨ih, hup⟩ := chk_ok r (some x.1) (i + 1) h
      obtain ⟨h1, h2, h3, h4⟩ := bdE_ok hx
      unfold badV at h1
      simp only [Bool.or_eq_false_iff, Bool.not_eq_false'] at h1
      obtain ⟨⟨hv, hl⟩, hs⟩ := h1
      have up1 : ∀ b ∈ r, LtN x.1.data.toList b.1.data.toList := hup x.1 rfl
      refine ⟨⟨List.pairwise_cons.2 ⟨up1, ih.up⟩, ?_, ?_, ?_, ?_, ?_⟩, fun q hq b hb => ?_⟩
      · intro b hb
        rcases List.mem_cons.1 hb with rfl | hb
        · exact hv
        · exact ih.var b hb
      · intro b hb
        rcases List.mem_cons.1 hb with rfl | hb
        · exact hs
        · exact ih.self b hb
      · intro b hb
        rcases List.mem_cons.1 hb with rfl | hb
        · exact h2
        · exact ih.few b hb
      · intro b hb
        rcases List.mem_cons.1 hb with rfl | hb
        · exact h3
        · exact ih.right b hb
      · intro b hb
        rcases List.mem_cons.1 hb with rfl | hb
        · exact h4
        · exact ih.can b hb
      · subst hq
        have hx1 := leS_lt hl
        rcases List.mem_cons.1 hb with rfl | hb
        · exact hx1
        · exact ltN_trans hx1 (up1 b hb)
    · rw [if_neg hx] at h
      exact absurd h hx
theorem SubOk.nodup {sg : List Sym} {bs : List Bn} (h : SubOk sg bs) : (bs.map (·.1)).Nodup := by
  rw [List.nodup_iff_pairwise_ne, List.pairwise_map]
  exact h.up.imp fun {x y} hlt e => by rw [e] at hlt; exact ltN_irrefl _ hlt
theorem SubOk.rights {sg : List Sym} {bs : List Bn} (h : SubOk sg bs) : ∀ b ∈ bs, RightT (sgOf sg) (arAt sg) b.2 := fun b hb => (right_facts (h.right b hb)).2
end Go.Proofs.YtgcnjpiiofjljaaGreatDoor
/- Plainly: both Renames make one list. -/
namespace Go.Proofs.YtgcnjpiiofjljaaGreatDoor
open Go.RowKit Go.Deep

section
open Go.Lib
theorem decFrom_app (l r : List UInt8) : ∀ acc, decFrom acc (l ++ r) = (decFrom acc l).bind fun m => decFrom m r := by
  induction l with
  | nil => intro acc; rfl
  | cons b t ih =>
    intro acc
    simp only [List.cons_append, decFrom]
    cases digitVal b with
    | none => rfl
    | some d => exact ih _
theorem digit_fin : ∀ d : Fin 10, digitVal (UInt8.ofNat (48 + d.val)) = some d.val := by decide +kernel
theorem digit_of {d : Nat} (h : d < 10) : digitVal (UInt8.ofNat (48 + d)) = some d := digit_fin ⟨d, h⟩
theorem dec_back (u : Nat) : decFrom 0 (decDigits u) = some u := by
  induction u using Nat.strongRecOn with
  | _ u ih =>
    by_cases h : u < 10
    · rw [decDigits, dif_pos h]; simp only [decFrom, digit_of h, Nat.zero_mul, Nat.zero_add]
    · rw [decDigits, dif_neg h, decFrom_app, ih (u / 10) (by omega)]
      simp only [Option.bind_some, decFrom, digit_of (Nat.mod_lt u (by omega : 0 < 10))]
      congr 1; omega
end
theorem nmB_inj (a b : Nat) (h : nmB a = nmB b) : a = b := by
  have h1 : Lib.decDigits a = Lib.decDigits b := by rw [nm_dec, nm_dec, h]
  have h2 := dec_back a
  rw [h1, dec_back b] at h2
  exact (Option.some.inj h2).symm
/-- The names of a term in memory fit. -/
theorem occ_fits : ∀ {F : Fo} {w : World} {b o : Nat}, KidsAt w F b o → ∀ s ∈ occF F, s.size ≤ maxLen
  | .nil, _, _, _, _, s, hs => by cases hs
  | .node _ _ x l r, w, b, o, ⟨⟨a, c, _, _, _, hz, hl⟩, hr⟩, s, hs => by
    rcases List.mem_append.1 hs with h | h
    · by_cases hn : noName x.1 = true
      · rw [if_pos hn] at h
        rcases hl with rfl | ⟨b', o', _, hk⟩
        · cases h
        · exact occ_fits hk s h
      · rw [if_neg hn] at h
        rw [List.mem_singleton.1 h]
        exact hz.name
    · exact occ_fits hr s h
theorem occ_fitsT {w : World} {x : ByteArray × Int} {a : Option Addr} {c : Nat} {l : Fo} (h : TmAt w x a c l) : ∀ s ∈ occN x l, s.size ≤ maxLen := by
  intro s hs
  unfold occN at hs
  split at hs
  · rcases h.args with rfl | ⟨b, o, _, hk⟩
    · cases hs
    · exact occ_fits hk s hs
  · rw [List.mem_singleton.1 hs]; exact h.sizes.name
theorem occB_fits {w : World} {p : Option Addr} {n : Nat} {ls : List Bn} (h : BindsAt w p n ls) : ∀ s ∈ occB ls, s.size ≤ maxLen := by
  intro s hs
  obtain ⟨b, hb, hs2⟩ := List.mem_flatMap.1 hs
  obtain ⟨i, hi, rfl⟩ := List.getElem_of_mem hb
  obtain ⟨_, _, _, _, _, hbd⟩ := h.cells i hi
  exact occ_fitsT hbd.tm s hs2
/-- Of right terms the document meets the same names. -/
theorem occ_names {S : Sg} {ar : Int → Nat} : ∀ F : Fo, RightF S ar F → namesFo F = (occF F).map fun s => s.data.toList
  | .nil, _ => rfl
  | .node B O x l r, ⟨⟨h1, h2⟩, h3⟩ => by
    unfold namesFo occF namesN
    rw [List.map_append, occ_names r h3]
    congr 1
    by_cases hn : noName x.1 = true
    · rw [if_pos hn, if_pos hn, List.nil_append, occ_names l h2]
    · rw [if_neg hn, if_neg hn]
      unfold nodeOk at h1
      rw [if_pos (by simpa using hn)] at h1
      have hl := len_nil h1.2
      subst hl
      rfl
theorem occ_namesT {S : Sg} {ar : Int → Nat} {t : Tn} (h : RightT S ar t) : namesN t.1 ++ namesFo t.2 = (occs t).map fun s => s.data.toList := by
  unfold occs occN namesN
  by_cases hn : noName t.1.1 = true
  · rw [if_pos hn, if_pos hn, List.nil_append, occ_names _ h.2]
  · rw [if_neg hn, if_neg hn]
    have h1 := h.1
    unfold nodeOk at h1
    rw [if_pos (by simpa using hn)] at h1
    have hl := len_nil h1.2
    rw [hl]
    rfl
theorem occB_tot : ∀ ls : List Bn, (occB ls).length + ls.length ≤ totB ls
  | [] => Nat.le_refl _
  | x :: r => by
    have h1 := occB_tot r
    have h2 : (occs x.2).length ≤ nodesF x.2.2 + 1 := occN_len x.2.1 x.2.2
    unfold occB at h1 ⊢
    simp only [List.flatMap_cons, List.length_append, List.length_cons, totB] at h1 ⊢
    omega
theorem lkG_get (G : List (ByteArray × ByteArray)) (s : ByteArray) : lkG G s = getB (G.map gB) s := by
  unfold lkG asN getB
  rw [List.find?_map]
  cases h : G.find? ((fun b => decide (b.1 = s)) ∘ gB) with
  | none =>
    have h' : G.find? (fun p => decide (p.1 = s)) = none := h
    rw [h']; rfl
  | some p =>
    have h' : G.find? (fun p => decide (p.1 = s)) = some p := h
    rw [h']; rfl
/-- Of right terms the table of names puts in what the document's names do. -/
theorem putG_pin {S : Sg} {ar : Int → Nat} {G : List (ByteArray × ByteArray)} (hG : (G.map (·.1)).Nodup) (x : ByteArray × Int) (l : Fo) (h : RightT S ar (x, l)) : putN (lkG G) x l = pinN (G.map gB) x l := by
  have hn : ((G.map gB).map (·.1)).Nodup := by rw [List.map_map]; exact hG
  have e : lkG G = lkB (G.map gB) := funext fun s => by rw [lkG_get, lk_get' hn]
  rw [e]
  exact putN_pin hn x l h
theorem gB_right {S : Sg} {ar : Int → Nat} {G : List (ByteArray × ByteArray)} (hG : ∀ p ∈ G, ∃ n, p.2 = nmB n) : ∀ b ∈ G.map gB, RightT S ar b.2 := by
  intro b hb
  obtain ⟨p, hp, rfl⟩ := List.mem_map.1 hb
  obtain ⟨n, hn⟩ := hG p hp
  refine ⟨?_, trivial⟩
  show nodeOk S ar (p.2, 0) 0
  unfold nodeOk
  rw [if_pos]
  · exact ⟨rfl, rfl⟩
  · show noName p.2 = false
    rw [hn]
    unfold noName nmB
    rw [ByteArray.toList_eq]
    rfl
theorem given_names {keep : List ByteArray} {n : Nat} {st : List (ByteArray × ByteArray) × Nat} (h : Given keep nmB n st) : ∀ p ∈ st.1, ∃ j, p.2 = nmB j := by
  obtain ⟨js, e, -, -⟩ := h.num
  intro p hp
  have : p.2 ∈ st.1.map (·.2) := List.mem_map.2 ⟨p, hp, rfl⟩
  rw [e] at this
  obtain ⟨j, _, hj⟩ := List.mem_map.1 this
  exact ⟨j, hj.symm⟩
/-- What the program wrote down is what the document did. -/
theorem ren_same {sg : List Sym} {ls : List Bn} {ks : List Bk} {keep : List ByteArray} {f : Int} (hOk : (sgOf sg).Ok (arAt sg)) (hR : ∀ b ∈ ls, RightT (sgOf sg) (arAt sg) b.2) (hl : ks.length = ls.length)
    (h : Dn sg (lkG ((occB ls).foldl (nameP keep nmB) ([], fst1 f)).1) ls ks) : ks.map bkBn = ls.map (renD sg ((((occB ls).foldl onceN []).foldl (nameD keep nmB) ([], fst1 f)).1.map gB)) := by
  rw [names_same] at h
  have hg := Given.fold nmB_inj (occB ls) (Given.start keep nmB (fst1 f))
  rw [names_same] at hg
  obtain ⟨ST, hST⟩ : ∃ ST, ((occB ls).foldl onceN []).foldl (nameD keep nmB) ([], fst1 f) = ST := ⟨_, rfl⟩
  rw [hST] at h hg ⊢
  refine List.ext_getElem (by simp [hl]) fun i h1 h2 => ?_
  rw [List.getElem_map, List.getElem_map]
  have hi : i < ls.length := by simpa using h2
  have hi' : i < ks.length := by simpa using h1
  obtain ⟨e1, e2⟩ := h i hi hi'
  have hr := hR _ (List.getElem_mem hi)
  obtain ⟨⟨vn, x, l⟩, hb⟩ : ∃ b, ls[i] = b := ⟨_, rfl⟩
  rw [hb] at e1 e2 hr ⊢
  rw [putG_pin hg.old x l hr] at e2
  have e3 := e2.2 hOk (pinN_right (gB_right (given_names hg)) x l hr)
  exact Prod.ext e1 e3
/-- A list of binds as binds in memory. -/
theorem LstB.binds {mk : Bool} {B : Nat} {W : World} {v : Value} {ks : List Bk} (h : LstB mk B W v ks) (hf : ∀ k ∈ ks, k.1.size ≤ maxLen) : ∃ P c, v = .slice P ks.length c ∧ BindsAt W P ks.length (ks.map bkBn) := by
  have hf' : ∀ x ∈ ks.map bkBn, x.1.size ≤ maxLen := fun x hx => by
    obtain ⟨k, hk, rfl⟩ := List.mem_map.1 hx
    exact hf k hk
  rcases h.row.2 with ⟨h1, h2⟩ | ⟨g, cap, cur, h1, _⟩
  · have : ks = [] := List.eq_nil_of_length_eq_zero h2
    subst this
    exact ⟨none, 0, h1, rfl, by simp, fun i hi => absurd hi (by simp), hf'⟩
  · subst h1
    have hc := owns_cap h.row
    refine ⟨_, cap, rfl, by simp, by omega, fun i hi => ?_, hf'⟩
    have hi' : i < ks.length := by simpa using hi
    refine ⟨g, 0, ks[i].2.a, ks[i].2.c, rfl, ?_⟩
    have := row_bd h.row i hi' (h.own _ (List.getElem_mem hi')).tm
    simpa using this
end Go.Proofs.YtgcnjpiiofjljaaGreatDoor
/- Plain: what is put into a term, and canonical forms: a canonical form does for its term; no more nodes; first one, then another is their composition. -/
namespace Go.Proofs.YtgcnjpiiofjljaaGreatDoor
open Go.RowKit

/-- Terms in which others stand for variables. -/
def subF (g : ByteArray → Tn) : Fo → Fo
  | .nil => .nil
  | .node B O x l r => if noName x.1 = true then .node B O x (subF g l) (subF g r) else .node B O (g x.1).1 (g x.1).2 (subF g r)
def subN (g : ByteArray → Tn) (t : Tn) : Tn := if noName t.1.1 = true then (t.1, subF g t.2) else g t.1.1
theorem pinF_sub (bs : List Bn) : ∀ F : Fo, pinF bs F = subF (getN bs) F
  | .nil => rfl
  | .node _ _ x l r => by unfold pinF subF; rw [pinF_sub bs l, pinF_sub bs r]
theorem pinN_sub (bs : List Bn) (t : Tn) : pinN bs t.1 t.2 = subN (getN bs) t := by
  unfold pinN subN
  rw [pinF_sub]
theorem kids_sub (g : ByteArray → Tn) : ∀ F : Fo, kidsL (subF g F) = (kidsL F).map (subN g)
  | .nil => rfl
  | .node _ _ x l r => by
    unfold subF
    by_cases h : noName x.1 = true
    · rw [if_pos h]
      simp only [kidsL, List.map_cons]
      rw [kids_sub g r]
      unfold subN
      rw [if_pos h]
    · rw [if_neg h]
      simp only [kidsL, List.map_cons]
      rw [kids_sub g r]
      unfold subN
      rw [if_neg h]
theorem subF_len (g : ByteArray → Tn) (F : Fo) : lenF (subF g F) = lenF F := by rw [← kids_len, kids_sub, List.length_map, kids_len]
/-- What stands for variables is right. -/
def RightG (S : Sg) (ar : Int → Nat) (g : ByteArray → Tn) : Prop := ∀ s, noName s = false → RightT S ar (g s)
theorem getN_rightG {S : Sg} {ar : Int → Nat} {bs : List Bn} (hb : ∀ b ∈ bs, RightT S ar b.2) : RightG S ar (getN bs) := fun _ hs => getN_right hb hs
theorem kid_less {F : Fo} {k : Tn} (h : k ∈ kidsL F) : nodesF k.2 < nodesF F := by
  rw [nodes_sizes F]
  have : ∀ l : List Tn, k ∈ l → nodesF k.2 < sizes l := fun l => by
    induction l with
    | nil => intro h; cases h
    | cons t r ih =>
      intro h
      rw [sizes_cons]
      rcases List.mem_cons.1 h with rfl | h
      · unfold sizeT; omega
      · have := ih h; omega
  exact this _ h
theorem subN_right {S : Sg} {ar : Int → Nat} {g : ByteArray → Tn} (hg : RightG S ar g) : ∀ (n : Nat) (t : Tn), nodesF t.2 ≤ n → RightT S ar t → RightT S ar (subN g t) := by
  intro n
  induction n using Nat.strongRecOn with
  | _ n ih =>
    intro t hn h
    unfold subN
    by_cases hx : noName t.1.1 = true
    · rw [if_pos hx]
      refine ⟨by show nodeOk S ar t.1 (lenF (subF g t.2)); rw [subF_len]; exact h.1, right_kids.2 ?_⟩
      show ∀ k ∈ kidsL (subF g t.2), _
      rw [kids_sub]
      intro k hk
      obtain ⟨k', hk', rfl⟩ := List.mem_map.1 hk
      have := kid_less hk'
      exact ih (nodesF k'.2) (by omega) k' (Nat.le_refl _) (right_kids.1 h.2 k' hk')
    · rw [if_neg hx]
      exact hg _ (by simpa using hx)
theorem subG_right {S : Sg} {ar : Int → Nat} {g : ByteArray → Tn} (hg : RightG S ar g) {t : Tn} (h : RightT S ar t) : RightT S ar (subN g t) := subN_right hg _ t (Nat.le_refl _) h
/-- The parts of a canonical term, each with what stands for its variables, are the parts of the term with it. -/
theorem sub_parts {S : Sg} {ar : Int → Nat} (hS : S.Ok ar) {g : ByteArray → Tn} (hg : RightG S ar g) {f : Int} (hj : S.joins f = true) {c : Tn} (hc : CanT S ar c) : List.Perm (pc S f (subN g c)) ((partsN S f c).flatMap fun p => pc S f (subN g p)) := by
  unfold partsN
  rw [if_neg (by simp [hj])]
  by_cases h1 : isUn S f c = true
  · rw [if_pos h1]
    obtain ⟨u, hu, rfl⟩ := isUn_some h1
    have e : subN g (constT u) = constT u := by
      unfold subN constT
      rw [if_pos noName_noB]
      rfl
    rw [e, pc_const hS hj hu]
    exact List.Perm.refl _
  · rw [if_neg h1]
    by_cases h2 : headed f c = true
    · rw [if_pos h2]
      obtain ⟨h3, h4⟩ := headed_iff.1 h2
      have e : subN g c = (c.1, subF g c.2) := by unfold subN; rw [if_pos h3]
      have hr := subG_right hg (right_of_can hc)
      rw [e] at hr ⊢
      have := canonT_parts hS (t := (c.1, subF g c.2)) (by show S.joins c.1.2 = true; rw [h4]; exact hj) h3 hr
      rw [show ((c.1, subF g c.2) : Tn).1.2 = f from h4] at this
      refine this.trans ?_
      show List.Perm ((kidsL (subF g c.2)).flatMap (pc S f)) _
      rw [kids_sub, List.flatMap_map]
    · rw [if_neg h2]
      simp
theorem flatMap_perm {α β : Type} {f g : α → List β} : ∀ {l : List α}, (∀ a ∈ l, List.Perm (f a) (g a)) → List.Perm (l.flatMap f) (l.flatMap g)
  | [], _ => List.Perm.refl _
  | a :: r, h => by
    rw [List.flatMap_cons, List.flatMap_cons]
    exact (h a (by simp)).append (flatMap_perm fun b hb => h b (by simp [hb]))
/-- A canonical form does for its term. -/
theorem sub_canon_all {S : Sg} {ar : Int → Nat} (hS : S.Ok ar) {g : ByteArray → Tn} (hg : RightG S ar g) : ∀ (n : Nat) (t : Tn), nodesF t.2 ≤ n → RightT S ar t → canonT S (subN g (canonT S t)) = canonT S (subN g t) := by
  intro n
  induction n using Nat.strongRecOn with
  | _ n ih =>
    intro t hn h
    have IH : ∀ k ∈ kidsL t.2, canonT S (subN g (canonT S k)) = canonT S (subN g k) := fun k hk => by
      have := kid_less hk
      exact ih (nodesF k.2) (by omega) k (Nat.le_refl _) (right_kids.1 h.2 k hk)
    by_cases hx : noName t.1.1 = true
    · by_cases hj : S.joins t.1.2 = true
      · have hc := canonT_can hS h
        refine (eq_iff hS hj (subG_right hg (right_of_can hc)) (subG_right hg h)).2 ?_
        refine (sub_parts hS hg hj hc).trans ?_
        have e : subN g t = (t.1, subF g t.2) := by unfold subN; rw [if_pos hx]
        have hr := subG_right hg h
        rw [e] at hr ⊢
        have h1 := canonT_parts hS (t := (t.1, subF g t.2)) hj hx hr
        refine List.Perm.trans ?_ h1.symm
        show List.Perm _ ((kidsL (subF g t.2)).flatMap (pc S t.1.2))
        rw [kids_sub, List.flatMap_map]
        have h2 := canonT_parts hS hj hx h
        refine (h2.flatMap_right (fun p => pc S t.1.2 (subN g p))).trans ?_
        rw [List.flatMap_assoc]
        refine flatMap_perm fun k hk => ?_
        have h3 := sub_parts hS hg hj (canonT_can hS (right_kids.1 h.2 k hk))
        refine (show List.Perm ((pc S t.1.2 k).flatMap fun p => pc S t.1.2 (subN g p)) _ from h3.symm).trans ?_
        unfold pc
        rw [IH k hk]
      · have hj' : S.joins t.1.2 = false := by simpa using hj
        rw [canon_free hx hj']
        have e1 : subN g ((noB, t.1.2), mkF ((kidsL t.2).map (canonT S))) = ((noB, t.1.2), subF g (mkF ((kidsL t.2).map (canonT S)))) := by
          unfold subN
          rw [if_pos noName_noB]
        have e2 : subN g t = (t.1, subF g t.2) := by unfold subN; rw [if_pos hx]
        rw [e1, e2, canon_free (t := ((noB, t.1.2), subF g (mkF ((kidsL t.2).map (canonT S))))) noName_noB hj', canon_free (t := (t.1, subF g t.2)) hx hj']
        show ((noB, t.1.2), mkF ((kidsL (subF g (mkF _))).map (canonT S))) = ((noB, t.1.2), mkF ((kidsL (subF g t.2)).map (canonT S)))
        rw [kids_sub, kids_sub, kids_mk, List.map_map, List.map_map, List.map_map]
        congr 2
        exact List.map_congr_left fun k hk => IH k hk
    · have hx' : noName t.1.1 = false := by simpa using hx
      have e1 : canonT S t = ((t.1.1, 0), .nil) := by unfold canonT canon1; rw [if_pos hx']
      rw [e1]
      unfold subN
      rw [if_neg hx, if_neg (by simpa using hx')]
theorem sub_canon {S : Sg} {ar : Int → Nat} (hS : S.Ok ar) {g : ByteArray → Tn} (hg : RightG S ar g) {t : Tn} (h : RightT S ar t) : canonT S (subN g (canonT S t)) = canonT S (subN g t) := sub_canon_all hS hg _ t (Nat.le_refl _) h
/-- What is equal, put in, makes what is equal. -/
theorem sub_same_all {S : Sg} {ar : Int → Nat} {g k : ByteArray → Tn} (he : ∀ s, noName s = false → canonT S (g s) = canonT S (k s)) : ∀ (n : Nat) (t : Tn), nodesF t.2 ≤ n → RightT S ar t → canonT S (subN g t) = canonT S (subN k t) := by
  intro n
  induction n using Nat.strongRecOn with
  | _ n ih =>
    intro t hn h
    unfold subN
    by_cases hx : noName t.1.1 = true
    · rw [if_pos hx, if_pos hx]
      unfold canonT
      dsimp only
      congr 1
      rw [canonL_map, canonL_map, kids_sub, kids_sub, List.map_map, List.map_map]
      refine List.map_congr_left fun c hc => ?_
      have := kid_less hc
      exact ih (nodesF c.2) (by omega) c (Nat.le_refl _) (right_kids.1 h.2 c hc)
    · rw [if_neg hx, if_neg hx]
      exact he _ (by simpa using hx)
theorem sub_same {S : Sg} {ar : Int → Nat} {g k : ByteArray → Tn} (he : ∀ s, noName s = false → canonT S (g s) = canonT S (k s)) {t : Tn} (h : RightT S ar t) : canonT S (subN g t) = canonT S (subN k t) := sub_same_all he _ t (Nat.le_refl _) h
/-- First one, then the other. -/
theorem subF_subF (g k : ByteArray → Tn) : ∀ F : Fo, kidsL (subF k (subF g F)) = (kidsL F).map fun t => subN k (subN g t) := fun F => by rw [kids_sub, kids_sub, List.map_map]; rfl
theorem sub_sub_all {S : Sg} {g k : ByteArray → Tn} : ∀ (n : Nat) (t : Tn), nodesF t.2 ≤ n → canonT S (subN k (subN g t)) = canonT S (subN (fun s => subN k (g s)) t) := by
  intro n
  induction n using Nat.strongRecOn with
  | _ n ih =>
    intro t hn
    by_cases hx : noName t.1.1 = true
    · have e1 : subN g t = (t.1, subF g t.2) := by unfold subN; rw [if_pos hx]
      have e2 : subN k (t.1, subF g t.2) = (t.1, subF k (subF g t.2)) := by unfold subN; rw [if_pos hx]
      have e3 : subN (fun s => subN k (g s)) t = (t.1, subF (fun s => subN k (g s)) t.2) := by unfold subN; rw [if_pos hx]
      rw [e1, e2, e3]
      unfold canonT
      dsimp only
      congr 1
      rw [canonL_map, canonL_map, subF_subF, kids_sub, List.map_map, List.map_map]
      refine List.map_congr_left fun c hc => ?_
      have := kid_less hc
      exact ih (nodesF c.2) (by omega) c (Nat.le_refl _)
    · have e1 : subN g t = g t.1.1 := by unfold subN; rw [if_neg hx]
      have e3 : subN (fun s => subN k (g s)) t = subN k (g t.1.1) := by show (if noName t.1.1 = true then _ else _) = _; rw [if_neg hx]
      rw [e1, e3]
theorem sub_sub {S : Sg} (g k : ByteArray → Tn) (t : Tn) : canonT S (subN k (subN g t)) = canonT S (subN (fun s => subN k (g s)) t) := sub_sub_all _ t (Nat.le_refl _)

/-! ### how many nodes -/
def wtT (g : ByteArray → Tn) (t : Tn) : Nat := sizeT (subN g t)
def wts (g : ByteArray → Tn) (l : List Tn) : Nat := (l.map (wtT g)).sum
theorem wts_cons (g : ByteArray → Tn) (t : Tn) (l : List Tn) : wts g (t :: l) = wtT g t + wts g l := by simp [wts]
theorem wts_append (g : ByteArray → Tn) : ∀ l m : List Tn, wts g (l ++ m) = wts g l + wts g m
  | [], _ => by simp [wts]
  | t :: l, m => by rw [List.cons_append, wts_cons, wts_cons, wts_append g l m]; omega
theorem wts_perm {g : ByteArray → Tn} {l m : List Tn} (h : List.Perm l m) : wts g l = wts g m := by
  induction h with
  | nil => rfl
  | cons x _ ih => rw [wts_cons, wts_cons, ih]
  | swap x y l => simp only [wts_cons]; omega
  | trans _ _ h1 h2 => exact h1.trans h2
theorem wt_node (g : ByteArray → Tn) {t : Tn} (h : noName t.1.1 = true) : wtT g t = wts g (kidsL t.2) + 1 := by
  unfold wtT subN
  rw [if_pos h]
  show nodesF (subF g t.2) + 1 = _
  rw [nodes_sizes, kids_sub]
  unfold sizes wts
  rw [List.map_map]
  rfl
theorem parts_wt (S : Sg) (g : ByteArray → Tn) (f : Int) (t : Tn) : wts g (partsN S f t) ≤ wtT g t := by
  unfold partsN
  split
  · simp [wts]
  · split
    · simp [wts]
    · split
      · rename_i h
        rw [wt_node g (headed_iff.1 h).1]
        omega
      · simp [wts]
theorem flat_wt (S : Sg) (g : ByteArray → Tn) (f : Int) : ∀ cs : List Tn, wts g (cs.flatMap (partsN S f)) ≤ wts g cs
  | [] => Nat.le_refl _
  | c :: r => by
    rw [List.flatMap_cons, wts_append, wts_cons]
    have := parts_wt S g f c
    have := flat_wt S g f r
    omega
theorem const_wt (g : ByteArray → Tn) (u : Int) : wtT g (constT u) = 1 := by
  rw [wt_node g (t := constT u) noName_noB]
  rfl
theorem join_wt {S : Sg} {g : ByteArray → Tn} {f : Int} {l : List Tn} {t : Tn} (h : joinL S f l = some t) : wtT g t ≤ wts g l + 1 := by
  match l, h with
  | [], h =>
    simp only [joinL, Option.map_eq_some_iff] at h
    obtain ⟨u, _, rfl⟩ := h
    rw [const_wt]
    omega
  | [a], h =>
    simp only [joinL, Option.some.injEq] at h
    subst h
    simp [wts]
  | a :: b :: r, h =>
    simp only [joinL, Option.some.injEq] at h
    subst h
    rw [wt_node g (t := ((noB, f), mkF (sortN (a :: b :: r)))) noName_noB]
    show wts g (kidsL (mkF (sortN (a :: b :: r)))) + 1 ≤ _
    rw [kids_mk, wts_perm (sortN_perm _)]
    exact Nat.le_refl _
theorem canon_wt_all (S : Sg) (g : ByteArray → Tn) : ∀ (n : Nat) (t : Tn), nodesF t.2 ≤ n → wtT g (canonT S t) ≤ wtT g t := by
  intro n
  induction n using Nat.strongRecOn with
  | _ n ih =>
    intro t hn
    have IH : ∀ l : List Tn, (∀ k ∈ l, k ∈ kidsL t.2) → wts g (l.map (canonT S)) ≤ wts g l := fun l => by
      induction l with
      | nil => intro _; exact Nat.le_refl _
      | cons k r ihl =>
        intro hk
        rw [List.map_cons, wts_cons, wts_cons]
        have h1 := kid_less (hk k (by simp))
        have h2 := ih (nodesF k.2) (by omega) k (Nat.le_refl _)
        have h3 := ihl (fun k' hk' => hk k' (by simp [hk']))
        omega
    have h0 := IH (kidsL t.2) (fun _ h => h)
    by_cases hx : noName t.1.1 = true
    · rw [wt_node g hx]
      unfold canonT canon1
      rw [if_neg (by simp [hx]), canonL_map]
      by_cases hj : S.joins t.1.2 = true
      · rw [if_pos hj]
        unfold joinN
        rw [if_neg (by simp [hj])]
        cases hq : joinL S t.1.2 ((List.map (canonT S) (kidsL t.2)).flatMap (partsN S t.1.2)) with
        | none =>
          show wtT g (constT t.1.2) ≤ _
          rw [const_wt]
          omega
        | some q =>
          have h1 := join_wt (g := g) hq
          have h2 := flat_wt S g t.1.2 (List.map (canonT S) (kidsL t.2))
          show wtT g q ≤ _
          omega
      · rw [if_neg hj, wt_node g (t := ((noB, t.1.2), mkF (List.map (canonT S) (kidsL t.2)))) noName_noB]
        show wts g (kidsL (mkF _)) + 1 ≤ _
        rw [kids_mk]
        omega
    · have hx' : noName t.1.1 = false := by simpa using hx
      have e1 : canonT S t = ((t.1.1, 0), .nil) := by unfold canonT canon1; rw [if_pos hx']
      rw [e1]
      unfold wtT subN
      rw [if_neg hx, if_neg (by simpa using hx')]
      exact Nat.le_refl _
/-- A canonical form grows no more than its term. -/
theorem canon_wt (S : Sg) (g : ByteArray → Tn) (t : Tn) : sizeT (subN g (canonT S t)) ≤ sizeT (subN g t) := canon_wt_all S g _ t (Nat.le_refl _)
/-- First a, then b, is what says of each variable what b makes of what a says. -/
theorem sub_comp {S : Sg} {ar : Int → Nat} (hS : S.Ok ar) {g k c : ByteArray → Tn} (hg : RightG S ar g) (hk : RightG S ar k) (he : ∀ s, noName s = false → canonT S (c s) = canonT S (subN k (g s))) {t : Tn} (h : RightT S ar t) : canonT S (subN k (canonT S (subN g t))) = canonT S (subN c t) := by
  rw [sub_canon hS hk (subG_right hg h), sub_sub g k t]
  exact (sub_same he h).symm
end Go.Proofs.YtgcnjpiiofjljaaGreatDoor
/- Plainly: the old names, put back, make the old terms. -/
namespace Go.Proofs.YtgcnjpiiofjljaaGreatDoor
open Go.RowKit Go.Deep

/-- A new name and its old one. -/
def gI (p : ByteArray × ByteArray) : Bn := (p.2, ((p.1, 0), .nil))
theorem occF_named : ∀ F : Fo, ∀ s ∈ occF F, noName s = false
  | .nil, s, hs => by cases hs
  | .node _ _ x l r, s, hs => by
    rcases List.mem_append.1 hs with h | h
    · by_cases hn : noName x.1 = true
      · rw [if_pos hn] at h; exact occF_named l s h
      · rw [if_neg hn] at h
        rw [List.mem_singleton.1 h]; simpa using hn
    · exact occF_named r s h
theorem occN_named {x : ByteArray × Int} {l : Fo} : ∀ s ∈ occN x l, noName s = false := by
  intro s hs
  unfold occN at hs
  split at hs
  · exact occF_named l s hs
  · rename_i hn
    rw [List.mem_singleton.1 hs]; simpa using hn
/-- What stands for its own name is not seen. -/
theorem subF_own {S : Sg} {ar : Int → Nat} {c : ByteArray → Tn} : ∀ F : Fo, RightF S ar F → (∀ s ∈ occF F, c s = ((s, 0), .nil)) → subF c F = F
  | .nil, _, _ => rfl
  | .node B O x l r, h, hc => by
    obtain ⟨⟨h1, h2⟩, h3⟩ := h
    unfold subF
    rw [subF_own r h3 fun s hs => hc s (List.mem_append_right _ hs)]
    by_cases hx : noName x.1 = true
    · rw [if_pos hx]
      rw [subF_own l h2 fun s hs => hc s (List.mem_append_left _ (by rw [if_pos hx]; exact hs))]
    · rw [if_neg hx]
      unfold nodeOk at h1
      rw [if_pos (by simpa using hx)] at h1
      have hl := len_nil h1.2
      subst hl
      have hcx := hc x.1 (List.mem_append_left _ (by rw [if_neg hx]; exact List.mem_singleton.2 rfl))
      rw [hcx]
      have e : x = (x.1, 0) := Prod.ext rfl h1.1
      rw [← e]
theorem subN_own {S : Sg} {ar : Int → Nat} {c : ByteArray → Tn} {t : Tn} (h : RightT S ar t) (hc : ∀ s ∈ occs t, c s = ((s, 0), .nil)) : subN c t = t := by
  unfold subN
  unfold occs occN at hc
  by_cases hx : noName t.1.1 = true
  · rw [if_pos hx] at hc ⊢
    rw [subF_own _ h.2 hc]
  · rw [if_neg hx] at hc ⊢
    have h1 := h.1
    unfold nodeOk at h1
    rw [if_pos (by simpa using hx)] at h1
    have hl := len_nil h1.2
    rw [hc _ (List.mem_singleton.2 rfl)]
    exact Prod.ext (Prod.ext rfl h1.1.symm) hl.symm
theorem getN_leaf (bs : List Bn) (hb : ∀ b ∈ bs, b.2.2 = .nil ∧ b.2.1.2 = 0) (s : ByteArray) : ∃ y, getN bs s = ((y, 0), .nil) ∧ ((∃ b ∈ bs, b.1 = s ∧ b.2.1.1 = y) ∨ ((∀ b ∈ bs, b.1 ≠ s) ∧ y = s)) := by
  unfold getN getB
  cases h : bs.find? fun b => decide (b.1 = s) with
  | none =>
    refine ⟨s, rfl, .inr ⟨fun b hb2 e => ?_, rfl⟩⟩
    have := List.find?_eq_none.1 h b hb2
    simp [e] at this
  | some b =>
    have hm := List.mem_of_find?_eq_some h
    have he := List.find?_some h
    obtain ⟨h1, h2⟩ := hb b hm
    refine ⟨b.2.1.1, ?_, .inl ⟨b, hm, of_decide_eq_true he, rfl⟩⟩
    exact Prod.ext (Prod.ext rfl h2) h1
/-- Put in and put back: each name that is met is itself. -/
theorem there_back {keep : List ByteArray} {n : Nat} {st : List (ByteArray × ByteArray) × Nat} (hg : Given keep nmB n st) {s : ByteArray} (hs : noName s = false) (hm : s ∈ st.1.map (·.1) ∨ s ∈ keep) : subN (getN (st.1.map gI)) (getN (st.1.map gB) s) = ((s, 0), .nil) := by
  have hB : ∀ b ∈ st.1.map gB, b.2.2 = .nil ∧ b.2.1.2 = 0 := fun b hb => by obtain ⟨p, _, rfl⟩ := List.mem_map.1 hb; exact ⟨rfl, rfl⟩
  have hI : ∀ b ∈ st.1.map gI, b.2.2 = .nil ∧ b.2.1.2 = 0 := fun b hb => by obtain ⟨p, _, rfl⟩ := List.mem_map.1 hb; exact ⟨rfl, rfl⟩
  obtain ⟨y, e1, h1⟩ := getN_leaf _ hB s
  have hy : noName y = false := by
    rcases h1 with ⟨b, hb, _, rfl⟩ | ⟨_, rfl⟩
    · obtain ⟨p, hp, rfl⟩ := List.mem_map.1 hb
      obtain ⟨j, hj⟩ := given_names hg p hp
      show noName p.2 = false
      rw [hj]
      unfold noName nmB
      rw [ByteArray.toList_eq]
      rfl
    · exact hs
  rw [e1]
  unfold subN
  rw [if_neg (by rw [hy]; decide)]
  obtain ⟨z, e2, h2⟩ := getN_leaf _ hI y
  show getN (st.1.map gI) y = _
  rw [e2]
  have hz : z = s := by
    rcases h1 with ⟨b, hb, hbs, hby⟩ | ⟨hno, rfl⟩
    · obtain ⟨p, hp, rfl⟩ := List.mem_map.1 hb
      have hps : p.1 = s := hbs
      have hpy : p.2 = y := hby
      rcases h2 with ⟨b2, hb2, h3, h4⟩ | ⟨hno, _⟩
      · obtain ⟨q, hq, rfl⟩ := List.mem_map.1 hb2
        have hqy : q.2 = y := h3
        have hqz : q.1 = z := h4
        obtain ⟨i, hi, rfl⟩ := List.getElem_of_mem hp
        obtain ⟨j, hj, rfl⟩ := List.getElem_of_mem hq
        have hnd := hg.news nmB_inj
        have : i = j := by
          have hi' : i < (st.1.map (·.2)).length := by rw [List.length_map]; exact hi
          have hj' : j < (st.1.map (·.2)).length := by rw [List.length_map]; exact hj
          refine (List.getElem_inj (h₀ := hi') (h₁ := hj') hnd).1 ?_
          rw [List.getElem_map, List.getElem_map, hpy, hqy]
        subst this
        rw [← hqz]; exact hps
      · exact absurd hpy (hno (gI p) (List.mem_map.2 ⟨p, hp, rfl⟩))
    · have hk : y ∈ keep := by
        rcases hm with h | h
        · obtain ⟨p, hp, hpe⟩ := List.mem_map.1 h
          exact absurd hpe (hno (gB p) (List.mem_map.2 ⟨p, hp, rfl⟩))
        · exact h
      rcases h2 with ⟨b2, hb2, h3, _⟩ | ⟨_, rfl⟩
      · obtain ⟨q, hq, rfl⟩ := List.mem_map.1 hb2
        have hqy : q.2 = y := h3
        obtain ⟨js, ej, _, hj⟩ := hg.num
        have : q.2 ∈ st.1.map (·.2) := List.mem_map.2 ⟨q, hq, rfl⟩
        rw [ej] at this
        obtain ⟨j, hjm, hje⟩ := List.mem_map.1 this
        exact absurd (by rw [hje, hqy]; exact hk) (hj j hjm).2.2
      · rfl
  rw [hz]
/-- The old terms again. -/
theorem means_back {sg : List Sym} {ls : List Bn} {keep : List ByteArray} {f : Nat} (hOk : (sgOf sg).Ok (arAt sg)) {b : Bn} (hb : b ∈ ls) (hR : RightT (sgOf sg) (arAt sg) b.2) (st : List (ByteArray × ByteArray) × Nat) (hst : (occB ls).foldl (nameP keep nmB) ([], f) = st) :
    canonT (sgOf sg) (pinN (st.1.map gI) (renD sg (st.1.map gB) b).2.1 (renD sg (st.1.map gB) b).2.2) = canonT (sgOf sg) b.2 := by
  have hg := Given.fold nmB_inj (occB ls) (Given.start keep nmB f)
  have hall := met_all keep nmB (occB ls) ([], f)
  have hkeys := keys_fold keep nmB ((occB ls).foldl onceN []) ([], f)
  rw [← names_same] at hkeys
  rw [hst] at hg hall hkeys
  rw [pinN_sub, show renD sg (st.1.map gB) b = (b.1, canonT (sgOf sg) (pinN (st.1.map gB) b.2.1 b.2.2)) from rfl, pinN_sub]
  have hnamed : ∀ p ∈ st.1, noName p.1 = false := fun p hp => by
    have h1 : p.1 ∈ st.1.map (·.1) := List.mem_map.2 ⟨p, hp, rfl⟩
    rw [hkeys, List.map_nil, List.nil_append] at h1
    have h2 := (List.mem_filter.1 h1).1
    have h3 : ∀ (occ ss : List ByteArray), (∀ s ∈ ss, noName s = false) → (∀ s ∈ occ, noName s = false) → ∀ s ∈ occ.foldl onceN ss, noName s = false := fun occ => by
      induction occ with
      | nil => intro ss h _; exact h
      | cons x r ih =>
        intro ss h ho
        refine ih (onceN ss x) ?_ fun s hs => ho s (by simp [hs])
        unfold onceN
        split
        · exact h
        · intro s hs
          rcases List.mem_append.1 hs with h4 | h4
          · exact h s h4
          · rw [List.mem_singleton.1 h4]; exact ho x (by simp)
    refine h3 (occB ls) [] (by simp) (fun s hs => ?_) _ h2
    obtain ⟨b', _, hs2⟩ := List.mem_flatMap.1 hs
    exact occN_named s hs2
  have hI : ∀ b' ∈ st.1.map gI, RightT (sgOf sg) (arAt sg) b'.2 := fun b' hb' => by
    obtain ⟨p, hp, rfl⟩ := List.mem_map.1 hb'
    refine ⟨?_, trivial⟩
    show nodeOk _ _ (p.1, 0) 0
    unfold nodeOk
    rw [if_pos (hnamed p hp)]
    exact ⟨rfl, rfl⟩
  rw [sub_comp hOk (getN_rightG (gB_right (given_names hg))) (getN_rightG hI) (c := fun s => subN (getN (st.1.map gI)) (getN (st.1.map gB) s)) (fun _ _ => rfl) hR]
  rw [subN_own hR]
  intro s hs
  have hs2 : s ∈ occB ls := List.mem_flatMap.2 ⟨b, hb, hs⟩
  exact there_back hg (occN_named s hs) (hall s hs2)
end Go.Proofs.YtgcnjpiiofjljaaGreatDoor
/- The document's Equal. -/
namespace Go.Proofs.YtgcnjpiiofjljaaGreatDoor
open Go.RowKit Go.Deep

set_option maxRecDepth 100000 in
set_option maxHeartbeats 2000000 in
theorem equal_any (S : Option Addr) (n cap : Nat) (l : List Sym) (t s : Tn) (a b : Option Addr) (c d : Nat) (w : World) (hS : SigAt w S n l) (hT : TmAt w t.1 a c t.2) (hU : TmAt w s.1 b d s.2) (hk : nodesF t.2 ≤ 1048576) (hk2 : nodesF s.2 ≤ 1048576) :
    Calls Tryz.prog 17 #[.slice S n cap, .agg #[.string t.1.1, .int .i64 t.1.2, .slice a (lenF t.2) c], .agg #[.string s.1.1, .int .i64 s.1.2, .slice b (lenF s.2) d]] w fun e w' => e = .returned (.bool (cmpN (canonT (sgOf l) t) (canonT (sgOf l) s) == 0)) ∧ Below w.heap.size w w' := by
  obtain ⟨ct, hct⟩ : ∃ ct, canonT (sgOf l) t = ct := ⟨_, rfl⟩
  obtain ⟨cs, hcs⟩ : ∃ cs, canonT (sgOf l) s = cs := ⟨_, rfl⟩
  have HC : Hid (∀ W, Below w.heap.size w W → Calls Tryz.prog 28 #[.slice S n cap, .agg #[.string t.1.1, .int .i64 t.1.2, .slice a (lenF t.2) c]] W fun e w' => ∃ a' c', e = .returned (.agg #[.string ct.1.1, .int .i64 ct.1.2, .slice a' (lenF ct.2) c']) ∧ OwnTm false (fun q => W.heap.size ≤ q) w' ct.1 a' c' ct.2 ∧ Below W.heap.size W w') := fun W hW => by
    have := canon_all S n cap l 1048576 (Nat.le_refl _) t a c W hk (hS.below hW) (hT.below hW)
    rw [hct] at this
    exact this
  have HD : Hid (∀ W, Below w.heap.size w W → Calls Tryz.prog 28 #[.slice S n cap, .agg #[.string s.1.1, .int .i64 s.1.2, .slice b (lenF s.2) d]] W fun e w' => ∃ a' c', e = .returned (.agg #[.string cs.1.1, .int .i64 cs.1.2, .slice a' (lenF cs.2) c']) ∧ OwnTm false (fun q => W.heap.size ≤ q) w' cs.1 a' c' cs.2 ∧ Below W.heap.size W w') := fun W hW => by
    have := canon_all S n cap l 1048576 (Nat.le_refl _) s b d W hk2 (hS.below hW) (hU.below hW)
    rw [hcs] at this
    exact this
  have HE : Hid (∀ W a' c' b' d', TmAt W ct.1 a' c' ct.2 → TmAt W cs.1 b' d' cs.2 → Calls Tryz.prog 29 #[.agg #[.string ct.1.1, .int .i64 ct.1.2, .slice a' (lenF ct.2) c'], .agg #[.string cs.1.1, .int .i64 cs.1.2, .slice b' (lenF cs.2) d']] W fun e w' => e = .returned (.bool (cmpN ct cs == 0)) ∧ Below W.heap.size W w') := fun W a' c' b' d' h1 h2 => rsame_any ct cs a' b' c' d' W h1 h2
  have ON : Hid (Pair w t.1 a (lenF t.2) c s.1 b (lenF s.2) d ((w.alloc (.cells #[.string t.1.1, .int .i64 t.1.2, .slice a (lenF t.2) c] 27)).alloc (.cells #[.string s.1.1, .int .i64 s.1.2, .slice b (lenF s.2) d] 27))) := Pair.new _ _ _ _ _ _ _ _ _
  rw [hct, hcs]
  clear hct hcs hS hT hU
  obtain ⟨⟨tn, ts⟩, tl⟩ := t
  obtain ⟨⟨sn, ss⟩, sl⟩ := s
  dsimp only at *
  go_enter Tryz.func17, Tryz.ntmps17
  go_wp2_with (first
    | (go_at_call 28; refine (HD.out _ HB1.out).mono ?_; rintro e w2 ⟨b', d', rfl, ho2, hb2⟩; have hba : Below w2.heap.size w2 (w2.alloc (.cells #[.string cs.1.1, .int .i64 cs.1.2, .slice b' (lenF cs.2) d'] 27)) := (Below.refl _ _).alloc (Nat.le_refl _) _; have hbb := hb2.trans (hba.mono hb2.size); have hbx := HX1.out.below hbb; have e0 := hbx.c0; have e1 := hbx.c1; have e2 := hbx.c2; have HO2 : Hid (TmAt (w2.alloc (.cells #[.string cs.1.1, .int .i64 cs.1.2, .slice b' (lenF cs.2) d'] 27)) cs.1 b' d' cs.2) := ho2.tm.below hba; have HO1' : Hid (TmAt (w2.alloc (.cells #[.string cs.1.1, .int .i64 cs.1.2, .slice b' (lenF cs.2) d'] 27)) ct.1 a' c' ct.2) := HO1.out.below hbb; have HB2 : Hid (Below w.heap.size w (w2.alloc (.cells #[.string cs.1.1, .int .i64 cs.1.2, .slice b' (lenF cs.2) d'] 27))) := HB1.out.trans (hbb.mono HB1.out.size); clear ho2 hb2 hba hbb hbx)
    | (go_at_call 28; refine (HC.out _ ON.out.low).mono ?_; rintro e w1 ⟨a', c', rfl, ho1, hb1⟩; have hba : Below w1.heap.size w1 (w1.alloc (.cells #[.string ct.1.1, .int .i64 ct.1.2, .slice a' (lenF ct.2) c'] 27)) := (Below.refl _ _).alloc (Nat.le_refl _) _; have hbb := hb1.trans (hba.mono hb1.size); have hbx := ON.out.r.below hbb; have c0 := hbx.c0; have c1 := hbx.c1; have c2 := hbx.c2; have HO1 : Hid (TmAt (w1.alloc (.cells #[.string ct.1.1, .int .i64 ct.1.2, .slice a' (lenF ct.2) c'] 27)) ct.1 a' c' ct.2) := ho1.tm.below hba; have HX1 : Hid (TBox (w1.alloc (.cells #[.string ct.1.1, .int .i64 ct.1.2, .slice a' (lenF ct.2) c'] 27)) w1.heap.size ct.1 a' (lenF ct.2) c') := TBox.new _ _ _ _ _; have HB1 : Hid (Below w.heap.size w (w1.alloc (.cells #[.string ct.1.1, .int .i64 ct.1.2, .slice a' (lenF ct.2) c'] 27))) := ON.out.low.trans (hbb.mono ON.out.low.size); clear ho1 hb1 hba hbb hbx)
    | (go_at_call 29; refine (HE.out _ _ _ _ _ HO1'.out HO2.out).mono ?_; rintro e w3 ⟨rfl, hb3⟩; have HB3 : Hid (Below w.heap.size w w3) := HB2.out.trans (hb3.mono HB2.out.size); clear hb3))
  go_ret
  exact ⟨rfl, HB3.out⟩
end Go.Proofs.YtgcnjpiiofjljaaGreatDoor
/- What Parts of package canon answers. -/
namespace Go.Proofs.YtgcnjpiiofjljaaGreatDoor
open Go.RowKit Go.Deep

/-- A list of new terms that a slice holds, none of which shares a block with another. -/
structure NewL (B : Nat) (w : World) (a : Option Addr) (c : Nat) (ks : List Kv) : Prop where
  row : RowAt w a ks.length ks
  gl : GL SepE w ks (fun q => B ≤ q ∧ ∀ b o, a = some ⟨b, o, none⟩ → q ≠ b)
  nil : a = none → c = 0
  new : ∀ b o, a = some ⟨b, o, none⟩ → B ≤ b
  cap : ks.length ≤ c ∧ c ≤ maxLen
theorem newL_clone {w : World} {B : Nat} {x : ByteArray × Int} {a : Option Addr} {c : Nat} {F : Fo} (h : SepTm w (fun q => B ≤ q) x a c F) (hz : lenF F = 0 → a = none ∧ c = 0) : ∃ ks : List Kv, ks.map Kv.tn = kidsL F ∧ ks.length = lenF F ∧ NewL B w a c ks := by
  rcases h.list with e | ⟨g, cur, e1, e2, e3, e4⟩
  · subst e
    obtain ⟨rfl, rfl⟩ := hz rfl
    exact ⟨[], rfl, rfl, RowAt.empty _ _, trivial, fun _ => rfl, (fun b o e => by cases e), Nat.le_refl _, Nat.zero_le _⟩
  · subst e1
    obtain ⟨ks, k1, k2, k3⟩ := sepKids_list e4
    have hl : ks.length = lenF F := by have := congrArg List.length k1; rwa [List.length_map, kids_len] at this
    exact ⟨ks, k1, hl, ⟨rfl, fun j u hu => ⟨g, 0, rfl, k2 j u hu⟩⟩, k3.mono (fun q hq => ⟨hq.1, fun b o e => by cases e; exact hq.2⟩), (fun e => by cases e), (fun b o e => by cases e; exact e2), by rw [hl]; exact h.sizes.len, h.sizes.cap⟩
theorem parts_eq (l : List Sym) (f : Int) (t : Tn) : partsN (sgOf l) f t = if (!decide (kindK l f = 1) && headed f t) = true then kidsL t.2 else if isUnB l f t then [] else [t] := by
  rw [isUnB_eq]
  have hk := kindK_ok l f
  unfold partsN
  by_cases h1 : kindK l f = 1
  · have hj := hk.free.1 h1
    have hu : isUn (sgOf l) f t = false := by
      have : unitAt l f = none := by
        by_cases hin : 0 ≤ f ∧ f.toNat < l.length
        · obtain ⟨n, rfl⟩ := Int.eq_ofNat_of_zero_le hin.1
          have hn : n < l.length := by simpa using hin.2
          refine unit_not hn ?_
          unfold kindK at h1
          rw [symAt_in hn] at h1
          dsimp only at h1
          intro e
          rw [e] at h1
          simp at h1
        · exact unit_out hin
      unfold isUn
      show (match (unitAt l f).map (fun (i : Nat) => (i : Int)) with | some u => isConst t u | none => false) = false
      rw [this]
      rfl
    rw [hj, hu]
    simp [h1]
  · have hj : (sgOf l).joins f = true := by
      cases h : (sgOf l).joins f with
      | true => rfl
      | false => exact absurd (hk.free.2 h) h1
    rw [hj]
    cases hu : isUn (sgOf l) f t with
    | false => simp [h1]
    | true =>
      obtain ⟨u, _, rfl⟩ := isUn_some hu
      cases hh : headed f (constT u) <;> simp [h1, constT, kidsL]

theorem field2 (s : ByteArray) (i : Int) (a : Option Addr) (n c : Nat) (W : World) : (Instr.field 27 (.agg #[.string s, .int .i64 i, .slice a n c]) 2).run Tryz.prog W = .ok (.slice a n c) W := by kernel_rfl

end Go.Proofs.YtgcnjpiiofjljaaGreatDoor
/- What Join of package canon answers. -/
namespace Go.Proofs.YtgcnjpiiofjljaaGreatDoor
open Go.RowKit Go.Deep

def joinB (l : List Sym) (f : Int) (n : Nat) : Bool := !decide (kindK l f = 1) && (!(n == 0) || unitOk l f)
/-- What is joined: of right terms the canonical term; no greater than they are, whatever they are. -/
def JoinR (l : List Sym) (f : Int) (ts : List Tn) (b : Bool) (r : Tn) : Prop :=
  sizeT r ≤ sizes ts + 1 ∧ (b = false → r = constT 0) ∧ ((sgOf l).Ok (arAt l) → (∀ t ∈ ts, RightT (sgOf l) (arAt l) t) → joinN (sgOf l) f (ts.map (canonT (sgOf l))) = if b then some r else none)
theorem joinR_no {l : List Sym} {f : Int} {ts : List Tn} (h : joinB l f ts.length = false) : JoinR l f ts false (constT 0) := by
  refine ⟨by simp [sizeT, constT, nodesF], fun _ => rfl, fun _ _ => ?_⟩
  unfold joinB at h
  unfold joinN
  simp only [Bool.false_eq_true, if_false]
  by_cases hk : kindK l f = 1
  · rw [if_pos ((kindK_ok l f).free.1 hk)]
  · simp only [hk, decide_false, Bool.not_false, Bool.true_and, Bool.or_eq_false_iff, Bool.not_eq_false', beq_iff_eq] at h
    obtain ⟨h1, h2⟩ := h
    have hts : ts = [] := List.length_eq_zero_iff.1 h1
    subst hts
    split
    · rfl
    · show ((unitAt l f).map _).map constT = none
      unfold unitOk at h2
      rw [Option.isSome_eq_false_iff, Option.isNone_iff_eq_none] at h2
      rw [h2]
      rfl
theorem joinR_yes {l : List Sym} {f : Int} {F : Fo} {rs : List Tn} {r r' : Tn} (h : joinB l f (lenF F) = true) (ha : All2 (LooseR (sgOf l) (arAt l)) (kidsL F) rs) (hl : LayR (sgOf l) (kindK l f) f (unitI l f) rs r) (hs : SetR (sgOf l) r r') : JoinR l f (kidsL F) true r' := by
  refine ⟨?_, (fun e => by cases e), fun hS hR => ?_⟩
  · rw [set_size hs]
    have h1 := lay_size hl
    have h2 := loose_sizes ha
    omega
  · have hk := kindK_ok l f
    unfold joinB at h
    rw [Bool.and_eq_true, Bool.or_eq_true] at h
    obtain ⟨h1, h2⟩ := h
    have hj : (sgOf l).joins f = true := by
      cases hj : (sgOf l).joins f with
      | true => rfl
      | false => have := hk.free.2 hj; simp [this] at h1
    have hn : kidsL F ≠ [] ∨ (sgOf l).unit f ≠ none := by
      rcases h2 with h2 | h2
      · left
        intro e
        have := congrArg List.length e
        rw [kids_len] at this
        simp [this] at h2
      · right
        intro e
        have e : (unitAt l f).map (fun (i : Nat) => (i : Int)) = none := e
        rw [Option.map_eq_none_iff] at e
        unfold unitOk at h2
        rw [e] at h2
        cases h2
    obtain ⟨c, c1, c2⟩ := lay_join hS hk hj hR ha hl hn
    unfold joinN
    rw [if_neg (by rw [hj]; simp), List.flatMap_map]
    have e : (fun a => partsN (sgOf l) f (canonT (sgOf l) a)) = pc (sgOf l) f := rfl
    rw [e, c1]
    have hcan : CanT (sgOf l) (arAt l) c := join_can hS hj (fun p hp => by
      obtain ⟨t, ht, hp⟩ := List.mem_flatMap.1 hp
      exact parts_good hj (canonT_can hS (hR t ht)) p hp) c1
    rw [mod_set hcan c2 hs]
    rfl

end Go.Proofs.YtgcnjpiiofjljaaGreatDoor
/- What the statements' own 'right' answers of a signature, two terms and a list. -/
namespace Go.Proofs.YtgcnjpiiofjljaaGreatDoor
open Go.RowKit Go.Deep

/-- What a statement is asked about, in memory. -/
structure TwoAt (w : World) (S : Option Addr) (n : Nat) (l : List Sym) (A B : Tn) (a b : Option Addr) (c d : Nat) (La : Option Addr) (F : Fo) : Prop where
  sig : SigAt w S n l
  a : TmAt w A.1 a c A.2
  b : TmAt w B.1 b d B.2
  l : ArgsAt w La F
  few : lenF F * 48 ≤ 140737488351232
set_option maxRecDepth 100000 in
theorem TwoAt.below {w w' : World} {S : Option Addr} {n : Nat} {l : List Sym} {A B : Tn} {a b : Option Addr} {c d : Nat} {La : Option Addr} {F : Fo} (h : TwoAt w S n l A B a b c d La F) (hb : Below w.heap.size w w') : TwoAt w' S n l A B a b c d La F :=
  ⟨h.sig.below hb, h.a.below hb, h.b.below hb, h.l.below hb, h.few⟩
def twoC (S : Option Addr) (n cap : Nat) (A B : Tn) (a b : Option Addr) (c d : Nat) (f : Int) (La : Option Addr) (F : Fo) (lc : Nat) : Array Value :=
  #[.slice S n cap, .string A.1.1, .int .i64 A.1.2, .slice a (lenF A.2) c, .string B.1.1, .int .i64 B.1.2, .slice b (lenF B.2) d, .int .i64 f, .slice La (lenF F) lc]
/-- The box of it. -/
def WBox (W : World) (g : Nat) (cs : Array Value) : Prop := W.heap[g]? = some (.cells cs 28 (0, 0))
set_option maxRecDepth 100000 in
theorem WBox.below {W W' : World} {g : Nat} {cs : Array Value} (h : WBox W g cs) (hb : Below W.heap.size W W') : WBox W' g cs := (hb.block g (Array.getElem?_eq_some_iff.1 h).1).trans h
set_option maxRecDepth 100000 in
theorem WBox.c {W : World} {g : Nat} {cs : Array Value} (h : WBox W g cs) (k : Nat) {v : Value} (hv : cs[k]? = some v) : W.cell? ⟨g, k, none⟩ = some v := by simp [World.cell?, show W.heap[g]? = _ from h, hv]

end Go.Proofs.YtgcnjpiiofjljaaGreatDoor
/- What the statements' own 'app' answers: a symbol's term of copies. -/
namespace Go.Proofs.YtgcnjpiiofjljaaGreatDoor
open Go.RowKit Go.Deep

set_option maxRecDepth 100000 in
theorem Lst.set {B : Nat} {W : World} {v : Value} {ks : List Kv} (h : Lst B W v ks) {p : Addr} (hp : p.block < B) (u : Value) : Lst B (W.setCell p u) v ks :=
  ⟨owns_block h.row (fun q hq => by have := (owns_cells h.row hq).1; exact Below.heap_setCell W p u q (by omega)), fun k hk => (h.own k hk).keep (fun q hq _ => Below.heap_setCell W p u q (by omega))⟩
/-- The boxes of the answer and of what is built. -/
structure Duo (w : World) (x : ByteArray × Int) (W : World) (v : Value) : Prop where
  low : Below w.heap.size w W
  r : XBox W w.heap.size (⟨#[]⟩, 0) (.slice none 0 0)
  x : XBox W (w.heap.size + 1) x v
set_option maxRecDepth 100000 in
theorem duo_new (w : World) (x : ByteArray × Int) : Duo w x ((w.alloc (.cells #[.string ⟨#[]⟩, .int .i64 0, .slice none 0 0] 27)).alloc (.cells #[.string x.1, .int .i64 x.2, .slice none 0 0] 27)) (.slice none 0 0) :=
  ⟨((Below.refl _ w).alloc (Nat.le_refl _) _).alloc (by simp) _, XBox.below (W := w.alloc (.cells #[.string ⟨#[]⟩, .int .i64 0, .slice none 0 0] 27)) (World.alloc_heap_new w _) ((Below.refl _ _).alloc (Nat.le_refl _) _), heap_alloc2_new w _ _⟩

end Go.Proofs.YtgcnjpiiofjljaaGreatDoor
/- An AC or ACU symbol's term of two right terms or more is right; the unit's constant is. -/
namespace Go.Proofs.YtgcnjpiiofjljaaGreatDoor
open Go.RowKit Go.Deep

set_option maxRecDepth 100000 in
theorem errF_mk {S : List Sym} : ∀ {l : List Tn}, (∀ t ∈ l, errT S t.1 t.2 = 0) → errF S (mkF l) = 0
  | [], _ => rfl
  | t :: r, h => by
    rw [mkF, errF, show thenC (nodeErr S t.1 (lenF t.2)) (errF S t.2) = 0 from h t List.mem_cons_self, errF_mk (fun k hk => h k (List.mem_cons_of_mem _ hk))]
    rfl
set_option maxRecDepth 100000 in
theorem rightB_app {S : List Sym} {k : Nat} (hk : k < S.length) (hj : S[k].kind ≠ 1) {l : List Tn} (h2 : 2 ≤ l.length) (hc : checkE S = 0) (h : ∀ t ∈ l, rightB S t = true) : rightB S (appT (k : Int) l) = true := by
  have he : ∀ t ∈ l, errT S t.1 t.2 = 0 := fun t ht => by
    have := h t ht
    unfold rightB at this
    simp only [Bool.and_eq_true, beq_iff_eq] at this
    exact this.2
  have hn : nodeErr S (noB, (k : Int)) (lenF (mkF l)) = 0 := by
    rw [nodeErr_in noName_noB (by show (0 : Int) ≤ (k : Int); omega) (by show (k : Int).toNat < S.length; omega)]
    rw [if_pos]
    unfold takesB
    rw [if_neg (by simpa using hj), len_mk]
    simpa using h2
  unfold rightB appT errT
  dsimp only
  rw [hn, errF_mk he, hc]
  rfl
set_option maxRecDepth 100000 in
/-- The place of an AC or ACU symbol of a right signature joins. -/
theorem joins_of {S : List Sym} (hc : checkE S = 0) {k : Nat} (hk : k < S.length) (hj : S[k].kind ≠ 1) : (sgOf S).joins (k : Int) = true := by
  show joinsAt S (k : Int) = true
  unfold joinsAt
  rw [symAt_in hk]
  have := (symErr_zero (right_each hc hk)).2.1
  unfold kindB at this
  simpa [hj] using this
set_option maxRecDepth 100000 in
theorem rightB_const {S : List Sym} (hc : checkE S = 0) {f : Int} {i : Nat} (hu : unitAt S f = some i) : rightB S (constT (i : Int)) = true := by
  obtain ⟨hi, hk, ha⟩ := unit_facts hc hu
  have hn : nodeErr S (noB, (i : Int)) 0 = 0 := by
    rw [nodeErr_in noName_noB (by show (0 : Int) ≤ (i : Int); omega) (by show (i : Int).toNat < S.length; omega)]
    rw [if_pos]
    unfold takesB
    have e : S[(noB, (i : Int)).2.toNat]'(by show (i : Int).toNat < S.length; omega) = S[i] := by simp
    rw [e, if_pos hk, ha]
    rfl
  unfold rightB constT errT
  dsimp only
  rw [show lenF (BT.nil : Fo) = 0 from rfl, hn, hc]
  rfl
end Go.Proofs.YtgcnjpiiofjljaaGreatDoor
/- What Head of the statements answers: true. -/
namespace Go.Proofs.YtgcnjpiiofjljaaGreatDoor
open Go.RowKit Go.Deep

def bA : ByteArray := ⟨#[97]⟩
def bOne : ByteArray := ⟨#[111, 110, 101]⟩
def bF : ByteArray := ⟨#[102]⟩
def bPlus : ByteArray := ⟨#[112, 108, 117, 115]⟩
def bTimes : ByteArray := ⟨#[116, 105, 109, 101, 115]⟩
def bX : ByteArray := ⟨#[88]⟩
def someL : List Sym := [⟨bA, 1, 0, ⟨#[]⟩⟩, ⟨bOne, 1, 0, ⟨#[]⟩⟩, ⟨bF, 1, 2, ⟨#[]⟩⟩, ⟨bPlus, 2, 2, ⟨#[]⟩⟩, ⟨bTimes, 3, 2, bOne⟩]

def headX : Tn := ((⟨#[]⟩, 4), .node 0 0 (⟨#[]⟩, 0) .nil (.node 0 0 (⟨#[]⟩, 4) (.node 0 0 (bX, 0) .nil (.node 0 0 (⟨#[]⟩, 1) .nil .nil)) .nil))
def headYF : Fo := .node 0 0 (bX, 0) .nil (.node 0 0 (⟨#[]⟩, 0) .nil .nil)
def headY : Tn := ((⟨#[]⟩, 4), headYF)
theorem some_ok : (sgOf someL).Ok (arAt someL) := sg_ok (by decide +kernel)
theorem head_right : RightT (sgOf someL) (arAt someL) headX := errT_right (x := (⟨#[]⟩, 4)) (by decide +kernel) (by decide +kernel)
theorem head_canon : canonT (sgOf someL) headX = headY := by kernel_rfl
theorem headY_canon : canonT (sgOf someL) headY = headY := by rw [← head_canon]; exact canonT_twice some_ok head_right
theorem headY_right : RightT (sgOf someL) (arAt someL) headY := by rw [← head_canon]; exact right_of_can (canonT_can some_ok head_right)

set_option maxRecDepth 100000 in
theorem some_any (w : World) : Calls Tryz.prog 19 #[] w fun e w' => ∃ g, e = .returned (.slice (some ⟨g, 0, none⟩) 5 5) ∧ SigAt w' (some ⟨g, 0, none⟩) 5 someL ∧ Below w.heap.size w w' := by
  go_enter Tryz.func19, Tryz.ntmps19
  go_wp2
  go_ret
  refine ⟨w.heap.size, rfl, ⟨rfl, by decide, fun i hi => ⟨w.heap.size, 0, rfl, ?_⟩, ?_⟩, (Below.refl _ w).alloc (Nat.le_refl _) _⟩
  · have hb := Box.new w 73 #[.string bA, .int .i64 1, .int .i64 0, .string ⟨#[]⟩, .string bOne, .int .i64 1, .int .i64 0, .string ⟨#[]⟩, .string bF, .int .i64 1, .int .i64 2, .string ⟨#[]⟩, .string bPlus, .int .i64 2, .int .i64 2, .string ⟨#[]⟩, .string bTimes, .int .i64 3, .int .i64 2, .string bOne]
    have hi : i < 5 := hi
    match i, hi with
    | 0, _ => exact ⟨hb.c 0, hb.c 1, hb.c 2, hb.c 3⟩
    | 1, _ => exact ⟨hb.c 4, hb.c 5, hb.c 6, hb.c 7⟩
    | 2, _ => exact ⟨hb.c 8, hb.c 9, hb.c 10, hb.c 11⟩
    | 3, _ => exact ⟨hb.c 12, hb.c 13, hb.c 14, hb.c 15⟩
    | 4, _ => exact ⟨hb.c 16, hb.c 17, hb.c 18, hb.c 19⟩
  · intro x hx
    simp only [someL, List.mem_cons, List.not_mem_nil, or_false] at hx
    rcases hx with rfl | rfl | rfl | rfl | rfl <;> exact ⟨by decide, by decide⟩

end Go.Proofs.YtgcnjpiiofjljaaGreatDoor
/- What head of the statements of layer 7 answers: true. -/
namespace Go.Proofs.YtgcnjpiiofjljaaGreatDoor
open Go.RowKit Go.Deep

def bY : ByteArray := ⟨#[89]⟩
def hdA : Fo := .node 0 0 (bY, 0) .nil (.node 0 0 (⟨#[]⟩, 0) .nil .nil)
def hdB : List Bn := [(bX, ((⟨#[]⟩, 3), hdA))]
def hdT : Fo := .node 0 0 (bX, 0) .nil (.node 0 0 (bX, 0) .nil .nil)
def hdP : Tn := putN (lkB hdB) (⟨#[]⟩, 3) hdT
def hdYF : Fo := .node 0 0 (bY, 0) .nil (.node 0 0 (bY, 0) .nil (.node 0 0 (⟨#[]⟩, 0) .nil (.node 0 0 (⟨#[]⟩, 0) .nil .nil)))
def hdY : Tn := ((⟨#[]⟩, 3), hdYF)
theorem hd_left : (0 : Int) ≤ leftN (lkB hdB) (⟨#[]⟩, 3) hdT 400 := by decide +kernel
theorem hd_right : RightT (sgOf someL) (arAt someL) hdP := errT_right (x := hdP.1) (by decide +kernel) (by decide +kernel)
theorem hd_canon : canonT (sgOf someL) hdP = hdY := by kernel_rfl
set_option maxRecDepth 100000 in
set_option maxHeartbeats 4000000 in
theorem shead_any (w : World) : Calls Tryz.prog 5 #[] w fun e w' => e = .returned (.bool true) ∧ Below w.heap.size w w' := by
  obtain ⟨W0, hW0⟩ : ∃ W0, (w.alloc (.cells #[.string ⟨#[89]⟩, .int .i64 0, .slice none 0 0, .string ⟨#[]⟩, .int .i64 0, .slice none 0 0] 27)).alloc (.cells #[.string ⟨#[88]⟩, .string ⟨#[]⟩, .int .i64 3, .slice (some ⟨w.heap.size, 0, none⟩) 2 2] 42) = W0 := ⟨_, rfl⟩
  have hb0 : Below w.heap.size w W0 := by rw [← hW0]; exact ((Below.refl _ w).alloc (Nat.le_refl _) _).alloc (by simp) _
  have B0 : Box W0 w.heap.size 27 #[.string ⟨#[89]⟩, .int .i64 0, .slice none 0 0, .string ⟨#[]⟩, .int .i64 0, .slice none 0 0] := by
    rw [← hW0]
    exact (Box.new w 27 _).below ((Below.refl _ _).alloc (Nat.le_refl _) _)
  have B1 : Box W0 (w.heap.size + 1) 42 #[.string ⟨#[88]⟩, .string ⟨#[]⟩, .int .i64 3, .slice (some ⟨w.heap.size, 0, none⟩) 2 2] := by
    have := Box.new (w.alloc (.cells #[.string ⟨#[89]⟩, .int .i64 0, .slice none 0 0, .string ⟨#[]⟩, .int .i64 0, .slice none 0 0] 27)) 42 #[.string ⟨#[88]⟩, .string ⟨#[]⟩, .int .i64 3, .slice (some ⟨w.heap.size, 0, none⟩) 2 2]
    rw [World.size_alloc] at this
    rw [← hW0]
    exact this
  have HT1 : TmAt W0 (⟨#[]⟩, 3) (some ⟨w.heap.size, 0, none⟩) 2 hdA :=
    ⟨⟨by decide, by decide, by decide, by decide⟩, .inr ⟨_, _, rfl, ⟨none, 0, B0.c 0, B0.c 1, B0.c 2, ⟨by decide, by decide, by decide, by decide⟩, .inl rfl⟩, ⟨none, 0, B0.c 3, B0.c 4, B0.c 5, ⟨by decide, by decide, by decide, by decide⟩, .inl rfl⟩, trivial⟩⟩
  have HBI : Hid (BindsAt W0 (some ⟨w.heap.size + 1, 0, none⟩) 1 hdB) := hid ⟨rfl, by decide, fun i hi => by
    have hi : i < 1 := hi
    match i, hi with
    | 0, _ => exact ⟨w.heap.size + 1, 0, some ⟨w.heap.size, 0, none⟩, 2, rfl, ⟨B1.c 0, B1.c 1, B1.c 2, B1.c 3, HT1⟩⟩, fun x hx => by
      simp only [hdB, List.mem_singleton] at hx
      subst hx
      decide⟩
  have HL0 := hid hb0
  clear HT1 B0 B1 hb0
  go_enter Tryz.func5, Tryz.ntmps5
  go_upto_region 2 with fail
  clear hW0
  go_wp2_with fail
  refine (some_any _).mono ?_
  rintro e w1 ⟨g1, rfl, hs1, hb1⟩
  have b2 := alloc_below0 w1 (.cells #[.string ⟨#[88]⟩, .int .i64 0, .slice none 0 0, .string ⟨#[88]⟩, .int .i64 0, .slice none 0 0] 27)
  have B2 := Box.new w1 27 #[.string ⟨#[88]⟩, .int .i64 0, .slice none 0 0, .string ⟨#[88]⟩, .int .i64 0, .slice none 0 0]
  have HS2 := hid (hs1.below b2)
  have HB2 := hid (HBI.out.below (hb1.trans (b2.mono hb1.size)))
  have HL2 := hid (HL0.out.trans ((hb1.trans (b2.mono hb1.size)).mono HL0.out.size))
  have HT2 : Hid (TmAt (w1.alloc (.cells #[.string ⟨#[88]⟩, .int .i64 0, .slice none 0 0, .string ⟨#[88]⟩, .int .i64 0, .slice none 0 0] 27)) (⟨#[]⟩, 3) (some ⟨w1.heap.size, 0, none⟩) 2 hdT) :=
    hid ⟨⟨by decide, by decide, by decide, by decide⟩, .inr ⟨_, _, rfl, ⟨none, 0, B2.c 0, B2.c 1, B2.c 2, ⟨by decide, by decide, by decide, by decide⟩, .inl rfl⟩, ⟨none, 0, B2.c 3, B2.c 4, B2.c 5, ⟨by decide, by decide, by decide, by decide⟩, .inl rfl⟩, trivial⟩⟩
  clear hs1 hb1 b2 B2 HBI HL0
  go_wp2_with fail
  generalize w1.alloc (.cells #[.string ⟨#[88]⟩, .int .i64 0, .slice none 0 0, .string ⟨#[88]⟩, .int .i64 0, .slice none 0 0] 27) = W2 at HS2 HB2 HL2 HT2 ⊢
  refine (papply_any (some ⟨g1, 0, none⟩) 5 5 someL (some ⟨w.heap.size + 1, 0, none⟩) 1 hdB (⟨#[]⟩, 3) hdT (some ⟨w1.heap.size, 0, none⟩) 2 W2 HS2.out HB2.out (by decide) HT2.out).mono ?_
  rintro e w3 ⟨hb3, ⟨h1, _⟩ | ⟨_, k, rfl, hr, hE⟩⟩
  · exact absurd hd_left (by omega)
  have hk : k.tn = hdY := by rw [hr.2 some_ok hd_right]; exact hd_canon
  obtain ⟨kx, kl, ka, kc⟩ := k
  have e1 : kx = (⟨#[]⟩, 3) := congrArg Prod.fst hk
  have e2 : kl = hdYF := congrArg Prod.snd hk
  subst e1 e2
  dsimp only
  rw [show lenF hdYF = 4 from rfl]
  have hty := (SepTm.tm hE.1).below (alloc_below0 w3 (.cells #[.string ⟨#[]⟩, .int .i64 3, .slice ka 4 kc] 27))
  have BX := Box.new w3 27 #[.string ⟨#[]⟩, .int .i64 3, .slice ka 4 kc]
  have HL3 := hid ((HL2.out.trans (hb3.mono HL2.out.size)).trans ((alloc_below0 w3 (.cells #[.string ⟨#[]⟩, .int .i64 3, .slice ka 4 kc] 27)).mono (Nat.le_trans HL2.out.size hb3.size)))
  obtain ⟨yb, yo, e3, hkk⟩ := hty.args.get (by show 0 < lenF hdYF; decide)
  have e3' : ka = some ⟨yb, yo, none⟩ := e3
  subst e3'
  have hyc : 4 ≤ kc := hty.sizes.len
  have hyc2 : kc ≤ 9223372036854775807 := hty.sizes.cap
  obtain ⟨⟨_, _, k0, _, _, _, _⟩, ⟨_, _, _, _, _, _, _⟩, ⟨_, _, _, _, _, _, _⟩, ⟨_, _, _, k4, _, _, _⟩, _⟩ := hkk
  have y1 := BX.c 1; have y2 := BX.c 2
  have k0' : (w3.alloc (.cells #[.string ⟨#[]⟩, .int .i64 3, .slice (some ⟨yb, yo, none⟩) 4 kc] 27)).cell? ⟨yb, yo, none⟩ = some (.string ⟨#[89]⟩) := k0
  have k4' : (w3.alloc (.cells #[.string ⟨#[]⟩, .int .i64 3, .slice (some ⟨yb, yo, none⟩) 4 kc] 27)).cell? ⟨yb, yo + 3 + 3 + 3 + 1, none⟩ = some (.int .i64 0) := k4
  have k5' : (w3.alloc (.cells #[.string ⟨#[]⟩, .int .i64 3, .slice (some ⟨yb, yo, none⟩) 4 kc] 27)).cell? ⟨yb, yo + 9 + 1, none⟩ = some (.int .i64 0) := k4
  clear k0 k4 hty BX hb3 hr hE hk HS2 HB2 HL2 HT2
  go_wp2_with fail
  go_ret
  exact ⟨rfl, HL3.out⟩
end Go.Proofs.YtgcnjpiiofjljaaGreatDoor
