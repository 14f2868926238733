import Derived.Laws.ResultCell
import Derived.Test.YtppgmepmegelbaaGreatDoorKPUni
/- What the document's Join and Canon answer, of any terms. -/
namespace Go.Proofs.YtppgmepmegelbaaGreatDoor
open Go.RowKit Go.Deep

set_option maxRecDepth 100000 in
/-- A list that is done, as a term's. -/
theorem Lst.term {B : Nat} {W : World} {v : Value} {ks : List Kv} {F : Fo} (x : ByteArray × Int) (h : Lst B W v ks) (hk : ks.map Kv.tn = kidsL F) (hx : x.1.size ≤ maxLen) (hf : lenF F * 48 ≤ 140737488351232) :
    ∃ a c, v = .slice a (lenF F) c ∧ OwnTm false (fun q => B ≤ q) W x a c F := by
  have hl : ks.length = lenF F := by have := congrArg List.length hk; rwa [List.length_map, kids_len] at this
  rcases h.row.2 with ⟨hv, h0⟩ | ⟨g, cap, cur, hv, hb, hg, hnc, hcm, hsz, hcur⟩
  · refine ⟨none, 0, by rw [← hl, h0]; exact hv, ⟨⟨hx, by omega, by simp, hf⟩, .inl ⟨len_nil (by omega), rfl⟩⟩⟩
  · have hrow := h.row
    rw [hv] at hrow
    refine ⟨_, cap, by rw [← hl]; exact hv, ⟨⟨hx, by omega, hcm, hf⟩, .inr ⟨g, cur, rfl, hb, hg, (fun e => by cases e), ownKids_of F ks 0 hk (owns_at hrow) (fun k hk => (h.own k hk).mono (fun q _ hq => hq.1))⟩⟩⟩
set_option maxRecDepth 100000 in
/-- What comes out of Parts: nil, or some. -/
theorem Lst.shape {B : Nat} {W : World} {v : Value} {ms : List Kv} (h : Lst B W v ms) (hn : ms = [] → v = .slice none 0 0) : ∃ a c, v = .slice a ms.length c ∧ RowAt W a ms.length ms ∧ (a = none → c = 0) ∧ (a ≠ none → 0 < ms.length) := by
  obtain ⟨a, c, rfl, _, _, h3, h4, _⟩ := row_of_owns h.row
  refine ⟨a, c, rfl, h3, fun e => (h4 e).2, fun e => ?_⟩
  cases ms with
  | nil => cases hn rfl; exact absurd rfl e
  | cons k r => simp
set_option maxRecDepth 100000 in
/-- What Sorted makes of a list. -/
theorem Lst.sorted {B : Nat} {W W' : World} {v v' : Value} {ks out : List Kv} (h : Lst B W v ks) (hB : B ≤ W.heap.size) (hb : Below W.heap.size W W') (ho : W'.ownsRow W.heap.size 28 3 v' out.length (kvCells out)) (hin : ∀ k ∈ out, k ∈ ks) : Lst B W' v' out := by
  refine ⟨owns_base ho hB, fun k hk => ?_⟩
  have h2 : OwnTm false (fun q => B ≤ q ∧ some q ≠ v'.ownBlock) W k.x k.a k.c k.l := (h.own k (hin k hk)).mono (fun q hq hp => ⟨hp.1, fun e => by have := (owns_cells ho e.symm).1; omega⟩)
  exact h2.below hb
def zeroT : Tn := ((noB, 0), .nil)
/-- One term, in new memory. -/
def JoinRet (B : Nat) (W : World) (r : Option Tn) (e : Ending) : Prop :=
  ∃ a c, e = .returned (.tuple #[.agg #[.string (r.getD zeroT).1.1, .int .i64 (r.getD zeroT).1.2, .slice a (lenF (r.getD zeroT).2) c], .bool r.isSome]) ∧ OwnTm false (fun q => B ≤ q) W (r.getD zeroT).1 a c (r.getD zeroT).2
def CanonOk (S : Option Addr) (n cap : Nat) (l : List Sym) (k : Nat) : Prop := ∀ (t : Tn) (a : Option Addr) (c : Nat) (w : World), nodesF t.2 ≤ k → SigAt w S n l → TmAt w t.1 a c t.2 →
  Calls Tryz.prog 32 #[.slice S n cap, .agg #[.string t.1.1, .int .i64 t.1.2, .slice a (lenF t.2) c]] w fun e w' => ∃ a' c', e = .returned (.agg #[.string (canonT (sgOf l) t).1.1, .int .i64 (canonT (sgOf l) t).1.2, .slice a' (lenF (canonT (sgOf l) t).2) c']) ∧ OwnTm false (fun q => w.heap.size ≤ q) w' (canonT (sgOf l) t).1 a' c' (canonT (sgOf l) t).2 ∧ Below w.heap.size w w'
def JoinOk (S : Option Addr) (n cap : Nat) (l : List Sym) (k : Nat) : Prop := ∀ (f : Int) (F : Fo) (a : Option Addr) (c : Nat) (w : World), nodesF F ≤ k → SigAt w S n l → ArgsAt w a F →
  Calls Tryz.prog 13 #[.slice S n cap, .int .i64 f, .slice a (lenF F) c] w fun e w' => JoinRet w.heap.size w' (joinN (sgOf l) f (canonL (sgOf l) F)) e ∧ Below w.heap.size w w'

set_option maxRecDepth 100000 in
theorem sizes_len : ∀ l : List Tn, l.length ≤ sizes l
  | [] => Nat.le_refl _
  | t :: r => by rw [sizes_cons, List.length_cons]; have := sizes_len r; unfold sizeT; omega
set_option maxRecDepth 100000 in
theorem sizes_take (l : List Tn) (j : Nat) : sizes (l.take j) ≤ sizes l := by
  have := sizes_append (l.take j) (l.drop j)
  rw [List.take_append_drop] at this
  omega
set_option maxRecDepth 100000 in
/-- How many parts there are, at most. -/
theorem flat_few (S : Sg) (f : Int) (F : Fo) (j : Nat) : (((canonL S F).take j).flatMap (partsN S f)).length ≤ nodesF F :=
  Nat.le_trans (sizes_len _) (Nat.le_trans (flat_size S f _) (Nat.le_trans (sizes_take _ j) (canonL_size S F)))
set_option maxRecDepth 100000 in
theorem canonL_take {S : Sg} {F : Fo} {k : Nat} {x : ByteArray × Int} {m : Fo} {B O : Nat} {r : Fo} (h : dropF k F = .node B O x m r) : (canonL S F).take (k + 1) = (canonL S F).take k ++ [canonT S (x, m)] := by
  rw [canonL_map, ← List.map_take, ← List.map_take, kids_take h]
  simp
set_option maxRecDepth 100000 in
/-- The answer, in the box that is the function's. -/
theorem ret_join {fn : Func} {R : Ending → World → Prop} {a : Act} {w : World} {p u B : Nat} {x : ByteArray × Int} {v : Value} (h : fn.results = #[.cell p 28, .tmp u]) (hp : a.tmps.getD p undef = .pointer (some ⟨B, 0, none⟩))
    (hx : XBox w B x v) (hd : a.defers = []) (hR : R (.returned (.tuple #[.agg #[.string x.1, .int .i64 x.2, v], a.tmps.getD u undef])) w) : bodyPost Tryz.prog fn R .ret a w := by
  refine bodyPost_ret ?_ hd hR
  rw [results_cell_tmp h, hp]
  rw [show (asAddr (.pointer (some ⟨B, 0, none⟩))).run Tryz.prog w = .ok ⟨B, 0, none⟩ w from rfl]
  simp only [Result.andThen_ok, run_loadVar_row w B 28 28 _ (0, 0) _ hx Tryz.underlying28 rfl Tryz.size28]
set_option maxRecDepth 100000 in
theorem own_nil {P : Nat → Prop} (W : World) (x : ByteArray × Int) (hx : x.1.size ≤ maxLen) : OwnTm false P W x none 0 .nil := ⟨⟨hx, Nat.le_refl _, by simp, by simp [lenF]⟩, .inl ⟨rfl, rfl⟩⟩
set_option maxRecDepth 100000 in
theorem OwnTm.sets {W : World} {B : Nat} {x : ByteArray × Int} {a : Option Addr} {c : Nat} {F : Fo} (h : OwnTm false (fun q => B + 1 ≤ q) W x a c F) (u v t : Value) : OwnTm false (fun q => B ≤ q) (((W.setCell ⟨B, 0, none⟩ u).setCell ⟨B, 1, none⟩ v).setCell ⟨B, 2, none⟩ t) x a c F :=
  (h.keep (fun q hq _ => sets_far (by omega) _ _ _)).mono (fun q _ hq => by omega)

set_option maxRecDepth 100000 in
set_option maxHeartbeats 2000000 in
theorem join_of {S : Option Addr} {n cap : Nat} {l : List Sym} {k : Nat} (hk : k ≤ 1048576) (ih : ∀ j, j < k → CanonOk S n cap l j) : JoinOk S n cap l k := by
  intro f F a c w hF hS hA
  have HS : Hid (SigAt w S n l) := hS
  have HA : Hid (ArgsAt w a F) := hA
  have IH : Hid (∀ j, j < k → CanonOk S n cap l j) := ih
  have HJ : Hid (∀ W, Below w.heap.size w W → Calls Tryz.prog 30 #[.slice S n cap, .int .i64 f] W fun e w' => e = .returned (.bool (joinsAt l f)) ∧ Below W.heap.size W w') := fun W hW => joins_any S n cap l f W (HS.out.below hW)
  have HU : Hid (∀ W, Below w.heap.size w W → Calls Tryz.prog 33 #[.slice S n cap, .int .i64 f] W fun e w' => UnitRet l f e ∧ w' = W) := fun W hW => runit_any S n cap l f W (HS.out.below hW)
  have HX0 : Hid (XBox (w.alloc (.cells #[.string ⟨#[]⟩, .int .i64 0, .slice none 0 0] 28)) w.heap.size (⟨#[]⟩, 0) (.slice none 0 0)) := World.alloc_heap_new w _
  have HB0 : Hid (Below w.heap.size w (w.alloc (.cells #[.string ⟨#[]⟩, .int .i64 0, .slice none 0 0] 28))) := (Below.refl _ w).alloc (Nat.le_refl _) _
  have hlF : lenF F ≤ 1048576 := Nat.le_trans (len_nodes F) (Nat.le_trans hF hk)
  clear hS hA ih
  cases hj : joinsAt l f
  · have e : Hid (joinN (sgOf l) f (canonL (sgOf l) F) = none) := by show _ = _; unfold joinN; rw [if_pos (show (sgOf l).joins f = false from hj)]
    rw [hj] at HJ
    go_enter Tryz.func13, Tryz.ntmps13
    go_wp2_with (first
      | (go_at_call 30; refine (HJ.out _ HB0.out).mono ?_; rintro e w1 ⟨rfl, hb1⟩; have HB1 : Hid (Below w.heap.size w w1) := HB0.out.trans (hb1.mono (by simp)); have hbx := HX0.out.below hb1; have HBX : Hid (XBox w1 w.heap.size (⟨#[]⟩, 0) (.slice none 0 0)) := hbx; have r0 := hbx.c0; have r1 := hbx.c1; have r2 := hbx.c2; have f0 := hbx.f (k := 0); have f1 := hbx.f (k := 1); have f2 := hbx.f (k := 2); clear hb1 hbx))
    refine ret_join (p := 6) (u := 7) rfl rfl (HBX.out.all (x := (⟨#[]⟩, 0)) (.slice none 0 0)) rfl ?_
    refine ⟨⟨none, 0, by rw [e.out]; rfl, ?_⟩, sets_below HB1.out (Nat.le_refl _) _ _ _⟩
    rw [e.out]
    exact (own_nil _ _ (by decide)).sets _ _ _
  · have e : Hid (joinN (sgOf l) f (canonL (sgOf l) F) = joinL (sgOf l) f ((canonL (sgOf l) F).flatMap (partsN (sgOf l) f))) := by show _ = _; unfold joinN; rw [if_neg (show ¬ (sgOf l).joins f = false by show ¬ joinsAt l f = false; rw [hj]; simp)]
    rw [hj] at HJ
    go_enter Tryz.func13, Tryz.ntmps13
    go_wp2_with (first
      | (go_at_call 30; refine (HJ.out _ HB0.out).mono ?_; rintro e w1 ⟨rfl, hb1⟩; have HB1 : Hid (Below w.heap.size w w1) := HB0.out.trans (hb1.mono (by simp)); have HX1 : Hid (XBox w1 w.heap.size (⟨#[]⟩, 0) (.slice none 0 0)) := HX0.out.below hb1; clear hb1))
    go_loopw [8, 9] (fun ov i wr => ∃ (j : Nat) (v : Value) (ks : List Kv), j ≤ lenF F ∧ v = ov ∧ i = .int .i64 j ∧ Lst (w.heap.size + 1) wr v ks ∧ XBox wr w.heap.size (⟨#[]⟩, 0) (.slice none 0 0) ∧ ks.map Kv.tn = ((canonL (sgOf l) F).take j).flatMap (partsN (sgOf l) f) ∧ Below w.heap.size w wr) (fun _ i _ => lenF F - (intOf i).toNat)
    case atStart => exact ⟨0, _, [], Nat.zero_le _, rfl, rfl, Lst.nil _ _, HX1.out, by simp, HB1.out⟩
    case round =>
      obtain ⟨j, v, ks, hj, rfl, rfl, hL, hX, hmap, hlow⟩ := hrel
      have HL : Hid (Lst (w.heap.size + 1) wr v ks) := hL
      have HX : Hid (XBox wr w.heap.size (⟨#[]⟩, 0) (.slice none 0 0)) := hX
      have HM : Hid (ks.map Kv.tn = ((canonL (sgOf l) F).take j).flatMap (partsN (sgOf l) f)) := hmap
      have HB : Hid (Below w.heap.size w wr) := hlow
      have hxl : w.heap.size + 1 ≤ wr.heap.size := hX.lt
      clear hL hX hmap hlow
      by_cases hlt : j < lenF F
      · obtain ⟨bb, oo, rfl, hkk⟩ := HA.out.get (by omega)
        obtain ⟨y, a1, c1, l1, kd⟩ := hkk.kid (k := j) hlt
        have kd' := kd.below HB.out
        have p0 := kd'.name; have p1 := kd'.sym; have p2 := kd'.list
        have KD : Hid (Kid wr F bb oo j y a1 c1 l1) := kd'
        have hj0 : (0 : Int) ≤ (j : Int) := by omega
        have hjn : (j : Int) < (lenF F : Int) := by omega
        clear kd kd' hkk
        obtain ⟨ct, hct⟩ : ∃ ct, canonT (sgOf l) (y, l1) = ct := ⟨_, rfl⟩
        have HC : Hid (∀ W, Below wr.heap.size wr W → Calls Tryz.prog 32 #[.slice S n cap, .agg #[.string y.1, .int .i64 y.2, .slice a1 (lenF l1) c1]] W fun e w' => ∃ a' c', e = .returned (.agg #[.string ct.1.1, .int .i64 ct.1.2, .slice a' (lenF ct.2) c']) ∧ OwnTm false (fun q => W.heap.size ≤ q) w' ct.1 a' c' ct.2 ∧ Below W.heap.size W w') := fun W hW => by
          have := IH.out (nodesF l1) (by have := KD.out.less; omega) (y, l1) a1 c1 W (Nat.le_refl _) ((HS.out.below HB.out).below hW) (KD.out.at_.below hW)
          rw [hct] at this
          exact this
        have HCT : Hid (canonT (sgOf l) (y, l1) = ct) := hct
        clear hct
        go_wp2_with (first
          | (go_at_call 32; refine (HC.out _ (Below.refl _ _)).mono ?_; rintro e w2 ⟨a', c', rfl, ho2, hb2⟩; have HO2 : Hid (OwnTm false (fun q => wr.heap.size ≤ q) w2 ct.1 a' c' ct.2) := ho2; have HB2 : Hid (Below wr.heap.size wr w2) := hb2; clear ho2 hb2)
          | (go_at_call 31; refine (parts_any S n cap l f ct a' c' w2 ((HS.out.below HB.out).below HB2.out) HO2.out.tm).mono ?_; rintro e w3 ⟨v3, ms, rfl, ho3, hn3, hm3, hb3⟩; obtain ⟨a3, c3, rfl, hr3, hnil3, hsome3⟩ := ho3.shape hn3; have HO3 : Hid (∀ q ∈ ms, OwnTm false (fun q => wr.heap.size ≤ q) w3 q.x q.a q.c q.l) := fun q hq => (ho3.own q hq).mono (fun b _ hb => Nat.le_trans HB2.out.size hb.1); have HB3 : Hid (Below wr.heap.size wr w3) := HB2.out.trans (hb3.mono HB2.out.size); have HM3 : Hid (ms.map Kv.tn = partsN (sgOf l) f ct) := hm3; have HR3 : Hid (RowAt w3 a3 ms.length ms) := hr3; have HN3 : Hid ((a3 = none → c3 = 0) ∧ (a3 ≠ none → 0 < ms.length)) := ⟨hnil3, hsome3⟩; have HMM : Hid ((ks ++ ms).map Kv.tn = ((canonL (sgOf l) F).take (j + 1)).flatMap (partsN (sgOf l) f)) := (by show _ = _; obtain ⟨B1, O1, sp⟩ := KD.out.split; rw [canonL_take sp, List.flatMap_append, ← HM.out, HCT.out, List.map_append, hm3]; simp); have hfew : ks.length + ms.length ≤ 1048576 := (by have h1 := flat_few (sgOf l) f F (j + 1); rw [← HMM.out, List.length_map, List.length_append] at h1; omega); clear ho3 hn3 hm3 hb3 hr3 hnil3 hsome3)
          | (at_builtin; refine wpList_append_lst rfl _ _ rfl (w.heap.size + 1) v ks rfl (owns_below HL.out.row HB3.out) a3 ms.length c3 ms rfl HR3.out HN3.out.1 HN3.out.2 (by omega) (by have := HB3.out.size; omega) ?_; intro v4 w4 hown4 hgrow4 hat4; have HL4 : Hid (Lst (w.heap.size + 1) w4 v4 (ks ++ ms)) := HL.out.grow HB3.out HO3.out hxl hgrow4 hat4 hown4; have HX4 : Hid (XBox w4 w.heap.size (⟨#[]⟩, 0) (.slice none 0 0)) := (HX.out.below HB3.out).kept hgrow4 (fun e => by have := (owns_cells HL.out.row e.symm).1; omega); have HB4 : Hid (Below w.heap.size w w4) := HB.out.trans ((HB3.out.mono HB.out.size).grown hgrow4 (by have := HB3.out.size; omega) (fun k e => by have := (owns_cells HL.out.row e).1; omega)); clear hown4 hgrow4 hat4))
        go_roundw
        case rel => exact ⟨j + 1, v4, ks ++ ms, by omega, rfl, by go_num, HL4.out, HX4.out, HMM.out, HB4.out⟩
        case measure => simp [intOf]; omega
      · obtain rfl : j = lenF F := by omega
        have HM' : Hid (ks.map Kv.tn = (canonL (sgOf l) F).flatMap (partsN (sgOf l) f)) := by
          have := HM.out
          rwa [List.take_of_length_le (by rw [canonL_map, List.length_map, kids_len]; exact Nat.le_refl _)] at this
        have hfew : ks.length ≤ 1048576 := by
          have h1 := flat_few (sgOf l) f F (lenF F)
          rw [← HM.out, List.length_map] at h1
          omega
        obtain ⟨oa, ocap, rfl, hoc, hocm, hot, honil, hosome⟩ := row_of_owns HL.out.row
        have HOT : Hid (RowAt wr oa ks.length ks) := hot
        have hbx := HX.out
        have r0 := hbx.c0; have r1 := hbx.c1; have r2 := hbx.c2; have f0 := hbx.f (k := 0); have f1 := hbx.f (k := 1); have f2 := hbx.f (k := 2)
        clear hbx hot HM
        rcases ks with _ | ⟨k1, _ | ⟨k2, r⟩⟩
        · cases huo : unitOk l f
          · have e2 : Hid (joinN (sgOf l) f (canonL (sgOf l) F) = none) := by
              show _ = _
              rw [e.out, ← HM'.out]
              unfold unitOk at huo
              show ((unitAt l f).map _).map constT = none
              cases hq : unitAt l f with
              | none => rfl
              | some i => rw [hq] at huo; simp at huo
            have HO : Hid (unitOk l f = false) := huo
            obtain ⟨ui, hui⟩ : ∃ ui, unitI l f = ui := ⟨_, rfl⟩
            have HI : Hid (unitI l f = ui) := hui
            clear huo hui
            go_wp2_with (first
              | (go_at_call 33; refine (HU.out _ HB.out).mono ?_; rintro e w9 ⟨he, hw9⟩; unfold UnitRet at he; rw [HI.out, HO.out] at he; subst he; rw [hw9]; clear hw9))
            refine ret_join (p := 6) (u := 7) rfl rfl (HX.out.all (x := (⟨#[]⟩, 0)) (.slice none 0 0)) rfl ?_
            refine ⟨⟨none, 0, by rw [e2.out]; rfl, ?_⟩, sets_below HB.out (Nat.le_refl _) _ _ _⟩
            rw [e2.out]
            exact (own_nil _ _ (by decide)).sets _ _ _
          · have HO : Hid (unitOk l f = true) := huo
            obtain ⟨ui, hui⟩ : ∃ ui, unitI l f = ui := ⟨_, rfl⟩
            have e2 : Hid (joinN (sgOf l) f (canonL (sgOf l) F) = some (constT ui)) := by
              show _ = _
              rw [e.out, ← HM'.out, ← hui]
              unfold unitOk at huo
              show ((unitAt l f).map _).map constT = _
              cases hq : unitAt l f with
              | none => rw [hq] at huo; simp at huo
              | some i => simp [unitI, hq]
            have HI : Hid (unitI l f = ui) := hui
            clear huo hui
            go_wp2_with (first
              | (go_at_call 33; refine (HU.out _ HB.out).mono ?_; rintro e w9 ⟨he, hw9⟩; unfold UnitRet at he; rw [HI.out, HO.out] at he; subst he; rw [hw9]; clear hw9))
            refine ret_join (p := 6) (u := 7) rfl rfl (HX.out.all (x := (⟨#[]⟩, ui)) (.slice none 0 0)) rfl ?_
            refine ⟨⟨none, 0, by rw [e2.out]; rfl, ?_⟩, sets_below HB.out (Nat.le_refl _) _ _ _⟩
            rw [e2.out]
            exact (own_nil _ _ (show noB.size ≤ maxLen by decide)).sets _ _ _
        · have e2 : Hid (joinN (sgOf l) f (canonL (sgOf l) F) = some (k1.x, k1.l)) := by show _ = _; rw [e.out, ← HM'.out]; rfl
          have HO1 : Hid (OwnTm false (fun q => w.heap.size + 1 ≤ q) wr k1.x k1.a k1.c k1.l) := (HL.out.own k1 (by simp)).mono (fun q _ hq => hq.1)
          obtain ⟨b, off, rfl, s0, s1, s2⟩ := HOT.out.get (j := 0) (k := k1) rfl
          obtain ⟨_, rfl, _⟩ := hosome _ _ _ rfl
          simp only [Nat.zero_mul, Nat.zero_add, Nat.add_zero] at s0 s1 s2
          clear honil hosome
          go_wp2
          refine ret_join (p := 6) (u := 7) rfl rfl (HX.out.all (x := k1.x) (.slice k1.a (lenF k1.l) k1.c)) rfl ?_
          refine ⟨⟨k1.a, k1.c, by rw [e2.out]; rfl, ?_⟩, sets_below HB.out (Nat.le_refl _) _ _ _⟩
          rw [e2.out]
          exact HO1.out.sets _ _ _
        · have e2 : Hid (joinN (sgOf l) f (canonL (sgOf l) F) = some ((noB, f), mkF (sortN ((k1 :: k2 :: r).map Kv.tn)))) := by show _ = _; rw [e.out, ← HM'.out]; rfl
          obtain ⟨ks, hks⟩ : ∃ ks, k1 :: k2 :: r = ks := ⟨_, rfl⟩
          have hlen : ks.length = r.length + 2 := by rw [← hks]; rfl
          clear honil hosome
          rw [hks] at e2 HM' hfew HL hoc HOT ⊢
          have HSo := sorted_any oa ks.length ocap ks wr HOT.out (fun q hq => (HL.out.own q hq).tm) (by omega)
          have HSO : Hid (Calls Tryz.prog 34 #[.slice oa ks.length ocap] wr fun e w' => ∃ v out, e = .returned v ∧ w'.ownsRow wr.heap.size 28 3 v out.length (kvCells out) ∧ (∀ k ∈ out, k ∈ ks) ∧ out.map Kv.tn = sortN (ks.map Kv.tn) ∧ Below wr.heap.size wr w') := HSo
          clear HSo hks
          obtain ⟨m, hm⟩ : ∃ m, ks.length = m := ⟨_, rfl⟩
          rw [hm] at HSO hfew hlen hoc ⊢
          have hm1 : ((m : Int) == 1) = false := by simp; omega
          have hm0 : ((m : Int) == 0) = false := by simp; omega
          clear hlen
          have HMm : Hid (ks.length = m) := hm
          clear hm
          go_wp2_with (first
            | (go_at_call 34; refine HSO.out.mono ?_; rintro e w5 ⟨v5, out, rfl, ho5, hi5, hm5, hb5⟩; have hl5 := HL.out.sorted hxl hb5 ho5 hi5; obtain ⟨a5, c5, rfl, hown5⟩ := hl5.term (F := mkF (sortN (ks.map Kv.tn))) (noB, f) (by rw [hm5, kids_mk]) (show noB.size ≤ maxLen by decide) (by rw [len_mk, sortN_len, List.length_map, HMm.out]; omega); have HO5 : Hid (OwnTm false (fun q => w.heap.size + 1 ≤ q) w5 (noB, f) a5 c5 (mkF (sortN (ks.map Kv.tn)))) := hown5; have HX5 : Hid (XBox w5 w.heap.size (⟨#[]⟩, 0) (.slice none 0 0)) := HX.out.below hb5; have HB5 : Hid (Below w.heap.size w w5) := HB.out.trans (hb5.mono HB.out.size); clear r0 r1 r2 f0 f1 f2; have r0 := HX5.out.c0; have r1 := HX5.out.c1; have r2 := HX5.out.c2; have f0 := HX5.out.f (k := 0); have f1 := HX5.out.f (k := 1); have f2 := HX5.out.f (k := 2); clear ho5 hi5 hm5 hb5 hl5 hown5))
          refine ret_join (p := 6) (u := 7) rfl rfl (HX5.out.all (x := (⟨#[]⟩, f)) (.slice a5 (lenF (mkF (sortN (ks.map Kv.tn)))) c5)) rfl ?_
          refine ⟨⟨a5, c5, by rw [e2.out]; rfl, ?_⟩, sets_below HB5.out (Nat.le_refl _) _ _ _⟩
          rw [e2.out]
          exact HO5.out.sets _ _ _
end Go.Proofs.YtppgmepmegelbaaGreatDoor
/- What Join of package canon answers. -/
namespace Go.Proofs.YtppgmepmegelbaaGreatDoor
open Go.RowKit Go.Deep

def joinB (l : List Sym) (f : Int) (n : Nat) : Bool := !decide (kindK l f = 1) && (!(n == 0) || unitOk l f)
/-- What is joined: of right terms the canonical term; no greater than they are, whatever they are. -/
def JoinR (l : List Sym) (f : Int) (ts : List Tn) (b : Bool) (r : Tn) : Prop :=
  sizeT r ≤ sizes ts + 1 ∧ (b = false → r = constT 0) ∧ ((sgOf l).Ok (arAt l) → (∀ t ∈ ts, RightT (sgOf l) (arAt l) t) → joinN (sgOf l) f (ts.map (canonT (sgOf l))) = if b then some r else none)
theorem joinR_no {l : List Sym} {f : Int} {ts : List Tn} (h : joinB l f ts.length = false) : JoinR l f ts false (constT 0) := by
  refine ⟨by simp [sizeT, constT, nodesF], fun _ => rfl, fun _ _ => ?_⟩
  unfold joinB at h
  unfold joinN
  simp only [Bool.false_eq_true, if_false]
  by_cases hk : kindK l f = 1
  · rw [if_pos ((kindK_ok l f).free.1 hk)]
  · simp only [hk, decide_false, Bool.not_false, Bool.true_and, Bool.or_eq_false_iff, Bool.not_eq_false', beq_iff_eq] at h
    obtain ⟨h1, h2⟩ := h
    have hts : ts = [] := List.length_eq_zero_iff.1 h1
    subst hts
    split
    · rfl
    · show ((unitAt l f).map _).map constT = none
      unfold unitOk at h2
      rw [Option.isSome_eq_false_iff, Option.isNone_iff_eq_none] at h2
      rw [h2]
      rfl
theorem joinR_yes {l : List Sym} {f : Int} {F : Fo} {rs : List Tn} {r r' : Tn} (h : joinB l f (lenF F) = true) (ha : All2 (LooseR (sgOf l) (arAt l)) (kidsL F) rs) (hl : LayR (sgOf l) (kindK l f) f (unitI l f) rs r) (hs : SetR (sgOf l) r r') : JoinR l f (kidsL F) true r' := by
  refine ⟨?_, (fun e => by cases e), fun hS hR => ?_⟩
  · rw [set_size hs]
    have h1 := lay_size hl
    have h2 := loose_sizes ha
    omega
  · have hk := kindK_ok l f
    unfold joinB at h
    rw [Bool.and_eq_true, Bool.or_eq_true] at h
    obtain ⟨h1, h2⟩ := h
    have hj : (sgOf l).joins f = true := by
      cases hj : (sgOf l).joins f with
      | true => rfl
      | false => have := hk.free.2 hj; simp [this] at h1
    have hn : kidsL F ≠ [] ∨ (sgOf l).unit f ≠ none := by
      rcases h2 with h2 | h2
      · left
        intro e
        have := congrArg List.length e
        rw [kids_len] at this
        simp [this] at h2
      · right
        intro e
        have e : (unitAt l f).map (fun (i : Nat) => (i : Int)) = none := e
        rw [Option.map_eq_none_iff] at e
        unfold unitOk at h2
        rw [e] at h2
        cases h2
    obtain ⟨c, c1, c2⟩ := lay_join hS hk hj hR ha hl hn
    unfold joinN
    rw [if_neg (by rw [hj]; simp), List.flatMap_map]
    have e : (fun a => partsN (sgOf l) f (canonT (sgOf l) a)) = pc (sgOf l) f := rfl
    rw [e, c1]
    have hcan : CanT (sgOf l) (arAt l) c := join_can hS hj (fun p hp => by
      obtain ⟨t, ht, hp⟩ := List.mem_flatMap.1 hp
      exact parts_good hj (canonT_can hS (hR t ht)) p hp) c1
    rw [mod_set hcan c2 hs]
    rfl

set_option maxRecDepth 100000 in
set_option maxHeartbeats 2000000 in
theorem pjoin_any (S : Option Addr) (n cap : Nat) (l : List Sym) (f : Int) (F : Fo) (a : Option Addr) (c : Nat) (w : World) (hS : SigAt w S n l) (hA : ArgsAt w a F) (hk : nodesF F ≤ 1048576) :
    Calls Tryz.prog 19 #[.slice S n cap, .int .i64 f, .slice a (lenF F) c] w fun e w' => ∃ k : Kv, e = .returned (.tuple #[.agg #[.string k.x.1, .int .i64 k.x.2, .slice k.a (lenF k.l) k.c], .bool (joinB l f (lenF F))]) ∧ JoinR l f (kidsL F) (joinB l f (lenF F)) k.tn ∧ LoosE w' (fun q => w.heap.size ≤ q) k ∧ Below w.heap.size w w' := by
  have HH : Hid (∀ W, Below w.heap.size w W → Calls Tryz.prog 43 #[.slice S n cap, .int .i64 f] W fun e w' => e = .returned (.agg #[.slice S n cap, .int .i64 f, .int .i64 (kindK l f), .int .i64 (unitI l f), .bool (unitOk l f)]) ∧ Below W.heap.size W w') := fun W hW => headAt_any S n cap l f W (hS.below hW)
  have HLY : Hid (∀ W, Below w.heap.size w W → Calls Tryz.prog 45 #[.agg #[.slice S n cap, .int .i64 f, .int .i64 (kindK l f), .int .i64 (unitI l f), .bool (unitOk l f)], .slice a (lenF F) c] W fun e w' => ∃ (k : Kv) (rs : List Tn), e = .returned (.agg #[.string k.x.1, .int .i64 k.x.2, .slice k.a (lenF k.l) k.c]) ∧ All2 (LooseR (sgOf l) (arAt l)) (kidsL F) rs ∧ LayR (sgOf l) (kindK l f) f (unitI l f) rs k.tn ∧ LoosE w' (fun q => W.heap.size ≤ q) k ∧ Below W.heap.size W w') := fun W hW => lay_of S n cap l 1048576 (Nat.le_refl _) (fun j hj => loose_all S n cap l j (by omega)) f F a c W hk (hS.below hW) (hA.below hW)
  have HSE : Hid (∀ W k A, Below w.heap.size w W → LoosE W A k → Calls Tryz.prog 44 #[.slice S n cap, .agg #[.string k.x.1, .int .i64 k.x.2, .slice k.a (lenF k.l) k.c]] W fun e w' => ∃ F, e = .returned (.agg #[.string k.x.1, .int .i64 k.x.2, .slice k.a (lenF F) k.c]) ∧ lenF F = lenF k.l ∧ SetR (sgOf l) k.tn (k.x, F) ∧ LoosE w' A ⟨k.x, F, k.a, k.c⟩ ∧ Turned A W w') := fun W k A hW hE => settle_any S n cap l k A W (hS.below hW) hE
  have hlen : lenF F ≤ 1048576 := by have := len_nodes F; omega
  clear hS hA
  obtain ⟨kd, hkd⟩ : ∃ kd, kindK l f = kd := ⟨_, rfl⟩
  have HKD := hid hkd
  rw [hkd] at HH HLY
  clear hkd
  have hJ : ∀ w1, Below (w.alloc (.cells #[.string ⟨#[]⟩, .int .i64 0, .slice none 0 0] 28)).heap.size (w.alloc (.cells #[.string ⟨#[]⟩, .int .i64 0, .slice none 0 0] 28)) w1 → Below w.heap.size w (w1.alloc (.cells #[.slice S n cap, .int .i64 f, .int .i64 kd, .int .i64 (unitI l f), .bool (unitOk l f)] 84)) ∧ XBox (w1.alloc (.cells #[.slice S n cap, .int .i64 f, .int .i64 kd, .int .i64 (unitI l f), .bool (unitOk l f)] 84)) w.heap.size (⟨#[]⟩, 0) (.slice none 0 0) := fun w1 hb1 => by
    have h0 : Below w.heap.size w (w.alloc (.cells #[.string ⟨#[]⟩, .int .i64 0, .slice none 0 0] 28)) := (Below.refl _ w).alloc (Nat.le_refl _) _
    have h1 := h0.trans (hb1.mono h0.size)
    exact ⟨h1.alloc h1.size _, (XBox.below (World.alloc_heap_new w _) hb1).below ((Below.refl _ _).alloc (Nat.le_refl _) _)⟩
  by_cases hk1 : kd = 1
  · have HJB : Hid (joinB l f (lenF F) = false) := by show _ = _; unfold joinB; rw [HKD.out, hk1]; rfl
    subst hk1
    go_enter Tryz.func19, Tryz.ntmps19
    go_wp2_with (first
      | (go_at_call 43; refine (HH.out _ ((Below.refl _ w).alloc (Nat.le_refl _) _)).mono ?_; rintro e w1 ⟨rfl, hb1⟩; have ha := hJ w1 hb1; have HB2 := hid ha.1; have HX2 := hid ha.2; have y0 := ha.2.c0; have y1 := ha.2.c1; have y2 := ha.2.c2; have z0 := ha.2.f (k := 0); have z1 := ha.2.f (k := 1); have z2 := ha.2.f (k := 2); clear hb1 ha)
      | fail)
    refine ret_join (p := 6) (u := 7) rfl rfl (HX2.out.all (x := (⟨#[]⟩, 0)) (.slice none 0 0)) rfl ?_
    refine ⟨⟨(noB, 0), .nil, none, 0⟩, by rw [HJB.out]; rfl, by rw [HJB.out]; exact joinR_no (by rw [kids_len]; exact HJB.out), loosE_const _ _ _, sets_below HB2.out (Nat.le_refl _) _ _ _⟩
  · by_cases hl0 : lenF F = 0
    · have hz : ((lenF F : Int) == 0) = true := by simp [hl0]
      have HL0 := hid hl0
      clear hl0
      cases hu : unitOk l f
      · have HJB : Hid (joinB l f (lenF F) = false) := by show _ = _; unfold joinB; rw [HL0.out, hu]; simp
        rw [hu] at HH HLY hJ
        go_enter Tryz.func19, Tryz.ntmps19
        go_wp2_with (first
          | (go_at_call 43; refine (HH.out _ ((Below.refl _ w).alloc (Nat.le_refl _) _)).mono ?_; rintro e w1 ⟨rfl, hb1⟩; have ha := hJ w1 hb1; have HB2 := hid ha.1; have HX2 := hid ha.2; have y0 := ha.2.c0; have y1 := ha.2.c1; have y2 := ha.2.c2; have z0 := ha.2.f (k := 0); have z1 := ha.2.f (k := 1); have z2 := ha.2.f (k := 2); clear hb1 ha)
          | fail)
        refine ret_join (p := 6) (u := 7) rfl rfl (HX2.out.all (x := (⟨#[]⟩, 0)) (.slice none 0 0)) rfl ?_
        refine ⟨⟨(noB, 0), .nil, none, 0⟩, by rw [HJB.out]; rfl, by rw [HJB.out]; exact joinR_no (by rw [kids_len]; exact HJB.out), loosE_const _ _ _, sets_below HB2.out (Nat.le_refl _) _ _ _⟩
      · have HJB : Hid (joinB l f (lenF F) = true) := by show _ = _; unfold joinB; rw [HKD.out, hu]; simp [hk1]
        rw [hu] at HH HLY hJ
        go_enter Tryz.func19, Tryz.ntmps19
        go_wp2_with (first
          | (go_at_call 43; refine (HH.out _ ((Below.refl _ w).alloc (Nat.le_refl _) _)).mono ?_; rintro e w1 ⟨rfl, hb1⟩; have ha := hJ w1 hb1; have HB2 := hid ha.1; have HX2 := hid ha.2; have y0 := ha.2.c0; have y1 := ha.2.c1; have y2 := ha.2.c2; have z0 := ha.2.f (k := 0); have z1 := ha.2.f (k := 1); have z2 := ha.2.f (k := 2); clear hb1 ha)
          | (go_at_call 45; refine (HLY.out _ HB2.out).mono ?_; rintro e w3 ⟨kv, rs, rfl, ha3, hl3, hE3, hb3⟩; have HA3 := hid ha3; have HL3 := hid hl3; have HE3 := hid hE3; have HB3 := hid (HB2.out.trans (hb3.mono HB2.out.size)); have HX3 := hid (HX2.out.below hb3); clear ha3 hl3 hE3 hb3 y0 y1 y2 z0 z1 z2)
          | (go_at_call 44; refine (HSE.out _ kv _ HB3.out HE3.out).mono ?_; rintro e w4 ⟨F4, rfl, hF4, hs4, hE4, ht4⟩; have HF4 := hid hF4; have HS4 := hid hs4; have HE4 := hid hE4; have HT4 := hid ht4; have HX4 : XBox w4 w.heap.size (⟨#[]⟩, 0) (.slice none 0 0) := (ht4.block _ HX3.out.lt (by have := HX2.out.lt; omega)).trans HX3.out; have y0 := HX4.c0; have y1 := HX4.c1; have y2 := HX4.c2; have z0 := HX4.f (k := 0); have z1 := HX4.f (k := 1); have z2 := HX4.f (k := 2); have HXX := hid HX4; clear hF4 hs4 hE4 ht4 HX4)
          | fail)
        refine ret_join (p := 6) (u := 7) rfl rfl (HXX.out.all (x := kv.x) _) rfl ?_
        have hlt := HX2.out.lt
        exact ⟨⟨kv.x, F4, kv.a, kv.c⟩, by rw [HJB.out]; rfl, by rw [HJB.out]; exact joinR_yes HJB.out HA3.out (by rw [HKD.out]; exact HL3.out) HS4.out, loosE.mono (fun q hq => by omega) (loosE.keep (fun q hq _ => sets_far (by omega) _ _ _) HE4.out), sets_below (HB3.out.trans (HT4.out.below (fun q hq => by omega) HB3.out.size)) (Nat.le_refl _) _ _ _⟩
    · have hz : ((lenF F : Int) == 0) = false := by simpa using hl0
      have HJB : Hid (joinB l f (lenF F) = true) := by show _ = _; unfold joinB; rw [HKD.out]; simp [hk1, hl0]
      clear hl0
      go_enter Tryz.func19, Tryz.ntmps19
      go_wp2_with (first
        | (go_at_call 43; refine (HH.out _ ((Below.refl _ w).alloc (Nat.le_refl _) _)).mono ?_; rintro e w1 ⟨rfl, hb1⟩; have ha := hJ w1 hb1; have HB2 := hid ha.1; have HX2 := hid ha.2; have y0 := ha.2.c0; have y1 := ha.2.c1; have y2 := ha.2.c2; have z0 := ha.2.f (k := 0); have z1 := ha.2.f (k := 1); have z2 := ha.2.f (k := 2); clear hb1 ha)
        | (go_at_call 45; refine (HLY.out _ HB2.out).mono ?_; rintro e w3 ⟨kv, rs, rfl, ha3, hl3, hE3, hb3⟩; have HA3 := hid ha3; have HL3 := hid hl3; have HE3 := hid hE3; have HB3 := hid (HB2.out.trans (hb3.mono HB2.out.size)); have HX3 := hid (HX2.out.below hb3); clear ha3 hl3 hE3 hb3 y0 y1 y2 z0 z1 z2)
        | (go_at_call 44; refine (HSE.out _ kv _ HB3.out HE3.out).mono ?_; rintro e w4 ⟨F4, rfl, hF4, hs4, hE4, ht4⟩; have HF4 := hid hF4; have HS4 := hid hs4; have HE4 := hid hE4; have HT4 := hid ht4; have HX4 : XBox w4 w.heap.size (⟨#[]⟩, 0) (.slice none 0 0) := (ht4.block _ HX3.out.lt (by have := HX2.out.lt; omega)).trans HX3.out; have y0 := HX4.c0; have y1 := HX4.c1; have y2 := HX4.c2; have z0 := HX4.f (k := 0); have z1 := HX4.f (k := 1); have z2 := HX4.f (k := 2); have HXX := hid HX4; clear hF4 hs4 hE4 ht4 HX4)
        | fail)
      refine ret_join (p := 6) (u := 7) rfl rfl (HXX.out.all (x := kv.x) _) rfl ?_
      have hlt := HX2.out.lt
      exact ⟨⟨kv.x, F4, kv.a, kv.c⟩, by rw [HJB.out]; rfl, by rw [HJB.out]; exact joinR_yes HJB.out HA3.out (by rw [HKD.out]; exact HL3.out) HS4.out, loosE.mono (fun q hq => by omega) (loosE.keep (fun q hq _ => sets_far (by omega) _ _ _) HE4.out), sets_below (HB3.out.trans (HT4.out.below (fun q hq => by omega) HB3.out.size)) (Nat.le_refl _) _ _ _⟩
end Go.Proofs.YtppgmepmegelbaaGreatDoor
/- The rows' variables. -/
namespace Go.Proofs.YtppgmepmegelbaaGreatDoor
open Go.RowKit Go.Deep

/-- A fresh variable. -/
def vk (fr : Int) (k : Nat) : Kv := ⟨(strB (nameL (fr + 1 + k)), 0), .nil, none, 0⟩
/-- The rows' variables, each as often as its row has the unknown. -/
def varK (fr : Int) (u : Nat) : List (List Int) → Nat → List Kv
  | [], _ => []
  | r :: rs, s => List.replicate (r.getD u 0).toNat (vk fr s) ++ varK fr u rs (s + 1)
theorem name_small {fr : Int} {k : Nat} (_ : 0 ≤ fr) (_ : fr ≤ 1048576) (_ : k < 16) : (strB (nameL (fr + 1 + k))).size ≤ maxLen := by
  have hm : maxLen = 9223372036854775807 := rfl
  have e : (strB (nameL (fr + 1 + k))).size = (nameL (fr + 1 + k)).length := by show (nameL _).toArray.size = _; rw [List.size_toArray]
  rw [e]
  unfold nameL
  split
  · simp
  · have := itoa_short (fr + 1 + k) (by omega) (by omega)
    rw [List.length_cons]; omega
theorem vk_own {fr : Int} {k : Nat} (h0 : 0 ≤ fr) (h1 : fr ≤ 1048576) (hk : k < 16) (P : Nat → Prop) (W : World) : OwnTm false P W (vk fr k).x (vk fr k).a (vk fr k).c (vk fr k).l :=
  ⟨⟨name_small h0 h1 hk, Nat.le_refl _, by show 0 ≤ maxLen; decide, by show 0 * 48 ≤ 140737488351232; decide⟩, .inl ⟨rfl, rfl⟩⟩
set_option maxRecDepth 100000 in
set_option maxHeartbeats 2000000 in
theorem vars_any (fr : Int) (h0 : 0 ≤ fr) (h1 : fr ≤ 1048576) (a : Option Addr) (c : Nat) (rs : List (List Int)) (u : Nat) (w : World) (hN : RowsZ w a rs) (hl : ∀ r ∈ rs, u < r.length) (hs : rs.length ≤ 16) (hb : ∀ r ∈ rs, ∀ n ∈ r, 0 ≤ n ∧ n ≤ 1048576) (hall : (varK fr u rs 0).length ≤ 1000) :
    Calls Tryz.prog 20 #[.agg (nmC fr rs.length).toArray, .slice a rs.length c, .int .i64 u] w fun e w' => ∃ v, e = .returned v ∧ Lst (w.heap.size + 1) w' v (varK fr u rs 0) ∧ (varK fr u rs 0 = [] → v = .slice none 0 0) ∧ Below w.heap.size w w' := by
  obtain ⟨W0, hW0⟩ : ∃ W0, w.alloc (.cells (nmC fr rs.length).toArray 59) = W0 := ⟨_, rfl⟩
  obtain ⟨H, hH⟩ : ∃ H, w.heap.size = H := ⟨_, rfl⟩
  obtain ⟨all, hA⟩ : ∃ all, varK fr u rs 0 = all := ⟨_, rfl⟩
  rw [hA] at hall ⊢
  have hb0 : Below H w W0 := by rw [← hW0, ← hH]; exact alloc_below0 _ _
  have hs0 : W0.heap.size = H + 1 := by rw [← hW0, World.size_alloc, hH]
  have hX : Box W0 H 59 (nmC fr rs.length).toArray := by rw [← hW0, ← hH]; exact Box.new w _ _
  have HN := hid (hN.below (w' := W0) (by rw [hH]; exact hb0)); have HL := hid hl; have HB := hid hb; have HA := hid hA; have HX := hid hX; have HB0 := hid hb0; have HS0 := hid hs0; have HAL := hid hall
  clear hN hl hb hA hX hb0 hs0 hall
  rw [hH]
  go_enter Tryz.func20, Tryz.ntmps20
  go_wp2_with fail
  clear hW0
  go_loopw [7, 12] (fun ov iv wr => ∃ (i : Nat) (v : Value) (ks : List Kv), i ≤ rs.length ∧ v = ov ∧ iv = .int .i64 i ∧ Lst (H + 1) wr v ks ∧ (ks = [] → v = .slice none 0 0) ∧ ks ++ varK fr u (rs.drop i) i = all ∧ Below (H + 1) W0 wr) (fun _ iv _ => rs.length - (intOf iv).toNat)
  case atStart => exact ⟨0, _, [], Nat.zero_le _, rfl, rfl, Lst.nil _ _, fun _ => rfl, HA.out, Below.refl _ _⟩
  case round =>
    obtain ⟨i, v, ks, hi, rfl, rfl, hL, hnil, hks, hlow⟩ := hrel
    by_cases hlt : i < rs.length
    · obtain ⟨b, o, p, c2, rfl, hc, hr⟩ := HN.out.cells i hlt
      have hm := List.getElem_mem hlt
      have hkl := HL.out _ hm
      obtain ⟨b2, o2, rfl, hk⟩ := hr.cells u hkl
      have hbd := HB.out _ hm _ (List.getElem_mem hkl)
      have hd : (rs[i].getD u 0) = rs[i][u] := by simp [hkl]
      rw [List.drop_eq_getElem_cons hlt] at hks
      unfold varK at hks
      rw [hd] at hks
      have hlw : Below W0.heap.size W0 wr := by rw [HS0.out]; exact hlow
      have hc' := below_cell hlw _ _ hc
      have hk' := below_cell hlw _ _ hk
      obtain ⟨x, hx⟩ : ∃ x, rs[i][u] = x := ⟨_, rfl⟩
      rw [hx] at hk' hbd hks
      obtain ⟨n, hn⟩ : ∃ n, rs[i].length = n := ⟨_, rfl⟩
      rw [hn] at hc' hkl
      obtain ⟨N, rfl⟩ : ∃ N : Nat, x = N := ⟨x.toNat, by omega⟩
      have HKS := hid hks; have HLW := hid hlow; have HLs := hid hL; have HNI := hid hnil
      clear hx hm hr hn hd hks hlow hL hnil hlw hc hk
      have hNN := hbd.2
      clear hbd
      go_wp2_with fail
      clear hc' hk'
      go_loopw [7, 21] (fun ov iv wr => ∃ (q : Nat) (v : Value) (ks : List Kv), q ≤ N ∧ v = ov ∧ iv = .int .i64 q ∧ Lst (H + 1) wr v ks ∧ (ks = [] → v = .slice none 0 0) ∧ ks ++ (List.replicate (N - q) (vk fr i) ++ varK fr u (rs.drop (i + 1)) (i + 1)) = all ∧ Below (H + 1) W0 wr) (fun _ iv _ => N - (intOf iv).toNat)
      case atStart => exact ⟨0, _, ks, Nat.zero_le _, rfl, rfl, HLs.out, HNI.out, by rw [Nat.sub_zero]; exact HKS.out, HLW.out⟩
      case round =>
        obtain ⟨q, v', ks', hq, rfl, rfl, hL, hnil, hks, hlow⟩ := hrel
        by_cases hlq : q < N
        · obtain ⟨mm, hmm⟩ : ∃ mm, N - q = mm + 1 := ⟨N - q - 1, by omega⟩
          rw [hmm, List.replicate_succ, List.cons_append] at hks
          have hlen : ks'.length + 1 ≤ 1000 := by
            have h1 := congrArg List.length hks
            have h2 := HAL.out
            rw [List.length_append, List.length_cons] at h1
            omega
          have hmm2 : N - (q + 1) = mm := by omega
          have HKS' := hid hks; have HLW' := hid hlow; have HLs' := hid hL; have HMM := hid hmm2
          have hXX := HX.out.below (W' := wr) (by rw [HS0.out]; exact hlow)
          have c5 : wr.cell? ⟨H, i, none⟩ = some (.string (strB (nameL (fr + 1 + i)))) := (hXX.c i).trans (by rw [List.getElem?_toArray, nmC_at _ _ (by omega), if_pos hlt])
          have hi16 : (i : Int) < 16 := by omega
          have hsz := hlow.size
          rw [HS0.out] at hsz
          clear hks hlow hL hnil hmm hmm2 hXX
          go_wp2_with (at_builtin; refine wpList_append_lst rfl _ _ rfl (H + 1) v' ks' rfl (owns_below HLs'.out.row (alloc_below0 _ _)) (some ⟨wr.heap.size, 0, none⟩) 1 1 [vk fr i] rfl (RowAt.new wr (vk fr i)) (fun e => by cases e) (fun _ => Nat.one_pos) (by omega) (by rw [World.size_alloc]; omega) ?_; intro v2 w2 hown2 hgrow2 hat2; have HL2 : Hid (Lst (H + 1) w2 v2 (ks' ++ [vk fr i])) := HLs'.out.grow (alloc_below0 _ _) (fun k hk => by simp only [List.mem_singleton] at hk; subst hk; exact vk_own h0 h1 (by omega) _ _) hsz hgrow2 hat2 hown2; have HB2 : Hid (Below (H + 1) W0 w2) := HLW'.out.trans (((alloc_below0 wr _).mono hsz).grown hgrow2 (by rw [World.size_alloc]; omega) (fun k e => (owns_cells HLs'.out.row e).1)); clear hown2 hgrow2 hat2)
          go_roundw
          case rel => exact ⟨q + 1, _, _, by omega, rfl, by go_num, HL2.out, fun e => by simp at e, by rw [HMM.out, List.append_assoc]; exact HKS'.out, HB2.out⟩
          case measure => simp [intOf]; omega
        · have e1 : q = N := by omega
          subst e1
          rw [Nat.sub_self, List.replicate_zero, List.nil_append] at hks
          have HKS' := hid hks; have HLW' := hid hlow; have HLs' := hid hL; have HNI' := hid hnil
          clear hks hlow hL hnil
          go_wp2_with fail
          go_roundw
          case rel => exact ⟨i + 1, _, _, by omega, rfl, by go_num, HLs'.out, HNI'.out, HKS'.out, HLW'.out⟩
          case measure => simp [intOf]; omega
    · have e1 : i = rs.length := by omega
      subst e1
      rw [List.drop_length] at hks
      have HKS := hid hks; have HLW := hid hlow; have HLs := hid hL; have HNI := hid hnil
      clear hks hlow hL hnil
      go_wp2_with fail
      go_ret
      have e : ks = all := by rw [← HKS.out]; simp [varK]
      subst e
      exact ⟨_, rfl, HLs.out, HNI.out, HB0.out.trans (HLW.out.mono (by omega))⟩
end Go.Proofs.YtppgmepmegelbaaGreatDoor
/- A row of equations that is made and then filled. -/
namespace Go.Proofs.YtppgmepmegelbaaGreatDoor
open Go.RowKit Go.Deep

theorem owns_set1 {w : World} {base e size g n cap : Nat} {xs : List Value} (h : w.ownsRow base e size (.slice (some ⟨g, 0, none⟩) n cap) n xs) (o : Nat) (u : Value) : (w.setCell ⟨g, o, none⟩ u).ownsRow base e size (.slice (some ⟨g, 0, none⟩) n cap) n (xs.set o u) := by
  refine ⟨by rw [List.length_set]; exact h.1, ?_⟩
  rcases h.2 with ⟨h1, _⟩ | ⟨g', cap', cur, h1, h2, h3, h4, h5, h6, h7⟩
  · cases h1
  · cases h1
    refine .inr ⟨g, cap, cur.setIfInBounds o u, rfl, h2, block_set h3 u, h4, h5, by rw [Array.size_setIfInBounds]; exact h6, ?_⟩
    rw [Array.toList_setIfInBounds, List.take_set, h7]
theorem owns_froz {w : World} {base e size g n cap : Nat} {xs : List Value} (h : w.ownsRow base e size (.slice (some ⟨g, 0, none⟩) n cap) n xs) (i : Nat) : w.frozen? ⟨g, i, none⟩ = false := by
  obtain ⟨_, cur, hc⟩ := owns_cells h (g := g) rfl
  simp [World.frozen?, hc]
/-- A term of nothing. -/
def zKv : Kv := ⟨(⟨#[]⟩, 0), .nil, none, 0⟩
theorem kv_set : ∀ (ks : List Kv) (m : Nat) (y : Kv), m < ks.length → kvCells (ks.set m y) = (((kvCells ks).set (m * 3) (.string y.x.1)).set (m * 3 + 1) (.int .i64 y.x.2)).set (m * 3 + 2) (.slice y.a (lenF y.l) y.c)
  | [], m, y, h => absurd h (by simp)
  | q :: r, 0, y, _ => rfl
  | q :: r, m + 1, y, h => by
    have ih := kv_set r m y (by simpa using h)
    have e : kvCells (q :: r) = .string q.x.1 :: .int .i64 q.x.2 :: .slice q.a (lenF q.l) q.c :: kvCells r := rfl
    have e2 : kvCells ((q :: r).set (m + 1) y) = .string q.x.1 :: .int .i64 q.x.2 :: .slice q.a (lenF q.l) q.c :: kvCells (r.set m y) := rfl
    rw [e, e2, ih, show (m + 1) * 3 = m * 3 + 1 + 1 + 1 by omega, show m * 3 + 1 + 1 + 1 + 1 = (m * 3 + 1) + 1 + 1 + 1 by omega, show m * 3 + 1 + 1 + 1 + 2 = (m * 3 + 2) + 1 + 1 + 1 by omega]
    simp only [List.set_cons_succ]
/-- Three cells stored. -/
def set3 (W : World) (g o : Nat) (y : Kv) : World := ((W.setCell ⟨g, o, none⟩ (.string y.x.1)).setCell ⟨g, o + 1, none⟩ (.int .i64 y.x.2)).setCell ⟨g, o + 2, none⟩ (.slice y.a (lenF y.l) y.c)
theorem set3_far {W : World} {g q : Nat} (h : q ≠ g) (o : Nat) (y : Kv) : (set3 W g o y).heap[q]? = W.heap[q]? :=
  (((Below.heap_setCell _ ⟨g, o + 2, none⟩ _ q h).trans (Below.heap_setCell _ ⟨g, o + 1, none⟩ _ q h)).trans (Below.heap_setCell _ ⟨g, o, none⟩ _ q h))
theorem set3_below {n0 : Nat} {w W : World} {g : Nat} (hb : Below n0 w W) (h : n0 ≤ g) (o : Nat) (y : Kv) : Below n0 w (set3 W g o y) :=
  ((hb.setCell (p := ⟨g, o, none⟩) h _).setCell (p := ⟨g, o + 1, none⟩) h _).setCell (p := ⟨g, o + 2, none⟩) h _
theorem owns_set3 {w : World} {base e size g n cap : Nat} {ks : List Kv} (h : w.ownsRow base e size (.slice (some ⟨g, 0, none⟩) n cap) n (kvCells ks)) {m : Nat} (hm : m < ks.length) (y : Kv) : (set3 w g (m * 3) y).ownsRow base e size (.slice (some ⟨g, 0, none⟩) n cap) n (kvCells (ks.set m y)) := by
  rw [kv_set ks m y hm]
  exact owns_set1 (owns_set1 (owns_set1 h _ _) _ _) _ _
/-- A row of equations under way: the first sides are filled. -/
structure FillQ (B : Nat) (n g : Nat) (W : World) (ks : List Kv) : Prop where
  row : W.ownsRow B 39 6 (.slice (some ⟨g, 0, none⟩) n n) n (kvCells (ks ++ List.replicate (2 * n - ks.length) zKv))
  gl : GL SepE W ks (fun q => B ≤ q ∧ q ≠ g)
  le : ks.length ≤ 2 * n
theorem FillQ.lt {B n g : Nat} {W : World} {ks : List Kv} (h : FillQ B n g W ks) : g < W.heap.size := by
  obtain ⟨cur, hc⟩ := (owns_cells h.row (g := g) rfl).2
  exact (Array.getElem?_eq_some_iff.1 hc).1
theorem FillQ.base {B n g : Nat} {W : World} {ks : List Kv} (h : FillQ B n g W ks) : B ≤ g := (owns_cells h.row (g := g) rfl).1
theorem FillQ.base' {B B' n g : Nat} {W : World} {ks : List Kv} (h : FillQ B n g W ks) (hB : B' ≤ B) : FillQ B' n g W ks := ⟨owns_base h.row hB, h.gl.mono fun q hq => ⟨by omega, hq.2⟩, h.le⟩
theorem FillQ.below {B n g : Nat} {W W' : World} {ks : List Kv} (h : FillQ B n g W ks) (hb : Below W.heap.size W W') : FillQ B n g W' ks :=
  ⟨owns_below h.row hb, h.gl.keep sepE (fun q _ hlt => hb.block q hlt), h.le⟩
theorem FillQ.cells {B n g : Nat} {W : World} {ks : List Kv} (h : FillQ B n g W ks) (i : Nat) (hi : i < n) (k : Nat) (hk : k < 6) : ∃ u, W.cell? ⟨g, i * 6 + k, none⟩ = some u := by
  have hat := owns_at h.row
  have hle := h.le
  obtain ⟨u, hu⟩ := kvCells_get (ks := ks ++ List.replicate (2 * n - ks.length) zKv) (j := i * 6 + k) (by rw [List.length_append, List.length_replicate]; omega)
  have := hat _ u hu
  rw [Nat.zero_add] at this
  exact ⟨u, this⟩
theorem FillQ.one {B n g : Nat} {W W1 : World} {ks : List Kv} {y : Kv} {A : Nat → Prop} (h : FillQ B n g W1 ks) (hg : GL SepE W1 ks (fun q => (B ≤ q ∧ q ≠ g) ∧ q < W.heap.size)) (hm : SepTm W1 A y.x y.a y.c y.l) (hA : ∀ q, A q → W.heap.size ≤ q) (hB : B ≤ W.heap.size) (hgW : g < W.heap.size) (hlt : ks.length < 2 * n) : FillQ B n g (set3 W1 g (ks.length * 3) y) (ks ++ [y]) ∧ GL SepE (set3 W1 g (ks.length * 3) y) (ks ++ [y]) (fun q => ((B ≤ q ∧ q ≠ g) ∧ q < W.heap.size) ∨ A q) := by
  have hin : ks.length < (ks ++ List.replicate (2 * n - ks.length) zKv).length := by simp; omega
  have e : (ks ++ List.replicate (2 * n - ks.length) zKv).set ks.length y = (ks ++ [y]) ++ List.replicate (2 * n - (ks ++ [y]).length) zKv := by
    rw [List.set_append_right (h := Nat.le_refl _), Nat.sub_self, List.append_assoc]
    congr 1
    obtain ⟨m, hm⟩ : ∃ m, 2 * n - ks.length = m + 1 := ⟨2 * n - ks.length - 1, by omega⟩
    rw [hm, List.replicate_succ, List.set_cons_zero, List.length_append, List.length_cons, List.length_nil, show 2 * n - (ks.length + (0 + 1)) = m by omega]
    rfl
  have h1 : GL SepE (set3 W1 g (ks.length * 3) y) ks (fun q => (B ≤ q ∧ q ≠ g) ∧ q < W.heap.size) := hg.keep sepE (fun q hq _ => set3_far hq.1.2 _ _)
  have h2 : SepTm (set3 W1 g (ks.length * 3) y) A y.x y.a y.c y.l := hm.keep (fun q hq _ => set3_far (by have := hA q hq; omega) _ _)
  have h3 := GL.snoc (E := SepE) (k := y) h1 h2 (fun q hq hq2 => by have := hA q hq2; omega)
  refine ⟨⟨?_, h3.mono fun q hq => ?_, by simp; omega⟩, h3⟩
  · have := owns_set3 h.row hin y
    rw [e] at this
    exact this
  · rcases hq with hq | hq
    · exact hq.1
    · have := hA q hq; exact ⟨by omega, by omega⟩
/-- Both sides of an equation. -/
theorem FillQ.step {B n g : Nat} {W W1 : World} {ks : List Kv} {y1 y2 : Kv} {A1 A2 : Nat → Prop} (h : FillQ B n g W ks) (hb : Below W.heap.size W W1) (hm1 : SepTm W1 A1 y1.x y1.a y1.c y1.l) (hm2 : SepTm W1 A2 y2.x y2.a y2.c y2.l) (hA1 : ∀ q, A1 q → W.heap.size ≤ q) (hA2 : ∀ q, A2 q → W.heap.size ≤ q) (hd : ∀ q, A1 q → ¬ A2 q) (hB : B ≤ W.heap.size) (i : Nat) (hi : ks.length = 2 * i) (hlt : i < n) :
    FillQ B n g (set3 (set3 W1 g (i * 6) y1) g (i * 6 + 3) y2) (ks ++ [y1, y2]) := by
  have hg := h.lt
  obtain ⟨a1, a2⟩ := (h.below hb).one (W := W) (y := y1) ((h.gl.within sepE).keep sepE (fun q hq _ => hb.block q hq.2)) hm1 hA1 hB hg (by omega)
  have e1 : ks.length * 3 = i * 6 := by omega
  rw [e1] at a1 a2
  have h2 : SepTm (set3 W1 g (i * 6) y1) A2 y2.x y2.a y2.c y2.l := hm2.keep (fun q hq _ => set3_far (by have := hA2 q hq; omega) _ _)
  have hin : (ks ++ [y1]).length < ((ks ++ [y1]) ++ List.replicate (2 * n - (ks ++ [y1]).length) zKv).length := by simp; omega
  have e : ((ks ++ [y1]) ++ List.replicate (2 * n - (ks ++ [y1]).length) zKv).set (ks ++ [y1]).length y2 = (ks ++ [y1, y2]) ++ List.replicate (2 * n - (ks ++ [y1, y2]).length) zKv := by
    rw [List.set_append_right (h := Nat.le_refl _), Nat.sub_self]
    obtain ⟨m, hm⟩ : ∃ m, 2 * n - (ks ++ [y1]).length = m + 1 := ⟨2 * n - (ks ++ [y1]).length - 1, by simp; omega⟩
    have hm' : 2 * n - (ks ++ [y1, y2]).length = m := by simp at hm ⊢; omega
    rw [hm, hm', List.replicate_succ, List.set_cons_zero]
    simp
  have h1 : GL SepE (set3 (set3 W1 g (i * 6) y1) g (i * 6 + 3) y2) (ks ++ [y1]) (fun q => ((B ≤ q ∧ q ≠ g) ∧ q < W.heap.size) ∨ A1 q) := a2.keep sepE (fun q hq _ => by
    refine set3_far (fun e => ?_) _ _
    rcases hq with hq | hq
    · exact hq.1.2 e
    · have := hA1 q hq; omega)
  have h2' : SepTm (set3 (set3 W1 g (i * 6) y1) g (i * 6 + 3) y2) A2 y2.x y2.a y2.c y2.l := h2.keep (fun q hq _ => set3_far (by have := hA2 q hq; omega) _ _)
  have h3 := GL.snoc (E := SepE) (k := y2) h1 h2' (fun q hq hq2 => by
    rcases hq with hq | hq
    · have := hA2 q hq2; omega
    · exact hd q hq hq2)
  rw [List.append_assoc] at h3
  refine ⟨?_, h3.mono fun q hq => ?_, by simp; omega⟩
  · have := owns_set3 a1.row hin y2
    rw [e] at this
    rw [show (ks ++ [y1]).length * 3 = i * 6 + 3 by simp; omega] at this
    exact this
  · rcases hq with (hq | hq) | hq
    · exact hq.1
    · have := hA1 q hq; exact ⟨by omega, by omega⟩
    · have := hA2 q hq; exact ⟨by omega, by omega⟩
/-- A row of equations. -/
structure EqsAt (B : Nat) (W : World) (g n : Nat) (ks : List Kv) : Prop where
  row : W.ownsRow B 39 6 (.slice (some ⟨g, 0, none⟩) n n) n (kvCells ks)
  gl : GL SepE W ks (fun q => B ≤ q ∧ q ≠ g)
  len : ks.length = 2 * n
theorem EqsAt.below {B n g : Nat} {W W' : World} {ks : List Kv} (h : EqsAt B W g n ks) (hb : Below W.heap.size W W') : EqsAt B W' g n ks :=
  ⟨owns_below h.row hb, h.gl.keep sepE (fun q _ hlt => hb.block q hlt), h.len⟩
theorem FillQ.done {B n g : Nat} {W : World} {ks : List Kv} (h : FillQ B n g W ks) (hl : ks.length = 2 * n) : EqsAt B W g n ks := by
  refine ⟨?_, h.gl, hl⟩
  have := h.row
  rw [hl, Nat.sub_self, List.replicate_zero, List.append_nil] at this
  exact this
abbrev zQ : Value := .agg #[.string ⟨#[]⟩, .int .i64 0, .slice none 0 0, .string ⟨#[]⟩, .int .i64 0, .slice none 0 0]
theorem made_qs (n : Nat) : (madeCells (Value.cells zQ) (n * 6)).toList = kvCells (List.replicate (2 * n) zKv) := by
  refine List.ext_getElem? fun j => ?_
  by_cases hj : j < n * 6
  · have h1 := kvCells_nth (List.replicate (2 * n) zKv) (j / 3) (j % 3) (k := zKv) (by rw [List.getElem?_replicate, if_pos (by omega)]) (by omega)
    rw [show j / 3 * 3 + j % 3 = j by omega] at h1
    rw [h1]
    unfold madeCells
    have h4 : j % 6 < 6 := by omega
    obtain ⟨k, hk⟩ : ∃ k, j % 6 = k := ⟨_, rfl⟩
    obtain ⟨k3, hk3⟩ : ∃ k, j % 3 = k := ⟨_, rfl⟩
    have hkk : k3 = k % 3 := by omega
    simp [hj, Value.cells, Kv.cells, zKv, lenF, hk, hk3]
    rw [hk] at h4
    subst hkk
    match k, h4 with
    | 0, _ => rfl
    | 1, _ => rfl
    | 2, _ => rfl
    | 3, _ => rfl
    | 4, _ => rfl
    | 5, _ => rfl
  · have h2 : (madeCells (Value.cells zQ) (n * 6)).toList.length = n * 6 := by
      unfold madeCells
      simp
    rw [List.getElem?_eq_none (by omega), List.getElem?_eq_none (by rw [kvCells_len, List.length_replicate]; omega)]
theorem FillQ.start {B n g : Nat} {W : World} (h : W.ownsRow B 39 6 (.slice (some ⟨g, 0, none⟩) n n) n (madeCells (Value.cells zQ) (n * 6)).toList) : FillQ B n g W [] := by
  refine ⟨?_, trivial, Nat.zero_le _⟩
  have e : (madeCells (Value.cells zQ) (n * 6)).toList = kvCells ([] ++ List.replicate (2 * n - ([] : List Kv).length) zKv) := by
    rw [List.nil_append, List.length_nil, Nat.sub_zero, made_qs]
  rw [← e]; exact h
theorem Tryz.info39 : (Tryz.prog.info? 39).map (fun i => (i.zero, i.size, i.bytes)) = some (some zQ, 6, 96) := by kernel_rfl
end Go.Proofs.YtppgmepmegelbaaGreatDoor
/- The program's Equations. -/
namespace Go.Proofs.YtppgmepmegelbaaGreatDoor
open Go.RowKit Go.Deep

theorem step_store_new {P : Program} {ops : Array Oper} {o : Oper} {a : Act} {w0 : World} {K : Act → World → Prop} {Q : Exit → Act → World → Prop} {E : Prop} (hgd : o.guard = none) (ty : TypeId) (x y : Operand)
    (ho : o.op = .store ty x y) (c c' : Array Value) (hx : a.eval x = .pointer (some ⟨w0.heap.size, 0, none⟩)) (hy : a.eval y = .agg c') (hi : (P.info? ty).map (·.size) = some c'.size) (hs : c.size = c'.size) (h1 : c'.all (·.oneCell') = true)
    (h : K (a.put o.dst undef) (w0.alloc (.cells c' ty))) : if Region.wanted o (yielded ops a.tmps) = true then Oper.wp P o a (w0.alloc (.cells c ty)) K Q else E := by
  have hw : Region.wanted o (yielded ops a.tmps) = true := by simp [Region.wanted, hgd]
  rw [if_pos hw]
  unfold Oper.wp execOp
  simp only [ho, hx, hy, Instr.storeAt, Instr.sureAddr, Sem.run_bind, Sem.run_pure, Result.andThen_ok, run_storeVar_new w0 ty c c' hi hs h1]
  exact h
/-- An unknown: its term, its number, whether it is alien. -/
abbrev Unk := Tn × Int × Bool
/-- The slice with this address holds these unknowns. -/
structure UnkZ (w : World) (a : Option Addr) (us : List Unk) : Prop where
  small : us.length ≤ 1048576
  cells : ∀ i (h : i < us.length), ∃ b o p c, a = some ⟨b, o, none⟩ ∧ w.cell? ⟨b, o + i * 5, none⟩ = some (.string us[i].1.1.1) ∧ w.cell? ⟨b, o + i * 5 + 1, none⟩ = some (.int .i64 us[i].1.1.2) ∧ w.cell? ⟨b, o + i * 5 + 2, none⟩ = some (.slice p (lenF us[i].1.2) c) ∧ w.cell? ⟨b, o + i * 5 + 3, none⟩ = some (.int .i64 us[i].2.1) ∧ w.cell? ⟨b, o + i * 5 + 4, none⟩ = some (.bool us[i].2.2) ∧ TmAt w us[i].1.1 p c us[i].1.2
theorem UnkZ.below {w w' : World} {a : Option Addr} {us : List Unk} (h : UnkZ w a us) (hb : Below w.heap.size w w') : UnkZ w' a us :=
  ⟨h.small, fun i hi => let ⟨b, o, p, c, h0, h1, h2, h3, h4, h5, h6⟩ := h.cells i hi; ⟨b, o, p, c, h0, below_cell hb _ _ h1, below_cell hb _ _ h2, below_cell hb _ _ h3, below_cell hb _ _ h4, below_cell hb _ _ h5, h6.below hb⟩⟩
theorem varK_len (fr : Int) (k : Nat) : ∀ (rs : List (List Int)) (s : Nat), (∀ r ∈ rs, ∀ n ∈ r, 0 ≤ n) → ((varK fr k rs s).length : Int) = totN rs k
  | [], _, _ => rfl
  | r :: rs, s, h => by
    have ih := varK_len fr k rs (s + 1) (fun r hr => h r (List.mem_cons_of_mem _ hr))
    have h0 : 0 ≤ r.getD k 0 := by
      rw [List.getD_eq_getElem?_getD]
      cases hk : r[k]? with
      | none => simp
      | some v => exact h r List.mem_cons_self v (List.mem_of_getElem? hk)
    have ih' : ((varK fr k rs (s + 1)).length : Int) = (rs.map fun r => r.getD k 0).sum := ih
    show ((List.replicate (r.getD k 0).toNat (vk fr s) ++ varK fr k rs (s + 1)).length : Int) = ((r :: rs).map fun r => r.getD k 0).sum
    rw [List.length_append, List.length_replicate, List.map_cons, List.sum_cons]
    omega
/-- What the equations say. -/
def DnQ (sg : List Sym) (f fr : Int) (rs : List (List Int)) (us : List Unk) (ks : List Kv) : Prop := ∀ i (h : i < us.length), 2 * i < ks.length → ∃ k1 k2, ks[2 * i]? = some k1 ∧ ks[2 * i + 1]? = some k2 ∧ k1.tn = us[i].1 ∧ JoinR sg f ((varK fr i rs 0).map Kv.tn) (joinB sg f (varK fr i rs 0).length) k2.tn
theorem DnQ.step {sg : List Sym} {f fr : Int} {rs : List (List Int)} {us : List Unk} {ks : List Kv} {i : Nat} (h : DnQ sg f fr rs us ks) (hl : ks.length = 2 * i) (hi : i < us.length) {k1 k2 : Kv} (h1 : k1.tn = us[i].1) (h2 : JoinR sg f ((varK fr i rs 0).map Kv.tn) (joinB sg f (varK fr i rs 0).length) k2.tn) : DnQ sg f fr rs us (ks ++ [k1, k2]) := by
  intro j hj h'
  by_cases hji : j < i
  · obtain ⟨a, b, e1, e2, e3, e4⟩ := h j hj (by omega)
    exact ⟨a, b, by rw [List.getElem?_append_left (by omega)]; exact e1, by rw [List.getElem?_append_left (by omega)]; exact e2, e3, e4⟩
  · obtain rfl : j = i := by simp at h'; omega
    refine ⟨k1, k2, ?_, ?_, h1, h2⟩
    · rw [List.getElem?_append_right (by omega), hl, Nat.sub_self]; rfl
    · rw [List.getElem?_append_right (by omega), hl, Nat.add_sub_cancel_left]; rfl
set_option maxRecDepth 100000 in
set_option maxHeartbeats 2000000 in
theorem eqs_bad (S : Option Addr) (n cap : Nat) (l : List Sym) (f : Int) (pu : Option Addr) (nu cu : Nat) (a : Option Addr) (c : Nat) (rs : List (List Int)) (fr : Int) (w : World) (hS : SigAt w S n l) (hN : RowsZ w a rs) (hu : nu ≤ 1048576) (R : Int) (hR : eqE l f nu rs fr = R) (h0 : R ≠ 0) :
    Calls Tryz.prog 7 #[.slice S n cap, .int .i64 f, .slice pu nu cu, .slice a rs.length c, .int .i64 fr] w fun e w' => e = .returned (.tuple #[.slice none 0 0, .int .i64 0, .int .i64 R]) ∧ Below w.heap.size w w' := by
  have b0 := alloc_below0 w (.cells #[.int .i64 fr] 3)
  have HC := hid (check_any S n cap l f nu a c rs fr (w.alloc (.cells #[.int .i64 fr] 3)) (hS.below b0) (hN.below b0) hu)
  rw [hR] at HC
  have HB := hid b0
  have c0 : (w.alloc (.cells #[.int .i64 fr] 3)).cell? ⟨w.heap.size, 0, none⟩ = some (.int .i64 fr) := (Box.new w 3 #[.int .i64 fr]).c 0
  clear hS hN b0 hR
  go_enter Tryz.func7, Tryz.ntmps7
  go_wp2_with (go_at_call 16; refine HC.out.mono ?_; rintro e w1 ⟨rfl, hb⟩; have HB1 := hid (HB.out.trans (hb.mono HB.out.size)); clear hb)
  all_goals
    refine bodyPost_ret (results_tmp3 rfl _ _ _) rfl ?_
    exact ⟨rfl, HB1.out⟩
end Go.Proofs.YtppgmepmegelbaaGreatDoor
