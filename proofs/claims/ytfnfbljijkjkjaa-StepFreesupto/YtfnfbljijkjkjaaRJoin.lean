/- What the document's Join and Canon answer, of any terms. -/
import Derived.Test.YtfnfbljijkjkjaaRParts
import Derived.Laws.ResultCell
namespace Go.Proofs.Ytfnfbljijkjkjaa
open Go.RowKit Go.Deep

set_option maxRecDepth 100000 in
/-- A list that is done, as a term's. -/
theorem Lst.term {B : Nat} {W : World} {v : Value} {ks : List Kv} {F : Fo} (x : ByteArray × Int) (h : Lst B W v ks) (hk : ks.map Kv.tn = kidsL F) (hx : x.1.size ≤ maxLen) (hf : lenF F * 48 ≤ 140737488351232) :
    ∃ a c, v = .slice a (lenF F) c ∧ OwnTm false (fun q => B ≤ q) W x a c F := by
  have hl : ks.length = lenF F := by have := congrArg List.length hk; rwa [List.length_map, kids_len] at this
  rcases h.row.2 with ⟨hv, h0⟩ | ⟨g, cap, cur, hv, hb, hg, hnc, hcm, hsz, hcur⟩
  · refine ⟨none, 0, by rw [← hl, h0]; exact hv, ⟨⟨hx, by omega, by simp, hf⟩, .inl ⟨len_nil (by omega), rfl⟩⟩⟩
  · have hrow := h.row
    rw [hv] at hrow
    refine ⟨_, cap, by rw [← hl]; exact hv, ⟨⟨hx, by omega, hcm, hf⟩, .inr ⟨g, cur, rfl, hb, hg, (fun e => by cases e), ownKids_of F ks 0 hk (owns_at hrow) (fun k hk => (h.own k hk).mono (fun q _ hq => hq.1))⟩⟩⟩
set_option maxRecDepth 100000 in
/-- What comes out of Parts: nil, or some. -/
theorem Lst.shape {B : Nat} {W : World} {v : Value} {ms : List Kv} (h : Lst B W v ms) (hn : ms = [] → v = .slice none 0 0) : ∃ a c, v = .slice a ms.length c ∧ RowAt W a ms.length ms ∧ (a = none → c = 0) ∧ (a ≠ none → 0 < ms.length) := by
  obtain ⟨a, c, rfl, _, _, h3, h4, _⟩ := row_of_owns h.row
  refine ⟨a, c, rfl, h3, fun e => (h4 e).2, fun e => ?_⟩
  cases ms with
  | nil => cases hn rfl; exact absurd rfl e
  | cons k r => simp
set_option maxRecDepth 100000 in
/-- What Sorted makes of a list. -/
theorem Lst.sorted {B : Nat} {W W' : World} {v v' : Value} {ks out : List Kv} (h : Lst B W v ks) (hB : B ≤ W.heap.size) (hb : Below W.heap.size W W') (ho : W'.ownsRow W.heap.size 26 3 v' out.length (kvCells out)) (hin : ∀ k ∈ out, k ∈ ks) : Lst B W' v' out := by
  refine ⟨owns_base ho hB, fun k hk => ?_⟩
  have h2 : OwnTm false (fun q => B ≤ q ∧ some q ≠ v'.ownBlock) W k.x k.a k.c k.l := (h.own k (hin k hk)).mono (fun q hq hp => ⟨hp.1, fun e => by have := (owns_cells ho e.symm).1; omega⟩)
  exact h2.below hb
def zeroT : Tn := ((noB, 0), .nil)
/-- One term, in new memory. -/
def JoinRet (B : Nat) (W : World) (r : Option Tn) (e : Ending) : Prop :=
  ∃ a c, e = .returned (.tuple #[.agg #[.string (r.getD zeroT).1.1, .int .i64 (r.getD zeroT).1.2, .slice a (lenF (r.getD zeroT).2) c], .bool r.isSome]) ∧ OwnTm false (fun q => B ≤ q) W (r.getD zeroT).1 a c (r.getD zeroT).2
def CanonOk (S : Option Addr) (n cap : Nat) (l : List Sym) (k : Nat) : Prop := ∀ (t : Tn) (a : Option Addr) (c : Nat) (w : World), nodesF t.2 ≤ k → SigAt w S n l → TmAt w t.1 a c t.2 →
  Calls Try.prog 46 #[.slice S n cap, .agg #[.string t.1.1, .int .i64 t.1.2, .slice a (lenF t.2) c]] w fun e w' => ∃ a' c', e = .returned (.agg #[.string (canonT (sgOf l) t).1.1, .int .i64 (canonT (sgOf l) t).1.2, .slice a' (lenF (canonT (sgOf l) t).2) c']) ∧ OwnTm false (fun q => w.heap.size ≤ q) w' (canonT (sgOf l) t).1 a' c' (canonT (sgOf l) t).2 ∧ Below w.heap.size w w'
def JoinOk (S : Option Addr) (n cap : Nat) (l : List Sym) (k : Nat) : Prop := ∀ (f : Int) (F : Fo) (a : Option Addr) (c : Nat) (w : World), nodesF F ≤ k → SigAt w S n l → ArgsAt w a F →
  Calls Try.prog 68 #[.slice S n cap, .int .i64 f, .slice a (lenF F) c] w fun e w' => JoinRet w.heap.size w' (joinN (sgOf l) f (canonL (sgOf l) F)) e ∧ Below w.heap.size w w'

set_option maxRecDepth 100000 in
theorem sizes_len : ∀ l : List Tn, l.length ≤ sizes l
  | [] => Nat.le_refl _
  | t :: r => by rw [sizes_cons, List.length_cons]; have := sizes_len r; unfold sizeT; omega
set_option maxRecDepth 100000 in
theorem sizes_take (l : List Tn) (j : Nat) : sizes (l.take j) ≤ sizes l := by
  have := sizes_append (l.take j) (l.drop j)
  rw [List.take_append_drop] at this
  omega
set_option maxRecDepth 100000 in
/-- How many parts there are, at most. -/
theorem flat_few (S : Sg) (f : Int) (F : Fo) (j : Nat) : (((canonL S F).take j).flatMap (partsN S f)).length ≤ nodesF F :=
  Nat.le_trans (sizes_len _) (Nat.le_trans (flat_size S f _) (Nat.le_trans (sizes_take _ j) (canonL_size S F)))
set_option maxRecDepth 100000 in
theorem canonL_take {S : Sg} {F : Fo} {k : Nat} {x : ByteArray × Int} {m : Fo} {B O : Nat} {r : Fo} (h : dropF k F = .node B O x m r) : (canonL S F).take (k + 1) = (canonL S F).take k ++ [canonT S (x, m)] := by
  rw [canonL_map, ← List.map_take, ← List.map_take, kids_take h]
  simp
set_option maxRecDepth 100000 in
/-- The answer, in the box that is the function's. -/
theorem ret_join {fn : Func} {R : Ending → World → Prop} {a : Act} {w : World} {p u B : Nat} {x : ByteArray × Int} {v : Value} (h : fn.results = #[.cell p 26, .tmp u]) (hp : a.tmps.getD p undef = .pointer (some ⟨B, 0, none⟩))
    (hx : XBox w B x v) (hd : a.defers = []) (hR : R (.returned (.tuple #[.agg #[.string x.1, .int .i64 x.2, v], a.tmps.getD u undef])) w) : bodyPost Try.prog fn R .ret a w := by
  refine bodyPost_ret ?_ hd hR
  rw [results_cell_tmp h, hp]
  rw [show (asAddr (.pointer (some ⟨B, 0, none⟩))).run Try.prog w = .ok ⟨B, 0, none⟩ w from rfl]
  simp only [Result.andThen_ok, run_loadVar_row w B 26 26 _ (0, 0) _ hx Try.underlying26 rfl Try.size26]
set_option maxRecDepth 100000 in
theorem own_nil {P : Nat → Prop} (W : World) (x : ByteArray × Int) (hx : x.1.size ≤ maxLen) : OwnTm false P W x none 0 .nil := ⟨⟨hx, Nat.le_refl _, by simp, by simp [lenF]⟩, .inl ⟨rfl, rfl⟩⟩
set_option maxRecDepth 100000 in
theorem OwnTm.sets {W : World} {B : Nat} {x : ByteArray × Int} {a : Option Addr} {c : Nat} {F : Fo} (h : OwnTm false (fun q => B + 1 ≤ q) W x a c F) (u v t : Value) : OwnTm false (fun q => B ≤ q) (((W.setCell ⟨B, 0, none⟩ u).setCell ⟨B, 1, none⟩ v).setCell ⟨B, 2, none⟩ t) x a c F :=
  (h.keep (fun q hq _ => sets_far (by omega) _ _ _)).mono (fun q _ hq => by omega)

set_option maxRecDepth 100000 in
set_option maxHeartbeats 2000000 in
theorem join_of {S : Option Addr} {n cap : Nat} {l : List Sym} {k : Nat} (hk : k ≤ 1048576) (ih : ∀ j, j < k → CanonOk S n cap l j) : JoinOk S n cap l k := by
  intro f F a c w hF hS hA
  have HS : Hid (SigAt w S n l) := hS
  have HA : Hid (ArgsAt w a F) := hA
  have IH : Hid (∀ j, j < k → CanonOk S n cap l j) := ih
  have HJ : Hid (∀ W, Below w.heap.size w W → Calls Try.prog 67 #[.slice S n cap, .int .i64 f] W fun e w' => e = .returned (.bool (joinsAt l f)) ∧ Below W.heap.size W w') := fun W hW => joins_any S n cap l f W (HS.out.below hW)
  have HU : Hid (∀ W, Below w.heap.size w W → Calls Try.prog 82 #[.slice S n cap, .int .i64 f] W fun e w' => UnitRet l f e ∧ w' = W) := fun W hW => runit_any S n cap l f W (HS.out.below hW)
  have HX0 : Hid (XBox (w.alloc (.cells #[.string ⟨#[]⟩, .int .i64 0, .slice none 0 0] 26)) w.heap.size (⟨#[]⟩, 0) (.slice none 0 0)) := World.alloc_heap_new w _
  have HB0 : Hid (Below w.heap.size w (w.alloc (.cells #[.string ⟨#[]⟩, .int .i64 0, .slice none 0 0] 26))) := (Below.refl _ w).alloc (Nat.le_refl _) _
  have hlF : lenF F ≤ 1048576 := Nat.le_trans (len_nodes F) (Nat.le_trans hF hk)
  clear hS hA ih
  cases hj : joinsAt l f
  · have e : Hid (joinN (sgOf l) f (canonL (sgOf l) F) = none) := by show _ = _; unfold joinN; rw [if_pos (show (sgOf l).joins f = false from hj)]
    rw [hj] at HJ
    go_enter Try.func68, Try.ntmps68
    go_wp2_with (first
      | (go_at_call 67; refine (HJ.out _ HB0.out).mono ?_; rintro e w1 ⟨rfl, hb1⟩; have HB1 : Hid (Below w.heap.size w w1) := HB0.out.trans (hb1.mono (by simp)); have hbx := HX0.out.below hb1; have HBX : Hid (XBox w1 w.heap.size (⟨#[]⟩, 0) (.slice none 0 0)) := hbx; have r0 := hbx.c0; have r1 := hbx.c1; have r2 := hbx.c2; have f0 := hbx.f (k := 0); have f1 := hbx.f (k := 1); have f2 := hbx.f (k := 2); clear hb1 hbx))
    refine ret_join (p := 6) (u := 7) rfl rfl (HBX.out.all (x := (⟨#[]⟩, 0)) (.slice none 0 0)) rfl ?_
    refine ⟨⟨none, 0, by rw [e.out]; rfl, ?_⟩, sets_below HB1.out (Nat.le_refl _) _ _ _⟩
    rw [e.out]
    exact (own_nil _ _ (by decide)).sets _ _ _
  · have e : Hid (joinN (sgOf l) f (canonL (sgOf l) F) = joinL (sgOf l) f ((canonL (sgOf l) F).flatMap (partsN (sgOf l) f))) := by show _ = _; unfold joinN; rw [if_neg (show ¬ (sgOf l).joins f = false by show ¬ joinsAt l f = false; rw [hj]; simp)]
    rw [hj] at HJ
    go_enter Try.func68, Try.ntmps68
    go_wp2_with (first
      | (go_at_call 67; refine (HJ.out _ HB0.out).mono ?_; rintro e w1 ⟨rfl, hb1⟩; have HB1 : Hid (Below w.heap.size w w1) := HB0.out.trans (hb1.mono (by simp)); have HX1 : Hid (XBox w1 w.heap.size (⟨#[]⟩, 0) (.slice none 0 0)) := HX0.out.below hb1; clear hb1))
    go_loopw [8, 9] (fun ov i wr => ∃ (j : Nat) (v : Value) (ks : List Kv), j ≤ lenF F ∧ v = ov ∧ i = .int .i64 j ∧ Lst (w.heap.size + 1) wr v ks ∧ XBox wr w.heap.size (⟨#[]⟩, 0) (.slice none 0 0) ∧ ks.map Kv.tn = ((canonL (sgOf l) F).take j).flatMap (partsN (sgOf l) f) ∧ Below w.heap.size w wr) (fun _ i _ => lenF F - (intOf i).toNat)
    case atStart => exact ⟨0, _, [], Nat.zero_le _, rfl, rfl, Lst.nil _ _, HX1.out, by simp, HB1.out⟩
    case round =>
      obtain ⟨j, v, ks, hj, rfl, rfl, hL, hX, hmap, hlow⟩ := hrel
      have HL : Hid (Lst (w.heap.size + 1) wr v ks) := hL
      have HX : Hid (XBox wr w.heap.size (⟨#[]⟩, 0) (.slice none 0 0)) := hX
      have HM : Hid (ks.map Kv.tn = ((canonL (sgOf l) F).take j).flatMap (partsN (sgOf l) f)) := hmap
      have HB : Hid (Below w.heap.size w wr) := hlow
      have hxl : w.heap.size + 1 ≤ wr.heap.size := hX.lt
      clear hL hX hmap hlow
      by_cases hlt : j < lenF F
      · obtain ⟨bb, oo, rfl, hkk⟩ := HA.out.get (by omega)
        obtain ⟨y, a1, c1, l1, kd⟩ := hkk.kid (k := j) hlt
        have kd' := kd.below HB.out
        have p0 := kd'.name; have p1 := kd'.sym; have p2 := kd'.list
        have KD : Hid (Kid wr F bb oo j y a1 c1 l1) := kd'
        have hj0 : (0 : Int) ≤ (j : Int) := by omega
        have hjn : (j : Int) < (lenF F : Int) := by omega
        clear kd kd' hkk
        obtain ⟨ct, hct⟩ : ∃ ct, canonT (sgOf l) (y, l1) = ct := ⟨_, rfl⟩
        have HC : Hid (∀ W, Below wr.heap.size wr W → Calls Try.prog 46 #[.slice S n cap, .agg #[.string y.1, .int .i64 y.2, .slice a1 (lenF l1) c1]] W fun e w' => ∃ a' c', e = .returned (.agg #[.string ct.1.1, .int .i64 ct.1.2, .slice a' (lenF ct.2) c']) ∧ OwnTm false (fun q => W.heap.size ≤ q) w' ct.1 a' c' ct.2 ∧ Below W.heap.size W w') := fun W hW => by
          have := IH.out (nodesF l1) (by have := KD.out.less; omega) (y, l1) a1 c1 W (Nat.le_refl _) ((HS.out.below HB.out).below hW) (KD.out.at_.below hW)
          rw [hct] at this
          exact this
        have HCT : Hid (canonT (sgOf l) (y, l1) = ct) := hct
        clear hct
        go_wp2_with (first
          | (go_at_call 46; refine (HC.out _ (Below.refl _ _)).mono ?_; rintro e w2 ⟨a', c', rfl, ho2, hb2⟩; have HO2 : Hid (OwnTm false (fun q => wr.heap.size ≤ q) w2 ct.1 a' c' ct.2) := ho2; have HB2 : Hid (Below wr.heap.size wr w2) := hb2; clear ho2 hb2)
          | (go_at_call 81; refine (parts_any S n cap l f ct a' c' w2 ((HS.out.below HB.out).below HB2.out) HO2.out.tm).mono ?_; rintro e w3 ⟨v3, ms, rfl, ho3, hn3, hm3, hb3⟩; obtain ⟨a3, c3, rfl, hr3, hnil3, hsome3⟩ := ho3.shape hn3; have HO3 : Hid (∀ q ∈ ms, OwnTm false (fun q => wr.heap.size ≤ q) w3 q.x q.a q.c q.l) := fun q hq => (ho3.own q hq).mono (fun b _ hb => Nat.le_trans HB2.out.size hb.1); have HB3 : Hid (Below wr.heap.size wr w3) := HB2.out.trans (hb3.mono HB2.out.size); have HM3 : Hid (ms.map Kv.tn = partsN (sgOf l) f ct) := hm3; have HR3 : Hid (RowAt w3 a3 ms.length ms) := hr3; have HN3 : Hid ((a3 = none → c3 = 0) ∧ (a3 ≠ none → 0 < ms.length)) := ⟨hnil3, hsome3⟩; have HMM : Hid ((ks ++ ms).map Kv.tn = ((canonL (sgOf l) F).take (j + 1)).flatMap (partsN (sgOf l) f)) := (by show _ = _; obtain ⟨B1, O1, sp⟩ := KD.out.split; rw [canonL_take sp, List.flatMap_append, ← HM.out, HCT.out, List.map_append, hm3]; simp); have hfew : ks.length + ms.length ≤ 1048576 := (by have h1 := flat_few (sgOf l) f F (j + 1); rw [← HMM.out, List.length_map, List.length_append] at h1; omega); clear ho3 hn3 hm3 hb3 hr3 hnil3 hsome3)
          | (at_builtin; refine wpList_append_lst rfl _ _ rfl (w.heap.size + 1) v ks rfl (owns_below HL.out.row HB3.out) a3 ms.length c3 ms rfl HR3.out HN3.out.1 HN3.out.2 (by omega) (by have := HB3.out.size; omega) ?_; intro v4 w4 hown4 hgrow4 hat4; have HL4 : Hid (Lst (w.heap.size + 1) w4 v4 (ks ++ ms)) := HL.out.grow HB3.out HO3.out hxl hgrow4 hat4 hown4; have HX4 : Hid (XBox w4 w.heap.size (⟨#[]⟩, 0) (.slice none 0 0)) := (HX.out.below HB3.out).kept hgrow4 (fun e => by have := (owns_cells HL.out.row e.symm).1; omega); have HB4 : Hid (Below w.heap.size w w4) := HB.out.trans ((HB3.out.mono HB.out.size).grown hgrow4 (by have := HB3.out.size; omega) (fun k e => by have := (owns_cells HL.out.row e).1; omega)); clear hown4 hgrow4 hat4))
        go_roundw
        case rel => exact ⟨j + 1, v4, ks ++ ms, by omega, rfl, by go_num, HL4.out, HX4.out, HMM.out, HB4.out⟩
        case measure => simp [intOf]; omega
      · obtain rfl : j = lenF F := by omega
        have HM' : Hid (ks.map Kv.tn = (canonL (sgOf l) F).flatMap (partsN (sgOf l) f)) := by
          have := HM.out
          rwa [List.take_of_length_le (by rw [canonL_map, List.length_map, kids_len]; exact Nat.le_refl _)] at this
        have hfew : ks.length ≤ 1048576 := by
          have h1 := flat_few (sgOf l) f F (lenF F)
          rw [← HM.out, List.length_map] at h1
          omega
        obtain ⟨oa, ocap, rfl, hoc, hocm, hot, honil, hosome⟩ := row_of_owns HL.out.row
        have HOT : Hid (RowAt wr oa ks.length ks) := hot
        have hbx := HX.out
        have r0 := hbx.c0; have r1 := hbx.c1; have r2 := hbx.c2; have f0 := hbx.f (k := 0); have f1 := hbx.f (k := 1); have f2 := hbx.f (k := 2)
        clear hbx hot HM
        rcases ks with _ | ⟨k1, _ | ⟨k2, r⟩⟩
        · cases huo : unitOk l f
          · have e2 : Hid (joinN (sgOf l) f (canonL (sgOf l) F) = none) := by
              show _ = _
              rw [e.out, ← HM'.out]
              unfold unitOk at huo
              show ((unitAt l f).map _).map constT = none
              cases hq : unitAt l f with
              | none => rfl
              | some i => rw [hq] at huo; simp at huo
            have HO : Hid (unitOk l f = false) := huo
            obtain ⟨ui, hui⟩ : ∃ ui, unitI l f = ui := ⟨_, rfl⟩
            have HI : Hid (unitI l f = ui) := hui
            clear huo hui
            go_wp2_with (first
              | (go_at_call 82; refine (HU.out _ HB.out).mono ?_; rintro e w9 ⟨he, hw9⟩; unfold UnitRet at he; rw [HI.out, HO.out] at he; subst he; rw [hw9]; clear hw9))
            refine ret_join (p := 6) (u := 7) rfl rfl (HX.out.all (x := (⟨#[]⟩, 0)) (.slice none 0 0)) rfl ?_
            refine ⟨⟨none, 0, by rw [e2.out]; rfl, ?_⟩, sets_below HB.out (Nat.le_refl _) _ _ _⟩
            rw [e2.out]
            exact (own_nil _ _ (by decide)).sets _ _ _
          · have HO : Hid (unitOk l f = true) := huo
            obtain ⟨ui, hui⟩ : ∃ ui, unitI l f = ui := ⟨_, rfl⟩
            have e2 : Hid (joinN (sgOf l) f (canonL (sgOf l) F) = some (constT ui)) := by
              show _ = _
              rw [e.out, ← HM'.out, ← hui]
              unfold unitOk at huo
              show ((unitAt l f).map _).map constT = _
              cases hq : unitAt l f with
              | none => rw [hq] at huo; simp at huo
              | some i => simp [unitI, hq]
            have HI : Hid (unitI l f = ui) := hui
            clear huo hui
            go_wp2_with (first
              | (go_at_call 82; refine (HU.out _ HB.out).mono ?_; rintro e w9 ⟨he, hw9⟩; unfold UnitRet at he; rw [HI.out, HO.out] at he; subst he; rw [hw9]; clear hw9))
            refine ret_join (p := 6) (u := 7) rfl rfl (HX.out.all (x := (⟨#[]⟩, ui)) (.slice none 0 0)) rfl ?_
            refine ⟨⟨none, 0, by rw [e2.out]; rfl, ?_⟩, sets_below HB.out (Nat.le_refl _) _ _ _⟩
            rw [e2.out]
            exact (own_nil _ _ (show noB.size ≤ maxLen by decide)).sets _ _ _
        · have e2 : Hid (joinN (sgOf l) f (canonL (sgOf l) F) = some (k1.x, k1.l)) := by show _ = _; rw [e.out, ← HM'.out]; rfl
          have HO1 : Hid (OwnTm false (fun q => w.heap.size + 1 ≤ q) wr k1.x k1.a k1.c k1.l) := (HL.out.own k1 (by simp)).mono (fun q _ hq => hq.1)
          obtain ⟨b, off, rfl, s0, s1, s2⟩ := HOT.out.get (j := 0) (k := k1) rfl
          obtain ⟨_, rfl, _⟩ := hosome _ _ _ rfl
          simp only [Nat.zero_mul, Nat.zero_add, Nat.add_zero] at s0 s1 s2
          clear honil hosome
          go_wp2
          refine ret_join (p := 6) (u := 7) rfl rfl (HX.out.all (x := k1.x) (.slice k1.a (lenF k1.l) k1.c)) rfl ?_
          refine ⟨⟨k1.a, k1.c, by rw [e2.out]; rfl, ?_⟩, sets_below HB.out (Nat.le_refl _) _ _ _⟩
          rw [e2.out]
          exact HO1.out.sets _ _ _
        · have e2 : Hid (joinN (sgOf l) f (canonL (sgOf l) F) = some ((noB, f), mkF (sortN ((k1 :: k2 :: r).map Kv.tn)))) := by show _ = _; rw [e.out, ← HM'.out]; rfl
          obtain ⟨ks, hks⟩ : ∃ ks, k1 :: k2 :: r = ks := ⟨_, rfl⟩
          have hlen : ks.length = r.length + 2 := by rw [← hks]; rfl
          clear honil hosome
          rw [hks] at e2 HM' hfew HL hoc HOT ⊢
          have HSo := sorted_any oa ks.length ocap ks wr HOT.out (fun q hq => (HL.out.own q hq).tm) (by omega)
          have HSO : Hid (Calls Try.prog 83 #[.slice oa ks.length ocap] wr fun e w' => ∃ v out, e = .returned v ∧ w'.ownsRow wr.heap.size 26 3 v out.length (kvCells out) ∧ (∀ k ∈ out, k ∈ ks) ∧ out.map Kv.tn = sortN (ks.map Kv.tn) ∧ Below wr.heap.size wr w') := HSo
          clear HSo hks
          obtain ⟨m, hm⟩ : ∃ m, ks.length = m := ⟨_, rfl⟩
          rw [hm] at HSO hfew hlen hoc ⊢
          have hm1 : ((m : Int) == 1) = false := by simp; omega
          have hm0 : ((m : Int) == 0) = false := by simp; omega
          clear hlen
          have HMm : Hid (ks.length = m) := hm
          clear hm
          go_wp2_with (first
            | (go_at_call 83; refine HSO.out.mono ?_; rintro e w5 ⟨v5, out, rfl, ho5, hi5, hm5, hb5⟩; have hl5 := HL.out.sorted hxl hb5 ho5 hi5; obtain ⟨a5, c5, rfl, hown5⟩ := hl5.term (F := mkF (sortN (ks.map Kv.tn))) (noB, f) (by rw [hm5, kids_mk]) (show noB.size ≤ maxLen by decide) (by rw [len_mk, sortN_len, List.length_map, HMm.out]; omega); have HO5 : Hid (OwnTm false (fun q => w.heap.size + 1 ≤ q) w5 (noB, f) a5 c5 (mkF (sortN (ks.map Kv.tn)))) := hown5; have HX5 : Hid (XBox w5 w.heap.size (⟨#[]⟩, 0) (.slice none 0 0)) := HX.out.below hb5; have HB5 : Hid (Below w.heap.size w w5) := HB.out.trans (hb5.mono HB.out.size); clear r0 r1 r2 f0 f1 f2; have r0 := HX5.out.c0; have r1 := HX5.out.c1; have r2 := HX5.out.c2; have f0 := HX5.out.f (k := 0); have f1 := HX5.out.f (k := 1); have f2 := HX5.out.f (k := 2); clear ho5 hi5 hm5 hb5 hl5 hown5))
          refine ret_join (p := 6) (u := 7) rfl rfl (HX5.out.all (x := (⟨#[]⟩, f)) (.slice a5 (lenF (mkF (sortN (ks.map Kv.tn)))) c5)) rfl ?_
          refine ⟨⟨a5, c5, by rw [e2.out]; rfl, ?_⟩, sets_below HB5.out (Nat.le_refl _) _ _ _⟩
          rw [e2.out]
          exact HO5.out.sets _ _ _
end Go.Proofs.Ytfnfbljijkjkjaa
