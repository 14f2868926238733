/- What the document's Places gathers: every path, each in a slice of its own. -/
import Derived.Test.YtmhdapgiealmfaaTAll
import Derived.Deep.RegionHeld3
namespace Go.Proofs.Ytmhdapgiealmfaa
open Go.RowKit Go.Deep

/-- Below nothing has turned, beyond no cells but rows of one type. -/
structure NvT (ty : TypeId) (B : Nat) (W W' : World) : Prop where
  low : Below B W W'
  cells : ∀ (k : Nat) (cs : Array Value) (t : TypeId) (fr : Nat × Nat), W.heap[k]? = some (Obj.cells cs t fr) → t ≠ ty → W'.heap[k]? = some (Obj.cells cs t fr)
theorem NvT.refl (ty : TypeId) (B : Nat) (W : World) : NvT ty B W W := ⟨Below.refl _ _, fun _ _ _ _ h _ => h⟩
theorem NvT.trans {ty : TypeId} {B : Nat} {X Y Z : World} (h : NvT ty B X Y) (k : NvT ty B Y Z) : NvT ty B X Z := ⟨h.low.trans k.low, fun i cs t fr hi ht => k.cells i cs t fr (h.cells i cs t fr hi ht) ht⟩
theorem NvT.of_below {ty : TypeId} {B : Nat} {X Y : World} (h : Below X.heap.size X Y) (hB : B ≤ X.heap.size) : NvT ty B X Y := ⟨h.mono hB, fun k _ _ _ hk _ => (h.block k (Array.getElem?_eq_some_iff.1 hk).1).trans hk⟩
theorem NvT.grown {ty : TypeId} {B : Nat} {X Y : World} {row : Option Nat} (hg : X.grownBy Y row) (hB : B ≤ X.heap.size) (hr : ∀ r, row = some r → B ≤ r ∧ ∃ cs fr, X.heap[r]? = some (Obj.cells cs ty fr)) : NvT ty B X Y :=
  ⟨(Below.refl B X).grown hg hB (fun k e => (hr k e).1), fun k cs t fr hk h9 => by
    refine (hg.block k (Array.getElem?_eq_some_iff.1 hk).1 (fun e => ?_)).trans hk
    obtain ⟨_, cs', fr', h'⟩ := hr k e.symm
    rw [hk] at h'
    cases h'
    exact h9 rfl⟩
theorem NvT.append {ty : TypeId} {B k : Nat} {X Y : World} {v : Value} {xs : List Value} {o : Obj} (hr : X.ownsRow B ty 1 v k xs) (hg : (X.alloc o).grownBy Y v.ownBlock) (hB : B ≤ X.heap.size) : NvT ty B X Y :=
  (NvT.of_below ((Below.refl _ X).alloc (Nat.le_refl _) o) hB).trans (NvT.grown hg (by simp; omega) (fun r e => by
    obtain ⟨h1, cur, h2⟩ := owns_cells (hr.alloc o) e
    exact ⟨h1, cur, _, h2⟩))
theorem TBox.nvt {ty : TypeId} {B0 : Nat} {W W' : World} {B : Nat} {x : ByteArray × Int} {a : Option Addr} {n c : Nat} (h : TBox W B x a n c) (ht : 26 ≠ ty) (hm : NvT ty B0 W W') : TBox W' B x a n c := hm.cells _ _ _ _ h ht
theorem owns_nvt {ty : TypeId} {B0 : Nat} {W W' : World} {base e k : Nat} {v : Value} {xs : List Value} (h : W.ownsRow base e 1 v k xs) (ht : e ≠ ty) (hm : NvT ty B0 W W') : W'.ownsRow base e 1 v k xs :=
  owns_block h (fun g hg => by obtain ⟨_, cur, hk⟩ := owns_cells h hg; rw [hk]; exact hm.cells _ _ _ _ hk ht)

/-- Each path lies in its slice. -/
structure PathsV (W : World) (ps : List (List Int)) (vs : List Value) : Prop where
  len : vs.length = ps.length
  each : ∀ (i : Nat) (p : List Int) (v : Value), ps[i]? = some p → vs[i]? = some v → W.ownsRow 0 3 1 v p.length (intsV p)
theorem PathsV.nvt {B0 : Nat} {W W' : World} {ps : List (List Int)} {vs : List Value} (h : PathsV W ps vs) (hm : NvT 40 B0 W W') : PathsV W' ps vs := ⟨h.len, fun i p v hp hv => owns_nvt (h.each i p v hp hv) (by decide) hm⟩
theorem PathsV.snoc {W : World} {ps : List (List Int)} {vs : List Value} {p : List Int} {v : Value} (h : PathsV W ps vs) (hv : W.ownsRow 0 3 1 v p.length (intsV p)) : PathsV W (ps ++ [p]) (vs ++ [v]) := by
  refine ⟨by simp [h.len], fun i q u hq hu => ?_⟩
  rcases Nat.lt_or_ge i ps.length with hi | hi
  · rw [List.getElem?_append_left hi] at hq
    rw [List.getElem?_append_left (by rw [h.len]; exact hi)] at hu
    exact h.each i q u hq hu
  · rw [List.getElem?_append_right hi] at hq
    rw [List.getElem?_append_right (by rw [h.len]; exact hi), h.len] at hu
    cases hd : i - ps.length with
    | zero =>
      rw [hd] at hq hu
      simp at hq hu
      subst hq hu
      exact hv
    | succ n => rw [hd] at hq; simp at hq

def pathsF (path : List Int) (i : Nat) (F : Fo) : List (List Int) := (placesF path i F).map (·.1)
theorem pathsF_nil (path : List Int) (i : Nat) : pathsF path i .nil = [] := rfl
theorem pathsF_node (path : List Int) (i : Nat) (b o : Nat) (x : ByteArray × Int) (l r : Fo) : pathsF path i (.node b o x l r) = ((path ++ [(i : Int)]) :: pathsF (path ++ [(i : Int)]) 0 l) ++ pathsF path (i + 1) r := by
  simp [pathsF, placesF]
theorem pathsF_len (path : List Int) (i : Nat) (F : Fo) : (pathsF path i F).length = nodesF F := by rw [pathsF, List.length_map, places_len]
theorem Try.info40 : (Try.prog.info? 40).map (fun i => (i.zero, i.size, i.bytes)) = some (some (.slice none 0 0), 1, 24) := by kernel_rfl

def PlacesOk (k : Nat) : Prop := ∀ (w0 : World) (x : ByteArray × Int) (l : Fo) (a : Option Addr) (c : Nat) (path : List Int) (pv v : Value) (ps : List (List Int)) (vs : List Value) (w : World), nodesF l ≤ k → TmAt w0 x a c l → Below w0.heap.size w0 w →
  w.ownsRow 0 3 1 pv path.length (intsV path) → w.ownsRow w0.heap.size 40 1 v ps.length vs → PathsV w ps vs → ps.length + nodesF l ≤ 2097152 → path.length + nodesF l ≤ 2097152 →
  Calls Try.prog 30 #[.agg #[.string x.1, .int .i64 x.2, .slice a (lenF l) c], pv, v] w fun e w' => ∃ v' vs', e = .returned v' ∧ w'.ownsRow w0.heap.size 40 1 v' (ps ++ path :: pathsF path 0 l).length vs' ∧ PathsV w' (ps ++ path :: pathsF path 0 l) vs' ∧ NvT 40 w0.heap.size w w'

/-- 'append([]int{}, path...)'. -/
theorem wpList_append_path {ops : Array Oper} {rest : List Oper} {o : Oper} {a : Act} {Q : Exit → Act → World → Prop} (W : World) (hgd : o.guard = none) (s x : Operand)
    (ho : o.op = .call { callee := .builtin .append, args := #[s, x], argTypes := #[40, 40] }) (path : List Int) (pv : Value) {H : Nat} (hH : W.heap.size = H) (hs : a.eval s = .slice (some ⟨H, 0, none⟩) 0 0) (hx : a.eval x = pv)
    (hown : W.ownsRow 0 3 1 pv path.length (intsV path)) (hlen : path.length ≤ 2097152)
    (h : ∀ a1 c1 w2, w2.ownsRow W.heap.size 3 1 (.slice a1 path.length c1) path.length (intsV path) → Below W.heap.size W w2 → wpList Try.prog ops Q rest (a.put o.dst (.slice a1 path.length c1)) w2) : wpList Try.prog ops Q (o :: rest) a (W.alloc (.cells #[] 3)) := by
  subst hH
  obtain ⟨i0, hi, hz0, hz1, hz2⟩ := info_parts Try.info3
  have hmax : maxLen = 9223372036854775807 := rfl
  have hb9 : Below W.heap.size W (W.alloc (.cells #[] 3)) := (Below.refl _ W).alloc (Nat.le_refl _) _
  rcases hown.2 with ⟨rfl, hn⟩ | ⟨g, cap, cur, rfl, hg, hh, hnc, hcm, hsz, hcur⟩
  · obtain rfl : path = [] := List.length_eq_zero_iff.1 hn
    exact wpList_append_own_none hgd s x 40 ho W.heap.size 3 i0 1 Try.underlying40 hi _ 0 [] hs (row_empty3 W) hx (h _ _ _ (row_empty3 W) hb9)
  · have hh9 : (W.alloc (.cells #[] 3)).heap[g]? = some (Obj.cells cur 3 (0, 0)) := (hb9.block g (Array.getElem?_eq_some_iff.1 hh).1).trans hh
    refine wpList_append_own _ hgd s x 40 ho W.heap.size 3 i0 (.int .i64 0) 1 8 Try.underlying40 hi hz0 hz1 hz2 rfl (by decide) _ 0 [] hs (row_empty3 W) ⟨g, 0, none⟩ path.length cap (intsV path) hx (by simp [intsV]) (row_news hh9 (by simpa using hcur)) (ints_one path) (by omega) (by omega) (by simp) ?_
    intro v' w' hown' hgrow _
    simp only [Nat.zero_add, List.nil_append] at hown'
    have hb : Below W.heap.size W w' := hb9.grown hgrow (by simp) (fun k e => by cases e; exact Nat.le_refl _)
    rcases hown'.2 with ⟨rfl, hn⟩ | ⟨g', cap', cur', rfl, _⟩
    · have h' := h none 0 w'
      rw [hn] at h'
      exact h' (by rw [hn] at hown'; exact hown') hb
    · exact h _ _ _ hown' hb
theorem slice_one (a : Option Addr) (n c : Nat) : ∀ u ∈ [Value.slice a n c], u.oneCell' = true := by
  intro u hu
  simp at hu
  subst hu
  rfl
theorem int_one1 (i : Int) : ∀ u ∈ [Value.int .i64 i], u.oneCell' = true := by
  intro u hu
  simp at hu
  subst hu
  rfl
theorem intsV_snoc (ps : List Int) (i : Int) : intsV (ps ++ [i]) = intsV ps ++ [.int .i64 i] := by simp [intsV]

set_option maxRecDepth 100000 in
set_option maxHeartbeats 2000000 in
theorem places_all : ∀ k, PlacesOk k := by
  intro k
  induction k using Nat.strongRecOn with
  | _ k ih =>
    intro w0 x l a c path pv v ps vs w hk hT hlow hpath hrow hP hbig hdeep
    obtain ⟨i0, hi, hz0, hz1, hz2⟩ := info_parts Try.info3
    obtain ⟨i4, hi4, hz40, hz41, hz42⟩ := info_parts Try.info40
    have hmax : maxLen = 9223372036854775807 := rfl
    have HT : Hid (TmAt w0 x a c l) := hT
    have IH : Hid (∀ j, j < k → PlacesOk j) := ih
    have HLOW : Hid (Below w0.heap.size w0 w) := hlow
    have hsz := hlow.size
    have hn : lenF l ≤ 9223372036854775807 := by have := len_nodes l; omega
    obtain ⟨W1, hW1⟩ : ∃ W1, w.alloc (.cells #[.string x.1, .int .i64 x.2, .slice a (lenF l) c] 26) = W1 := ⟨_, rfl⟩
    have hb1 : Below w.heap.size w W1 := by rw [← hW1]; exact (Below.refl _ w).alloc (Nat.le_refl _) _
    have hs1 : W1.heap.size = w.heap.size + 1 := by rw [← hW1]; simp
    have BT1 : Hid (TBox W1 w.heap.size x a (lenF l) c) := by show TBox _ _ _ _ _ _; rw [← hW1]; exact TBox.new w x a (lenF l) c
    have HP1 : Hid (W1.ownsRow 0 3 1 pv path.length (intsV path)) := owns_below hpath hb1
    have HR1 : Hid (W1.ownsRow w0.heap.size 40 1 v ps.length vs) := owns_below hrow hb1
    have PV1 : Hid (PathsV W1 ps vs) := hP.nvt (NvT.of_below hb1 (Nat.zero_le _))
    have N1 : Hid (NvT 40 w0.heap.size w W1) := NvT.of_below hb1 hsz
    clear hT ih hlow hpath hrow hP hb1
    go_enter Try.func30, Try.ntmps30
    go_wp2_with (first | (rw [hW1]) | (at_builtin; first
      | (refine wpList_append_path W1 rfl _ _ rfl path pv hs1 rfl rfl HP1.out (by omega) ?_; intro a1 c1 w2 ho2 hb2; have HO2 : Hid (w2.ownsRow W1.heap.size 3 1 (.slice a1 path.length c1) path.length (intsV path)) := ho2; have HB2 : Hid (Below W1.heap.size W1 w2) := hb2; clear ho2 hb2)
      | (refine wpList_append_own _ rfl _ _ 45 rfl w0.heap.size 40 i4 (.slice none 0 0) 1 24 Try.underlying45 hi4 hz40 hz41 hz42 rfl (by decide) v ps.length vs rfl ((owns_below HR1.out HB2.out).alloc _) ⟨w2.heap.size, 0, none⟩ 1 1 [.slice a1 path.length c1] rfl rfl (World.news_of_block (heap_alloc_new w2 _)) (slice_one _ _ _) (by omega) (by omega) (by rw [World.size_alloc]; have := HB2.out.size; omega) ?_; intro v3 w3 hown3 hgrow3 _; obtain ⟨g3, cap3, rfl⟩ := ownsRow_succ hown3; have NA : Hid (NvT 40 w0.heap.size W1 w3) := (NvT.of_below HB2.out (by omega)).trans (NvT.append (owns_below HR1.out HB2.out) hgrow3 (by have := HB2.out.size; omega)); have HR3 : Hid (w3.ownsRow w0.heap.size 40 1 (.slice (some ⟨g3, 0, none⟩) (ps.length + 1) cap3) (ps.length + 1) (vs ++ [.slice a1 path.length c1])) := hown3; have PV3 : Hid (PathsV w3 (ps ++ [path]) (vs ++ [.slice a1 path.length c1])) := (PV1.out.nvt NA.out).snoc (owns_nvt (owns_base HO2.out (Nat.zero_le _)) (by decide) (NvT.append (owns_below HR1.out HB2.out) hgrow3 (by have := HB2.out.size; omega))); clear hown3 hgrow3)))
    have HP3 : Hid (w3.ownsRow 0 3 1 pv path.length (intsV path)) := owns_nvt HP1.out (by decide) NA.out
    have BT3 : Hid (TBox w3 w.heap.size x a (lenF l) c) := BT1.out.nvt (by decide) NA.out
    have N3 : Hid (NvT 40 w0.heap.size w w3) := N1.out.trans NA.out
    clear HP1 BT1 N1 NA HR1 PV1 HO2 HB2 hW1
    go_loopw [2, 7] (fun lv i wr => ∃ (j : Nat) (done : List (List Int)) (vs2 : List Value) (v2 : Value), j ≤ lenF l ∧ v2 = lv ∧ i = .int .i64 j ∧ wr.ownsRow w0.heap.size 40 1 v2 done.length vs2 ∧ PathsV wr done vs2 ∧ NvT 40 w0.heap.size w wr ∧ TBox wr w.heap.size x a (lenF l) c ∧ wr.ownsRow 0 3 1 pv path.length (intsV path) ∧ done ++ pathsF path j (dropF j l) = ps ++ path :: pathsF path 0 l ∧ done.length + nodesF (dropF j l) ≤ ps.length + 1 + nodesF l) (fun _ i _ => lenF l - (intOf i).toNat)
    case atStart => exact ⟨0, ps ++ [path], _, _, Nat.zero_le _, rfl, rfl, by rw [List.length_append]; exact HR3.out, PV3.out, N3.out, BT3.out, HP3.out, by rw [drop_zero]; simp, by rw [drop_zero]; simp⟩
    case round =>
      obtain ⟨j, done, vs2, v2, hj, rfl, rfl, hR, hPV, hN, hB, hP, hD, hcnt⟩ := hrel
      have t2 := hB.c2
      have HR : Hid (wr.ownsRow w0.heap.size 40 1 v2 done.length vs2) := hR
      have PV : Hid (PathsV wr done vs2) := hPV
      have HN : Hid (NvT 40 w0.heap.size w wr) := hN
      have HB : Hid (TBox wr w.heap.size x a (lenF l) c) := hB
      have HP : Hid (wr.ownsRow 0 3 1 pv path.length (intsV path)) := hP
      have HL : Hid (Below w0.heap.size w0 wr) := HLOW.out.trans hN.low
      clear hR hPV hN hB hP HP3 BT3 N3 HR3 PV3
      by_cases hlt : j < lenF l
      · obtain ⟨b1, o1, rfl, hk1⟩ := HT.out.args.get (by omega)
        obtain ⟨z, a4, c4, l1, kd⟩ := hk1.kid (k := j) hlt
        have KD : Hid (Kid wr l b1 o1 j z a4 c4 l1) := kd.below HL.out
        obtain ⟨B1, O1, s1⟩ := kd.split
        rw [s1, pathsF_node] at hD
        rw [s1, nodesF] at hcnt
        have hless := kd.less
        have HD : Hid (done ++ (((path ++ [(j : Int)]) :: pathsF (path ++ [(j : Int)]) 0 l1) ++ pathsF path (j + 1) (dropF (j + 1) l)) = ps ++ path :: pathsF path 0 l) := hD
        have HK : Hid (TmAt w0 z a4 c4 l1) := kd.at_
        have hsr : w0.heap.size ≤ wr.heap.size := HL.out.size
        clear kd hk1 s1 hD
        go_wp2_with (at_builtin; refine wpList_append_path wr rfl _ _ rfl path pv rfl rfl rfl HP.out (by omega) ?_; intro a5 c5 w5 ho5 hb5; have HO5 : Hid (w5.ownsRow wr.heap.size 3 1 (.slice a5 path.length c5) path.length (intsV path)) := ho5; have HB5 : Hid (Below wr.heap.size wr w5) := hb5; have t5 := (HB.out.below hb5).c2; have kd5 := KD.out.below hb5; have k50 := kd5.name; have k51 := kd5.sym; have k52 := kd5.list; have hbA : Below w5.heap.size w5 (w5.alloc (.cells #[.int .i64 (j : Int)] 3)) := (Below.refl _ w5).alloc (Nat.le_refl _) _; have tA := ((HB.out.below hb5).below hbA).c2; have kdA := kd5.below hbA; have kA0 := kdA.name; have kA1 := kdA.sym; have kA2 := kdA.list; clear ho5 hb5 kd5 kdA hbA)
        have HIH : Hid (∀ (g6 cap6 : Nat) (w6 : World), w6.ownsRow wr.heap.size 3 1 (.slice (some ⟨g6, 0, none⟩) (path.length + 1) cap6) (path.length + 1) (intsV path ++ [.int .i64 (j : Int)]) → Below wr.heap.size wr w6 →
            Calls Try.prog 30 #[.agg #[.string z.1, .int .i64 z.2, .slice a4 (lenF l1) c4], .slice (some ⟨g6, 0, none⟩) (path.length + 1) cap6, v2] w6 fun e w' => ∃ v' vs', e = .returned v' ∧ w'.ownsRow w0.heap.size 40 1 v' (done ++ (path ++ [(j : Int)]) :: pathsF (path ++ [(j : Int)]) 0 l1).length vs' ∧ PathsV w' (done ++ (path ++ [(j : Int)]) :: pathsF (path ++ [(j : Int)]) 0 l1) vs' ∧ NvT 40 w0.heap.size wr w') := fun g6 cap6 w6 hr hb => by
          have h6 := IH.out (nodesF l1) (by omega) w0 z l1 a4 c4 (path ++ [(j : Int)]) (.slice (some ⟨g6, 0, none⟩) (path.length + 1) cap6) v2 done vs2 w6 (Nat.le_refl _) HK.out (HL.out.trans (hb.mono hsr)) (by rw [List.length_append, intsV_snoc]; exact owns_base hr (Nat.zero_le _)) (owns_below HR.out hb) (PV.out.nvt (NvT.of_below hb (Nat.zero_le _))) (by omega) (by rw [List.length_append]; simp; omega)
          refine h6.mono ?_
          rintro e w' ⟨v', vs', he, h1, h2, h3⟩
          exact ⟨v', vs', he, h1, h2, (NvT.of_below hb hsr).trans h3⟩
        go_region_law
          ((first
            | (refine step_append_lies _ (by rfl) (.tmp 30) (.tmp 32) 40 (by rfl) wr.heap.size 3 i0 _ 1 8 Try.underlying40 hi hz0 hz1 hz2 rfl (by decide) (.slice a5 path.length c5) path.length (intsV path) (by rfl) (HO5.out.alloc _) ⟨w5.heap.size, 0, none⟩ 1 1 [.int .i64 (j : Int)] (by rfl) rfl (World.news_of_block (heap_alloc_new w5 _)) (int_one1 _) (by decide) (by omega) (by omega) (by have := HB5.out.size; simp; omega) _ rfl ?_; intro g6 cap6 w6 hown6 hgrow6 _ _; have HB6 : Hid (Below wr.heap.size wr w6) := (HB5.out.alloc HB5.out.size (.cells #[.int .i64 (j : Int)] 3)).drew.grown hgrow6 (by show _ ≤ (w5.alloc _).heap.size; have := HB5.out.size; simp; omega) (fun q e => (owns_cells HO5.out e).1); have t6 := (HB.out.below HB6.out).c2; have kd6 := KD.out.below HB6.out; have k60 := kd6.name; have k61 := kd6.sym; have k62 := kd6.list; have HC6 := HIH.out g6 cap6 w6 hown6 HB6.out; clear hown6 hgrow6 kd6)
            | (go_simp; go_wp2_with (go_at_call 30; refine HC6.mono ?_; rintro e w7 ⟨v7, vs7, rfl, hr7, hp7, hn7⟩; have HR7 : Hid (w7.ownsRow w0.heap.size 40 1 v7 (done ++ (path ++ [(j : Int)]) :: pathsF (path ++ [(j : Int)]) 0 l1).length vs7) := hr7; have HP7 : Hid (PathsV w7 (done ++ (path ++ [(j : Int)]) :: pathsF (path ++ [(j : Int)]) 0 l1) vs7) := hp7; have HN7 : Hid (NvT 40 w0.heap.size wr w7) := hn7; clear hr7 hp7 hn7))
            | fail))
        all_goals
          go_wp2
          go_roundw
          case rel => exact ⟨j + 1, _, _, _, by omega, rfl, by go_num, HR7.out, HP7.out, HN.out.trans HN7.out, HB.out.nvt (by decide) HN7.out, owns_nvt HP.out (by decide) HN7.out, by rw [← HD.out]; simp, by simp only [List.length_append, List.length_cons, pathsF_len]; omega⟩
          case measure => simp [intOf]; omega
      · have e1 : j = lenF l := by omega
        rw [e1, drop_end, pathsF_nil, List.append_nil] at hD
        subst hD
        go_wp2
        go_ret
        exact ⟨v2, vs2, rfl, HR.out, PV.out, HN.out⟩
/-- Places of a term, from nothing on. -/
theorem rplaces_any (x : ByteArray × Int) (l : Fo) (a : Option Addr) (c : Nat) (w : World) (hT : TmAt w x a c l) (hbig : nodesF l ≤ 1048576) :
    Calls Try.prog 30 #[.agg #[.string x.1, .int .i64 x.2, .slice a (lenF l) c], .slice none 0 0, .slice none 0 0] w fun e w' => ∃ v vs, e = .returned v ∧ w'.ownsRow w.heap.size 40 1 v (nodesF l + 1) vs ∧ PathsV w' ((placesT [] x l).map (·.1)) vs ∧ Below w.heap.size w w' := by
  refine (places_all _ w x l a c [] _ _ [] [] w (Nat.le_refl _) hT (Below.refl _ _) (World.ownsRow_nil _ _ _ _) (World.ownsRow_nil _ _ _ _) ⟨rfl, fun i p v h => by simp at h⟩ (by simp; omega) (by simp; omega)).mono ?_
  rintro e w' ⟨v, vs, rfl, hr, hp, hn⟩
  refine ⟨v, vs, rfl, ?_, ?_, hn.low⟩
  · simpa [pathsF_len] using hr
  · simpa [placesT, pathsF] using hp
end Go.Proofs.Ytmhdapgiealmfaa
