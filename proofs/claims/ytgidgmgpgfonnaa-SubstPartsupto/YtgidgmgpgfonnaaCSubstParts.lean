/- For every signature, two lists of binds, term, names and number, of bulk at most 1048576 together, SubstParts returns true: Restrict and Same of package subst answer as the document says of any binds, what Restrict answers is new memory, and what was handed in stays; the condition is the second form's bound. -/
import Derived.BigQuiet
import Derived.Test.YtgidgmgpgfonnaaM9
/- Sets of names: what namesOf and has answer. -/
namespace Go.Proofs.Ytgidgmgpgfonnaa
open Go.RowKit Go.Deep Go.Maps

theorem zero86 (W : World) : (zeroValue 86).run Try.prog W = .ok (.agg #[]) W := by kernel_rfl
/-- Is a name among these? -/
def inL (l : List ByteArray) (s : ByteArray) : Bool := l.any fun b => decide (b = s)
theorem inL_snoc (l : List ByteArray) (s s' : ByteArray) : inL (l ++ [s]) s' = (inL l s' || decide (s = s')) := by simp [inL]
/-- A set of names in memory. -/
structure NmAt (W : World) (b n : Nat) (l : List ByteArray) : Prop where
  ex : ∃ D, MapAt W b n D ∧ ∀ s, lookD D s = if inL l s = true then some (Value.agg #[]) else none
theorem NmAt.below {W W' : World} {b n : Nat} {l : List ByteArray} (h : NmAt W b n l) (hb : Below W.heap.size W W') : NmAt W' b n l := by
  obtain ⟨D, hD, hl⟩ := h.ex
  exact ⟨D, hD.below hb, hl⟩
theorem look_run63 {W : World} {b n : Nat} {l : List ByteArray} (h : NmAt W b n l) (s : ByteArray) (hs : s.size ≤ maxLen) :
    (Instr.lookup 63 (.map (some b)) (.string s) true).run Try.prog W = .ok (.tuple #[.agg #[], .bool (inL l s)]) W := by
  obtain ⟨D, hD, hl⟩ := h.ex
  have h1 := hl s
  obtain ⟨es, clock, hb, F, _, rfl⟩ := hD
  unfold lookD at h1
  rcases fit_look true law9 Try.underlying63 (zero86 W) hb F (key_run s hs) with ⟨hrun, _, hat⟩ | ⟨e0, y, _, _, hrun, hRv, hat, _⟩
  · rw [hat] at h1
    by_cases hm : inL l s = true
    · rw [if_pos hm] at h1; cases h1
    · rw [show inL l s = false by simpa using hm]
      exact hrun
  · have hy : y.1 = .held e0.val := by
      unfold rH at hRv
      rw [← Option.some.inj hRv]
    rw [hat, hy] at h1
    by_cases hm : inL l s = true
    · rw [if_pos hm] at h1
      rw [hm]
      have e : e0.val = .agg #[] := Option.some.inj h1
      rw [e] at hrun
      exact hrun
    · rw [if_neg hm] at h1; cases h1
theorem make_run63 (W : World) (n : Int) : (Instr.makeMap 63 (some (.int .i64 n))).run Try.prog W = .ok (.map (some W.heap.size)) (W.alloc (.map #[] 0)) := by
  simp [Instr.makeMap, run_underlying Try.underlying63, asInt, asIntOf, Result.andThen]
theorem NmAt.put {W : World} {b n : Nat} {l : List ByteArray} (h : NmAt W b n l) (hn : n < maxLen) (s : ByteArray) (hs : s.size ≤ maxLen) :
    ∃ W', (Instr.mapUpdate 63 (.map (some b)) (.string s) (.agg #[])).run Try.prog W = .ok () W' ∧ NmAt W' b (n + 1) (l ++ [s]) ∧ W.grownBy W' (some b) := by
  obtain ⟨D, hD, hl⟩ := h.ex
  obtain ⟨W', h1, h2, h3⟩ := hD.update (val := .agg #[]) law9 Try.underlying63 hn (key_run s hs) rfl
  refine ⟨W', h1, ⟨_, h2, fun s' => ?_⟩, h3⟩
  rw [look_put hD.isMap, hl s', inL_snoc]
  by_cases e : s' = s
  · simp [e]
  · have e' : ¬ s = s' := fun h => e h.symm
    simp [e, e']
set_option maxRecDepth 100000 in
set_option maxHeartbeats 1000000 in
/-- namesOf. -/
theorem names_any (p : Option Addr) (cap : Nat) (ss : List ByteArray) (w : World) (hB : StrsAt w p ss.length ss) (hn : ss.length ≤ 1048576) :
    Calls Try.prog 34 #[.slice p ss.length cap] w fun e w' => e = .returned (.map (some w.heap.size)) ∧ NmAt w' w.heap.size ss.length ss ∧ Below w.heap.size w w' := by
  have hmk := make_run63 w (ss.length : Int)
  have HM := hid (map_made w)
  have HL := hid (alloc_below0 w (.map #[] 0))
  have HB := hid hB
  clear hB
  go_enter Try.func34, Try.ntmps34
  go_wp2_with fail
  clear hmk
  generalize w.alloc (.map #[] 0) = V at HM HL ⊢
  go_loopw [11] (fun iv wr => ∃ i : Nat, i ≤ ss.length ∧ iv = .int .i64 i ∧ NmAt wr w.heap.size i (ss.take i) ∧ Below w.heap.size w wr) (fun iv _ => ss.length - (intOf iv).toNat)
  case atStart => exact ⟨0, Nat.zero_le _, rfl, ⟨_, HM.out, fun s => by simp [look_none, inL]⟩, HL.out⟩
  case round =>
    obtain ⟨i, hi, rfl, htab, hlow⟩ := hrel
    by_cases hlt : i < ss.length
    · obtain ⟨b1, o1, rfl, p0⟩ := (HB.out.below hlow).cells i hlt
      have hfit := HB.out.fits ss[i] (List.getElem_mem hlt)
      have htk : ss.take (i + 1) = ss.take i ++ [ss[i]] := List.take_succ_eq_append_getElem hlt
      obtain ⟨s, hs⟩ : ∃ s, ss[i] = s := ⟨_, rfl⟩
      rw [hs] at p0 hfit htk
      obtain ⟨W', hrun, htab', hgr⟩ := htab.put (by unfold maxLen; omega) s hfit
      have HT' := hid htab'; have HG := hid (map_low hlow hgr); have HTK := hid htk
      clear htab htab' hgr htk hs hlow
      go_wp2_with fail
      refine ⟨⟨i + 1, by omega, rfl, ?_, HG.out⟩, by simp [intOf]; omega⟩
      rw [HTK.out]
      exact HT'.out
    · have he : i = ss.length := by omega
      have ht : ss.take i = ss := List.take_of_length_le (by omega)
      rw [ht, he] at htab
      go_wp2
      go_ret
      exact ⟨rfl, htab, hlow⟩
set_option maxRecDepth 100000 in
set_option maxHeartbeats 1000000 in
/-- has. -/
theorem has_any (b n : Nat) (l : List ByteArray) (s : ByteArray) (w : World) (hN : NmAt w b n l) (hs : s.size ≤ maxLen) :
    Calls Try.prog 35 #[.map (some b), .string s] w fun e w' => e = .returned (.bool (inL l s)) ∧ Below w.heap.size w w' := by
  have hrun := look_run63 hN s hs
  obtain ⟨bv, hbv⟩ : ∃ bv, inL l s = bv := ⟨_, rfl⟩
  rw [hbv] at hrun ⊢
  have HL := hid (alloc_below0 w (.cells #[] 86))
  clear hN hbv
  go_enter Try.func35, Try.ntmps35
  go_wp2_with fail
  go_ret
  exact ⟨rfl, HL.out⟩
end Go.Proofs.Ytgidgmgpgfonnaa
/- Binds under way no two of whose terms share a block; what clone and Restrict answer. -/
namespace Go.Proofs.Ytgidgmgpgfonnaa
open Go.RowKit Go.Deep

/-- Binds under way: a row of its own, the terms' lists elsewhere, each another. -/
structure SepB (B : Nat) (W : World) (v : Value) (ks : List Bk) : Prop where
  row : W.ownsRow B 50 4 v ks.length (bkAll ks)
  gl : GL SepE W (ks.map (·.2)) (fun q => B ≤ q ∧ some q ≠ v.ownBlock)
theorem SepB.nil (B : Nat) (W : World) : SepB B W (.slice none 0 0) [] := ⟨World.ownsRow_nil _ _ _ _, trivial⟩
theorem SepB.below {B : Nat} {W W' : World} {v : Value} {ks : List Bk} (h : SepB B W v ks) (hb : Below W.heap.size W W') : SepB B W' v ks := ⟨owns_below h.row hb, h.gl.keep sepE (fun q _ hlt => hb.block q hlt)⟩
theorem SepB.lt {B : Nat} {W : World} {v : Value} {ks : List Bk} {g : Nat} (h : SepB B W v ks) (hg : v.ownBlock = some g) : g < W.heap.size := by
  obtain ⟨cur, hc⟩ := (owns_cells h.row hg).2
  exact (Array.getElem?_eq_some_iff.1 hc).1
theorem SepB.tm {B : Nat} {W : World} {v : Value} {ks : List Bk} (h : SepB B W v ks) : ∀ k ∈ ks, TmAt W k.2.x k.2.a k.2.c k.2.l := fun k hk => by
  obtain ⟨A, _, hA⟩ := h.gl.mem (List.mem_map_of_mem (f := (·.2)) hk)
  exact SepTm.tm hA
theorem SepB.grow {B : Nat} {W W1 W2 : World} {v v' : Value} {ks : List Bk} {y : Bk} (h : SepB B W v ks) (hW : Below W.heap.size W W1) (hm : SepTm W1 (fun q => W.heap.size ≤ q) y.2.x y.2.a y.2.c y.2.l) (hB : B ≤ W.heap.size)
    (hg : W1.grownBy W2 v.ownBlock) (hat : v'.ownBlock = v.ownBlock ∨ v'.ownBlock = some W1.heap.size) (ho : W2.ownsRow B 50 4 v' (ks ++ [y]).length (bkAll (ks ++ [y]))) : SepB B W2 v' (ks ++ [y]) := by
  refine ⟨ho, ?_⟩
  have hsz := hW.size
  have h1 : GL SepE W2 (ks.map (·.2)) (fun q => (B ≤ q ∧ some q ≠ v.ownBlock) ∧ q < W.heap.size) := by
    refine (h.gl.within sepE).keep sepE (fun q hq hlt => ?_)
    rw [hg.block q (by omega) hq.1.2]
    exact hW.block q hlt
  have h2 : SepTm W2 (fun q => W.heap.size ≤ q ∧ q < W1.heap.size) y.2.x y.2.a y.2.c y.2.l := (SepTm.within hm).keep (fun q hq hlt => hg.block q hlt (fun e => by have := h.lt e.symm; omega))
  have h3 := GL.snoc (E := SepE) (k := y.2) h1 h2 (fun q hq hq2 => by omega)
  rw [List.map_append]
  refine h3.mono fun q hq => ?_
  rcases hq with ⟨⟨hq1, hq2⟩, hq3⟩ | ⟨hq1, hq2⟩
  · refine ⟨hq1, ?_⟩
    rcases hat with e | e
    · rw [e]; exact hq2
    · rw [e]; intro e'; cases e'; omega
  · refine ⟨by omega, ?_⟩
    rcases hat with e | e
    · rw [e]; intro e'; have := h.lt e'.symm; omega
    · rw [e]; intro e'; cases e'; omega
theorem SepB.slice {B : Nat} {W : World} {v : Value} {ks : List Bk} (h : SepB B W v ks) : (v = .slice none 0 0 ∧ ks = []) ∨ ∃ g cap, v = .slice (some ⟨g, 0, none⟩) ks.length cap := by
  rcases h.row.2 with ⟨h1, h2⟩ | ⟨g, cap, cur, h1, _⟩
  · exact .inl ⟨h1, List.eq_nil_of_length_eq_zero h2⟩
  · exact .inr ⟨g, cap, h1⟩
/-- As binds in memory. -/
theorem SepB.binds {B : Nat} {W : World} {ks : List Bk} {P : Option Addr} {c : Nat} (h : SepB B W (.slice P ks.length c) ks) (hf : ∀ k ∈ ks, k.1.size ≤ maxLen) : BindsAt W P ks.length (ks.map bkBn) := by
  have hf' : ∀ x ∈ ks.map bkBn, x.1.size ≤ maxLen := fun x hx => by
    obtain ⟨k, hk, rfl⟩ := List.mem_map.1 hx
    exact hf k hk
  rcases h.slice with ⟨_, rfl⟩ | ⟨g, cap, hv⟩
  · exact ⟨rfl, by simp, fun i hi => absurd hi (by simp), hf'⟩
  · cases hv
    have hc := owns_cap h.row
    refine ⟨by simp, by omega, fun i hi => ?_, hf'⟩
    have hi' : i < ks.length := by simpa using hi
    refine ⟨g, 0, ks[i].2.a, ks[i].2.c, rfl, ?_⟩
    have := row_bd h.row i hi' (h.tm _ (List.getElem_mem hi'))
    simpa using this

theorem Try.size50 : (Try.prog.info? 50).map (·.size) = some 4 := by kernel_rfl
/-- Four cells stored. -/
theorem box50_all {W : World} {B : Nat} {y0 y1 y2 y3 : Value} (h : Box W B 50 #[y0, y1, y2, y3]) (x0 x1 x2 x3 : Value) : Box ((((W.setCell ⟨B, 0, none⟩ x0).setCell ⟨B, 1, none⟩ x1).setCell ⟨B, 2, none⟩ x2).setCell ⟨B, 3, none⟩ x3) B 50 #[x0, x1, x2, x3] := by
  have := block_set (k := 3) (block_set (k := 2) (block_set (k := 1) (block_set (k := 0) h x0) x1) x2) x3
  exact this
theorem sets4_far {W : World} {B q : Nat} (h : q ≠ B) (a b c d : Value) : ((((W.setCell ⟨B, 0, none⟩ a).setCell ⟨B, 1, none⟩ b).setCell ⟨B, 2, none⟩ c).setCell ⟨B, 3, none⟩ d).heap[q]? = W.heap[q]? :=
  (((Below.heap_setCell _ _ _ _ h).trans (Below.heap_setCell _ _ _ _ h)).trans (Below.heap_setCell _ _ _ _ h)).trans (Below.heap_setCell _ _ _ _ h)
theorem sets4_below {n0 : Nat} {w W : World} {B : Nat} (hb : Below n0 w W) (h : n0 ≤ B) (a b c d : Value) : Below n0 w ((((W.setCell ⟨B, 0, none⟩ a).setCell ⟨B, 1, none⟩ b).setCell ⟨B, 2, none⟩ c).setCell ⟨B, 3, none⟩ d) :=
  (((hb.setCell (p := ⟨B, 0, none⟩) h _).setCell (p := ⟨B, 1, none⟩) h _).setCell (p := ⟨B, 2, none⟩) h _).setCell (p := ⟨B, 3, none⟩) h _
set_option maxRecDepth 100000 in
set_option maxHeartbeats 4000000 in
/-- clone of a bind. -/
theorem cloneb_any (vn : ByteArray) (x : ByteArray × Int) (l : Fo) (a : Option Addr) (c : Nat) (w : World) (hT : TmAt w x a c l) :
    Calls Try.prog 36 #[.agg #[.string vn, .string x.1, .int .i64 x.2, .slice a (lenF l) c]] w fun e w' => ∃ a' c', e = .returned (.agg #[.string vn, .string x.1, .int .i64 x.2, .slice a' (lenF l) c']) ∧ SepTm w' (fun q => w.heap.size ≤ q) x a' c' l ∧ Below w.heap.size w w' := by
  obtain ⟨W0, hW0⟩ : ∃ W0, (w.alloc (.cells #[.string vn, .string x.1, .int .i64 x.2, .slice a (lenF l) c] 50)).alloc (.cells #[.string ⟨#[]⟩, .string ⟨#[]⟩, .int .i64 0, .slice none 0 0] 50) = W0 := ⟨_, rfl⟩
  have hb0 : Below w.heap.size w W0 := by rw [← hW0]; exact ((Below.refl _ w).alloc (Nat.le_refl _) _).alloc (by simp) _
  have b1 : Box W0 w.heap.size 50 #[.string vn, .string x.1, .int .i64 x.2, .slice a (lenF l) c] := by rw [← hW0]; exact (Below.heap_alloc _ _ _ (by simp)).trans (World.alloc_heap_new w _)
  have b2 : Box W0 (w.heap.size + 1) 50 #[.string ⟨#[]⟩, .string ⟨#[]⟩, .int .i64 0, .slice none 0 0] := by
    have := World.alloc_heap_new (w.alloc (.cells #[.string vn, .string x.1, .int .i64 x.2, .slice a (lenF l) c] 50)) (.cells #[.string ⟨#[]⟩, .string ⟨#[]⟩, .int .i64 0, .slice none 0 0] 50)
    rw [World.size_alloc] at this
    rw [← hW0]; exact this
  have hsz : W0.heap.size = w.heap.size + 2 := by rw [← hW0]; simp
  have HC := hid fun (W : World) (hW : Below w.heap.size w W) => clone_any x l a c W (hT.below hW)
  have HB0 := hid hb0; have HX := hid b1; have HY := hid b2; have HSZ := hid hsz
  have z0 := b1.c 0; have z1 := b1.c 1; have z2 := b1.c 2; have z3 := b1.c 3
  clear hT b1 b2 hb0 hsz
  go_enter Try.func36, Try.ntmps36
  go_upto_region 1 with fail
  clear hW0
  go_region_with ((first
    | (go_at_call 60; refine Calls.mono (HC.out _ HB0.out.drew) ?_; rintro e w1 ⟨a', c', rfl, hs1, hb1, _⟩; have hb1' : Below W0.heap.size W0 w1 := ((Below.refl _ W0).drew).trans hb1; have HS1 : Hid (SepTm w1 (fun q => w.heap.size + 2 ≤ q) x a' c' l) := hid (hs1.mono (fun q hq => by have := HSZ.out; simp at hq; omega)); have HB1 := hid (HB0.out.trans (hb1'.mono HB0.out.size)); have X1 := HX.out.below hb1'; have Y1 := HY.out.below hb1'; have HY1 := hid Y1; have y0 := X1.c 0; have r0 := Y1.c 0; have r1 := Y1.c 1; have r2 := Y1.c 2; have r3 := Y1.c 3; have g0 := Y1.f 0; have g1 := Y1.f 1; have g2 := Y1.f 2; have g3 := Y1.f 3; clear hs1 hb1 hb1' X1 Y1)
    | fail))
  all_goals
    go_wp2_with fail
    refine bodyPost_ret (results_cell_row rfl _ _ (w.heap.size + 1) 50 #[.string vn, .string x.1, .int .i64 x.2, .slice a' (lenF l) c'] (0, 0) _ rfl (box50_all HY1.out _ _ _ _) Try.underlying50 rfl Try.size50) rfl ?_
    refine ⟨a', c', rfl, ?_, sets4_below HB1.out (by omega) _ _ _ _⟩
    exact (HS1.out.keep (fun q hq _ => sets4_far (by omega) _ _ _ _)).mono (fun q hq => by omega)
set_option maxRecDepth 100000 in
set_option maxHeartbeats 4000000 in
/-- Restrict. -/
theorem restrict_any (p : Option Addr) (cap : Nat) (bs : List Bn) (pn : Option Addr) (cn : Nat) (ns : List ByteArray) (w : World) (hB : BindsAt w p bs.length bs) (hN : StrsAt w pn ns.length ns) (hn : bs.length ≤ 1048575) (hm : ns.length ≤ 1048576) :
    Calls Try.prog 17 #[.slice p bs.length cap, .slice pn ns.length cn] w fun e w' => ∃ v ks, e = .returned v ∧ SepB w.heap.size w' v ks ∧ ks.map bkBn = bs.filter (fun b => inL ns b.1) ∧ Below w.heap.size w w' := by
  have HB := hid hB
  have HNM := hid (names_any pn cn ns w hN hm)
  have hmax : maxLen = 9223372036854775807 := rfl
  clear hB hN
  go_enter Try.func17, Try.ntmps17
  go_wp2_with fail
  refine HNM.out.mono ?_
  rintro e w1 ⟨rfl, hnm, hb1⟩
  have HN1 := hid hnm; have HB1 := hid hb1
  clear hnm hb1 HNM
  go_wp2_with fail
  go_loopw [6, 13] (fun ov iv wr => ∃ (j : Nat) (v : Value) (ks : List Bk), j ≤ bs.length ∧ v = ov ∧ iv = .int .i64 j ∧ SepB w.heap.size wr v ks ∧ NmAt wr w.heap.size ns.length ns ∧ (∀ g, v.ownBlock = some g → w1.heap.size ≤ g) ∧ ks.map bkBn = (bs.take j).filter (fun b => inL ns b.1) ∧ Below w.heap.size w wr ∧ w1.heap.size ≤ wr.heap.size) (fun _ iv _ => bs.length - (intOf iv).toNat)
  case atStart => exact ⟨0, _, [], Nat.zero_le _, rfl, rfl, SepB.nil _ _, HN1.out, fun g hg => by simp [Value.ownBlock] at hg, by simp, HB1.out, Nat.le_refl _⟩
  case round =>
    obtain ⟨j, ov, ks, hj, rfl, rfl, hL, hnm, hown, hks, hlow, hsz1⟩ := hrel
    have HL := hid hL; have HK := hid hks; have HW := hid hlow; have HN := hid hnm; have HO := hid hown
    have hkl : ks.length ≤ j := by
      have := congrArg List.length hks
      rw [List.length_map] at this
      have h2 := List.length_filter_le (fun b : Bn => inL ns b.1) (bs.take j)
      rw [List.length_take] at h2
      omega
    have HZ1 := hid hsz1
    clear hL hks hlow hnm hown hsz1
    by_cases hlt : j < bs.length
    · obtain ⟨b1, o1, a1, c1, rfl, hbd⟩ := (HB.out.below HW.out).cells j hlt
      have hfit := HB.out.fits bs[j] (List.getElem_mem hlt)
      have htk : bs.take (j + 1) = bs.take j ++ [bs[j]] := List.take_succ_eq_append_getElem hlt
      obtain ⟨⟨vn, ⟨x, l⟩⟩, hy⟩ : ∃ y, bs[j] = y := ⟨_, rfl⟩
      rw [hy] at hbd htk hfit
      have HTK := hid htk
      have HBD := hid hbd
      have p0 := hbd.var; have p1 := hbd.name; have p2 := hbd.sym; have p3 := hbd.list
      dsimp only at p0 p1 p2 p3 hfit
      have bx := alloc_below0 wr (.cells #[.string vn, .string x.1, .int .i64 x.2, .slice a1 (lenF l) c1] 50)
      have HBX := hid bx
      have BX : Hid (Box (wr.alloc (.cells #[.string vn, .string x.1, .int .i64 x.2, .slice a1 (lenF l) c1] 50)) wr.heap.size 50 #[.string vn, .string x.1, .int .i64 x.2, .slice a1 (lenF l) c1]) := hid (Box.new wr 50 _)
      have HH := hid (has_any w.heap.size ns.length ns vn _ (HN.out.below bx) hfit)
      have hwz := HW.out.size
      clear hbd hy htk bx
      go_wp2_with fail
      clear p0 p1 p2 p3
      generalize wr.alloc (.cells #[.string vn, .string x.1, .int .i64 x.2, .slice a1 (lenF l) c1] 50) = V at HBX BX HH ⊢
      refine HH.out.mono ?_
      rintro e w2 ⟨rfl, hb2⟩
      have HB2 := hid (HBX.out.trans (hb2.mono HBX.out.size))
      have BX2 := BX.out.below hb2
      have q0 := BX2.c 0; have q1 := BX2.c 1; have q2 := BX2.c 2; have q3 := BX2.c 3
      clear hb2 BX2 BX HBX HH
      by_cases hin : inL ns vn = true
      · rw [hin]
        have HIN := hid hin
        clear hin
        have HC := hid (cloneb_any vn x l a1 c1 w2 (HBD.out.tm.below HB2.out))
        go_wp2_with fail
        refine HC.out.mono ?_
        rintro e w3 ⟨a', c', rfl, hs3, hb3⟩
        have HS3 : Hid (SepTm w3 (fun q => wr.heap.size ≤ q) x a' c' l) := hid (hs3.mono (fun q hq => by have := HB2.out.size; omega))
        have HB3 := hid (HB2.out.trans (hb3.mono HB2.out.size))
        have by3 := alloc_below0 w3 (.cells #[.string vn, .string x.1, .int .i64 x.2, .slice a' (lenF l) c'] 50)
        have HB4 := hid (HB3.out.trans (by3.mono HB3.out.size))
        have hz4 : w3.heap.size + 1 = (w3.alloc (.cells #[.string vn, .string x.1, .int .i64 x.2, .slice a' (lenF l) c'] 50)).heap.size := by simp
        have HZ4 := hid hz4
        clear hs3 hb3 q0 q1 q2 q3 HC by3 hz4
        go_wp2_with (at_builtin; refine wpList_append_bk rfl _ _ rfl w.heap.size ov ks rfl (owns_below HL.out.row HB4.out) w3.heap.size (vn, ⟨x, l, a', c'⟩) rfl (World.news_of_block (heap_alloc_new w3 _)) (by omega) (by have := HB4.out.size; omega) ?_; intro g5 cap5 w5 hown5 hgrow5 hat5; have HO5 := hid hown5; have HG5 := hid hgrow5; have HA5 := hid hat5; clear hown5 hgrow5 hat5)
        go_roundw
        case rel =>
          have hgr : SepB w.heap.size w5 (.slice (some ⟨g5, 0, none⟩) (ks.length + 1) cap5) (ks ++ [(vn, ⟨x, l, a', c'⟩)]) := HL.out.grow HB4.out (HS3.out.below (alloc_below0 w3 _)) hwz HG5.out (HA5.out.imp (fun e => e) (fun e => by rw [e]; rfl)) HO5.out
          have hnm5 : NmAt w5 w.heap.size ns.length ns := by
            obtain ⟨D, hD, hl⟩ := (HN.out.below HB4.out).ex
            exact ⟨D, hD.kept HG5.out (fun e => by have := HO.out _ e.symm; have := HB1.out.size; obtain ⟨es, clock, hb, _⟩ := HN1.out.ex.choose_spec.1; have := (Array.getElem?_eq_some_iff.1 hb).1; omega), hl⟩
          refine ⟨j + 1, _, _, by omega, rfl, by go_num, hgr, hnm5, fun g hg => ?_, by rw [HTK.out, List.filter_append, ← HK.out]; simp [bkBn, Kv.tn, HIN.out], HW.out.trans ((HB4.out.mono hwz).grown HG5.out (by rw [← HZ4.out]; have := HB3.out.size; omega) (fun k e => (owns_cells HL.out.row e).1)), ?_⟩
          · have hg' : g5 = g := Option.some.inj hg
            subst hg'
            rcases HA5.out with e | e
            · exact HO.out _ e.symm
            · rw [e, ← HZ4.out]; have := HB3.out.size; have := HZ1.out; omega
          · have := HG5.out.size; rw [← HZ4.out] at this; have := HB3.out.size; have := HZ1.out; omega
        case measure => simp [intOf]; omega
      · have hin' : inL ns vn = false := by simpa using hin
        rw [hin']
        have HIN := hid hin
        clear hin
        go_wp2_with fail
        go_roundw
        case rel => exact ⟨j + 1, _, ks, by omega, rfl, by go_num, HL.out.below HB2.out, HN.out.below HB2.out, HO.out, by rw [HTK.out, List.filter_append, ← HK.out]; simp [HIN.out], HW.out.trans (HB2.out.mono hwz), Nat.le_trans HZ1.out HB2.out.size⟩
        case measure => simp [intOf]; omega
    · have hjl : j = bs.length := by omega
      subst hjl
      have hks' : ks.map bkBn = bs.filter (fun b => inL ns b.1) := by have := HK.out; rwa [List.take_of_length_le (Nat.le_refl _)] at this
      have HK2 := hid hks'
      clear hks'
      go_wp2
      go_ret
      exact ⟨ov, ks, rfl, HL.out, HK2.out, HW.out⟩
end Go.Proofs.Ytgidgmgpgfonnaa
/- What spoil of binds does. -/
namespace Go.Proofs.Ytgidgmgpgfonnaa
open Go.RowKit Go.Deep

/-- What spoil has come to: the binds from this place on lie as they lay. -/
structure SpSt (B : Nat) (w : World) (g : Nat) (ks : List Bk) (j : Nat) (W : World) : Prop where
  fr : Fr (fun q => B ≤ q) w W
  cells : ∀ m u, j * 4 ≤ m → (bkAll ks)[m]? = some u → W.cell? ⟨g, m, none⟩ = some u
  row : ∃ cur, W.heap[g]? = some (.cells cur 50 (0, 0))
  gl : GL SepE W ((ks.drop j).map (·.2)) (fun q => B ≤ q ∧ q ≠ g)
theorem set_row {W : World} {g i : Nat} {v : Value} (h : ∃ cur, W.heap[g]? = some (.cells cur 50 (0, 0))) : ∃ cur, (W.setCell ⟨g, i, none⟩ v).heap[g]? = some (.cells cur 50 (0, 0)) := by
  obtain ⟨cur, h⟩ := h
  exact ⟨_, block_set h v⟩
theorem set_cell_other {W : World} {g i m : Nat} {v u : Value} (hne : i ≠ m) (h : W.cell? ⟨g, m, none⟩ = some u) : (W.setCell ⟨g, i, none⟩ v).cell? ⟨g, m, none⟩ = some u := by
  have hlt := World.block_lt_of_cell? W _ h
  cases ho : W.heap[g]? with
  | none => simp [World.cell?, ho] at h
  | some o =>
    cases o with
    | cells cs t fr =>
      have := block_set (k := i) ho v
      simp only [World.cell?, this]
      simp only [World.cell?, ho] at h
      simp at h ⊢
      rw [Array.getElem?_setIfInBounds_ne hne]
      exact h
    | map es c => simp [World.cell?, ho] at h
    | _ => simp [World.cell?, ho] at h
theorem SpSt.step {B : Nat} {w : World} {g : Nat} {ks : List Bk} {j : Nat} {W W1 : World} {A1 A2 : Bl} (h : SpSt B w g ks j W) (h1 : ∀ q, A1 q → B ≤ q ∧ q ≠ g) (h2 : ∀ q, A2 q → (B ≤ q ∧ q ≠ g) ∧ ¬ A1 q) (hgl : GL SepE W ((ks.drop (j + 1)).map (·.2)) A2) (hf : Fr A1 W W1) (hB : B ≤ g) (v : Value) :
    SpSt B w g ks (j + 1) (W1.setCell ⟨g, j * 4, none⟩ v) := by
  obtain ⟨cur, hrow⟩ := h.row
  have hlt := (Array.getElem?_eq_some_iff.1 hrow).1
  have hg1 : W1.heap[g]? = W.heap[g]? := hf.same g hlt (fun ha => (h1 g ha).2 rfl)
  refine ⟨?_, fun m u hm hu => ?_, set_row ⟨cur, hg1.trans hrow⟩, ?_⟩
  · refine h.fr.trans ((hf.mono (fun q hq => (h1 q hq).1)).trans ?_)
    exact ⟨(Below.refl _ W1).setCell (p := ⟨g, j * 4, none⟩) (Nat.zero_le _) v, fun q _ hq => Below.heap_setCell W1 _ _ q (fun e => hq (by rw [e]; exact hB))⟩
  · have hc := h.cells m u (by omega) hu
    refine set_cell_other (by omega) ?_
    rw [World.cell?_of_block (w := W) (a := ⟨g, m, none⟩) hg1]
    exact hc
  · have k1 : GL SepE W1 ((ks.drop (j + 1)).map (·.2)) A2 := hgl.keep sepE (fun q hq hlt => hf.same q hlt (h2 q hq).2)
    have k2 : GL SepE (W1.setCell ⟨g, j * 4, none⟩ v) ((ks.drop (j + 1)).map (·.2)) A2 := k1.keep sepE (fun q hq _ => Below.heap_setCell W1 _ _ q (h2 q hq).1.2)
    exact k2.mono (fun q hq => (h2 q hq).1)
set_option maxRecDepth 100000 in
set_option maxHeartbeats 4000000 in
theorem spoilb_any (B : Nat) (v : Value) (ks : List Bk) (w : World) (hS : SepB B w v ks) : Calls Try.prog 21 #[v] w fun e w' => (∃ u, e = .returned u) ∧ Fr (fun q => B ≤ q) w w' := by
  rcases hS.slice with ⟨rfl, rfl⟩ | ⟨g, cap, rfl⟩
  · go_enter Try.func21, Try.ntmps21
    go_wp2_with fail
    go_loopw [2] (fun iv wr => iv = .int .i64 0 ∧ wr = w) (fun _ _ => 0)
    case atStart => exact ⟨rfl, rfl⟩
    case round =>
      obtain ⟨rfl, rfl⟩ := hrel
      go_wp2
      go_end0
      exact ⟨⟨_, rfl⟩, Fr.refl _ _⟩
  · have hcap := owns_cap hS.row
    have hBg : B ≤ g := (owns_cells hS.row rfl).1
    have hat := owns_at hS.row
    have S0 : Hid (SpSt B w g ks 0 w) := hid ⟨Fr.refl _ _, fun m u _ hu => by have := hat m u hu; rwa [Nat.zero_add] at this, (owns_cells hS.row rfl).2, hS.gl.mono (fun q hq => ⟨hq.1, fun e => hq.2 (by rw [e]; rfl)⟩)⟩
    have hmax : maxLen = 9223372036854775807 := rfl
    have hn : ks.length ≤ 9223372036854775807 := by omega
    clear hS hat
    go_enter Try.func21, Try.ntmps21
    go_wp2_with fail
    go_loopw [2] (fun iv wr => ∃ j : Nat, j ≤ ks.length ∧ iv = .int .i64 j ∧ SpSt B w g ks j wr) (fun iv _ => ks.length - (intOf iv).toNat)
    case atStart => exact ⟨0, Nat.zero_le _, rfl, S0.out⟩
    case round =>
      obtain ⟨j, hj, rfl, hst⟩ := hrel
      have HST := hid hst
      by_cases hlt : j < ks.length
      · have hgl := hst.gl
        rw [List.drop_eq_getElem_cons hlt] at hgl
        obtain ⟨A1, A2, h1, h2, hE, hr⟩ := hgl
        have c1 := hst.cells (j * 4 + 1) _ (by omega) (by rw [bkAll_at ks j hlt 1 (by decide)]; rfl)
        have c2 := hst.cells (j * 4 + 2) _ (by omega) (by rw [bkAll_at ks j hlt 2 (by decide)]; rfl)
        have c3 := hst.cells (j * 4 + 3) _ (by omega) (by rw [bkAll_at ks j hlt 3 (by decide)]; rfl)
        have c0 := hst.cells (j * 4) _ (by omega) (by rw [show j * 4 = j * 4 + 0 from rfl, bkAll_at ks j hlt 0 (by decide)]; rfl)
        obtain ⟨cur, hrow⟩ := hst.row
        have hglt := (Array.getElem?_eq_some_iff.1 hrow).1
        obtain ⟨⟨vn, ⟨x, l, a, c⟩⟩, hy⟩ : ∃ y, ks[j] = y := ⟨_, rfl⟩
        rw [hy] at c0 c1 c2 c3 hE
        have HC := hid (spoil_any A1 x l a c wr hE)
        have H1 := hid h1; have H2 := hid h2; have HR := hid hr
        dsimp only at c0 c1 c2 c3
        have hj0 : (0 : Int) ≤ (j : Int) := by omega
        have hjn : (j : Int) < (ks.length : Int) := by omega
        have HROW := hid hrow
        have C0 := hid c0
        clear hst hE hr h1 h2 hy hrow c0
        go_wp2_with fail
        refine HC.out.mono ?_
        rintro e w1 ⟨⟨u, rfl⟩, hf⟩
        have hg1 : w1.heap[g]? = wr.heap[g]? := hf.same g hglt (fun ha => (H1.out g ha).2 rfl)
        have d0 : w1.cell? ⟨g, j * 4, none⟩ = some (.string vn) := by rw [World.cell?_of_block (w := wr) (a := ⟨g, j * 4, none⟩) hg1]; exact C0.out
        have f0 : w1.frozen? ⟨g, j * 4, none⟩ = false := row_frozen (hg1.trans HROW.out)
        have HF := hid hf
        clear hf hg1 HC c1 c2 c3
        go_wp2_with fail
        go_roundw
        case rel => exact ⟨j + 1, by omega, by go_num, HST.out.step H1.out H2.out HR.out HF.out hBg _⟩
        case measure => simp [intOf]; omega
      · clear hst
        go_wp2
        go_end0
        exact ⟨⟨_, rfl⟩, HST.out.fr⟩
end Go.Proofs.Ytgidgmgpgfonnaa
/- What Same of binds answers, the program's and the document's. -/
namespace Go.Proofs.Ytgidgmgpgfonnaa
open Go.RowKit Go.Deep

/-- Written alike. -/
def same1 (x y : Bn) : Bool := (x.1.toList == y.1.toList) && (cmpN x.2 y.2 == 0)
def sameA : List Bn → List Bn → Bool
  | [], [] => true
  | x :: r, y :: s => same1 x y && sameA r s
  | _, _ => false
theorem sameA_len : ∀ {a b : List Bn}, a.length ≠ b.length → sameA a b = false
  | [], [], h => absurd rfl h
  | [], _ :: _, _ => rfl
  | _ :: _, [], _ => rfl
  | x :: r, y :: s, h => by
    unfold sameA
    rw [sameA_len (by simpa using h), Bool.and_false]
theorem sameA_self : ∀ a : List Bn, sameA a a = true
  | [] => rfl
  | x :: r => by
    unfold sameA same1
    have h : cmpN x.2 x.2 = 0 := by have := cmpN_anti x.2 x.2; omega
    rw [sameA_self r, h]
    simp
theorem sameA_step {a b : List Bn} {j : Nat} (ha : j < a.length) (hb : j < b.length) : sameA (a.drop j) (b.drop j) = (same1 a[j] b[j] && sameA (a.drop (j + 1)) (b.drop (j + 1))) := by
  rw [List.drop_eq_getElem_cons ha, List.drop_eq_getElem_cons hb]
  rfl
set_option maxRecDepth 100000 in
set_option maxHeartbeats 2000000 in
/-- Same of two terms. -/
theorem tsame_any (x y : ByteArray × Int) (l m : Fo) (a b : Option Addr) (c d : Nat) (w : World) (hS : TmAt w x a c l) (hT : TmAt w y b d m) :
    Calls Try.prog 39 #[.agg #[.string x.1, .int .i64 x.2, .slice a (lenF l) c], .agg #[.string y.1, .int .i64 y.2, .slice b (lenF m) d]] w fun e w' => e = .returned (.bool (cmpN (x, l) (y, m) == 0)) ∧ Below w.heap.size w w' := by
  have PA := hid (Pair.new w x a (lenF l) c y b (lenF m) d)
  have HC := hid (compare_all (nodesF l) x y a b c d l m _ (Nat.le_refl _) (hS.below PA.out.low) (hT.below PA.out.low))
  have t0 := PA.out.l.c0; have t1 := PA.out.l.c1; have t2 := PA.out.l.c2
  have r0 := PA.out.r.c0; have r1 := PA.out.r.c1; have r2 := PA.out.r.c2
  obtain ⟨cv, hcv⟩ : ∃ cv, cmp1 x y (lenF l) (lenF m) (cmpF l m) = cv := ⟨_, rfl⟩
  have hcv' : cmpN (x, l) (y, m) = cv := hcv
  rw [hcv] at HC
  rw [hcv']
  clear hS hT hcv hcv'
  go_enter Try.func39, Try.ntmps39
  go_wp2_with fail
  refine HC.out.mono ?_
  rintro e w1 ⟨rfl, hg1⟩
  have HL := hid (PA.out.low.trans (hg1.below.mono PA.out.low.size))
  clear hg1 HC
  go_wp2_with fail
  go_ret
  exact ⟨rfl, HL.out⟩
set_option maxRecDepth 100000 in
set_option maxHeartbeats 2000000 in
/-- Same's closure. -/
theorem same1_any (vx vy : ByteArray) (x y : ByteArray × Int) (l m : Fo) (a b : Option Addr) (c d : Nat) (w : World) (hS : TmAt w x a c l) (hT : TmAt w y b d m) :
    Calls Try.prog 38 #[.agg #[.string vx, .string x.1, .int .i64 x.2, .slice a (lenF l) c], .agg #[.string vy, .string y.1, .int .i64 y.2, .slice b (lenF m) d]] w fun e w' => e = .returned (.bool (same1 (vx, (x, l)) (vy, (y, m)))) ∧ Below w.heap.size w w' := by
  have b1 := alloc_below0 w (.cells #[.string vx, .string x.1, .int .i64 x.2, .slice a (lenF l) c] 50)
  have b2 := alloc_below0 (w.alloc (.cells #[.string vx, .string x.1, .int .i64 x.2, .slice a (lenF l) c] 50)) (.cells #[.string vy, .string y.1, .int .i64 y.2, .slice b (lenF m) d] 50)
  have L2 := hid (b1.trans (b2.mono b1.size))
  have X1 := (Box.new w 50 #[.string vx, .string x.1, .int .i64 x.2, .slice a (lenF l) c]).below b2
  have Y1 := Box.new (w.alloc (.cells #[.string vx, .string x.1, .int .i64 x.2, .slice a (lenF l) c] 50)) 50 #[.string vy, .string y.1, .int .i64 y.2, .slice b (lenF m) d]
  rw [World.size_alloc] at Y1
  have HC := hid (tsame_any x y l m a b c d _ (hS.below L2.out) (hT.below L2.out))
  have t0 := X1.c 0; have t1 := X1.c 1; have t2 := X1.c 2; have t3 := X1.c 3
  have r0 := Y1.c 0; have r1 := Y1.c 1; have r2 := Y1.c 2; have r3 := Y1.c 3
  obtain ⟨cv, hcv⟩ : ∃ cv, (cmpN (x, l) (y, m) == 0) = cv := ⟨_, rfl⟩
  unfold same1
  dsimp only
  rw [hcv] at HC ⊢
  clear hS hT hcv b1 b2 X1 Y1
  go_enter Try.func38, Try.ntmps38
  by_cases he : vx.toList = vy.toList
  · have heb : (vx.toList == vy.toList) = true := by simp [he]
    rw [heb]
    go_wp2_with fail
    refine HC.out.mono ?_
    rintro e w1 ⟨rfl, hb1⟩
    have HL := hid (L2.out.trans (hb1.mono L2.out.size))
    clear hb1 HC
    go_wp2_with fail
    go_ret
    exact ⟨by rw [Bool.true_and] <;> rfl, HL.out⟩
  · have heb : (vx.toList == vy.toList) = false := by simp [he]
    rw [heb]
    go_wp2_with fail
    go_ret
    exact ⟨rfl, L2.out⟩
set_option maxRecDepth 100000 in
set_option maxHeartbeats 4000000 in
/-- The library's EqualFunc with it. -/
theorem eqfunc_any (pa : Option Addr) (ca : Nat) (as' : List Bn) (pb : Option Addr) (cb : Nat) (bs : List Bn) (w : World) (hA : BindsAt w pa as'.length as') (hB : BindsAt w pb bs.length bs) :
    Calls Try.prog 37 #[.slice pa as'.length ca, .slice pb bs.length cb, .func (.func 38) #[] #[]] w fun e w' => e = .returned (.bool (sameA as' bs)) ∧ Below w.heap.size w w' := by
  have HA := hid hA; have HB := hid hB
  have hna : as'.length ≤ 9223372036854775807 := hA.small
  have hnb : bs.length ≤ 9223372036854775807 := hB.small
  clear hA hB
  by_cases hl : as'.length = bs.length
  · obtain ⟨R, hR⟩ : ∃ R, sameA as' bs = R := ⟨_, rfl⟩
    rw [hR]
    have HR := hid hR
    have HLN := hid hl
    obtain ⟨n, hn⟩ : ∃ n, bs.length = n := ⟨_, rfl⟩
    rw [hn] at hl hnb ⊢
    rw [hl]
    have HN := hid hn
    clear hR hn hl hna
    go_enter Try.func37, Try.ntmps37
    go_wp2_with fail
    go_loopw [7, 8, 9, 17] (fun _ _ _ iv wr => ∃ j : Nat, j ≤ n ∧ iv = .int .i64 j ∧ sameA (as'.drop j) (bs.drop j) = R ∧ Below w.heap.size w wr) (fun _ _ _ iv _ => n - (intOf iv).toNat)
    case atStart => exact ⟨0, Nat.zero_le _, rfl, HR.out, Below.refl _ _⟩
    case round =>
      obtain ⟨j, hj, rfl, hs, hlow⟩ := hrel
      have HW := hid hlow
      clear hlow
      by_cases hlt : j < n
      · have hja : j < as'.length := by rw [HLN.out, HN.out]; exact hlt
        have hjb : j < bs.length := by rw [HN.out]; exact hlt
        rw [sameA_step hja hjb] at hs
        obtain ⟨b1, o1, a1, c1, rfl, hbd⟩ := (HA.out.below HW.out).cells j hja
        obtain ⟨b2, o2, a2, c2, rfl, hbd2⟩ := (HB.out.below HW.out).cells j hjb
        obtain ⟨⟨vx, ⟨x, l⟩⟩, hy⟩ : ∃ y, as'[j] = y := ⟨_, rfl⟩
        obtain ⟨⟨vy, ⟨y, m⟩⟩, hy2⟩ : ∃ y, bs[j] = y := ⟨_, rfl⟩
        rw [hy] at hbd hs
        rw [hy2] at hbd2 hs
        have HS := hid hs
        have x1 := alloc_below0 wr (.cells #[.string vx, .string x.1, .int .i64 x.2, .slice a1 (lenF l) c1] 50)
        have x2 := alloc_below0 (wr.alloc (.cells #[.string vx, .string x.1, .int .i64 x.2, .slice a1 (lenF l) c1] 50)) (.cells #[.string vy, .string y.1, .int .i64 y.2, .slice a2 (lenF m) c2] 50)
        have L2 := hid (x1.trans (x2.mono x1.size))
        have HC := hid (same1_any vx vy x y l m a1 a2 c1 c2 _ (hbd.tm.below L2.out) (hbd2.tm.below L2.out))
        have p0 := hbd.var; have p1 := hbd.name; have p2 := hbd.sym; have p3 := hbd.list
        have hd2 := hbd2.below x1
        have q0 := hd2.var; have q1 := hd2.name; have q2 := hd2.sym; have q3 := hd2.list
        dsimp only at p0 p1 p2 p3 q0 q1 q2 q3
        have hj0 : (0 : Int) ≤ (j : Int) := by omega
        have hjn : (j : Int) < (n : Int) := by omega
        obtain ⟨cv, hcv⟩ : ∃ cv, same1 (vx, (x, l)) (vy, (y, m)) = cv := ⟨_, rfl⟩
        rw [hcv] at HC HS
        clear hbd hbd2 hs hy hy2 x1 x2 hd2 hcv hja hjb
        go_wp2_with fail
        refine HC.out.mono ?_
        rintro e w1 ⟨rfl, hb1⟩
        have HW1 := hid (HW.out.trans ((L2.out.trans (hb1.mono L2.out.size)).mono HW.out.size))
        clear hb1 HC p0 p1 p2 p3 q0 q1 q2 q3
        cases cv with
        | false =>
          have hR := HS.out
          rw [Bool.false_and] at hR
          subst hR
          clear HS
          go_wp2
          go_ret
          exact ⟨rfl, HW1.out⟩
        | true =>
          have hR := HS.out
          rw [Bool.true_and] at hR
          have HS2 := hid hR
          clear HS hR
          go_wp2
          go_roundw
          case rel => exact ⟨j + 1, by omega, by go_num, HS2.out, HW1.out⟩
          case measure => simp [intOf]; omega
      · have hd : as'.drop j = [] := List.drop_eq_nil_of_le (by rw [HLN.out, HN.out]; omega)
        have hd2 : bs.drop j = [] := List.drop_eq_nil_of_le (by rw [HN.out]; omega)
        rw [hd, hd2] at hs
        have hR : R = true := hs.symm
        subst hR
        clear hs hd hd2
        go_wp2
        go_ret
        exact ⟨rfl, HW.out⟩
  · rw [sameA_len hl]
    have hl2 : ¬ ((as'.length : Int) = (bs.length : Int)) := by omega
    have hl3 : ((as'.length : Int) == (bs.length : Int)) = false := beq_eq_false_iff_ne.2 hl2
    go_enter Try.func37, Try.ntmps37
    go_wp2
    go_ret
    exact ⟨rfl, Below.refl _ _⟩
set_option maxRecDepth 100000 in
set_option maxHeartbeats 2000000 in
/-- Same of binds. -/
theorem psame_any (pa : Option Addr) (ca : Nat) (as' : List Bn) (pb : Option Addr) (cb : Nat) (bs : List Bn) (w : World) (hA : BindsAt w pa as'.length as') (hB : BindsAt w pb bs.length bs) :
    Calls Try.prog 18 #[.slice pa as'.length ca, .slice pb bs.length cb] w fun e w' => e = .returned (.bool (sameA as' bs)) ∧ Below w.heap.size w w' := by
  have HC := hid (eqfunc_any pa ca as' pb cb bs w hA hB)
  obtain ⟨R, hR⟩ : ∃ R, sameA as' bs = R := ⟨_, rfl⟩
  rw [hR] at HC ⊢
  clear hA hB hR
  go_enter Try.func18, Try.ntmps18
  go_wp2_with fail
  refine HC.out.mono ?_
  rintro e w1 ⟨rfl, hb1⟩
  have HL := hid hb1
  clear hb1 HC
  go_wp2_with fail
  go_ret
  exact ⟨rfl, HL.out⟩
end Go.Proofs.Ytgidgmgpgfonnaa
/- What the document's Same of binds, In and Restrict answer; what spoil of binds does. -/
namespace Go.Proofs.Ytgidgmgpgfonnaa
open Go.RowKit Go.Deep

set_option maxRecDepth 100000 in
set_option maxHeartbeats 4000000 in
/-- The document's Same of binds. -/
theorem rsameb_any (pa : Option Addr) (ca : Nat) (as' : List Bn) (pb : Option Addr) (cb : Nat) (bs : List Bn) (w : World) (hA : BindsAt w pa as'.length as') (hB : BindsAt w pb bs.length bs) :
    Calls Try.prog 20 #[.slice pa as'.length ca, .slice pb bs.length cb] w fun e w' => e = .returned (.bool (sameA as' bs)) ∧ Below w.heap.size w w' := by
  have HA := hid hA; have HB := hid hB
  have hna : as'.length ≤ 9223372036854775807 := hA.small
  have hnb : bs.length ≤ 9223372036854775807 := hB.small
  clear hA hB
  by_cases hl : as'.length = bs.length
  · obtain ⟨R, hR⟩ : ∃ R, sameA as' bs = R := ⟨_, rfl⟩
    rw [hR]
    have HR := hid hR
    have HLN := hid hl
    obtain ⟨n, hn⟩ : ∃ n, bs.length = n := ⟨_, rfl⟩
    rw [hn] at hl hnb ⊢
    rw [hl]
    have HN := hid hn
    clear hR hn hl hna
    go_enter Try.func20, Try.ntmps20
    go_wp2_with fail
    go_loopw [5, 6] (fun iv _ wr => ∃ j : Nat, j ≤ n ∧ iv = .int .i64 j ∧ sameA (as'.drop j) (bs.drop j) = R ∧ Below w.heap.size w wr) (fun iv _ _ => n - (intOf iv).toNat)
    case atStart => exact ⟨0, Nat.zero_le _, rfl, HR.out, Below.refl _ _⟩
    case round =>
      obtain ⟨j, hj, rfl, hs, hlow⟩ := hrel
      have HW := hid hlow
      clear hlow
      by_cases hlt : j < n
      · have hja : j < as'.length := by rw [HLN.out, HN.out]; exact hlt
        have hjb : j < bs.length := by rw [HN.out]; exact hlt
        rw [sameA_step hja hjb] at hs
        obtain ⟨b1, o1, a1, c1, rfl, hbd⟩ := (HA.out.below HW.out).cells j hja
        obtain ⟨b2, o2, a2, c2, rfl, hbd2⟩ := (HB.out.below HW.out).cells j hjb
        obtain ⟨⟨vx, ⟨x, l⟩⟩, hy⟩ : ∃ y, as'[j] = y := ⟨_, rfl⟩
        obtain ⟨⟨vy, ⟨y, m⟩⟩, hy2⟩ : ∃ y, bs[j] = y := ⟨_, rfl⟩
        rw [hy] at hbd hs
        rw [hy2] at hbd2 hs
        unfold same1 at hs
        dsimp only at hs
        have HS := hid hs
        have HBD := hid hbd; have HBD2 := hid hbd2
        obtain ⟨cv, hcv⟩ : ∃ cv, (cmpN (x, l) (y, m) == 0) = cv := ⟨_, rfl⟩
        have hC : Hid (∀ w', Below wr.heap.size wr w' → Calls Try.prog 42 #[.agg #[.string x.1, .int .i64 x.2, .slice a1 (lenF l) c1], .agg #[.string y.1, .int .i64 y.2, .slice a2 (lenF m) c2]] w' fun e w'' => e = .returned (.bool cv) ∧ Below w'.heap.size w' w'') := hid fun w' hb => by
          rw [← hcv]
          exact rsame_any (x, l) (y, m) a1 a2 c1 c2 w' (HBD.out.tm.below hb) (HBD2.out.tm.below hb)
        rw [hcv] at HS
        have hne := later_some wr
        have p1 := later_cell hbd.name; have p2 := later_cell hbd.sym; have p3 := later_cell hbd.list
        have q1 := later_cell hbd2.name; have q2 := later_cell hbd2.sym; have q3 := later_cell hbd2.list
        dsimp only at p1 p2 p3 q1 q2 q3
        have hk0 : (0 : Int) ≤ (j : Int) := by omega
        have hkn : (j : Int) < (n : Int) := by omega
        clear hbd hbd2 hs hy hy2 hcv hja hjb
        go_wp2_with fail
        refine wp_region_later (by kernel_rfl) (by kernel_rfl) ?_
        repeat (go_big_quiet_step ((refine calls_later (hC.out _ ?_); exact Later.below _)))
        refine wpQuiet_nil ?_
        intro _ hw'
        obtain ⟨b2', hw''⟩ := hw'
        subst hw''
        have HW2 : Hid (Below w.heap.size w b2'.now) := hid (HW.out.trans (b2'.below.mono HW.out.size))
        have r0 := later_cell (HBD.out.below b2'.below).var
        have s0 := later_cell (HBD2.out.below b2'.below).var
        dsimp only at r0 s0
        have hne2 := later_some b2'.now
        clear p1 p2 p3 q1 q2 q3 hC
        cases cv with
        | false =>
          have hR := HS.out
          rw [Bool.and_false, Bool.false_and] at hR
          subst hR
          clear HS
          go_wp2_with fail
          refine wp_region_later (by kernel_rfl) (by kernel_rfl) ?_
          repeat (go_big_quiet_step (fail))
          refine wpQuiet_nil ?_
          intro _ hw'
          obtain ⟨b3, hw''⟩ := hw'
          subst hw''
          have HW3 := hid (HW2.out.trans (b3.below.mono HW2.out.size))
          clear r0 s0
          go_wp2
          go_ret
          exact ⟨rfl, HW3.out⟩
        | true =>
          by_cases he : vx.toList = vy.toList
          · have heb : (vx.toList == vy.toList) = true := by simp [he]
            have hR := HS.out
            rw [heb, Bool.true_and, Bool.true_and] at hR
            have HS2 := hid hR
            clear HS hR
            go_wp2_with fail
            refine wp_region_later (by kernel_rfl) (by kernel_rfl) ?_
            repeat (go_big_quiet_step (fail))
            refine wpQuiet_nil ?_
            intro _ hw'
            obtain ⟨b3, hw''⟩ := hw'
            subst hw''
            have HW3 := hid (HW2.out.trans (b3.below.mono HW2.out.size))
            clear r0 s0
            go_wp2
            go_roundw
            case rel => exact ⟨j + 1, by omega, by go_num, HS2.out, HW3.out⟩
            case measure => simp [intOf]; omega
          · have heb : (vx.toList == vy.toList) = false := by simp [he]
            have hR := HS.out
            rw [heb, Bool.false_and, Bool.false_and] at hR
            subst hR
            clear HS
            go_wp2_with fail
            refine wp_region_later (by kernel_rfl) (by kernel_rfl) ?_
            repeat (go_big_quiet_step (fail))
            refine wpQuiet_nil ?_
            intro _ hw'
            obtain ⟨b3, hw''⟩ := hw'
            subst hw''
            have HW3 := hid (HW2.out.trans (b3.below.mono HW2.out.size))
            clear r0 s0
            go_wp2
            go_ret
            exact ⟨rfl, HW3.out⟩
      · have hd : as'.drop j = [] := List.drop_eq_nil_of_le (by rw [HLN.out, HN.out]; omega)
        have hd2 : bs.drop j = [] := List.drop_eq_nil_of_le (by rw [HN.out]; omega)
        rw [hd, hd2] at hs
        have hR : R = true := hs.symm
        subst hR
        clear hs hd hd2
        go_wp2
        go_ret
        exact ⟨rfl, HW.out⟩
  · rw [sameA_len hl]
    have hl2 : ¬ ((as'.length : Int) = (bs.length : Int)) := by omega
    have hl3 : ((as'.length : Int) == (bs.length : Int)) = false := beq_eq_false_iff_ne.2 hl2
    go_enter Try.func20, Try.ntmps20
    go_wp2
    go_ret
    exact ⟨rfl, Below.refl _ _⟩
theorem inL_take {l : List ByteArray} {s : ByteArray} {j : Nat} (h : j < l.length) : inL (l.take (j + 1)) s = (inL (l.take j) s || decide (l[j] = s)) := by rw [List.take_succ_eq_append_getElem h, inL_snoc]
theorem toList_iff {a b : ByteArray} : a.toList = b.toList ↔ a = b := ⟨fun h => by rw [ByteArray.toList_eq, ByteArray.toList_eq] at h; exact bytes_eq h, fun h => by rw [h]⟩
set_option maxRecDepth 100000 in
set_option maxHeartbeats 2000000 in
/-- In. -/
theorem in_any (p : Option Addr) (cap : Nat) (ss : List ByteArray) (s : ByteArray) (w : World) (hB : StrsAt w p ss.length ss) :
    Calls Try.prog 40 #[.slice p ss.length cap, .string s] w fun e w' => e = .returned (.bool (inL ss s)) ∧ w' = w := by
  have HB := hid hB
  have hn : ss.length ≤ 9223372036854775807 := hB.small
  obtain ⟨R, hR⟩ : ∃ R, inL ss s = R := ⟨_, rfl⟩
  rw [hR]
  have HR := hid hR
  clear hB hR
  go_enter Try.func40, Try.ntmps40
  go_wp2_with fail
  go_loopw [5] (fun iv wr => ∃ j : Nat, j ≤ ss.length ∧ iv = .int .i64 j ∧ inL (ss.take j) s = false ∧ wr = w) (fun iv _ => ss.length - (intOf iv).toNat)
  case atStart => exact ⟨0, Nat.zero_le _, rfl, by simp [inL], rfl⟩
  case round =>
    obtain ⟨j, hj, rfl, hs, rfl⟩ := hrel
    by_cases hlt : j < ss.length
    · obtain ⟨b1, o1, rfl, p0⟩ := HB.out.cells j hlt
      have htk := inL_take (s := s) hlt
      have hmem : ss[j] ∈ ss := List.getElem_mem hlt
      obtain ⟨t, ht⟩ : ∃ t, ss[j] = t := ⟨_, rfl⟩
      rw [ht] at p0 htk hmem
      have hj0 : (0 : Int) ≤ (j : Int) := by omega
      have hjn : (j : Int) < (ss.length : Int) := by omega
      by_cases he : t.toList = s.toList
      · have heq := toList_iff.1 he
        have hin : inL ss s = true := by
          unfold inL
          exact List.any_eq_true.2 ⟨t, hmem, by simp [heq]⟩
        have heb : (t.toList == s.toList) = true := by simp [he]
        have hR : R = true := by rw [← HR.out]; exact hin
        subst hR
        clear htk ht hs hmem heq hin HR
        go_wp2
        go_ret
        exact ⟨rfl, rfl⟩
      · have hne : ¬ t = s := fun e => he (by rw [e])
        have heb : (t.toList == s.toList) = false := by simp [he]
        have HTK : Hid (inL (ss.take (j + 1)) s = false) := hid (by rw [htk, hs]; simp [hne])
        clear htk ht hs hmem hne
        go_wp2
        go_roundw
        case rel => exact ⟨j + 1, by omega, by go_num, HTK.out, trivial⟩
        case measure => simp [intOf]; omega
    · rw [List.take_of_length_le (by omega)] at hs
      have hR : R = false := by rw [← HR.out]; exact hs
      subst hR
      clear hs HR
      go_wp2
      go_ret
      exact ⟨rfl, rfl⟩
set_option maxRecDepth 100000 in
set_option maxHeartbeats 4000000 in
/-- The document's Restrict. -/
theorem rrestrict_any (p : Option Addr) (cap : Nat) (bs : List Bn) (pn : Option Addr) (cn : Nat) (ns : List ByteArray) (w : World) (hB : BindsAt w p bs.length bs) (hN : StrsAt w pn ns.length ns) (hn : bs.length ≤ 1048575) :
    Calls Try.prog 19 #[.slice p bs.length cap, .slice pn ns.length cn] w fun e w' => ∃ v ks, e = .returned v ∧ LstB false w.heap.size w' v ks ∧ ks.map bkBn = bs.filter (fun b => inL ns b.1) ∧ Below w.heap.size w w' := by
  obtain ⟨i0, hi, hz0, hz1, hz2⟩ := info_parts Try.info50
  have HB := hid hB; have HN := hid hN
  have hmax : maxLen = 9223372036854775807 := rfl
  clear hB hN
  go_enter Try.func19, Try.ntmps19
  go_wp2_with fail
  go_loopw [5, 6, 7] (fun ov iv _ wr => ∃ (j : Nat) (v : Value) (ks : List Bk), j ≤ bs.length ∧ v = ov ∧ iv = .int .i64 j ∧ LstB false w.heap.size wr v ks ∧ ks.map bkBn = (bs.take j).filter (fun b => inL ns b.1) ∧ Below w.heap.size w wr) (fun _ iv _ _ => bs.length - (intOf iv).toNat)
  case atStart => exact ⟨0, _, [], Nat.zero_le _, rfl, rfl, LstB.nil _ _ _, by simp, Below.refl _ _⟩
  case round =>
    obtain ⟨j, ov, ks, hj, rfl, rfl, hL, hks, hlow⟩ := hrel
    have HL := hid hL; have HK := hid hks; have HW := hid hlow
    have hkl : ks.length ≤ j := by
      have := congrArg List.length hks
      rw [List.length_map] at this
      have h2 := List.length_filter_le (fun b : Bn => inL ns b.1) (bs.take j)
      rw [List.length_take] at h2
      omega
    clear hL hks hlow
    by_cases hlt : j < bs.length
    · obtain ⟨b1, o1, a1, c1, rfl, hbd⟩ := (HB.out.below HW.out).cells j hlt
      have htk : bs.take (j + 1) = bs.take j ++ [bs[j]] := List.take_succ_eq_append_getElem hlt
      obtain ⟨⟨vn, ⟨x, l⟩⟩, hy⟩ : ∃ y, bs[j] = y := ⟨_, rfl⟩
      rw [hy] at hbd htk
      have HTK := hid htk
      have HBD := hid hbd
      have p0 := hbd.var; have p1 := hbd.name; have p2 := hbd.sym; have p3 := hbd.list
      dsimp only at p0 p1 p2 p3
      have HI := hid (in_any pn cn ns vn wr (HN.out.below HW.out))
      have HC := hid (rclone_any x l a1 c1 wr.drew (hbd.tm.below (drew_below wr)))
      have hr0 := HL.out.row
      obtain ⟨kn, hkn⟩ : ∃ kn, ks.length = kn := ⟨_, rfl⟩
      rw [hkn] at hr0 hkl
      have HKN := hid hkn
      have HR0 := hid hr0
      have hwz := HW.out.size
      clear hbd hy htk hr0 hkn
      go_wp2_with fail
      refine HI.out.mono ?_
      rintro e w0 ⟨rfl, hw0⟩
      subst w0
      clear HI
      by_cases hin : inL ns vn = true
      · rw [hin]
        have HIN := hid hin
        clear hin
        go_wp2_with fail
        go_region_law
          ((first
            | (refine step_append_lies _ (by rfl) (.tmp 22) (.tmp 35) 24 (by rfl) w.heap.size 50 i0 _ 4 64 Try.underlying24 hi hz0 hz1 hz2 rfl (by decide) ov kn (bkAll ks) (by rfl) (owns_below (owns_below HR0.out HW1.out) ((Below.refl _ _).alloc (Nat.le_refl _) _)) ⟨w1.heap.size, 0, none⟩ 1 1 (bkCells (vn, ⟨x, l, a', c'⟩)) (by rfl) rfl (World.news_of_block (heap_alloc_new w1 _)) (bk_one _) (by decide) (by omega) (by omega) (by have := HW1.out.size; simp; omega) _ rfl ?_; intro g3 cap3 w3 hown3 hgrow3 hat3 hlt3; have HO3 := hid hown3; have HG3 := hid hgrow3; have HA3 := hid hat3; clear hown3 hgrow3 hat3)
            | (go_simp; go_wp2_with (go_at_call 41; refine HC.out.mono ?_; rintro e w1 ⟨a', c', rfl, ho1, hb1⟩; have HO1 : Hid (OwnTm false (fun k => wr.heap.size ≤ k) w1 x a' c' l) := hid ho1.own; have HW1 : Hid (Below wr.heap.size wr w1) := hid (((Below.refl _ wr).drew).trans hb1); have q0 := below_cell HW1.out _ _ p0; clear ho1 hb1))
            | fail))
        all_goals
          go_wp2_with fail
          go_roundw
          case rel =>
            have b2 := HW1.out.trans (((Below.refl _ w1).alloc (Nat.le_refl _) (.cells #[.string vn, .string x.1, .int .i64 x.2, .slice a' (lenF l) c'] 50)).mono HW1.out.size)
            refine ⟨j + 1, _, ks ++ [(vn, ⟨x, l, a', c'⟩)], by omega, rfl, by go_num, ?_, by rw [HTK.out, List.filter_append, ← HK.out]; simp [bkBn, Kv.tn, HIN.out], ?_⟩
            · refine HL.out.grow b2 (fun k hk => ?_) hwz HG3.out (HA3.out.imp (fun e => e.symm) (fun e => by rw [e]; rfl)) ?_
              · simp only [List.mem_singleton] at hk
                subst hk
                exact HO1.out.below ((Below.refl _ _).alloc (Nat.le_refl _) _)
              · rw [bkAll_snoc, List.length_append, HKN.out]
                exact HO3.out
            · exact HW.out.trans ((b2.mono hwz).grown HG3.out (by have := HW1.out.size; rw [World.size_alloc]; omega) (fun k e => (owns_cells HL.out.row e).1))
          case measure => simp [intOf]; omega
      · have hin' : inL ns vn = false := by simpa using hin
        rw [hin']
        have HIN := hid hin'
        clear hin hin'
        go_wp2_with fail
        go_roundw
        case rel => exact ⟨j + 1, _, ks, by omega, rfl, by go_num, HL.out, by rw [HTK.out, List.filter_append, ← HK.out]; simp [HIN.out], HW.out⟩
        case measure => simp [intOf]; omega
    · have hjl : j = bs.length := by omega
      subst hjl
      have hks' : ks.map bkBn = bs.filter (fun b => inL ns b.1) := by have := HK.out; rwa [List.take_of_length_le (Nat.le_refl _)] at this
      have HK2 := hid hks'
      clear hks'
      go_wp2
      go_ret
      exact ⟨ov, ks, rfl, HL.out, HK2.out, HW.out⟩
end Go.Proofs.Ytgidgmgpgfonnaa
/- The box of what a statement of layer 7 is asked about. -/
namespace Go.Proofs.Ytgidgmgpgfonnaa
open Go.RowKit Go.Deep

/-- What was handed in, and its box. -/
structure InS (w : World) (cs : Array Value) (W : World) : Prop where
  low : Below w.heap.size w W
  box : Box W w.heap.size 30 cs
theorem InS.below {w W W' : World} {cs : Array Value} (h : InS w cs W) (hb : Below W.heap.size W W') : InS w cs W' := ⟨h.low.trans (hb.mono h.low.size), h.box.below hb⟩
theorem InS.new (w : World) (cs : Array Value) : InS w cs (w.alloc (.cells cs 30)) := ⟨(Below.refl _ w).alloc (Nat.le_refl _) _, Box.new w 30 cs⟩
end Go.Proofs.Ytgidgmgpgfonnaa
/- The walk of SubstParts. -/
namespace Go.Proofs.Ytgidgmgpgfonnaa
open Go.RowKit Go.Deep

theorem SepB.at_ {B : Nat} {W : World} {v : Value} {ks : List Bk} {F : List Bn} (h : SepB B W v ks) (hF : ks.map bkBn = F) (hf : ∀ x ∈ F, x.1.size ≤ maxLen) : ∃ P c, v = .slice P F.length c ∧ BindsAt W P F.length F := by
  have hl : F.length = ks.length := by rw [← hF, List.length_map]
  have hfk : ∀ k ∈ ks, k.1.size ≤ maxLen := fun k hk => hf (bkBn k) (by rw [← hF]; exact List.mem_map_of_mem hk)
  rcases h.slice with ⟨rfl, rfl⟩ | ⟨g, cap, rfl⟩
  · have : F = [] := by rw [← hF]; rfl
    subst this
    exact ⟨none, 0, rfl, rfl, by simp, fun i hi => absurd hi (by simp), fun x hx => by cases hx⟩
  · have := h.binds hfk
    rw [hF] at this
    rw [← hl] at this ⊢
    exact ⟨_, cap, rfl, this⟩
theorem LstB.at_ {mk : Bool} {B : Nat} {W : World} {v : Value} {ks : List Bk} {F : List Bn} (h : LstB mk B W v ks) (hF : ks.map bkBn = F) (hf : ∀ x ∈ F, x.1.size ≤ maxLen) : ∃ P c, v = .slice P F.length c ∧ BindsAt W P F.length F := by
  have hl : F.length = ks.length := by rw [← hF, List.length_map]
  rcases h.row.2 with ⟨h1, h2⟩ | ⟨g, cap, cur, h1, _⟩
  · subst h1
    have hk : ks = [] := List.eq_nil_of_length_eq_zero h2
    subst hk
    have : F = [] := by rw [← hF]; rfl
    subst this
    exact ⟨none, 0, rfl, rfl, by simp, fun i hi => absurd hi (by simp), fun x hx => by cases hx⟩
  · subst h1
    have hc := owns_cap h.row
    refine ⟨some ⟨g, 0, none⟩, cap, by rw [hl], rfl, by omega, fun i hi => ?_, hf⟩
    have hi' : i < ks.length := by omega
    refine ⟨g, 0, ks[i].2.a, ks[i].2.c, rfl, ?_⟩
    have h3 := row_bd h.row i hi' (h.own _ (List.getElem_mem hi')).tm
    have e : bkBn ks[i] = F[i] := by simp [← hF]
    rw [e] at h3
    exact h3
set_option maxRecDepth 100000 in
set_option maxHeartbeats 8000000 in
theorem substParts_walk (q : Sm) (w : World) (hq : SmAt w q) (hz : SmSz q) : Calls Try.prog 4 #[.agg q.cells] w fun e w' => e = .returned (.bool true) ∧ Below w.heap.size w w' := by
  obtain ⟨S, n, cap, sg, pa, ca, ls, pb, cb, bs, ⟨x, l⟩, a, c, pn, cn, ns, f⟩ := q
  have hz1 := hz.all
  have HQ := hid hq
  dsimp only at hz1
  have hln := totB_len ls
  have I0 : Hid (InS w (Sm.cells ⟨S, n, cap, sg, pa, ca, ls, pb, cb, bs, (x, l), a, c, pn, cn, ns, f⟩) (w.alloc (.cells (Sm.cells ⟨S, n, cap, sg, pa, ca, ls, pb, cb, bs, (x, l), a, c, pn, cn, ns, f⟩) 30))) := hid (InS.new w _)
  have HLS := hid fun (W : World) (hW : Below w.heap.size w W) => (HQ.out.below hW).ls
  have HBS := hid fun (W : World) (hW : Below w.heap.size w W) => (HQ.out.below hW).bs
  have HNS := hid fun (W : World) (hW : Below w.heap.size w W) => (HQ.out.below hW).ns
  have HFT : Hid (∀ b ∈ ls.filter (fun b => inL ns b.1), b.1.size ≤ maxLen) := hid fun b hb => HQ.out.ls.fits b (List.mem_filter.1 hb).1
  dsimp only at HLS HBS HNS
  unfold Sm.cells at I0 ⊢
  dsimp only at I0 ⊢
  have hl1 : ls.length ≤ 1048575 := by omega
  have hl2 : ns.length ≤ 1048576 := by omega
  obtain ⟨F, hF⟩ : ∃ F, ls.filter (fun b => inL ns b.1) = F := ⟨_, rfl⟩
  rw [hF] at HFT
  have HF := hid hF
  obtain ⟨sv, hsv⟩ : ∃ sv, sameA ls bs = sv := ⟨_, rfl⟩
  have HSV := hid hsv
  clear hz hq hz1 hln HQ hF hsv
  go_enter Try.func4, Try.ntmps4
  go_wp2_with fail
  refine (shead_any _).mono ?_
  rintro e w1 ⟨rfl, hb1⟩
  have I1 := hid (I0.out.below hb1)
  clear I0 hb1
  have i1 := I1.out.box.c 1
  go_wp2_with fail
  refine (lentb_any pa ca ls w1 (HLS.out w1 I1.out.low) hl1).mono ?_
  rintro e w2 ⟨g2, cap2, rfl, hL2, _, hb2⟩
  have I2 := hid (I1.out.below hb2)
  have L2 := hid hL2
  clear I1 hb2 hL2 i1
  have i4 := I2.out.box.c 6
  go_wp2_with fail
  refine (restrict_any (some ⟨g2, 0, none⟩) cap2 ls pn cn ns w2 L2.out.binds (HNS.out w2 I2.out.low) hl1 hl2).mono ?_
  rintro e w3 ⟨vr, ks, rfl, hS3, hk3, hb3⟩
  rw [HF.out] at hk3
  have S3 := hid hS3; have K3 := hid hk3; have B3 := hid hb3
  clear hS3 hk3 hb3 i4
  have i1 := (I2.out.below B3.out).box.c 1; have i2 := (I2.out.below B3.out).box.c 2
  go_wp2_with fail
  refine (psame_any pa ca ls pb cb bs w3 (HLS.out w3 (I2.out.below B3.out).low) (HBS.out w3 (I2.out.below B3.out).low)).mono ?_
  rintro e w4 ⟨he, hb4⟩
  rw [HSV.out] at he
  subst he
  have B4 := hid (B3.out.trans (hb4.mono B3.out.size))
  have S4 := hid (S3.out.below hb4)
  clear hb4 i1 i2 B3 S3
  have i1 := (I2.out.below B4.out).box.c 1; have i4 := (I2.out.below B4.out).box.c 6
  go_wp2_with fail
  refine (rrestrict_any pa ca ls pn cn ns w4 (HLS.out w4 (I2.out.below B4.out).low) (HNS.out w4 (I2.out.below B4.out).low) hl1).mono ?_
  rintro e w5 ⟨vq, ms, rfl, hL5, hm5, hb5⟩
  rw [HF.out] at hm5
  have B5 := hid (B4.out.trans (hb5.mono B4.out.size))
  have S5 := hid (S4.out.below hb5)
  obtain ⟨Pr, cr, rfl, hr5⟩ := S5.out.at_ K3.out HFT.out
  obtain ⟨Pq, cq, rfl, hq5⟩ := hL5.at_ hm5 HFT.out
  have HR5 := hid hr5; have HQ5 := hid hq5
  clear hb5 i1 i4 B4 S4 hL5 hm5 hr5 hq5
  go_wp2_with fail
  refine (rsameb_any Pr cr F Pq cq F w5 HR5.out HQ5.out).mono ?_
  rintro e w6 ⟨he, hb6⟩
  rw [sameA_self] at he
  subst he
  have B6 := hid (B5.out.trans (hb6.mono B5.out.size))
  have S6 := hid (S5.out.below hb6)
  clear hb6 B5 S5 HR5 HQ5
  go_wp2_with fail
  refine (spoilb_any w2.heap.size _ ks w6 S6.out).mono ?_
  rintro e w7 ⟨⟨u, rfl⟩, hf7⟩
  have B7 := hid (B6.out.trans (hf7.below (fun _ h => h) B6.out.size))
  clear hf7 B6 S6
  have i1 := (I2.out.below B7.out).box.c 1
  go_wp2_with fail
  refine (keptb_any g2 cap2 pa ca ls w7 (L2.out.below B7.out) (HLS.out w7 (I2.out.below B7.out).low) (by omega)).mono ?_
  rintro e w8 ⟨rfl, hb8⟩
  have B8 := hid (B7.out.trans (hb8.mono B7.out.size))
  clear hb8 B7 i1
  have i1 := (I2.out.below B8.out).box.c 1; have i2 := (I2.out.below B8.out).box.c 2
  go_wp2_with fail
  refine (rsameb_any pa ca ls pb cb bs w8 (HLS.out w8 (I2.out.below B8.out).low) (HBS.out w8 (I2.out.below B8.out).low)).mono ?_
  rintro e w9 ⟨he, hb9⟩
  rw [HSV.out] at he
  subst he
  have I9 := hid ((I2.out.below B8.out).below hb9)
  clear hb9 B8 i1 i2
  cases sv
  · go_wp2
    go_ret
    exact ⟨rfl, I9.out.low⟩
  · go_wp2
    go_ret
    exact ⟨rfl, I9.out.low⟩
end Go.Proofs.Ytgidgmgpgfonnaa
namespace Go.Proofs.Ytgidgmgpgfonnaa
open Go.ChangeShapes Go.WideShapes Go.ChangeAt Go.RowKit Go.Deep

set_option maxRecDepth 100000 in
theorem substParts_contract (H : Type) (enc : TypeId × Value → H) (W : World) (base : Nat) (args : Array Value) (ds gs : List (DataW H)) (before : List MemPlace)
    (hval : ∀ (j : Nat) t v, Try.f4.params[j]? = some t → args[j]? = some v → Value.okWide Try.prog W .any base t v)
    (hW : DataW.Whole enc Try.prog Try.f4.params.toList Rows.substPartsSpec.vars false W args.toList ds gs before) (hk : Rows.uptoSmall H (ds ++ gs) = true) :
    Calls Try.prog 4 args W fun e W' => ∃ v, e = .returned v ∧ Rows.substPartsSpec.post enc Try.prog Try.f4 false true false false W args v W' := by
  have hW' := hW
  obtain ⟨p, q, hA0, hV, rfl, hfz, hnd⟩ := hW
  have hA : DataW.TrodAll enc Try.prog W 0 (fun _ => true) true Try.f4.params.toList args.toList ds p := hA0
  rw [Try.params4] at hA hval
  obtain ⟨v0, vs0, d0, ds0, p0, q0, hargs, rfl, rfl, h0, r0⟩ := trodAll_cons hA
  obtain ⟨rfl, rfl, rfl⟩ := trodAll_nil r0
  obtain rfl : args = #[v0] := by cases args; simp_all
  obtain ⟨rfl, rfl⟩ := trodVars_none hV
  have lt0 : ∀ x ∈ p0, x.block < W.heap.size := by obtain ⟨m, hm⟩ := h0; exact DataW.trod_lt m _ _ _ hm
  have hbulk : Rows.uptoBulk d0 ≤ 1048576 := by
    have h : Rows.uptoBulkAll ([d0] ++ []) ≤ 1048576 := of_decide_eq_true hk
    simp only [List.append_nil, Rows.uptoBulkAll] at h
    omega
  obtain ⟨q, rfl, hT, hs⟩ := some_open (hval 0 30 v0 rfl rfl) h0 hbulk
  clear hA0
  refine (substParts_walk q W hT hs).mono fun e W' ⟨he, bel⟩ => ?_
  subst he
  exact ⟨_, rfl, _, _, _, [], _, [], hW', trodAll_mk1 (shut_bool Try.underlying4 _), (trodAll_cons_mk (Below.trod laidOut (by kernel_rfl) (of_decide_eq_true (by kernel_rfl)) h0 bel lt0) trodAll_mk0), rfl, bel.frame _, fun h => by cases h⟩

set_option maxRecDepth 100000 in
theorem substParts_lifted (os : Os) (started : os.Started) (H : Type) (enc : TypeId × Value → H) (F : Stop.Interp) :
    ReturnsInHanded {} Try.checked os 4 .any ((Rows.OpenSpec.upto Rows.substPartsSpec).pre6 enc Try.prog Try.f4 Rows.substPartsUptoRow.domain false) (((Rows.OpenSpec.upto Rows.substPartsSpec).at F).post enc Try.prog Try.f4 false true false false) := by
  refine returnsInHanded_of_cond (C := Try.checked) (s := Rows.OpenSpec.upto Rows.substPartsSpec) (k := Rows.uptoSmall) rfl own started (by kernel_rfl) Try.func4
    (OpenSpec.witness (enc := enc) (C := Try.checked) (s := Rows.OpenSpec.upto Rows.substPartsSpec) (k := Rows.uptoSmall) rfl false ⟨#[], #[.agg #[.slice none 0 0, .slice none 0 0, .slice none 0 0, .string .empty, .int .i64 0, .slice none 0 0, .slice none 0 0, .int .i64 0]], []⟩ 8 (by kernel_rfl) (by kernel_rfl) (by kernel_rfl)
      (x := ([.agg [.nil, .nil, .nil, .agg [.lit (.string []), .lit (.int .i64 0), .nil], .nil, .lit (.int .i64 0)]], [], [])) (by kernel_rfl) rfl (by kernel_rfl)) ?_
  intro W base args ds gs before hval hW _ hk _
  exact substParts_contract H enc W base args ds gs before hval hW hk

set_option maxRecDepth 100000 in
theorem substParts_holds : Rows.SubstPartsUptoSaid :=
  OpenClaim.holds_of_cond 4 Try.f4 rfl rfl rfl rfl rfl rfl rfl ⟨rfl, rfl, rfl, rfl, rfl⟩ rfl rfl rfl rfl rfl (by kernel_rfl) Try.func4 (by kernel_rfl)
    (of_decide_eq_true (by kernel_rfl)) (by unfold Func.isWrapper; first | (rw [if_pos (by decide +kernel)]; kernel_rfl) | (rw [if_neg (by decide +kernel)]; exact ⟨rfl, rfl⟩))
    (fun os started H enc _ F => substParts_lifted os started H enc F)
end Go.Proofs.Ytgidgmgpgfonnaa
