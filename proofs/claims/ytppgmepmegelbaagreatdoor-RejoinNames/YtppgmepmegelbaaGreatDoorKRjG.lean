import Derived.Test.YtppgmepmegelbaaGreatDoorRjF
import Derived.Test.YtppgmepmegelbaaGreatDoorTSep
import Derived.Test.YtppgmepmegelbaaGreatDoorTRClone
import Derived.Test.YtppgmepmegelbaaGreatDoorReC
import Derived.Deep.RegionWith
import Derived.Deep.MidRow
import Derived.Deep.WholeRow
import Derived.Test.YtppgmepmegelbaaGreatDoorSgOf
import Derived.Test.YtppgmepmegelbaaGreatDoorTKept
import Derived.WalkSpells
import Derived.WalkLawsBesides
import Derived.Shelf.Small.Strs
import Derived.Sort.Walk0
import Derived.Laws.AppendOwnNone
/- lives; slices of numbers and of texts; what is asked of one. -/
namespace Go.Proofs.YtppgmepmegelbaaGreatDoor
open Go.RowKit Go.Sort

theorem name120 : strB (nameL 120) = ⟨#[95, 49, 50, 48]⟩ := by
  have h : nameL 120 = [95, 49, 50, 48] := by
    unfold nameL
    rw [if_neg (by omega), itoa_nat (by omega), show (120 : Int).toNat = 120 from rfl, Lib.decDigits, dif_neg (by omega), Lib.decDigits_two (by omega) (by omega)]
    decide
  rw [h]; rfl
theorem num7 : numP [95, 55] = some 7 := by rw [num_same]; decide

set_option maxRecDepth 100000 in
set_option maxHeartbeats 2000000 in
theorem lives_any (w : World) (hs : Std w) : Calls Tryz.prog 5 #[] w fun e w' => e = .returned (.bool true) ∧ Below w.heap.size w w' := by
  have h7 : numV (numP (ByteArray.mk #[95, 55]).data.toList) = .tuple #[.int .i64 7, .bool true] := by
    show numV (numP [95, 55]) = _
    rw [num7]; rfl
  go_enter Tryz.func5, Tryz.ntmps5
  go_wp2_with (first
    | (go_at_call 14; refine (pname_any 120 (by omega) (by omega) _ hs).mono ?_; rintro e w' ⟨rfl, hb⟩; rw [name120]; have hs2 := hs.below hb hs.pos)
    | (go_at_call 15; refine (pnum_any _ (by decide) _ hs2).mono ?_; rintro e w'' ⟨rfl, hb2⟩; rw [h7]))
  go_ret
  exact ⟨rfl, hb.trans (hb2.mono hb.size)⟩

theorem cnt_case (n : Int) : (numP (nameL n) = some n ∧ ((strB (nameL n)).toList == (ByteArray.mk #[]).toList) = false) ∨ (nameL n = [] ∧ numP (nameL n) = none) := by
  by_cases h : n < 1 ∨ 99999999999 < n
  · have h1 : nameL n = [] := by unfold nameL; rw [if_pos h]
    exact .inr ⟨h1, by rw [h1]; decide⟩
  · refine .inl ⟨?_, ?_⟩
    · rw [num_same, num_name (by omega) (by omega), Option.map_some]
      congr 1; omega
    · have h1 : nameL n = 95 :: Lib.itoa n := by unfold nameL; rw [if_neg h]
      rw [beq_eq_false_iff_ne, Lib.toList_data, Lib.toList_data]
      show nameL n ≠ []
      rw [h1]; exact List.cons_ne_nil _ _
theorem num_back {l : List UInt8} {m : Int} (h : numP l = some m) : nameL m = l ∧ 1 ≤ m ∧ m ≤ 99999999999 := by
  rw [num_same] at h
  cases hn : numL l with
  | none => rw [hn] at h; cases h
  | some u =>
    rw [hn, Option.map_some, Option.some.injEq] at h
    subst h
    obtain ⟨h1, h2, h3⟩ := name_num hn
    exact ⟨h1, by omega, by omega⟩
end Go.Proofs.YtppgmepmegelbaaGreatDoor
/- What Spoil turns: the lists of the term it is handed, nothing else; what Exact answers of two that are alike. -/
namespace Go.Proofs.YtppgmepmegelbaaGreatDoor
open Go.RowKit Go.Deep

/-- Nothing that there was has turned but blocks of A. -/
structure Fr (A : Nat → Prop) (w w' : World) : Prop where
  low : Below 0 w w'
  same : ∀ k, k < w.heap.size → ¬ A k → w'.heap[k]? = w.heap[k]?
theorem Fr.refl (A : Nat → Prop) (w : World) : Fr A w w := ⟨Below.refl _ _, fun _ _ _ => rfl⟩
theorem Fr.trans {A : Nat → Prop} {x y z : World} (h : Fr A x y) (k : Fr A y z) : Fr A x z := ⟨h.low.trans k.low, fun q hq hA => (k.same q (Nat.lt_of_lt_of_le hq h.low.size) hA).trans (h.same q hq hA)⟩
theorem Fr.mono {A A' : Nat → Prop} {x y : World} (hA : ∀ k, A k → A' k) (h : Fr A x y) : Fr A' x y := ⟨h.low, fun q hq hn => h.same q hq (fun h' => hn (hA q h'))⟩
theorem Fr.of_below {A : Nat → Prop} {x y : World} (h : Below x.heap.size x y) : Fr A x y := ⟨h.mono (Nat.zero_le _), fun q hq _ => h.block q hq⟩
theorem Fr.below {A : Nat → Prop} {x y : World} {n : Nat} (h : Fr A x y) (hn : ∀ k, A k → n ≤ k) (hs : n ≤ x.heap.size) : Below n x y := ⟨h.low.os, h.low.tape, h.low.output, h.low.size, fun k hk => h.same k (by omega) (fun hA => by have := hn k hA; omega)⟩
theorem Fr.sets {A : Nat → Prop} {W : World} {g : Nat} (hg : A g) (i j k : Nat) (a b c : Value) : Fr A W (((W.setCell ⟨g, i, none⟩ a).setCell ⟨g, j, none⟩ b).setCell ⟨g, k, none⟩ c) :=
  ⟨(((Below.refl 0 W).setCell (p := ⟨g, i, none⟩) (Nat.zero_le _) _).setCell (p := ⟨g, j, none⟩) (Nat.zero_le _) _).setCell (p := ⟨g, k, none⟩) (Nat.zero_le _) _, fun q _ hn => by
    have : q ≠ g := fun e => hn (e ▸ hg)
    rw [Below.heap_setCell _ _ _ q this, Below.heap_setCell _ _ _ q this, Below.heap_setCell _ _ _ q this]⟩
/-- Three cells of a row are turned; those behind them are not. -/
theorem sets_behind {W : World} {g i n : Nat} {a b c : Value} {v : Value} (hi : n + 3 ≤ i) (h : W.cell? ⟨g, i, none⟩ = some v) : (((W.setCell ⟨g, n, none⟩ a).setCell ⟨g, n + 1, none⟩ b).setCell ⟨g, n + 2, none⟩ c).cell? ⟨g, i, none⟩ = some v := by
  rw [World.cell?_setCell_other _ _ _ _ (fun e => by cases e; omega), World.cell?_setCell_other _ _ _ _ (fun e => by cases e; omega), World.cell?_setCell_other _ _ _ _ (fun e => by cases e; omega)]
  exact h
theorem row_frozen {W : World} {g i : Nat} {cur : Array Value} {t : TypeId} (h : W.heap[g]? = some (Obj.cells cur t (0, 0))) : W.frozen? ⟨g, i, none⟩ = false := by simp [World.frozen?, h]

end Go.Proofs.YtppgmepmegelbaaGreatDoor
/- The names of the fresh variables. -/
namespace Go.Proofs.YtppgmepmegelbaaGreatDoor
open Go.RowKit Go.Deep

set_option maxRecDepth 100000 in
set_option maxHeartbeats 1000000 in
theorem fresh_any (B : Nat) (fr : Int) (h0 : 0 ≤ fr) (h1 : fr ≤ 1048576) (k : Nat) (hk : k < 16) (w : World) (hB : Box w B 3 #[.int .i64 fr]) (hs : Std w) :
    Calls Tryz.prog 18 #[.int .i64 k, .pointer (some ⟨B, 0, none⟩)] w fun e w' => e = .returned (.string (strB (nameL (fr + 1 + k)))) ∧ Below w.heap.size w w' := by
  have H := hid (pname_any (fr + 1 + k) (by omega) (by omega) w hs)
  have hw1 : wrap64 (fr + 1) = fr + 1 := IntWalk.wrap64_in _ (by constructor <;> omega)
  have hw2 : wrap64 (fr + 1 + k) = fr + 1 + k := IntWalk.wrap64_in _ (by constructor <;> omega)
  have c0 : w.cell? ⟨B, 0, none⟩ = some (.int .i64 fr) := hB.c 0
  clear hB hs
  go_enter Tryz.func18, Tryz.ntmps18
  go_wp2_with (go_at_call 14; refine H.out.mono ?_; rintro e w1 ⟨rfl, hb⟩)
  go_ret
  exact ⟨rfl, hb⟩
/-- The names' cells. -/
def nmC (fr : Int) (i : Nat) : List Value := (List.range 16).map fun k => if k < i then .string (strB (nameL (fr + 1 + k))) else .string ⟨#[]⟩
theorem nmC_len (fr : Int) (i : Nat) : (nmC fr i).length = 16 := by unfold nmC; simp
theorem nmC_at (fr : Int) (i : Nat) {k : Nat} (h : k < 16) : (nmC fr i)[k]? = some (if k < i then .string (strB (nameL (fr + 1 + k))) else .string ⟨#[]⟩) := by
  unfold nmC
  rw [List.getElem?_map, List.getElem?_range h]; rfl
theorem nmC_one (fr : Int) (i : Nat) : ∀ u ∈ nmC fr i, u.oneCell' = true := fun u hu => by
  unfold nmC at hu
  obtain ⟨k, _, rfl⟩ := List.mem_map.1 hu
  split <;> rfl
theorem nmC_set (fr : Int) {i : Nat} (h : i < 16) : (nmC fr i).toArray.setIfInBounds i (.string (strB (nameL (fr + 1 + i)))) = (nmC fr (i + 1)).toArray := by
  rw [List.setIfInBounds_toArray]
  congr 1
  refine List.ext_getElem? fun k => ?_
  rw [List.getElem?_set]
  by_cases hk : k < 16
  · rw [nmC_at _ _ hk, nmC_at _ _ hk]
    by_cases e : i = k
    · subst e
      rw [if_pos rfl, if_pos (by rw [nmC_len]; exact h), if_pos (by omega)]
    · rw [if_neg e]
      by_cases h2 : k < i
      · rw [if_pos h2, if_pos (by omega)]
      · rw [if_neg h2, if_neg (by omega)]
  · rw [if_neg (by omega), List.getElem?_eq_none (by rw [nmC_len]; omega), List.getElem?_eq_none (by rw [nmC_len]; omega)]
theorem size59 (fr : Int) (i : Nat) : (Tryz.prog.info? 59).map (·.size) = some (nmC fr i).length := by
  rw [nmC_len]; kernel_rfl
end Go.Proofs.YtppgmepmegelbaaGreatDoor
/- The program lays the names. -/
namespace Go.Proofs.YtppgmepmegelbaaGreatDoor
open Go.RowKit Go.Deep

theorem step_load {P : Program} {ops : Array Oper} {o : Oper} {a : Act} {w : World} {K : Act → World → Prop} {Q : Exit → Act → World → Prop} {E : Prop} (hgd : o.guard = none) (ty : TypeId) (x : Operand)
    (ho : o.op = .load ty x) (b n : Nat) (hx : a.eval x = .pointer (some ⟨b, n, none⟩)) (cs : List Value) (d : TypeDesc) (hc : w.rangeAt b n cs) (hu : P.underlying ty = some d) (hd : d.isRow = true) (hi : (P.info? ty).map (·.size) = some cs.length)
    (h : K (a.put o.dst (.agg cs.toArray)) w) : if Region.wanted o (yielded ops a.tmps) = true then Oper.wp P o a w K Q else E := by
  have hw : Region.wanted o (yielded ops a.tmps) = true := by simp [Region.wanted, hgd]
  rw [if_pos hw]
  exact wp_load_mid ty x ho b n hx cs d hc hu hd hi h
theorem step_store_mid {P : Program} {ops : Array Oper} {o : Oper} {a : Act} {w : World} {K : Act → World → Prop} {Q : Exit → Act → World → Prop} {E : Prop} (hgd : o.guard = none) (ty : TypeId) (x y : Operand)
    (ho : o.op = .store ty x y) (b k : Nat) (cells : Array Value) (hx : a.eval x = .pointer (some ⟨b, k, none⟩)) (hy : a.eval y = .agg cells) (ht : w.there b k cells.size) (hi : (P.info? ty).map (·.size) = some cells.size) (h1 : cells.all (·.oneCell') = true)
    (h : K (a.put o.dst undef) (w.setCells b k cells.toList)) : if Region.wanted o (yielded ops a.tmps) = true then Oper.wp P o a w K Q else E := by
  have hw : Region.wanted o (yielded ops a.tmps) = true := by simp [Region.wanted, hgd]
  rw [if_pos hw]
  exact wp_store_mid ty x y ho b k cells hx hy ht hi h1 h
theorem results_c1 {fn : Func} {p : Tmp} {tp : TypeId} {P : Program} {tmps : Array Value} {w : World} {a : Addr} {x : Value} (h : fn.results = #[.cell p tp]) (hp : tmps.getD p undef = .pointer (some a))
    (la : (loadVar tp a).run P w = .ok x w) : (results fn tmps).run P w = .ok x w := by
  have hp' : tmps[p]?.getD undef = .pointer (some a) := by simpa using hp
  simp [results, h, hp', asAddr, la]
theorem fr_set (W : World) (B i : Nat) (v : Value) : Fr (fun q => q = B) W (W.setCell ⟨B, i, none⟩ v) := ⟨(Below.refl _ W).setCell (p := ⟨B, i, none⟩) (Nat.zero_le _) v, fun _ _ hq => Below.heap_setCell _ _ _ _ (fun e => hq e)⟩
theorem fr_cells {B : Nat} : ∀ (vs : List Value) (o : Nat) (W : World), Fr (fun b => b = B) W (W.setCells B o vs)
  | [], _, W => Fr.refl _ W
  | v :: vs, o, W => by
    rw [World.setCells]
    exact (fr_set W B o v).trans (fr_cells vs (o + 1) _)
theorem all_oneCell {l : List Value} (h : ∀ u ∈ l, u.oneCell' = true) : l.toArray.all (·.oneCell') = true := by
  rw [Array.all_eq_true']
  intro x hx
  exact h x (by simpa using hx)
theorem box_range {W : World} {b : Nat} {T : TypeId} {cs : List Value} (h : Box W b T cs.toArray) : W.rangeAt b 0 cs := fun j v hv => by
  rw [Nat.zero_add, h.c, List.getElem?_toArray]; exact hv
theorem box_there {W : World} {b : Nat} {T : TypeId} {cs : List Value} (h : Box W b T cs.toArray) (n : Nat) (hn : n ≤ cs.length) : W.there b 0 n := fun j hj => by
  refine ⟨?_, by rw [Nat.zero_add]; exact h.f j⟩
  rw [Nat.zero_add, h.c, List.getElem?_toArray, List.getElem?_eq_getElem (show j < cs.length by omega)]
  rfl
set_option maxRecDepth 100000 in
set_option maxHeartbeats 2000000 in
theorem lay_any (B : Nat) (fr : Int) (h0 : 0 ≤ fr) (h1 : fr ≤ 1048576) (m : Nat) (hm : m ≤ 16) (w : World) (hB : Box w B 3 #[.int .i64 fr]) (hs : Std w) :
    Calls Tryz.prog 17 #[.int .i64 m, .func (.func 18) #[] #[.pointer (some ⟨B, 0, none⟩)]] w fun e w' => e = .returned (.agg (nmC fr m).toArray) ∧ Below w.heap.size w w' := by
  obtain ⟨WA, hWA⟩ : ∃ WA, w.alloc (.cells (nmC fr 0).toArray 59) = WA := ⟨_, rfl⟩
  obtain ⟨WB, hWB⟩ : ∃ WB, WA.alloc (.cells (nmC fr 0).toArray 59) = WB := ⟨_, rfl⟩
  have hz : (#[Value.string ⟨#[]⟩, Value.string ⟨#[]⟩, Value.string ⟨#[]⟩, Value.string ⟨#[]⟩, Value.string ⟨#[]⟩, Value.string ⟨#[]⟩, Value.string ⟨#[]⟩, Value.string ⟨#[]⟩, Value.string ⟨#[]⟩, Value.string ⟨#[]⟩, Value.string ⟨#[]⟩, Value.string ⟨#[]⟩, Value.string ⟨#[]⟩, Value.string ⟨#[]⟩, Value.string ⟨#[]⟩, Value.string ⟨#[]⟩] : Array Value) = (nmC fr 0).toArray := by rfl
  have hbA : Below w.heap.size w WA := by rw [← hWA]; exact alloc_below0 _ _
  have hsA : WA.heap.size = w.heap.size + 1 := by rw [← hWA, World.size_alloc]
  have hbB : Below WA.heap.size WA WB := by rw [← hWB]; exact alloc_below0 _ _
  have hsB : WB.heap.size = w.heap.size + 2 := by rw [← hWB, World.size_alloc, hsA]
  have hRA : Box WB w.heap.size 59 (nmC fr 0).toArray := Box.below (by rw [← hWA]; exact Box.new w _ _) hbB
  have hRB : Box WB (w.heap.size + 1) 59 (nmC fr 0).toArray := by rw [← hWB, ← hsA]; exact Box.new WA _ _
  have hbw : Below w.heap.size w WB := hbA.trans (hbB.mono hbA.size)
  have hlt := hB.lt
  have HRA := hid hRA; have HRB := hid hRB; have HBW := hid hbw; have HSB := hid hsB; have HB := hid hB; have HS := hid hs; have HP := hid hs.pos
  have hm2 : (m : Int) ≤ 16 := by omega
  clear hbA hbB hRA hRB hbw hB hs
  go_enter Tryz.func17, Tryz.ntmps17
  go_upto_region 1 with (fail)
  go_upto_region 2 with (fail)
  clear hz hWA hWB hsA hsB
  go_wp2_with fail
  go_loopw [8] (fun iv wr => ∃ i : Nat, i ≤ m ∧ iv = .int .i64 i ∧ Box wr w.heap.size 59 (nmC fr 0).toArray ∧ Box wr (w.heap.size + 1) 59 (nmC fr i).toArray ∧ Below w.heap.size w wr ∧ w.heap.size + 2 ≤ wr.heap.size) (fun iv _ => m - (intOf iv).toNat)
  case atStart => exact ⟨0, Nat.zero_le _, rfl, HRA.out, HRB.out, HBW.out, by have := HSB.out; omega⟩
  case round =>
    obtain ⟨i, hi, rfl, b1, b2, b3, b4⟩ := hrel
    by_cases hlt2 : i < m
    · have HF := hid (fresh_any B fr h0 h1 i (by omega) wr (HB.out.below b3) (HS.out.below b3 HP.out))
      have H1 := hid b1; have H2 := hid b2; have H3 := hid b3; have H4 := hid b4
      clear b1 b2 b3 b4
      have hi16 : (i : Int) < 16 := by omega
      go_wp2_with (go_at_call 18; refine HF.out.mono ?_; rintro e w1 ⟨rfl, hb⟩; have c5 : w1.cell? ⟨w.heap.size + 1, i, none⟩ = some (.string ⟨#[]⟩) := ((H2.out.below hb).c i).trans (by rw [List.getElem?_toArray, nmC_at _ _ (by omega), if_neg (by omega)]); have f5 := (H2.out.below hb).f i; have HC := hid hb; clear hb)
      go_roundw
      case rel =>
        have hfs := fr_set w1 (w.heap.size + 1) i (.string (strB (nameL (fr + 1 + i))))
        refine ⟨i + 1, by omega, by go_num, ?_, ?_, ?_, ?_⟩
        · have hb1 := H1.out.below HC.out
          exact (hfs.same _ hb1.lt (by omega)).trans hb1
        · rw [← nmC_set fr (show i < 16 by omega)]
          exact (H2.out.below HC.out).set i _
        · exact (H3.out.trans (HC.out.mono H3.out.size)).trans (hfs.below (fun k hk => by omega) (by have := H4.out; have := HC.out.size; omega))
        · have h7 := hfs.low.size; have := H4.out; have := HC.out.size; omega
      case measure => simp [intOf]; omega
    · have e1 : i = m := by omega
      subst e1
      have H1 := hid b1; have H2 := hid b2; have H3 := hid b3; have H4 := hid b4
      clear b1 b2 b3 b4
      go_upto_region 7 with (fail)
      rename_i K1 hK1
      refine wp_region_lit ?_
      refine wpList_step fun KQ hK' => ?_
      refine step_load rfl 59 (.tmp 5) rfl (w.heap.size + 1) 0 (by rfl) (nmC fr i) _ (box_range H2.out) Tryz.underlying59 rfl (size59 fr i) ?_
      refine hK' _ _ ?_
      clear hK'
      refine wpList_step fun KQ hK' => ?_
      refine step_store_mid rfl 59 (.tmp 4) (.tmp 17) rfl w.heap.size 0 (nmC fr i).toArray (by rfl) (by rfl) (box_there H1.out _ (by rw [List.size_toArray, nmC_len, nmC_len]; exact Nat.le_refl _)) (by rw [List.size_toArray]; exact size59 fr i) (all_oneCell (nmC_one fr i)) ?_
      refine hK' _ _ ?_
      clear hK'
      refine wpList_nil ?_
      refine hK1 _ _ ?_
      clear hK1
      refine wp_ret ?_
      have hth := box_there H1.out (nmC fr i).length (by rw [nmC_len, nmC_len]; exact Nat.le_refl _)
      have hre := World.rangeAt_setCells_same wr w.heap.size 0 (nmC fr i) (by simpa using hth)
      have hfz : Fr (fun b => b = w.heap.size) wr (wr.setCells w.heap.size 0 (nmC fr i).toArray.toList) := fr_cells _ _ _
      have hBE : Below w.heap.size w (wr.setCells w.heap.size 0 (nmC fr i).toArray.toList) := H3.out.trans (hfz.below (n := w.heap.size) (fun q hq => by omega) H3.out.size)
      refine bodyPost_ret (results_c1 rfl rfl (run_loadVar_mid _ w.heap.size 0 59 (nmC fr i) _ hre Tryz.underlying59 rfl (size59 fr i))) rfl ?_
      exact ⟨rfl, hBE⟩
end Go.Proofs.YtppgmepmegelbaaGreatDoor
/- What the document's joins and constant answer. -/
namespace Go.Proofs.YtppgmepmegelbaaGreatDoor
open Go.RowKit Go.Deep

set_option maxRecDepth 100000 in
set_option maxHeartbeats 1000000 in
theorem joins_still (a : Option Addr) (n cap : Nat) (l : List Sym) (f : Int) (w : World) (h : SigAt w a n l) :
    Calls Tryz.prog 30 #[.slice a n cap, .int .i64 f] w fun e w' => e = .returned (.bool (joinsAt l f)) ∧ w' = w := by
  have HS : Hid (SigAt w a n l) := h
  have hm := h.small
  unfold maxLen at hm
  obtain rfl := h.len
  clear h
  by_cases h0 : f < 0
  · have e : Hid (joinsAt l f = false) := by show _ = _; unfold joinsAt; rw [symAt_out (by omega)]
    have hd : ¬ 0 ≤ f := by omega
    go_enter Tryz.func30, Tryz.ntmps30
    go_wp2
    go_ret
    exact ⟨by rw [e.out]; rfl, rfl⟩
  · obtain ⟨k, rfl⟩ : ∃ k : Nat, f = k := ⟨f.toNat, by omega⟩
    by_cases hk : k < l.length
    · obtain ⟨b, off, rfl, hs⟩ := HS.out.cells k hk
      have e : Hid (joinsAt l (k : Int) = (decide (l[k].kind = 2) || decide (l[k].kind = 3))) := by show _ = _; unfold joinsAt; rw [symAt_in hk]
      obtain ⟨s, hs1⟩ : ∃ s, l[k] = s := ⟨_, rfl⟩
      rw [hs1] at hs e
      have c1 := hs.kind
      have hk0 : (0 : Int) ≤ (k : Int) := by omega
      have hkn : (k : Int) < (l.length : Int) := by omega
      clear hs hs1 h0
      by_cases h2 : s.kind = 2
      · have hd : (s.kind == 2) = true := by simp [h2]
        go_enter Tryz.func30, Tryz.ntmps30
        go_wp2
        go_ret
        exact ⟨by rw [e.out]; simp [h2], rfl⟩
      · have hd : (s.kind == 2) = false := by simp [h2]
        by_cases h3 : s.kind = 3
        · have hd3 : (s.kind == 3) = true := by simp [h3]
          go_enter Tryz.func30, Tryz.ntmps30
          go_wp2
          go_ret
          exact ⟨by rw [e.out]; simp [h3], rfl⟩
        · have hd3 : (s.kind == 3) = false := by simp [h3]
          go_enter Tryz.func30, Tryz.ntmps30
          go_wp2
          go_ret
          exact ⟨by rw [e.out]; simp [h2, h3], rfl⟩
    · have e : Hid (joinsAt l (k : Int) = false) := by show _ = _; unfold joinsAt; rw [symAt_out (by omega)]
      have hd : ¬ (k : Int) < (l.length : Int) := by omega
      go_enter Tryz.func30, Tryz.ntmps30
      go_wp2
      go_ret
      exact ⟨by rw [e.out]; rfl, rfl⟩
set_option maxRecDepth 100000 in
theorem joins_any (a : Option Addr) (n cap : Nat) (l : List Sym) (f : Int) (w : World) (h : SigAt w a n l) :
    Calls Tryz.prog 30 #[.slice a n cap, .int .i64 f] w fun e w' => e = .returned (.bool (joinsAt l f)) ∧ Below w.heap.size w w' :=
  (joins_still a n cap l f w h).mono fun e w' ⟨h1, h2⟩ => ⟨h1, by rw [h2]; exact Below.refl _ _⟩

set_option maxRecDepth 100000 in
set_option maxHeartbeats 1000000 in
theorem constant_any (t : Tn) (a : Option Addr) (c : Nat) (u : Int) (w : World) (hc : lenF t.2 ≤ 9223372036854775807) :
    Calls Tryz.prog 55 #[.agg #[.string t.1.1, .int .i64 t.1.2, .slice a (lenF t.2) c], .int .i64 u] w fun e w' => e = .returned (.bool (isConst t u)) ∧ Below w.heap.size w w' := by
  have hb := TBox.new w t.1 a (lenF t.2) c
  have hlow : Hid (Below w.heap.size w (w.alloc (.cells #[.string t.1.1, .int .i64 t.1.2, .slice a (lenF t.2) c] 28))) := (Below.refl _ w).alloc (Nat.le_refl _) _
  cases hn : t.1.1.toList.isEmpty
  · have e : Hid (isConst t u = false) := by show _ = _; unfold isConst noName; rw [hn]; rfl
    go_enter Tryz.func55, Tryz.ntmps55
    go_wp2
    go_ret
    exact ⟨by rw [e.out]; rfl, hlow.out⟩
  · cases hs : (t.1.2 == u)
    · have e : Hid (isConst t u = false) := by show _ = _; unfold isConst; rw [hs]; simp
      go_enter Tryz.func55, Tryz.ntmps55
      go_wp2
      go_ret
      exact ⟨by rw [e.out]; rfl, hlow.out⟩
    · have e : Hid (isConst t u = (lenF t.2 == 0)) := by show _ = _; unfold isConst noName; rw [hs, hn]; simp
      obtain ⟨n, hnn⟩ : ∃ n, lenF t.2 = n := ⟨_, rfl⟩
      rw [hnn] at hb hlow e hc ⊢
      clear hnn
      cases n with
      | zero =>
        go_enter Tryz.func55, Tryz.ntmps55
        go_wp2
        go_ret
        exact ⟨by rw [e.out]; rfl, hlow.out⟩
      | succ n =>
        have hd : ((n : Int) + 1 == 0) = false := by simp; omega
        go_enter Tryz.func55, Tryz.ntmps55
        go_wp2
        go_ret
        exact ⟨by rw [e.out]; rfl, hlow.out⟩
end Go.Proofs.YtppgmepmegelbaaGreatDoor
/- What the document's Compare answers of any two terms; Same. -/
namespace Go.Proofs.YtppgmepmegelbaaGreatDoor
open Go.RowKit Go.Deep

theorem lt_bytes : ∀ a b : List UInt8, a < b ↔ Lib.compareBytes a b = -1
  | [], [] => by simp [Lib.compareBytes]
  | [], _ :: _ => by simp [Lib.compareBytes]
  | _ :: _, [] => by simp [Lib.compareBytes]
  | a :: u, b :: v => by
    have ih := lt_bytes u v
    rw [List.cons_lt_cons_iff, Lib.compareBytes, ih]
    by_cases h1 : a < b
    · simp [h1]
    · by_cases h2 : b < a
      · have : a ≠ b := fun e => by subst e; exact absurd h2 h1
        simp [h1, h2, this]
      · have h1' : ¬ a.toNat < b.toNat := fun h => h1 (UInt8.lt_iff_toNat_lt.2 h)
        have h2' : ¬ b.toNat < a.toNat := fun h => h2 (UInt8.lt_iff_toNat_lt.2 h)
        have : a = b := UInt8.toNat_inj.1 (by omega)
        simp [this]
theorem bytes_less (x y : ByteArray) : Op.bytesLess x.toList y.toList = decide (cmpS x y = -1) := by
  rw [bytesLess_eq, ByteArray.toList_eq, ByteArray.toList_eq]
  exact decide_eq_decide.2 (lt_bytes _ _)
theorem cmpS_three (x y : ByteArray) : cmpS x y = if Op.bytesLess x.toList y.toList = true then -1 else if (x.toList == y.toList) = true then 0 else 1 := by
  rw [bytes_less, ByteArray.toList_eq, ByteArray.toList_eq]
  unfold cmpS
  have hr : Lib.compareBytes x.data.toList y.data.toList = -1 ∨ Lib.compareBytes x.data.toList y.data.toList = 0 ∨ Lib.compareBytes x.data.toList y.data.toList = 1 := by
    have : ∀ a b : List UInt8, -1 ≤ Lib.compareBytes a b ∧ Lib.compareBytes a b ≤ 1 := by
      intro a
      induction a with
      | nil => intro b; cases b <;> simp [Lib.compareBytes]
      | cons p u ih =>
        intro b
        cases b with
        | nil => simp [Lib.compareBytes]
        | cons q v =>
          have := ih v
          rw [Lib.compareBytes]
          split
          · omega
          · split <;> omega
    have := this x.data.toList y.data.toList
    omega
  by_cases e : x.data.toList = y.data.toList
  · rw [e, bytes_refl]; simp
  · have h0 : Lib.compareBytes x.data.toList y.data.toList ≠ 0 := fun h => e (bytes_zero h)
    rcases hr with h | h | h
    · simp [h]
    · exact absurd h h0
    · simp only [h]
      have : (x.data.toList == y.data.toList) = false := by simpa using e
      rw [this]; rfl
def RCmpOk (k : Nat) : Prop := ∀ (x y : ByteArray × Int) (a a' : Option Addr) (c c' : Nat) (l m : Fo) (w : World), nodesF l ≤ k → TmAt w x a c l → TmAt w y a' c' m →
  Calls Tryz.prog 29 #[.agg #[.string x.1, .int .i64 x.2, .slice a (lenF l) c], .agg #[.string y.1, .int .i64 y.2, .slice a' (lenF m) c']] w
    fun e w' => e = .returned (.int .i64 (cmp1 x y (lenF l) (lenF m) (cmpF l m))) ∧ Below w.heap.size w w'

set_option maxRecDepth 100000 in
set_option maxHeartbeats 2000000 in
theorem rcompare_all : ∀ k, RCmpOk k := by
  intro k
  induction k using Nat.strongRecOn with
  | _ k ih =>
    intro x y a a' c c' l m w hk hA hB
    have HA : Hid (TmAt w x a c l) := hA
    have HB : Hid (TmAt w y a' c' m) := hB
    have IH : Hid (∀ j, j < k → RCmpOk j) := ih
    have hmax : maxLen = 9223372036854775807 := rfl
    have hs1 := hA.sizes.len
    have hs2 := hA.sizes.cap
    have PA : Hid (Pair w x a (lenF l) c y a' (lenF m) c' ((w.alloc (.cells #[.string x.1, .int .i64 x.2, .slice a (lenF l) c] 28)).alloc (.cells #[.string y.1, .int .i64 y.2, .slice a' (lenF m) c'] 28))) := Pair.new _ _ _ _ _ _ _ _ _
    clear hA hB ih
    cases hx : x.1.toList.isEmpty <;> cases hy : y.1.toList.isEmpty
    · have hr : Hid (cmp1 x y (lenF l) (lenF m) (cmpF l m) = cmpS x.1 y.1) := by show _ = _; unfold cmp1 noName; rw [hx, hy]; rfl
      have hS := cmpS_three x.1 y.1
      cases h1 : Op.bytesLess x.1.toList y.1.toList
      · cases h2 : (x.1.toList == y.1.toList)
        · rw [h1, h2] at hS
          go_enter Tryz.func29, Tryz.ntmps29
          go_wp2
          go_ret
          exact ⟨by rw [hr.out, hS]; rfl, PA.out.low⟩
        · rw [h1, h2] at hS
          go_enter Tryz.func29, Tryz.ntmps29
          go_wp2
          go_ret
          exact ⟨by rw [hr.out, hS]; rfl, PA.out.low⟩
      · rw [h1] at hS
        go_enter Tryz.func29, Tryz.ntmps29
        go_wp2
        go_ret
        exact ⟨by rw [hr.out, hS]; rfl, PA.out.low⟩
    · have hr : Hid (cmp1 x y (lenF l) (lenF m) (cmpF l m) = -1) := by show _ = _; unfold cmp1 noName cmpS; rw [hx, hy]; rfl
      go_enter Tryz.func29, Tryz.ntmps29
      go_wp2
      go_ret
      exact ⟨by rw [hr.out]; rfl, PA.out.low⟩
    · have hr : Hid (cmp1 x y (lenF l) (lenF m) (cmpF l m) = 1) := by show _ = _; unfold cmp1 noName cmpS; rw [hx, hy]; rfl
      go_enter Tryz.func29, Tryz.ntmps29
      go_wp2
      go_ret
      exact ⟨by rw [hr.out]; rfl, PA.out.low⟩
    · cases hs : (x.2 != y.2)
      · cases hn : ((lenF l : Int) != (lenF m : Int))
        · have hr : Hid (cmp1 x y (lenF l) (lenF m) (cmpF l m) = cmpF l m) := by
            show _ = _; unfold cmp1 noName cmpS; rw [hx, hy]; simp at hs hn; simp [hs]; omega
          have hlm : Hid (lenF m = lenF l) := by show _ = _; simp at hn; omega
          go_enter Tryz.func29, Tryz.ntmps29
          go_wp2
          go_loopw [5, 6] (fun i _ wr => ∃ j : Nat, j ≤ lenF l ∧ i = .int .i64 j ∧ Pair w x a (lenF l) c y a' (lenF m) c' wr ∧ cmpF l m = cmpF (dropF j l) (dropF j m)) (fun i _ _ => lenF l - (intOf i).toNat)
          case atStart => exact ⟨0, Nat.zero_le _, rfl, PA.out, by rw [drop_zero, drop_zero]⟩
          case round =>
            obtain ⟨j, hj, rfl, hP, hcmp⟩ := hrel
            have t2 := hP.l.c2
            by_cases hlt : j < lenF l
            · obtain ⟨b1, o1, rfl, hk1⟩ := HA.out.args.get (by omega)
              obtain ⟨b2, o2, rfl, hk2⟩ := HB.out.args.get (by have := hlm.out; omega)
              obtain ⟨z, a1, c1, l1, kd⟩ := hk1.kid (k := j) hlt
              obtain ⟨z', a2, c2, l2, kd2⟩ := hk2.kid (k := j) (by have := hlm.out; omega)
              have kd' := kd.below hP.low
              have kd2' := kd2.below hP.low
              have HP : Hid (Pair w x (some ⟨b1, o1, none⟩) (lenF l) c y (some ⟨b2, o2, none⟩) (lenF m) c' wr) := hP
              have hC : Hid (∀ w', Below wr.heap.size wr w' → Calls Tryz.prog 29 #[.agg #[.string z.1, .int .i64 z.2, .slice a1 (lenF l1) c1], .agg #[.string z'.1, .int .i64 z'.2, .slice a2 (lenF l2) c2]] w' fun e w'' => e = .returned (.int .i64 (cmp1 z z' (lenF l1) (lenF l2) (cmpF l1 l2))) ∧ Below w'.heap.size w' w'') := fun w' hb =>
                IH.out (nodesF l1) (by have := kd.less; omega) z z' a1 a2 c1 c2 l1 l2 w' (Nat.le_refl _) (kd'.at_.below hb) (kd2'.at_.below hb)
              obtain ⟨B1, O1, s1⟩ := kd.split
              obtain ⟨B2, O2, s2⟩ := kd2.split
              rw [s1, s2, cmpF] at hcmp
              have HC : Hid (cmpF l m = thenC (cmp1 z z' (lenF l1) (lenF l2) (cmpF l1 l2)) (cmpF (dropF (j + 1) l) (dropF (j + 1) m))) := hcmp
              have hne := later_some wr
              have d0 := later_cell hP.l.c2
              have d1 := later_cell hP.r.c2
              have p0 := later_cell kd'.name; have p1 := later_cell kd'.sym; have p2 := later_cell kd'.list
              have q0 := later_cell kd2'.name; have q1 := later_cell kd2'.sym; have q2 := later_cell kd2'.list
              have hk0 : (0 : Int) ≤ (j : Int) := by omega
              have hkn : (j : Int) < (lenF l : Int) := by omega
              have hkm : (j : Int) < (lenF m : Int) := by have := hlm.out; omega
              clear kd kd2 kd' kd2' hk1 hk2 hP hcmp s1 s2
              go_wp2_with fail
              refine wp_region_later (by kernel_rfl) (by kernel_rfl) ?_
              repeat (go_big_quiet_step ((refine calls_later (hC.out _ ?_); exact Later.below _)))
              refine wpQuiet_nil ?_
              intro _ hw'
              obtain ⟨bl, hw''⟩ := hw'
              subst hw''
              have HP2 : Hid (Pair w x (some ⟨b1, o1, none⟩) (lenF l) c y (some ⟨b2, o2, none⟩) (lenF m) c' bl.now) := HP.out.below bl.below
              clear d0 d1 p0 p1 p2 q0 q1 q2 t2
              cases hz : (cmp1 z z' (lenF l1) (lenF l2) (cmpF l1 l2) != 0)
              · go_wp2
                go_roundw
                case rel => exact ⟨j + 1, by omega, by go_num, HP2.out, by rw [HC.out]; unfold thenC; rw [if_pos (by simpa using hz)]⟩
                case measure => simp [intOf]; omega
              · go_wp2
                go_ret
                refine ⟨?_, HP2.out.low⟩
                rw [hr.out, HC.out]; unfold thenC; rw [if_neg (by simpa using hz)]; rfl
            · have hz : cmpF l m = 0 := by
                rw [hcmp, show j = lenF l by omega, drop_end]; rfl
              go_wp2
              go_ret
              exact ⟨by rw [hr.out, hz]; rfl, hP.low⟩
        · have hr : Hid (cmp1 x y (lenF l) (lenF m) (cmpF l m) = Lib.compareInt (lenF l) (lenF m)) := by
            show _ = _; unfold cmp1 noName cmpS; rw [hx, hy]; simp at hs hn; simp [hs]; omega
          have hne : lenF l ≠ lenF m := by simp at hn; omega
          by_cases h1 : lenF l < lenF m
          · go_enter Tryz.func29, Tryz.ntmps29
            go_wp2
            go_ret
            refine ⟨?_, PA.out.low⟩
            rw [hr.out]; unfold Lib.compareInt; rw [if_pos (by omega)]; rfl
          · go_enter Tryz.func29, Tryz.ntmps29
            go_wp2
            go_ret
            refine ⟨?_, PA.out.low⟩
            rw [hr.out]; unfold Lib.compareInt; rw [if_neg (by omega), if_pos (by omega)]; rfl
      · have hr : Hid (cmp1 x y (lenF l) (lenF m) (cmpF l m) = Lib.compareInt x.2 y.2) := by
          show _ = _; unfold cmp1 noName cmpS; rw [hx, hy]; simp at hs; simp [hs]
        have hne : x.2 ≠ y.2 := by simpa using hs
        by_cases h1 : x.2 < y.2
        · go_enter Tryz.func29, Tryz.ntmps29
          go_wp2
          go_ret
          refine ⟨?_, PA.out.low⟩
          rw [hr.out]; unfold Lib.compareInt; rw [if_pos h1]; rfl
        · go_enter Tryz.func29, Tryz.ntmps29
          go_wp2
          go_ret
          refine ⟨?_, PA.out.low⟩
          rw [hr.out]; unfold Lib.compareInt; rw [if_neg (by omega), if_pos (by omega)]; rfl

end Go.Proofs.YtppgmepmegelbaaGreatDoor
/- What the document's Sorted answers: the terms in order, in a row of its own; their lists are those that came in. -/
namespace Go.Proofs.YtppgmepmegelbaaGreatDoor
open Go.RowKit Go.Deep

def Kv.tn (k : Kv) : Tn := (k.x, k.l)
set_option maxRecDepth 100000 in
/-- Where one is laid into a list in order: ahead of all that are greater. -/
theorem ins_at {x : Tn} : ∀ {l : List Tn} {n : Nat}, Srt l → n ≤ l.length → (∀ j y, n ≤ j → l[j]? = some y → cmpN y x > 0) → (n = 0 ∨ ∀ y, l[n - 1]? = some y → cmpN y x ≤ 0) → insN x l = l.take n ++ x :: l.drop n
  | [], n, _, hn, _, _ => by simp at hn; subst hn; rfl
  | y :: r, 0, _, _, h1, _ => by
    have := h1 0 y (Nat.le_refl _) rfl
    rw [insN, if_pos this]
    rfl
  | y :: r, n + 1, hs, hn, h1, h2 => by
    obtain ⟨s1, s2⟩ := List.pairwise_cons.1 hs
    simp only [List.length_cons] at hn
    rcases h2 with h2 | h2
    · omega
    have hlt : n < (y :: r).length := by simp; omega
    have h3 := h2 ((y :: r)[n]) (by rw [Nat.add_sub_cancel]; exact List.getElem?_eq_getElem hlt)
    have hy : ¬ cmpN y x > 0 := by
      have : leN y x := by
        cases n with
        | zero => exact h3
        | succ n => exact leN_trans (s1 _ (by simp)) h3
      unfold leN at this
      omega
    rw [insN, if_neg hy, ins_at (n := n) s2 (by omega) (fun j z hj hz => h1 (j + 1) z (by omega) (by simpa using hz)) (by
      cases n with
      | zero => exact .inl rfl
      | succ n => exact .inr (fun z hz => h2 z (by simpa using hz)))]
    rfl
set_option maxRecDepth 100000 in
theorem sortN_snoc (l : List Tn) (x : Tn) : sortN (l ++ [x]) = insN x (sortN l) := by
  unfold sortN
  rw [List.foldl_append]
  rfl

/-! ### lists of terms in memory -/
set_option maxRecDepth 100000 in
theorem kvCells_append (a b : List Kv) : kvCells (a ++ b) = kvCells a ++ kvCells b := by simp [kvCells]
set_option maxRecDepth 100000 in
theorem kvCells_one : ∀ ks : List Kv, ∀ u ∈ kvCells ks, u.oneCell' = true := fun ks u hu => by
  obtain ⟨k, _, h⟩ := List.mem_flatMap.1 hu
  exact kv_one k u h
set_option maxRecDepth 100000 in
theorem kvCells_drop (ks : List Kv) (n : Nat) : kvCells (ks.drop n) = (kvCells ks).drop (n * 3) := by
  induction n generalizing ks with
  | zero => simp
  | succ n ih =>
    cases ks with
    | nil => simp [kvCells]
    | cons k r =>
      rw [List.drop_succ_cons, ih r]
      show _ = (k.cells ++ kvCells r).drop ((n + 1) * 3)
      rw [List.drop_append, show (n + 1) * 3 - k.cells.length = n * 3 by rw [show k.cells.length = 3 from rfl]; omega, (List.drop_eq_nil_of_le (by rw [show k.cells.length = 3 from rfl]; omega) : k.cells.drop ((n + 1) * 3) = [])]
      rfl
set_option maxRecDepth 100000 in
theorem kvCells_take (ks : List Kv) (n : Nat) : kvCells (ks.take n) = (kvCells ks).take (n * 3) := by
  induction n generalizing ks with
  | zero => simp [kvCells]
  | succ n ih =>
    cases ks with
    | nil => simp [kvCells]
    | cons k r =>
      rw [List.take_succ_cons]
      show k.cells ++ kvCells (r.take n) = (k.cells ++ kvCells r).take ((n + 1) * 3)
      rw [ih r, List.take_append, show (n + 1) * 3 - k.cells.length = n * 3 by rw [show k.cells.length = 3 from rfl]; omega, List.take_of_length_le (l := k.cells) (by rw [show k.cells.length = 3 from rfl]; omega)]
/-- The slice with this address holds these terms' cells. -/
structure RowAt (w : World) (a : Option Addr) (n : Nat) (ks : List Kv) : Prop where
  len : n = ks.length
  cells : ∀ j u, (kvCells ks)[j]? = some u → ∃ b off, a = some ⟨b, off, none⟩ ∧ w.cell? ⟨b, off + j, none⟩ = some u
set_option maxRecDepth 100000 in
theorem RowAt.below {w w' : World} {a : Option Addr} {n : Nat} {ks : List Kv} (h : RowAt w a n ks) (hb : Below w.heap.size w w') : RowAt w' a n ks :=
  ⟨h.len, fun j u hu => by obtain ⟨b, off, ha, hc⟩ := h.cells j u hu; exact ⟨b, off, ha, below_cell hb _ _ hc⟩⟩
set_option maxRecDepth 100000 in
theorem kv_cells {ks : List Kv} {j : Nat} {k : Kv} (h : ks[j]? = some k) : (kvCells ks)[j * 3]? = some (.string k.x.1) ∧ (kvCells ks)[j * 3 + 1]? = some (.int .i64 k.x.2) ∧ (kvCells ks)[j * 3 + 2]? = some (.slice k.a (lenF k.l) k.c) := by
  have e := kvCells_drop ks j
  obtain ⟨hlt, hk⟩ := List.getElem?_eq_some_iff.1 h
  rw [List.drop_eq_getElem_cons hlt, hk] at e
  have e2 : ∀ i, i < 3 → (kvCells ks)[j * 3 + i]? = (k.cells)[i]? := fun i hi => by
    rw [← List.getElem?_drop, ← e]
    show (k.cells ++ kvCells _)[i]? = _
    rw [List.getElem?_append_left (by simp [Kv.cells]; exact hi)]
  exact ⟨e2 0 (by omega), e2 1 (by omega), e2 2 (by omega)⟩
set_option maxRecDepth 100000 in
/-- The cells of one of them. -/
theorem RowAt.get {w : World} {a : Option Addr} {n : Nat} {ks : List Kv} (h : RowAt w a n ks) {j : Nat} {k : Kv} (hk : ks[j]? = some k) : ∃ b off, a = some ⟨b, off, none⟩ ∧ w.cell? ⟨b, off + j * 3, none⟩ = some (.string k.x.1) ∧ w.cell? ⟨b, off + j * 3 + 1, none⟩ = some (.int .i64 k.x.2) ∧ w.cell? ⟨b, off + j * 3 + 2, none⟩ = some (.slice k.a (lenF k.l) k.c) := by
  obtain ⟨h0, h1, h2⟩ := kv_cells hk
  obtain ⟨b, off, rfl, c0⟩ := h.cells _ _ h0
  obtain ⟨_, _, e1, c1⟩ := h.cells _ _ h1
  obtain ⟨_, _, e2, c2⟩ := h.cells _ _ h2
  cases e1
  cases e2
  exact ⟨b, off, rfl, c0, by rw [← Nat.add_assoc] at c1; exact c1, by rw [← Nat.add_assoc] at c2; exact c2⟩
set_option maxRecDepth 100000 in
theorem row_of_owns {w : World} {base n : Nat} {v : Value} {ks : List Kv} (h : w.ownsRow base 28 3 v n (kvCells ks)) : ∃ a cap, v = .slice a n cap ∧ n ≤ cap ∧ cap ≤ maxLen ∧ RowAt w a n ks ∧ (a = none → n = 0 ∧ cap = 0) ∧ (∀ b off sp, a = some ⟨b, off, sp⟩ → base ≤ b ∧ off = 0 ∧ sp = none) := by
  have hl : ks.length = n := by have := h.1; rw [kvCells_len] at this; omega
  rcases h.2 with ⟨rfl, h0⟩ | ⟨g, cap, cur, rfl, hb, hg, hnc, hcm, hsz, hcur⟩
  · obtain rfl : ks = [] := List.length_eq_zero_iff.1 (hl.trans h0)
    exact ⟨none, 0, by rw [h0], by omega, by simp, ⟨by omega, fun j u hu => by simp [kvCells] at hu⟩, fun _ => ⟨h0, rfl⟩, fun b off sp e => by cases e⟩
  · exact ⟨_, cap, rfl, hnc, hcm, ⟨hl.symm, fun j u hu => ⟨g, 0, rfl, owns_at h j u hu⟩⟩, (fun e => by cases e), (fun b off sp e => by cases e; exact ⟨hb, rfl, rfl⟩)⟩

set_option maxRecDepth 100000 in
/-- append of what another slice holds, be it nil, be it empty. -/
theorem wpList_append_kvs {ops : Array Oper} {rest : List Oper} {o : Oper} {a : Act} {Q : Exit → Act → World → Prop} {W : World} (hgd : o.guard = none) (s x : Operand)
    (ho : o.op = .call { callee := .builtin .append, args := #[s, x], argTypes := #[26, 26] }) (base : Nat) (v : Value) (ks : List Kv) (hs : a.eval s = v) (hown : W.ownsRow base 28 3 v ks.length (kvCells ks))
    (sa : Option Addr) (m c : Nat) (ms : List Kv) (hx : a.eval x = .slice sa m c) (hm : RowAt W sa m ms) (hnil : sa = none → c = 0) (hbig : ks.length + m ≤ 4194304) (hbase : base ≤ W.heap.size)
    (h : ∀ v' w', w'.ownsRow base 28 3 v' (ks ++ ms).length (kvCells (ks ++ ms)) → W.grownBy w' v.ownBlock → wpList Tryz.prog ops Q rest (a.put o.dst v') w') : wpList Tryz.prog ops Q (o :: rest) a W := by
  obtain ⟨i0, hi, hz0, hz1, hz2⟩ := info_parts Tryz.info28
  have hmax : maxLen = 9223372036854775807 := rfl
  rcases sa with _ | ⟨b, off, sp⟩
  · obtain rfl : ms = [] := by
      cases ms with
      | nil => rfl
      | cons k r =>
        obtain ⟨_, _, e, _⟩ := hm.get (j := 0) (k := k) rfl
        cases e
    obtain rfl := hm.len
    obtain rfl := hnil rfl
    refine wpList_append_own_none hgd s x 26 ho base 28 i0 3 Tryz.underlying26 hi v ks.length (kvCells ks) hs hown hx (h v W (by simpa using hown) ?_)
    exact ⟨rfl, rfl, rfl, Nat.le_refl _, fun _ _ _ => rfl⟩
  · have hlm := hm.len
    refine wpList_append_own _ hgd s x 26 ho base 28 i0 _ 3 48 Tryz.underlying26 hi hz0 hz1 hz2 rfl (by decide) v ks.length (kvCells ks) hs hown ⟨b, off, sp⟩ m c (kvCells ms) hx (by rw [kvCells_len, hlm]) (fun j u hu => ?_) (kvCells_one ms) (by omega) (by omega) hbase ?_
    · obtain ⟨b', off', e, hc⟩ := hm.cells j u hu
      cases e
      rw [← hc]
      congr 1
      unfold Addr.add
      split <;> simp_all
    · intro v' w' h1 h2 _
      refine h v' w' ?_ h2
      rw [kvCells_append, List.length_append, ← hlm]
      exact h1
end Go.Proofs.YtppgmepmegelbaaGreatDoor
/- The walk of the document's Sorted. -/
namespace Go.Proofs.YtppgmepmegelbaaGreatDoor
open Go.RowKit Go.Deep

set_option maxRecDepth 100000 in
theorem RowAt.take {w : World} {a : Option Addr} {n : Nat} {ks : List Kv} (h : RowAt w a n ks) {p : Nat} (hp : p ≤ ks.length) : RowAt w a p (ks.take p) :=
  ⟨by simp; omega, fun j u hu => h.cells j u (by
    rw [kvCells_take, List.getElem?_take] at hu
    split at hu
    · exact hu
    · cases hu)⟩
set_option maxRecDepth 100000 in
theorem RowAt.drop {w : World} {g off n : Nat} {ks : List Kv} (h : RowAt w (some ⟨g, off, none⟩) n ks) {p : Nat} (_ : p ≤ ks.length) : RowAt w (some ⟨g, off + p * 3, none⟩) (n - p) (ks.drop p) :=
  ⟨by rw [List.length_drop, h.len], fun j u hu => by
    rw [kvCells_drop, List.getElem?_drop] at hu
    obtain ⟨b, o, e, hc⟩ := h.cells _ u hu
    cases e
    exact ⟨g, off + p * 3, rfl, by rw [Nat.add_assoc]; exact hc⟩⟩
set_option maxRecDepth 100000 in
theorem RowAt.empty (w : World) (a : Option Addr) : RowAt w a 0 [] := ⟨rfl, fun j u hu => by simp [kvCells] at hu⟩
set_option maxRecDepth 100000 in
theorem row_empty26 (w : World) : (w.alloc (.cells #[] 28)).ownsRow w.heap.size 28 3 (.slice (some ⟨w.heap.size, 0, none⟩) 0 0) 0 (kvCells []) :=
  ⟨rfl, .inr ⟨w.heap.size, 0, #[], rfl, Nat.le_refl _, World.alloc_heap_new w _, Nat.le_refl _, Nat.zero_le _, rfl, rfl⟩⟩
set_option maxRecDepth 100000 in
theorem RowAt.new (w : World) (k : Kv) : RowAt (w.alloc (.cells #[.string k.x.1, .int .i64 k.x.2, .slice k.a (lenF k.l) k.c] 28)) (some ⟨w.heap.size, 0, none⟩) 1 [k] :=
  ⟨rfl, fun j u hu => by
    refine ⟨w.heap.size, 0, rfl, ?_⟩
    have h := World.news_of_block (heap_alloc_new w (.cells #[.string k.x.1, .int .i64 k.x.2, .slice k.a (lenF k.l) k.c] 28)) j u (by simpa [kvCells, Kv.cells] using hu)
    rw [← h]
    congr 1
    unfold Addr.add
    split <;> simp_all⟩
/-- What the inner loop has found when it ends. -/
structure Found (out : List Kv) (k : Kv) (p : Nat) : Prop where
  le : p ≤ out.length
  gt : ∀ q y, p ≤ q → out[q]? = some y → cmpN y.tn k.tn > 0
  at_ : p = 0 ∨ ∀ y, out[p - 1]? = some y → cmpN y.tn k.tn ≤ 0
set_option maxRecDepth 100000 in
theorem Found.ins {out : List Kv} {k : Kv} {p : Nat} (h : Found out k p) (hs : Srt (out.map Kv.tn)) : (out.take p ++ [k] ++ out.drop p).map Kv.tn = insN k.tn (out.map Kv.tn) := by
  rw [ins_at hs (n := p) (by simpa using h.le) (fun j y hj hy => by
    rw [List.getElem?_map, Option.map_eq_some_iff] at hy
    obtain ⟨z, hz, rfl⟩ := hy
    exact h.gt j z hj hz) (by
    rcases h.at_ with h0 | h0
    · exact .inl h0
    · refine .inr (fun y hy => ?_)
      rw [List.getElem?_map, Option.map_eq_some_iff] at hy
      obtain ⟨z, hz, rfl⟩ := hy
      exact h0 z hz)]
  simp

set_option maxRecDepth 100000 in
set_option maxHeartbeats 2000000 in
theorem sorted_any (a : Option Addr) (n cap : Nat) (ks : List Kv) (w : World) (hR : RowAt w a n ks) (hK : ∀ k ∈ ks, TmAt w k.x k.a k.c k.l) (hn : n ≤ 2097152) :
    Calls Tryz.prog 34 #[.slice a n cap] w fun e w' => ∃ v out, e = .returned v ∧ w'.ownsRow w.heap.size 28 3 v out.length (kvCells out) ∧ (∀ k ∈ out, k ∈ ks) ∧ out.map Kv.tn = sortN (ks.map Kv.tn) ∧ Below w.heap.size w w' := by
  obtain rfl := hR.len
  have HR : Hid (RowAt w a ks.length ks) := hR
  have HK : Hid (∀ k ∈ ks, TmAt w k.x k.a k.c k.l) := hK
  clear hR hK
  go_enter Tryz.func34, Tryz.ntmps34
  go_wp2
  go_loopw [3, 4] (fun ov i wr => ∃ (j : Nat) (v : Value) (out : List Kv), j ≤ ks.length ∧ v = ov ∧ i = .int .i64 j ∧ wr.ownsRow w.heap.size 28 3 v out.length (kvCells out) ∧ (∀ k ∈ out, k ∈ ks) ∧ out.map Kv.tn = sortN ((ks.take j).map Kv.tn) ∧ Below w.heap.size w wr) (fun _ i _ => ks.length - (intOf i).toNat)
  case atStart => exact ⟨0, _, [], Nat.zero_le _, rfl, rfl, World.ownsRow_nil _ _ _ _, by simp, by simp [sortN], Below.refl _ _⟩
  case round =>
    obtain ⟨j, v, out, hj, rfl, rfl, hrow, hin, hmap, hlow⟩ := hrel
    have HRow : Hid (wr.ownsRow w.heap.size 28 3 v out.length (kvCells out)) := hrow
    have HIn : Hid (∀ k ∈ out, k ∈ ks) := hin
    have HM : Hid (out.map Kv.tn = sortN ((ks.take j).map Kv.tn)) := hmap
    have HL : Hid (Below w.heap.size w wr) := hlow
    have hol : out.length ≤ ks.length := by
      have := congrArg List.length hmap
      rw [List.length_map, sortN_len, List.length_map, List.length_take] at this
      omega
    clear hrow hin hmap hlow
    by_cases hlt : j < ks.length
    · obtain ⟨kv, hkv⟩ : ∃ kv, ks[j]? = some kv := ⟨_, List.getElem?_eq_getElem hlt⟩
      obtain ⟨b, off, rfl, s0, s1, s2⟩ := (HR.out.below HL.out).get hkv
      have HKV : Hid (ks[j]? = some kv) := hkv
      have HTk : Hid (TmAt wr kv.x kv.a kv.c kv.l) := (HK.out kv (List.mem_of_getElem? hkv)).below HL.out
      obtain ⟨oa, ocap, rfl, hoc, hocm, hot, honil, hosome⟩ := row_of_owns HRow.out
      have HOT : Hid (RowAt wr oa out.length out) := hot
      obtain ⟨wo, rfl⟩ : ∃ wo, wo = wr := ⟨wr, rfl⟩
      have hjn : (j : Int) < (ks.length : Int) := by omega
      have hj0 : (0 : Int) ≤ (j : Int) := by omega
      clear hot hkv
      rcases oa with _ | ⟨g, o2, sp⟩
      · obtain ⟨ho0, rfl⟩ := honil rfl
        obtain rfl : out = [] := List.length_eq_zero_iff.1 ho0
        clear ho0 hosome honil
        have hd : decide (0 < 0) = false := by simp
        go_wp2
        go_loopw [5] (fun av W => av = .int .i64 0 ∧ Below wo.heap.size wo W) (fun av _ => (intOf av).toNat)
        case atStart => exact ⟨rfl, Below.refl _ _⟩
        case round =>
          obtain ⟨rfl, hW⟩ := hrel
          have HW : Hid (Below wo.heap.size wo wr) := hW
          have hF : Hid (Found ([] : List Kv) kv 0) := ⟨Nat.le_refl _, fun q y _ hy => by simp at hy, .inl rfl⟩
          have hne := later_some wr
          clear hW
          go_wp2_with fail
          refine wp_region_later (by kernel_rfl) (by kernel_rfl) ?_
          repeat (go_big_quiet_step (fail))
          refine wpQuiet_nil ?_
          intro _ hw'
          obtain ⟨b3, hw''⟩ := hw'
          subst hw''
          have HW9 : Hid (Below wo.heap.size wo b3.now) := HW.out.trans (b3.below.mono HW.out.size)
          obtain ⟨W9, hW9⟩ : ∃ W9, b3.now = W9 := ⟨_, rfl⟩
          rw [hW9] at HW9 ⊢
          clear hW9 hne
          have HA9 : Hid (Below W9.heap.size W9 (W9.alloc (.cells #[] 28))) := (Below.refl _ _).alloc (Nat.le_refl _) _
          have HO9 : Hid (RowAt (W9.alloc (.cells #[] 28)) none 0 []) := (HOT.out.below HW9.out).below HA9.out
          have hz9 := HW9.out.size
          go_wp2_with (at_builtin; first
            | (refine wpList_append_kvs rfl (.tmp 32) (.tmp 35) rfl W9.heap.size _ [] rfl (row_empty26 W9) none 0 0 (([] : List Kv)) rfl HO9.out (fun _ => rfl) (by simp <;> omega) (by simp) ?_; intro v1 w1 hown1 hgrow1; have HB1 : Hid (Below W9.heap.size W9 w1) := HA9.out.grown hgrow1 (by simp) (fun k e => by cases e; exact Nat.le_refl _); have HO1 : Hid (w1.ownsRow W9.heap.size 28 3 v1 (([] : List Kv)).length (kvCells (([] : List Kv)))) := hown1; have t0 := below_cell (HW9.out.trans (HB1.out.mono hz9)) _ _ s0; have t1 := below_cell (HW9.out.trans (HB1.out.mono hz9)) _ _ s1; have t2 := below_cell (HW9.out.trans (HB1.out.mono hz9)) _ _ s2; have hz1 := HB1.out.size; clear hown1 hgrow1)
            | (refine wpList_append_kvs rfl (.tmp 37) (.tmp 42) rfl W9.heap.size v1 (([] : List Kv)) rfl (owns_below HO1.out ((Below.refl _ _).alloc (Nat.le_refl _) _)) (some ⟨w1.heap.size, 0, none⟩) 1 1 [kv] rfl (RowAt.new w1 kv) (fun e => by cases e) (by simp <;> omega) (by rw [World.size_alloc]; omega) ?_; intro v2 w2 hown2 hgrow2; have HB2 : Hid (Below W9.heap.size W9 w2) := (HB1.out.alloc hz1 _).grown hgrow2 (by rw [World.size_alloc]; omega) (fun k e => (owns_cells HO1.out e).1); have HO2 : Hid (w2.ownsRow W9.heap.size 28 3 v2 (([] : List Kv) ++ [kv]).length (kvCells (([] : List Kv) ++ [kv]))) := hown2; have HR2 : Hid (RowAt w2 none 0 []) := (HOT.out.below HW9.out).below HB2.out; have hz2 := HB2.out.size; clear hown2 hgrow2)
            | (refine wpList_append_kvs rfl (.tmp 44) (.tmp 47) rfl W9.heap.size v2 (([] : List Kv) ++ [kv]) rfl HO2.out none 0 0 [] rfl (RowAt.empty _ _) (fun _ => rfl) (by simp <;> omega) hz2 ?_; intro v3 w3 hown3 hgrow3; have HB3 : Hid (Below W9.heap.size W9 w3) := HB2.out.grown hgrow3 hz2 (fun k e => (owns_cells HO2.out e).1); have HO3 : Hid (w3.ownsRow W9.heap.size 28 3 v3 (([] : List Kv) ++ [kv] ++ ([] : List Kv)).length (kvCells (([] : List Kv) ++ [kv] ++ ([] : List Kv)))) := hown3; clear hown3 hgrow3))
          go_roundw
          case rel =>
            refine ⟨j + 1, v3, ([] : List Kv) ++ [kv] ++ ([] : List Kv), by omega, rfl, by go_num, owns_base HO3.out (by have := HL.out.size; omega), ?_, ?_, HL.out.trans ((HW9.out.trans (HB3.out.mono hz9)).mono HL.out.size)⟩
            · intro k hk
              simp at hk
              subst hk
              exact List.mem_of_getElem? HKV.out
            · rw [show ([] ++ [kv] ++ [] : List Kv).map Kv.tn = insN kv.tn (([] : List Kv).map Kv.tn) from rfl, HM.out, ← sortN_snoc, List.take_add_one, HKV.out]
              simp
          case measure => simp [intOf]; omega
      · obtain ⟨_, rfl, rfl⟩ := hosome _ _ _ rfl
        clear honil hosome
        go_wp2
        go_loopw [5] (fun av W => ∃ p : Nat, p ≤ out.length ∧ av = .int .i64 p ∧ Below wo.heap.size wo W ∧ (∀ q y, p ≤ q → out[q]? = some y → cmpN y.tn kv.tn > 0)) (fun av _ => (intOf av).toNat)
        case atStart => exact ⟨out.length, Nat.le_refl _, rfl, Below.refl _ _, fun q y hq hy => by rw [List.getElem?_eq_none hq] at hy; cases hy⟩
        case round =>
          obtain ⟨p, hp, rfl, hW, hgt⟩ := hrel
          have HW : Hid (Below wo.heap.size wo wr) := hW
          have HGt : Hid (∀ q y, p ≤ q → out[q]? = some y → cmpN y.tn kv.tn > 0) := hgt
          clear hW hgt
          cases p with
          | zero =>
            have hF : Hid (Found out kv 0) := ⟨hp, HGt.out, .inl rfl⟩
            have hne := later_some wr
            have hd : decide (0 < 0) = false := by simp
            go_wp2_with fail
            refine wp_region_later (by kernel_rfl) (by kernel_rfl) ?_
            repeat (go_big_quiet_step (fail))
            refine wpQuiet_nil ?_
            intro _ hw'
            obtain ⟨b3, hw''⟩ := hw'
            subst hw''
            have HW9 : Hid (Below wo.heap.size wo b3.now) := HW.out.trans (b3.below.mono HW.out.size)
            obtain ⟨W9, hW9⟩ : ∃ W9, b3.now = W9 := ⟨_, rfl⟩
            rw [hW9] at HW9 ⊢
            clear hW9 hne
            have HA9 : Hid (Below W9.heap.size W9 (W9.alloc (.cells #[] 28))) := (Below.refl _ _).alloc (Nat.le_refl _) _
            have HO9 : Hid (RowAt (W9.alloc (.cells #[] 28)) (some ⟨g, 0, none⟩) out.length out) := (HOT.out.below HW9.out).below HA9.out
            have hz9 := HW9.out.size
            have hpo : 0 ≤ out.length := hF.out.le
            have hq0 : (0 : Int) ≤ ((0 : Nat) : Int) := by omega
            have hq1 : ((0 : Nat) : Int) ≤ (out.length : Int) := by omega
            have hq2 : ((0 : Nat) : Int) ≤ (ocap : Int) := by omega
            go_wp2_with (at_builtin; first
              | (refine wpList_append_kvs rfl (.tmp 32) (.tmp 35) rfl W9.heap.size _ [] rfl (row_empty26 W9) (some ⟨g, 0, none⟩) (0) ocap (out.take (0)) rfl (HO9.out.take hF.out.le) (fun e => by cases e) (by simp <;> omega) (by simp) ?_; intro v1 w1 hown1 hgrow1; have HB1 : Hid (Below W9.heap.size W9 w1) := HA9.out.grown hgrow1 (by simp) (fun k e => by cases e; exact Nat.le_refl _); have HO1 : Hid (w1.ownsRow W9.heap.size 28 3 v1 (out.take (0)).length (kvCells (out.take (0)))) := hown1; have t0 := below_cell (HW9.out.trans (HB1.out.mono hz9)) _ _ s0; have t1 := below_cell (HW9.out.trans (HB1.out.mono hz9)) _ _ s1; have t2 := below_cell (HW9.out.trans (HB1.out.mono hz9)) _ _ s2; have hz1 := HB1.out.size; clear hown1 hgrow1)
              | (refine wpList_append_kvs rfl (.tmp 37) (.tmp 42) rfl W9.heap.size v1 (out.take (0)) rfl (owns_below HO1.out ((Below.refl _ _).alloc (Nat.le_refl _) _)) (some ⟨w1.heap.size, 0, none⟩) 1 1 [kv] rfl (RowAt.new w1 kv) (fun e => by cases e) (by simp <;> omega) (by rw [World.size_alloc]; omega) ?_; intro v2 w2 hown2 hgrow2; have HB2 : Hid (Below W9.heap.size W9 w2) := (HB1.out.alloc hz1 _).grown hgrow2 (by rw [World.size_alloc]; omega) (fun k e => (owns_cells HO1.out e).1); have HO2 : Hid (w2.ownsRow W9.heap.size 28 3 v2 (out.take (0) ++ [kv]).length (kvCells (out.take (0) ++ [kv]))) := hown2; have HR2 : Hid (RowAt w2 (some ⟨g, 0, none⟩) out.length out) := (HOT.out.below HW9.out).below HB2.out; have hz2 := HB2.out.size; clear hown2 hgrow2)
              | (refine wpList_append_kvs rfl (.tmp 44) (.tmp 47) rfl W9.heap.size v2 (out.take (0) ++ [kv]) rfl HO2.out (some ⟨g, 0, none⟩) out.length ocap (out.drop (0)) rfl (by simpa using HR2.out) (fun e => by cases e) (by simp <;> omega) hz2 ?_; intro v3 w3 hown3 hgrow3; have HB3 : Hid (Below W9.heap.size W9 w3) := HB2.out.grown hgrow3 hz2 (fun k e => (owns_cells HO2.out e).1); have HO3 : Hid (w3.ownsRow W9.heap.size 28 3 v3 (out.take (0) ++ [kv] ++ out.drop (0)).length (kvCells (out.take (0) ++ [kv] ++ out.drop (0)))) := hown3; clear hown3 hgrow3))
            go_roundw
            case rel =>
              refine ⟨j + 1, v3, out.take (0) ++ [kv] ++ out.drop (0), by omega, rfl, by go_num, owns_base HO3.out (by have := HL.out.size; omega), ?_, ?_, HL.out.trans ((HW9.out.trans (HB3.out.mono hz9)).mono HL.out.size)⟩
              · intro k hk
                simp only [List.mem_append, List.mem_singleton] at hk
                rcases hk with (hk | rfl) | hk
                · exact HIn.out k (List.mem_of_mem_take hk)
                · exact List.mem_of_getElem? HKV.out
                · exact HIn.out k (List.mem_of_mem_drop hk)
              · rw [hF.out.ins (by rw [HM.out]; exact sortN_srt _), HM.out, ← sortN_snoc, List.take_add_one, HKV.out]
                simp
            case measure => simp [intOf]; omega
          | succ p =>
            obtain ⟨y, hy⟩ : ∃ y, out[p]? = some y := ⟨_, List.getElem?_eq_getElem (by omega)⟩
            obtain ⟨b2, off2, e, y0, y1, y2⟩ := (HOT.out.below HW.out).get hy
            cases e
            rw [Nat.zero_add] at y0 y1 y2
            have HC : Hid (∀ V, Below wr.heap.size wr V → Calls Tryz.prog 29 #[.agg #[.string y.x.1, .int .i64 y.x.2, .slice y.a (lenF y.l) y.c], .agg #[.string kv.x.1, .int .i64 kv.x.2, .slice kv.a (lenF kv.l) kv.c]] V fun e w' => e = .returned (.int .i64 (cmpN y.tn kv.tn)) ∧ Below V.heap.size V w') := fun V hV =>
              rcompare_all _ y.x kv.x y.a kv.a y.c kv.c y.l kv.l V (Nat.le_refl _) ((((HK.out y (HIn.out y (List.mem_of_getElem? hy))).below HL.out).below HW.out).below hV) ((HTk.out.below HW.out).below hV)
            obtain ⟨cv, hcv⟩ : ∃ cv, cmpN y.tn kv.tn = cv := ⟨_, rfl⟩
            rw [hcv] at HC
            have HY : Hid (out[p]? = some y) := hy
            have HCV : Hid (cmpN y.tn kv.tn = cv) := hcv
            have t0 := below_cell HW.out _ _ s0
            have t1 := below_cell HW.out _ _ s1
            have t2 := below_cell HW.out _ _ s2
            have hne := later_some wr
            have d0 := later_cell y0; have d1 := later_cell y1; have d2 := later_cell y2
            have d3 := later_cell t0; have d4 := later_cell t1; have d5 := later_cell t2
            have hd : decide (0 < p + 1) = true := by simp
            have hp0 : (0 : Int) ≤ (p : Int) := by omega
            have hpn : (p : Int) < (out.length : Int) := by omega
            clear hy hcv y0 y1 y2 t0 t1 t2
            go_wp2_with fail
            refine wp_region_later (by kernel_rfl) (by kernel_rfl) ?_
            repeat (go_big_quiet_step (first | (go_at_call 29; refine calls_later (HC.out _ ?_); exact Later.below _) | fail))
            by_cases hc : 0 < cv
            · refine wpQuiet_nil ?_
              intro _ hw'
              obtain ⟨b3, hw''⟩ := hw'
              subst hw''
              have HW9 : Hid (Below wo.heap.size wo b3.now) := HW.out.trans (b3.below.mono HW.out.size)
              clear d0 d1 d2 d3 d4 d5 hne
              go_wp2
              go_roundw
              case rel =>
                refine ⟨p, by omega, by go_num, HW9.out, fun q z hq hz => ?_⟩
                rcases Nat.lt_or_ge p q with h | h
                · exact HGt.out q z h hz
                · obtain rfl : q = p := by omega
                  rw [HY.out] at hz
                  cases hz
                  rw [HCV.out]
                  exact hc
              case measure => simp [intOf]
            · have hF : Hid (Found out kv (p + 1)) := ⟨hp, HGt.out, .inr (fun z hz => by rw [Nat.add_sub_cancel, HY.out] at hz; cases hz; rw [HCV.out]; omega)⟩
              refine wpQuiet_nil ?_
              intro _ hw'
              obtain ⟨b3, hw''⟩ := hw'
              subst hw''
              have HW9 : Hid (Below wo.heap.size wo b3.now) := HW.out.trans (b3.below.mono HW.out.size)
              obtain ⟨W9, hW9⟩ : ∃ W9, b3.now = W9 := ⟨_, rfl⟩
              rw [hW9] at HW9 ⊢
              clear hW9 d0 d1 d2 d3 d4 d5 hne
              have HA9 : Hid (Below W9.heap.size W9 (W9.alloc (.cells #[] 28))) := (Below.refl _ _).alloc (Nat.le_refl _) _
              have HO9 : Hid (RowAt (W9.alloc (.cells #[] 28)) (some ⟨g, 0, none⟩) out.length out) := (HOT.out.below HW9.out).below HA9.out
              have hz9 := HW9.out.size
              have hpo : (p + 1) ≤ out.length := hF.out.le
              have hq0 : (0 : Int) ≤ (((p + 1) : Nat) : Int) := by omega
              have hq1 : (((p + 1) : Nat) : Int) ≤ (out.length : Int) := by omega
              have hq2 : (((p + 1) : Nat) : Int) ≤ (ocap : Int) := by omega
              by_cases hcap : ocap = p + 1
              · have hdr : out.drop (p + 1) = [] := List.drop_eq_nil_of_le (by omega)
                have hx1 : out.length - (p + 1) = 0 := by omega
                have hx2 : ocap - (p + 1) = 0 := by omega
                have Hcap : Hid (ocap = p + 1) := hcap
                clear hcap
                go_wp2_with (at_builtin; first
                  | (refine wpList_append_kvs rfl (.tmp 32) (.tmp 35) rfl W9.heap.size _ [] rfl (row_empty26 W9) (some ⟨g, 0, none⟩) ((p + 1)) ocap (out.take ((p + 1))) rfl (HO9.out.take hF.out.le) (fun e => by cases e) (by simp <;> omega) (by simp) ?_; intro v1 w1 hown1 hgrow1; have HB1 : Hid (Below W9.heap.size W9 w1) := HA9.out.grown hgrow1 (by simp) (fun k e => by cases e; exact Nat.le_refl _); have HO1 : Hid (w1.ownsRow W9.heap.size 28 3 v1 (out.take ((p + 1))).length (kvCells (out.take ((p + 1))))) := hown1; have t0 := below_cell (HW9.out.trans (HB1.out.mono hz9)) _ _ s0; have t1 := below_cell (HW9.out.trans (HB1.out.mono hz9)) _ _ s1; have t2 := below_cell (HW9.out.trans (HB1.out.mono hz9)) _ _ s2; have hz1 := HB1.out.size; clear hown1 hgrow1)
                  | (refine wpList_append_kvs rfl (.tmp 37) (.tmp 42) rfl W9.heap.size v1 (out.take ((p + 1))) rfl (owns_below HO1.out ((Below.refl _ _).alloc (Nat.le_refl _) _)) (some ⟨w1.heap.size, 0, none⟩) 1 1 [kv] rfl (RowAt.new w1 kv) (fun e => by cases e) (by simp <;> omega) (by rw [World.size_alloc]; omega) ?_; intro v2 w2 hown2 hgrow2; have HB2 : Hid (Below W9.heap.size W9 w2) := (HB1.out.alloc hz1 _).grown hgrow2 (by rw [World.size_alloc]; omega) (fun k e => (owns_cells HO1.out e).1); have HO2 : Hid (w2.ownsRow W9.heap.size 28 3 v2 (out.take ((p + 1)) ++ [kv]).length (kvCells (out.take ((p + 1)) ++ [kv]))) := hown2; have HR2 : Hid (RowAt w2 (some ⟨g, 0, none⟩) out.length out) := (HOT.out.below HW9.out).below HB2.out; have hz2 := HB2.out.size; clear hown2 hgrow2)
                  | (refine wpList_append_kvs rfl (.tmp 44) (.tmp 47) rfl W9.heap.size v2 (out.take ((p + 1)) ++ [kv]) rfl HO2.out (some ⟨g, 0, none⟩) 0 0 (out.drop ((p + 1))) rfl (by rw [hdr]; exact RowAt.empty _ _) (fun e => by cases e) (by simp <;> omega) hz2 ?_; intro v3 w3 hown3 hgrow3; have HB3 : Hid (Below W9.heap.size W9 w3) := HB2.out.grown hgrow3 hz2 (fun k e => (owns_cells HO2.out e).1); have HO3 : Hid (w3.ownsRow W9.heap.size 28 3 v3 (out.take ((p + 1)) ++ [kv] ++ out.drop ((p + 1))).length (kvCells (out.take ((p + 1)) ++ [kv] ++ out.drop ((p + 1))))) := hown3; clear hown3 hgrow3))
                go_roundw
                case rel =>
                  refine ⟨j + 1, v3, out.take ((p + 1)) ++ [kv] ++ out.drop ((p + 1)), by omega, rfl, by go_num, owns_base HO3.out (by have := HL.out.size; omega), ?_, ?_, HL.out.trans ((HW9.out.trans (HB3.out.mono hz9)).mono HL.out.size)⟩
                  · intro k hk
                    simp only [List.mem_append, List.mem_singleton] at hk
                    rcases hk with (hk | rfl) | hk
                    · exact HIn.out k (List.mem_of_mem_take hk)
                    · exact List.mem_of_getElem? HKV.out
                    · exact HIn.out k (List.mem_of_mem_drop hk)
                  · rw [hF.out.ins (by rw [HM.out]; exact sortN_srt _), HM.out, ← sortN_snoc, List.take_add_one, HKV.out]
                    simp
                case measure => simp [intOf]; omega
              · have hx3 : ¬ (ocap - (p + 1) = 0) := by omega
                go_wp2_with (at_builtin; first
                  | (refine wpList_append_kvs rfl (.tmp 32) (.tmp 35) rfl W9.heap.size _ [] rfl (row_empty26 W9) (some ⟨g, 0, none⟩) ((p + 1)) ocap (out.take ((p + 1))) rfl (HO9.out.take hF.out.le) (fun e => by cases e) (by simp <;> omega) (by simp) ?_; intro v1 w1 hown1 hgrow1; have HB1 : Hid (Below W9.heap.size W9 w1) := HA9.out.grown hgrow1 (by simp) (fun k e => by cases e; exact Nat.le_refl _); have HO1 : Hid (w1.ownsRow W9.heap.size 28 3 v1 (out.take ((p + 1))).length (kvCells (out.take ((p + 1))))) := hown1; have t0 := below_cell (HW9.out.trans (HB1.out.mono hz9)) _ _ s0; have t1 := below_cell (HW9.out.trans (HB1.out.mono hz9)) _ _ s1; have t2 := below_cell (HW9.out.trans (HB1.out.mono hz9)) _ _ s2; have hz1 := HB1.out.size; clear hown1 hgrow1)
                  | (refine wpList_append_kvs rfl (.tmp 37) (.tmp 42) rfl W9.heap.size v1 (out.take ((p + 1))) rfl (owns_below HO1.out ((Below.refl _ _).alloc (Nat.le_refl _) _)) (some ⟨w1.heap.size, 0, none⟩) 1 1 [kv] rfl (RowAt.new w1 kv) (fun e => by cases e) (by simp <;> omega) (by rw [World.size_alloc]; omega) ?_; intro v2 w2 hown2 hgrow2; have HB2 : Hid (Below W9.heap.size W9 w2) := (HB1.out.alloc hz1 _).grown hgrow2 (by rw [World.size_alloc]; omega) (fun k e => (owns_cells HO1.out e).1); have HO2 : Hid (w2.ownsRow W9.heap.size 28 3 v2 (out.take ((p + 1)) ++ [kv]).length (kvCells (out.take ((p + 1)) ++ [kv]))) := hown2; have HR2 : Hid (RowAt w2 (some ⟨g, 0, none⟩) out.length out) := (HOT.out.below HW9.out).below HB2.out; have hz2 := HB2.out.size; clear hown2 hgrow2)
                  | (refine wpList_append_kvs rfl (.tmp 44) (.tmp 47) rfl W9.heap.size v2 (out.take ((p + 1)) ++ [kv]) rfl HO2.out (some ⟨g, (p + 1) * 3, none⟩) (out.length - (p + 1)) (ocap - (p + 1)) (out.drop ((p + 1))) rfl (by have := HR2.out.drop (p := p + 1) hpo; rwa [Nat.zero_add] at this) (fun e => by cases e) (by simp <;> omega) hz2 ?_; intro v3 w3 hown3 hgrow3; have HB3 : Hid (Below W9.heap.size W9 w3) := HB2.out.grown hgrow3 hz2 (fun k e => (owns_cells HO2.out e).1); have HO3 : Hid (w3.ownsRow W9.heap.size 28 3 v3 (out.take ((p + 1)) ++ [kv] ++ out.drop ((p + 1))).length (kvCells (out.take ((p + 1)) ++ [kv] ++ out.drop ((p + 1))))) := hown3; clear hown3 hgrow3))
                go_roundw
                case rel =>
                  refine ⟨j + 1, v3, out.take ((p + 1)) ++ [kv] ++ out.drop ((p + 1)), by omega, rfl, by go_num, owns_base HO3.out (by have := HL.out.size; omega), ?_, ?_, HL.out.trans ((HW9.out.trans (HB3.out.mono hz9)).mono HL.out.size)⟩
                  · intro k hk
                    simp only [List.mem_append, List.mem_singleton] at hk
                    rcases hk with (hk | rfl) | hk
                    · exact HIn.out k (List.mem_of_mem_take hk)
                    · exact List.mem_of_getElem? HKV.out
                    · exact HIn.out k (List.mem_of_mem_drop hk)
                  · rw [hF.out.ins (by rw [HM.out]; exact sortN_srt _), HM.out, ← sortN_snoc, List.take_add_one, HKV.out]
                    simp
                case measure => simp [intOf]; omega
    · obtain rfl : j = ks.length := by omega
      have HM' : Hid (out.map Kv.tn = sortN (ks.map Kv.tn)) := by have := HM.out; rwa [List.take_length] at this
      go_wp2
      go_ret
      exact ⟨v, out, rfl, HRow.out, HIn.out, HM'.out, HL.out⟩
end Go.Proofs.YtppgmepmegelbaaGreatDoor
