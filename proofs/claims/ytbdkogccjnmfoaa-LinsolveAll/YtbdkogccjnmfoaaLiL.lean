/- slices.SortFunc over vectors: the row in order, all else as it was. -/
import Derived.Test.YtbdkogccjnmfoaaLiS
import Derived.Test.YtbdkogccjnmfoaaLiI
import Derived.Test.YtbdkogccjnmfoaaLiJ
namespace Go.Proofs.Ytbdkogccjnmfoaa
open Go.RowKit Go.Shelf

abbrev GdS (w : World) := { e : Vc // VcAt w e }
def encE {w : World} (e : GdS w) : Value := vcV e.1
def cmpE {w : World} (x y : GdS w) : Int := cmpL (toI x.1.l) (toI y.1.l)
def lessE (x y : Vc) : Bool := decide (cmpL (toI x.l) (toI y.l) < 0)
theorem ltE {w : World} (x y : GdS w) : ltOf (cmpE (w := w)) x y = lessE x.1 y.1 := rfl
theorem swoE {w : World} : Sort.SWO (ltOf (cmpE (w := w))) where
  irrefl x := by rw [ltE]; unfold lessE; rw [cmpL_refl]; rfl
  trans x y z h1 h2 := by rw [ltE] at *; unfold lessE at *; rw [decide_eq_true_iff] at *; exact cmpL_trans _ _ _ h1 h2
  ntrans x y z h1 h2 := by rw [ltE] at *; unfold lessE at *; rw [decide_eq_false_iff_not] at *; exact cmpL_ntrans _ _ _ h1 h2
theorem heap_sort1 {α : Type} [Inhabited α] (enc : α → Value) (w : World) (g m : Nat) (d : Array α) (os : Array Obj) {q : Nat} (hq : q < w.heap.size) :
    (sortWorld enc w g 0 m d os).heap[q]? = if q = g then (w.heap[q]?).map (Sort.onCells (Sort.putCells enc 0 d)) else w.heap[q]? := by
  unfold sortWorld
  rw [Sort.heap_grow_old _ _ (by rw [Sort.size_putRow]; exact hq)]
  unfold Sort.putRow Sort.mapBlock
  simp only [Array.getElem?_modify, Sort.ahead]
  by_cases e : q = g
  · subst e; simp
  · rw [if_neg e, if_neg (fun h => e h.symm)]
set_option maxRecDepth 100000 in
theorem cmp_lays (w : World) (g n : Nat) {cs : Array Value} (hg : w.heap[g]? = some (.cells cs 52 (0, 0))) [Inhabited (GdS w)] : CmpLays1 Try.prog 39 #[] (encE (w := w)) cmpE g 0 n w := by
  intro m os dk _ x y
  have en : ∀ k : GdS w, IntsAt (sortWorld (encE (w := w)) w g 0 m dk os) (some ⟨k.1.b, 0, none⟩) (toI k.1.l) := fun k => by
    obtain ⟨k, hk⟩ := k
    obtain ⟨cur, h1, _⟩ := hk.blk
    have hk' : VcAt (sortWorld (encE (w := w)) w g 0 m dk os) k := hk.same (by rw [heap_sort1 _ _ _ _ _ _ (Array.getElem?_eq_some_iff.1 h1).1, if_neg (ne_type h1 hg (by decide))])
    exact hk'.ints.at
  have h := order_any (some ⟨x.1.b, 0, none⟩) x.1.c (toI x.1.l) (some ⟨y.1.b, 0, none⟩) y.1.c (toI y.1.l) _ (en x) (en y)
  rw [toI_len, toI_len] at h
  refine h.mono ?_
  rintro e w' ⟨rfl, rfl⟩
  exact ⟨rfl, 0, #[], rfl⟩
theorem enter39 : ∀ args w, (callFunc 39 args).run Try.prog w = .ok (.enter 39 args) w := enters_of Try.func39 (by kernel_rfl) rfl
set_option maxRecDepth 100000 in
/-- SortFunc. -/
theorem sort_any (w : World) (g cap : Nat) (cur : Array Value) (es : List Vc) (hg : w.heap[g]? = some (.cells cur 52 (0, 0))) (hc : ∀ i (h : i < es.length), cur[i]? = some (vcV es[i])) (he : ∀ e ∈ es, VcAt w e) (hne : es ≠ []) (hn : es.length ≤ 13060694016) :
    Calls Try.prog 38 #[.slice (some ⟨g, 0, none⟩) es.length cap, .func (.func 39) #[] #[]] w fun e w' => (∃ v, e = .returned v) ∧ ∃ (ms : List Vc) (cur' : Array Value), ms.Perm es ∧ ms.Pairwise (fun a b => lessE b a = false) ∧ w'.heap[g]? = some (.cells cur' 52 (0, 0)) ∧
      (∀ i (h : i < ms.length), cur'[i]? = some (vcV ms[i])) ∧ cur'.size = cur.size ∧ Fr (fun q => q = g) w w' := by
  obtain ⟨e0, hm0⟩ : ∃ e, e ∈ es := List.exists_mem_of_ne_nil es hne
  letI : Inhabited (GdS w) := ⟨⟨e0, he e0 hm0⟩⟩
  have hglt : g < w.heap.size := (Array.getElem?_eq_some_iff.1 hg).1
  let d : Array (GdS w) := (es.attachWith (VcAt w) he).toArray
  have hds : d.size = es.length := by simp [d]
  have hdl : d.toList.map Subtype.val = es := by simp [d]
  have dat : ∀ (d : Array (GdS w)) (j : Nat) (hj : j < d.size), encE d[j]! = vcV ((d.toList.map Subtype.val)[j]'(by simpa using hj)) := fun d j hj => by
    rw [getElem!_pos d j hj]
    simp [encE]
  have hH : Sort.Holds encE w g 0 d := fun j hj => by
    refine ⟨?_, by simp [World.frozen?, hg]⟩
    rw [Nat.zero_add, dat d j hj]
    have h9 := hc j (by omega)
    simp only [hdl]
    exact cell_box hg h9
  have hsz : d.size < 4611686018427387904 := by omega
  have hlim : Lib.bitLen d.size < 4611686018427387904 := Nat.lt_of_le_of_lt (Lib.bitLen_le d.size 62 (by omega) (by omega)) (by omega)
  have hp := Any.pdqsortCmpFunc_all Try.sortE encE cmpE 39 #[] swoE g 0 cap d w enter39 (cmp_lays w g d.size hg) ⟨fun _ => rfl, hH, hglt⟩ (d.size + 1) 0 d.size (Lib.bitLen d.size) d w (by omega) rfl (SW.start hH) (Nat.zero_le _) (Nat.le_refl _) hsz hlim (Or.inl rfl)
  have hl : Calls Try.prog 55 #[.int .u64 (d.size : Int)] w fun e w' => e = .returned (.int .i64 (Lib.bitLen d.size : Nat)) ∧ w' = w := by
    have h := Any.bits_Len (SlLaysF0.n15.bits (P := Try.prog) (ρ := Try.sortE_ren) { Try.sortE with }) (d.size : Int) w (by omega) (by omega)
    rwa [Int.toNat_natCast] at h
  have hs := Sort.pdq_sorts (ltOf (cmpE (w := w))) swoE d 0 d.size (Lib.bitLen d.size) true true (Nat.zero_le _) (Nat.le_refl _) (Or.inl rfl)
  generalize Sort.pdq (ltOf (cmpE (w := w))) d 0 d.size (Lib.bitLen d.size) true true = d' at hp hs
  have fin : ∀ w', SW encE w g 0 d' w' → ∃ (ms : List Vc) (cur' : Array Value), ms.Perm es ∧ ms.Pairwise (fun a b => lessE b a = false) ∧ w'.heap[g]? = some (.cells cur' 52 (0, 0)) ∧
      (∀ i (h : i < ms.length), cur'[i]? = some (vcV ms[i])) ∧ cur'.size = cur.size ∧ Fr (fun q => q = g) w w' := fun w' hw' => by
    obtain ⟨n, os, rfl⟩ := hw'
    obtain ⟨⟨p1, _, p3⟩, hso⟩ := hs
    have hd's : d'.size = es.length := p1.trans hds
    have hperm : List.Perm (d'.toList.map Subtype.val) es := by
      have e1 : (d'.extract 0 d.size).toList = d'.toList := by rw [← p1]; simp
      have e2 : (d.extract 0 d.size).toList = d.toList := by simp
      rw [e1, e2] at p3
      have := p3.map Subtype.val
      rwa [hdl] at this
    refine ⟨d'.toList.map Subtype.val, Sort.putCells encE 0 d' cur, hperm, ?_, ?_, fun i hi => ?_, by simp [Sort.putCells], ⟨⟨rfl, rfl, rfl, ?_, fun k hk => absurd hk (Nat.not_lt_zero _)⟩, fun q hq hne => ?_⟩⟩
    · rw [List.pairwise_iff_getElem]
      intro i j hi hj hij
      simp only [List.length_map, Array.length_toList] at hi hj
      have h1 := hso i j (Nat.zero_le _) hij (by omega)
      rw [getElem!_pos d' i hi, getElem!_pos d' j hj] at h1
      simp only [List.getElem_map, Array.getElem_toList]
      exact h1
    · rw [heap_sort1 _ _ _ _ _ _ hglt, if_pos rfl, hg]
      rfl
    · have hi' : i < d'.size := by simpa using hi
      have hic : i < cur.size := (Array.getElem?_eq_some_iff.1 (hc i (by omega))).1
      unfold Sort.putCells
      rw [Array.getElem?_mapIdx, Array.getElem?_eq_getElem hic, Option.map_some, if_pos ⟨Nat.zero_le _, by omega⟩, Nat.sub_zero, dat d' i hi']
    · unfold sortWorld
      rw [Sort.size_grow, Sort.size_putRow]
      exact Nat.le_add_right _ _
    · rw [heap_sort1 _ _ _ _ _ _ hq, if_neg hne]
  have HFIN := hid fin; have HP := hid hp; have HL := hid hl
  have hnn : (es.length : Int) ≤ 13060694016 := by omega
  rw [hds] at HP HL
  clear fin hp hl hs hH dat hdl
  go_enter Try.func38, Try.ntmps38
  go_wp2_with fail
  refine HL.out.mono ?_
  rintro e w1 ⟨rfl, rfl⟩
  go_wp2_with fail
  refine HP.out.mono ?_
  rintro e w2 ⟨rfl, hsw⟩
  have HW := hid (HFIN.out w2 hsw)
  clear hsw
  go_wp2_with fail
  refine bodyPost_end (results_none rfl _ _ _) rfl ?_
  exact ⟨⟨_, rfl⟩, HW.out⟩
set_option maxRecDepth 100000 in
theorem ins_none (v f : Value) (w : World) : Calls Try.prog 61 #[v, .int .i64 0, .int .i64 0, f] w fun e w' => e = .returned (.tuple #[]) ∧ w' = w := by
  go_enter Try.func61, Try.ntmps61
  go_wp2_with fail
  go_loopw [8] (fun i wr => i = .int .i64 1 ∧ wr = w) (fun _ _ => 0)
  case atStart => exact ⟨rfl, rfl⟩
  case round =>
    obtain ⟨rfl, rfl⟩ := hrel
    go_wp2_with fail
    refine bodyPost_end (results_none rfl _ _ _) rfl ?_
    exact ⟨rfl, rfl⟩
set_option maxRecDepth 100000 in
theorem pdq_none (v f : Value) (l : Int) (w : World) : Calls Try.prog 54 #[v, .int .i64 0, .int .i64 0, .int .i64 l, f] w fun e w' => e = .returned (.tuple #[]) ∧ w' = w := by
  go_enter Try.func54, Try.ntmps54
  go_wp2_with fail
  go_loopw [1, 2, 12] (fun a b _ wr => a = .int .i64 0 ∧ b = .int .i64 0 ∧ wr = w) (fun _ _ _ _ => 0)
  case atStart => exact ⟨rfl, rfl, rfl⟩
  case round =>
    obtain ⟨rfl, rfl, rfl⟩ := hrel
    go_wp2_with fail
    refine (ins_none _ _ _).mono ?_
    rintro e w1 ⟨rfl, rfl⟩
    go_wp2_with fail
    refine bodyPost_ret (results_none rfl _ _ _) rfl ?_
    exact ⟨rfl, rfl⟩
set_option maxRecDepth 100000 in
theorem sort_none (p : Option Addr) (c : Nat) (f : Value) (w : World) : Calls Try.prog 38 #[.slice p 0 c, f] w fun e w' => (∃ v, e = .returned v) ∧ w' = w := by
  have hl : Calls Try.prog 55 #[.int .u64 0] w fun e w' => e = .returned (.int .i64 (Lib.bitLen 0 : Nat)) ∧ w' = w := by
    have h := Any.bits_Len (SlLaysF0.n15.bits (P := Try.prog) (ρ := Try.sortE_ren) { Try.sortE with }) 0 w (by omega) (by omega)
    exact h
  have HL := hid hl
  clear hl
  go_enter Try.func38, Try.ntmps38
  go_wp2_with fail
  refine HL.out.mono ?_
  rintro e w1 ⟨rfl, rfl⟩
  go_wp2_with fail
  refine (pdq_none _ _ _ _).mono ?_
  rintro e w2 ⟨rfl, rfl⟩
  go_wp2_with fail
  refine bodyPost_end (results_none rfl _ _ _) rfl ?_
  exact ⟨⟨_, rfl⟩, rfl⟩
end Go.Proofs.Ytbdkogccjnmfoaa
