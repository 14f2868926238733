import Derived.Test.YtfnfbljijkjkjaaGreatKUgC
/- slices.SortFunc of binds by their variables. -/
namespace Go.Proofs.YtfnfbljijkjkjaaGreat
open Go.RowKit Go.Deep

def zBk : Bk := (noS, ⟨(noS, 0), .nil, none, 0⟩)
def encB (b : Bk) : List Value := .string b.1 :: b.2.cells
def cmpB (x y : Bk) : Int := Lib.compareBytes x.1.data.toList y.1.data.toList
theorem swoB : Sort.SWO (ltOf cmpB) where
  irrefl x := by
    have := bytes_anti x.1.data.toList x.1.data.toList
    unfold ltOf cmpB
    rw [decide_eq_false_iff_not]
    omega
  trans x y z h1 h2 := by
    unfold ltOf cmpB at *
    rw [decide_eq_true_iff] at *
    exact (bytes_cons _ _ _).lt h1 h2
  ntrans x y z h1 h2 := by
    unfold ltOf cmpB at *
    rw [decide_eq_false_iff_not] at *
    have a1 := bytes_anti x.1.data.toList y.1.data.toList
    have a2 := bytes_anti y.1.data.toList z.1.data.toList
    have a3 := bytes_anti x.1.data.toList z.1.data.toList
    intro h3
    have c1 := bytes_cons y.1.data.toList x.1.data.toList z.1.data.toList
    have c2 := bytes_cons x.1.data.toList z.1.data.toList y.1.data.toList
    rcases Int.lt_or_le (Lib.compareBytes y.1.data.toList x.1.data.toList) 0 with h4 | h4
    · have := c1.lt h4 h3
      omega
    · have e1 : Lib.compareBytes x.1.data.toList y.1.data.toList = 0 := by omega
      have ex : x.1.data.toList = y.1.data.toList := bytes_zero e1
      rw [ex] at h3
      omega
theorem bdCells_nth : ∀ (ks : List Bk) (i c : Nat) {k : Bk}, ks[i]? = some k → c < 4 → (bdCells ks)[i * 4 + c]? = (encB k)[c]?
  | [], _, _, _, h, _ => by simp at h
  | k :: r, 0, c, k', h, hc => by
    simp only [List.getElem?_cons_zero, Option.some.injEq] at h
    subst h
    show (encB k ++ bdCells r)[0 * 4 + c]? = _
    rw [Nat.zero_mul, Nat.zero_add, List.getElem?_append_left (by simpa [encB, Kv.cells] using hc)]
  | k :: r, i + 1, c, k', h, hc => by
    simp only [List.getElem?_cons_succ] at h
    show (encB k ++ bdCells r)[(i + 1) * 4 + c]? = _
    rw [List.getElem?_append_right (by simp [encB, Kv.cells]; omega), show (i + 1) * 4 + c - (encB k).length = i * 4 + c by simp [encB, Kv.cells]; omega]
    exact bdCells_nth r i c h hc
theorem heap_sortB (w : World) (g m : Nat) (d : Array Bk) (os : Array Obj) [Inhabited Bk] {q : Nat} (hq : q < w.heap.size) :
    (sortWorldK encB 4 w g 0 m d os).heap[q]? = if q = g then (w.heap[q]?).map (Sort.onCells (Sort.putCells id 0 (Sort.flatK encB 4 d))) else w.heap[q]? := by
  unfold sortWorldK
  rw [Sort.heap_grow_old _ _ (by unfold Sort.putRowK; rw [Sort.size_putRow]; exact hq)]
  unfold Sort.putRowK Sort.putRow Sort.mapBlock
  simp only [Array.getElem?_modify, Sort.ahead]
  by_cases e : q = g
  · subst e; simp
  · rw [if_neg e, if_neg (fun h => e h.symm)]
set_option maxRecDepth 100000 in
set_option maxHeartbeats 2000000 in
theorem bcmp_any (x y : Bk) (w : World) : Calls Tryz.prog 52 #[.agg (encB x).toArray, .agg (encB y).toArray] w fun e w' => e = .returned (.int .i64 (cmpB x y)) ∧ ∃ os, w' = Sort.grow w os := by
  obtain ⟨xn, ⟨⟨x1, x2⟩, xl, xa, xc⟩⟩ := x
  obtain ⟨yn, ⟨⟨y1, y2⟩, yl, ya, yc⟩⟩ := y
  show Calls Tryz.prog 52 #[.agg #[.string xn, .string x1, .int .i64 x2, .slice xa (lenF xl) xc], .agg #[.string yn, .string y1, .int .i64 y2, .slice ya (lenF yl) yc]] w _
  obtain ⟨b1, b2, hb0⟩ := two_new w #[.string xn, .string x1, .int .i64 x2, .slice xa (lenF xl) xc] 38 #[.string yn, .string y1, .int .i64 y2, .slice ya (lenF yl) yc] 38
  have z0 := b1.c 0; have y0 := b2.c 0
  unfold cmpB
  dsimp only
  clear b1 b2 hb0
  go_enter Tryz.func52, Tryz.ntmps52
  go_wp2_with (go_at_call 53; refine (Tryz.strings_Compare _ _ _).mono ?_; rintro e w1 ⟨rfl, rfl⟩)
  go_ret
  exact ⟨rfl, ((Grew.refl w).alloc _).alloc _⟩
set_option maxRecDepth 100000 in
theorem bcmp_lays (w : World) (g n : Nat) [Inhabited Bk] : CmpLays Tryz.prog 52 #[] encB 4 cmpB g 0 n w := by
  intro m os dk _ x y
  refine (bcmp_any x y _).mono ?_
  rintro e w' ⟨rfl, os', rfl⟩
  exact ⟨rfl, 0, os', rfl⟩
theorem Tryz.enter52 : ∀ args w, (callFunc 52 args).run Tryz.prog w = .ok (.enter 52 args) w := enters_of Tryz.func52 (by kernel_rfl) rfl

set_option maxRecDepth 100000 in
theorem sort_binds (w : World) (g cap : Nat) (cur : Array Value) (ks : List Bk) (hg : w.heap[g]? = some (Obj.cells cur 38 (0, 0))) (hc : ∀ (j : Nat) (u : Value), (bdCells ks)[j]? = some u → cur[j]? = some u) (hn : ks.length < 4611686018427387904) :
    Calls Tryz.prog 51 #[.slice (some ⟨g, 0, none⟩) ks.length cap, .func (.func 52) #[] #[]] w fun e w' => e = .returned (.tuple #[]) ∧ ∃ (ms : List Bk) (cur' : Array Value), List.Perm ms ks ∧ ms.Pairwise (fun x y => 0 ≤ cmpB y x) ∧ w'.heap[g]? = some (Obj.cells cur' 38 (0, 0)) ∧
      (∀ (j : Nat) (u : Value), (bdCells ms)[j]? = some u → cur'[j]? = some u) ∧ Fr (fun q => q = g) w w' := by
  letI : Inhabited Bk := ⟨zBk⟩
  have hglt : g < w.heap.size := (Array.getElem?_eq_some_iff.1 hg).1
  have cellAt : ∀ (d : Array Bk) (j : Nat), j < d.size * 4 → (bdCells d.toList)[j]? = some (Sort.flatK encB 4 d)[j]! := fun d j hj => by
    rw [Sort.get_flatK _ _ _ _ hj]
    have hi : j / 4 < d.size := by omega
    have h1 : d.toList[j / 4]? = some d[j / 4]! := by
      rw [Array.getElem?_toList, Array.getElem?_eq_getElem hi, getElem!_pos d _ hi]
    have h2 := bdCells_nth _ (j / 4) (j % 4) h1 (by omega)
    rw [show j / 4 * 4 + j % 4 = j by omega] at h2
    rw [h2]
    have hl : j % 4 < (encB d[j / 4]!).length := by show _ < 4; omega
    rw [getElem!_pos (encB d[j / 4]!) (j % 4) hl]
    exact List.getElem?_eq_getElem hl
  have hH : Sort.HoldsK encB 4 w g 0 ks.toArray := fun j hj => by
    rw [Sort.size_flatK] at hj
    have h1 := cellAt ks.toArray j hj
    refine ⟨?_, by simp [World.frozen?, hg]⟩
    rw [Nat.zero_add, cell_of_row w g j cur 38 (0, 0) hg]
    exact hc j _ h1
  have hs := AnyQ.slices_SortFunc Tryz.sortB 4 Tryz.isAgg38 Tryz.sizeOf38 encB (fun _ => rfl) (fun x v hv => one_bind x.1 x.2.x x.2.a (lenF x.2.l) x.2.c v hv) cmpB swoB 52 #[] g 0 cap ks.toArray w Tryz.enter52 (bcmp_lays w g ks.toArray.size) hH hglt (by simpa using hn)
  rw [List.size_toArray] at hs
  refine Calls.mono hs ?_
  rintro e w' ⟨rfl, d', n, os, hp, hso, rfl⟩
  obtain ⟨p1, _, p3⟩ := hp
  have hd's : d'.size = ks.length := by rw [p1]; simp
  have hperm : List.Perm d'.toList ks := by
    have e1 : (d'.extract 0 ks.length).toList = d'.toList := by rw [← hd's]; simp
    have e2 : (ks.toArray.extract 0 ks.length).toList = ks := by simp
    rw [e1, e2] at p3
    exact p3
  refine ⟨rfl, d'.toList, Sort.putCells id 0 (Sort.flatK encB 4 d') cur, hperm, ?_, ?_, ?_, ?_⟩
  · rw [List.pairwise_iff_getElem]
    intro i j hi hj hij
    simp only [Array.length_toList] at hi hj
    have h1 := hso i j (Nat.zero_le _) hij (by omega)
    unfold ltOf at h1
    rw [decide_eq_false_iff_not, getElem!_pos d' i hi, getElem!_pos d' j hj] at h1
    simp only [Array.getElem_toList]
    omega
  · rw [heap_sortB _ _ _ _ _ hglt, if_pos rfl, hg]
    rfl
  · intro j u hu
    have hj : j < d'.size * 4 := by
      rcases Nat.lt_or_ge j (d'.size * 4) with h' | h'
      · exact h'
      · rw [List.getElem?_eq_none (by rw [bdCells_len, Array.length_toList]; exact h')] at hu; cases hu
    have h1 := cellAt d' j hj
    rw [hu] at h1
    have hjc : j < cur.size := by
      have hjl : j < (bdCells ks).length := by rw [bdCells_len]; omega
      have := hc j _ (List.getElem?_eq_getElem hjl)
      exact (Array.getElem?_eq_some_iff.1 this).1
    unfold Sort.putCells
    rw [Array.getElem?_mapIdx, Array.getElem?_eq_getElem hjc, Option.map_some, if_pos ⟨Nat.zero_le _, by rw [Sort.size_flatK]; omega⟩, Nat.sub_zero]
    exact h1.symm
  · refine ⟨⟨rfl, rfl, rfl, ?_, fun k hk => absurd hk (Nat.not_lt_zero k)⟩, fun q hq hne => ?_⟩
    · unfold sortWorldK Sort.putRowK
      rw [Sort.size_grow, Sort.size_putRow]
      exact Nat.le_add_right _ _
    · rw [heap_sortB _ _ _ _ _ hq, if_neg hne]
end Go.Proofs.YtfnfbljijkjkjaaGreat
