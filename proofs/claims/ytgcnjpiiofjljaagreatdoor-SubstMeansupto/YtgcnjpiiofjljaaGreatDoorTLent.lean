/- What Lent makes: the term in new memory, a mark behind each list. -/
import Derived.Test.YtgcnjpiiofjljaaGreatDoorTOwn
import Derived.Deep.RegionLaw
import Derived.Deep.AppendLies
import Derived.Deep.DeepCutAuto
import Derived.BigQuiet
namespace Go.Proofs.YtgcnjpiiofjljaaGreatDoor
open Go.RowKit Go.Deep

/-- A term in a box, whose list is v. -/
def XBox (W : World) (B : Nat) (x : ByteArray × Int) (v : Value) : Prop := W.heap[B]? = some (.cells #[.string x.1, .int .i64 x.2, v] 27 (0, 0))
theorem XBox.c0 {W : World} {B : Nat} {x : ByteArray × Int} {v : Value} (h : XBox W B x v) : W.cell? ⟨B, 0, none⟩ = some (.string x.1) := by simp [World.cell?, show W.heap[B]? = _ from h]
theorem XBox.c1 {W : World} {B : Nat} {x : ByteArray × Int} {v : Value} (h : XBox W B x v) : W.cell? ⟨B, 1, none⟩ = some (.int .i64 x.2) := by simp [World.cell?, show W.heap[B]? = _ from h]
theorem XBox.c2 {W : World} {B : Nat} {x : ByteArray × Int} {v : Value} (h : XBox W B x v) : W.cell? ⟨B, 2, none⟩ = some v := by simp [World.cell?, show W.heap[B]? = _ from h]
theorem XBox.f {W : World} {B k : Nat} {x : ByteArray × Int} {v : Value} (h : XBox W B x v) : W.frozen? ⟨B, k, none⟩ = false := by simp [World.frozen?, show W.heap[B]? = _ from h]
theorem XBox.lt {W : World} {B : Nat} {x : ByteArray × Int} {v : Value} (h : XBox W B x v) : B < W.heap.size := (Array.getElem?_eq_some_iff.1 h).1
theorem XBox.below {W W' : World} {B : Nat} {x : ByteArray × Int} {v : Value} (h : XBox W B x v) (hb : Below W.heap.size W W') : XBox W' B x v := (hb.block B h.lt).trans h
theorem XBox.kept {W W' : World} {row : Option Nat} {B : Nat} {x : ByteArray × Int} {v : Value} (h : XBox W B x v) (hg : W.grownBy W' row) (hne : some B ≠ row) : XBox W' B x v := (hg.block B h.lt hne).trans h
theorem XBox.set {W : World} {B : Nat} {x : ByteArray × Int} {v : Value} (h : XBox W B x v) (u : Value) : XBox (W.setCell ⟨B, 2, none⟩ u) B x u := by
  obtain ⟨hlt, hk⟩ := Array.getElem?_eq_some_iff.1 h
  show (W.heap.modify B _)[B]? = _
  rw [Array.getElem?_eq_getElem (by rw [Array.size_modify]; exact hlt), Array.getElem_modify_self, hk]
  rfl
theorem XBox.other {W : World} {B : Nat} {x : ByteArray × Int} {v : Value} (h : XBox W B x v) {p : Addr} (hne : B ≠ p.block) (u : Value) : XBox (W.setCell p u) B x v := (Below.heap_setCell W p u B hne).trans h

/-- The boxes of a function that builds a term: of what came in, of the answer, of what is built. -/
structure Three (w : World) (x : ByteArray × Int) (a : Option Addr) (n c : Nat) (W : World) (v : Value) : Prop where
  low : Below w.heap.size w W
  t : TBox W w.heap.size x a n c
  r : W.heap[w.heap.size + 1]? = some (.cells #[.string ⟨#[]⟩, .int .i64 0, .slice none 0 0] 27 (0, 0))
  x : XBox W (w.heap.size + 1 + 1) x v
/-- What has been built of the list: these terms, in a row of the call's own, their own lists elsewhere. -/
structure Built (mk : Bool) (w : World) (W : World) (v : Value) (j : Nat) (ks : List Kv) : Prop where
  row : W.ownsRow (w.heap.size + 3) 27 3 v j (kvCells ks)
  own : ∀ k ∈ ks, OwnTm mk (fun q => w.heap.size + 3 ≤ q ∧ some q ≠ v.ownBlock) W k.x k.a k.c k.l

theorem Three.new (w : World) (x : ByteArray × Int) (a : Option Addr) (n c : Nat) : Three w x a n c (((w.alloc (.cells #[.string x.1, .int .i64 x.2, .slice a n c] 27)).alloc (.cells #[.string ⟨#[]⟩, .int .i64 0, .slice none 0 0] 27)).alloc (.cells #[.string x.1, .int .i64 x.2, .slice none 0 0] 27)) (.slice none 0 0) := by
  refine ⟨(((Below.refl _ w).alloc (Nat.le_refl _) _).alloc (by simp) _).alloc (by simp; omega) _, ?_, ?_, ?_⟩
  · exact ((TBox.new w x a n c).below ((Below.refl _ _).alloc (Nat.le_refl _) _)).below ((Below.refl _ _).alloc (Nat.le_refl _) _)
  · rw [Below.heap_alloc _ _ _ (by simp)]
    have := World.alloc_heap_new (w.alloc (.cells #[.string x.1, .int .i64 x.2, .slice a n c] 27)) (.cells #[.string ⟨#[]⟩, .int .i64 0, .slice none 0 0] 27)
    rwa [World.size_alloc] at this
  · have := World.alloc_heap_new ((w.alloc (.cells #[.string x.1, .int .i64 x.2, .slice a n c] 27)).alloc (.cells #[.string ⟨#[]⟩, .int .i64 0, .slice none 0 0] 27)) (.cells #[.string x.1, .int .i64 x.2, .slice none 0 0] 27)
    rw [World.size_alloc, World.size_alloc] at this
    exact this
/-- One term more: the callee has made it; it is appended; the list is stored. -/
theorem build_step {mk : Bool} {w wr w1 w3 : World} {x : ByteArray × Int} {a : Option Addr} {n c j g cap : Nat} {v : Value} {ks : List Kv} {kv : Kv} {o : Obj} (hT : Three w x a n c wr v) (hB : Built mk w wr v j ks) (hW : Below wr.heap.size wr w1)
    (hk : OwnTm mk (fun k => wr.heap.size ≤ k) w1 kv.x kv.a kv.c kv.l) (hg : (w1.alloc o).grownBy w3 v.ownBlock) (hat : v.ownBlock = some g ∨ g = w1.heap.size + 1)
    (ho : w3.ownsRow (w.heap.size + 3) 27 3 (.slice (some ⟨g, 0, none⟩) (j + 1) cap) (j + 1) (kvCells ks ++ kv.cells)) :
    Three w x a n c (w3.setCell ⟨w.heap.size + 1 + 1, 2, none⟩ (.slice (some ⟨g, 0, none⟩) (j + 1) cap)) (.slice (some ⟨g, 0, none⟩) (j + 1) cap) ∧
    Built mk w (w3.setCell ⟨w.heap.size + 1 + 1, 2, none⟩ (.slice (some ⟨g, 0, none⟩) (j + 1) cap)) (.slice (some ⟨g, 0, none⟩) (j + 1) cap) (j + 1) (ks ++ [kv]) := by
  have hxlt := hT.x.lt
  have hsz := hW.size
  have hWa : Below wr.heap.size wr (w1.alloc o) := hW.alloc hsz _
  have far : ∀ k, k < w.heap.size + 3 → k < wr.heap.size → w3.heap[k]? = wr.heap[k]? := fun k hk hlt => by
    rw [hg.block k (by rw [World.size_alloc]; omega) (fun e => by have := (owns_cells hB.row e.symm).1; omega)]
    exact hWa.block k hlt
  have hlow : Below w.heap.size w w3 := hT.low.trans ((hWa.mono (by have := hT.low.size; omega)).grown hg (by simp; omega) (fun k e => by have := (owns_cells hB.row e).1; omega))
  have hrow : (w3.setCell ⟨w.heap.size + 1 + 1, 2, none⟩ (.slice (some ⟨g, 0, none⟩) (j + 1) cap)).ownsRow (w.heap.size + 3) 27 3 (.slice (some ⟨g, 0, none⟩) (j + 1) cap) (j + 1) (kvCells ks ++ kv.cells) := owns_block ho (fun q hq => by
    have := (owns_cells ho hq).1
    exact Below.heap_setCell w3 _ _ q (by show q ≠ w.heap.size + 1 + 1; omega))
  refine ⟨⟨hlow.setCell (p := ⟨w.heap.size + 1 + 1, 2, none⟩) (by show w.heap.size ≤ w.heap.size + 1 + 1; omega) _, ?_, ?_, ?_⟩, ⟨by rw [kvCells_snoc]; exact hrow, ?_⟩⟩
  · exact ((Below.heap_setCell w3 _ _ _ (by show w.heap.size ≠ w.heap.size + 1 + 1; omega)).trans (far _ (by omega) (by omega))).trans hT.t
  · exact ((Below.heap_setCell w3 _ _ _ (by show w.heap.size + 1 ≠ w.heap.size + 1 + 1; omega)).trans (far _ (by omega) (by omega))).trans hT.r
  · exact XBox.set ((far _ (by omega) (by omega)).trans hT.x) _
  · intro k hkm
    have set : ∀ (q : Nat), (w.heap.size + 3 ≤ q ∧ some q ≠ some g) → q < w3.heap.size → (w3.setCell ⟨w.heap.size + 1 + 1, 2, none⟩ (.slice (some ⟨g, 0, none⟩) (j + 1) cap)).heap[q]? = w3.heap[q]? := fun q hq _ => Below.heap_setCell w3 _ _ q (by show q ≠ w.heap.size + 1 + 1; omega)
    have grow : ∀ (q : Nat), some q ≠ v.ownBlock → q < (w1.alloc o).heap.size → w3.heap[q]? = (w1.alloc o).heap[q]? := fun q hq hlt => hg.block q hlt hq
    rcases List.mem_append.1 hkm with hkm | hkm
    · have h1 := (hB.own k hkm).below hWa
      have h2 : OwnTm mk (fun q => (w.heap.size + 3 ≤ q ∧ some q ≠ some g) ∧ some q ≠ v.ownBlock) (w1.alloc o) k.x k.a k.c k.l := by
        have h0 : OwnTm mk (fun q => (w.heap.size + 3 ≤ q ∧ some q ≠ some g) ∧ some q ≠ v.ownBlock) wr k.x k.a k.c k.l := (hB.own k hkm).mono (fun q hq hp => ⟨⟨hp.1, by
          rcases hat with e | e
          · rw [← e]; exact hp.2
          · intro e'; cases e'; omega⟩, hp.2⟩)
        exact h0.below hWa
      exact ((h2.keep (fun q hq hlt => grow q hq.2 hlt)).mono (fun q _ hq => hq.1)).keep set
    · simp only [List.mem_singleton] at hkm
      subst hkm
      have h2 : OwnTm mk (fun q => (w.heap.size + 3 ≤ q ∧ some q ≠ some g) ∧ some q ≠ v.ownBlock) w1 k.x k.a k.c k.l := hk.mono (fun q hq hp => ⟨⟨by omega, by
        rcases hat with e | e
        · intro e'
          cases e'
          have := (owns_cells hB.row e).2
          obtain ⟨cur, hc⟩ := this
          have := (Array.getElem?_eq_some_iff.1 hc).1
          omega
        · intro e'; cases e'; omega⟩, fun e' => by
          obtain ⟨cur, hc⟩ := (owns_cells hB.row e'.symm).2
          have := (Array.getElem?_eq_some_iff.1 hc).1
          omega⟩)
      exact (((h2.below ((Below.refl _ _).alloc (Nat.le_refl _) o)).keep (fun q hq hlt => grow q hq.2 hlt)).mono (fun q _ hq => hq.1)).keep set

theorem owns_cap {w : World} {base e size g n cap : Nat} {xs : List Value} (h : w.ownsRow base e size (.slice (some ⟨g, 0, none⟩) n cap) n xs) : n ≤ cap ∧ cap ≤ maxLen := by
  rcases h.2 with ⟨hv, _⟩ | ⟨g', cap', cur', hv, _, _, hnc, hcm, _⟩
  · cases hv
  · cases hv; exact ⟨hnc, hcm⟩
theorem block_set {W : World} {B k : Nat} {cs : Array Value} {t : TypeId} {fr : Nat × Nat} (h : W.heap[B]? = some (Obj.cells cs t fr)) (u : Value) : (W.setCell ⟨B, k, none⟩ u).heap[B]? = some (Obj.cells (cs.setIfInBounds k u) t fr) := by
  obtain ⟨hlt, hk⟩ := Array.getElem?_eq_some_iff.1 h
  show (W.heap.modify B _)[B]? = _
  rw [Array.getElem?_eq_getElem (by rw [Array.size_modify]; exact hlt), Array.getElem_modify_self, hk]
  rfl
/-- A term stored over another. -/
theorem XBox.all {W : World} {B : Nat} {x y : ByteArray × Int} {v : Value} (h : XBox W B y v) (u : Value) : XBox (((W.setCell ⟨B, 0, none⟩ (.string x.1)).setCell ⟨B, 1, none⟩ (.int .i64 x.2)).setCell ⟨B, 2, none⟩ u) B x u := by
  have := block_set (k := 2) (block_set (k := 1) (block_set (k := 0) h (.string x.1)) (.int .i64 x.2)) u
  exact this
theorem Tryz.size27 : (Tryz.prog.info? 27).map (·.size) = some 3 := by kernel_rfl
/-- The three stores of the answer turn one block. -/
theorem sets_far {W : World} {B q : Nat} (h : q ≠ B) (a b c : Value) : (((W.setCell ⟨B, 0, none⟩ a).setCell ⟨B, 1, none⟩ b).setCell ⟨B, 2, none⟩ c).heap[q]? = W.heap[q]? :=
  ((Below.heap_setCell _ _ _ _ h).trans (Below.heap_setCell _ _ _ _ h)).trans (Below.heap_setCell _ _ _ _ h)
theorem sets_below {n0 : Nat} {w W : World} {B : Nat} (hb : Below n0 w W) (h : n0 ≤ B) (a b c : Value) : Below n0 w (((W.setCell ⟨B, 0, none⟩ a).setCell ⟨B, 1, none⟩ b).setCell ⟨B, 2, none⟩ c) :=
  ((hb.setCell (p := ⟨B, 0, none⟩) h _).setCell (p := ⟨B, 1, none⟩) h _).setCell (p := ⟨B, 2, none⟩) h _
def markK : Kv := ⟨(markB, 0), .nil, none, 0⟩
/-- The list with the mark behind it. -/
theorem lent_done {w wr wd w3 W : World} {x : ByteArray × Int} {l : Fo} {g cap : Nat} {v : Value} {ks : List Kv} (hs : Sizes x.1 (lenF l) cap) (hB : Built true w wr v (lenF l) ks) (hks : ks.map (fun k => (k.x, k.l)) = kidsL l)
    (hd : ∀ q, q < wr.heap.size → wd.heap[q]? = wr.heap[q]?) (hdz : wr.heap.size < wd.heap.size) (hg : wd.grownBy w3 v.ownBlock)
    (ho : w3.ownsRow (w.heap.size + 3) 27 3 (.slice (some ⟨g, 0, none⟩) (lenF l + 1) cap) (lenF l + 1) (kvCells ks ++ markK.cells)) (hW : ∀ q, w.heap.size + 3 ≤ q → W.heap[q]? = w3.heap[q]?) : OwnTm true (fun k => w.heap.size ≤ k) W x (some ⟨g, 0, none⟩) cap l := by
  have hlen : ks.length = lenF l := by have := congrArg List.length hks; rwa [List.length_map, kids_len] at this
  obtain ⟨hge, cur, hcur⟩ := owns_cells ho (g := g) rfl
  have hcap : lenF l + 1 ≤ cap := by
    rcases ho.2 with ⟨hv, _⟩ | ⟨g', cap', cur', hv, _, _, hnc, _⟩
    · cases hv
    · cases hv; exact hnc
  have hWg : W.heap[g]? = w3.heap[g]? := hW g hge
  have hat3 := owns_at ho
  have kids : OwnKids true (fun k => w.heap.size ≤ k) W l g 0 := by
    refine ownKids_of l ks 0 hks (fun j u hu => ?_) (fun k hk => ?_)
    · rw [show W.cell? ⟨g, 0 + j, none⟩ = w3.cell? ⟨g, 0 + j, none⟩ from World.cell?_of_block hWg]
      exact hat3 j u (by rw [List.getElem?_append_left (by
        rcases Nat.lt_or_ge j (kvCells ks).length with h' | h'
        · exact h'
        · rw [List.getElem?_eq_none h'] at hu; cases hu)]; exact hu)
    · have h1 := hB.own k hk
      refine (h1.keep (w' := W) (fun q hq hlt => ?_)).mono (fun q _ hq => by omega)
      rw [hW q hq.1, hg.block q (by omega) hq.2]
      exact hd q hlt
  refine ⟨hs, .inr ⟨g, cur, rfl, by omega, hWg.trans hcur, fun _ => ⟨hcap, ?_⟩, kids⟩⟩
  rw [show W.cell? ⟨g, lenF l * 3, none⟩ = w3.cell? ⟨g, lenF l * 3, none⟩ from World.cell?_of_block hWg]
  have := hat3 (lenF l * 3) (.string markB) (by rw [List.getElem?_append_right (by rw [kvCells_len]; omega), kvCells_len, hlen]; simp [Kv.cells, markK])
  rwa [Nat.zero_add] at this

def LentOk (k : Nat) : Prop := ∀ (x : ByteArray × Int) (l : Fo) (a : Option Addr) (c : Nat) (w : World), nodesF l ≤ k → TmAt w x a c l →
  Calls Tryz.prog 20 #[.agg #[.string x.1, .int .i64 x.2, .slice a (lenF l) c]] w fun e w' => ∃ a' c', e = .returned (.agg #[.string x.1, .int .i64 x.2, .slice a' (lenF l) c']) ∧ OwnTm true (fun k => w.heap.size ≤ k) w' x a' c' l ∧ Below w.heap.size w w'

set_option maxRecDepth 100000 in
set_option maxHeartbeats 4000000 in
theorem lent_all : ∀ k, LentOk k := by
  intro k
  induction k using Nat.strongRecOn with
  | _ k ih =>
    intro x l a c w hk hT
    obtain ⟨i0, hi, hz0, hz1, hz2⟩ := info_parts Tryz.info27
    have HT : Hid (TmAt w x a c l) := hT
    have IH : Hid (∀ j, j < k → LentOk j) := ih
    have hn : lenF l ≤ 9223372036854775807 := by have := hT.sizes.len; have := hT.sizes.cap; unfold maxLen at *; omega
    have hfew := hT.sizes.few
    clear hT ih
    go_enter Tryz.func20, Tryz.ntmps20
    go_wp2
    go_loopw [4] (fun i wr => ∃ (j : Nat) (v : Value) (ks : List Kv), j ≤ lenF l ∧ i = .int .i64 j ∧ Three w x a (lenF l) c wr v ∧ Built true w wr v j ks ∧ ks.map (fun k => (k.x, k.l)) = (kidsL l).take j) (fun i _ => lenF l - (intOf i).toNat)
    case atStart => exact ⟨0, _, [], Nat.zero_le _, rfl, Three.new w x a (lenF l) c, ⟨World.ownsRow_nil _ _ _ _, by simp⟩, by simp⟩
    case round =>
      obtain ⟨j, v, ks, hj, rfl, hTh, hBu, hks⟩ := hrel
      have hb := hTh.low
      have bT := hTh.t
      have bX := hTh.x
      have hrow := hBu.row
      have t2 := bT.c2
      by_cases hlt : j < lenF l
      · obtain ⟨bb, oo, rfl, hkk⟩ := HT.out.args.get (by omega)
        obtain ⟨y, a1, c1, l1, kd⟩ := hkk.kid (k := j) hlt
        have kd' := kd.below hb
        have X0 : Hid (XBox wr (w.heap.size + 1 + 1) x v) := bX
        have cX := X0.out.c2
        have hbb : bb < w.heap.size := World.block_lt_of_cell? w _ kd.name
        have p0 := kd'.name; have p1 := kd'.sym; have p2 := kd'.list
        have hIH := IH.out (nodesF l1) (by have := kd.less; omega) y l1 a1 c1 wr.drew (Nat.le_refl _) (kd'.at_.kept (fun _ _ h => h))
        have HIH : Hid (Calls Tryz.prog 20 #[.agg #[.string y.1, .int .i64 y.2, .slice a1 (lenF l1) c1]] wr.drew fun e w' => ∃ a' c', e = .returned (.agg #[.string y.1, .int .i64 y.2, .slice a' (lenF l1) c']) ∧ OwnTm true (fun k => wr.heap.size ≤ k) w' y a' c' l1 ∧ Below wr.heap.size wr.drew w') := hIH
        have HR : Hid (wr.ownsRow (w.heap.size + 3) 27 3 v j (kvCells ks)) := hrow
        have HB : Hid (Below w.heap.size w wr) := hb
        have TH : Hid (Three w x (some ⟨bb, oo, none⟩) (lenF l) c wr v) := hTh
        have BU : Hid (Built true w wr v j ks) := hBu
        have HK : Hid (ks.map (fun k => (k.x, k.l)) = (kidsL l).take j) := hks
        have KD : Hid (Kid w l bb oo j y a1 c1 l1) := kd
        have hmax : maxLen = 9223372036854775807 := rfl
        have hXlt : w.heap.size + 1 + 1 < wr.heap.size := X0.out.lt
        clear hIH kd' hkk kd hrow hb hTh hBu hks bT bX
        go_wp2_with fail
        go_region_law
          ((first
            | (refine step_append_lies _ (by rfl) (.tmp 18) (.tmp 25) 25 (by rfl) (w.heap.size + 3) 27 i0 _ 3 48 Tryz.underlying25 hi hz0 hz1 hz2 rfl (by decide) v j (kvCells ks) (by rfl) (owns_below (owns_below HR.out HW1.out) ((Below.refl _ _).alloc (Nat.le_refl _) _)) ⟨w1.heap.size, 0, none⟩ 1 1 (Kv.cells ⟨y, l1, a', c'⟩) (by rfl) rfl (World.news_of_block (heap_alloc_new w1 _)) (kv_one _) (by decide) (by omega) (by omega) (by have := HW1.out.size; simp; omega) _ rfl ?_; intro g3 cap3 w3 hown3 hgrow3 hat3 hlt3; have X3 : Hid (XBox w3 (w.heap.size + 1 + 1) x v) := X2.out.kept hgrow3 (fun e => by have := (owns_cells HR.out e.symm).1; omega); have cX3 := X3.out.c2; have fX3 := X3.out.f (k := 2); have HO3 : Hid (w3.ownsRow (w.heap.size + 3) 27 3 (.slice (some ⟨g3, 0, none⟩) (j + 1) cap3) (j + 1) (kvCells ks ++ Kv.cells ⟨y, l1, a', c'⟩)) := hown3; have HG3 : Hid ((w1.alloc (.cells #[.string y.1, .int .i64 y.2, .slice a' (lenF l1) c'] 27)).grownBy w3 v.ownBlock ∧ (v.ownBlock = some g3 ∨ g3 = w1.heap.size + 1)) := ⟨hgrow3, by simpa using hat3⟩; clear hown3 hgrow3 hat3)
            | (go_simp; go_wp2_with (go_at_call 20; refine HIH.out.mono ?_; rintro e w1 ⟨a', c', rfl, ho1, hb1⟩; have HO1 : Hid (OwnTm true (fun k => wr.heap.size ≤ k) w1 y a' c' l1) := ho1; have HW1 : Hid (Below wr.heap.size wr w1) := ((Below.refl _ wr).drew).trans hb1; have X1 : Hid (XBox w1 (w.heap.size + 1 + 1) x v) := X0.out.below HW1.out; have cX1 := X1.out.c2; have X2 : Hid (XBox (w1.alloc (.cells #[.string y.1, .int .i64 y.2, .slice a' (lenF l1) c'] 27)) (w.heap.size + 1 + 1) x v) := X1.out.below ((Below.refl _ _).alloc (Nat.le_refl _) _); have cX2 := X2.out.c2; clear ho1 hb1))
            | fail))
        all_goals
          go_wp2
          go_roundw
          case rel =>
            obtain ⟨h1, h2⟩ := build_step (kv := ⟨y, l1, a', c'⟩) TH.out BU.out HW1.out HO1.out HG3.out.1 HG3.out.2 HO3.out
            obtain ⟨B1, O1, sp⟩ := KD.out.split
            exact ⟨j + 1, _, _, by omega, by go_num, h1, h2, by rw [kids_take sp, ← HK.out]; simp⟩
          case measure => simp [intOf]; omega
      · have hjl : j = lenF l := by omega
        subst hjl
        have TH : Hid (Three w x a (lenF l) c wr v) := hTh
        have BU : Hid (Built true w wr v (lenF l) ks) := hBu
        have HK : Hid (ks.map (fun k => (k.x, k.l)) = kidsL l) := by show _ = _; rw [hks, ← kids_len, List.take_length]
        have X0 : Hid (XBox wr (w.heap.size + 1 + 1) x v) := bX
        have HR : Hid (wr.ownsRow (w.heap.size + 3) 27 3 v (lenF l) (kvCells ks)) := hrow
        have cX := X0.out.c2
        have hXlt : w.heap.size + 1 + 1 < wr.heap.size := X0.out.lt
        have hmax : maxLen = 9223372036854775807 := rfl
        have ta : (wr.alloc (.cells #[.string ⟨#[77, 97, 114, 107]⟩, .int .i64 0, .slice none 0 0] 27)).cell? ⟨w.heap.size, 2, none⟩ = some (.slice a (lenF l) c) := TBox.c2 ((Below.heap_alloc wr _ _ (by omega)).trans TH.out.t)
        have cXa : (wr.alloc (.cells #[.string ⟨#[77, 97, 114, 107]⟩, .int .i64 0, .slice none 0 0] 27)).cell? ⟨w.heap.size + 1 + 1, 2, none⟩ = some v := XBox.c2 ((Below.heap_alloc wr _ _ (by omega)).trans X0.out)
        clear hTh hBu hks hb bT bX hrow
        go_wp2_with fail
        go_region_law
          ((first
            | (refine step_append_lies _ (by rfl) (.tmp 29) (.tmp 31) 25 (by rfl) (w.heap.size + 3) 27 i0 _ 3 48 Tryz.underlying25 hi hz0 hz1 hz2 rfl (by decide) v (lenF l) (kvCells ks) (by rfl) (HR.out.alloc _) ⟨wr.heap.size, 0, none⟩ 1 1 markK.cells (by rfl) rfl (World.news_of_block (heap_alloc_new wr _)) (kv_one _) (by decide) (by omega) (by omega) (by simp; omega) _ rfl ?_; intro g3 cap3 w3 hown3 hgrow3 hat3 hlt3; obtain ⟨hcap3, hcm3⟩ := owns_cap hown3; have far : Hid (∀ q, q < w.heap.size + 3 → q < wr.heap.size → w3.heap[q]? = wr.heap[q]?) := fun q hq hlt => (hgrow3.block q (by show q < (wr.alloc _).heap.size; simp; omega) (fun e => by have := (owns_cells HR.out e.symm).1; omega)).trans (Below.heap_alloc wr _ q hlt); have X3 : Hid (XBox w3 (w.heap.size + 1 + 1) x v) := (far.out _ (by omega) (by omega)).trans X0.out; have cX3 := X3.out.c2; have fX3 := X3.out.f (k := 2); have t3 : w3.cell? ⟨w.heap.size, 2, none⟩ = some (.slice a (lenF l) c) := TBox.c2 ((far.out _ (by omega) (by omega)).trans TH.out.t); have HO3 : Hid (w3.ownsRow (w.heap.size + 3) 27 3 (.slice (some ⟨g3, 0, none⟩) (lenF l + 1) cap3) (lenF l + 1) (kvCells ks ++ markK.cells)) := hown3; have HG3 : Hid (World.grownBy (World.drew (World.alloc wr (.cells #[.string ⟨#[77, 97, 114, 107]⟩, .int .i64 0, .slice none 0 0] 27))) w3 v.ownBlock) := hgrow3; have hc3 : lenF l ≤ cap3 := (by omega); have X4 := X3.out.set (.slice (some ⟨g3, 0, none⟩) (lenF l) cap3); have x0 := X4.c0; have x1 := X4.c1; have x2 := X4.c2; clear hown3 hgrow3 hat3 X4)
            | fail))
        all_goals
          have R4 : XBox (w3.setCell ⟨w.heap.size + 1 + 1, 2, none⟩ (.slice (some ⟨g3, 0, none⟩) (lenF l) cap3)) (w.heap.size + 1) (⟨#[]⟩, 0) (.slice none 0 0) := XBox.other ((far.out _ (by omega) (by omega)).trans TH.out.r) (by show w.heap.size + 1 ≠ w.heap.size + 1 + 1; omega) _
          have r0 := R4.c0
          have r1 := R4.c1
          have r2 := R4.c2
          have f0 := R4.f (k := 0)
          have f1 := R4.f (k := 1)
          have f2 := R4.f (k := 2)
          have HR4 : Hid (XBox (w3.setCell ⟨w.heap.size + 1 + 1, 2, none⟩ (.slice (some ⟨g3, 0, none⟩) (lenF l) cap3)) (w.heap.size + 1) (⟨#[]⟩, 0) (.slice none 0 0)) := R4
          clear R4
          go_wp2
          refine bodyPost_ret (results_cell_row rfl _ _ (w.heap.size + 1) 27 #[.string x.1, .int .i64 x.2, .slice (some ⟨g3, 0, none⟩) (lenF l) cap3] (0, 0) _ rfl (HR4.out.all (x := x) _) Tryz.underlying27 rfl Tryz.size27) rfl ?_
          refine ⟨_, cap3, rfl, lent_done (wd := World.drew (World.alloc wr (.cells #[.string ⟨#[77, 97, 114, 107]⟩, .int .i64 0, .slice none 0 0] 27))) ⟨HT.out.sizes.name, hc3, hcm3, HT.out.sizes.few⟩ BU.out HK.out (fun q hq => Below.heap_alloc wr _ q hq) (by show _ < (wr.alloc _).heap.size; simp) HG3.out HO3.out (fun q hq => (sets_far (by omega) _ _ _).trans (Below.heap_setCell w3 _ _ q (by show q ≠ w.heap.size + 1 + 1; omega))), ?_⟩
          exact sets_below (((TH.out.low.alloc TH.out.low.size _).drew.grown HG3.out (by show _ ≤ (wr.alloc _).heap.size; simp; omega) (fun q e => by have := (owns_cells HR.out e).1; omega)).setCell (p := ⟨w.heap.size + 1 + 1, 2, none⟩) (by show w.heap.size ≤ w.heap.size + 1 + 1; omega) _) (by omega) _ _ _

theorem lent_any (x : ByteArray × Int) (l : Fo) (a : Option Addr) (c : Nat) (w : World) (hT : TmAt w x a c l) :
    Calls Tryz.prog 20 #[.agg #[.string x.1, .int .i64 x.2, .slice a (lenF l) c]] w fun e w' => ∃ a' c', e = .returned (.agg #[.string x.1, .int .i64 x.2, .slice a' (lenF l) c']) ∧ OwnTm true (fun k => w.heap.size ≤ k) w' x a' c' l ∧ Below w.heap.size w w' :=
  lent_all _ x l a c w (Nat.le_refl _) hT
end Go.Proofs.YtgcnjpiiofjljaaGreatDoor
