/- Texts laid together: TOpen, TRClone, TSpoil, TPath, CanP, CanQ, CanS, Find, Unit, Right, ChkPlain, SgOf. -/
import Derived.Test.YtfnfbljijkjkjaaGreatRows
import Derived.Lib.SmallJoins
import Derived.SizedLaws
import Derived.ProofKit
import Derived.OpenShut
import Derived.ShutString
import Derived.ChangeOld
import Derived.SliceStrings
import Derived.ChangeMaps5
import Derived.JoinedCond
import Derived.Test.YtfnfbljijkjkjaaGreatM1
/- How a term that came in is opened into a forest. -/
namespace Go.Proofs.YtfnfbljijkjkjaaGreat
open Go.ChangeShapes Go.WideShapes Go.ChangeAt Go.RowKit Go.Deep

theorem own : ownKnob Tryz.prog.godebug = none := by kernel_rfl
theorem laidOut : laidOutB Tryz.prog = true := by kernel_rfl
theorem addr_add (b off i : Nat) : (⟨b, off, none⟩ : Addr).add i = ⟨b, off + i, none⟩ := by
  unfold Addr.add
  split
  · rename_i h; subst h; rfl
  · rfl
theorem Tryz.cells26 : Tryz.prog.cellsOf 26 = 3 := by kernel_rfl
theorem Tryz.cells24 : Tryz.prog.cellsOf 24 = 1 := by kernel_rfl
theorem Tryz.cells9 : Tryz.prog.cellsOf 9 = 1 := by kernel_rfl
theorem Tryz.cells3 : Tryz.prog.cellsOf 3 = 1 := by kernel_rfl
theorem Tryz.bytes26 : Tryz.prog.bytesOf 26 = 48 := by kernel_rfl


/-- Small enough, by one of the two forms' bounds. -/
def Sz {H : Type} (d : DataW H) : Prop := (∀ m ∈ d.weights Tryz.prog 26, m ≤ 140737488351232) ∨ Rows.uptoBulk d ≤ 1048576
theorem weights_all {H : Type} {e : TypeId} {m : Nat} : ∀ {ds : List (DataW H)} {d : DataW H}, d ∈ ds → m ∈ d.weights Tryz.prog e → m ∈ DataW.weightsAll Tryz.prog e ds
  | d' :: r, d, hd, hm => by
    simp only [DataW.weightsAll, List.mem_append]
    rcases List.mem_cons.1 hd with rfl | h
    · exact .inl hm
    · exact .inr (weights_all h hm)
theorem bulk_all {H : Type} : ∀ {ds : List (DataW H)} {d : DataW H}, d ∈ ds → Rows.uptoBulk d ≤ Rows.uptoBulkAll ds
  | d' :: r, d, hd => by
    simp only [Rows.uptoBulkAll]
    rcases List.mem_cons.1 hd with rfl | h
    · omega
    · have := bulk_all h; omega
theorem bulk_pos {H : Type} (d : DataW H) : 1 ≤ Rows.uptoBulk d := by
  cases d with
  | lit l => cases l <;> simp [Rows.uptoBulk]
  | _ => simp [Rows.uptoBulk]
theorem bulk_len {H : Type} : ∀ ds : List (DataW H), ds.length ≤ Rows.uptoBulkAll ds
  | [] => Nat.le_refl _
  | d :: r => by
    have := bulk_len r
    have := bulk_pos d
    simp only [Rows.uptoBulkAll, List.length_cons]; omega

/-- Terms side by side make a forest. -/
theorem forest_of {H : Type} {W : World} {b : Nat} : ∀ (ds : List (DataW H × List MemPlace)) (o : Nat),
    (∀ (i : Nat) (h : i < ds.length), ∃ (p : ByteArray × Int) (a : Option Addr) (c : Nat) (l : Fo), (W.cell? ⟨b, o + i * 3, none⟩ = some (.string p.1) ∧ W.cell? ⟨b, o + i * 3 + 1, none⟩ = some (.int .i64 p.2) ∧ W.cell? ⟨b, o + i * 3 + 2, none⟩ = some (.slice a (lenF l) c)) ∧ TmAt W p a c l ∧ nodesF l + 1 ≤ Rows.uptoBulk ds[i].1) →
    ∃ F : Fo, lenF F = ds.length ∧ KidsAt W F b o ∧ nodesF F ≤ Rows.uptoBulkAll (ds.map (·.1))
  | [], o, _ => ⟨.nil, rfl, trivial, Nat.zero_le _⟩
  | d :: r, o, h => by
    obtain ⟨F, hl, hk, hn⟩ := forest_of r (o + 3) (fun i hi => by
      obtain ⟨p, a, c, l, ⟨h0, h1, h2⟩, h3, h4⟩ := h (i + 1) (by simpa using hi)
      rw [show o + (i + 1) * 3 = o + 3 + i * 3 by omega] at h0 h1 h2
      exact ⟨p, a, c, l, ⟨h0, h1, h2⟩, h3, h4⟩)
    obtain ⟨p, a, c, l, ⟨h0, h1, h2⟩, h3, h4⟩ := h 0 (by simp)
    simp only [Nat.zero_mul, Nat.add_zero, List.getElem_cons_zero] at h0 h1 h2 h4
    refine ⟨.node 0 0 p l F, by simp [lenF, hl], ⟨⟨a, c, h0, h1, h2, h3.sizes, h3.args⟩, hk⟩, ?_⟩
    simp only [nodesF, List.map_cons, Rows.uptoBulkAll]
    omega

set_option maxRecDepth 100000 in
theorem term_open {H : Type} {enc : TypeId × Value → H} {W : World} : ∀ (fuel : Nat) (cs : List Value) (x : DataW H × List MemPlace), DataW.trod enc Tryz.prog W 0 (fun _ => true) true fuel 26 cs = some x → Sz x.1 →
    ∃ (p : ByteArray × Int) (a : Option Addr) (c : Nat) (l : Fo), cs = [.string p.1, .int .i64 p.2, .slice a (lenF l) c] ∧ TmAt W p a c l ∧ nodesF l + 1 ≤ Rows.uptoBulk x.1 := by
  intro fuel
  induction fuel using Nat.strongRecOn with
  | _ fuel ih =>
    intro cs x h hz
    obtain ⟨xs, n, hfuel, hx, hl, hlen, hf⟩ := DataW.trod_struct Tryz.underlying26 h
    rw [Tryz.cells26] at hl
    match xs, hlen, cs, hl with
    | [y0, y1, y2], _, [v0, v1, v2], _ =>
      have g0 := hf 0 _ rfl
      have g1 := hf 1 _ rfl
      have g2 := hf 2 _ rfl
      simp [Tryz.cells9, Tryz.cells3, Tryz.cells24] at g0 g1 g2
      obtain ⟨s0, e0, k0, f0⟩ := DataW.trod_string Tryz.underlying9 g0
      obtain ⟨n1, e1, k1, _⟩ := DataW.trod_int Tryz.underlying3 g1
      simp at e0 e1
      subst e0 e1 hx
      rcases DataW.trod_slice Tryz.underlying24 g2 with ⟨hcs, h2⟩ | ⟨ad, len, c, elems, rest, n', hn', hcs, h2, _, hlc, hcm, hlen2, hel, _, _⟩
      · simp at hcs
        subst hcs
        exact ⟨(s0, n1), none, 0, .nil, rfl, ⟨⟨f0, by simp [lenF], by simp, by simp [lenF]⟩, .inl rfl⟩, by simp [nodesF, Rows.uptoBulk, Rows.uptoBulkAll]⟩
      · simp at hcs
        subst hcs
        rw [Tryz.cells26] at hel
        have hb2 : Rows.uptoBulkAll (elems.map (·.1)) + 1 ≤ Rows.uptoBulk (DataW.agg (List.map (·.1) [y0, y1, y2])) := by
          simp only [List.map_cons, List.map_nil, Rows.uptoBulk, Rows.uptoBulkAll, h2]; omega
        have hsub : ∀ d ∈ elems, Sz d.1 := by
          intro d hd
          rcases hz with hz | hz
          · refine .inl fun m hm => hz m ?_
            have : m ∈ DataW.weightsAll Tryz.prog 26 (elems.map (·.1)) := weights_all (List.mem_map_of_mem hd) hm
            simp [DataW.weights, Tryz.underlying26, DataW.weightsEach, h2, Tryz.underlying24, this]
          · refine .inr ?_
            have := bulk_all (List.mem_map_of_mem (f := (·.1)) hd)
            simp only at hz
            omega
        have hfew : len * 48 ≤ 140737488351232 := by
          rcases hz with hz | hz
          · have := hz ((elems.length + rest.length) * 48) (by simp [DataW.weights, Tryz.underlying26, DataW.weightsEach, h2, Tryz.underlying24, Tryz.bytes26])
            rw [hlen2] at this
            omega
          · have := bulk_len (elems.map (·.1))
            rw [List.length_map, hlen2] at this
            simp only at hz
            omega
        have each : ∀ i (hi : i < elems.length), ∃ (p : ByteArray × Int) (a : Option Addr) (c : Nat) (l : Fo), W.cells? 0 (ad.add (i * 3)) 3 = some [.string p.1, .int .i64 p.2, .slice a (lenF l) c] ∧ TmAt W p a c l ∧ nodesF l + 1 ≤ Rows.uptoBulk elems[i].1 := by
          intro i hi
          have h1 := hel i (by omega)
          rw [List.getElem?_eq_getElem hi] at h1
          cases hc : W.cells? 0 (ad.add (i * 3)) 3 with
          | none => rw [hc] at h1; cases h1
          | some cs' =>
            rw [hc] at h1
            obtain ⟨p, a, c, l, rfl, h3, h4⟩ := ih n' (by omega) cs' elems[i] h1 (hsub _ (List.getElem_mem hi))
            exact ⟨p, a, c, l, rfl, h3, h4⟩
        by_cases hz0 : len = 0
        · subst hz0
          exact ⟨(s0, n1), some ad, c, .nil, rfl, ⟨⟨f0, by simp [lenF], hcm, by simp [lenF]⟩, .inl rfl⟩, by simp only [nodesF]; omega⟩
        · obtain ⟨b, off, spot⟩ := ad
          have hspot : spot = none := by
            obtain ⟨p, a, c, l, h3, _⟩ := each 0 (by omega)
            obtain ⟨_, _, h30⟩ := World.cells?_some h3
            have := h30 0 (by omega)
            simpa [Addr.add] using World.cell?_spot this
          subst hspot
          obtain ⟨F, hFl, hFk, hFn⟩ := forest_of (W := W) (b := b) elems off (fun i hi => by
            obtain ⟨p, a, c, l, h3, h4, h5⟩ := each i hi
            rw [addr_add] at h3
            obtain ⟨_, _, h30⟩ := World.cells?_some h3
            have q0 := h30 0 (by omega)
            have q1 := h30 1 (by omega)
            have q2 := h30 2 (by omega)
            rw [addr_add] at q0 q1 q2
            exact ⟨p, a, c, l, ⟨q0, q1, q2⟩, h4, h5⟩)
          have hFl' : lenF F = len := by rw [hFl, hlen2]
          exact ⟨(s0, n1), some ⟨b, off, none⟩, c, F, by rw [hFl'], ⟨⟨f0, by omega, hcm, by rw [hFl']; exact hfew⟩, .inr ⟨b, off, rfl, hFk⟩⟩, Nat.le_trans (Nat.succ_le_succ hFn) hb2⟩

set_option maxRecDepth 100000 in
/-- A term that came in. -/
theorem termv_open {H : Type} {enc : TypeId × Value → H} {W : World} {r : Reach} {b0 : Nat} {v : Value} {d : DataW H} {ps : List MemPlace} (hv : Value.okWide Tryz.prog W r b0 26 v)
    (h : DataW.Trod enc Tryz.prog W 0 (fun _ => true) true 26 v d ps) (hz : Sz d) :
    ∃ (p : ByteArray × Int) (a : Option Addr) (c : Nat) (l : Fo), v = .agg #[.string p.1, .int .i64 p.2, .slice a (lenF l) c] ∧ TmAt W p a c l ∧ nodesF l + 1 ≤ Rows.uptoBulk d := by
  obtain ⟨cs, rfl, hsz⟩ := okWide_struct Tryz.underlying26 hv
  obtain ⟨c0, c1, c2, rfl⟩ := Joins.array3 (hsz.trans Tryz.cells26)
  obtain ⟨fuel, hf⟩ := h
  obtain ⟨p, a, c, l, hcs, h1, h2⟩ := term_open fuel _ _ hf hz
  simp [Value.cells] at hcs
  obtain ⟨rfl, rfl, rfl⟩ := hcs
  exact ⟨p, a, c, l, rfl, h1, h2⟩
/-- Within the first form's reach. -/
theorem sz_of_weights {H : Type} {ts : List TypeId} {ds : List (DataW H)} {j : Nat} {d : DataW H} (h : (DataW.weightsEach Tryz.prog ts ds).all (· ≤ reachBytes) = true) (ht : ts[j]? = some 26) (hd : ds[j]? = some d) : Sz d :=
  .inl fun m hm => by
    have := List.all_eq_true.1 h _ (DataW.weights_mem_each ht hd m hm)
    have e : reachBytes = 140737488351232 := rfl
    rw [e] at this
    simpa using this
end Go.Proofs.YtfnfbljijkjkjaaGreat
/- What the document's Clone makes: the term in new memory, its own list in a row of its own. -/
namespace Go.Proofs.YtfnfbljijkjkjaaGreat
open Go.RowKit Go.Deep

/-- A term whose list is a row of a new block, the lists beneath it in other new blocks. -/
structure RowTm (B0 : Nat) (W : World) (x : ByteArray × Int) (a : Option Addr) (c : Nat) (l : Fo) : Prop where
  sizes : Sizes x.1 (lenF l) c
  list : l = .nil ∨ ∃ g cur, a = some ⟨g, 0, none⟩ ∧ B0 ≤ g ∧ W.heap[g]? = some (Obj.cells cur 26 (0, 0)) ∧ OwnKids false (fun q => B0 ≤ q ∧ q ≠ g) W l g 0
set_option maxRecDepth 100000 in
theorem RowTm.own {B0 : Nat} {W : World} {x : ByteArray × Int} {a : Option Addr} {c : Nat} {l : Fo} (h : RowTm B0 W x a c l) : OwnTm false (fun q => B0 ≤ q) W x a c l :=
  ⟨h.sizes, by
    rcases h.list with h | ⟨g, cur, ha, hg, hc, hk⟩
    · exact .inl ⟨h, rfl⟩
    · exact .inr ⟨g, cur, ha, hg, hc, (fun e => by cases e), hk.mono (fun q _ hq => hq.1)⟩⟩
set_option maxRecDepth 100000 in
theorem RowTm.keep {B0 : Nat} {W W' : World} {x : ByteArray × Int} {a : Option Addr} {c : Nat} {l : Fo} (h : RowTm B0 W x a c l) (hp : ∀ k, B0 ≤ k → k < W.heap.size → W'.heap[k]? = W.heap[k]?) : RowTm B0 W' x a c l :=
  ⟨h.sizes, by
    rcases h.list with h | ⟨g, cur, ha, hg, hc, hk⟩
    · exact .inl h
    · have hgg := hp g hg (Array.getElem?_eq_some_iff.1 hc).1
      exact .inr ⟨g, cur, ha, hg, hgg.trans hc, hk.keep (fun k hk hlt => hp k hk.1 hlt) hgg⟩⟩
set_option maxRecDepth 100000 in
theorem RowTm.below {B0 : Nat} {W W' : World} {x : ByteArray × Int} {a : Option Addr} {c : Nat} {l : Fo} (h : RowTm B0 W x a c l) (hb : Below W.heap.size W W') : RowTm B0 W' x a c l := h.keep fun k _ hk => hb.block k hk

set_option maxRecDepth 100000 in
/-- The list when it is built. -/
theorem built_done {w wr : World} {x : ByteArray × Int} {l : Fo} {v : Value} {ks : List Kv} (hB : Built false w wr v (lenF l) ks) (hks : ks.map (fun k => (k.x, k.l)) = kidsL l) (hx : x.1.size ≤ maxLen) (hf : lenF l * 48 ≤ 140737488351232) :
    ∃ a c, v = .slice a (lenF l) c ∧ RowTm (w.heap.size + 3) wr x a c l := by
  rcases hB.row.2 with ⟨hv, h0⟩ | ⟨g, cap, cur, rfl, hb, hg, hnc, hcm, hsz, hcur⟩
  · refine ⟨none, 0, by rw [h0]; exact hv, ⟨hx, by omega, by simp, hf⟩, .inl (len_nil h0)⟩
  · refine ⟨_, cap, rfl, ⟨hx, hnc, hcm, hf⟩, .inr ⟨g, cur, rfl, hb, hg, ownKids_of l ks 0 hks (owns_at hB.row) (fun k hk => ?_)⟩⟩
    exact (hB.own k hk).mono (fun q _ hq => ⟨hq.1, fun e => hq.2 (by rw [e]; rfl)⟩)

def RCloneOk (k : Nat) : Prop := ∀ (x : ByteArray × Int) (l : Fo) (a : Option Addr) (c : Nat) (w : World), nodesF l ≤ k → TmAt w x a c l →
  Calls Tryz.prog 33 #[.agg #[.string x.1, .int .i64 x.2, .slice a (lenF l) c]] w fun e w' => ∃ a' c', e = .returned (.agg #[.string x.1, .int .i64 x.2, .slice a' (lenF l) c']) ∧ RowTm w.heap.size w' x a' c' l ∧ Below w.heap.size w w'

set_option maxRecDepth 100000 in
set_option maxHeartbeats 4000000 in
theorem rclone_all : ∀ k, RCloneOk k := by
  intro k
  induction k using Nat.strongRecOn with
  | _ k ih =>
    intro x l a c w hk hT
    obtain ⟨i0, hi, hz0, hz1, hz2⟩ := info_parts Tryz.info26
    have HT : Hid (TmAt w x a c l) := hT
    have IH : Hid (∀ j, j < k → RCloneOk j) := ih
    have hn : lenF l ≤ 9223372036854775807 := by have := hT.sizes.len; have := hT.sizes.cap; unfold maxLen at *; omega
    have hfew := hT.sizes.few
    clear hT ih
    go_enter Tryz.func33, Tryz.ntmps33
    go_wp2
    go_loopw [4] (fun i wr => ∃ (j : Nat) (v : Value) (ks : List Kv), j ≤ lenF l ∧ i = .int .i64 j ∧ Three w x a (lenF l) c wr v ∧ Built false w wr v j ks ∧ ks.map (fun k => (k.x, k.l)) = (kidsL l).take j) (fun i _ => lenF l - (intOf i).toNat)
    case atStart => exact ⟨0, _, [], Nat.zero_le _, rfl, Three.new w x a (lenF l) c, ⟨World.ownsRow_nil _ _ _ _, by simp⟩, by simp⟩
    case round =>
      obtain ⟨j, v, ks, hj, rfl, hTh, hBu, hks⟩ := hrel
      have hb := hTh.low
      have bT := hTh.t
      have bX := hTh.x
      have hrow := hBu.row
      have t2 := bT.c2
      by_cases hlt : j < lenF l
      · obtain ⟨bb, oo, rfl, hkk⟩ := HT.out.args.get (by omega)
        obtain ⟨y, a1, c1, l1, kd⟩ := hkk.kid (k := j) hlt
        have kd' := kd.below hb
        have X0 : Hid (XBox wr (w.heap.size + 1 + 1) x v) := bX
        have cX := X0.out.c2
        have hbb : bb < w.heap.size := World.block_lt_of_cell? w _ kd.name
        have p0 := kd'.name; have p1 := kd'.sym; have p2 := kd'.list
        have hIH := IH.out (nodesF l1) (by have := kd.less; omega) y l1 a1 c1 wr.drew (Nat.le_refl _) (kd'.at_.kept (fun _ _ h => h))
        have HIH : Hid (Calls Tryz.prog 33 #[.agg #[.string y.1, .int .i64 y.2, .slice a1 (lenF l1) c1]] wr.drew fun e w' => ∃ a' c', e = .returned (.agg #[.string y.1, .int .i64 y.2, .slice a' (lenF l1) c']) ∧ RowTm wr.heap.size w' y a' c' l1 ∧ Below wr.heap.size wr.drew w') := hIH
        have HR : Hid (wr.ownsRow (w.heap.size + 3) 26 3 v j (kvCells ks)) := hrow
        have HB : Hid (Below w.heap.size w wr) := hb
        have TH : Hid (Three w x (some ⟨bb, oo, none⟩) (lenF l) c wr v) := hTh
        have BU : Hid (Built false w wr v j ks) := hBu
        have HK : Hid (ks.map (fun k => (k.x, k.l)) = (kidsL l).take j) := hks
        have KD : Hid (Kid w l bb oo j y a1 c1 l1) := kd
        have hmax : maxLen = 9223372036854775807 := rfl
        have hXlt : w.heap.size + 1 + 1 < wr.heap.size := X0.out.lt
        clear hIH kd' hkk kd hrow hb hTh hBu hks bT bX
        go_wp2_with fail
        go_region_law
          ((first
            | (refine step_append_lies _ (by rfl) (.tmp 18) (.tmp 25) 24 (by rfl) (w.heap.size + 3) 26 i0 _ 3 48 Tryz.underlying24 hi hz0 hz1 hz2 rfl (by decide) v j (kvCells ks) (by rfl) (owns_below (owns_below HR.out HW1.out) ((Below.refl _ _).alloc (Nat.le_refl _) _)) ⟨w1.heap.size, 0, none⟩ 1 1 (Kv.cells ⟨y, l1, a', c'⟩) (by rfl) rfl (World.news_of_block (heap_alloc_new w1 _)) (kv_one _) (by decide) (by omega) (by omega) (by have := HW1.out.size; simp; omega) _ rfl ?_; intro g3 cap3 w3 hown3 hgrow3 hat3 hlt3; have X3 : Hid (XBox w3 (w.heap.size + 1 + 1) x v) := X2.out.kept hgrow3 (fun e => by have := (owns_cells HR.out e.symm).1; omega); have cX3 := X3.out.c2; have fX3 := X3.out.f (k := 2); have HO3 : Hid (w3.ownsRow (w.heap.size + 3) 26 3 (.slice (some ⟨g3, 0, none⟩) (j + 1) cap3) (j + 1) (kvCells ks ++ Kv.cells ⟨y, l1, a', c'⟩)) := hown3; have HG3 : Hid ((w1.alloc (.cells #[.string y.1, .int .i64 y.2, .slice a' (lenF l1) c'] 26)).grownBy w3 v.ownBlock ∧ (v.ownBlock = some g3 ∨ g3 = w1.heap.size + 1)) := ⟨hgrow3, by simpa using hat3⟩; clear hown3 hgrow3 hat3)
            | (go_simp; go_wp2_with (go_at_call 33; refine HIH.out.mono ?_; rintro e w1 ⟨a', c', rfl, ho1, hb1⟩; have HO1 : Hid (OwnTm false (fun k => wr.heap.size ≤ k) w1 y a' c' l1) := ho1.own; have HW1 : Hid (Below wr.heap.size wr w1) := ((Below.refl _ wr).drew).trans hb1; have X1 : Hid (XBox w1 (w.heap.size + 1 + 1) x v) := X0.out.below HW1.out; have cX1 := X1.out.c2; have X2 : Hid (XBox (w1.alloc (.cells #[.string y.1, .int .i64 y.2, .slice a' (lenF l1) c'] 26)) (w.heap.size + 1 + 1) x v) := X1.out.below ((Below.refl _ _).alloc (Nat.le_refl _) _); have cX2 := X2.out.c2; clear ho1 hb1))
            | fail))
        all_goals
          go_wp2
          go_roundw
          case rel =>
            obtain ⟨h1, h2⟩ := build_step (kv := ⟨y, l1, a', c'⟩) TH.out BU.out HW1.out HO1.out HG3.out.1 HG3.out.2 HO3.out
            obtain ⟨B1, O1, sp⟩ := KD.out.split
            exact ⟨j + 1, _, _, by omega, by go_num, h1, h2, by rw [kids_take sp, ← HK.out]; simp⟩
          case measure => simp [intOf]; omega
      · have hjl : j = lenF l := by omega
        subst hjl
        have hks' : ks.map (fun k => (k.x, k.l)) = kidsL l := by rw [hks, ← kids_len, List.take_length]
        obtain ⟨a3, c3, rfl, hrt⟩ := built_done hBu hks' HT.out.sizes.name HT.out.sizes.few
        have x0 := bX.c0; have x1 := bX.c1; have x2 := bX.c2
        have R4 : XBox wr (w.heap.size + 1) (⟨#[]⟩, 0) (.slice none 0 0) := hTh.r
        have r0 := R4.c0
        have r1 := R4.c1
        have r2 := R4.c2
        have f0 := R4.f (k := 0)
        have f1 := R4.f (k := 1)
        have f2 := R4.f (k := 2)
        have HR4 : Hid (XBox wr (w.heap.size + 1) (⟨#[]⟩, 0) (.slice none 0 0)) := R4
        have HL : Hid (Below w.heap.size w wr) := hb
        have HRT : Hid (RowTm (w.heap.size + 3) wr x a3 c3 l) := hrt
        clear R4 hTh hBu hks hks' hb bT bX hrow hrt
        go_wp2
        refine bodyPost_ret (results_cell_row rfl _ _ (w.heap.size + 1) 26 #[.string x.1, .int .i64 x.2, .slice a3 (lenF l) c3] (0, 0) _ rfl (HR4.out.all (x := x) _) Tryz.underlying26 rfl Tryz.size26) rfl ?_
        refine ⟨a3, c3, rfl, ?_, sets_below HL.out (by omega) _ _ _⟩
        have h := HRT.out.keep (W' := (((wr.setCell ⟨w.heap.size + 1, 0, none⟩ (.string x.1)).setCell ⟨w.heap.size + 1, 1, none⟩ (.int .i64 x.2)).setCell ⟨w.heap.size + 1, 2, none⟩ (.slice a3 (lenF l) c3))) (fun q hq _ => sets_far (by omega) _ _ _)
        exact ⟨h.sizes, by
          rcases h.list with h | ⟨g, cur, ha, hg, hc, hk⟩
          · exact .inl h
          · exact .inr ⟨g, cur, ha, by omega, hc, hk.mono (fun q _ hq => ⟨by omega, hq.2⟩)⟩⟩
set_option maxRecDepth 100000 in
theorem rclone_any (x : ByteArray × Int) (l : Fo) (a : Option Addr) (c : Nat) (w : World) (hT : TmAt w x a c l) :
    Calls Tryz.prog 33 #[.agg #[.string x.1, .int .i64 x.2, .slice a (lenF l) c]] w fun e w' => ∃ a' c', e = .returned (.agg #[.string x.1, .int .i64 x.2, .slice a' (lenF l) c']) ∧ RowTm w.heap.size w' x a' c' l ∧ Below w.heap.size w w' :=
  rclone_all _ x l a c w (Nat.le_refl _) hT
end Go.Proofs.YtfnfbljijkjkjaaGreat
/- What Spoil turns: the lists of the term it is handed, nothing else; what Exact answers of two that are alike. -/
namespace Go.Proofs.YtfnfbljijkjkjaaGreat
open Go.RowKit Go.Deep

/-- Nothing that there was has turned but blocks of A. -/
structure Fr (A : Nat → Prop) (w w' : World) : Prop where
  low : Below 0 w w'
  same : ∀ k, k < w.heap.size → ¬ A k → w'.heap[k]? = w.heap[k]?
theorem Fr.refl (A : Nat → Prop) (w : World) : Fr A w w := ⟨Below.refl _ _, fun _ _ _ => rfl⟩
theorem Fr.trans {A : Nat → Prop} {x y z : World} (h : Fr A x y) (k : Fr A y z) : Fr A x z := ⟨h.low.trans k.low, fun q hq hA => (k.same q (Nat.lt_of_lt_of_le hq h.low.size) hA).trans (h.same q hq hA)⟩
theorem Fr.mono {A A' : Nat → Prop} {x y : World} (hA : ∀ k, A k → A' k) (h : Fr A x y) : Fr A' x y := ⟨h.low, fun q hq hn => h.same q hq (fun h' => hn (hA q h'))⟩
theorem Fr.of_below {A : Nat → Prop} {x y : World} (h : Below x.heap.size x y) : Fr A x y := ⟨h.mono (Nat.zero_le _), fun q hq _ => h.block q hq⟩
theorem Fr.below {A : Nat → Prop} {x y : World} {n : Nat} (h : Fr A x y) (hn : ∀ k, A k → n ≤ k) (hs : n ≤ x.heap.size) : Below n x y := ⟨h.low.os, h.low.tape, h.low.output, h.low.size, fun k hk => h.same k (by omega) (fun hA => by have := hn k hA; omega)⟩
theorem Fr.sets {A : Nat → Prop} {W : World} {g : Nat} (hg : A g) (i j k : Nat) (a b c : Value) : Fr A W (((W.setCell ⟨g, i, none⟩ a).setCell ⟨g, j, none⟩ b).setCell ⟨g, k, none⟩ c) :=
  ⟨(((Below.refl 0 W).setCell (p := ⟨g, i, none⟩) (Nat.zero_le _) _).setCell (p := ⟨g, j, none⟩) (Nat.zero_le _) _).setCell (p := ⟨g, k, none⟩) (Nat.zero_le _) _, fun q _ hn => by
    have : q ≠ g := fun e => hn (e ▸ hg)
    rw [Below.heap_setCell _ _ _ q this, Below.heap_setCell _ _ _ q this, Below.heap_setCell _ _ _ q this]⟩
/-- Three cells of a row are turned; those behind them are not. -/
theorem sets_behind {W : World} {g i n : Nat} {a b c : Value} {v : Value} (hi : n + 3 ≤ i) (h : W.cell? ⟨g, i, none⟩ = some v) : (((W.setCell ⟨g, n, none⟩ a).setCell ⟨g, n + 1, none⟩ b).setCell ⟨g, n + 2, none⟩ c).cell? ⟨g, i, none⟩ = some v := by
  rw [World.cell?_setCell_other _ _ _ _ (fun e => by cases e; omega), World.cell?_setCell_other _ _ _ _ (fun e => by cases e; omega), World.cell?_setCell_other _ _ _ _ (fun e => by cases e; omega)]
  exact h
theorem row_frozen {W : World} {g i : Nat} {cur : Array Value} {t : TypeId} (h : W.heap[g]? = some (Obj.cells cur t (0, 0))) : W.frozen? ⟨g, i, none⟩ = false := by simp [World.frozen?, h]

def ExactOk (k : Nat) : Prop := ∀ (x : ByteArray × Int) (l : Fo) (a b : Option Addr) (c d : Nat) (w : World), nodesF l ≤ k → TmAt w x a c l → TmAt w x b d l →
  Calls Tryz.prog 37 #[.agg #[.string x.1, .int .i64 x.2, .slice a (lenF l) c], .agg #[.string x.1, .int .i64 x.2, .slice b (lenF l) d]] w fun e w' => e = .returned (.bool true) ∧ Below w.heap.size w w'

set_option maxRecDepth 100000 in
set_option maxHeartbeats 2000000 in
theorem exact_all : ∀ k, ExactOk k := by
  intro k
  induction k using Nat.strongRecOn with
  | _ k ih =>
    intro x l a b c d w hk hS hT
    have HS : Hid (TmAt w x a c l) := hS
    have HT : Hid (TmAt w x b d l) := hT
    have IH : Hid (∀ j, j < k → ExactOk j) := ih
    have PA : Hid (Pair w x a (lenF l) c x b (lenF l) d ((w.alloc (.cells #[.string x.1, .int .i64 x.2, .slice a (lenF l) c] 26)).alloc (.cells #[.string x.1, .int .i64 x.2, .slice b (lenF l) d] 26))) := Pair.new _ _ _ _ _ _ _ _ _
    have hn : lenF l ≤ 9223372036854775807 := by have := hS.sizes.len; have := hS.sizes.cap; unfold maxLen at *; omega
    clear hS hT ih
    go_enter Tryz.func37, Tryz.ntmps37
    go_wp2
    go_loopw [5, 6] (fun i _ wr => ∃ j : Nat, j ≤ lenF l ∧ i = .int .i64 j ∧ Pair w x a (lenF l) c x b (lenF l) d wr) (fun i _ _ => lenF l - (intOf i).toNat)
    case atStart => exact ⟨0, Nat.zero_le _, rfl, PA.out⟩
    case round =>
      obtain ⟨j, hj, rfl, hP⟩ := hrel
      have t2 := hP.l.c2
      by_cases hlt : j < lenF l
      · obtain ⟨b1, o1, rfl, hk1⟩ := HS.out.args.get (by omega)
        obtain ⟨bb, oo, rfl, hkk⟩ := HT.out.args.get (by omega)
        obtain ⟨y, a1, c1, l1, kd⟩ := hk1.kid (k := j) hlt
        obtain ⟨y', a2, c2, l2, kd2⟩ := hkk.kid (k := j) hlt
        obtain ⟨rfl, rfl⟩ := kid_same kd kd2
        have kd' := kd.below hP.low
        have kd2' := kd2.below hP.low
        have HP : Hid (Pair w x (some ⟨b1, o1, none⟩) (lenF l) c x (some ⟨bb, oo, none⟩) (lenF l) d wr) := hP
        have hC : Hid (∀ w', Below wr.heap.size wr w' → Calls Tryz.prog 37 #[.agg #[.string y'.1, .int .i64 y'.2, .slice a1 (lenF l2) c1], .agg #[.string y'.1, .int .i64 y'.2, .slice a2 (lenF l2) c2]] w' fun e w'' => e = .returned (.bool true) ∧ Below w'.heap.size w' w'') := fun w' hb =>
          IH.out (nodesF l2) (by have := kd.less; omega) y' l2 a1 a2 c1 c2 w' (Nat.le_refl _) (kd'.at_.below hb) (kd2'.at_.below hb)
        have hne := later_some wr
        have d0 := later_cell hP.l.c2
        have d1 := later_cell hP.r.c2
        have p0 := later_cell kd'.name; have p1 := later_cell kd'.sym; have p2 := later_cell kd'.list
        have q0 := later_cell kd2'.name; have q1 := later_cell kd2'.sym; have q2 := later_cell kd2'.list
        have hk0 : (0 : Int) ≤ (j : Int) := by omega
        have hkn : (j : Int) < (lenF l : Int) := by omega
        clear kd kd2 kd' kd2' hk1 hkk hP
        go_wp2_with fail
        refine wp_region_later (by kernel_rfl) (by kernel_rfl) ?_
        repeat (go_big_quiet_step ((refine calls_later (hC.out _ ?_); exact Later.below _)))
        refine wpQuiet_nil ?_
        intro _ hw'
        obtain ⟨b2, hw''⟩ := hw'
        subst hw''
        have HP2 : Hid (Pair w x (some ⟨b1, o1, none⟩) (lenF l) c x (some ⟨bb, oo, none⟩) (lenF l) d b2.now) := HP.out.below b2.below
        clear d0 d1 p0 p1 p2 q0 q1 q2 t2
        go_wp2
        go_roundw
        case rel => exact ⟨j + 1, by omega, by go_num, HP2.out⟩
        case measure => simp [intOf]; omega
      · go_wp2
        go_ret
        exact ⟨rfl, hP.low⟩
theorem exact_any (x : ByteArray × Int) (l : Fo) (a b : Option Addr) (c d : Nat) (w : World) (hS : TmAt w x a c l) (hT : TmAt w x b d l) :
    Calls Tryz.prog 37 #[.agg #[.string x.1, .int .i64 x.2, .slice a (lenF l) c], .agg #[.string x.1, .int .i64 x.2, .slice b (lenF l) d]] w fun e w' => e = .returned (.bool true) ∧ Below w.heap.size w w' := exact_all _ x l a b c d w (Nat.le_refl _) hS hT
end Go.Proofs.YtfnfbljijkjkjaaGreat
/- What stands at a path, and what another term put there makes; where it lies in memory. -/
namespace Go.Proofs.YtfnfbljijkjkjaaGreat
open Go.RowKit Go.Deep

abbrev Tn := (ByteArray × Int) × Fo
def kidT (i : Int) (l : Fo) : Option Tn := if 0 ≤ i ∧ i < lenF l then (kidsL l)[i.toNat]? else none
def setF : Nat → Fo → Tn → Fo
  | _, .nil, _ => .nil
  | 0, .node b o _ _ r, t => .node b o t.1 t.2 r
  | n + 1, .node b o x l r, t => .node b o x l (setF n r t)
def subT : List Int → Tn → Option Tn
  | [], t => some t
  | i :: p, t => match kidT i t.2 with
    | none => none
    | some k => subT p k
def putT (u : Tn) : List Int → Tn → Option Tn
  | [], _ => some u
  | i :: p, t => match kidT i t.2 with
    | none => none
    | some k => match putT u p k with
      | none => none
      | some k' => some (t.1, setF i.toNat t.2 k')
def noT : Tn := ((⟨#[]⟩, 0), .nil)
def ansT (o : Option Tn) : Tn := o.getD noT
def ansE (o : Option Tn) : Int := match o with | none => 35 | some _ => 0

theorem len_set : ∀ (n : Nat) (F : Fo) (t : Tn), lenF (setF n F t) = lenF F
  | n, .nil, _ => by cases n <;> rfl
  | 0, .node _ _ _ _ _, _ => rfl
  | n + 1, .node _ _ _ _ r, t => by simp only [setF, lenF]; rw [len_set n r t]
theorem kids_split {F : Fo} {k : Nat} {x : ByteArray × Int} {l r : Fo} {B O : Nat} (h : dropF k F = .node B O x l r) : (kidsL F)[k]? = some (x, l) := by
  have h1 := kids_drop k F
  rw [h, kidsL] at h1
  have := congrArg (·[0]?) h1
  simpa using this.symm
theorem kidT_bad {i : Int} {l : Fo} (h : ¬ (0 ≤ i ∧ i < lenF l)) : kidT i l = none := if_neg h
theorem kidT_is {k : Nat} {l : Fo} {x : ByteArray × Int} {m : Fo} (hlt : k < lenF l) (h : (kidsL l)[k]? = some (x, m)) : kidT (k : Int) l = some (x, m) := by
  unfold kidT
  rw [if_pos (by omega), Int.toNat_natCast]
  exact h

/-- The path's numbers lie in this slice. -/
structure IntsAt (w : World) (a : Option Addr) (n : Nat) (ps : List Int) : Prop where
  len : n = ps.length
  cells : ∀ i (h : i < ps.length), ∃ b off, a = some ⟨b, off, none⟩ ∧ w.cell? ⟨b, off + i, none⟩ = some (.int .i64 ps[i])
theorem IntsAt.below {w w' : World} {a : Option Addr} {n : Nat} {ps : List Int} (h : IntsAt w a n ps) (hb : Below w.heap.size w w') : IntsAt w' a n ps :=
  ⟨h.len, fun i hi => by obtain ⟨b, off, ha, hc⟩ := h.cells i hi; exact ⟨b, off, ha, below_cell hb _ _ hc⟩⟩

/-- A term's three cells. -/
structure Node (w : World) (b o : Nat) (x : ByteArray × Int) (a : Option Addr) (c : Nat) (l : Fo) : Prop where
  name : w.cell? ⟨b, o, none⟩ = some (.string x.1)
  sym : w.cell? ⟨b, o + 1, none⟩ = some (.int .i64 x.2)
  list : w.cell? ⟨b, o + 2, none⟩ = some (.slice a (lenF l) c)
/-- From the term whose cells lie here the path leads to the one whose cells lie there. -/
def Leads (w : World) : List Int → Nat → Nat → Tn → Nat → Nat → Prop
  | [], b, o, _, b', o' => b' = b ∧ o' = o
  | i :: p, b, o, t, b', o' => ∃ (k g q c : Nat) (u : Tn), i = k ∧ k < lenF t.2 ∧ (kidsL t.2)[k]? = some u ∧ w.cell? ⟨b, o + 2, none⟩ = some (.slice (some ⟨g, q, none⟩) (lenF t.2) c) ∧ Leads w p g (q + k * 3) u b' o'

/-- Where another term is put in place of one of a list. -/
theorem SepKids.replace {W : World} : ∀ {F : Fo} {A : Nat → Prop} {b o : Nat} (i : Nat), SepKids W F A b o → i < lenF F →
    ∃ (t : Tn) (a : Option Addr) (c : Nat) (A1 : Nat → Prop), (∀ k, A1 k → A k) ∧ (kidsL F)[i]? = some t ∧ Node W b (o + i * 3) t.1 a c t.2 ∧ SepTm W A1 t.1 a c t.2 ∧
      ∀ (W' : World) (t' : Tn) (a' : Option Addr) (c' : Nat) (A3 : Nat → Prop), (∀ k, A3 k → ¬ A k) → (∀ k, A k → ¬ A1 k → k < W.heap.size → W'.heap[k]? = W.heap[k]?) →
        (∀ j v, o ≤ j → (j < o + i * 3 ∨ o + i * 3 + 3 ≤ j) → W.cell? ⟨b, j, none⟩ = some v → W'.cell? ⟨b, j, none⟩ = some v) → Node W' b (o + i * 3) t'.1 a' c' t'.2 → SepTm W' (fun k => A1 k ∨ A3 k) t'.1 a' c' t'.2 →
        SepKids W' (setF i F t') (fun k => A k ∨ A3 k) b o
  | .nil, _, _, _, i, _, hi => absurd hi (by simp [lenF])
  | .node _ _ x l r, A, b, o, 0, ⟨A1, A2, h1, h2, ⟨a, c, c0, c1, c2, hs, hl⟩, hr⟩, _ => by
    refine ⟨(x, l), a, c, A1, h1, rfl, ⟨by simpa using c0, by simpa using c1, by simpa using c2⟩, ⟨hs, hl⟩, ?_⟩
    intro W' t' a' c' A3 hd hk hc hn hS
    refine ⟨fun k => A1 k ∨ A3 k, A2, fun k hk => hk.elim (fun h => .inl (h1 k h)) .inr, fun k hk => ⟨.inl (h2 k hk).1, fun h => h.elim (h2 k hk).2 (fun h3 => hd k h3 (h2 k hk).1)⟩, ⟨a', c', by simpa using hn.name, by simpa using hn.sym, by simpa using hn.list, hS.sizes, hS.list⟩, ?_⟩
    exact hr.keep (fun k hk' hlt => hk k (h2 k hk').1 (h2 k hk').2 hlt) (fun j v hj hv => hc j v (by omega) (.inr (by omega)) hv)
  | .node _ _ x l r, A, b, o, i + 1, ⟨A1, A2, h1, h2, ⟨a, c, c0, c1, c2, hs, hl⟩, hr⟩, hi => by
    obtain ⟨t, ta, tc, B1, hB, ht, hn, hS, hrep⟩ := SepKids.replace i hr (by simp only [lenF] at hi; omega)
    have e : o + 3 + i * 3 = o + (i + 1) * 3 := by omega
    rw [e] at hn
    refine ⟨t, ta, tc, B1, fun k hk => (h2 k (hB k hk)).1, by simpa [kidsL] using ht, hn, hS, ?_⟩
    intro W' t' a' c' A3 hd hk hc hn' hS'
    refine ⟨A1, fun k => A2 k ∨ A3 k, fun k hk => .inl (h1 k hk), fun k hk => hk.elim (fun h => ⟨.inl (h2 k h).1, (h2 k h).2⟩) (fun h => ⟨.inr h, fun h' => hd k h (h1 k h')⟩), ⟨a, c, hc _ _ (Nat.le_refl _) (.inl (by omega)) c0, hc _ _ (by omega) (.inl (by omega)) c1, hc _ _ (by omega) (.inl (by omega)) c2, hs, ?_⟩, ?_⟩
    · rcases hl with h | ⟨g, cur, ha, hg, hcur, hkk⟩
      · exact .inl h
      · have same : ∀ k, A1 k → k < W.heap.size → W'.heap[k]? = W.heap[k]? := fun k h hlt => hk k (h1 k h) (fun hb => (h2 k (hB k hb)).2 h) hlt
        have hgg := same g hg (Array.getElem?_eq_some_iff.1 hcur).1
        exact .inr ⟨g, cur, ha, hg, hgg.trans hcur, hkk.keep (fun k h hlt => same k h.1 hlt) (fun j v _ hv => (World.cell?_of_block hgg).trans hv)⟩
    · rw [← e] at hn'
      exact hrep W' t' a' c' A3 (fun k h h' => hd k h (h2 k h').1) (fun k h h' hlt => hk k (h2 k h).1 h' hlt) (fun j v hj hor hv => hc j v (by omega) (by omega) hv) hn' hS'
theorem OwnKids.kids_in {W W' : World} {P Q : Nat → Prop} {b : Nat} (hPQ : ∀ k, P k → Q k) (hk : ∀ k, P k → k < W.heap.size → W'.heap[k]? = W.heap[k]?) : ∀ {F : Fo} {o : Nat}, OwnKids false P W F b o → (∀ j v, o ≤ j → W.cell? ⟨b, j, none⟩ = some v → W'.cell? ⟨b, j, none⟩ = some v) → OwnKids false Q W' F b o
  | .nil, _, _, _ => trivial
  | .node _ _ _ l r, o, ⟨⟨a, c, h0, h1, h2, hs, hl⟩, hr⟩, hc => ⟨⟨a, c, hc _ _ (Nat.le_refl _) h0, hc _ _ (by omega) h1, hc _ _ (by omega) h2, hs, by
      rcases hl with h | ⟨g, cur, ha, hg, hcur, hm, hkk⟩
      · exact .inl h
      · have hgg := hk g hg (Array.getElem?_eq_some_iff.1 hcur).1
        exact .inr ⟨g, cur, ha, hPQ g hg, hgg.trans hcur, (fun e => by cases e), (hkk.keep hk hgg).mono (fun k _ h => hPQ k h)⟩⟩, OwnKids.kids_in hPQ hk hr (fun j v hj hv => hc j v (by omega) hv)⟩
/-- The same where nothing is spoilt afterwards. -/
theorem OwnKids.replace {W W' : World} {P Q : Nat → Prop} {b : Nat} (hPQ : ∀ k, P k → Q k) (hk : ∀ k, P k → k < W.heap.size → W'.heap[k]? = W.heap[k]?) {t' : Tn} {a' : Option Addr} {c' : Nat} (hT : OwnTm false Q W' t'.1 a' c' t'.2) : ∀ {F : Fo} {o : Nat} (i : Nat), OwnKids false P W F b o → i < lenF F →
    (∀ j v, o ≤ j → (j < o + i * 3 ∨ o + i * 3 + 3 ≤ j) → W.cell? ⟨b, j, none⟩ = some v → W'.cell? ⟨b, j, none⟩ = some v) → Node W' b (o + i * 3) t'.1 a' c' t'.2 → OwnKids false Q W' (setF i F t') b o
  | .nil, _, i, _, hi, _, _ => absurd hi (by simp [lenF])
  | .node _ _ x l r, o, 0, ⟨_, hr⟩, _, hc, hn => by
    refine ⟨⟨a', c', by simpa using hn.name, by simpa using hn.sym, by simpa using hn.list, hT.sizes, hT.list⟩, ?_⟩
    exact OwnKids.kids_in hPQ hk hr (fun j v hj hv => hc j v (by omega) (.inr (by omega)) hv)
  | .node _ _ x l r, o, i + 1, ⟨⟨a, c, c0, c1, c2, hs, hl⟩, hr⟩, hi, hc, hn => by
    have e : o + 3 + i * 3 = o + (i + 1) * 3 := by omega
    refine ⟨⟨a, c, hc _ _ (Nat.le_refl _) (.inl (by omega)) c0, hc _ _ (by omega) (.inl (by omega)) c1, hc _ _ (by omega) (.inl (by omega)) c2, hs, ?_⟩, OwnKids.replace hPQ hk hT i hr (by simp only [lenF] at hi; omega) (fun j v hj hor hv => hc j v (by omega) (by omega) hv) (by rw [e]; exact hn)⟩
    rcases hl with h | ⟨g, cur, ha, hg, hcur, hm, hkk⟩
    · exact .inl h
    · have hgg := hk g hg (Array.getElem?_eq_some_iff.1 hcur).1
      exact .inr ⟨g, cur, ha, hPQ g hg, hgg.trans hcur, (fun e => by cases e), (hkk.keep hk hgg).mono (fun k _ h => hPQ k h)⟩

/-- What is stored where a path leads makes the term that the path says. -/
theorem put_stored {W W2 : World} {u : Tn} {ua : Option Addr} {uc : Nat} {A3 : Nat → Prop} : ∀ (ps : List Int) {A : Nat → Prop} {b o : Nat} {t : Tn} {a : Option Addr} {c b' o' : Nat},
    SepTm W A t.1 a c t.2 → Node W b o t.1 a c t.2 → ¬ A b → (∃ cur, W.heap[b]? = some (Obj.cells cur 26 (0, 0))) → Leads W ps b o t b' o' →
    (A b' ∨ (b' = b ∧ o' = o)) ∧ (∃ cur, W.heap[b']? = some (Obj.cells cur 26 (0, 0))) ∧ ((∀ k, (A k ∨ k = b) → k < W.heap.size → k ≠ b' → W2.heap[k]? = W.heap[k]?) → (∀ j v, (j < o' ∨ o' + 3 ≤ j) → W.cell? ⟨b', j, none⟩ = some v → W2.cell? ⟨b', j, none⟩ = some v) →
      (∃ cur, W2.heap[b']? = some (Obj.cells cur 26 (0, 0))) → Node W2 b' o' u.1 ua uc u.2 → SepTm W2 A3 u.1 ua uc u.2 → (∀ k, A3 k → ¬ A k) →
      ∃ t' a' c', putT u ps t = some t' ∧ Node W2 b o t'.1 a' c' t'.2 ∧ SepTm W2 (fun k => A k ∨ A3 k) t'.1 a' c' t'.2)
  | [], A, b, o, t, a, c, b', o', hS, hN, hb, hrow, ⟨h1, h2⟩ => by
    subst h1 h2
    exact ⟨.inr ⟨rfl, rfl⟩, hrow, fun _ _ _ hn hs _ => ⟨u, ua, uc, rfl, hn, hs.mono (fun k hk => .inr hk)⟩⟩
  | i :: ps, A, b, o, t, a, c, b', o', hS, hN, hb, _, ⟨k, g, q, c2, u1, hi, hk, hu, hcell, hL⟩ => by
    have hcell' := hN.list
    rw [hcell] at hcell'
    simp only [Option.some.injEq, Value.slice.injEq, true_and] at hcell'
    obtain ⟨rfl, rfl⟩ := hcell'
    rcases hS.list with hnil | ⟨g', cur, hg', hAg, hcur, hkids⟩
    · rw [hnil] at hk; simp [lenF] at hk
    · cases hg'
      obtain ⟨t1, a1, c1, A1, hA1, ht1, hn1, hs1, hrep⟩ := hkids.replace k hk
      rw [hu] at ht1
      cases ht1
      have hA1g : ¬ A1 g := fun h => (hA1 g h).2 rfl
      obtain ⟨hwhere, hrow', hgo⟩ := put_stored ps hs1 hn1 hA1g ⟨cur, hcur⟩ hL
      have hAb : A b' := hwhere.elim (fun h => (hA1 _ h).1) (fun h => by rw [h.1]; exact hAg)
      refine ⟨.inl hAb, hrow', fun hW hC hblk hn hs hd => ?_⟩
      have hb'b : b ≠ b' := fun e => hb (e ▸ hAb)
      have hblt : b < W.heap.size := World.block_lt_of_cell? W _ hN.name
      have hbb := hW b (.inr rfl) hblt hb'b
      obtain ⟨t1', a1', c1', hp, hn1', hs1'⟩ := hgo (fun k' hk' hlt hne => hW k' (.inl (hk'.elim (fun h => (hA1 _ h).1) (fun h => by rw [h]; exact hAg))) hlt hne) hC hblk hn hs (fun k' h h' => hd k' h (hA1 k' h').1)
      have hsame : ∀ k', (A k' ∧ k' ≠ g) → ¬ A1 k' → k' < W.heap.size → W2.heap[k']? = W.heap[k']? := fun k' h h' hlt => hW k' (.inl h.1) hlt (fun e => by
        rcases hwhere with h2 | h2
        · exact h' (e ▸ h2)
        · exact h.2 (e.trans h2.1))
      have hcells : ∀ j v, 0 ≤ j → (j < 0 + k * 3 ∨ 0 + k * 3 + 3 ≤ j) → W.cell? ⟨g, j, none⟩ = some v → W2.cell? ⟨g, j, none⟩ = some v := fun j v _ hj hv => by
        by_cases e : g = b'
        · rcases hwhere with h2 | h2
          · rw [← e] at h2; exact absurd h2 hA1g
          · have := hC j v (by rw [h2.2]; exact hj)
            rw [← e] at this
            exact this hv
        · exact (World.cell?_of_block (hW g (.inl hAg) (Array.getElem?_eq_some_iff.1 hcur).1 e)).trans hv
      have hnew := hrep W2 t1' a1' c1' A3 (fun k' h h' => hd k' h h'.1) hsame hcells hn1' hs1'
      have hgb : ∃ cur, W2.heap[g]? = some (Obj.cells cur 26 (0, 0)) := by
        by_cases e : g = b'
        · rw [e]; exact hblk
        · exact ⟨cur, (hW g (.inl hAg) (Array.getElem?_eq_some_iff.1 hcur).1 e).trans hcur⟩
      obtain ⟨cur', hcur'⟩ := hgb
      refine ⟨(t.1, setF k t.2 t1'), some ⟨g, 0, none⟩, c2, ?_, ⟨(World.cell?_of_block hbb).trans hN.name, (World.cell?_of_block hbb).trans hN.sym, ?_⟩, ?_, .inr ⟨g, cur', rfl, .inl hAg, hcur', hnew.mono (fun k' h => ?_)⟩⟩
      · rw [putT, hi, kidT_is hk hu]
        simp only [hp, Int.toNat_natCast]
      · simp only [len_set]; exact (World.cell?_of_block hbb).trans hN.list
      · simp only [len_set]; exact hS.sizes
      · rcases h with h | h
        · exact ⟨.inl h.1, h.2⟩
        · exact ⟨.inr h, fun e => hd k' h (e ▸ hAg)⟩
end Go.Proofs.YtfnfbljijkjkjaaGreat
/- Canonical forms, without any program: what Canon, Parts and Join say of a term, and that one is canonical just if it is its own canonical form. -/
namespace Go.Proofs.YtfnfbljijkjkjaaGreat
open Go.RowKit Go.Deep

/-! ### lists of terms and forests -/
def mkF : List Tn → Fo
  | [] => .nil
  | t :: r => .node 0 0 t.1 t.2 (mkF r)
theorem kids_mk : ∀ l : List Tn, kidsL (mkF l) = l
  | [] => rfl
  | t :: r => by simp only [mkF, kidsL]; rw [kids_mk r]
theorem len_mk (l : List Tn) : lenF (mkF l) = l.length := by rw [← kids_len, kids_mk]
def noB : ByteArray := ⟨#[]⟩
theorem bytes_eq {a b : ByteArray} (h : a.data.toList = b.data.toList) : a = b := by
  obtain ⟨⟨l⟩⟩ := a
  obtain ⟨⟨m⟩⟩ := b
  rw [show l = m from h]
theorem noName_eq {s : ByteArray} (h : noName s = true) : s = noB := by
  unfold noName at h
  rw [List.isEmpty_iff, ByteArray.toList_eq] at h
  exact bytes_eq h
theorem noName_noB : noName noB = true := by decide +kernel

/-! ### the order -/
def cmpN (x y : Tn) : Int := cmp1 x.1 y.1 (lenF x.2) (lenF y.2) (cmpF x.2 y.2)
theorem cmpN_anti (x y : Tn) : cmpN y x = - cmpN x y := by unfold cmpN; rw [cmpF_anti]; exact cmp1_anti _ _ _ _ _
theorem cmpN_cons (x y z : Tn) : Cons (cmpN x y) (cmpN y z) (cmpN x z) := cmp1_cons _ _ _ _ _ _ _ _ _ (fun a b => cmpF_cons _ _ _ a b)
def leN (x y : Tn) : Prop := cmpN x y ≤ 0
theorem leN_trans {x y z : Tn} (h : leN x y) (k : leN y z) : leN x z := by
  obtain ⟨c1, c2, c3, _⟩ := cmpN_cons x y z
  unfold leN at *
  by_cases e : cmpN x y = 0
  · rw [c1 e]; exact k
  · by_cases e2 : cmpN y z = 0
    · rw [c2 e2]; exact h
    · exact Int.le_of_lt (c3 (by omega) (by omega))
theorem leN_total (x y : Tn) : leN x y ∨ leN y x := by
  unfold leN
  rw [cmpN_anti x y]
  omega
/-- Behind all that are not greater. -/
def insN (x : Tn) : List Tn → List Tn
  | [] => [x]
  | y :: r => if cmpN y x > 0 then x :: y :: r else y :: insN x r
def sortN : List Tn → List Tn
  | l => l.foldl (fun out x => insN x out) []
abbrev Srt (l : List Tn) : Prop := l.Pairwise leN
theorem insN_perm (x : Tn) : ∀ l : List Tn, List.Perm (insN x l) (x :: l)
  | [] => List.Perm.refl _
  | y :: r => by
    unfold insN
    split
    · exact List.Perm.refl _
    · exact ((insN_perm x r).cons y).trans (List.Perm.swap x y r)
theorem insN_srt (x : Tn) : ∀ {l : List Tn}, Srt l → Srt (insN x l)
  | [], _ => by simp [insN]
  | y :: r, h => by
    unfold insN
    obtain ⟨h1, h2⟩ := List.pairwise_cons.1 h
    split
    · rename_i hgt
      have hxy : leN x y := by unfold leN; rw [cmpN_anti y x]; omega
      refine List.pairwise_cons.2 ⟨fun z hz => ?_, h⟩
      rcases List.mem_cons.1 hz with rfl | hz
      · exact hxy
      · exact leN_trans hxy (h1 z hz)
    · rename_i hgt
      refine List.pairwise_cons.2 ⟨fun z hz => ?_, insN_srt x h2⟩
      rcases List.mem_cons.1 ((insN_perm x r).mem_iff.1 hz) with rfl | hz
      · unfold leN; omega
      · exact h1 z hz
theorem sort_go_perm : ∀ (l out : List Tn), List.Perm (l.foldl (fun out x => insN x out) out) (out ++ l)
  | [], out => by simp
  | x :: l, out => by
    rw [List.foldl_cons]
    refine (sort_go_perm l (insN x out)).trans ?_
    refine ((insN_perm x out).append_right l).trans ?_
    exact List.perm_middle.symm
theorem sortN_perm (l : List Tn) : List.Perm (sortN l) l := by
  have := sort_go_perm l []
  rwa [List.nil_append] at this
theorem sort_go_srt : ∀ (l out : List Tn), Srt out → Srt (l.foldl (fun out x => insN x out) out)
  | [], _, h => h
  | x :: l, out, h => by rw [List.foldl_cons]; exact sort_go_srt l _ (insN_srt x h)
theorem sortN_srt (l : List Tn) : Srt (sortN l) := sort_go_srt l [] List.Pairwise.nil
theorem sortN_len (l : List Tn) : (sortN l).length = l.length := (sortN_perm l).length_eq

/-! ### what Canon says -/
/-- What is asked of a signature: which places join, and which unit they have. -/
structure Sg where
  joins : Int → Bool
  unit : Int → Option Int
def constT (u : Int) : Tn := ((noB, u), .nil)
def isConst (t : Tn) (u : Int) : Bool := noName t.1.1 && t.1.2 == u && lenF t.2 == 0
def isUn (S : Sg) (f : Int) (t : Tn) : Bool := match S.unit f with | some u => isConst t u | none => false
def headed (f : Int) (t : Tn) : Bool := noName t.1.1 && t.1.2 == f
def partsN (S : Sg) (f : Int) (t : Tn) : List Tn := if S.joins f = false then [t] else if isUn S f t then [] else if headed f t then kidsL t.2 else [t]
def joinL (S : Sg) (f : Int) : List Tn → Option Tn
  | [] => (S.unit f).map constT
  | [t] => some t
  | l => some ((noB, f), mkF (sortN l))
/-- Of canonical terms. -/
def joinN (S : Sg) (f : Int) (cs : List Tn) : Option Tn := if S.joins f = false then none else joinL S f (cs.flatMap (partsN S f))
def canon1 (S : Sg) (x : ByteArray × Int) (cs : List Tn) : Tn :=
  if noName x.1 = false then ((x.1, 0), .nil) else if S.joins x.2 then (joinN S x.2 cs).getD (constT x.2) else ((noB, x.2), mkF cs)
def canonL (S : Sg) : Fo → List Tn
  | .nil => []
  | .node _ _ x l r => canon1 S x (canonL S l) :: canonL S r
def canonT (S : Sg) (t : Tn) : Tn := canon1 S t.1 (canonL S t.2)
theorem canonL_map (S : Sg) : ∀ F : Fo, canonL S F = (kidsL F).map (canonT S)
  | .nil => rfl
  | .node _ _ x l r => by simp only [canonL, kidsL, List.map_cons, canonT]; rw [canonL_map S r]

/-! ### what is right -/
/-- What a right signature says of units: they don't join. -/
structure Sg.Ok (S : Sg) (ar : Int → Nat) : Prop where
  free : ∀ f u, S.unit f = some u → S.joins u = false
  none : ∀ f u, S.unit f = some u → ar u = 0
def nodeOk (S : Sg) (ar : Int → Nat) (x : ByteArray × Int) (n : Nat) : Prop := if noName x.1 = false then x.2 = 0 ∧ n = 0 else if S.joins x.2 then 2 ≤ n else n = ar x.2
def RightF (S : Sg) (ar : Int → Nat) : Fo → Prop
  | .nil => True
  | .node _ _ x l r => (nodeOk S ar x (lenF l) ∧ RightF S ar l) ∧ RightF S ar r
def RightT (S : Sg) (ar : Int → Nat) (t : Tn) : Prop := nodeOk S ar t.1 (lenF t.2) ∧ RightF S ar t.2
theorem right_kids {S : Sg} {ar : Int → Nat} : ∀ {F : Fo}, RightF S ar F ↔ ∀ k ∈ kidsL F, RightT S ar k
  | .nil => by simp [RightF, kidsL]
  | .node _ _ x l r => by
    simp only [RightF, kidsL, List.mem_cons]
    rw [right_kids (F := r)]
    constructor
    · rintro ⟨h1, h2⟩ k (rfl | hk)
      · exact h1
      · exact h2 k hk
    · exact fun h => ⟨h (x, l) (.inl rfl), fun k hk => h k (.inr hk)⟩

/-! ### canonical -/
/-- A node that is canonical above what is beneath it. -/
def can1 (S : Sg) (ar : Int → Nat) (x : ByteArray × Int) (ks : List Tn) : Prop :=
  if noName x.1 = false then x.2 = 0 ∧ ks = [] else x.1 = noB ∧ if S.joins x.2 then 2 ≤ ks.length ∧ Srt ks ∧ ∀ k ∈ ks, isUn S x.2 k = false ∧ headed x.2 k = false else ks.length = ar x.2
def CanF (S : Sg) (ar : Int → Nat) : Fo → Prop
  | .nil => True
  | .node b o x l r => (b = 0 ∧ o = 0) ∧ (can1 S ar x (kidsL l) ∧ CanF S ar l) ∧ CanF S ar r
def CanT (S : Sg) (ar : Int → Nat) (t : Tn) : Prop := can1 S ar t.1 (kidsL t.2) ∧ CanF S ar t.2
theorem can_kids {S : Sg} {ar : Int → Nat} : ∀ {F : Fo}, CanF S ar F → ∀ k ∈ kidsL F, CanT S ar k
  | .nil, _, _, h => by simp [kidsL] at h
  | .node _ _ _ _ _, ⟨_, h1, h2⟩, k, hk => by
    rcases List.mem_cons.1 hk with rfl | hk
    · exact h1
    · exact can_kids h2 k hk
theorem can_mk {S : Sg} {ar : Int → Nat} : ∀ {l : List Tn}, (∀ k ∈ l, CanT S ar k) → CanF S ar (mkF l)
  | [], _ => trivial
  | t :: _, h => ⟨⟨rfl, rfl⟩, h t List.mem_cons_self, can_mk (fun k hk => h k (List.mem_cons_of_mem _ hk))⟩
theorem can_mk_kids {S : Sg} {ar : Int → Nat} : ∀ {F : Fo}, CanF S ar F → mkF (kidsL F) = F
  | .nil, _ => rfl
  | .node _ _ _ _ _, ⟨⟨hb, ho⟩, _, h2⟩ => by subst hb ho; simp only [kidsL, mkF]; rw [can_mk_kids h2]

/-- Canonical terms that compare alike are one. -/
theorem canF_zero {S : Sg} {ar : Int → Nat} : ∀ {F G : Fo}, CanF S ar F → CanF S ar G → lenF F = lenF G → cmpF F G = 0 → F = G
  | .nil, .nil, _, _, _, _ => rfl
  | .nil, .node _ _ _ _ _, _, _, h, _ => by simp [lenF] at h
  | .node _ _ _ _ _, .nil, _, _, h, _ => by simp [lenF] at h
  | .node b o x l r, .node b' o' y m s, ⟨⟨hb, ho⟩, ⟨hx, hl⟩, hr⟩, ⟨⟨hb', ho'⟩, ⟨hy, hm⟩, hs⟩, hlen, h => by
    subst hb ho hb' ho'
    simp only [lenF, Nat.add_right_cancel_iff] at hlen
    rw [cmpF, thenC] at h
    split at h
    case isFalse hne => exact absurd h hne
    rename_i h1
    have hrs := canF_zero hr hs hlen h
    unfold cmp1 at h1
    unfold can1 at hx hy
    cases ex : noName x.1 <;> cases ey : noName y.1 <;> simp only [ex, ey, if_true, if_false, Bool.true_eq_false] at h1 hx hy
    · have hn : x.1 = y.1 := bytes_eq (bytes_zero h1)
      have e1 : l = .nil := len_nil (by rw [← kids_len, hx.2]; rfl)
      have e2 : m = .nil := len_nil (by rw [← kids_len, hy.2]; rfl)
      rw [hrs, e1, e2, show x = y from Prod.ext hn (hx.1.trans hy.1.symm)]
    · omega
    · omega
    · split at h1
      case isFalse hne => exact absurd (compareInt_zero h1) hne
      rename_i hs2
      split at h1
      case isFalse hne => exact absurd (by have := compareInt_zero h1; omega) hne
      rename_i hlm
      have hlm2 := canF_zero hl hm hlm h1
      rw [hrs, hlm2, show x = y from Prod.ext (hx.1.trans hy.1.symm) hs2]
theorem canT_zero {S : Sg} {ar : Int → Nat} {x y : Tn} (hx : CanT S ar x) (hy : CanT S ar y) (h : cmpN x y = 0) : x = y := by
  have h2 : BT.node 0 0 x.1 x.2 .nil = BT.node 0 0 y.1 y.2 .nil := canF_zero (F := .node 0 0 x.1 x.2 .nil) (G := .node 0 0 y.1 y.2 .nil) (S := S) (ar := ar) ⟨⟨rfl, rfl⟩, hx, trivial⟩ ⟨⟨rfl, rfl⟩, hy, trivial⟩ rfl (by
    rw [cmpF, thenC]
    have h' : cmp1 x.1 y.1 (lenF x.2) (lenF y.2) (cmpF x.2 y.2) = 0 := h
    rw [if_pos h', cmpF])
  simp only [BT.node.injEq, true_and, and_true] at h2
  exact Prod.ext h2.1 h2.2
/-- Terms in order are told by which they are. -/
theorem srt_eq {S : Sg} {ar : Int → Nat} {l m : List Tn} (hl : ∀ k ∈ l, CanT S ar k) (h1 : Srt l) (h2 : Srt m) (h : List.Perm l m) : l = m :=
  List.Perm.eq_of_pairwise (fun a b ha hb hab hba => canT_zero (hl a ha) (hl b (h.mem_iff.2 hb)) (by
    unfold leN at hab hba
    rw [cmpN_anti a b] at hba
    omega)) h1 h2 h
theorem sort_eq {S : Sg} {ar : Int → Nat} {l m : List Tn} (hl : ∀ k ∈ l, CanT S ar k) (h : List.Perm l m) : sortN l = sortN m :=
  srt_eq (fun k hk => hl k ((sortN_perm l).mem_iff.1 hk)) (sortN_srt l) (sortN_srt m) ((sortN_perm l).trans (h.trans (sortN_perm m).symm))
theorem sort_self {S : Sg} {ar : Int → Nat} {l : List Tn} (hl : ∀ k ∈ l, CanT S ar k) (h : Srt l) : sortN l = l :=
  srt_eq (fun k hk => hl k ((sortN_perm l).mem_iff.1 hk)) (sortN_srt l) h (sortN_perm l)
end Go.Proofs.YtfnfbljijkjkjaaGreat
/- Canonical forms, without any program: a canonical term is told by its parts; Canon of a right term is canonical; what the axioms and cancelling say. -/
namespace Go.Proofs.YtfnfbljijkjkjaaGreat
open Go.RowKit Go.Deep

structure Good (S : Sg) (ar : Int → Nat) (f : Int) (p : Tn) : Prop where
  can : CanT S ar p
  unit : isUn S f p = false
  head : headed f p = false

theorem headed_iff {f : Int} {t : Tn} : headed f t = true ↔ noName t.1.1 = true ∧ t.1.2 = f := by
  unfold headed
  rw [Bool.and_eq_true, beq_iff_eq]
theorem isUn_some {S : Sg} {f : Int} {t : Tn} (h : isUn S f t = true) : ∃ u, S.unit f = some u ∧ t = constT u := by
  unfold isUn at h
  cases hu : S.unit f with
  | none => rw [hu] at h; cases h
  | some u =>
    rw [hu] at h
    dsimp only at h
    unfold isConst at h
    rw [Bool.and_eq_true, Bool.and_eq_true, beq_iff_eq, beq_iff_eq] at h
    obtain ⟨⟨h1, h2⟩, h3⟩ := h
    obtain ⟨⟨n, s⟩, l⟩ := t
    refine ⟨u, rfl, ?_⟩
    have e1 : n = noB := noName_eq h1
    have e2 : s = u := h2
    have e3 : l = .nil := len_nil h3
    rw [e1, e2, e3]
    rfl
theorem isUn_const {S : Sg} {f u : Int} (h : S.unit f = some u) : isUn S f (constT u) = true := by
  unfold isUn
  rw [h]
  dsimp only
  unfold isConst constT
  simp [noName_noB, lenF]
theorem can_head {S : Sg} {ar : Int → Nat} {f : Int} {t : Tn} (hj : S.joins f = true) (h : CanT S ar t) (hh : headed f t = true) : t.1 = (noB, f) ∧ 2 ≤ (kidsL t.2).length ∧ Srt (kidsL t.2) ∧ ∀ k ∈ kidsL t.2, Good S ar f k := by
  obtain ⟨h1, h2⟩ := headed_iff.1 hh
  have hc := h.1
  unfold can1 at hc
  rw [if_neg (by rw [h1]; simp), h2, if_pos hj] at hc
  obtain ⟨c1, c2, c3, c4⟩ := hc
  exact ⟨Prod.ext c1 h2, c2, c3, fun k hk => ⟨can_kids h.2 k hk, (c4 k hk).1, (c4 k hk).2⟩⟩
theorem parts_good {S : Sg} {ar : Int → Nat} {f : Int} {t : Tn} (hj : S.joins f = true) (h : CanT S ar t) : ∀ p ∈ partsN S f t, Good S ar f p := by
  unfold partsN
  rw [if_neg (by simp [hj])]
  cases hu : isUn S f t with
  | true => simp
  | false =>
    cases hh : headed f t with
    | true => simpa using (can_head hj h hh).2.2.2
    | false =>
      intro p hp
      simp at hp
      subst hp
      exact ⟨h, hu, hh⟩
theorem parts_of_good {S : Sg} {ar : Int → Nat} {f : Int} {t : Tn} (h : Good S ar f t) : partsN S f t = [t] := by
  unfold partsN
  rw [h.unit, h.head]
  split <;> simp
theorem parts_nil {S : Sg} {ar : Int → Nat} {f : Int} {t : Tn} (hj : S.joins f = true) (h : CanT S ar t) (hp : partsN S f t = []) : ∃ u, S.unit f = some u := by
  unfold partsN at hp
  rw [if_neg (by simp [hj])] at hp
  cases hu : isUn S f t with
  | true => obtain ⟨u, h1, _⟩ := isUn_some hu; exact ⟨u, h1⟩
  | false =>
    rw [hu] at hp
    cases hh : headed f t with
    | true =>
      rw [hh] at hp
      simp only [Bool.false_eq_true, if_false, if_true] at hp
      have := (can_head hj h hh).2.1
      rw [hp] at this
      simp at this
    | false => rw [hh] at hp; simp at hp
theorem join_many (S : Sg) (f : Int) {l : List Tn} (h : 2 ≤ l.length) : joinL S f l = some ((noB, f), mkF (sortN l)) := by
  match l, h with
  | _ :: _ :: _, _ => rfl
theorem join_can {S : Sg} {ar : Int → Nat} (hS : S.Ok ar) {f : Int} {l : List Tn} {t : Tn} (hj : S.joins f = true) (hl : ∀ p ∈ l, Good S ar f p) (h : joinL S f l = some t) : CanT S ar t := by
  match l, hl, h with
  | [], _, h =>
    simp only [joinL, Option.map_eq_some_iff] at h
    obtain ⟨u, hu, rfl⟩ := h
    refine ⟨?_, trivial⟩
    unfold can1 constT
    dsimp only
    rw [if_neg (by simp [noName_noB]), hS.free f u hu]
    simp [kidsL, hS.none f u hu]
  | [a], hl, h =>
    simp only [joinL, Option.some.injEq] at h
    subst h
    exact (hl a (by simp)).can
  | a :: b :: r, hl, h =>
    simp only [joinL, Option.some.injEq] at h
    subst h
    have hm : ∀ k ∈ sortN (a :: b :: r), Good S ar f k := fun k hk => hl k ((sortN_perm _).mem_iff.1 hk)
    refine ⟨?_, can_mk (fun k hk => (hm k hk).can)⟩
    unfold can1
    dsimp only
    rw [if_neg (by simp [noName_noB]), if_pos hj, kids_mk]
    exact ⟨rfl, by rw [sortN_len]; simp, sortN_srt _, fun k hk => ⟨(hm k hk).unit, (hm k hk).head⟩⟩
theorem parts_join {S : Sg} {ar : Int → Nat} {f : Int} {l : List Tn} {t : Tn} (hj : S.joins f = true) (hl : ∀ p ∈ l, Good S ar f p) (h : joinL S f l = some t) : List.Perm (partsN S f t) l := by
  match l, hl, h with
  | [], _, h =>
    simp only [joinL, Option.map_eq_some_iff] at h
    obtain ⟨u, hu, rfl⟩ := h
    unfold partsN
    rw [if_neg (by simp [hj]), isUn_const hu]
    simp
  | [a], hl, h =>
    simp only [joinL, Option.some.injEq] at h
    subst h
    rw [parts_of_good (hl a (by simp))]
  | a :: b :: r, hl, h =>
    simp only [joinL, Option.some.injEq] at h
    subst h
    have hu : isUn S f ((noB, f), mkF (sortN (a :: b :: r))) = false := by
      cases hq : isUn S f ((noB, f), mkF (sortN (a :: b :: r))) with
      | false => rfl
      | true =>
        obtain ⟨u, _, e⟩ := isUn_some hq
        have := congrArg (fun t : Tn => lenF t.2) e
        simp only [constT, len_mk, sortN_len, lenF, List.length_cons] at this
        omega
    have hh : headed f ((noB, f), mkF (sortN (a :: b :: r))) = true := headed_iff.2 ⟨noName_noB, rfl⟩
    unfold partsN
    rw [if_neg (by simp [hj]), hu, hh]
    simp only [Bool.false_eq_true, if_false, if_true, kids_mk]
    exact sortN_perm _
theorem join_parts {S : Sg} {ar : Int → Nat} {f : Int} {t : Tn} (hj : S.joins f = true) (h : CanT S ar t) : joinL S f (partsN S f t) = some t := by
  unfold partsN
  rw [if_neg (by simp [hj])]
  cases hu : isUn S f t with
  | true =>
    obtain ⟨u, h1, rfl⟩ := isUn_some hu
    simp [joinL, h1]
  | false =>
    cases hh : headed f t with
    | true =>
      obtain ⟨c1, c2, c3, c4⟩ := can_head hj h hh
      simp only [Bool.false_eq_true, if_false, if_true]
      rw [join_many S f c2, sort_self (fun k hk => (c4 k hk).can) c3, can_mk_kids h.2, ← c1]
    | false => simp [joinL]
theorem join_perm {S : Sg} {ar : Int → Nat} {f : Int} {l m : List Tn} (hl : ∀ p ∈ l, CanT S ar p) (h : List.Perm l m) : joinL S f l = joinL S f m := by
  have hlen := h.length_eq
  match l, m, hlen, hl, h with
  | [], [], _, _, _ => rfl
  | [a], [b], _, _, h => rw [show a = b by simpa using h]
  | a :: b :: r, c :: d :: s, _, hl, h => simp only [joinL]; rw [sort_eq hl h]
/-- A canonical term is told by its parts. -/
theorem parts_inj {S : Sg} {ar : Int → Nat} {f : Int} {x y : Tn} (hj : S.joins f = true) (hx : CanT S ar x) (hy : CanT S ar y) (h : List.Perm (partsN S f x) (partsN S f y)) : x = y := by
  have h1 := join_parts hj hx
  rw [join_perm (fun p hp => (parts_good hj hx p hp).can) h, join_parts hj hy] at h1
  exact (Option.some.inj h1).symm

/-! ### Canon is canonical -/
theorem flat_good {S : Sg} {ar : Int → Nat} {f : Int} {cs : List Tn} (hj : S.joins f = true) (hc : ∀ c ∈ cs, CanT S ar c) : ∀ p ∈ cs.flatMap (partsN S f), Good S ar f p := fun p hp => by
  obtain ⟨c, h1, h2⟩ := List.mem_flatMap.1 hp
  exact parts_good hj (hc c h1) p h2
theorem join_some {S : Sg} {ar : Int → Nat} {f : Int} {cs : List Tn} (hj : S.joins f = true) (hc : ∀ c ∈ cs, CanT S ar c) (hn : cs ≠ []) : ∃ t, joinL S f (cs.flatMap (partsN S f)) = some t := by
  match hq : cs.flatMap (partsN S f) with
  | [] =>
    match cs, hn, hc with
    | c :: _, _, hc =>
      simp only [List.flatMap_cons, List.append_eq_nil_iff] at hq
      obtain ⟨u, hu⟩ := parts_nil hj (hc c (by simp)) hq.1
      exact ⟨constT u, by simp [joinL, hu]⟩
  | [a] => exact ⟨a, rfl⟩
  | a :: b :: r => exact ⟨_, rfl⟩
theorem canon1_join {S : Sg} {ar : Int → Nat} {x : ByteArray × Int} {cs : List Tn} (hx : noName x.1 = true) (hj : S.joins x.2 = true) (hc : ∀ c ∈ cs, CanT S ar c) (hn : cs ≠ []) : joinL S x.2 (cs.flatMap (partsN S x.2)) = some (canon1 S x cs) := by
  obtain ⟨t, ht⟩ := join_some hj hc hn
  unfold canon1 joinN
  rw [if_neg (by simp [hx]), if_pos hj, if_neg (by simp [hj]), ht]
  rfl
theorem canon1_can {S : Sg} {ar : Int → Nat} (hS : S.Ok ar) {x : ByteArray × Int} {cs : List Tn} (hn : nodeOk S ar x cs.length) (hc : ∀ c ∈ cs, CanT S ar c) : CanT S ar (canon1 S x cs) := by
  unfold nodeOk at hn
  cases hx : noName x.1 with
  | false =>
    unfold canon1
    rw [if_pos hx]
    refine ⟨?_, trivial⟩
    unfold can1
    rw [if_pos hx]
    exact ⟨rfl, rfl⟩
  | true =>
    rw [if_neg (by simp [hx])] at hn
    cases hj : S.joins x.2 with
    | true =>
      rw [if_pos hj] at hn
      have hne : cs ≠ [] := fun e => by rw [e] at hn; simp at hn
      exact join_can hS hj (flat_good hj hc) (canon1_join hx hj hc hne)
    | false =>
      rw [if_neg (by simp [hj])] at hn
      unfold canon1
      rw [if_neg (by simp [hx]), if_neg (by simp [hj])]
      refine ⟨?_, can_mk hc⟩
      unfold can1
      dsimp only
      rw [if_neg (by simp [noName_noB]), if_neg (by simp [hj]), kids_mk]
      exact ⟨rfl, hn⟩
theorem canonL_can {S : Sg} {ar : Int → Nat} (hS : S.Ok ar) : ∀ {F : Fo}, RightF S ar F → ∀ c ∈ canonL S F, CanT S ar c
  | .nil, _, _, h => by simp [canonL] at h
  | .node _ _ x l r, ⟨⟨h1, h2⟩, h3⟩, c, hc => by
    simp only [canonL, List.mem_cons] at hc
    rcases hc with rfl | hc
    · exact canon1_can hS (by rw [canonL_map, List.length_map, kids_len]; exact h1) (canonL_can hS h2)
    · exact canonL_can hS h3 c hc
theorem canonT_can {S : Sg} {ar : Int → Nat} (hS : S.Ok ar) {t : Tn} (h : RightT S ar t) : CanT S ar (canonT S t) :=
  canon1_can hS (by rw [canonL_map, List.length_map, kids_len]; exact h.1) (canonL_can hS h.2)

/-! ### a canonical term is its own form -/
theorem flat_self {S : Sg} {ar : Int → Nat} {f : Int} : ∀ {l : List Tn}, (∀ p ∈ l, Good S ar f p) → l.flatMap (partsN S f) = l
  | [], _ => rfl
  | a :: r, h => by rw [List.flatMap_cons, parts_of_good (h a (by simp)), flat_self (fun p hp => h p (by simp [hp]))]; rfl
theorem canon1_id {S : Sg} {ar : Int → Nat} {x : ByteArray × Int} {l : Fo} (h : can1 S ar x (kidsL l)) (hl : CanF S ar l) : canon1 S x (kidsL l) = (x, l) := by
  cases hx : noName x.1 with
  | false =>
    unfold can1 at h
    rw [if_pos hx] at h
    unfold canon1
    rw [if_pos hx]
    have e : l = .nil := len_nil (by rw [← kids_len, h.2]; rfl)
    rw [e, ← h.1]
  | true =>
    cases hj : S.joins x.2 with
    | true =>
      have hc : CanT S ar (x, l) := ⟨h, hl⟩
      obtain ⟨c1, c2, c3, c4⟩ := can_head hj hc (headed_iff.2 ⟨hx, rfl⟩)
      have hne : kidsL l ≠ [] := fun e => by rw [e] at c2; simp at c2
      have h1 := canon1_join hx hj (can_kids hl) hne
      rw [flat_self c4, join_many S x.2 c2, sort_self (fun k hk => (c4 k hk).can) c3, can_mk_kids hl, Option.some.injEq] at h1
      rw [← h1, ← show x = (noB, x.2) from c1]
    | false =>
      unfold can1 at h
      rw [if_neg (by simp [hx])] at h
      unfold canon1
      rw [if_neg (by simp [hx]), if_neg (by simp [hj]), can_mk_kids hl]
      exact Prod.ext (Prod.ext h.1.symm rfl) rfl
theorem canonL_id {S : Sg} {ar : Int → Nat} : ∀ {F : Fo}, CanF S ar F → canonL S F = kidsL F
  | .nil, _ => rfl
  | .node _ _ x l r, ⟨_, ⟨h1, h2⟩, h3⟩ => by
    simp only [canonL, kidsL]
    rw [canonL_id h2, canonL_id h3, canon1_id h1 h2]
theorem canonT_id {S : Sg} {ar : Int → Nat} {t : Tn} (h : CanT S ar t) : canonT S t = t := by
  unfold canonT
  rw [canonL_id h.2, canon1_id h.1 h.2]
theorem right_of_can1 {S : Sg} {ar : Int → Nat} {x : ByteArray × Int} {l : Fo} (h : can1 S ar x (kidsL l)) : nodeOk S ar x (lenF l) := by
  unfold can1 at h
  unfold nodeOk
  cases hx : noName x.1 with
  | false =>
    rw [if_pos hx] at h
    rw [if_pos rfl]
    exact ⟨h.1, by rw [← kids_len, h.2]; rfl⟩
  | true =>
    rw [if_neg (by simp [hx])] at h
    rw [if_neg (by simp)]
    cases hj : S.joins x.2 with
    | true => rw [if_pos hj] at h; rw [if_pos rfl, ← kids_len]; exact h.2.1
    | false => rw [if_neg (by simp [hj])] at h; rw [if_neg (by simp), ← kids_len]; exact h.2
theorem right_of_canF {S : Sg} {ar : Int → Nat} : ∀ {F : Fo}, CanF S ar F → RightF S ar F
  | .nil, _ => trivial
  | .node _ _ _ _ _, ⟨_, ⟨h1, h2⟩, h3⟩ => ⟨⟨right_of_can1 h1, right_of_canF h2⟩, right_of_canF h3⟩
theorem right_of_can {S : Sg} {ar : Int → Nat} {t : Tn} (h : CanT S ar t) : RightT S ar t := ⟨right_of_can1 h.1, right_of_canF h.2⟩
theorem canonT_twice {S : Sg} {ar : Int → Nat} (hS : S.Ok ar) {t : Tn} (h : RightT S ar t) : canonT S (canonT S t) = canonT S t := canonT_id (canonT_can hS h)
/-- Written alike, just if they are one. -/
theorem same_iff {S : Sg} {ar : Int → Nat} (hS : S.Ok ar) {a b : Tn} (ha : RightT S ar a) (hb : RightT S ar b) : cmpN (canonT S a) (canonT S b) = 0 ↔ canonT S a = canonT S b :=
  ⟨canT_zero (canonT_can hS ha) (canonT_can hS hb), fun e => by rw [e]; have := cmpN_anti (canonT S b) (canonT S b); omega⟩
end Go.Proofs.YtfnfbljijkjkjaaGreat
/- Canonical forms, without any program: no more nodes, the same variables, parts in order and joined again. -/
namespace Go.Proofs.YtfnfbljijkjkjaaGreat
open Go.RowKit Go.Deep

/-! ### how many nodes -/
def sizeT (t : Tn) : Nat := nodesF t.2 + 1
def sizes (l : List Tn) : Nat := (l.map sizeT).sum
theorem sizes_nil : sizes [] = 0 := rfl
theorem sizes_cons (t : Tn) (l : List Tn) : sizes (t :: l) = sizeT t + sizes l := by simp [sizes]
theorem sizes_append : ∀ l m : List Tn, sizes (l ++ m) = sizes l + sizes m
  | [], _ => by simp [sizes_nil]
  | t :: l, m => by rw [List.cons_append, sizes_cons, sizes_cons, sizes_append l m]; omega
theorem sizes_perm {l m : List Tn} (h : List.Perm l m) : sizes l = sizes m := by
  induction h with
  | nil => rfl
  | cons x _ ih => rw [sizes_cons, sizes_cons, ih]
  | swap x y l => simp only [sizes_cons]; omega
  | trans _ _ h1 h2 => exact h1.trans h2
theorem nodes_sizes : ∀ F : Fo, nodesF F = sizes (kidsL F)
  | .nil => rfl
  | .node _ _ x l r => by
    rw [kidsL, sizes_cons, ← nodes_sizes r]
    simp only [nodesF, sizeT]
    omega
theorem nodes_mk (l : List Tn) : nodesF (mkF l) = sizes l := by rw [nodes_sizes, kids_mk]
theorem parts_size (S : Sg) (f : Int) (t : Tn) : sizes (partsN S f t) ≤ sizeT t := by
  unfold partsN
  split
  · simp [sizes_cons, sizes_nil]
  · split
    · simp [sizes_nil]
    · split
      · rw [← nodes_sizes]; unfold sizeT; omega
      · simp [sizes_cons, sizes_nil]
theorem flat_size (S : Sg) (f : Int) : ∀ cs : List Tn, sizes (cs.flatMap (partsN S f)) ≤ sizes cs
  | [] => Nat.le_refl _
  | c :: r => by
    rw [List.flatMap_cons, sizes_append, sizes_cons]
    have := parts_size S f c
    have := flat_size S f r
    omega
theorem join_size {S : Sg} {f : Int} {l : List Tn} {t : Tn} (h : joinL S f l = some t) : sizeT t ≤ sizes l + 1 := by
  match l, h with
  | [], h =>
    simp only [joinL, Option.map_eq_some_iff] at h
    obtain ⟨u, _, rfl⟩ := h
    simp [sizeT, constT, nodesF]
  | [a], h =>
    simp only [joinL, Option.some.injEq] at h
    subst h
    simp [sizes_cons, sizes_nil]
  | a :: b :: r, h =>
    simp only [joinL, Option.some.injEq] at h
    subst h
    show nodesF (mkF (sortN (a :: b :: r))) + 1 ≤ _
    rw [nodes_mk, sizes_perm (sortN_perm _)]
    exact Nat.le_refl _
theorem canon1_size (S : Sg) (x : ByteArray × Int) (cs : List Tn) : sizeT (canon1 S x cs) ≤ sizes cs + 1 := by
  unfold canon1
  split
  · simp [sizeT, nodesF]
  · split
    · unfold joinN
      split
      · simp [sizeT, constT, nodesF]
      · cases h : joinL S x.2 (cs.flatMap (partsN S x.2)) with
        | none => simp [sizeT, constT, nodesF]
        | some t =>
          have := join_size h
          have := flat_size S x.2 cs
          simp only [Option.getD_some]
          omega
    · show nodesF (mkF cs) + 1 ≤ _
      rw [nodes_mk]
      exact Nat.le_refl _
theorem canonL_size (S : Sg) : ∀ F : Fo, sizes (canonL S F) ≤ nodesF F
  | .nil => Nat.le_refl _
  | .node _ _ x l r => by
    rw [canonL, sizes_cons, nodesF]
    have := canon1_size S x (canonL S l)
    have := canonL_size S l
    have := canonL_size S r
    omega
theorem canonT_size (S : Sg) (t : Tn) : nodesF (canonT S t).2 + 1 ≤ nodesF t.2 + 1 := by
  have := canon1_size S t.1 (canonL S t.2)
  have := canonL_size S t.2
  show sizeT (canonT S t) ≤ _
  unfold canonT
  omega

/-! ### which variables -/
def inF (nm : List UInt8) : Fo → Prop
  | .nil => False
  | .node _ _ x l r => ((noName x.1 = false ∧ x.1.data.toList = nm) ∨ inF nm l) ∨ inF nm r
def inT (nm : List UInt8) (t : Tn) : Prop := (noName t.1.1 = false ∧ t.1.1.data.toList = nm) ∨ inF nm t.2
theorem inF_kids {nm : List UInt8} : ∀ {F : Fo}, inF nm F ↔ ∃ k ∈ kidsL F, inT nm k
  | .nil => by simp [inF, kidsL]
  | .node _ _ x l r => by
    rw [inF, inF_kids (F := r), kidsL]
    constructor
    · rintro (h | ⟨k, hk, h⟩)
      · exact ⟨(x, l), by simp, h⟩
      · exact ⟨k, by simp [hk], h⟩
    · rintro ⟨k, hk, h⟩
      rcases List.mem_cons.1 hk with rfl | hk
      · exact .inl h
      · exact .inr ⟨k, hk, h⟩
theorem inT_none {nm : List UInt8} {f : Int} {l : Fo} : inT nm ((noB, f), l) ↔ inF nm l := by
  unfold inT
  simp [noName_noB]
theorem parts_in {S : Sg} {ar : Int → Nat} {f : Int} {c : Tn} {nm : List UInt8} (hj : S.joins f = true) (h : CanT S ar c) : inT nm c ↔ ∃ p ∈ partsN S f c, inT nm p := by
  unfold partsN
  rw [if_neg (by simp [hj])]
  cases hu : isUn S f c with
  | true =>
    obtain ⟨u, _, rfl⟩ := isUn_some hu
    unfold constT
    rw [inT_none]
    simp [inF]
  | false =>
    cases hh : headed f c with
    | true =>
      obtain ⟨c1, _, _, _⟩ := can_head hj h hh
      obtain ⟨x, l⟩ := c
      dsimp only at c1
      subst c1
      rw [inT_none, inF_kids]
      simp
    | false => simp
theorem join_in {S : Sg} {f : Int} {l : List Tn} {t : Tn} {nm : List UInt8} (h : joinL S f l = some t) : inT nm t ↔ ∃ p ∈ l, inT nm p := by
  match l, h with
  | [], h =>
    simp only [joinL, Option.map_eq_some_iff] at h
    obtain ⟨u, _, rfl⟩ := h
    unfold constT
    rw [inT_none]
    simp [inF]
  | [a], h =>
    simp only [joinL, Option.some.injEq] at h
    subst h
    simp
  | a :: b :: r, h =>
    simp only [joinL, Option.some.injEq] at h
    subst h
    rw [inT_none, inF_kids, kids_mk]
    constructor
    · rintro ⟨k, hk, h⟩; exact ⟨k, (sortN_perm _).mem_iff.1 hk, h⟩
    · rintro ⟨k, hk, h⟩; exact ⟨k, (sortN_perm _).mem_iff.2 hk, h⟩
theorem canon1_in {S : Sg} {ar : Int → Nat} {x : ByteArray × Int} {l : Fo} {cs : List Tn} {nm : List UInt8} (hn : nodeOk S ar x (lenF l)) (hl : cs.length = lenF l) (hc : ∀ c ∈ cs, CanT S ar c) (h : (∃ c ∈ cs, inT nm c) ↔ inF nm l) : inT nm (canon1 S x cs) ↔ inT nm (x, l) := by
  unfold nodeOk at hn
  cases hx : noName x.1 with
  | false =>
    rw [if_pos hx] at hn
    have e : l = .nil := len_nil hn.2
    subst e
    unfold canon1
    rw [if_pos hx]
    unfold inT
    simp [inF]
  | true =>
    have ex : x = (noB, x.2) := Prod.ext (noName_eq hx) rfl
    rw [if_neg (by simp [hx])] at hn
    have h2 : inT nm (x, l) ↔ inF nm l := by rw [ex]; exact inT_none
    rw [h2, ← h]
    cases hj : S.joins x.2 with
    | true =>
      rw [if_pos hj] at hn
      have hne : cs ≠ [] := fun e => by rw [e] at hl; simp at hl; omega
      rw [join_in (canon1_join hx hj hc hne)]
      constructor
      · rintro ⟨p, hp, hi⟩
        obtain ⟨c, h3, h4⟩ := List.mem_flatMap.1 hp
        exact ⟨c, h3, (parts_in hj (hc c h3)).2 ⟨p, h4, hi⟩⟩
      · rintro ⟨c, h3, hi⟩
        obtain ⟨p, h4, h5⟩ := (parts_in hj (hc c h3)).1 hi
        exact ⟨p, List.mem_flatMap.2 ⟨c, h3, h4⟩, h5⟩
    | false =>
      unfold canon1
      rw [if_neg (by simp [hx]), if_neg (by simp [hj]), inT_none, inF_kids, kids_mk]
theorem canonL_in {S : Sg} {ar : Int → Nat} (hS : S.Ok ar) {nm : List UInt8} : ∀ {F : Fo}, RightF S ar F → ((∃ c ∈ canonL S F, inT nm c) ↔ inF nm F)
  | .nil, _ => by simp [canonL, inF]
  | .node _ _ x l r, ⟨⟨h1, h2⟩, h3⟩ => by
    have e := canon1_in h1 (by rw [canonL_map, List.length_map, kids_len]) (canonL_can hS h2) (canonL_in hS (nm := nm) h2)
    rw [inF, ← canonL_in hS h3, canonL]
    constructor
    · rintro ⟨c, hc, hi⟩
      rcases List.mem_cons.1 hc with rfl | hc
      · exact .inl (e.1 hi)
      · exact .inr ⟨c, hc, hi⟩
    · rintro (h | ⟨c, hc, hi⟩)
      · exact ⟨_, List.mem_cons_self, e.2 h⟩
      · exact ⟨c, List.mem_cons_of_mem _ hc, hi⟩
theorem canonT_in {S : Sg} {ar : Int → Nat} (hS : S.Ok ar) {nm : List UInt8} {t : Tn} (h : RightT S ar t) : inT nm (canonT S t) ↔ inT nm t :=
  canon1_in h.1 (by rw [canonL_map, List.length_map, kids_len]) (canonL_can hS h.2) (canonL_in hS h.2)

/-! ### parts, in order and joined again -/
theorem parts_srt {S : Sg} {ar : Int → Nat} {f : Int} {t : Tn} (hj : S.joins f = true) (h : CanT S ar t) : Srt (partsN S f t) := by
  unfold partsN
  rw [if_neg (by simp [hj])]
  cases isUn S f t with
  | true => simp
  | false =>
    cases hh : headed f t with
    | true => simpa using (can_head hj h hh).2.2.1
    | false => simp
theorem map_can {S : Sg} {ar : Int → Nat} {l : List Tn} (h : ∀ p ∈ l, CanT S ar p) : l.map (canonT S) = l := by
  induction l with
  | nil => rfl
  | cons a r ih => rw [List.map_cons, canonT_id (h a (by simp)), ih (fun p hp => h p (by simp [hp]))]
/-- Join of a canonical term's parts. -/
theorem join_back {S : Sg} {ar : Int → Nat} {f : Int} {t : Tn} (hj : S.joins f = true) (h : CanT S ar t) : joinN S f ((partsN S f t).map (canonT S)) = some t := by
  rw [map_can (fun p hp => (parts_good hj h p hp).can)]
  unfold joinN
  rw [if_neg (by simp [hj]), flat_self (parts_good hj h)]
  exact join_parts hj h
/-- Join of the parts of two. -/
theorem join_two {S : Sg} {ar : Int → Nat} {f : Int} {a b : Tn} (hj : S.joins f = true) (ha : CanT S ar a) (hb : CanT S ar b) : joinN S f ((partsN S f a ++ partsN S f b).map (canonT S)) = joinL S f (partsN S f a ++ partsN S f b) := by
  have hg : ∀ p ∈ partsN S f a ++ partsN S f b, Good S ar f p := fun p hp => by
    rcases List.mem_append.1 hp with h | h
    · exact parts_good hj ha p h
    · exact parts_good hj hb p h
  rw [map_can (fun p hp => (hg p hp).can)]
  unfold joinN
  rw [if_neg (by simp [hj]), flat_self hg]
end Go.Proofs.YtfnfbljijkjkjaaGreat
/- What Find answers: the program's and the document's. -/
namespace Go.Proofs.YtfnfbljijkjkjaaGreat
open Go.RowKit

def FindRet (l : List Sym) (nm : ByteArray) (e : Ending) : Prop := e = .returned (.tuple #[.int .i64 (findI l nm), .bool (findB l nm)])

set_option maxHeartbeats 400000 in
theorem rfind_any (a : Option Addr) (n cap : Nat) (l : List Sym) (nm : ByteArray) (w : World) (h : SigAt w a n l) :
    Calls Tryz.prog 100 #[.slice a n cap, .string nm] w fun e w' => FindRet l nm e ∧ w' = w := by
  obtain ⟨hl, hm, hcells, _⟩ := h
  unfold maxLen at hm
  have HL : Hid (n = l.length) := hl
  clear hl
  have HC : Hid (∀ i (h : i < l.length), ∃ b off, a = some ⟨b, off, none⟩ ∧ SymAt w b (off + i * 4) l[i]) := hcells
  clear hcells
  go_enter Tryz.func100, Tryz.ntmps100
  go_wp2
  go_loop [6] (fun i => ∃ k : Nat, k ≤ n ∧ i = .int .i64 k ∧ ∀ j (hj : j < l.length), j < k → sameB l[j].name nm = false) (fun i => n - (intOf i).toNat)
  case atStart => exact ⟨0, Nat.zero_le _, rfl, fun j _ h => absurd h (by omega)⟩
  case round =>
    obtain ⟨k, hk, rfl, hno⟩ := hrel
    have HN : Hid (∀ j (hj : j < l.length), j < k → sameB l[j].name nm = false) := hno
    clear hno
    by_cases hlt : k < n
    · have hlk : k < l.length := by have := HL.out; omega
      obtain ⟨b, off, rfl, hw⟩ := HC.out k hlk
      have c0 := hw.name
      clear hw
      cases ht : (l[k].name.toList == nm.toList)
      · go_wp2
        go_round
        case rel => exact ⟨k + 1, by omega, by go_num, fun j hj h => by
          rcases Nat.lt_succ_iff_lt_or_eq.1 h with h | rfl
          · exact HN.out j hj h
          · exact ht⟩
        case measure => simp [intOf]; omega
      · have hf : Hid (findL l nm = some k) := find_hit hlk ht HN.out
        go_wp2
        go_ret2
        exact ⟨by unfold FindRet; rw [findI_some hf.out, findB_some hf.out]; rfl, rfl⟩
    · have hf : Hid (findL l nm = none) := find_miss fun j hj => HN.out j hj (by have := HL.out; omega)
      go_wp2
      go_ret2
      exact ⟨by unfold FindRet; rw [findI_none hf.out, findB_none hf.out]; rfl, rfl⟩
end Go.Proofs.YtfnfbljijkjkjaaGreat
/- What Unit answers: the program's and the document's. -/
namespace Go.Proofs.YtfnfbljijkjkjaaGreat
open Go.RowKit

def unitAt (l : List Sym) (z : Int) : Option Nat := if h : 0 ≤ z ∧ z.toNat < l.length then (if (l[z.toNat]'h.2).kind = 3 then findL l (l[z.toNat]'h.2).unit else none) else none
def unitI (l : List Sym) (z : Int) : Int := match unitAt l z with | some i => i | none => 0
def unitOk (l : List Sym) (z : Int) : Bool := (unitAt l z).isSome
def UnitRet (l : List Sym) (z : Int) (e : Ending) : Prop := e = .returned (.tuple #[.int .i64 (unitI l z), .bool (unitOk l z)])

theorem unit_out {l : List Sym} {z : Int} (h : ¬ (0 ≤ z ∧ z.toNat < l.length)) : unitAt l z = none := by simp [unitAt, h]
theorem unit_not {l : List Sym} {k : Nat} (hk : k < l.length) (h : l[k].kind ≠ 3) : unitAt l k = none := by
  unfold unitAt
  rw [dif_pos ⟨by omega, by simpa using hk⟩, if_neg (by simpa using h)]
theorem unit_is {l : List Sym} {k : Nat} (hk : k < l.length) (h : l[k].kind = 3) : unitAt l k = findL l l[k].unit := by
  unfold unitAt
  rw [dif_pos ⟨by omega, by simpa using hk⟩, if_pos (by simpa using h)]
  simp
theorem unitI_none {l : List Sym} {z : Int} (h : unitAt l z = none) : unitI l z = 0 := by simp [unitI, h]
theorem unitOk_none {l : List Sym} {z : Int} (h : unitAt l z = none) : unitOk l z = false := by simp [unitOk, h]
theorem unitI_is {l : List Sym} {z : Int} {nm : ByteArray} (h : unitAt l z = findL l nm) : unitI l z = findI l nm := by unfold unitI findI; rw [h] <;> rfl
theorem unitOk_is {l : List Sym} {z : Int} {nm : ByteArray} (h : unitAt l z = findL l nm) : unitOk l z = findB l nm := by simp [unitOk, findB, h]

set_option maxHeartbeats 400000 in
theorem runit_any (a : Option Addr) (n cap : Nat) (l : List Sym) (z : Int) (w : World) (h : SigAt w a n l) :
    Calls Tryz.prog 79 #[.slice a n cap, .int .i64 z] w fun e w' => UnitRet l z e ∧ w' = w := by
  have HS : Hid (SigAt w a n l) := h
  have hm := h.small
  unfold maxLen at hm
  clear h
  by_cases h0 : z < 0
  · have hu : Hid (unitAt l z = none) := unit_out (by omega)
    go_enter Tryz.func79, Tryz.ntmps79
    go_wp2
    go_ret2
    exact ⟨by unfold UnitRet; rw [unitI_none hu.out, unitOk_none hu.out]; rfl, rfl⟩
  · obtain ⟨k, rfl⟩ := Int.eq_ofNat_of_zero_le (by omega : 0 ≤ z)
    by_cases h1 : (n : Int) ≤ k
    · have hu : Hid (unitAt l k = none) := unit_out (by have := HS.out.len; omega)
      go_enter Tryz.func79, Tryz.ntmps79
      go_wp2
      go_ret2
      exact ⟨by unfold UnitRet; rw [unitI_none hu.out, unitOk_none hu.out]; rfl, rfl⟩
    · have hlk : k < l.length := by have := HS.out.len; omega
      obtain ⟨b, off, rfl, hw⟩ := HS.out.cells k hlk
      have c1 := hw.kind
      have c3 := hw.unit
      clear hw
      cases hk : (l[k].kind != 3)
      · have hu : Hid (unitAt l k = findL l l[k].unit) := unit_is hlk (by simpa using hk)
        go_enter Tryz.func79, Tryz.ntmps79
        go_wp2_with fail
        refine (rfind_any _ _ _ l _ _ HS.out).mono ?_
        rintro e w1 ⟨he, hb⟩
        unfold FindRet at he
        subst he
        rw [hb]
        go_wp2
        go_ret2
        exact ⟨by unfold UnitRet; rw [unitI_is hu.out, unitOk_is hu.out]; rfl, rfl⟩
      · have hu : Hid (unitAt l k = none) := unit_not hlk (by simpa using hk)
        go_enter Tryz.func79, Tryz.ntmps79
        go_wp2
        go_ret2
        exact ⟨by unfold UnitRet; rw [unitI_none hu.out, unitOk_none hu.out]; rfl, rfl⟩
end Go.Proofs.YtfnfbljijkjkjaaGreat
/- What rightArity, rightUnit and checkSymbol answer. -/
namespace Go.Proofs.YtfnfbljijkjkjaaGreat
open Go.RowKit

def unitB2 (l : List Sym) (x : Sym) : Bool := if x.kind = 3 then l.any (fun y => isUnit x y && emptyB y.unit) else emptyB x.unit
theorem unitB2_not {l : List Sym} {x : Sym} (hk : x.kind ≠ 3) : unitB2 l x = emptyB x.unit := by simp [unitB2, hk]
theorem unitB2_hit {l : List Sym} {x : Sym} (hk : x.kind = 3) {k : Nat} (hlk : k < l.length) (h : (isUnit x l[k] && emptyB l[k].unit) = true) : unitB2 l x = true := by
  unfold unitB2
  rw [if_pos hk, List.any_eq_true]
  exact ⟨l[k], List.getElem_mem hlk, h⟩
theorem unitB2_miss {l : List Sym} {x : Sym} (hk : x.kind = 3) (h : ∀ j (hj : j < l.length), (isUnit x l[j] && emptyB l[j].unit) = false) : unitB2 l x = false := by
  unfold unitB2
  rw [if_pos hk, List.any_eq_false]
  intro y hy
  obtain ⟨j, hj, rfl⟩ := List.getElem_of_mem hy
  rw [h j hj]; simp

end Go.Proofs.YtfnfbljijkjkjaaGreat
/- What Check answers, plainly: the first symbol that may not be. -/
namespace Go.Proofs.YtfnfbljijkjkjaaGreat
open Go.RowKit

def errAt (l : List Sym) (i : Nat) : Int := if h : i < l.length then symErr (l.take i) l[i] else 0
def firstErr (l : List Sym) : Option Nat := (List.range l.length).find? fun i => errAt l i != 0
def checkE (l : List Sym) : Int := if 16 < l.length then 15 else match firstErr l with | some i => errAt l i | none => 0
def checkP (l : List Sym) : Int := if 16 < l.length then 0 else match firstErr l with | some i => (i : Int) | none => 0

theorem firstErr_hit {l : List Sym} {k : Nat} (hk : k < l.length) (h : errAt l k ≠ 0) (hno : ∀ j, j < k → errAt l j = 0) : firstErr l = some k := by
  unfold firstErr
  rw [List.find?_range_eq_some]
  refine ⟨by simpa using h, by simpa using hk, fun j hj => by simp [hno j hj]⟩
theorem firstErr_miss {l : List Sym} (hno : ∀ j, j < l.length → errAt l j = 0) : firstErr l = none := by
  unfold firstErr
  rw [List.find?_eq_none]
  intro j hj
  simp only [List.mem_range] at hj
  simp [hno j hj]
theorem checkE_hit {l : List Sym} {k : Nat} (h16 : ¬ 16 < l.length) (h : firstErr l = some k) : checkE l = errAt l k := by simp [checkE, h16, h]
theorem checkP_hit {l : List Sym} {k : Nat} (h16 : ¬ 16 < l.length) (h : firstErr l = some k) : checkP l = k := by simp [checkP, h16, h]
theorem checkE_miss {l : List Sym} (h16 : ¬ 16 < l.length) (h : firstErr l = none) : checkE l = 0 := by simp [checkE, h16, h]
theorem checkP_miss {l : List Sym} (h16 : ¬ 16 < l.length) (h : firstErr l = none) : checkP l = 0 := by simp [checkP, h16, h]

theorem symErr_unit {l : List Sym} {x : Sym} (h : symErr l x = 0) : unitB l x = true := by
  unfold symErr at h
  split at h
  · omega
  · split at h
    · omega
    · split at h
      · omega
      · split at h
        · omega
        · rename_i hu; simpa using hu
theorem unitB2_eq {l : List Sym} {x : Sym} (h : ∀ y ∈ l, y.kind = 1 → emptyB y.unit = true) : unitB2 l x = unitB l x := by
  unfold unitB2 unitB
  split
  · rw [Bool.eq_iff_iff, List.any_eq_true, List.any_eq_true]
    constructor
    · rintro ⟨y, hy, h1⟩; exact ⟨y, hy, by simp at h1; exact h1.1⟩
    · rintro ⟨y, hy, h1⟩
      refine ⟨y, hy, ?_⟩
      rw [h1, h y hy (by simp [isUnit] at h1; exact h1.1.1)]; rfl
  · rfl
theorem free_empty {l : List Sym} {k : Nat} (hk : k ≤ l.length) (hno : ∀ j, j < k → errAt l j = 0) : ∀ y ∈ l.take k, y.kind = 1 → emptyB y.unit = true := by
  intro y hy h1
  obtain ⟨j, hj, rfl⟩ := List.getElem_of_mem hy
  have hjk : j < k := by simp at hj; omega
  have hjl : j < l.length := by omega
  have h0 := hno j hjk
  unfold errAt at h0
  rw [dif_pos hjl] at h0
  have hu := symErr_unit h0
  have e : (l.take k)[j] = l[j] := by simp
  rw [e] at h1 ⊢
  unfold unitB at hu
  rw [if_neg (by omega)] at hu
  exact hu
theorem SigAt.take {w : World} {a : Option Addr} {n : Nat} {l : List Sym} (h : SigAt w a n l) (k : Nat) (hk : k ≤ n) : SigAt w a k (l.take k) :=
  ⟨by have := h.len; simp; omega, by have := h.small; omega, fun i hi => by
    have hi' : i < l.length := by simp at hi; omega
    obtain ⟨b, off, ha, hc⟩ := h.cells i hi'
    exact ⟨b, off, ha, by simpa using hc⟩, fun x hx => h.fits x (List.mem_of_mem_take hx)⟩
end Go.Proofs.YtfnfbljijkjkjaaGreat
/- A signature as Canon sees it: which places join, and which unit they have; what a right signature and a right term say of it. -/
namespace Go.Proofs.YtfnfbljijkjkjaaGreat
open Go.RowKit Go.Deep

def symAt (l : List Sym) (f : Int) : Option Sym := if 0 ≤ f then l[f.toNat]? else none
def joinsAt (l : List Sym) (f : Int) : Bool := match symAt l f with | some x => decide (x.kind = 2) || decide (x.kind = 3) | none => false
def arAt (l : List Sym) (f : Int) : Nat := match symAt l f with | some x => x.arity.toNat | none => 0
def sgOf (l : List Sym) : Sg := ⟨joinsAt l, fun f => (unitAt l f).map fun (i : Nat) => (i : Int)⟩
theorem symAt_in {l : List Sym} {k : Nat} (h : k < l.length) : symAt l (k : Int) = some l[k] := by
  unfold symAt
  rw [if_pos (by omega), Int.toNat_natCast, List.getElem?_eq_getElem h]
theorem symAt_out {l : List Sym} {f : Int} (h : ¬ (0 ≤ f ∧ f.toNat < l.length)) : symAt l f = none := by
  unfold symAt
  split
  · rw [List.getElem?_eq_none_iff]; omega
  · rfl

/-! ### a right signature -/
theorem symErr_zero {l : List Sym} {x : Sym} (h : symErr l x = 0) : findB l x.name = false ∧ kindB x = true ∧ arityB x = true ∧ unitB l x = true := by
  unfold symErr at h
  split at h
  · omega
  · rename_i h1
    split at h
    · omega
    · rename_i h2
      split at h
      · omega
      · rename_i h3
        split at h
        · omega
        · rename_i h4
          exact ⟨by simpa using fun e => h1 (.inl e), by simpa using h2, by simpa using h3, by simpa using h4⟩
theorem right_each {l : List Sym} (h : checkE l = 0) {k : Nat} (hk : k < l.length) : symErr (l.take k) l[k] = 0 := by
  unfold checkE at h
  split at h
  · omega
  · cases hf : firstErr l with
    | none =>
      unfold firstErr at hf
      rw [List.find?_eq_none] at hf
      have := hf k (List.mem_range.2 hk)
      unfold errAt at this
      rw [dif_pos hk] at this
      simpa using this
    | some i =>
      rw [hf] at h
      dsimp only at h
      have := List.find?_some hf
      rw [h] at this
      simp at this
theorem sameB_iff (a b : ByteArray) : sameB a b = true ↔ a = b := by
  unfold sameB
  rw [beq_iff_eq, ByteArray.toList_eq, ByteArray.toList_eq]
  exact ⟨bytes_eq, fun h => by rw [h]⟩
theorem find_at {l : List Sym} {nm : ByteArray} {i : Nat} (h : findL l nm = some i) : ∃ hi : i < l.length, l[i].name = nm ∧ ∀ j (hj : j < i), (l[j]'(by omega)).name ≠ nm := by
  unfold findL at h
  rw [List.findIdx?_eq_some_iff_getElem] at h
  obtain ⟨hi, h1, h2⟩ := h
  refine ⟨hi, (sameB_iff _ _).1 h1, fun j hj e => ?_⟩
  have := h2 j hj
  rw [(sameB_iff _ _).2 e] at this
  simp at this
theorem unit_facts {l : List Sym} (h : checkE l = 0) {f : Int} {i : Nat} (hu : unitAt l f = some i) : ∃ hi : i < l.length, l[i].kind = 1 ∧ l[i].arity = 0 := by
  unfold unitAt at hu
  split at hu
  · rename_i hf
    split at hu
    · rename_i hk
      obtain ⟨hi, h1, h2⟩ := find_at hu
      have he := symErr_zero (right_each h hf.2)
      have hub := he.2.2.2
      unfold unitB at hub
      rw [if_pos hk, List.any_eq_true] at hub
      obtain ⟨y, hy, hyu⟩ := hub
      obtain ⟨k, hkl, rfl⟩ := List.getElem_of_mem hy
      have hk0 : k < f.toNat ∧ k < l.length := by rw [List.length_take] at hkl; omega
      rw [List.getElem_take] at hyu
      unfold isUnit at hyu
      simp only [Bool.and_eq_true, decide_eq_true_eq] at hyu
      obtain ⟨⟨q1, q2⟩, q3⟩ := hyu
      rw [sameB_iff] at q3
      have hik : i = k := by
        rcases Nat.lt_trichotomy i k with hlt | heq | hgt
        · have hfresh := (symErr_zero (right_each h hk0.2)).1
          unfold findB at hfresh
          have : findL (l.take k) l[k].name ≠ none := by
            unfold findL
            rw [Ne, List.findIdx?_eq_none_iff]
            intro hno
            have := hno (l[i]) (by rw [List.mem_take_iff_getElem]; exact ⟨i, by omega, rfl⟩)
            rw [(sameB_iff _ _).2 (h1.trans q3.symm)] at this
            simp at this
          rw [Option.isSome_eq_false_iff, Option.isNone_iff_eq_none] at hfresh
          exact absurd hfresh this
        · exact heq
        · exact absurd q3 (h2 k hgt)
      subst hik
      exact ⟨hi, q1, q2⟩
    · cases hu
  · cases hu
theorem sg_ok {l : List Sym} (h : checkE l = 0) : (sgOf l).Ok (arAt l) := by
  have hu : ∀ f u, (sgOf l).unit f = some u → joinsAt l u = false ∧ arAt l u = 0 := by
    intro f u hu
    simp only [sgOf, Option.map_eq_some_iff] at hu
    obtain ⟨i, hi, rfl⟩ := hu
    obtain ⟨hlt, hk, ha⟩ := unit_facts h hi
    unfold joinsAt arAt
    rw [symAt_in hlt]
    simp [hk, ha]
  exact ⟨fun f u e => (hu f u e).1, fun f u e => (hu f u e).2⟩

/-! ### a right term -/
theorem node_right {l : List Sym} (h : checkE l = 0) {x : ByteArray × Int} {n : Nat} (hn : nodeErr l x n = 0) : nodeOk (sgOf l) (arAt l) x n := by
  unfold nodeErr at hn
  unfold nodeOk
  split at hn
  · rename_i hx
    rw [if_pos hx]
    unfold varErr at hn
    split at hn
    · rename_i h1; exact ⟨h1.2.1, h1.2.2⟩
    · omega
  · rename_i hx
    rw [if_neg hx]
    split at hn
    · rename_i h0
      split at hn
      · rename_i s hs
        split at hn
        · rename_i ht
          have hs' : symAt l x.2 = some s := by unfold symAt; rw [if_pos h0]; exact hs
          have hlt : x.2.toNat < l.length := by
            rcases Nat.lt_or_ge x.2.toNat l.length with h | h
            · exact h
            · rw [List.getElem?_eq_none_iff.2 h] at hs; cases hs
          have hsk : l[x.2.toNat] = s := by rw [List.getElem?_eq_getElem hlt] at hs; exact Option.some.inj hs
          have hkb := (symErr_zero (right_each h hlt)).2.1
          have hab := (symErr_zero (right_each h hlt)).2.2.1
          rw [hsk] at hkb hab
          unfold takesB at ht
          show if joinsAt l x.2 = true then 2 ≤ n else n = arAt l x.2
          unfold joinsAt arAt
          rw [hs']
          dsimp only
          unfold kindB at hkb
          unfold arityB at hab
          by_cases h1 : s.kind = 1
          · rw [if_pos h1] at ht hab
            rw [if_neg (by simp [h1])]
            simp only [beq_iff_eq] at ht
            omega
          · rw [if_neg h1] at ht
            rw [if_pos (by simpa [h1] using hkb)]
            simpa using ht
        · omega
      · omega
    · omega
theorem then_zero {a b : Int} (h : thenC a b = 0) : a = 0 ∧ b = 0 := by
  unfold thenC at h
  split at h
  · exact ⟨by assumption, h⟩
  · omega
theorem errF_right {l : List Sym} (h : checkE l = 0) : ∀ {F : Fo}, errF l F = 0 → RightF (sgOf l) (arAt l) F
  | .nil, _ => trivial
  | .node _ _ x m r, he => by
    rw [errF] at he
    obtain ⟨h1, h2⟩ := then_zero he
    obtain ⟨h3, h4⟩ := then_zero h1
    exact ⟨⟨node_right h h3, errF_right h h4⟩, errF_right h h2⟩
theorem errT_right {l : List Sym} (h : checkE l = 0) {x : ByteArray × Int} {m : Fo} (he : errT l x m = 0) : RightT (sgOf l) (arAt l) (x, m) := by
  unfold errT at he
  obtain ⟨h3, h4⟩ := then_zero he
  exact ⟨node_right h h3, errF_right h h4⟩
end Go.Proofs.YtfnfbljijkjkjaaGreat
