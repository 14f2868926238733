/- How a term that came in is opened into a forest. -/
import Derived.Test.YtgcnjpiiofjljaaGreatDoorRows
import Derived.Test.YtgcnjpiiofjljaaGreatDoorTMem
import Derived.Lib.SmallJoins
import Derived.SizedLaws
import Derived.ProofKit
import Derived.OpenShut
import Derived.ShutString
import Derived.ChangeOld
import Derived.SliceStrings
import Derived.ChangeMaps5
import Derived.JoinedCond
namespace Go.Proofs.YtgcnjpiiofjljaaGreatDoor
open Go.ChangeShapes Go.WideShapes Go.ChangeAt Go.RowKit Go.Deep

theorem own : ownKnob Tryz.prog.godebug = none := by kernel_rfl
theorem laidOut : laidOutB Tryz.prog = true := by kernel_rfl
theorem addr_add (b off i : Nat) : (⟨b, off, none⟩ : Addr).add i = ⟨b, off + i, none⟩ := by
  unfold Addr.add
  split
  · rename_i h; subst h; rfl
  · rfl
theorem Tryz.cells27 : Tryz.prog.cellsOf 27 = 3 := by kernel_rfl
theorem Tryz.cells25 : Tryz.prog.cellsOf 25 = 1 := by kernel_rfl
theorem Tryz.cells9 : Tryz.prog.cellsOf 9 = 1 := by kernel_rfl
theorem Tryz.cells3 : Tryz.prog.cellsOf 3 = 1 := by kernel_rfl
theorem Tryz.bytes27 : Tryz.prog.bytesOf 27 = 48 := by kernel_rfl


/-- Small enough, by one of the two forms' bounds. -/
def Sz {H : Type} (d : DataW H) : Prop := (∀ m ∈ d.weights Tryz.prog 27, m ≤ 140737488351232) ∨ Rows.uptoBulk d ≤ 1048576
theorem weights_all {H : Type} {e : TypeId} {m : Nat} : ∀ {ds : List (DataW H)} {d : DataW H}, d ∈ ds → m ∈ d.weights Tryz.prog e → m ∈ DataW.weightsAll Tryz.prog e ds
  | d' :: r, d, hd, hm => by
    simp only [DataW.weightsAll, List.mem_append]
    rcases List.mem_cons.1 hd with rfl | h
    · exact .inl hm
    · exact .inr (weights_all h hm)
theorem bulk_all {H : Type} : ∀ {ds : List (DataW H)} {d : DataW H}, d ∈ ds → Rows.uptoBulk d ≤ Rows.uptoBulkAll ds
  | d' :: r, d, hd => by
    simp only [Rows.uptoBulkAll]
    rcases List.mem_cons.1 hd with rfl | h
    · omega
    · have := bulk_all h; omega
theorem bulk_pos {H : Type} (d : DataW H) : 1 ≤ Rows.uptoBulk d := by
  cases d with
  | lit l => cases l <;> simp [Rows.uptoBulk]
  | _ => simp [Rows.uptoBulk]
theorem bulk_len {H : Type} : ∀ ds : List (DataW H), ds.length ≤ Rows.uptoBulkAll ds
  | [] => Nat.le_refl _
  | d :: r => by
    have := bulk_len r
    have := bulk_pos d
    simp only [Rows.uptoBulkAll, List.length_cons]; omega

/-- Terms side by side make a forest. -/
theorem forest_of {H : Type} {W : World} {b : Nat} : ∀ (ds : List (DataW H × List MemPlace)) (o : Nat),
    (∀ (i : Nat) (h : i < ds.length), ∃ (p : ByteArray × Int) (a : Option Addr) (c : Nat) (l : Fo), (W.cell? ⟨b, o + i * 3, none⟩ = some (.string p.1) ∧ W.cell? ⟨b, o + i * 3 + 1, none⟩ = some (.int .i64 p.2) ∧ W.cell? ⟨b, o + i * 3 + 2, none⟩ = some (.slice a (lenF l) c)) ∧ TmAt W p a c l ∧ nodesF l + 1 ≤ Rows.uptoBulk ds[i].1) →
    ∃ F : Fo, lenF F = ds.length ∧ KidsAt W F b o ∧ nodesF F ≤ Rows.uptoBulkAll (ds.map (·.1))
  | [], o, _ => ⟨.nil, rfl, trivial, Nat.zero_le _⟩
  | d :: r, o, h => by
    obtain ⟨F, hl, hk, hn⟩ := forest_of r (o + 3) (fun i hi => by
      obtain ⟨p, a, c, l, ⟨h0, h1, h2⟩, h3, h4⟩ := h (i + 1) (by simpa using hi)
      rw [show o + (i + 1) * 3 = o + 3 + i * 3 by omega] at h0 h1 h2
      exact ⟨p, a, c, l, ⟨h0, h1, h2⟩, h3, h4⟩)
    obtain ⟨p, a, c, l, ⟨h0, h1, h2⟩, h3, h4⟩ := h 0 (by simp)
    simp only [Nat.zero_mul, Nat.add_zero, List.getElem_cons_zero] at h0 h1 h2 h4
    refine ⟨.node 0 0 p l F, by simp [lenF, hl], ⟨⟨a, c, h0, h1, h2, h3.sizes, h3.args⟩, hk⟩, ?_⟩
    simp only [nodesF, List.map_cons, Rows.uptoBulkAll]
    omega

set_option maxRecDepth 100000 in
theorem term_open {H : Type} {enc : TypeId × Value → H} {W : World} : ∀ (fuel : Nat) (cs : List Value) (x : DataW H × List MemPlace), DataW.trod enc Tryz.prog W 0 (fun _ => true) true fuel 27 cs = some x → Sz x.1 →
    ∃ (p : ByteArray × Int) (a : Option Addr) (c : Nat) (l : Fo), cs = [.string p.1, .int .i64 p.2, .slice a (lenF l) c] ∧ TmAt W p a c l ∧ nodesF l + 1 ≤ Rows.uptoBulk x.1 := by
  intro fuel
  induction fuel using Nat.strongRecOn with
  | _ fuel ih =>
    intro cs x h hz
    obtain ⟨xs, n, hfuel, hx, hl, hlen, hf⟩ := DataW.trod_struct Tryz.underlying27 h
    rw [Tryz.cells27] at hl
    match xs, hlen, cs, hl with
    | [y0, y1, y2], _, [v0, v1, v2], _ =>
      have g0 := hf 0 _ rfl
      have g1 := hf 1 _ rfl
      have g2 := hf 2 _ rfl
      simp [Tryz.cells9, Tryz.cells3, Tryz.cells25] at g0 g1 g2
      obtain ⟨s0, e0, k0, f0⟩ := DataW.trod_string Tryz.underlying9 g0
      obtain ⟨n1, e1, k1, _⟩ := DataW.trod_int Tryz.underlying3 g1
      simp at e0 e1
      subst e0 e1 hx
      rcases DataW.trod_slice Tryz.underlying25 g2 with ⟨hcs, h2⟩ | ⟨ad, len, c, elems, rest, n', hn', hcs, h2, _, hlc, hcm, hlen2, hel, _, _⟩
      · simp at hcs
        subst hcs
        exact ⟨(s0, n1), none, 0, .nil, rfl, ⟨⟨f0, by simp [lenF], by simp, by simp [lenF]⟩, .inl rfl⟩, by simp [nodesF, Rows.uptoBulk, Rows.uptoBulkAll]⟩
      · simp at hcs
        subst hcs
        rw [Tryz.cells27] at hel
        have hb2 : Rows.uptoBulkAll (elems.map (·.1)) + 1 ≤ Rows.uptoBulk (DataW.agg (List.map (·.1) [y0, y1, y2])) := by
          simp only [List.map_cons, List.map_nil, Rows.uptoBulk, Rows.uptoBulkAll, h2]; omega
        have hsub : ∀ d ∈ elems, Sz d.1 := by
          intro d hd
          rcases hz with hz | hz
          · refine .inl fun m hm => hz m ?_
            have : m ∈ DataW.weightsAll Tryz.prog 27 (elems.map (·.1)) := weights_all (List.mem_map_of_mem hd) hm
            simp [DataW.weights, Tryz.underlying27, DataW.weightsEach, h2, Tryz.underlying25, this]
          · refine .inr ?_
            have := bulk_all (List.mem_map_of_mem (f := (·.1)) hd)
            simp only at hz
            omega
        have hfew : len * 48 ≤ 140737488351232 := by
          rcases hz with hz | hz
          · have := hz ((elems.length + rest.length) * 48) (by simp [DataW.weights, Tryz.underlying27, DataW.weightsEach, h2, Tryz.underlying25, Tryz.bytes27])
            rw [hlen2] at this
            omega
          · have := bulk_len (elems.map (·.1))
            rw [List.length_map, hlen2] at this
            simp only at hz
            omega
        have each : ∀ i (hi : i < elems.length), ∃ (p : ByteArray × Int) (a : Option Addr) (c : Nat) (l : Fo), W.cells? 0 (ad.add (i * 3)) 3 = some [.string p.1, .int .i64 p.2, .slice a (lenF l) c] ∧ TmAt W p a c l ∧ nodesF l + 1 ≤ Rows.uptoBulk elems[i].1 := by
          intro i hi
          have h1 := hel i (by omega)
          rw [List.getElem?_eq_getElem hi] at h1
          cases hc : W.cells? 0 (ad.add (i * 3)) 3 with
          | none => rw [hc] at h1; cases h1
          | some cs' =>
            rw [hc] at h1
            obtain ⟨p, a, c, l, rfl, h3, h4⟩ := ih n' (by omega) cs' elems[i] h1 (hsub _ (List.getElem_mem hi))
            exact ⟨p, a, c, l, rfl, h3, h4⟩
        by_cases hz0 : len = 0
        · subst hz0
          exact ⟨(s0, n1), some ad, c, .nil, rfl, ⟨⟨f0, by simp [lenF], hcm, by simp [lenF]⟩, .inl rfl⟩, by simp only [nodesF]; omega⟩
        · obtain ⟨b, off, spot⟩ := ad
          have hspot : spot = none := by
            obtain ⟨p, a, c, l, h3, _⟩ := each 0 (by omega)
            obtain ⟨_, _, h30⟩ := World.cells?_some h3
            have := h30 0 (by omega)
            simpa [Addr.add] using World.cell?_spot this
          subst hspot
          obtain ⟨F, hFl, hFk, hFn⟩ := forest_of (W := W) (b := b) elems off (fun i hi => by
            obtain ⟨p, a, c, l, h3, h4, h5⟩ := each i hi
            rw [addr_add] at h3
            obtain ⟨_, _, h30⟩ := World.cells?_some h3
            have q0 := h30 0 (by omega)
            have q1 := h30 1 (by omega)
            have q2 := h30 2 (by omega)
            rw [addr_add] at q0 q1 q2
            exact ⟨p, a, c, l, ⟨q0, q1, q2⟩, h4, h5⟩)
          have hFl' : lenF F = len := by rw [hFl, hlen2]
          exact ⟨(s0, n1), some ⟨b, off, none⟩, c, F, by rw [hFl'], ⟨⟨f0, by omega, hcm, by rw [hFl']; exact hfew⟩, .inr ⟨b, off, rfl, hFk⟩⟩, Nat.le_trans (Nat.succ_le_succ hFn) hb2⟩

set_option maxRecDepth 100000 in
/-- A term that came in. -/
theorem termv_open {H : Type} {enc : TypeId × Value → H} {W : World} {r : Reach} {b0 : Nat} {v : Value} {d : DataW H} {ps : List MemPlace} (hv : Value.okWide Tryz.prog W r b0 27 v)
    (h : DataW.Trod enc Tryz.prog W 0 (fun _ => true) true 27 v d ps) (hz : Sz d) :
    ∃ (p : ByteArray × Int) (a : Option Addr) (c : Nat) (l : Fo), v = .agg #[.string p.1, .int .i64 p.2, .slice a (lenF l) c] ∧ TmAt W p a c l ∧ nodesF l + 1 ≤ Rows.uptoBulk d := by
  obtain ⟨cs, rfl, hsz⟩ := okWide_struct Tryz.underlying27 hv
  obtain ⟨c0, c1, c2, rfl⟩ := Joins.array3 (hsz.trans Tryz.cells27)
  obtain ⟨fuel, hf⟩ := h
  obtain ⟨p, a, c, l, hcs, h1, h2⟩ := term_open fuel _ _ hf hz
  simp [Value.cells] at hcs
  obtain ⟨rfl, rfl, rfl⟩ := hcs
  exact ⟨p, a, c, l, rfl, h1, h2⟩
/-- Within the first form's reach. -/
theorem sz_of_weights {H : Type} {ts : List TypeId} {ds : List (DataW H)} {j : Nat} {d : DataW H} (h : (DataW.weightsEach Tryz.prog ts ds).all (· ≤ reachBytes) = true) (ht : ts[j]? = some 27) (hd : ds[j]? = some d) : Sz d :=
  .inl fun m hm => by
    have := List.all_eq_true.1 h _ (DataW.weights_mem_each ht hd m hm)
    have e : reachBytes = 140737488351232 := rfl
    rw [e] at this
    simpa using this
end Go.Proofs.YtgcnjpiiofjljaaGreatDoor
