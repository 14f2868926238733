import Derived.Test.YtgcnjpiiofjljaaGreatDoorRnT
import Derived.Test.YtgcnjpiiofjljaaGreatDoorRnP
import Derived.Test.YtgcnjpiiofjljaaGreatDoorSNm
import Derived.Test.YtgcnjpiiofjljaaGreatDoorPKind
import Derived.Test.YtgcnjpiiofjljaaGreatDoorLater
import Derived.Test.YtgcnjpiiofjljaaGreatDoorTPath
import Derived.Test.YtgcnjpiiofjljaaGreatDoorTKept
import Derived.WalkSpells
import Derived.WalkLawsBesides
import Derived.Shelf.Small.Strs
import Derived.Sort.Walk0
import Derived.Test.YtgcnjpiiofjljaaGreatDoorTRChkB
import Derived.Lib.SlicesCompact
import Derived.Sort.EncStr
import Derived.Test.YtgcnjpiiofjljaaGreatDoorSgOf
import Derived.Laws.AppendOwnNone
import Derived.Test.YtgcnjpiiofjljaaGreatDoorTRClone
import Derived.Deep.AppendLies
import Derived.Test.YtgcnjpiiofjljaaGreatDoorSOp
import Derived.Test.YtgcnjpiiofjljaaGreatDoorTLent
/- The namer in memory; what name does. -/
namespace Go.Proofs.YtgcnjpiiofjljaaGreatDoor
open Go.RowKit Go.Deep Go.Maps

/-- What a name is given. -/
def asN (l : List (ByteArray × ByteArray)) (s : ByteArray) : Option ByteArray := (l.find? fun p => decide (p.1 = s)).map (·.2)
theorem asN_none {l : List (ByteArray × ByteArray)} {s : ByteArray} : asN l s = none ↔ s ∉ l.map (·.1) := by
  unfold asN
  rw [Option.map_eq_none_iff, List.find?_eq_none]
  constructor
  · intro h hm
    obtain ⟨p, hp, rfl⟩ := List.mem_map.1 hm
    exact h p hp (by simp)
  · intro h p hp hd
    exact h (List.mem_map.2 ⟨p, hp, of_decide_eq_true hd⟩)
theorem asN_snoc {l : List (ByteArray × ByteArray)} {s y : ByteArray} (h : s ∉ l.map (·.1)) (s' : ByteArray) : asN (l ++ [(s, y)]) s' = if s' = s then some y else asN l s' := by
  by_cases e : s' = s
  · subst e
    rw [if_pos rfl]
    have := asN_none.2 h
    unfold asN at this ⊢
    rw [List.find?_append, Option.map_eq_none_iff.1 this]
    simp
  · rw [if_neg e]
    unfold asN
    rw [List.find?_append]
    have e' : ¬ s = s' := fun h => e h.symm
    simp [e']
/-- The table of names given. -/
structure GvAt (W : World) (b : Nat) (l : List (ByteArray × ByteArray)) : Prop where
  ex : ∃ D, MapAt W b l.length D ∧ ∀ s, lookD D s = (asN l s).map fun y => tmV (y, 0) none 0 0
theorem GvAt.below {W W' : World} {b : Nat} {l : List (ByteArray × ByteArray)} (h : GvAt W b l) (hb : Below W.heap.size W W') : GvAt W' b l := by
  obtain ⟨D, hD, hl⟩ := h.ex
  exact ⟨D, hD.below hb, hl⟩
theorem GvAt.new (W : World) : GvAt (W.alloc (.map #[] 0)) W.heap.size [] := ⟨_, map_made W, fun s => look_none s⟩
/-- What was there stays, but for one block. -/
theorem MapAt.off {W W' : World} {b n B : Nat} {D : DataW Value} (h : MapAt W b n D) (hb : b ≠ B) (hk : ∀ q, q ≠ B → q < W.heap.size → W'.heap[q]? = W.heap[q]?) : MapAt W' b n D := by
  obtain ⟨es, cl, h1, h2, h3, h4⟩ := h
  exact ⟨es, cl, (hk b hb (Array.getElem?_eq_some_iff.1 h1).1).trans h1, h2, h3, h4⟩
theorem mem_inL {l : List ByteArray} {s : ByteArray} : inL l s = true ↔ s ∈ l := by
  unfold inL
  rw [List.any_eq_true]
  constructor
  · rintro ⟨x, hx, he⟩
    rw [← of_decide_eq_true he]; exact hx
  · intro h
    exact ⟨s, h, by simp⟩
/-- The namer in memory. -/
structure NSt (w0 : World) (keep : List ByteArray) (N kb gb : Nat) (l : List (ByteArray × ByteArray)) (n : Nat) (w : World) : Prop where
  low : Below w0.heap.size w0 w
  box : Box w N 57 #[.map (some kb), .map (some gb), .int .u64 n]
  kp : NmAt w kb keep.length keep
  gv : GvAt w gb l
  hN : w0.heap.size ≤ N
  hg : w0.heap.size ≤ gb
  ne : kb ≠ gb
theorem MapAt.notBox {W : World} {b n N : Nat} {D : DataW Value} {T : TypeId} {cs : Array Value} (h : MapAt W b n D) (hN : Box W N T cs) : b ≠ N := by
  rintro rfl
  obtain ⟨es, cl, h1, -⟩ := h
  have h2 : W.heap[b]? = some (.cells cs T (0, 0)) := hN
  rw [h2] at h1
  cases h1
theorem NSt.below {w0 w w' : World} {keep : List ByteArray} {N kb gb : Nat} {l : List (ByteArray × ByteArray)} {n : Nat} (h : NSt w0 keep N kb gb l n w) (hb : Below w.heap.size w w') : NSt w0 keep N kb gb l n w' :=
  ⟨h.low.trans (hb.mono h.low.size), h.box.below hb, h.kp.below hb, h.gv.below hb, h.hN, h.hg, h.ne⟩
theorem NSt.c0 {w0 w : World} {keep : List ByteArray} {N kb gb : Nat} {l : List (ByteArray × ByteArray)} {n : Nat} (h : NSt w0 keep N kb gb l n w) : w.cell? ⟨N, 0, none⟩ = some (.map (some kb)) := h.box.c 0
theorem NSt.c1 {w0 w : World} {keep : List ByteArray} {N kb gb : Nat} {l : List (ByteArray × ByteArray)} {n : Nat} (h : NSt w0 keep N kb gb l n w) : w.cell? ⟨N, 1, none⟩ = some (.map (some gb)) := h.box.c 1
theorem NSt.c2 {w0 w : World} {keep : List ByteArray} {N kb gb : Nat} {l : List (ByteArray × ByteArray)} {n : Nat} (h : NSt w0 keep N kb gb l n w) : w.cell? ⟨N, 2, none⟩ = some (.int .u64 n) := h.box.c 2
/-- Another number. -/
theorem NSt.num {w0 w : World} {keep : List ByteArray} {N kb gb : Nat} {l : List (ByteArray × ByteArray)} {n : Nat} (h : NSt w0 keep N kb gb l n w) (m : Nat) : NSt w0 keep N kb gb l m (w.setCell ⟨N, 2, none⟩ (.int .u64 m)) := by
  have hk : ∀ q, q ≠ N → q < w.heap.size → (w.setCell ⟨N, 2, none⟩ (.int .u64 m)).heap[q]? = w.heap[q]? := fun q hq _ => Below.heap_setCell w _ _ q hq
  obtain ⟨D, hD, hl⟩ := h.kp.ex
  obtain ⟨E, hE, hm⟩ := h.gv.ex
  exact ⟨h.low.setCell (p := ⟨N, 2, none⟩) h.hN _, h.box.set 2 _, ⟨D, hD.off (hD.notBox h.box) hk, hl⟩, ⟨E, hE.off (hE.notBox h.box) hk, hm⟩, h.hN, h.hg, h.ne⟩
/-- A name is given. -/
theorem NSt.give {w0 w : World} {keep : List ByteArray} {N kb gb : Nat} {l : List (ByteArray × ByteArray)} {n : Nat} (h : NSt w0 keep N kb gb l n w) (s y : ByteArray) (hs : s.size ≤ maxLen) (hl : l.length < maxLen) (hn : s ∉ l.map (·.1)) :
    ∃ W', (Instr.mapUpdate 54 (.map (some gb)) (.string s) (.agg #[.string y, .int .i64 0, .slice none 0 0])).run Tryz.prog w = .ok () W' ∧ NSt w0 keep N kb gb (l ++ [(s, y)]) n W' := by
  obtain ⟨D, hD, hd⟩ := h.kp.ex
  obtain ⟨E, hE, he⟩ := h.gv.ex
  obtain ⟨W', h1, h2, h3⟩ := put_run hE hl s hs (.agg #[.string y, .int .i64 0, .slice none 0 0])
  have hk : ∀ q, q ≠ gb → q < w.heap.size → W'.heap[q]? = w.heap[q]? := fun q hq hlt => h3.block q hlt (fun e => hq (Option.some.inj e))
  refine ⟨W', h1, ⟨⟨h3.os.trans h.low.os, h3.tape.trans h.low.tape, h3.output.trans h.low.output, Nat.le_trans h.low.size h3.size, fun q hq => ?_⟩, (hk N (fun e => hE.notBox h.box e.symm) h.box.lt).trans h.box, ⟨D, hD.off h.ne hk, hd⟩, ⟨_, by rw [List.length_append]; exact h2, fun s' => ?_⟩, h.hN, h.hg, h.ne⟩⟩
  · have := h.hg
    rw [hk q (by omega) (Nat.lt_of_lt_of_le hq h.low.size)]
    exact h.low.block q hq
  · rw [look_put hE.isMap, asN_snoc hn, he s']
    by_cases e : s' = s
    · simp [e, tmV]
    · simp [e]
end Go.Proofs.YtgcnjpiiofjljaaGreatDoor
/- What name does: a name is met. -/
namespace Go.Proofs.YtgcnjpiiofjljaaGreatDoor
open Go.RowKit Go.Deep Go.Maps

theorem nm_dec {u : Nat} : Lib.decDigits u = (nmB u).data.toList.tail := by simp [nmB]
theorem nm_size (u : Nat) (h : u < 18446744073709551616) : (nmB u).size ≤ maxLen := by
  have hl : (Lib.decDigits u).length ≤ 20 := by
    rw [Lib.decDigits_length]
    by_cases h1 : 1 ≤ u
    · have := Lib.numDigits_eq u h1 h; split at this <;> omega
    · obtain rfl : u = 0 := by omega
      decide +kernel
  show (95 :: Lib.decDigits u).toArray.size ≤ maxLen
  rw [List.size_toArray, List.length_cons]
  unfold maxLen; omega
theorem results_none {fn : Func} (h : fn.results = #[]) (tmps : Array Value) (P : Program) (w : World) : (results fn tmps).run P w = .ok (.tuple #[]) w := by
  simp [results, h]
def nxN (N : Nat) (W : World) : Nat := match W.cell? ⟨N, 2, none⟩ with | some (.int _ z) => z.toNat | _ => 0
theorem nxN_box {N : Nat} {W : World} {a b : Value} {k : IntKind} {n : Nat} (h : Box W N 57 #[a, b, .int k n]) : nxN N W = n := by
  unfold nxN
  rw [h.c 2]
  simp
set_option maxRecDepth 100000 in
set_option maxHeartbeats 4000000 in
theorem name_any {w0 w : World} {keep : List ByteArray} {N kb gb : Nat} {l : List (ByteArray × ByteArray)} {n : Nat} (old : ByteArray) (inj : ∀ a b, nmB a = nmB b → a = b) (h : NSt w0 keep N kb gb l n w) (hstd : Std w0) (hw0 : 0 < w0.heap.size) (hs : old.size ≤ maxLen) (hn : n + keep.length + 1 < 9223372036854775807) (hl : l.length < maxLen) :
    Calls Tryz.prog 38 #[.pointer (some ⟨N, 0, none⟩), .string old] w fun e w' => e = .returned (.tuple #[]) ∧ NSt w0 keep N kb gb (nameP keep nmB (l, n) old).1 (nameP keep nmB (l, n) old).2 w' := by
  have HS := hid h
  have HI := hid inj
  obtain ⟨D, hD, hd⟩ := h.gv.ex
  have hrun := look_run hD old hs
  have c0 := h.box.c 0; have c1 := h.box.c 1; have c2 := h.box.c 2
  have HST := hid hstd
  clear h hD inj hstd
  by_cases hm : old ∈ l.map (·.1)
  · obtain ⟨y, hy⟩ : ∃ y, asN l old = some y := by
      cases e : asN l old with
      | none => exact absurd hm (asN_none.1 e)
      | some y => exact ⟨y, rfl⟩
    rw [hd old, hy, Option.map_some] at hrun
    rw [show nameP keep nmB (l, n) old = (l, n) by unfold nameP; rw [if_pos (.inl hm)]]
    simp only [Option.getD_some, Option.isSome_some, tmV] at hrun
    clear hd hy
    go_enter Tryz.func38, Tryz.ntmps38
    go_wp2_with fail
    refine bodyPost_ret (results_none rfl _ _ _) rfl ?_
    exact ⟨rfl, HS.out.below (alloc_below0 _ _)⟩
  · rw [hd old, asN_none.2 hm, Option.map_none] at hrun
    simp only [Option.getD_none, Option.isSome_none, zTm] at hrun
    have HH := hid fun (s : ByteArray) (hs : s.size ≤ maxLen) (W : World) (hW : NmAt W kb keep.length keep) => has_any kb keep.length keep s W hW hs
    have HS0 := hid (HS.out.below (alloc_below0 w (.cells #[.string ⟨#[]⟩, .int .i64 0, .slice none 0 0] 27)))
    have k0 := HS0.out.box.c 0; have k1 := HS0.out.box.c 1; have k2 := HS0.out.box.c 2
    clear hd
    cases hk : inL keep old with
    | true =>
      have hk2 := mem_inL.1 hk
      rw [show nameP keep nmB (l, n) old = (l, n) by unfold nameP; rw [if_pos (.inr hk2)]]
      go_enter Tryz.func38, Tryz.ntmps38
      go_wp2_with (go_at_call 53; refine (HH.out old hs _ HS0.out.kp).mono ?_; rintro e w1 ⟨rfl, hb1⟩; rw [hk])
      refine bodyPost_ret (results_none rfl _ _ _) rfl ?_
      exact ⟨rfl, HS0.out.below hb1⟩
    | false =>
      have hk2 : old ∉ keep := fun hm2 => by rw [mem_inL.2 hm2] at hk; cases hk
      have hnl := nxt_le keep nmB n
      rw [show nameP keep nmB (l, n) old = (l ++ [(old, nmB (nxt keep nmB n))], nxt keep nmB n + 1) by unfold nameP; rw [if_neg (fun h => h.elim hm hk2)]]
      obtain ⟨M, hM⟩ : ∃ M, nxt keep nmB n = M := ⟨_, rfl⟩
      rw [hM] at hnl ⊢
      have HM := hid hM
      have HMM := hid hm
      clear hM hm hk2
      go_enter Tryz.func38, Tryz.ntmps38
      go_wp2_with (go_at_call 53; refine (HH.out old hs _ HS0.out.kp).mono ?_; rintro e w1 ⟨rfl, hb1⟩; rw [hk]; have HS1 := hid (HS0.out.below hb1))
      clear hrun c0 c1 c2 HS hb1 k0 k1 k2 HS0
      go_loopw [] (fun W => ∃ j : Nat, n ≤ j ∧ j ≤ M ∧ NSt w0 keep N kb gb l j W) (fun W => M - nxN N W)
      case atStart => exact ⟨n, Nat.le_refl _, by rw [← HM.out]; exact nxt_ge keep nmB n, HS1.out⟩
      case round =>
        obtain ⟨j, hj1, hj2, hS⟩ := hrel
        have HSR := hid hS
        have f2 := hS.box.f 2
        have HNX := hid (nxN_box hS.box)
        have hsz := nm_size j (by omega)
        have HST1 := hid (HST.out.below HSR.out.low hw0)
        obtain ⟨bv, hbv⟩ : ∃ bv, inL keep (nmB j) = bv := ⟨_, rfl⟩
        have H53 := hid (HH.out _ hsz)
        rw [hbv] at H53
        have HBV := hid hbv
        clear HS1 HH hsz hbv
        have r0 := later_cell hS.c0; have r2 := later_cell hS.c2
        have hne := later_some wr
        clear hS
        go_wp2_with fail
        refine wp_region_later (by kernel_rfl) (by kernel_rfl) ?_
        repeat (go_big_quiet_step (first
          | (go_at_call 54; refine calls_later (numbered_any j (by omega) _ ?_); exact HST1.out.below (Later.below _) (by have := HSR.out.low.size; omega))
          | (go_at_call 53; refine calls_later (H53.out _ ?_); exact HSR.out.kp.below (Later.below _))
          | fail))
        refine wpQuiet_nil ?_
        intro _ hw'
        obtain ⟨b3, hw''⟩ := hw'
        subst hw''
        have HS3 := hid (HSR.out.below b3.below)
        have HNX3 := hid (nxN_box HS3.out.box)
        have c2 := HS3.out.c2; have f2' := HS3.out.box.f 2
        clear r0 r2 hne H53 HST1 f2
        generalize b3.now = V at HS3 HNX3 c2 f2' ⊢
        cases bv with
        | true =>
          have hmem := mem_inL.1 HBV.out
          have hjm := nxt_more HI.out (by rw [HM.out]; exact hj2) hmem
          rw [HM.out] at hjm
          have hwr : IntKind.u64.wrap ((j : Int) + 1) = ((j + 1 : Nat) : Int) := by rw [IntKind.wrap_u64]; omega
          have HS4 := hid (HS3.out.num (j + 1))
          go_wp2_with fail
          go_roundw
          case rel => exact ⟨j + 1, by omega, hjm, HS4.out⟩
          case measure => rw [HNX.out, show nxN N (V.setCell ⟨N, 2, none⟩ (.int .u64 ((j : Int) + 1))) = j + 1 from nxN_box HS4.out.box]; omega
        | false =>
          have hnm : nmB j ∉ keep := fun hm2 => by have := mem_inL.2 hm2; rw [HBV.out] at this; cases this
          have hjM : j = M := by rw [← HM.out]; exact nxt_stop hj1 (by rw [HM.out]; exact hj2) hnm
          subst hjM
          have c1 := HS3.out.c1
          have HST3 := hid (HST.out.below HS3.out.low hw0)
          have hwr : IntKind.u64.wrap ((j : Int) + 1) = ((j + 1 : Nat) : Int) := by rw [IntKind.wrap_u64]; omega
          clear HSR HNX HNX3 HST
          go_upto_region 4 with fail
          go_region_with (first
            | (go_at_call 54; refine (numbered_any j (by omega) _ (HST3.out.below (Below.drew (Below.refl _ V)) (by have := HS3.out.low.size; omega))).mono ?_; rintro e w2 ⟨rfl, hb2⟩; have HS5 := hid ((HS3.out.below (Below.drew (Below.refl _ V))).below hb2); have d1 := HS5.out.c1; obtain ⟨W', hput, hS6⟩ := HS5.out.give old (nmB j) hs hl HMM.out; have HS6 := hid hS6; have e2 := HS6.out.c2; have g2 := HS6.out.box.f 2; have HS7 := hid (HS6.out.num (j + 1)); clear hS6 hb2)
            | fail)
          all_goals
            go_wp2_with fail
            refine bodyPost_end (results_none rfl _ _ _) rfl ?_
            exact ⟨rfl, HS7.out⟩
end Go.Proofs.YtgcnjpiiofjljaaGreatDoor
/- What nameAll does: the names of a term, from left to right. -/
namespace Go.Proofs.YtgcnjpiiofjljaaGreatDoor
open Go.RowKit Go.Deep Go.Maps

/-- The names as they are met. -/
def occF : Fo → List ByteArray
  | .nil => []
  | .node _ _ x l r => (if noName x.1 = true then occF l else [x.1]) ++ occF r
def occN (x : ByteArray × Int) (l : Fo) : List ByteArray := if noName x.1 = true then occF l else [x.1]
theorem occN_node {x : ByteArray × Int} {l : Fo} (h : noName x.1 = true) : occN x l = occF l := if_pos h
def occs (y : Tn) : List ByteArray := occN y.1 y.2
theorem occF_kids : ∀ F : Fo, occF F = (kidsL F).flatMap occs
  | .nil => rfl
  | .node _ _ x l r => by
    simp only [occF, kidsL, List.flatMap_cons]
    rw [occF_kids r]
    rfl
theorem occF_len : ∀ F : Fo, (occF F).length ≤ nodesF F
  | .nil => Nat.le_refl _
  | .node _ _ x l r => by
    have h1 := occF_len l
    have h2 := occF_len r
    simp only [occF, nodesF, List.length_append]
    split
    · omega
    · simp only [List.length_cons, List.length_nil]; omega
theorem occN_len (x : ByteArray × Int) (l : Fo) : (occN x l).length ≤ nodesF l + 1 := by
  have := occF_len l
  unfold occN
  split
  · omega
  · simp
/-- Bounds of what is given. -/
theorem nameP_len (keep : List ByteArray) (st : List (ByteArray × ByteArray) × Nat) (s : ByteArray) : (nameP keep nmB st s).1.length ≤ st.1.length + 1 ∧ (nameP keep nmB st s).2 ≤ st.2 + keep.length + 1 := by
  have := nxt_le keep nmB st.2
  unfold nameP
  split
  · exact ⟨by omega, by omega⟩
  · exact ⟨by simp, by show nxt keep nmB st.2 + 1 ≤ _; omega⟩
theorem fold_len (keep : List ByteArray) : ∀ (occ : List ByteArray) (st : List (ByteArray × ByteArray) × Nat), (occ.foldl (nameP keep nmB) st).1.length ≤ st.1.length + occ.length ∧ (occ.foldl (nameP keep nmB) st).2 ≤ st.2 + occ.length * (keep.length + 1)
  | [], st => ⟨by simp, by simp⟩
  | s :: r, st => by
    have h1 := nameP_len keep st s
    have h2 := fold_len keep r (nameP keep nmB st s)
    rw [List.foldl_cons, List.length_cons, Nat.succ_mul]
    omega
theorem flat_take {α β : Type} (f : α → List β) : ∀ (l : List α) (j : Nat), ((l.take j).flatMap f).length ≤ (l.flatMap f).length
  | [], j => by simp
  | x :: r, 0 => by simp
  | x :: r, j + 1 => by
    have := flat_take f r j
    simp only [List.take_succ_cons, List.flatMap_cons, List.length_append]
    omega
def NallOk (keep : List ByteArray) (w0 : World) (N kb gb : Nat) (k : Nat) : Prop := ∀ (x : ByteArray × Int) (l : Fo) (a : Option Addr) (c : Nat) (g : List (ByteArray × ByteArray)) (n : Nat) (w : World), nodesF l ≤ k → TmAt w0 x a c l → NSt w0 keep N kb gb g n w → g.length + (occN x l).length ≤ 4194304 → n + (occN x l).length * (keep.length + 1) ≤ 1000000000000000000 →
  Calls Tryz.prog 22 #[.pointer (some ⟨N, 0, none⟩), .agg #[.string x.1, .int .i64 x.2, .slice a (lenF l) c]] w fun e w' => e = .returned (.tuple #[]) ∧ NSt w0 keep N kb gb ((occN x l).foldl (nameP keep nmB) (g, n)).1 ((occN x l).foldl (nameP keep nmB) (g, n)).2 w'
set_option maxRecDepth 100000 in
set_option maxHeartbeats 4000000 in
theorem nall_all {keep : List ByteArray} {w0 : World} {N kb gb : Nat} (inj : ∀ a b, nmB a = nmB b → a = b) (hstd : Std w0) (hw0 : 0 < w0.heap.size) : ∀ k, NallOk keep w0 N kb gb k := by
  intro k
  induction k using Nat.strongRecOn with
  | _ k ih =>
    intro x l a c g n w hk hT hS h1 h2
    have HT := hid hT; have HS0 := hid (hS.below (alloc_below0 w (.cells #[.string x.1, .int .i64 x.2, .slice a (lenF l) c] 27)))
    have IH : Hid (∀ j, j < k → NallOk keep w0 N kb gb j) := ih
    have hfew := hT.sizes.few
    have hlc := hT.sizes.len; have hcm := hT.sizes.cap
    have hmax : maxLen = 9223372036854775807 := rfl
    have hnm := hT.sizes.name
    have T0 := TBox.new w x a (lenF l) c
    have z0 := T0.c0; have z2 := T0.c2
    have HIN := hid inj; have HSD := hid hstd
    clear hT hS ih T0 inj hstd
    cases hnn : noName x.1 with
    | false =>
      have hnm' : x.1.toList.isEmpty = false := hnn
      have ho : occN x l = [x.1] := by unfold occN; rw [if_neg (by rw [hnn]; decide)]
      rw [ho] at h1 h2 ⊢
      simp only [List.length_cons, List.length_nil] at h1 h2
      go_enter Tryz.func22, Tryz.ntmps22
      go_wp2_with (go_at_call 38; refine (name_any x.1 HIN.out HS0.out HSD.out hw0 hnm (by omega) (by omega)).mono ?_; rintro e w1 ⟨rfl, hS1⟩)
      refine bodyPost_ret (results_none rfl _ _ _) rfl ?_
      exact ⟨rfl, hS1⟩
    | true =>
      have hnm' : x.1.toList.isEmpty = true := hnn
      have ho : occN x l = (kidsL l).flatMap occs := by rw [occN_node hnn, occF_kids]
      rw [ho] at h1 h2 ⊢
      have H12 : Hid (g.length + ((kidsL l).flatMap occs).length ≤ 4194304 ∧ n + ((kidsL l).flatMap occs).length * (keep.length + 1) ≤ 1000000000000000000) := hid ⟨h1, h2⟩
      clear h1 h2 ho
      go_enter Tryz.func22, Tryz.ntmps22
      go_wp2_with fail
      clear z0 z2
      go_loopw [16] (fun iv wr => ∃ (j : Nat) (st : List (ByteArray × ByteArray) × Nat), j ≤ lenF l ∧ iv = .int .i64 j ∧ st = (((kidsL l).take j).flatMap occs).foldl (nameP keep nmB) (g, n) ∧ NSt w0 keep N kb gb st.1 st.2 wr) (fun iv _ => lenF l - (intOf iv).toNat)
      case atStart => exact ⟨0, (g, n), Nat.zero_le _, rfl, rfl, HS0.out⟩
      case round =>
        obtain ⟨j, st, hj, rfl, hst, hS⟩ := hrel
        by_cases hlt : j < lenF l
        · obtain ⟨bb, oo, rfl, hkk⟩ := HT.out.args.get (by omega)
          obtain ⟨y, a1, c1, l1, kd⟩ := hkk.kid (k := j) hlt
          have kd' := kd.below hS.low
          have p0 := kd'.name; have p1 := kd'.sym; have p2 := kd'.list
          obtain ⟨B1', O1', sp⟩ := kd.split
          have htk := kids_take sp
          have hlen := flat_take occs (kidsL l) (j + 1)
          rw [htk, List.flatMap_append, List.length_append, List.flatMap_cons, List.flatMap_nil, List.append_nil] at hlen
          have hfl := fold_len keep (((kidsL l).take j).flatMap occs) (g, n)
          rw [← hst] at hfl
          have hb := H12.out
          have hoc : occs (y, l1) = occN y l1 := rfl
          rw [hoc] at hlen
          have e2 : (((kidsL l).take j).flatMap occs).length * (keep.length + 1) + (occN y l1).length * (keep.length + 1) ≤ ((kidsL l).flatMap occs).length * (keep.length + 1) := by
            rw [← Nat.add_mul]; exact Nat.mul_le_mul_right _ hlen
          have HC := hid (IH.out (nodesF l1) (by have := kd.less; omega) y l1 a1 c1 st.1 st.2 (wr.alloc (.cells #[.string y.1, .int .i64 y.2, .slice a1 (lenF l1) c1] 27)) (Nat.le_refl _) kd.at_ (hS.below (alloc_below0 _ _)) (by dsimp only at hfl; omega) (by dsimp only at hfl; omega))
          have HTK := hid htk; have HST := hid hst
          clear hlen hfl hb e2 kd kd' hkk htk hst hS
          go_wp2_with (go_at_call 22; refine HC.out.mono ?_; rintro e w2 ⟨rfl, hS2⟩; have HS2 := hid hS2; clear hS2)
          go_roundw
          case rel =>
            refine ⟨j + 1, _, by omega, by go_num, ?_, HS2.out⟩
            rw [HTK.out, List.flatMap_append, List.foldl_append, ← HST.out, List.flatMap_cons, List.flatMap_nil, List.append_nil]
            rfl
          case measure => simp [intOf]; omega
        · have e1 : j = lenF l := by omega
          have ht : (kidsL l).take j = kidsL l := List.take_of_length_le (by rw [kids_len]; omega)
          rw [ht] at hst
          have HSX := hid hS; have HSE := hid hst
          clear hS hst
          go_wp2_with fail
          refine bodyPost_end (results_none rfl _ _ _) rfl ?_
          rw [← HSE.out]
          exact ⟨rfl, HSX.out⟩
end Go.Proofs.YtgcnjpiiofjljaaGreatDoor
/- What the document's Compare answers of any two terms; Same. -/
namespace Go.Proofs.YtgcnjpiiofjljaaGreatDoor
open Go.RowKit Go.Deep

theorem lt_bytes : ∀ a b : List UInt8, a < b ↔ Lib.compareBytes a b = -1
  | [], [] => by simp [Lib.compareBytes]
  | [], _ :: _ => by simp [Lib.compareBytes]
  | _ :: _, [] => by simp [Lib.compareBytes]
  | a :: u, b :: v => by
    have ih := lt_bytes u v
    rw [List.cons_lt_cons_iff, Lib.compareBytes, ih]
    by_cases h1 : a < b
    · simp [h1]
    · by_cases h2 : b < a
      · have : a ≠ b := fun e => by subst e; exact absurd h2 h1
        simp [h1, h2, this]
      · have h1' : ¬ a.toNat < b.toNat := fun h => h1 (UInt8.lt_iff_toNat_lt.2 h)
        have h2' : ¬ b.toNat < a.toNat := fun h => h2 (UInt8.lt_iff_toNat_lt.2 h)
        have : a = b := UInt8.toNat_inj.1 (by omega)
        simp [this]
theorem bytes_less (x y : ByteArray) : Op.bytesLess x.toList y.toList = decide (cmpS x y = -1) := by
  rw [bytesLess_eq, ByteArray.toList_eq, ByteArray.toList_eq]
  exact decide_eq_decide.2 (lt_bytes _ _)
theorem cmpS_three (x y : ByteArray) : cmpS x y = if Op.bytesLess x.toList y.toList = true then -1 else if (x.toList == y.toList) = true then 0 else 1 := by
  rw [bytes_less, ByteArray.toList_eq, ByteArray.toList_eq]
  unfold cmpS
  have hr : Lib.compareBytes x.data.toList y.data.toList = -1 ∨ Lib.compareBytes x.data.toList y.data.toList = 0 ∨ Lib.compareBytes x.data.toList y.data.toList = 1 := by
    have : ∀ a b : List UInt8, -1 ≤ Lib.compareBytes a b ∧ Lib.compareBytes a b ≤ 1 := by
      intro a
      induction a with
      | nil => intro b; cases b <;> simp [Lib.compareBytes]
      | cons p u ih =>
        intro b
        cases b with
        | nil => simp [Lib.compareBytes]
        | cons q v =>
          have := ih v
          rw [Lib.compareBytes]
          split
          · omega
          · split <;> omega
    have := this x.data.toList y.data.toList
    omega
  by_cases e : x.data.toList = y.data.toList
  · rw [e, bytes_refl]; simp
  · have h0 : Lib.compareBytes x.data.toList y.data.toList ≠ 0 := fun h => e (bytes_zero h)
    rcases hr with h | h | h
    · simp [h]
    · exact absurd h h0
    · simp only [h]
      have : (x.data.toList == y.data.toList) = false := by simpa using e
      rw [this]; rfl
def RCmpOk (k : Nat) : Prop := ∀ (x y : ByteArray × Int) (a a' : Option Addr) (c c' : Nat) (l m : Fo) (w : World), nodesF l ≤ k → TmAt w x a c l → TmAt w y a' c' m →
  Calls Tryz.prog 49 #[.agg #[.string x.1, .int .i64 x.2, .slice a (lenF l) c], .agg #[.string y.1, .int .i64 y.2, .slice a' (lenF m) c']] w
    fun e w' => e = .returned (.int .i64 (cmp1 x y (lenF l) (lenF m) (cmpF l m))) ∧ Below w.heap.size w w'

set_option maxRecDepth 100000 in
set_option maxHeartbeats 2000000 in
theorem rcompare_all : ∀ k, RCmpOk k := by
  intro k
  induction k using Nat.strongRecOn with
  | _ k ih =>
    intro x y a a' c c' l m w hk hA hB
    have HA : Hid (TmAt w x a c l) := hA
    have HB : Hid (TmAt w y a' c' m) := hB
    have IH : Hid (∀ j, j < k → RCmpOk j) := ih
    have hmax : maxLen = 9223372036854775807 := rfl
    have hs1 := hA.sizes.len
    have hs2 := hA.sizes.cap
    have PA : Hid (Pair w x a (lenF l) c y a' (lenF m) c' ((w.alloc (.cells #[.string x.1, .int .i64 x.2, .slice a (lenF l) c] 27)).alloc (.cells #[.string y.1, .int .i64 y.2, .slice a' (lenF m) c'] 27))) := Pair.new _ _ _ _ _ _ _ _ _
    clear hA hB ih
    cases hx : x.1.toList.isEmpty <;> cases hy : y.1.toList.isEmpty
    · have hr : Hid (cmp1 x y (lenF l) (lenF m) (cmpF l m) = cmpS x.1 y.1) := by show _ = _; unfold cmp1 noName; rw [hx, hy]; rfl
      have hS := cmpS_three x.1 y.1
      cases h1 : Op.bytesLess x.1.toList y.1.toList
      · cases h2 : (x.1.toList == y.1.toList)
        · rw [h1, h2] at hS
          go_enter Tryz.func49, Tryz.ntmps49
          go_wp2
          go_ret
          exact ⟨by rw [hr.out, hS]; rfl, PA.out.low⟩
        · rw [h1, h2] at hS
          go_enter Tryz.func49, Tryz.ntmps49
          go_wp2
          go_ret
          exact ⟨by rw [hr.out, hS]; rfl, PA.out.low⟩
      · rw [h1] at hS
        go_enter Tryz.func49, Tryz.ntmps49
        go_wp2
        go_ret
        exact ⟨by rw [hr.out, hS]; rfl, PA.out.low⟩
    · have hr : Hid (cmp1 x y (lenF l) (lenF m) (cmpF l m) = -1) := by show _ = _; unfold cmp1 noName cmpS; rw [hx, hy]; rfl
      go_enter Tryz.func49, Tryz.ntmps49
      go_wp2
      go_ret
      exact ⟨by rw [hr.out]; rfl, PA.out.low⟩
    · have hr : Hid (cmp1 x y (lenF l) (lenF m) (cmpF l m) = 1) := by show _ = _; unfold cmp1 noName cmpS; rw [hx, hy]; rfl
      go_enter Tryz.func49, Tryz.ntmps49
      go_wp2
      go_ret
      exact ⟨by rw [hr.out]; rfl, PA.out.low⟩
    · cases hs : (x.2 != y.2)
      · cases hn : ((lenF l : Int) != (lenF m : Int))
        · have hr : Hid (cmp1 x y (lenF l) (lenF m) (cmpF l m) = cmpF l m) := by
            show _ = _; unfold cmp1 noName cmpS; rw [hx, hy]; simp at hs hn; simp [hs]; omega
          have hlm : Hid (lenF m = lenF l) := by show _ = _; simp at hn; omega
          go_enter Tryz.func49, Tryz.ntmps49
          go_wp2
          go_loopw [5, 6] (fun i _ wr => ∃ j : Nat, j ≤ lenF l ∧ i = .int .i64 j ∧ Pair w x a (lenF l) c y a' (lenF m) c' wr ∧ cmpF l m = cmpF (dropF j l) (dropF j m)) (fun i _ _ => lenF l - (intOf i).toNat)
          case atStart => exact ⟨0, Nat.zero_le _, rfl, PA.out, by rw [drop_zero, drop_zero]⟩
          case round =>
            obtain ⟨j, hj, rfl, hP, hcmp⟩ := hrel
            have t2 := hP.l.c2
            by_cases hlt : j < lenF l
            · obtain ⟨b1, o1, rfl, hk1⟩ := HA.out.args.get (by omega)
              obtain ⟨b2, o2, rfl, hk2⟩ := HB.out.args.get (by have := hlm.out; omega)
              obtain ⟨z, a1, c1, l1, kd⟩ := hk1.kid (k := j) hlt
              obtain ⟨z', a2, c2, l2, kd2⟩ := hk2.kid (k := j) (by have := hlm.out; omega)
              have kd' := kd.below hP.low
              have kd2' := kd2.below hP.low
              have HP : Hid (Pair w x (some ⟨b1, o1, none⟩) (lenF l) c y (some ⟨b2, o2, none⟩) (lenF m) c' wr) := hP
              have hC : Hid (∀ w', Below wr.heap.size wr w' → Calls Tryz.prog 49 #[.agg #[.string z.1, .int .i64 z.2, .slice a1 (lenF l1) c1], .agg #[.string z'.1, .int .i64 z'.2, .slice a2 (lenF l2) c2]] w' fun e w'' => e = .returned (.int .i64 (cmp1 z z' (lenF l1) (lenF l2) (cmpF l1 l2))) ∧ Below w'.heap.size w' w'') := fun w' hb =>
                IH.out (nodesF l1) (by have := kd.less; omega) z z' a1 a2 c1 c2 l1 l2 w' (Nat.le_refl _) (kd'.at_.below hb) (kd2'.at_.below hb)
              obtain ⟨B1, O1, s1⟩ := kd.split
              obtain ⟨B2, O2, s2⟩ := kd2.split
              rw [s1, s2, cmpF] at hcmp
              have HC : Hid (cmpF l m = thenC (cmp1 z z' (lenF l1) (lenF l2) (cmpF l1 l2)) (cmpF (dropF (j + 1) l) (dropF (j + 1) m))) := hcmp
              have hne := later_some wr
              have d0 := later_cell hP.l.c2
              have d1 := later_cell hP.r.c2
              have p0 := later_cell kd'.name; have p1 := later_cell kd'.sym; have p2 := later_cell kd'.list
              have q0 := later_cell kd2'.name; have q1 := later_cell kd2'.sym; have q2 := later_cell kd2'.list
              have hk0 : (0 : Int) ≤ (j : Int) := by omega
              have hkn : (j : Int) < (lenF l : Int) := by omega
              have hkm : (j : Int) < (lenF m : Int) := by have := hlm.out; omega
              clear kd kd2 kd' kd2' hk1 hk2 hP hcmp s1 s2
              go_wp2_with fail
              refine wp_region_later (by kernel_rfl) (by kernel_rfl) ?_
              repeat (go_big_quiet_step ((refine calls_later (hC.out _ ?_); exact Later.below _)))
              refine wpQuiet_nil ?_
              intro _ hw'
              obtain ⟨bl, hw''⟩ := hw'
              subst hw''
              have HP2 : Hid (Pair w x (some ⟨b1, o1, none⟩) (lenF l) c y (some ⟨b2, o2, none⟩) (lenF m) c' bl.now) := HP.out.below bl.below
              clear d0 d1 p0 p1 p2 q0 q1 q2 t2
              cases hz : (cmp1 z z' (lenF l1) (lenF l2) (cmpF l1 l2) != 0)
              · go_wp2
                go_roundw
                case rel => exact ⟨j + 1, by omega, by go_num, HP2.out, by rw [HC.out]; unfold thenC; rw [if_pos (by simpa using hz)]⟩
                case measure => simp [intOf]; omega
              · go_wp2
                go_ret
                refine ⟨?_, HP2.out.low⟩
                rw [hr.out, HC.out]; unfold thenC; rw [if_neg (by simpa using hz)]; rfl
            · have hz : cmpF l m = 0 := by
                rw [hcmp, show j = lenF l by omega, drop_end]; rfl
              go_wp2
              go_ret
              exact ⟨by rw [hr.out, hz]; rfl, hP.low⟩
        · have hr : Hid (cmp1 x y (lenF l) (lenF m) (cmpF l m) = Lib.compareInt (lenF l) (lenF m)) := by
            show _ = _; unfold cmp1 noName cmpS; rw [hx, hy]; simp at hs hn; simp [hs]; omega
          have hne : lenF l ≠ lenF m := by simp at hn; omega
          by_cases h1 : lenF l < lenF m
          · go_enter Tryz.func49, Tryz.ntmps49
            go_wp2
            go_ret
            refine ⟨?_, PA.out.low⟩
            rw [hr.out]; unfold Lib.compareInt; rw [if_pos (by omega)]; rfl
          · go_enter Tryz.func49, Tryz.ntmps49
            go_wp2
            go_ret
            refine ⟨?_, PA.out.low⟩
            rw [hr.out]; unfold Lib.compareInt; rw [if_neg (by omega), if_pos (by omega)]; rfl
      · have hr : Hid (cmp1 x y (lenF l) (lenF m) (cmpF l m) = Lib.compareInt x.2 y.2) := by
          show _ = _; unfold cmp1 noName cmpS; rw [hx, hy]; simp at hs; simp [hs]
        have hne : x.2 ≠ y.2 := by simpa using hs
        by_cases h1 : x.2 < y.2
        · go_enter Tryz.func49, Tryz.ntmps49
          go_wp2
          go_ret
          refine ⟨?_, PA.out.low⟩
          rw [hr.out]; unfold Lib.compareInt; rw [if_pos h1]; rfl
        · go_enter Tryz.func49, Tryz.ntmps49
          go_wp2
          go_ret
          refine ⟨?_, PA.out.low⟩
          rw [hr.out]; unfold Lib.compareInt; rw [if_neg (by omega), if_pos (by omega)]; rfl

end Go.Proofs.YtgcnjpiiofjljaaGreatDoor
/- Names rising, each once: there is but one such list of the same names. -/
namespace Go.Proofs.YtgcnjpiiofjljaaGreatDoor
open Go.RowKit Go.Deep

abbrev Nm := List UInt8
theorem Tryz.info9 : (Tryz.prog.info? 9).map (fun i => (i.zero, i.size, i.bytes)) = some (some (.string ⟨#[]⟩), 1, 16) := by kernel_rfl
def sortL (l : List (List UInt8)) : List (List UInt8) := l.mergeSort fun x y => decide (x ≤ y)
def LtN (a b : Nm) : Prop := Lib.compareBytes a b = -1
theorem nm_range : ∀ a b : Nm, Lib.compareBytes a b = -1 ∨ Lib.compareBytes a b = 0 ∨ Lib.compareBytes a b = 1
  | [], [] => by simp [Lib.compareBytes]
  | [], _ :: _ => by simp [Lib.compareBytes]
  | _ :: _, [] => by simp [Lib.compareBytes]
  | a :: u, b :: v => by
    have := nm_range u v
    rw [Lib.compareBytes]
    split
    · omega
    · split <;> omega
theorem ltN_irrefl (a : Nm) : ¬ LtN a a := fun h => by have := bytes_refl a; unfold LtN at h; omega
theorem ltN_trans {a b c : Nm} (h : LtN a b) (k : LtN b c) : LtN a c := by
  unfold LtN at *
  have := (bytes_cons a b c).lt (by omega) (by omega)
  have := nm_range a c
  omega
theorem ltN_asymm {a b : Nm} (h : LtN a b) : ¬ LtN b a := fun k => ltN_irrefl a (ltN_trans h k)
theorem ltN_total {a b : Nm} (h1 : ¬ LtN a b) (h2 : a ≠ b) : LtN b a := by
  unfold LtN at *
  have := nm_range a b
  have := bytes_anti a b
  have : Lib.compareBytes a b ≠ 0 := fun h => h2 (bytes_zero h)
  omega
/-- Strictly rising. -/
def SS (l : List Nm) : Prop := l.Pairwise LtN
theorem ss_unique : ∀ (l m : List Nm), SS l → SS m → (∀ x, x ∈ l ↔ x ∈ m) → l = m
  | [], [], _, _, _ => rfl
  | [], b :: m, _, _, h => absurd ((h b).2 (by simp)) (by simp)
  | a :: l, [], _, _, h => absurd ((h a).1 (by simp)) (by simp)
  | a :: l, b :: m, hl, hm, h => by
    obtain ⟨ha, hl'⟩ := List.pairwise_cons.1 hl
    obtain ⟨hb, hm'⟩ := List.pairwise_cons.1 hm
    have e : a = b := by
      rcases List.mem_cons.1 ((h a).1 (by simp)) with e | e
      · exact e
      · rcases List.mem_cons.1 ((h b).2 (by simp)) with e' | e'
        · exact e'.symm
        · exact absurd (hb a e) (ltN_asymm (ha b e'))
    subst e
    rw [ss_unique l m hl' hm' (fun x => ?_)]
    constructor
    · intro hx
      rcases List.mem_cons.1 ((h x).1 (by simp [hx])) with e | e
      · subst e; exact absurd (ha x hx) (ltN_irrefl x)
      · exact e
    · intro hx
      rcases List.mem_cons.1 ((h x).2 (by simp [hx])) with e | e
      · subst e; exact absurd (hb x hx) (ltN_irrefl x)
      · exact e

theorem compact_is (d : Array Nm) (hs : ∀ i j, i < j → j < d.size → ¬ LtN d[j]! d[i]!) : ∀ m, m ≤ d.size → SS (Lib.compactUpTo d m) ∧ (∀ x, x ∈ Lib.compactUpTo d m ↔ ∃ j, j < m ∧ d[j]! = x)
  | 0, _ => ⟨by simp [Lib.compactUpTo, SS], by simp [Lib.compactUpTo]⟩
  | m + 1, hm => by
    obtain ⟨h1, h2⟩ := compact_is d hs m (by omega)
    rw [Lib.compactUpTo_succ]
    cases hk : Lib.keeps d m
    · simp only [Bool.false_eq_true, if_false, List.append_nil]
      refine ⟨h1, fun x => (h2 x).trans ⟨fun ⟨j, hj, e⟩ => ⟨j, by omega, e⟩, fun ⟨j, hj, e⟩ => ?_⟩⟩
      rcases Nat.lt_succ_iff_lt_or_eq.1 hj with hj | rfl
      · exact ⟨j, hj, e⟩
      · unfold Lib.keeps at hk
        simp at hk
        exact ⟨j - 1, by omega, by rw [← e]; exact hk.2.symm⟩
    · simp only [if_true]
      constructor
      · refine List.pairwise_append.2 ⟨h1, by simp, fun a ha b hb => ?_⟩
        simp at hb
        subst hb
        obtain ⟨j, hj, e⟩ := (h2 a).1 ha
        subst e
        have hne : d[m]! ≠ d[m - 1]! := by
          unfold Lib.keeps at hk
          simp at hk
          rcases hk with hk | hk
          · omega
          · exact hk
        have hlast : LtN d[m - 1]! d[m]! := ltN_total (hs (m - 1) m (by omega) (by omega)) hne
        by_cases hj1 : j = m - 1
        · subst hj1; exact hlast
        · have := hs j (m - 1) (by omega) (by omega)
          by_cases he : d[j]! = d[m - 1]!
          · rw [he]; exact hlast
          · exact ltN_trans (ltN_total this (fun e => he e.symm)) hlast
      · intro x
        rw [List.mem_append, h2 x]
        simp only [List.mem_singleton]
        constructor
        · rintro (⟨j, hj, e⟩ | e)
          · exact ⟨j, by omega, e⟩
          · exact ⟨m, by omega, e.symm⟩
        · rintro ⟨j, hj, e⟩
          rcases Nat.lt_succ_iff_lt_or_eq.1 hj with hj | rfl
          · exact .inl ⟨j, hj, e⟩
          · exact .inr e.symm
theorem sort_pairwise (l : List Nm) : (sortL l).Pairwise (fun a b => ¬ LtN b a) := by
  have h := List.pairwise_mergeSort (le := fun x y : Nm => decide (x ≤ y)) (fun a b c hab hbc => ?_) (fun a b => ?_) l
  · refine h.imp fun {a b} hab => ?_
    have hab' : ¬ b < a := by simpa using hab
    exact fun h => hab' ((lt_bytes b a).2 h)
  · have h1 : ¬ b < a := by simpa using hab
    have h2 : ¬ c < b := by simpa using hbc
    have : ¬ c < a := fun h3 => by
      have k3 := (lt_bytes c a).1 h3
      have k1 : ¬ LtN b a := fun h => h1 ((lt_bytes b a).2 h)
      have k2 : ¬ LtN c b := fun h => h2 ((lt_bytes c b).2 h)
      by_cases e : a = b
      · subst e; exact k2 k3
      · exact k2 (ltN_trans k3 (ltN_total k1 (fun e' => e e'.symm)))
    simpa using this
  · by_cases h1 : a < b
    · have : ¬ b < a := fun h2 => ltN_asymm ((lt_bytes a b).1 h1) ((lt_bytes b a).1 h2)
      have : decide (a ≤ b) = true := by simpa using this
      rw [this, Bool.true_or]
    · have : decide (b ≤ a) = true := by simpa using h1
      rw [this, Bool.or_true]
theorem vars_ss (ss : List Nm) : SS (Lib.compact (sortL ss)) ∧ ∀ x, x ∈ Lib.compact (sortL ss) ↔ x ∈ ss := by
  have hs : ∀ i j, i < j → j < (sortL ss).toArray.size → ¬ LtN (sortL ss).toArray[j]! (sortL ss).toArray[i]! := by
    intro i j hij hj
    have hj' : j < (sortL ss).length := by simpa using hj
    have := List.pairwise_iff_getElem.1 (sort_pairwise ss) i j (by omega) hj' hij
    simpa [getElem!_pos, hj', show i < (sortL ss).length by omega] using this
  obtain ⟨h1, h2⟩ := compact_is (sortL ss).toArray hs (sortL ss).length (by simp)
  refine ⟨h1, fun x => ?_⟩
  unfold Lib.compact
  rw [h2 x]
  have hm : x ∈ ss ↔ x ∈ sortL ss := by unfold sortL; simp
  rw [hm, List.mem_iff_getElem]
  constructor
  · rintro ⟨j, hj, e⟩
    exact ⟨j, hj, by simpa [getElem!_pos, hj] using e⟩
  · rintro ⟨j, hj, e⟩
    exact ⟨j, hj, by simpa [getElem!_pos, hj] using e⟩
theorem vars_unique {ss out : List Nm} (h : SS out) (hm : ∀ x, x ∈ out ↔ x ∈ ss) : out = Lib.compact (sortL ss) :=
  ss_unique _ _ h (vars_ss ss).1 (fun x => (hm x).trans ((vars_ss ss).2 x).symm)
/-- One more name at its place. -/
theorem ss_insert {out : List Nm} {s : Nm} {k : Nat} (h : SS out) (hk : k ≤ out.length) (hi : ∀ i (h : i < out.length), k ≤ i → LtN s out[i]) (lo : k = 0 ∨ ∃ h : k - 1 < out.length, LtN out[k - 1] s) : SS (out.take k ++ [s] ++ out.drop k) := by
  have hlow : ∀ a ∈ out.take k, LtN a s := by
    intro a ha
    obtain ⟨i, hi', rfl⟩ := List.getElem_of_mem ha
    rw [List.getElem_take]
    have hik : i < k := by simp at hi'; omega
    rcases lo with lo | ⟨hlt, lo⟩
    · omega
    · by_cases e : i = k - 1
      · subst e; exact lo
      · exact ltN_trans (List.pairwise_iff_getElem.1 h i (k - 1) (by simp at hi'; omega) hlt (by omega)) lo
  have hhigh : ∀ b ∈ out.drop k, LtN s b := by
    intro b hb
    obtain ⟨i, hi', rfl⟩ := List.getElem_of_mem hb
    rw [List.getElem_drop]
    exact hi _ (by simp at hi'; omega) (by omega)
  have hb : out = out.take k ++ out.drop k := (List.take_append_drop k out).symm
  have hcross : ∀ a ∈ out.take k, ∀ b ∈ out.drop k, LtN a b := fun a ha b hb => ltN_trans (hlow a ha) (hhigh b hb)
  rw [List.append_assoc]
  refine List.pairwise_append.2 ⟨h.sublist (List.take_sublist k out), ?_, fun a ha b hb => ?_⟩
  · exact List.pairwise_append.2 ⟨by simp, h.sublist (List.drop_sublist k out), fun a ha b hb => by simp at ha; subst ha; exact hhigh b hb⟩
  · rcases List.mem_append.1 hb with hb | hb
    · simp at hb; subst hb; exact hlow a ha
    · exact hcross a ha b hb
theorem mem_insert {out : List Nm} {s x : Nm} {k : Nat} : x ∈ out.take k ++ [s] ++ out.drop k ↔ x ∈ out ∨ x = s := by
  have : x ∈ out ↔ x ∈ out.take k ∨ x ∈ out.drop k := by
    rw [← List.mem_append, List.take_append_drop]
  simp only [List.mem_append, List.mem_singleton, this]
  constructor
  · rintro ((h | h) | h)
    · exact .inl (.inl h)
    · exact .inr h
    · exact .inl (.inr h)
  · rintro ((h | h) | h)
    · exact .inl (.inl h)
    · exact .inr h
    · exact .inl (.inr h)
end Go.Proofs.YtgcnjpiiofjljaaGreatDoor
/- What the document's names gathers. -/
namespace Go.Proofs.YtgcnjpiiofjljaaGreatDoor
open Go.RowKit Go.Deep

def namesN (x : ByteArray × Int) : List Nm := if noName x.1 then [] else [x.1.data.toList]
def namesFo : Fo → List Nm
  | .nil => []
  | .node _ _ x l r => (namesN x ++ namesFo l) ++ namesFo r
set_option maxRecDepth 100000 in
theorem namesN_len (x : ByteArray × Int) : (namesN x).length ≤ 1 := by unfold namesN; split <;> simp
set_option maxRecDepth 100000 in
theorem namesFo_len : ∀ F : Fo, (namesFo F).length ≤ nodesF F
  | .nil => Nat.le_refl _
  | .node _ _ x l r => by
    have := namesN_len x
    have := namesFo_len l
    have := namesFo_len r
    simp only [namesFo, List.length_append, nodesF]; omega

/-- Below nothing has turned, beyond no cells but rows of texts. -/
structure Nv (B : Nat) (W W' : World) : Prop where
  low : Below B W W'
  cells : ∀ (k : Nat) (cs : Array Value) (t : TypeId) (fr : Nat × Nat), W.heap[k]? = some (Obj.cells cs t fr) → t ≠ 9 → W'.heap[k]? = some (Obj.cells cs t fr)
set_option maxRecDepth 100000 in
theorem Nv.refl (B : Nat) (W : World) : Nv B W W := ⟨Below.refl _ _, fun _ _ _ _ h _ => h⟩
set_option maxRecDepth 100000 in
theorem Nv.trans {B : Nat} {X Y Z : World} (h : Nv B X Y) (k : Nv B Y Z) : Nv B X Z := ⟨h.low.trans k.low, fun i cs t fr hi ht => k.cells i cs t fr (h.cells i cs t fr hi ht) ht⟩
set_option maxRecDepth 100000 in
theorem Nv.of_below {B : Nat} {X Y : World} (h : Below X.heap.size X Y) (hB : B ≤ X.heap.size) : Nv B X Y := ⟨h.mono hB, fun k _ _ _ hk _ => (h.block k (Array.getElem?_eq_some_iff.1 hk).1).trans hk⟩
set_option maxRecDepth 100000 in
theorem Nv.grown {B : Nat} {X Y : World} {row : Option Nat} (hg : X.grownBy Y row) (hB : B ≤ X.heap.size) (hr : ∀ r, row = some r → B ≤ r ∧ ∃ cs fr, X.heap[r]? = some (Obj.cells cs 9 fr)) : Nv B X Y :=
  ⟨(Below.refl B X).grown hg hB (fun k e => (hr k e).1), fun k cs t fr hk h9 => by
    refine (hg.block k (Array.getElem?_eq_some_iff.1 hk).1 (fun e => ?_)).trans hk
    obtain ⟨_, cs', fr', h'⟩ := hr k e.symm
    rw [hk] at h'
    cases h'
    exact h9 rfl⟩
set_option maxRecDepth 100000 in
theorem Nv.append {B k : Nat} {X Y : World} {v : Value} {xs : List Value} {o : Obj} (hr : X.ownsRow B 9 1 v k xs) (hg : (X.alloc o).grownBy Y v.ownBlock) (hB : B ≤ X.heap.size) : Nv B X Y :=
  (Nv.of_below ((Below.refl _ X).alloc (Nat.le_refl _) o) hB).trans (Nv.grown hg (by simp; omega) (fun r e => by
    obtain ⟨h1, cur, h2⟩ := owns_cells (hr.alloc o) e
    exact ⟨h1, cur, _, h2⟩))
set_option maxRecDepth 100000 in
theorem TBox.nv {B0 : Nat} {W W' : World} {B : Nat} {x : ByteArray × Int} {a : Option Addr} {n c : Nat} (h : TBox W B x a n c) (hm : Nv B0 W W') : TBox W' B x a n c := hm.cells _ _ _ _ h (by decide)

def NamesOk (k : Nat) : Prop := ∀ (w0 : World) (x : ByteArray × Int) (l : Fo) (a : Option Addr) (c : Nat) (v : Value) (ss : List Nm) (w : World), nodesF l ≤ k → TmAt w0 x a c l → Below w0.heap.size w0 w → w.ownsRow w0.heap.size 9 1 v ss.length (ss.map encStr) → (ss.length + nodesF l + 2) * 16 ≤ 140737488355328 →
  Calls Tryz.prog 50 #[.agg #[.string x.1, .int .i64 x.2, .slice a (lenF l) c], v] w fun e w' => ∃ v', e = .returned v' ∧ w'.ownsRow w0.heap.size 9 1 v' (ss ++ (namesN x ++ namesFo l)).length ((ss ++ (namesN x ++ namesFo l)).map encStr) ∧ Nv w0.heap.size w w'

set_option maxRecDepth 100000 in
set_option maxHeartbeats 2000000 in
theorem names_all : ∀ k, NamesOk k := by
  intro k
  induction k using Nat.strongRecOn with
  | _ k ih =>
    intro w0 x l a c v ss w hk hT hlow hrow hbig
    obtain ⟨i0, hi, hz0, hz1, hz2⟩ := info_parts Tryz.info9
    have HT : Hid (TmAt w0 x a c l) := hT
    have IH : Hid (∀ j, j < k → NamesOk j) := ih
    have hn := len_nodes l
    have hsz := hlow.size
    have bA : ss.length + 1 ≤ maxLen := by
      have h : ss.length ≤ 8796093022208 := by clear hk; omega
      exact Nat.le_trans (Nat.succ_le_succ h) (by decide)
    have bB : (ss.length + 1) * 16 ≤ 140737488355328 := Nat.le_trans (Nat.mul_le_mul_right 16 (by omega)) hbig
    have hb0 : Below w.heap.size w (w.alloc (.cells #[.string x.1, .int .i64 x.2, .slice a (lenF l) c] 27)) := (Below.refl _ w).alloc (Nat.le_refl _) _
    have bT : Hid (TBox (w.alloc (.cells #[.string x.1, .int .i64 x.2, .slice a (lenF l) c] 27)) w.heap.size x a (lenF l) c) := TBox.new w x a (lenF l) c
    have N0 : Hid (Nv w0.heap.size w (w.alloc (.cells #[.string x.1, .int .i64 x.2, .slice a (lenF l) c] 27))) := Nv.of_below hb0 hsz
    have hrow0 : Hid ((w.alloc (.cells #[.string x.1, .int .i64 x.2, .slice a (lenF l) c] 27)).ownsRow w0.heap.size 9 1 v ss.length (ss.map encStr)) := hrow.alloc (.cells #[.string x.1, .int .i64 x.2, .slice a (lenF l) c] 27)
    have HLOW : Hid (Below w0.heap.size w0 w) := hlow
    clear hT ih hrow hb0 hlow
    cases hx : x.1.toList.isEmpty
    case' false =>
      have hN : Hid (namesN x = [x.1.data.toList]) := by show _ = _; unfold namesN noName; rw [hx]; rfl
      have hone : Hid (∀ u ∈ [Value.string x.1], u.oneCell' = true) := by intro u hu; simp at hu; subst hu; rfl
      have hnews : Hid (∀ (i : Nat) (u : Value), [Value.string x.1][i]? = some u → ((w.alloc (.cells #[.string x.1, .int .i64 x.2, .slice a (lenF l) c] 27)).alloc (.cells #[.string x.1] 9)).cell? ((⟨w.heap.size + 1, 0, none⟩ : Addr).add i) = some u) := by
        have h := World.news_of_block (heap_alloc_new (w.alloc (.cells #[.string x.1, .int .i64 x.2, .slice a (lenF l) c] 27)) (.cells #[.string x.1] 9))
        rw [World.size_alloc] at h; exact h
      go_enter Tryz.func50, Tryz.ntmps50
      go_wp2_with (at_builtin; refine wpList_append_own _ rfl _ _ 28 rfl w0.heap.size 9 i0 (.string ⟨#[]⟩) 1 16 Tryz.underlying28 hi hz0 hz1 hz2 rfl (by decide) v ss.length (ss.map encStr) rfl (hrow0.out.alloc _) ⟨w.heap.size + 1, 0, none⟩ 1 1 [.string x.1] rfl rfl hnews.out hone.out bA bB (by rw [World.size_alloc, World.size_alloc]; exact Nat.le_succ_of_le (Nat.le_succ_of_le hsz)) ?_; intro v' w1 hown' hgrow _; obtain ⟨g', cap', rfl⟩ := ownsRow_succ hown'; have NA : Hid (Nv w0.heap.size (w.alloc (.cells #[.string x.1, .int .i64 x.2, .slice a (lenF l) c] 27)) w1) := Nv.append hrow0.out hgrow (by rw [World.size_alloc]; exact Nat.le_succ_of_le hsz); have HO1 : Hid (w1.ownsRow w0.heap.size 9 1 (.slice (some ⟨g', 0, none⟩) (ss.length + 1) cap') (ss.length + 1) (ss.map encStr ++ [.string x.1])) := hown'; clear hown' hgrow)
      have hS1 : Hid (w1.ownsRow w0.heap.size 9 1 (.slice (some ⟨g', 0, none⟩) (ss.length + 1) cap') (ss ++ namesN x).length ((ss ++ namesN x).map encStr)) := by
        show World.ownsRow _ _ _ _ _ _ _
        rw [hN.out, List.length_append, List.map_append]
        exact HO1.out
      have hN1 : Hid (Nv w0.heap.size w w1) := N0.out.trans NA.out
      have hB1 : Hid (TBox w1 w.heap.size x a (lenF l) c) := bT.out.nv NA.out
      clear NA HO1 hN hone hnews bT N0 hrow0
    case' true =>
      have hN : Hid (namesN x = []) := by show _ = _; unfold namesN noName; rw [hx]; rfl
      have hS1 : Hid ((w.alloc (.cells #[.string x.1, .int .i64 x.2, .slice a (lenF l) c] 27)).ownsRow w0.heap.size 9 1 v (ss ++ namesN x).length ((ss ++ namesN x).map encStr)) := by rw [hN.out, List.append_nil]; exact hrow0.out
      have hN1 := N0
      have hB1 := bT
      clear hN bT N0 hrow0
      go_enter Tryz.func50, Tryz.ntmps50
      go_wp2
    all_goals
      have hlN := namesN_len x
      go_loopw [1, 5] (fun lv i wr => ∃ (j : Nat) (done : List Nm) (v2 : Value), j ≤ lenF l ∧ v2 = lv ∧ i = .int .i64 j ∧ wr.ownsRow w0.heap.size 9 1 v2 done.length (done.map encStr) ∧ Nv w0.heap.size w wr ∧ TBox wr w.heap.size x a (lenF l) c ∧ done ++ namesFo (dropF j l) = ss ++ (namesN x ++ namesFo l) ∧ done.length + nodesF (dropF j l) ≤ ss.length + 1 + nodesF l) (fun _ i _ => lenF l - (intOf i).toNat)
      case atStart => exact ⟨0, ss ++ namesN x, _, Nat.zero_le _, rfl, rfl, hS1.out, hN1.out, hB1.out, by rw [drop_zero]; simp, by rw [drop_zero, List.length_append]; omega⟩
      case round =>
        obtain ⟨j, done, v2, hj, rfl, rfl, hR, hV, hB, hD, hcnt⟩ := hrel
        have t2 := hB.c2
        have HR : Hid (wr.ownsRow w0.heap.size 9 1 v2 done.length (done.map encStr)) := hR
        have HV : Hid (Nv w0.heap.size w wr) := hV
        have HB : Hid (TBox wr w.heap.size x a (lenF l) c) := hB
        have HL : Hid (Below w0.heap.size w0 wr) := HLOW.out.trans hV.low
        clear hR hV hB hS1 hN1 hB1
        by_cases hlt : j < lenF l
        · obtain ⟨b1, o1, rfl, hk1⟩ := HT.out.args.get (by omega)
          obtain ⟨z, a1, c1, l1, kd⟩ := hk1.kid (k := j) hlt
          have kd' := kd.below HL.out
          obtain ⟨B1, O1, s1⟩ := kd.split
          rw [s1, namesFo] at hD
          rw [s1, nodesF] at hcnt
          have hz1' := namesN_len z
          have hz2' := namesFo_len l1
          have HD : Hid (done ++ ((namesN z ++ namesFo l1) ++ namesFo (dropF (j + 1) l)) = ss ++ (namesN x ++ namesFo l)) := hD
          have q0 := kd'.name; have q1 := kd'.sym; have q2 := kd'.list
          have hC := IH.out (nodesF l1) (by have := kd.less; omega) w0 z l1 a1 c1 v2 done wr (Nat.le_refl _) kd.at_ HL.out HR.out (Nat.le_trans (Nat.mul_le_mul_right 16 (by omega)) hbig)
          clear kd kd' hk1 s1 hD
          go_wp2_with fail
          refine hC.mono ?_
          rintro e w2 ⟨v3, rfl, hr3, hn3⟩
          have HR3 : Hid (w2.ownsRow w0.heap.size 9 1 v3 (done ++ (namesN z ++ namesFo l1)).length ((done ++ (namesN z ++ namesFo l1)).map encStr)) := hr3
          have HN3 : Hid (Nv w0.heap.size wr w2) := hn3
          clear hC hr3 hn3 q0 q1 q2 t2
          go_wp2
          go_roundw
          case rel => exact ⟨j + 1, _, _, by omega, rfl, by go_num, HR3.out, HV.out.trans HN3.out, HB.out.nv HN3.out, by rw [← HD.out]; simp, by simp only [List.length_append]; omega⟩
          case measure => simp [intOf]; omega
        · have e1 : j = lenF l := by omega
          rw [e1, drop_end, namesFo, List.append_nil] at hD
          subst hD
          go_wp2
          go_ret
          exact ⟨v2, rfl, HR.out, HV.out⟩
end Go.Proofs.YtgcnjpiiofjljaaGreatDoor
/- What the document's joins and constant answer. -/
namespace Go.Proofs.YtgcnjpiiofjljaaGreatDoor
open Go.RowKit Go.Deep

set_option maxRecDepth 100000 in
set_option maxHeartbeats 1000000 in
theorem joins_still (a : Option Addr) (n cap : Nat) (l : List Sym) (f : Int) (w : World) (h : SigAt w a n l) :
    Calls Tryz.prog 47 #[.slice a n cap, .int .i64 f] w fun e w' => e = .returned (.bool (joinsAt l f)) ∧ w' = w := by
  have HS : Hid (SigAt w a n l) := h
  have hm := h.small
  unfold maxLen at hm
  obtain rfl := h.len
  clear h
  by_cases h0 : f < 0
  · have e : Hid (joinsAt l f = false) := by show _ = _; unfold joinsAt; rw [symAt_out (by omega)]
    have hd : ¬ 0 ≤ f := by omega
    go_enter Tryz.func47, Tryz.ntmps47
    go_wp2
    go_ret
    exact ⟨by rw [e.out]; rfl, rfl⟩
  · obtain ⟨k, rfl⟩ : ∃ k : Nat, f = k := ⟨f.toNat, by omega⟩
    by_cases hk : k < l.length
    · obtain ⟨b, off, rfl, hs⟩ := HS.out.cells k hk
      have e : Hid (joinsAt l (k : Int) = (decide (l[k].kind = 2) || decide (l[k].kind = 3))) := by show _ = _; unfold joinsAt; rw [symAt_in hk]
      obtain ⟨s, hs1⟩ : ∃ s, l[k] = s := ⟨_, rfl⟩
      rw [hs1] at hs e
      have c1 := hs.kind
      have hk0 : (0 : Int) ≤ (k : Int) := by omega
      have hkn : (k : Int) < (l.length : Int) := by omega
      clear hs hs1 h0
      by_cases h2 : s.kind = 2
      · have hd : (s.kind == 2) = true := by simp [h2]
        go_enter Tryz.func47, Tryz.ntmps47
        go_wp2
        go_ret
        exact ⟨by rw [e.out]; simp [h2], rfl⟩
      · have hd : (s.kind == 2) = false := by simp [h2]
        by_cases h3 : s.kind = 3
        · have hd3 : (s.kind == 3) = true := by simp [h3]
          go_enter Tryz.func47, Tryz.ntmps47
          go_wp2
          go_ret
          exact ⟨by rw [e.out]; simp [h3], rfl⟩
        · have hd3 : (s.kind == 3) = false := by simp [h3]
          go_enter Tryz.func47, Tryz.ntmps47
          go_wp2
          go_ret
          exact ⟨by rw [e.out]; simp [h2, h3], rfl⟩
    · have e : Hid (joinsAt l (k : Int) = false) := by show _ = _; unfold joinsAt; rw [symAt_out (by omega)]
      have hd : ¬ (k : Int) < (l.length : Int) := by omega
      go_enter Tryz.func47, Tryz.ntmps47
      go_wp2
      go_ret
      exact ⟨by rw [e.out]; rfl, rfl⟩
set_option maxRecDepth 100000 in
theorem joins_any (a : Option Addr) (n cap : Nat) (l : List Sym) (f : Int) (w : World) (h : SigAt w a n l) :
    Calls Tryz.prog 47 #[.slice a n cap, .int .i64 f] w fun e w' => e = .returned (.bool (joinsAt l f)) ∧ Below w.heap.size w w' :=
  (joins_still a n cap l f w h).mono fun e w' ⟨h1, h2⟩ => ⟨h1, by rw [h2]; exact Below.refl _ _⟩

set_option maxRecDepth 100000 in
set_option maxHeartbeats 1000000 in
theorem constant_any (t : Tn) (a : Option Addr) (c : Nat) (u : Int) (w : World) (hc : lenF t.2 ≤ 9223372036854775807) :
    Calls Tryz.prog 83 #[.agg #[.string t.1.1, .int .i64 t.1.2, .slice a (lenF t.2) c], .int .i64 u] w fun e w' => e = .returned (.bool (isConst t u)) ∧ Below w.heap.size w w' := by
  have hb := TBox.new w t.1 a (lenF t.2) c
  have hlow : Hid (Below w.heap.size w (w.alloc (.cells #[.string t.1.1, .int .i64 t.1.2, .slice a (lenF t.2) c] 27))) := (Below.refl _ w).alloc (Nat.le_refl _) _
  cases hn : t.1.1.toList.isEmpty
  · have e : Hid (isConst t u = false) := by show _ = _; unfold isConst noName; rw [hn]; rfl
    go_enter Tryz.func83, Tryz.ntmps83
    go_wp2
    go_ret
    exact ⟨by rw [e.out]; rfl, hlow.out⟩
  · cases hs : (t.1.2 == u)
    · have e : Hid (isConst t u = false) := by show _ = _; unfold isConst; rw [hs]; simp
      go_enter Tryz.func83, Tryz.ntmps83
      go_wp2
      go_ret
      exact ⟨by rw [e.out]; rfl, hlow.out⟩
    · have e : Hid (isConst t u = (lenF t.2 == 0)) := by show _ = _; unfold isConst noName; rw [hs, hn]; simp
      obtain ⟨n, hnn⟩ : ∃ n, lenF t.2 = n := ⟨_, rfl⟩
      rw [hnn] at hb hlow e hc ⊢
      clear hnn
      cases n with
      | zero =>
        go_enter Tryz.func83, Tryz.ntmps83
        go_wp2
        go_ret
        exact ⟨by rw [e.out]; rfl, hlow.out⟩
      | succ n =>
        have hd : ((n : Int) + 1 == 0) = false := by simp; omega
        go_enter Tryz.func83, Tryz.ntmps83
        go_wp2
        go_ret
        exact ⟨by rw [e.out]; rfl, hlow.out⟩
end Go.Proofs.YtgcnjpiiofjljaaGreatDoor
/- What the document's Sorted answers: the terms in order, in a row of its own; their lists are those that came in. -/
namespace Go.Proofs.YtgcnjpiiofjljaaGreatDoor
open Go.RowKit Go.Deep

def Kv.tn (k : Kv) : Tn := (k.x, k.l)
set_option maxRecDepth 100000 in
/-- Where one is laid into a list in order: ahead of all that are greater. -/
theorem ins_at {x : Tn} : ∀ {l : List Tn} {n : Nat}, Srt l → n ≤ l.length → (∀ j y, n ≤ j → l[j]? = some y → cmpN y x > 0) → (n = 0 ∨ ∀ y, l[n - 1]? = some y → cmpN y x ≤ 0) → insN x l = l.take n ++ x :: l.drop n
  | [], n, _, hn, _, _ => by simp at hn; subst hn; rfl
  | y :: r, 0, _, _, h1, _ => by
    have := h1 0 y (Nat.le_refl _) rfl
    rw [insN, if_pos this]
    rfl
  | y :: r, n + 1, hs, hn, h1, h2 => by
    obtain ⟨s1, s2⟩ := List.pairwise_cons.1 hs
    simp only [List.length_cons] at hn
    rcases h2 with h2 | h2
    · omega
    have hlt : n < (y :: r).length := by simp; omega
    have h3 := h2 ((y :: r)[n]) (by rw [Nat.add_sub_cancel]; exact List.getElem?_eq_getElem hlt)
    have hy : ¬ cmpN y x > 0 := by
      have : leN y x := by
        cases n with
        | zero => exact h3
        | succ n => exact leN_trans (s1 _ (by simp)) h3
      unfold leN at this
      omega
    rw [insN, if_neg hy, ins_at (n := n) s2 (by omega) (fun j z hj hz => h1 (j + 1) z (by omega) (by simpa using hz)) (by
      cases n with
      | zero => exact .inl rfl
      | succ n => exact .inr (fun z hz => h2 z (by simpa using hz)))]
    rfl
set_option maxRecDepth 100000 in
theorem sortN_snoc (l : List Tn) (x : Tn) : sortN (l ++ [x]) = insN x (sortN l) := by
  unfold sortN
  rw [List.foldl_append]
  rfl

/-! ### lists of terms in memory -/
set_option maxRecDepth 100000 in
theorem kvCells_append (a b : List Kv) : kvCells (a ++ b) = kvCells a ++ kvCells b := by simp [kvCells]
set_option maxRecDepth 100000 in
theorem kvCells_one : ∀ ks : List Kv, ∀ u ∈ kvCells ks, u.oneCell' = true := fun ks u hu => by
  obtain ⟨k, _, h⟩ := List.mem_flatMap.1 hu
  exact kv_one k u h
set_option maxRecDepth 100000 in
theorem kvCells_drop (ks : List Kv) (n : Nat) : kvCells (ks.drop n) = (kvCells ks).drop (n * 3) := by
  induction n generalizing ks with
  | zero => simp
  | succ n ih =>
    cases ks with
    | nil => simp [kvCells]
    | cons k r =>
      rw [List.drop_succ_cons, ih r]
      show _ = (k.cells ++ kvCells r).drop ((n + 1) * 3)
      rw [List.drop_append, show (n + 1) * 3 - k.cells.length = n * 3 by rw [show k.cells.length = 3 from rfl]; omega, (List.drop_eq_nil_of_le (by rw [show k.cells.length = 3 from rfl]; omega) : k.cells.drop ((n + 1) * 3) = [])]
      rfl
set_option maxRecDepth 100000 in
theorem kvCells_take (ks : List Kv) (n : Nat) : kvCells (ks.take n) = (kvCells ks).take (n * 3) := by
  induction n generalizing ks with
  | zero => simp [kvCells]
  | succ n ih =>
    cases ks with
    | nil => simp [kvCells]
    | cons k r =>
      rw [List.take_succ_cons]
      show k.cells ++ kvCells (r.take n) = (k.cells ++ kvCells r).take ((n + 1) * 3)
      rw [ih r, List.take_append, show (n + 1) * 3 - k.cells.length = n * 3 by rw [show k.cells.length = 3 from rfl]; omega, List.take_of_length_le (l := k.cells) (by rw [show k.cells.length = 3 from rfl]; omega)]
/-- The slice with this address holds these terms' cells. -/
structure RowAt (w : World) (a : Option Addr) (n : Nat) (ks : List Kv) : Prop where
  len : n = ks.length
  cells : ∀ j u, (kvCells ks)[j]? = some u → ∃ b off, a = some ⟨b, off, none⟩ ∧ w.cell? ⟨b, off + j, none⟩ = some u
set_option maxRecDepth 100000 in
theorem RowAt.below {w w' : World} {a : Option Addr} {n : Nat} {ks : List Kv} (h : RowAt w a n ks) (hb : Below w.heap.size w w') : RowAt w' a n ks :=
  ⟨h.len, fun j u hu => by obtain ⟨b, off, ha, hc⟩ := h.cells j u hu; exact ⟨b, off, ha, below_cell hb _ _ hc⟩⟩
set_option maxRecDepth 100000 in
theorem kv_cells {ks : List Kv} {j : Nat} {k : Kv} (h : ks[j]? = some k) : (kvCells ks)[j * 3]? = some (.string k.x.1) ∧ (kvCells ks)[j * 3 + 1]? = some (.int .i64 k.x.2) ∧ (kvCells ks)[j * 3 + 2]? = some (.slice k.a (lenF k.l) k.c) := by
  have e := kvCells_drop ks j
  obtain ⟨hlt, hk⟩ := List.getElem?_eq_some_iff.1 h
  rw [List.drop_eq_getElem_cons hlt, hk] at e
  have e2 : ∀ i, i < 3 → (kvCells ks)[j * 3 + i]? = (k.cells)[i]? := fun i hi => by
    rw [← List.getElem?_drop, ← e]
    show (k.cells ++ kvCells _)[i]? = _
    rw [List.getElem?_append_left (by simp [Kv.cells]; exact hi)]
  exact ⟨e2 0 (by omega), e2 1 (by omega), e2 2 (by omega)⟩
set_option maxRecDepth 100000 in
/-- The cells of one of them. -/
theorem RowAt.get {w : World} {a : Option Addr} {n : Nat} {ks : List Kv} (h : RowAt w a n ks) {j : Nat} {k : Kv} (hk : ks[j]? = some k) : ∃ b off, a = some ⟨b, off, none⟩ ∧ w.cell? ⟨b, off + j * 3, none⟩ = some (.string k.x.1) ∧ w.cell? ⟨b, off + j * 3 + 1, none⟩ = some (.int .i64 k.x.2) ∧ w.cell? ⟨b, off + j * 3 + 2, none⟩ = some (.slice k.a (lenF k.l) k.c) := by
  obtain ⟨h0, h1, h2⟩ := kv_cells hk
  obtain ⟨b, off, rfl, c0⟩ := h.cells _ _ h0
  obtain ⟨_, _, e1, c1⟩ := h.cells _ _ h1
  obtain ⟨_, _, e2, c2⟩ := h.cells _ _ h2
  cases e1
  cases e2
  exact ⟨b, off, rfl, c0, by rw [← Nat.add_assoc] at c1; exact c1, by rw [← Nat.add_assoc] at c2; exact c2⟩
set_option maxRecDepth 100000 in
theorem row_of_owns {w : World} {base n : Nat} {v : Value} {ks : List Kv} (h : w.ownsRow base 27 3 v n (kvCells ks)) : ∃ a cap, v = .slice a n cap ∧ n ≤ cap ∧ cap ≤ maxLen ∧ RowAt w a n ks ∧ (a = none → n = 0 ∧ cap = 0) ∧ (∀ b off sp, a = some ⟨b, off, sp⟩ → base ≤ b ∧ off = 0 ∧ sp = none) := by
  have hl : ks.length = n := by have := h.1; rw [kvCells_len] at this; omega
  rcases h.2 with ⟨rfl, h0⟩ | ⟨g, cap, cur, rfl, hb, hg, hnc, hcm, hsz, hcur⟩
  · obtain rfl : ks = [] := List.length_eq_zero_iff.1 (hl.trans h0)
    exact ⟨none, 0, by rw [h0], by omega, by simp, ⟨by omega, fun j u hu => by simp [kvCells] at hu⟩, fun _ => ⟨h0, rfl⟩, fun b off sp e => by cases e⟩
  · exact ⟨_, cap, rfl, hnc, hcm, ⟨hl.symm, fun j u hu => ⟨g, 0, rfl, owns_at h j u hu⟩⟩, (fun e => by cases e), (fun b off sp e => by cases e; exact ⟨hb, rfl, rfl⟩)⟩

set_option maxRecDepth 100000 in
/-- append of what another slice holds, be it nil, be it empty. -/
theorem wpList_append_kvs {ops : Array Oper} {rest : List Oper} {o : Oper} {a : Act} {Q : Exit → Act → World → Prop} {W : World} (hgd : o.guard = none) (s x : Operand)
    (ho : o.op = .call { callee := .builtin .append, args := #[s, x], argTypes := #[25, 25] }) (base : Nat) (v : Value) (ks : List Kv) (hs : a.eval s = v) (hown : W.ownsRow base 27 3 v ks.length (kvCells ks))
    (sa : Option Addr) (m c : Nat) (ms : List Kv) (hx : a.eval x = .slice sa m c) (hm : RowAt W sa m ms) (hnil : sa = none → c = 0) (hbig : ks.length + m ≤ 4194304) (hbase : base ≤ W.heap.size)
    (h : ∀ v' w', w'.ownsRow base 27 3 v' (ks ++ ms).length (kvCells (ks ++ ms)) → W.grownBy w' v.ownBlock → wpList Tryz.prog ops Q rest (a.put o.dst v') w') : wpList Tryz.prog ops Q (o :: rest) a W := by
  obtain ⟨i0, hi, hz0, hz1, hz2⟩ := info_parts Tryz.info27
  have hmax : maxLen = 9223372036854775807 := rfl
  rcases sa with _ | ⟨b, off, sp⟩
  · obtain rfl : ms = [] := by
      cases ms with
      | nil => rfl
      | cons k r =>
        obtain ⟨_, _, e, _⟩ := hm.get (j := 0) (k := k) rfl
        cases e
    obtain rfl := hm.len
    obtain rfl := hnil rfl
    refine wpList_append_own_none hgd s x 25 ho base 27 i0 3 Tryz.underlying25 hi v ks.length (kvCells ks) hs hown hx (h v W (by simpa using hown) ?_)
    exact ⟨rfl, rfl, rfl, Nat.le_refl _, fun _ _ _ => rfl⟩
  · have hlm := hm.len
    refine wpList_append_own _ hgd s x 25 ho base 27 i0 _ 3 48 Tryz.underlying25 hi hz0 hz1 hz2 rfl (by decide) v ks.length (kvCells ks) hs hown ⟨b, off, sp⟩ m c (kvCells ms) hx (by rw [kvCells_len, hlm]) (fun j u hu => ?_) (kvCells_one ms) (by omega) (by omega) hbase ?_
    · obtain ⟨b', off', e, hc⟩ := hm.cells j u hu
      cases e
      rw [← hc]
      congr 1
      unfold Addr.add
      split <;> simp_all
    · intro v' w' h1 h2 _
      refine h v' w' ?_ h2
      rw [kvCells_append, List.length_append, ← hlm]
      exact h1
end Go.Proofs.YtgcnjpiiofjljaaGreatDoor
/- The walk of the document's Sorted. -/
namespace Go.Proofs.YtgcnjpiiofjljaaGreatDoor
open Go.RowKit Go.Deep

set_option maxRecDepth 100000 in
theorem RowAt.take {w : World} {a : Option Addr} {n : Nat} {ks : List Kv} (h : RowAt w a n ks) {p : Nat} (hp : p ≤ ks.length) : RowAt w a p (ks.take p) :=
  ⟨by simp; omega, fun j u hu => h.cells j u (by
    rw [kvCells_take, List.getElem?_take] at hu
    split at hu
    · exact hu
    · cases hu)⟩
set_option maxRecDepth 100000 in
theorem RowAt.drop {w : World} {g off n : Nat} {ks : List Kv} (h : RowAt w (some ⟨g, off, none⟩) n ks) {p : Nat} (_ : p ≤ ks.length) : RowAt w (some ⟨g, off + p * 3, none⟩) (n - p) (ks.drop p) :=
  ⟨by rw [List.length_drop, h.len], fun j u hu => by
    rw [kvCells_drop, List.getElem?_drop] at hu
    obtain ⟨b, o, e, hc⟩ := h.cells _ u hu
    cases e
    exact ⟨g, off + p * 3, rfl, by rw [Nat.add_assoc]; exact hc⟩⟩
set_option maxRecDepth 100000 in
theorem RowAt.empty (w : World) (a : Option Addr) : RowAt w a 0 [] := ⟨rfl, fun j u hu => by simp [kvCells] at hu⟩
set_option maxRecDepth 100000 in
theorem row_empty26 (w : World) : (w.alloc (.cells #[] 27)).ownsRow w.heap.size 27 3 (.slice (some ⟨w.heap.size, 0, none⟩) 0 0) 0 (kvCells []) :=
  ⟨rfl, .inr ⟨w.heap.size, 0, #[], rfl, Nat.le_refl _, World.alloc_heap_new w _, Nat.le_refl _, Nat.zero_le _, rfl, rfl⟩⟩
set_option maxRecDepth 100000 in
theorem RowAt.new (w : World) (k : Kv) : RowAt (w.alloc (.cells #[.string k.x.1, .int .i64 k.x.2, .slice k.a (lenF k.l) k.c] 27)) (some ⟨w.heap.size, 0, none⟩) 1 [k] :=
  ⟨rfl, fun j u hu => by
    refine ⟨w.heap.size, 0, rfl, ?_⟩
    have h := World.news_of_block (heap_alloc_new w (.cells #[.string k.x.1, .int .i64 k.x.2, .slice k.a (lenF k.l) k.c] 27)) j u (by simpa [kvCells, Kv.cells] using hu)
    rw [← h]
    congr 1
    unfold Addr.add
    split <;> simp_all⟩
/-- What the inner loop has found when it ends. -/
structure Found (out : List Kv) (k : Kv) (p : Nat) : Prop where
  le : p ≤ out.length
  gt : ∀ q y, p ≤ q → out[q]? = some y → cmpN y.tn k.tn > 0
  at_ : p = 0 ∨ ∀ y, out[p - 1]? = some y → cmpN y.tn k.tn ≤ 0
set_option maxRecDepth 100000 in
theorem Found.ins {out : List Kv} {k : Kv} {p : Nat} (h : Found out k p) (hs : Srt (out.map Kv.tn)) : (out.take p ++ [k] ++ out.drop p).map Kv.tn = insN k.tn (out.map Kv.tn) := by
  rw [ins_at hs (n := p) (by simpa using h.le) (fun j y hj hy => by
    rw [List.getElem?_map, Option.map_eq_some_iff] at hy
    obtain ⟨z, hz, rfl⟩ := hy
    exact h.gt j z hj hz) (by
    rcases h.at_ with h0 | h0
    · exact .inl h0
    · refine .inr (fun y hy => ?_)
      rw [List.getElem?_map, Option.map_eq_some_iff] at hy
      obtain ⟨z, hz, rfl⟩ := hy
      exact h0 z hz)]
  simp

set_option maxRecDepth 100000 in
set_option maxHeartbeats 2000000 in
theorem sorted_any (a : Option Addr) (n cap : Nat) (ks : List Kv) (w : World) (hR : RowAt w a n ks) (hK : ∀ k ∈ ks, TmAt w k.x k.a k.c k.l) (hn : n ≤ 2097152) :
    Calls Tryz.prog 70 #[.slice a n cap] w fun e w' => ∃ v out, e = .returned v ∧ w'.ownsRow w.heap.size 27 3 v out.length (kvCells out) ∧ (∀ k ∈ out, k ∈ ks) ∧ out.map Kv.tn = sortN (ks.map Kv.tn) ∧ Below w.heap.size w w' := by
  obtain rfl := hR.len
  have HR : Hid (RowAt w a ks.length ks) := hR
  have HK : Hid (∀ k ∈ ks, TmAt w k.x k.a k.c k.l) := hK
  clear hR hK
  go_enter Tryz.func70, Tryz.ntmps70
  go_wp2
  go_loopw [3, 4] (fun ov i wr => ∃ (j : Nat) (v : Value) (out : List Kv), j ≤ ks.length ∧ v = ov ∧ i = .int .i64 j ∧ wr.ownsRow w.heap.size 27 3 v out.length (kvCells out) ∧ (∀ k ∈ out, k ∈ ks) ∧ out.map Kv.tn = sortN ((ks.take j).map Kv.tn) ∧ Below w.heap.size w wr) (fun _ i _ => ks.length - (intOf i).toNat)
  case atStart => exact ⟨0, _, [], Nat.zero_le _, rfl, rfl, World.ownsRow_nil _ _ _ _, by simp, by simp [sortN], Below.refl _ _⟩
  case round =>
    obtain ⟨j, v, out, hj, rfl, rfl, hrow, hin, hmap, hlow⟩ := hrel
    have HRow : Hid (wr.ownsRow w.heap.size 27 3 v out.length (kvCells out)) := hrow
    have HIn : Hid (∀ k ∈ out, k ∈ ks) := hin
    have HM : Hid (out.map Kv.tn = sortN ((ks.take j).map Kv.tn)) := hmap
    have HL : Hid (Below w.heap.size w wr) := hlow
    have hol : out.length ≤ ks.length := by
      have := congrArg List.length hmap
      rw [List.length_map, sortN_len, List.length_map, List.length_take] at this
      omega
    clear hrow hin hmap hlow
    by_cases hlt : j < ks.length
    · obtain ⟨kv, hkv⟩ : ∃ kv, ks[j]? = some kv := ⟨_, List.getElem?_eq_getElem hlt⟩
      obtain ⟨b, off, rfl, s0, s1, s2⟩ := (HR.out.below HL.out).get hkv
      have HKV : Hid (ks[j]? = some kv) := hkv
      have HTk : Hid (TmAt wr kv.x kv.a kv.c kv.l) := (HK.out kv (List.mem_of_getElem? hkv)).below HL.out
      obtain ⟨oa, ocap, rfl, hoc, hocm, hot, honil, hosome⟩ := row_of_owns HRow.out
      have HOT : Hid (RowAt wr oa out.length out) := hot
      obtain ⟨wo, rfl⟩ : ∃ wo, wo = wr := ⟨wr, rfl⟩
      have hjn : (j : Int) < (ks.length : Int) := by omega
      have hj0 : (0 : Int) ≤ (j : Int) := by omega
      clear hot hkv
      rcases oa with _ | ⟨g, o2, sp⟩
      · obtain ⟨ho0, rfl⟩ := honil rfl
        obtain rfl : out = [] := List.length_eq_zero_iff.1 ho0
        clear ho0 hosome honil
        have hd : decide (0 < 0) = false := by simp
        go_wp2
        go_loopw [5] (fun av W => av = .int .i64 0 ∧ Below wo.heap.size wo W) (fun av _ => (intOf av).toNat)
        case atStart => exact ⟨rfl, Below.refl _ _⟩
        case round =>
          obtain ⟨rfl, hW⟩ := hrel
          have HW : Hid (Below wo.heap.size wo wr) := hW
          have hF : Hid (Found ([] : List Kv) kv 0) := ⟨Nat.le_refl _, fun q y _ hy => by simp at hy, .inl rfl⟩
          have hne := later_some wr
          clear hW
          go_wp2_with fail
          refine wp_region_later (by kernel_rfl) (by kernel_rfl) ?_
          repeat (go_big_quiet_step (fail))
          refine wpQuiet_nil ?_
          intro _ hw'
          obtain ⟨b3, hw''⟩ := hw'
          subst hw''
          have HW9 : Hid (Below wo.heap.size wo b3.now) := HW.out.trans (b3.below.mono HW.out.size)
          obtain ⟨W9, hW9⟩ : ∃ W9, b3.now = W9 := ⟨_, rfl⟩
          rw [hW9] at HW9 ⊢
          clear hW9 hne
          have HA9 : Hid (Below W9.heap.size W9 (W9.alloc (.cells #[] 27))) := (Below.refl _ _).alloc (Nat.le_refl _) _
          have HO9 : Hid (RowAt (W9.alloc (.cells #[] 27)) none 0 []) := (HOT.out.below HW9.out).below HA9.out
          have hz9 := HW9.out.size
          go_wp2_with (at_builtin; first
            | (refine wpList_append_kvs rfl (.tmp 32) (.tmp 35) rfl W9.heap.size _ [] rfl (row_empty26 W9) none 0 0 (([] : List Kv)) rfl HO9.out (fun _ => rfl) (by simp <;> omega) (by simp) ?_; intro v1 w1 hown1 hgrow1; have HB1 : Hid (Below W9.heap.size W9 w1) := HA9.out.grown hgrow1 (by simp) (fun k e => by cases e; exact Nat.le_refl _); have HO1 : Hid (w1.ownsRow W9.heap.size 27 3 v1 (([] : List Kv)).length (kvCells (([] : List Kv)))) := hown1; have t0 := below_cell (HW9.out.trans (HB1.out.mono hz9)) _ _ s0; have t1 := below_cell (HW9.out.trans (HB1.out.mono hz9)) _ _ s1; have t2 := below_cell (HW9.out.trans (HB1.out.mono hz9)) _ _ s2; have hz1 := HB1.out.size; clear hown1 hgrow1)
            | (refine wpList_append_kvs rfl (.tmp 37) (.tmp 42) rfl W9.heap.size v1 (([] : List Kv)) rfl (owns_below HO1.out ((Below.refl _ _).alloc (Nat.le_refl _) _)) (some ⟨w1.heap.size, 0, none⟩) 1 1 [kv] rfl (RowAt.new w1 kv) (fun e => by cases e) (by simp <;> omega) (by rw [World.size_alloc]; omega) ?_; intro v2 w2 hown2 hgrow2; have HB2 : Hid (Below W9.heap.size W9 w2) := (HB1.out.alloc hz1 _).grown hgrow2 (by rw [World.size_alloc]; omega) (fun k e => (owns_cells HO1.out e).1); have HO2 : Hid (w2.ownsRow W9.heap.size 27 3 v2 (([] : List Kv) ++ [kv]).length (kvCells (([] : List Kv) ++ [kv]))) := hown2; have HR2 : Hid (RowAt w2 none 0 []) := (HOT.out.below HW9.out).below HB2.out; have hz2 := HB2.out.size; clear hown2 hgrow2)
            | (refine wpList_append_kvs rfl (.tmp 44) (.tmp 47) rfl W9.heap.size v2 (([] : List Kv) ++ [kv]) rfl HO2.out none 0 0 [] rfl (RowAt.empty _ _) (fun _ => rfl) (by simp <;> omega) hz2 ?_; intro v3 w3 hown3 hgrow3; have HB3 : Hid (Below W9.heap.size W9 w3) := HB2.out.grown hgrow3 hz2 (fun k e => (owns_cells HO2.out e).1); have HO3 : Hid (w3.ownsRow W9.heap.size 27 3 v3 (([] : List Kv) ++ [kv] ++ ([] : List Kv)).length (kvCells (([] : List Kv) ++ [kv] ++ ([] : List Kv)))) := hown3; clear hown3 hgrow3))
          go_roundw
          case rel =>
            refine ⟨j + 1, v3, ([] : List Kv) ++ [kv] ++ ([] : List Kv), by omega, rfl, by go_num, owns_base HO3.out (by have := HL.out.size; omega), ?_, ?_, HL.out.trans ((HW9.out.trans (HB3.out.mono hz9)).mono HL.out.size)⟩
            · intro k hk
              simp at hk
              subst hk
              exact List.mem_of_getElem? HKV.out
            · rw [show ([] ++ [kv] ++ [] : List Kv).map Kv.tn = insN kv.tn (([] : List Kv).map Kv.tn) from rfl, HM.out, ← sortN_snoc, List.take_add_one, HKV.out]
              simp
          case measure => simp [intOf]; omega
      · obtain ⟨_, rfl, rfl⟩ := hosome _ _ _ rfl
        clear honil hosome
        go_wp2
        go_loopw [5] (fun av W => ∃ p : Nat, p ≤ out.length ∧ av = .int .i64 p ∧ Below wo.heap.size wo W ∧ (∀ q y, p ≤ q → out[q]? = some y → cmpN y.tn kv.tn > 0)) (fun av _ => (intOf av).toNat)
        case atStart => exact ⟨out.length, Nat.le_refl _, rfl, Below.refl _ _, fun q y hq hy => by rw [List.getElem?_eq_none hq] at hy; cases hy⟩
        case round =>
          obtain ⟨p, hp, rfl, hW, hgt⟩ := hrel
          have HW : Hid (Below wo.heap.size wo wr) := hW
          have HGt : Hid (∀ q y, p ≤ q → out[q]? = some y → cmpN y.tn kv.tn > 0) := hgt
          clear hW hgt
          cases p with
          | zero =>
            have hF : Hid (Found out kv 0) := ⟨hp, HGt.out, .inl rfl⟩
            have hne := later_some wr
            have hd : decide (0 < 0) = false := by simp
            go_wp2_with fail
            refine wp_region_later (by kernel_rfl) (by kernel_rfl) ?_
            repeat (go_big_quiet_step (fail))
            refine wpQuiet_nil ?_
            intro _ hw'
            obtain ⟨b3, hw''⟩ := hw'
            subst hw''
            have HW9 : Hid (Below wo.heap.size wo b3.now) := HW.out.trans (b3.below.mono HW.out.size)
            obtain ⟨W9, hW9⟩ : ∃ W9, b3.now = W9 := ⟨_, rfl⟩
            rw [hW9] at HW9 ⊢
            clear hW9 hne
            have HA9 : Hid (Below W9.heap.size W9 (W9.alloc (.cells #[] 27))) := (Below.refl _ _).alloc (Nat.le_refl _) _
            have HO9 : Hid (RowAt (W9.alloc (.cells #[] 27)) (some ⟨g, 0, none⟩) out.length out) := (HOT.out.below HW9.out).below HA9.out
            have hz9 := HW9.out.size
            have hpo : 0 ≤ out.length := hF.out.le
            have hq0 : (0 : Int) ≤ ((0 : Nat) : Int) := by omega
            have hq1 : ((0 : Nat) : Int) ≤ (out.length : Int) := by omega
            have hq2 : ((0 : Nat) : Int) ≤ (ocap : Int) := by omega
            go_wp2_with (at_builtin; first
              | (refine wpList_append_kvs rfl (.tmp 32) (.tmp 35) rfl W9.heap.size _ [] rfl (row_empty26 W9) (some ⟨g, 0, none⟩) (0) ocap (out.take (0)) rfl (HO9.out.take hF.out.le) (fun e => by cases e) (by simp <;> omega) (by simp) ?_; intro v1 w1 hown1 hgrow1; have HB1 : Hid (Below W9.heap.size W9 w1) := HA9.out.grown hgrow1 (by simp) (fun k e => by cases e; exact Nat.le_refl _); have HO1 : Hid (w1.ownsRow W9.heap.size 27 3 v1 (out.take (0)).length (kvCells (out.take (0)))) := hown1; have t0 := below_cell (HW9.out.trans (HB1.out.mono hz9)) _ _ s0; have t1 := below_cell (HW9.out.trans (HB1.out.mono hz9)) _ _ s1; have t2 := below_cell (HW9.out.trans (HB1.out.mono hz9)) _ _ s2; have hz1 := HB1.out.size; clear hown1 hgrow1)
              | (refine wpList_append_kvs rfl (.tmp 37) (.tmp 42) rfl W9.heap.size v1 (out.take (0)) rfl (owns_below HO1.out ((Below.refl _ _).alloc (Nat.le_refl _) _)) (some ⟨w1.heap.size, 0, none⟩) 1 1 [kv] rfl (RowAt.new w1 kv) (fun e => by cases e) (by simp <;> omega) (by rw [World.size_alloc]; omega) ?_; intro v2 w2 hown2 hgrow2; have HB2 : Hid (Below W9.heap.size W9 w2) := (HB1.out.alloc hz1 _).grown hgrow2 (by rw [World.size_alloc]; omega) (fun k e => (owns_cells HO1.out e).1); have HO2 : Hid (w2.ownsRow W9.heap.size 27 3 v2 (out.take (0) ++ [kv]).length (kvCells (out.take (0) ++ [kv]))) := hown2; have HR2 : Hid (RowAt w2 (some ⟨g, 0, none⟩) out.length out) := (HOT.out.below HW9.out).below HB2.out; have hz2 := HB2.out.size; clear hown2 hgrow2)
              | (refine wpList_append_kvs rfl (.tmp 44) (.tmp 47) rfl W9.heap.size v2 (out.take (0) ++ [kv]) rfl HO2.out (some ⟨g, 0, none⟩) out.length ocap (out.drop (0)) rfl (by simpa using HR2.out) (fun e => by cases e) (by simp <;> omega) hz2 ?_; intro v3 w3 hown3 hgrow3; have HB3 : Hid (Below W9.heap.size W9 w3) := HB2.out.grown hgrow3 hz2 (fun k e => (owns_cells HO2.out e).1); have HO3 : Hid (w3.ownsRow W9.heap.size 27 3 v3 (out.take (0) ++ [kv] ++ out.drop (0)).length (kvCells (out.take (0) ++ [kv] ++ out.drop (0)))) := hown3; clear hown3 hgrow3))
            go_roundw
            case rel =>
              refine ⟨j + 1, v3, out.take (0) ++ [kv] ++ out.drop (0), by omega, rfl, by go_num, owns_base HO3.out (by have := HL.out.size; omega), ?_, ?_, HL.out.trans ((HW9.out.trans (HB3.out.mono hz9)).mono HL.out.size)⟩
              · intro k hk
                simp only [List.mem_append, List.mem_singleton] at hk
                rcases hk with (hk | rfl) | hk
                · exact HIn.out k (List.mem_of_mem_take hk)
                · exact List.mem_of_getElem? HKV.out
                · exact HIn.out k (List.mem_of_mem_drop hk)
              · rw [hF.out.ins (by rw [HM.out]; exact sortN_srt _), HM.out, ← sortN_snoc, List.take_add_one, HKV.out]
                simp
            case measure => simp [intOf]; omega
          | succ p =>
            obtain ⟨y, hy⟩ : ∃ y, out[p]? = some y := ⟨_, List.getElem?_eq_getElem (by omega)⟩
            obtain ⟨b2, off2, e, y0, y1, y2⟩ := (HOT.out.below HW.out).get hy
            cases e
            rw [Nat.zero_add] at y0 y1 y2
            have HC : Hid (∀ V, Below wr.heap.size wr V → Calls Tryz.prog 49 #[.agg #[.string y.x.1, .int .i64 y.x.2, .slice y.a (lenF y.l) y.c], .agg #[.string kv.x.1, .int .i64 kv.x.2, .slice kv.a (lenF kv.l) kv.c]] V fun e w' => e = .returned (.int .i64 (cmpN y.tn kv.tn)) ∧ Below V.heap.size V w') := fun V hV =>
              rcompare_all _ y.x kv.x y.a kv.a y.c kv.c y.l kv.l V (Nat.le_refl _) ((((HK.out y (HIn.out y (List.mem_of_getElem? hy))).below HL.out).below HW.out).below hV) ((HTk.out.below HW.out).below hV)
            obtain ⟨cv, hcv⟩ : ∃ cv, cmpN y.tn kv.tn = cv := ⟨_, rfl⟩
            rw [hcv] at HC
            have HY : Hid (out[p]? = some y) := hy
            have HCV : Hid (cmpN y.tn kv.tn = cv) := hcv
            have t0 := below_cell HW.out _ _ s0
            have t1 := below_cell HW.out _ _ s1
            have t2 := below_cell HW.out _ _ s2
            have hne := later_some wr
            have d0 := later_cell y0; have d1 := later_cell y1; have d2 := later_cell y2
            have d3 := later_cell t0; have d4 := later_cell t1; have d5 := later_cell t2
            have hd : decide (0 < p + 1) = true := by simp
            have hp0 : (0 : Int) ≤ (p : Int) := by omega
            have hpn : (p : Int) < (out.length : Int) := by omega
            clear hy hcv y0 y1 y2 t0 t1 t2
            go_wp2_with fail
            refine wp_region_later (by kernel_rfl) (by kernel_rfl) ?_
            repeat (go_big_quiet_step (first | (go_at_call 49; refine calls_later (HC.out _ ?_); exact Later.below _) | fail))
            by_cases hc : 0 < cv
            · refine wpQuiet_nil ?_
              intro _ hw'
              obtain ⟨b3, hw''⟩ := hw'
              subst hw''
              have HW9 : Hid (Below wo.heap.size wo b3.now) := HW.out.trans (b3.below.mono HW.out.size)
              clear d0 d1 d2 d3 d4 d5 hne
              go_wp2
              go_roundw
              case rel =>
                refine ⟨p, by omega, by go_num, HW9.out, fun q z hq hz => ?_⟩
                rcases Nat.lt_or_ge p q with h | h
                · exact HGt.out q z h hz
                · obtain rfl : q = p := by omega
                  rw [HY.out] at hz
                  cases hz
                  rw [HCV.out]
                  exact hc
              case measure => simp [intOf]
            · have hF : Hid (Found out kv (p + 1)) := ⟨hp, HGt.out, .inr (fun z hz => by rw [Nat.add_sub_cancel, HY.out] at hz; cases hz; rw [HCV.out]; omega)⟩
              refine wpQuiet_nil ?_
              intro _ hw'
              obtain ⟨b3, hw''⟩ := hw'
              subst hw''
              have HW9 : Hid (Below wo.heap.size wo b3.now) := HW.out.trans (b3.below.mono HW.out.size)
              obtain ⟨W9, hW9⟩ : ∃ W9, b3.now = W9 := ⟨_, rfl⟩
              rw [hW9] at HW9 ⊢
              clear hW9 d0 d1 d2 d3 d4 d5 hne
              have HA9 : Hid (Below W9.heap.size W9 (W9.alloc (.cells #[] 27))) := (Below.refl _ _).alloc (Nat.le_refl _) _
              have HO9 : Hid (RowAt (W9.alloc (.cells #[] 27)) (some ⟨g, 0, none⟩) out.length out) := (HOT.out.below HW9.out).below HA9.out
              have hz9 := HW9.out.size
              have hpo : (p + 1) ≤ out.length := hF.out.le
              have hq0 : (0 : Int) ≤ (((p + 1) : Nat) : Int) := by omega
              have hq1 : (((p + 1) : Nat) : Int) ≤ (out.length : Int) := by omega
              have hq2 : (((p + 1) : Nat) : Int) ≤ (ocap : Int) := by omega
              by_cases hcap : ocap = p + 1
              · have hdr : out.drop (p + 1) = [] := List.drop_eq_nil_of_le (by omega)
                have hx1 : out.length - (p + 1) = 0 := by omega
                have hx2 : ocap - (p + 1) = 0 := by omega
                have Hcap : Hid (ocap = p + 1) := hcap
                clear hcap
                go_wp2_with (at_builtin; first
                  | (refine wpList_append_kvs rfl (.tmp 32) (.tmp 35) rfl W9.heap.size _ [] rfl (row_empty26 W9) (some ⟨g, 0, none⟩) ((p + 1)) ocap (out.take ((p + 1))) rfl (HO9.out.take hF.out.le) (fun e => by cases e) (by simp <;> omega) (by simp) ?_; intro v1 w1 hown1 hgrow1; have HB1 : Hid (Below W9.heap.size W9 w1) := HA9.out.grown hgrow1 (by simp) (fun k e => by cases e; exact Nat.le_refl _); have HO1 : Hid (w1.ownsRow W9.heap.size 27 3 v1 (out.take ((p + 1))).length (kvCells (out.take ((p + 1))))) := hown1; have t0 := below_cell (HW9.out.trans (HB1.out.mono hz9)) _ _ s0; have t1 := below_cell (HW9.out.trans (HB1.out.mono hz9)) _ _ s1; have t2 := below_cell (HW9.out.trans (HB1.out.mono hz9)) _ _ s2; have hz1 := HB1.out.size; clear hown1 hgrow1)
                  | (refine wpList_append_kvs rfl (.tmp 37) (.tmp 42) rfl W9.heap.size v1 (out.take ((p + 1))) rfl (owns_below HO1.out ((Below.refl _ _).alloc (Nat.le_refl _) _)) (some ⟨w1.heap.size, 0, none⟩) 1 1 [kv] rfl (RowAt.new w1 kv) (fun e => by cases e) (by simp <;> omega) (by rw [World.size_alloc]; omega) ?_; intro v2 w2 hown2 hgrow2; have HB2 : Hid (Below W9.heap.size W9 w2) := (HB1.out.alloc hz1 _).grown hgrow2 (by rw [World.size_alloc]; omega) (fun k e => (owns_cells HO1.out e).1); have HO2 : Hid (w2.ownsRow W9.heap.size 27 3 v2 (out.take ((p + 1)) ++ [kv]).length (kvCells (out.take ((p + 1)) ++ [kv]))) := hown2; have HR2 : Hid (RowAt w2 (some ⟨g, 0, none⟩) out.length out) := (HOT.out.below HW9.out).below HB2.out; have hz2 := HB2.out.size; clear hown2 hgrow2)
                  | (refine wpList_append_kvs rfl (.tmp 44) (.tmp 47) rfl W9.heap.size v2 (out.take ((p + 1)) ++ [kv]) rfl HO2.out (some ⟨g, 0, none⟩) 0 0 (out.drop ((p + 1))) rfl (by rw [hdr]; exact RowAt.empty _ _) (fun e => by cases e) (by simp <;> omega) hz2 ?_; intro v3 w3 hown3 hgrow3; have HB3 : Hid (Below W9.heap.size W9 w3) := HB2.out.grown hgrow3 hz2 (fun k e => (owns_cells HO2.out e).1); have HO3 : Hid (w3.ownsRow W9.heap.size 27 3 v3 (out.take ((p + 1)) ++ [kv] ++ out.drop ((p + 1))).length (kvCells (out.take ((p + 1)) ++ [kv] ++ out.drop ((p + 1))))) := hown3; clear hown3 hgrow3))
                go_roundw
                case rel =>
                  refine ⟨j + 1, v3, out.take ((p + 1)) ++ [kv] ++ out.drop ((p + 1)), by omega, rfl, by go_num, owns_base HO3.out (by have := HL.out.size; omega), ?_, ?_, HL.out.trans ((HW9.out.trans (HB3.out.mono hz9)).mono HL.out.size)⟩
                  · intro k hk
                    simp only [List.mem_append, List.mem_singleton] at hk
                    rcases hk with (hk | rfl) | hk
                    · exact HIn.out k (List.mem_of_mem_take hk)
                    · exact List.mem_of_getElem? HKV.out
                    · exact HIn.out k (List.mem_of_mem_drop hk)
                  · rw [hF.out.ins (by rw [HM.out]; exact sortN_srt _), HM.out, ← sortN_snoc, List.take_add_one, HKV.out]
                    simp
                case measure => simp [intOf]; omega
              · have hx3 : ¬ (ocap - (p + 1) = 0) := by omega
                go_wp2_with (at_builtin; first
                  | (refine wpList_append_kvs rfl (.tmp 32) (.tmp 35) rfl W9.heap.size _ [] rfl (row_empty26 W9) (some ⟨g, 0, none⟩) ((p + 1)) ocap (out.take ((p + 1))) rfl (HO9.out.take hF.out.le) (fun e => by cases e) (by simp <;> omega) (by simp) ?_; intro v1 w1 hown1 hgrow1; have HB1 : Hid (Below W9.heap.size W9 w1) := HA9.out.grown hgrow1 (by simp) (fun k e => by cases e; exact Nat.le_refl _); have HO1 : Hid (w1.ownsRow W9.heap.size 27 3 v1 (out.take ((p + 1))).length (kvCells (out.take ((p + 1))))) := hown1; have t0 := below_cell (HW9.out.trans (HB1.out.mono hz9)) _ _ s0; have t1 := below_cell (HW9.out.trans (HB1.out.mono hz9)) _ _ s1; have t2 := below_cell (HW9.out.trans (HB1.out.mono hz9)) _ _ s2; have hz1 := HB1.out.size; clear hown1 hgrow1)
                  | (refine wpList_append_kvs rfl (.tmp 37) (.tmp 42) rfl W9.heap.size v1 (out.take ((p + 1))) rfl (owns_below HO1.out ((Below.refl _ _).alloc (Nat.le_refl _) _)) (some ⟨w1.heap.size, 0, none⟩) 1 1 [kv] rfl (RowAt.new w1 kv) (fun e => by cases e) (by simp <;> omega) (by rw [World.size_alloc]; omega) ?_; intro v2 w2 hown2 hgrow2; have HB2 : Hid (Below W9.heap.size W9 w2) := (HB1.out.alloc hz1 _).grown hgrow2 (by rw [World.size_alloc]; omega) (fun k e => (owns_cells HO1.out e).1); have HO2 : Hid (w2.ownsRow W9.heap.size 27 3 v2 (out.take ((p + 1)) ++ [kv]).length (kvCells (out.take ((p + 1)) ++ [kv]))) := hown2; have HR2 : Hid (RowAt w2 (some ⟨g, 0, none⟩) out.length out) := (HOT.out.below HW9.out).below HB2.out; have hz2 := HB2.out.size; clear hown2 hgrow2)
                  | (refine wpList_append_kvs rfl (.tmp 44) (.tmp 47) rfl W9.heap.size v2 (out.take ((p + 1)) ++ [kv]) rfl HO2.out (some ⟨g, (p + 1) * 3, none⟩) (out.length - (p + 1)) (ocap - (p + 1)) (out.drop ((p + 1))) rfl (by have := HR2.out.drop (p := p + 1) hpo; rwa [Nat.zero_add] at this) (fun e => by cases e) (by simp <;> omega) hz2 ?_; intro v3 w3 hown3 hgrow3; have HB3 : Hid (Below W9.heap.size W9 w3) := HB2.out.grown hgrow3 hz2 (fun k e => (owns_cells HO2.out e).1); have HO3 : Hid (w3.ownsRow W9.heap.size 27 3 v3 (out.take ((p + 1)) ++ [kv] ++ out.drop ((p + 1))).length (kvCells (out.take ((p + 1)) ++ [kv] ++ out.drop ((p + 1))))) := hown3; clear hown3 hgrow3))
                go_roundw
                case rel =>
                  refine ⟨j + 1, v3, out.take ((p + 1)) ++ [kv] ++ out.drop ((p + 1)), by omega, rfl, by go_num, owns_base HO3.out (by have := HL.out.size; omega), ?_, ?_, HL.out.trans ((HW9.out.trans (HB3.out.mono hz9)).mono HL.out.size)⟩
                  · intro k hk
                    simp only [List.mem_append, List.mem_singleton] at hk
                    rcases hk with (hk | rfl) | hk
                    · exact HIn.out k (List.mem_of_mem_take hk)
                    · exact List.mem_of_getElem? HKV.out
                    · exact HIn.out k (List.mem_of_mem_drop hk)
                  · rw [hF.out.ins (by rw [HM.out]; exact sortN_srt _), HM.out, ← sortN_snoc, List.take_add_one, HKV.out]
                    simp
                case measure => simp [intOf]; omega
    · obtain rfl : j = ks.length := by omega
      have HM' : Hid (out.map Kv.tn = sortN (ks.map Kv.tn)) := by have := HM.out; rwa [List.take_length] at this
      go_wp2
      go_ret
      exact ⟨v, out, rfl, HRow.out, HIn.out, HM'.out, HL.out⟩
end Go.Proofs.YtgcnjpiiofjljaaGreatDoor
/- A list of terms under way: a row of its own, the terms' lists elsewhere; what the document's Clones answers. -/
namespace Go.Proofs.YtgcnjpiiofjljaaGreatDoor
open Go.RowKit Go.Deep

structure Lst (B : Nat) (W : World) (v : Value) (ks : List Kv) : Prop where
  row : W.ownsRow B 27 3 v ks.length (kvCells ks)
  own : ∀ k ∈ ks, OwnTm false (fun q => B ≤ q ∧ some q ≠ v.ownBlock) W k.x k.a k.c k.l
set_option maxRecDepth 100000 in
theorem Lst.nil (B : Nat) (W : World) : Lst B W (.slice none 0 0) [] := ⟨World.ownsRow_nil _ _ _ _, by simp⟩
set_option maxRecDepth 100000 in
theorem Lst.below {B : Nat} {W W' : World} {v : Value} {ks : List Kv} (h : Lst B W v ks) (hb : Below W.heap.size W W') : Lst B W' v ks := ⟨owns_below h.row hb, fun k hk => (h.own k hk).below hb⟩
set_option maxRecDepth 100000 in
theorem Lst.base {B B' : Nat} {W : World} {v : Value} {ks : List Kv} (h : Lst B W v ks) (hB : B' ≤ B) : Lst B' W v ks := ⟨owns_base h.row hB, fun k hk => (h.own k hk).mono (fun q _ hq => ⟨by omega, hq.2⟩)⟩
set_option maxRecDepth 100000 in
theorem Lst.lt {B : Nat} {W : World} {v : Value} {ks : List Kv} {g : Nat} (h : Lst B W v ks) (hg : v.ownBlock = some g) : g < W.heap.size := by
  obtain ⟨cur, hc⟩ := (owns_cells h.row hg).2
  exact (Array.getElem?_eq_some_iff.1 hc).1
set_option maxRecDepth 100000 in
theorem Lst.grow {B : Nat} {W W1 W2 : World} {v v' : Value} {ks ms : List Kv} (h : Lst B W v ks) (hW : Below W.heap.size W W1) (hm : ∀ k ∈ ms, OwnTm false (fun q => W.heap.size ≤ q) W1 k.x k.a k.c k.l) (hB : B ≤ W.heap.size)
    (hg : W1.grownBy W2 v.ownBlock) (hat : v'.ownBlock = v.ownBlock ∨ v'.ownBlock = some W1.heap.size) (ho : W2.ownsRow B 27 3 v' (ks ++ ms).length (kvCells (ks ++ ms))) : Lst B W2 v' (ks ++ ms) := by
  refine ⟨ho, fun k hk => ?_⟩
  have h2 : OwnTm false (fun q => (B ≤ q ∧ some q ≠ v'.ownBlock) ∧ some q ≠ v.ownBlock) W1 k.x k.a k.c k.l := by
    rcases List.mem_append.1 hk with hk | hk
    · have h0 : OwnTm false (fun q => (B ≤ q ∧ some q ≠ v'.ownBlock) ∧ some q ≠ v.ownBlock) W k.x k.a k.c k.l := (h.own k hk).mono (fun q hq hp => ⟨⟨hp.1, by
        rcases hat with e | e
        · rw [e]; exact hp.2
        · rw [e]; intro e'; cases e'; have := hW.size; omega⟩, hp.2⟩)
      exact h0.below hW
    · refine (hm k hk).mono (fun q hq hp => ?_)
      have hne : some q ≠ v.ownBlock := fun e => by have := h.lt e.symm; omega
      refine ⟨⟨by omega, ?_⟩, hne⟩
      rcases hat with e | e
      · rw [e]; exact hne
      · rw [e]; intro e'; cases e'; omega
  exact (h2.keep (fun q hq hlt => hg.block q hlt hq.2)).mono (fun q _ hq => hq.1)
set_option maxRecDepth 100000 in
/-- append of what another slice holds: nil, or some. -/
theorem wpList_append_lst {ops : Array Oper} {rest : List Oper} {o : Oper} {a : Act} {Q : Exit → Act → World → Prop} {W : World} (hgd : o.guard = none) (s x : Operand)
    (ho : o.op = .call { callee := .builtin .append, args := #[s, x], argTypes := #[25, 25] }) (base : Nat) (v : Value) (ks : List Kv) (hs : a.eval s = v) (hown : W.ownsRow base 27 3 v ks.length (kvCells ks))
    (sa : Option Addr) (m c : Nat) (ms : List Kv) (hx : a.eval x = .slice sa m c) (hm : RowAt W sa m ms) (hnil : sa = none → c = 0) (hsome : sa ≠ none → 0 < m) (hbig : ks.length + m ≤ 2932031007400) (hbase : base ≤ W.heap.size)
    (h : ∀ v' w', w'.ownsRow base 27 3 v' (ks ++ ms).length (kvCells (ks ++ ms)) → W.grownBy w' v.ownBlock → (v'.ownBlock = v.ownBlock ∨ v'.ownBlock = some W.heap.size) → wpList Tryz.prog ops Q rest (a.put o.dst v') w') : wpList Tryz.prog ops Q (o :: rest) a W := by
  obtain ⟨i0, hi, hz0, hz1, hz2⟩ := info_parts Tryz.info27
  have hmax : maxLen = 9223372036854775807 := rfl
  rcases sa with _ | ⟨b, off, sp⟩
  · obtain rfl : ms = [] := by
      cases ms with
      | nil => rfl
      | cons k r =>
        obtain ⟨_, _, e, _⟩ := hm.get (j := 0) (k := k) rfl
        cases e
    obtain rfl := hm.len
    obtain rfl := hnil rfl
    refine wpList_append_own_none hgd s x 25 ho base 27 i0 3 Tryz.underlying25 hi v ks.length (kvCells ks) hs hown hx (h v W (by simpa using hown) ?_ (.inl rfl))
    exact ⟨rfl, rfl, rfl, Nat.le_refl _, fun _ _ _ => rfl⟩
  · have hlm := hm.len
    refine wpList_append_lies _ hgd s x 25 ho base 27 i0 _ 3 48 Tryz.underlying25 hi hz0 hz1 hz2 rfl (by decide) v ks.length (kvCells ks) hs hown ⟨b, off, sp⟩ m c (kvCells ms) hx (by rw [kvCells_len, hlm]) (fun j u hu => ?_) (kvCells_one ms) (hsome (by simp)) (by omega) (by omega) hbase _ rfl ?_
    · obtain ⟨b', off', e, hc⟩ := hm.cells j u hu
      cases e
      rw [← hc]
      congr 1
      unfold Addr.add
      split <;> simp_all
    · intro g cap w' h1 h2 h3 _
      refine h _ w' ?_ h2 ?_
      · rw [kvCells_append, List.length_append, ← hlm]
        exact h1
      · rcases h3 with h3 | h3
        · exact .inl h3.symm
        · exact .inr (by rw [h3]; rfl)

set_option maxRecDepth 100000 in
set_option maxHeartbeats 2000000 in
theorem clones_any (a : Option Addr) (F : Fo) (cap : Nat) (w : World) (hA : ArgsAt w a F) (hs : lenF F ≤ 2932031007319) :
    Calls Tryz.prog 84 #[.slice a (lenF F) cap] w fun e w' => ∃ v ks, e = .returned v ∧ Lst w.heap.size w' v ks ∧ (ks = [] → v = .slice none 0 0) ∧ ks.map Kv.tn = kidsL F ∧ Below w.heap.size w w' := by
  have HA : Hid (ArgsAt w a F) := hA
  clear hA
  go_enter Tryz.func84, Tryz.ntmps84
  go_wp2
  go_loopw [3, 4] (fun ov i wr => ∃ (j : Nat) (v : Value) (ks : List Kv), j ≤ lenF F ∧ v = ov ∧ i = .int .i64 j ∧ Lst w.heap.size wr v ks ∧ (ks = [] → v = .slice none 0 0) ∧ ks.map Kv.tn = (kidsL F).take j ∧ Below w.heap.size w wr) (fun _ i _ => lenF F - (intOf i).toNat)
  case atStart => exact ⟨0, _, [], Nat.zero_le _, rfl, rfl, Lst.nil _ _, fun _ => rfl, by simp, Below.refl _ _⟩
  case round =>
    obtain ⟨j, v, ks, hj, rfl, rfl, hL, hnil, hmap, hlow⟩ := hrel
    have HN : Hid (ks = [] → v = .slice none 0 0) := hnil
    have HL : Hid (Lst w.heap.size wr v ks) := hL
    have HM : Hid (ks.map Kv.tn = (kidsL F).take j) := hmap
    have HB : Hid (Below w.heap.size w wr) := hlow
    have hkl : ks.length = j := by
      have := congrArg List.length hmap
      rw [List.length_map, List.length_take, kids_len] at this
      omega
    clear hL hnil hmap hlow
    by_cases hlt : j < lenF F
    · obtain ⟨bb, oo, rfl, hkk⟩ := HA.out.get (by omega)
      obtain ⟨y, a1, c1, l1, kd⟩ := hkk.kid (k := j) hlt
      have kd' := kd.below HB.out
      have p0 := kd'.name; have p1 := kd'.sym; have p2 := kd'.list
      have KD : Hid (Kid wr F bb oo j y a1 c1 l1) := kd'
      have hj0 : (0 : Int) ≤ (j : Int) := by omega
      have hjn : (j : Int) < (lenF F : Int) := by omega
      clear kd kd' hkk
      have HC : Hid (∀ W, Below wr.heap.size wr W → Calls Tryz.prog 35 #[.agg #[.string y.1, .int .i64 y.2, .slice a1 (lenF l1) c1]] W fun e w' => ∃ a' c', e = .returned (.agg #[.string y.1, .int .i64 y.2, .slice a' (lenF l1) c']) ∧ RowTm W.heap.size w' y a' c' l1 ∧ Below W.heap.size W w') := fun W hW => rclone_any y l1 a1 c1 W (KD.out.at_.below hW)
      go_wp2_with (first
        | (go_at_call 35; refine (HC.out _ (Below.refl _ _)).mono ?_; rintro e w1 ⟨a', c', rfl, ho1, hb1⟩; have HO1 : Hid (OwnTm false (fun q => wr.heap.size ≤ q) w1 y a' c' l1) := ho1.own; have HB1 : Hid (Below wr.heap.size wr w1) := hb1; have hz1 := hb1.size; clear ho1 hb1)
        | (at_builtin; refine wpList_append_lst rfl _ _ rfl w.heap.size v ks rfl (owns_below HL.out.row (HB1.out.alloc hz1 _)) (some ⟨w1.heap.size, 0, none⟩) 1 1 [⟨y, l1, a', c'⟩] rfl (RowAt.new w1 ⟨y, l1, a', c'⟩) (fun e => by cases e) (fun _ => Nat.one_pos) (by omega) (by have := HB.out.size; rw [World.size_alloc]; omega) ?_; intro v2 w2 hown2 hgrow2 hat2; have HL2 : Hid (Lst w.heap.size w2 v2 (ks ++ [⟨y, l1, a', c'⟩])) := HL.out.grow (HB1.out.alloc hz1 _) (fun k hk => by simp only [List.mem_singleton] at hk; subst hk; exact HO1.out.below ((Below.refl _ _).alloc (Nat.le_refl _) _)) HB.out.size hgrow2 hat2 hown2; have HB2 : Hid (Below w.heap.size w w2) := HB.out.trans (((HB1.out.alloc hz1 _).mono HB.out.size).grown hgrow2 (by have := HB.out.size; rw [World.size_alloc]; omega) (fun k e => (owns_cells HL.out.row e).1)); clear hown2 hgrow2 hat2))
      go_roundw
      case rel =>
        obtain ⟨B1, O1, sp⟩ := KD.out.split
        exact ⟨j + 1, _, _, by omega, rfl, by go_num, HL2.out, fun e => by simp at e, by rw [kids_take sp, ← HM.out]; simp [Kv.tn], HB2.out⟩
      case measure => simp [intOf]; omega
    · obtain rfl : j = lenF F := by omega
      have HM' : Hid (ks.map Kv.tn = kidsL F) := by have := HM.out; rwa [List.take_of_length_le (by rw [kids_len]; exact Nat.le_refl _)] at this
      go_wp2
      go_ret
      exact ⟨v, ks, rfl, HL.out, HN.out, HM'.out, HB.out⟩
end Go.Proofs.YtgcnjpiiofjljaaGreatDoor
/- Binds in memory: their cells; a list of binds under way; lent binds. -/
namespace Go.Proofs.YtgcnjpiiofjljaaGreatDoor
open Go.RowKit Go.Deep

/-- A variable and the term bound to it, with where the term's list lies. -/
abbrev Bk := ByteArray × Kv
def bkCells (x : Bk) : List Value := [.string x.1, .string x.2.x.1, .int .i64 x.2.x.2, .slice x.2.a (lenF x.2.l) x.2.c]
def bkAll (l : List Bk) : List Value := l.flatMap bkCells
def bkBn (x : Bk) : Bn := (x.1, x.2.tn)
theorem bkAll_len : ∀ l : List Bk, (bkAll l).length = l.length * 4
  | [] => rfl
  | x :: r => by
    have := bkAll_len r
    simp only [bkAll, List.flatMap_cons, List.length_append, List.length_cons] at this ⊢
    simp only [bkCells, List.length_cons, List.length_nil]
    omega
theorem bkAll_snoc (l : List Bk) (x : Bk) : bkAll (l ++ [x]) = bkAll l ++ bkCells x := by simp [bkAll]
theorem bk_one (x : Bk) : ∀ u ∈ bkCells x, u.oneCell' = true := by
  intro u hu
  simp [bkCells] at hu
  rcases hu with rfl | rfl | rfl | rfl <;> rfl
theorem bkAll_at : ∀ (l : List Bk) (i : Nat) (h : i < l.length) (k : Nat), k < 4 → (bkAll l)[i * 4 + k]? = (bkCells l[i])[k]?
  | x :: r, 0, _, k, hk => by
    show (bkCells x ++ bkAll r)[0 * 4 + k]? = _
    rw [List.getElem?_append_left (by simp [bkCells]; omega)]
    simp
  | x :: r, i + 1, h, k, hk => by
    show (bkCells x ++ bkAll r)[(i + 1) * 4 + k]? = _
    rw [List.getElem?_append_right (by simp [bkCells]; omega)]
    have := bkAll_at r i (by simpa using h) k hk
    rw [show (i + 1) * 4 + k - (bkCells x).length = i * 4 + k by simp [bkCells]; omega]
    simpa using this
set_option maxRecDepth 100000 in
theorem Tryz.info42 : (Tryz.prog.info? 42).map (fun i => (i.zero, i.size, i.bytes)) = some (some (.agg #[.string ⟨#[]⟩, .string ⟨#[]⟩, .int .i64 0, .slice none 0 0]), 4, 64) := by kernel_rfl
set_option maxRecDepth 100000 in
/-- append of one bind. -/
theorem wpList_append_bk {ops : Array Oper} {rest : List Oper} {o : Oper} {a : Act} {Q : Exit → Act → World → Prop} {W : World} (hgd : o.guard = none) (s x : Operand)
    (ho : o.op = .call { callee := .builtin .append, args := #[s, x], argTypes := #[24, 24] }) (base : Nat) (v : Value) (bs : List Bk) (hs : a.eval s = v) (hown : W.ownsRow base 42 4 v bs.length (bkAll bs))
    (nb : Nat) (y : Bk) (hx : a.eval x = .slice (some ⟨nb, 0, none⟩) 1 1) (hm : ∀ j u, (bkCells y)[j]? = some u → W.cell? ((⟨nb, 0, none⟩ : Addr).add j) = some u) (hbig : bs.length ≤ 1048576) (hbase : base ≤ W.heap.size)
    (h : ∀ g' cap' w', w'.ownsRow base 42 4 (.slice (some ⟨g', 0, none⟩) (bs.length + 1) cap') (bs ++ [y]).length (bkAll (bs ++ [y])) → W.grownBy w' v.ownBlock → (some g' = v.ownBlock ∨ g' = W.heap.size) → wpList Tryz.prog ops Q rest (a.put o.dst (.slice (some ⟨g', 0, none⟩) (bs.length + 1) cap')) w') : wpList Tryz.prog ops Q (o :: rest) a W := by
  obtain ⟨i0, hi, hz0, hz1, hz2⟩ := info_parts Tryz.info42
  have hmax : maxLen = 9223372036854775807 := rfl
  refine wpList_append_lies _ hgd s x 24 ho base 42 i0 _ 4 64 Tryz.underlying24 hi hz0 hz1 hz2 rfl (by decide) v bs.length (bkAll bs) hs hown ⟨nb, 0, none⟩ 1 1 (bkCells y) hx rfl hm (bk_one y) (by decide) (by omega) (by omega) hbase _ rfl ?_
  intro g cap w' h1 h2 h3 _
  refine h g cap w' ?_ h2 ?_
  · rw [bkAll_snoc, List.length_append]
    exact h1
  · rcases h3 with h3 | h3
    · exact .inl h3.symm
    · exact .inr h3

/-- Binds under way: a row of its own, the terms' lists elsewhere. -/
structure LstB (mk : Bool) (B : Nat) (W : World) (v : Value) (ks : List Bk) : Prop where
  row : W.ownsRow B 42 4 v ks.length (bkAll ks)
  own : ∀ k ∈ ks, OwnTm mk (fun q => B ≤ q ∧ some q ≠ v.ownBlock) W k.2.x k.2.a k.2.c k.2.l
set_option maxRecDepth 100000 in
theorem LstB.nil (mk : Bool) (B : Nat) (W : World) : LstB mk B W (.slice none 0 0) [] := ⟨World.ownsRow_nil _ _ _ _, by simp⟩
set_option maxRecDepth 100000 in
theorem LstB.below {mk : Bool} {B : Nat} {W W' : World} {v : Value} {ks : List Bk} (h : LstB mk B W v ks) (hb : Below W.heap.size W W') : LstB mk B W' v ks := ⟨owns_below h.row hb, fun k hk => (h.own k hk).below hb⟩
set_option maxRecDepth 100000 in
theorem LstB.base {mk : Bool} {B B' : Nat} {W : World} {v : Value} {ks : List Bk} (h : LstB mk B W v ks) (hB : B' ≤ B) : LstB mk B' W v ks := ⟨owns_base h.row hB, fun k hk => (h.own k hk).mono (fun q _ hq => ⟨by omega, hq.2⟩)⟩
set_option maxRecDepth 100000 in
theorem LstB.lt {mk : Bool} {B : Nat} {W : World} {v : Value} {ks : List Bk} {g : Nat} (h : LstB mk B W v ks) (hg : v.ownBlock = some g) : g < W.heap.size := by
  obtain ⟨cur, hc⟩ := (owns_cells h.row hg).2
  exact (Array.getElem?_eq_some_iff.1 hc).1
set_option maxRecDepth 100000 in
theorem LstB.grow {mk : Bool} {B : Nat} {W W1 W2 : World} {v v' : Value} {ks ms : List Bk} (h : LstB mk B W v ks) (hW : Below W.heap.size W W1) (hm : ∀ k ∈ ms, OwnTm mk (fun q => W.heap.size ≤ q) W1 k.2.x k.2.a k.2.c k.2.l) (hB : B ≤ W.heap.size)
    (hg : W1.grownBy W2 v.ownBlock) (hat : v'.ownBlock = v.ownBlock ∨ v'.ownBlock = some W1.heap.size) (ho : W2.ownsRow B 42 4 v' (ks ++ ms).length (bkAll (ks ++ ms))) : LstB mk B W2 v' (ks ++ ms) := by
  refine ⟨ho, fun k hk => ?_⟩
  have h2 : OwnTm mk (fun q => (B ≤ q ∧ some q ≠ v'.ownBlock) ∧ some q ≠ v.ownBlock) W1 k.2.x k.2.a k.2.c k.2.l := by
    rcases List.mem_append.1 hk with hk | hk
    · have h0 : OwnTm mk (fun q => (B ≤ q ∧ some q ≠ v'.ownBlock) ∧ some q ≠ v.ownBlock) W k.2.x k.2.a k.2.c k.2.l := (h.own k hk).mono (fun q hq hp => ⟨⟨hp.1, by
        rcases hat with e | e
        · rw [e]; exact hp.2
        · rw [e]; intro e'; cases e'; have := hW.size; omega⟩, hp.2⟩)
      exact h0.below hW
    · refine (hm k hk).mono (fun q hq hp => ?_)
      have hne : some q ≠ v.ownBlock := fun e => by have := h.lt e.symm; omega
      refine ⟨⟨by omega, ?_⟩, hne⟩
      rcases hat with e | e
      · rw [e]; exact hne
      · rw [e]; intro e'; cases e'; omega
  exact (h2.keep (fun q hq hlt => hg.block q hlt hq.2)).mono (fun q _ hq => hq.1)
/-- One bind of a row. -/
theorem row_bd {B : Nat} {W : World} {ks : List Bk} {g n cap : Nat} (h : W.ownsRow B 42 4 (.slice (some ⟨g, 0, none⟩) n cap) n (bkAll ks)) (i : Nat) (hi : i < ks.length) (ht : TmAt W ks[i].2.x ks[i].2.a ks[i].2.c ks[i].2.l) : BdAt W g (0 + i * 4) (bkBn ks[i]) ks[i].2.a ks[i].2.c := by
  have hat := owns_at h
  have each : ∀ k u, k < 4 → (bkCells ks[i])[k]? = some u → W.cell? ⟨g, 0 + (i * 4 + k), none⟩ = some u := fun k u hk hu => hat _ u (by rw [bkAll_at ks i hi k hk]; exact hu)
  refine ⟨?_, ?_, ?_, ?_, ht⟩
  · have := each 0 _ (by decide) rfl
    rw [Nat.add_zero] at this
    exact this
  · have := each 1 _ (by decide) rfl
    rw [← Nat.add_assoc] at this
    exact this
  · have := each 2 _ (by decide) rfl
    rw [← Nat.add_assoc] at this
    exact this
  · have := each 3 _ (by decide) rfl
    rw [← Nat.add_assoc] at this
    exact this

/-- Lent binds: a row with a mark behind it, and lent terms. -/
structure LentB (w : World) (g cap : Nat) (bs : List Bn) : Prop where
  room : bs.length + 1 ≤ cap
  most : cap ≤ maxLen
  mark : w.cell? ⟨g, bs.length * 4, none⟩ = some (.string markB)
  cells : ∀ i (h : i < bs.length), ∃ a c, BdAt w g (0 + i * 4) bs[i] a c ∧ OwnTm true (fun _ => True) w bs[i].2.1 a c bs[i].2.2
  fits : ∀ x ∈ bs, x.1.size ≤ maxLen
theorem LentB.below {w w' : World} {g cap : Nat} {bs : List Bn} (h : LentB w g cap bs) (hb : Below w.heap.size w w') : LentB w' g cap bs :=
  ⟨h.room, h.most, bd_cell hb _ _ h.mark, fun i hi => let ⟨a, c, h1, h2⟩ := h.cells i hi; ⟨a, c, h1.below hb, h2.below hb⟩, h.fits⟩
theorem LentB.binds {w : World} {g cap : Nat} {bs : List Bn} (h : LentB w g cap bs) : BindsAt w (some ⟨g, 0, none⟩) bs.length bs :=
  ⟨rfl, by have := h.room; have := h.most; omega, fun i hi => let ⟨a, c, h1, _⟩ := h.cells i hi; ⟨g, 0, a, c, rfl, h1⟩, h.fits⟩
/-- A list of lent binds with a mark behind it. -/
theorem lent_of {B : Nat} {W : World} {ks : List Bk} {bs : List Bn} {m : Bk} {g cap : Nat} {P : Nat → Prop} (hm : m.1 = markB) (hr : W.ownsRow B 42 4 (.slice (some ⟨g, 0, none⟩) (ks.length + 1) cap) (ks.length + 1) (bkAll (ks ++ [m]))) (ho : ∀ k ∈ ks, OwnTm true P W k.2.x k.2.a k.2.c k.2.l) (hbs : ks.map bkBn = bs) (hf : ∀ x ∈ bs, x.1.size ≤ maxLen) : LentB W g cap bs := by
  have hl : ks.length = bs.length := by rw [← hbs, List.length_map]
  have hc : ks.length + 1 ≤ cap ∧ cap ≤ maxLen := owns_cap hr
  refine ⟨by omega, hc.2, ?_, fun i hi => ?_, hf⟩
  · have hat := owns_at hr (ks.length * 4) (.string m.1) (by rw [show ks.length * 4 = ks.length * 4 + 0 from rfl, bkAll_at (ks ++ [m]) ks.length (by simp) 0 (by decide)]; simp [bkCells])
    rw [← hl, ← hm]
    simpa using hat
  · have hi' : i < ks.length := by omega
    have e : (ks ++ [m])[i]'(by simp; omega) = ks[i] := List.getElem_append_left hi'
    have h2 := ho ks[i] (List.getElem_mem _)
    have h1 := row_bd hr i (by simp; omega) (by rw [e]; exact h2.tm)
    rw [e] at h1
    have e2 : bkBn ks[i] = bs[i] := by simp [← hbs]
    rw [e2] at h1
    refine ⟨_, _, h1, ?_⟩
    rw [← e2]
    exact h2.mono (fun _ _ _ => trivial)
end Go.Proofs.YtgcnjpiiofjljaaGreatDoor
