/- Which symbols stand in a term: the document's look, the program's marks. -/
import Derived.Test.YtplekhfnidhcoaaTKept
namespace Go.Proofs.Ytplekhfnidhcoaa
open Go.RowKit Go.Shelf Go.Deep

structure One (w : World) (x : ByteArray × Int) (a : Option Addr) (n c : Nat) (W : World) : Prop where
  low : Below w.heap.size w W
  t : TBox W w.heap.size x a n c
theorem One.new (w : World) (x : ByteArray × Int) (a : Option Addr) (n c : Nat) : One w x a n c (w.alloc (.cells #[.string x.1, .int .i64 x.2, .slice a n c] 26)) := ⟨(Below.refl _ w).alloc (Nat.le_refl _) _, TBox.new _ _ _ _ _⟩
theorem One.below {w : World} {x : ByteArray × Int} {a : Option Addr} {n c : Nat} {W W' : World} (h : One w x a n c W) (hb : Below W.heap.size W W') : One w x a n c W' := ⟨h.low.trans (hb.mono h.low.size), h.t.below hb⟩
def stN (s : Int) (x : ByteArray × Int) : Bool := x.1.toList.isEmpty && decide (x.2 = s)
def stF (s : Int) : Fo → Bool
  | .nil => false
  | .node _ _ x l r => (stN s x || stF s l) || stF s r
/-- Does a symbol stand in a term? -/
def stR (s : Int) (x : ByteArray × Int) (l : Fo) : Bool := stN s x || stF s l
def RStOk (k : Nat) : Prop := ∀ (s : Int) (x : ByteArray × Int) (l : Fo) (a : Option Addr) (c : Nat) (w : World), nodesF l ≤ k → TmAt w x a c l →
  Calls Try.prog 27 #[.agg #[.string x.1, .int .i64 x.2, .slice a (lenF l) c], .int .i64 s] w fun e w' => e = .returned (.bool (stR s x l)) ∧ Below w.heap.size w w'
set_option maxRecDepth 100000 in
set_option maxHeartbeats 2000000 in
theorem rst_all : ∀ k, RStOk k := by
  intro k
  induction k using Nat.strongRecOn with
  | _ k ih =>
    intro s x l a c w hk hT
    have HT : Hid (TmAt w x a c l) := hT
    have IH : Hid (∀ j, j < k → RStOk j) := ih
    have O0 : Hid (One w x a (lenF l) c (w.alloc (.cells #[.string x.1, .int .i64 x.2, .slice a (lenF l) c] 26))) := One.new _ _ _ _ _
    have hn : lenF l ≤ 9223372036854775807 := by have := hT.sizes.len; have := hT.sizes.cap; unfold maxLen at *; omega
    have t0 := O0.out.t.c0; have t1 := O0.out.t.c1; have t2' := O0.out.t.c2
    clear hT ih
    cases h1 : stN s x
    · have HD : Hid (stR s x l = stF s l) := hid (by unfold stR; rw [h1, Bool.false_or])
      have h2 : x.1.toList.isEmpty = true → ¬ (x.2 = s) := fun h e => by unfold stN at h1; rw [h, decide_eq_true e] at h1; cases h1
      clear h1
      cases hx : x.1.toList.isEmpty
      all_goals
        first | (have h3 := h2 hx; have h4 : (x.2 == s) = false := beq_eq_false_iff_ne.2 h3) | skip
        clear h2
        go_enter Try.func27, Try.ntmps27
        go_wp2
        clear t0 t1 t2'
        go_loopw [5, 6] (fun i _ wr => ∃ j : Nat, j ≤ lenF l ∧ i = .int .i64 j ∧ One w x a (lenF l) c wr ∧ stF s l = stF s (dropF j l)) (fun i _ _ => lenF l - (intOf i).toNat)
        case atStart => exact ⟨0, Nat.zero_le _, rfl, O0.out, by rw [drop_zero]⟩
        case round =>
          obtain ⟨j, hj, rfl, hO, hf⟩ := hrel
          have t2 := hO.t.c2
          by_cases hlt : j < lenF l
          · obtain ⟨b1, o1, rfl, hk1⟩ := HT.out.args.get (by omega)
            obtain ⟨z, a1, c1, l1, kd⟩ := hk1.kid (k := j) hlt
            have kd' := kd.below hO.low
            obtain ⟨B1, O1, s1⟩ := kd.split
            rw [s1, stF] at hf
            have HF : Hid (stF s l = (stR s z l1 || stF s (dropF (j + 1) l))) := hf
            have p0 := kd'.name; have p1 := kd'.sym; have p2 := kd'.list
            have hC := IH.out (nodesF l1) (by have := kd.less; omega) s z l1 a1 c1 wr (Nat.le_refl _) kd'.at_
            have HO : Hid (One w x (some ⟨b1, o1, none⟩) (lenF l) c wr) := hO
            clear kd kd' hk1 s1 hO hf
            go_wp2_with fail
            refine hC.mono ?_
            rintro e w2 ⟨rfl, hb⟩
            have HO2 : Hid (One w x (some ⟨b1, o1, none⟩) (lenF l) c w2) := HO.out.below hb
            clear hC hb p0 p1 p2 t2
            cases hr : stR s z l1
            · rw [hr, Bool.false_or] at HF
              go_wp2
              go_roundw
              case rel => exact ⟨j + 1, by omega, by go_num, HO2.out, HF.out⟩
              case measure => simp [intOf]; omega
            · rw [hr, Bool.true_or] at HF
              go_wp2
              go_ret
              exact ⟨by rw [HD.out, HF.out]; rfl, HO2.out.low⟩
          · have e1 : j = lenF l := by omega
            rw [e1, drop_end, stF] at hf
            have HF : Hid (stF s l = false) := hf
            clear hf
            go_wp2
            go_ret
            exact ⟨by rw [HD.out, HF.out]; rfl, hO.low⟩
    · have HD : Hid (stR s x l = true) := hid (by unfold stR; rw [h1, Bool.true_or])
      have h2 : x.1.toList.isEmpty = true ∧ x.2 = s := by unfold stN at h1; simpa using h1
      obtain ⟨h2, h3⟩ := h2
      have h4 : (x.2 == s) = true := by simp [h3]
      clear h1
      go_enter Try.func27, Try.ntmps27
      go_wp2
      go_ret
      exact ⟨by rw [HD.out]; rfl, alloc_below0 _ _⟩
/-- A row of marks. -/
structure BoAt (W : World) (g n : Nat) (F : Nat → Bool) : Prop where
  blk : ∃ cur : Array Value, W.heap[g]? = some (.cells cur 4 (0, 0)) ∧ ∀ i, i < n → cur[i]? = some (.bool (F i))
theorem BoAt.same {W W' : World} {g n : Nat} {F : Nat → Bool} (h : BoAt W g n F) (hs : W'.heap[g]? = W.heap[g]?) : BoAt W' g n F := let ⟨cur, h1, h2⟩ := h.blk; ⟨cur, hs.trans h1, h2⟩
theorem BoAt.cell {W : World} {g n : Nat} {F : Nat → Bool} (h : BoAt W g n F) (i : Nat) (hi : i < n) : W.cell? ⟨g, i, none⟩ = some (.bool (F i)) := let ⟨_, h1, h2⟩ := h.blk; cell_box h1 (h2 i hi)
theorem BoAt.free {W : World} {g n : Nat} {F : Nat → Bool} (h : BoAt W g n F) (i : Nat) : W.frozen? ⟨g, i, none⟩ = false := let ⟨_, h1, _⟩ := h.blk; by simp [World.frozen?, h1]
theorem BoAt.lt {W : World} {g n : Nat} {F : Nat → Bool} (h : BoAt W g n F) : g < W.heap.size := let ⟨_, h1, _⟩ := h.blk; (Array.getElem?_eq_some_iff.1 h1).1
theorem BoAt.below {W W' : World} {g n : Nat} {F : Nat → Bool} (h : BoAt W g n F) (hb : Below W.heap.size W W') : BoAt W' g n F := h.same (hb.block g h.lt)
theorem BoAt.ext {W : World} {g n : Nat} {F F' : Nat → Bool} (h : BoAt W g n F) (hF : ∀ q, q < n → F' q = F q) : BoAt W g n F' := let ⟨cur, h1, h2⟩ := h.blk; ⟨cur, h1, fun i hi => by rw [hF i hi]; exact h2 i hi⟩
theorem BoAt.set {W : World} {g n : Nat} {F : Nat → Bool} (h : BoAt W g n F) (i : Nat) (x : Bool) {F' : Nat → Bool} (hF : ∀ q, q < n → F' q = if q = i then x else F q) : BoAt (W.setCell ⟨g, i, none⟩ (.bool x)) g n F' := by
  obtain ⟨cur, h1, h2⟩ := h.blk
  refine ⟨_, block_set h1 _, fun j hj => ?_⟩
  have h3 := h2 j hj
  have h4 := (Array.getElem?_eq_some_iff.1 h3).1
  rw [Array.getElem?_setIfInBounds, hF j hj]
  by_cases e : i = j
  · subst e; rw [if_pos rfl, if_pos h4, if_pos rfl]
  · rw [if_neg e, if_neg (fun h => e h.symm)]; exact h3
end Go.Proofs.Ytplekhfnidhcoaa
