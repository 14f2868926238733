/- What the document's Size and Has answer of any term. -/
import Derived.Test.YtfnfbljijkjkjaaTRChkB
import Derived.Test.YtfnfbljijkjkjaaTHas
namespace Go.Proofs.Ytfnfbljijkjkjaa
open Go.RowKit Go.Deep

def RSizeOk (k : Nat) : Prop := ∀ (x : ByteArray × Int) (l : Fo) (a : Option Addr) (c : Nat) (w : World), nodesF l ≤ k → TmAt w x a c l → nodesF l + 1 ≤ 4611686018427387904 →
  Calls Try.prog 99 #[.agg #[.string x.1, .int .i64 x.2, .slice a (lenF l) c]] w fun e w' => e = .returned (.int .i64 ((nodesF l + 1 : Nat) : Int)) ∧ Below w.heap.size w w'

set_option maxRecDepth 100000 in
set_option maxHeartbeats 1000000 in
theorem rsize_all : ∀ k, RSizeOk k := by
  intro k
  induction k using Nat.strongRecOn with
  | _ k ih =>
    intro x l a c w hk hT hbig
    have HT : Hid (TmAt w x a c l) := hT
    have IH : Hid (∀ j, j < k → RSizeOk j) := ih
    have O0 : Hid (One w x a (lenF l) c (w.alloc (.cells #[.string x.1, .int .i64 x.2, .slice a (lenF l) c] 26))) := One.new _ _ _ _ _
    have hn := len_nodes l
    clear hT ih
    go_enter Try.func99, Try.ntmps99
    go_wp2
    go_loopw [3, 4] (fun q i wr => ∃ (j m : Nat), j ≤ lenF l ∧ q = .int .i64 (m : Int) ∧ i = .int .i64 j ∧ One w x a (lenF l) c wr ∧ m + nodesF (dropF j l) = nodesF l + 1) (fun _ i _ => lenF l - (intOf i).toNat)
    case atStart => exact ⟨0, 1, Nat.zero_le _, rfl, rfl, O0.out, by rw [drop_zero]; omega⟩
    case round =>
      obtain ⟨j, m, hj, rfl, rfl, hO, hm⟩ := hrel
      have t2 := hO.t.c2
      by_cases hlt : j < lenF l
      · obtain ⟨b1, o1, rfl, hk1⟩ := HT.out.args.get (by omega)
        obtain ⟨z, a1, c1, l1, kd⟩ := hk1.kid (k := j) hlt
        have kd' := kd.below hO.low
        obtain ⟨B1, O1, s1⟩ := kd.split
        rw [s1, nodesF] at hm
        have p0 := kd'.name; have p1 := kd'.sym; have p2 := kd'.list
        have hC := IH.out (nodesF l1) (by have := kd.less; omega) z l1 a1 c1 wr (Nat.le_refl _) kd'.at_ (by have := kd.less; omega)
        have HO : Hid (One w x (some ⟨b1, o1, none⟩) (lenF l) c wr) := hO
        clear kd kd' hk1 s1 hO
        go_wp2_with fail
        refine hC.mono ?_
        rintro e w2 ⟨rfl, hb⟩
        have HO2 : Hid (One w x (some ⟨b1, o1, none⟩) (lenF l) c w2) := HO.out.below hb
        clear hC hb p0 p1 p2 t2
        go_wp2
        go_roundw
        case rel => exact ⟨j + 1, m + (nodesF l1 + 1), by omega, by go_num, by go_num, HO2.out, by omega⟩
        case measure => simp [intOf]; omega
      · have e1 : j = lenF l := by omega
        rw [e1, drop_end, nodesF] at hm
        have hm' : m = nodesF l + 1 := by omega
        subst hm'
        go_wp2
        go_ret
        exact ⟨rfl, hO.low⟩

/-! ### Has -/
def hasN (nm : ByteArray) (x : ByteArray × Int) : Bool := !noName x.1 && x.1.toList == nm.toList
def hasF (nm : ByteArray) : Fo → Bool
  | .nil => false
  | .node _ _ x l r => (hasN nm x || hasF nm l) || hasF nm r
def hasR (nm : ByteArray) (x : ByteArray × Int) (l : Fo) : Bool := hasN nm x || hasF nm l
theorem hasN_is (nm : ByteArray) (x : ByteArray × Int) : hasN nm x = (!noName nm && x.1.toList == nm.toList) := by
  unfold hasN noName
  cases h : (x.1.toList == nm.toList)
  · simp
  · have e : x.1.toList = nm.toList := by simpa using h
    rw [e]
theorem hasF_is (nm : ByteArray) : ∀ (F : Fo) (path : List Int) (i : Nat), hasF nm F = (!noName nm && hasP nm (placesF path i F))
  | .nil, _, _ => by simp [hasF, placesF, hasP]
  | .node _ _ x l r, path, i => by
    have h1 := hasF_is nm l (path ++ [(i : Int)]) 0
    have h2 := hasF_is nm r path (i + 1)
    unfold hasP at h1 h2
    rw [hasF, hasN_is, h1, h2, placesF, hasP, List.any_append, List.any_cons]
    cases noName nm <;> simp [Bool.or_assoc]
theorem hasR_is (nm : ByteArray) (x : ByteArray × Int) (l : Fo) : hasR nm x l = hasT nm x l := by
  have h1 := hasF_is nm l [] 0
  unfold hasP at h1
  rw [hasR, hasT, hasN_is, h1, placesT, hasP, List.any_cons]
  cases noName nm <;> simp

def RHasOk (k : Nat) : Prop := ∀ (nm : ByteArray) (x : ByteArray × Int) (l : Fo) (a : Option Addr) (c : Nat) (w : World), nodesF l ≤ k → TmAt w x a c l →
  Calls Try.prog 28 #[.agg #[.string x.1, .int .i64 x.2, .slice a (lenF l) c], .string nm] w fun e w' => e = .returned (.bool (hasR nm x l)) ∧ Below w.heap.size w w'

set_option maxRecDepth 100000 in
set_option maxHeartbeats 1000000 in
theorem rhas_all : ∀ k, RHasOk k := by
  intro k
  induction k using Nat.strongRecOn with
  | _ k ih =>
    intro nm x l a c w hk hT
    have HT : Hid (TmAt w x a c l) := hT
    have IH : Hid (∀ j, j < k → RHasOk j) := ih
    have O0 : Hid (One w x a (lenF l) c (w.alloc (.cells #[.string x.1, .int .i64 x.2, .slice a (lenF l) c] 26))) := One.new _ _ _ _ _
    have hn : lenF l ≤ 9223372036854775807 := by have := hT.sizes.len; have := hT.sizes.cap; unfold maxLen at *; omega
    have hdef : hasR nm x l = ((!x.1.toList.isEmpty && x.1.toList == nm.toList) || hasF nm l) := rfl
    clear hT ih
    cases h1 : (!x.1.toList.isEmpty && x.1.toList == nm.toList)
    · rw [h1, Bool.false_or] at hdef
      have HD : Hid (hasR nm x l = hasF nm l) := hdef
      clear hdef
      have h2 : x.1.toList.isEmpty = false → (x.1.toList == nm.toList) = false := fun h => by rw [h] at h1; simpa using h1
      clear h1
      cases hx : x.1.toList.isEmpty
      all_goals
        first | (have h3 := h2 hx) | skip
        clear h2
        go_enter Try.func28, Try.ntmps28
        go_wp2
        go_loopw [5, 6] (fun i _ wr => ∃ j : Nat, j ≤ lenF l ∧ i = .int .i64 j ∧ One w x a (lenF l) c wr ∧ hasF nm l = hasF nm (dropF j l)) (fun i _ _ => lenF l - (intOf i).toNat)
        case atStart => exact ⟨0, Nat.zero_le _, rfl, O0.out, by rw [drop_zero]⟩
        case round =>
          obtain ⟨j, hj, rfl, hO, hf⟩ := hrel
          have t2 := hO.t.c2
          by_cases hlt : j < lenF l
          · obtain ⟨b1, o1, rfl, hk1⟩ := HT.out.args.get (by omega)
            obtain ⟨z, a1, c1, l1, kd⟩ := hk1.kid (k := j) hlt
            have kd' := kd.below hO.low
            obtain ⟨B1, O1, s1⟩ := kd.split
            rw [s1, hasF] at hf
            have HF : Hid (hasF nm l = (hasR nm z l1 || hasF nm (dropF (j + 1) l))) := hf
            have p0 := kd'.name; have p1 := kd'.sym; have p2 := kd'.list
            have hC := IH.out (nodesF l1) (by have := kd.less; omega) nm z l1 a1 c1 wr (Nat.le_refl _) kd'.at_
            have HO : Hid (One w x (some ⟨b1, o1, none⟩) (lenF l) c wr) := hO
            clear kd kd' hk1 s1 hO hf
            go_wp2_with fail
            refine hC.mono ?_
            rintro e w2 ⟨rfl, hb⟩
            have HO2 : Hid (One w x (some ⟨b1, o1, none⟩) (lenF l) c w2) := HO.out.below hb
            clear hC hb p0 p1 p2 t2
            cases hr : hasR nm z l1
            · rw [hr, Bool.false_or] at HF
              go_wp2
              go_roundw
              case rel => exact ⟨j + 1, by omega, by go_num, HO2.out, HF.out⟩
              case measure => simp [intOf]; omega
            · rw [hr, Bool.true_or] at HF
              go_wp2
              go_ret
              exact ⟨by rw [HD.out, HF.out]; rfl, HO2.out.low⟩
          · have e1 : j = lenF l := by omega
            rw [e1, drop_end, hasF] at hf
            have HF : Hid (hasF nm l = false) := hf
            clear hf
            go_wp2
            go_ret
            exact ⟨by rw [HD.out, HF.out]; rfl, hO.low⟩
    · rw [h1, Bool.true_or] at hdef
      have HD : Hid (hasR nm x l = true) := hdef
      clear hdef
      have h2 : x.1.toList.isEmpty = false := by simp at h1; simp [h1.1]
      have h3 : (x.1.toList == nm.toList) = true := by simp at h1; simp [h1.2]
      go_enter Try.func28, Try.ntmps28
      go_wp2
      go_ret
      exact ⟨by rw [HD.out]; rfl, O0.out.low⟩
end Go.Proofs.Ytfnfbljijkjkjaa
