/- The program's Number. -/
import Derived.Test.YtppgmepmegelbaaGreatDoorRjC
import Derived.Test.YtppgmepmegelbaaGreatDoorRjD
namespace Go.Proofs.YtppgmepmegelbaaGreatDoor
open Go.RowKit Go.Sort

theorem cut_any (s p : ByteArray) (w : World) :
    Calls Tryz.prog 60 #[.string s, .string p] w fun e w' => e = .returned (.tuple #[.string ⟨(Lib.trimPrefix s.data.toList p.data.toList).toArray⟩, .bool (Lib.hasPrefix s.data.toList p.data.toList)]) ∧ w' = w :=
  Any.strings_CutPrefix Tryz.laysCut s p w

theorem dec_lt (l : List UInt8) : ∀ acc u, Lib.decFrom acc l = some u → u < (acc + 1) * 10 ^ l.length := by
  induction l with
  | nil => intro acc u h; simp only [Lib.decFrom, Option.some.injEq] at h; subst h; simp
  | cons b t ih =>
    intro acc u h
    simp only [Lib.decFrom] at h
    cases hd : Lib.digitVal b with
    | none => simp [hd] at h
    | some d =>
      simp only [hd] at h
      have h1 := ih _ u h
      have h2 := (digit_back hd).1
      refine Nat.lt_of_lt_of_le h1 ?_
      rw [List.length_cons, Nat.pow_succ, Nat.mul_comm (10 ^ t.length) 10, ← Nat.mul_assoc]
      exact Nat.mul_le_mul_right _ (by omega)
theorem decNat_lt {l : List UInt8} {u : Nat} (h : Lib.decNat l = some u) (hl : l.length ≤ 11) : u < 100000000000 := by
  unfold Lib.decNat at h
  split at h
  · cases h
  · have h1 := dec_lt l 0 u h
    have h2 : (10 : Nat) ^ l.length ≤ 10 ^ 11 := Nat.pow_le_pow_right (by omega) hl
    have e : (10 : Nat) ^ 11 = 100000000000 := by decide
    omega
theorem atoi_lt {l : List UInt8} {n : Int} (h : Lib.atoi l = some n) (hl : l.length ≤ 11) : -100000000000 < n ∧ n < 100000000000 := by
  cases l with
  | nil => cases h
  | cons b r =>
    simp only [List.length_cons] at hl
    simp only [Lib.atoi] at h
    split at h
    · cases hd : Lib.decNat r with
      | none => simp [hd] at h
      | some u => simp only [hd, Option.map_some, Option.some.injEq] at h; have := decNat_lt hd (by omega); omega
    · split at h
      · cases hd : Lib.decNat r with
        | none => simp [hd] at h
        | some u => simp only [hd, Option.map_some, Option.some.injEq] at h; have := decNat_lt hd (by omega); omega
      · cases hd : Lib.decNat (b :: r) with
        | none => simp [hd] at h
        | some u => simp only [hd, Option.map_some, Option.some.injEq] at h; have := decNat_lt hd (by simp only [List.length_cons]; omega); omega

def numV (o : Option Int) : Value := .tuple #[.int .i64 (o.getD 0), .bool o.isSome]

theorem below_box (w : World) (o : Obj) : Below w.heap.size w (w.alloc o) := by
  refine ⟨rfl, rfl, rfl, ?_, fun b hb => ?_⟩
  · show w.heap.size ≤ (w.heap.push o).size
    rw [Array.size_push]; omega
  · show (w.heap.push o)[b]? = w.heap[b]?
    rw [Array.getElem?_push, if_neg (by omega)]

set_option maxRecDepth 100000 in
set_option maxHeartbeats 2000000 in
theorem pnum_no1 (s : ByteArray) (hp : Lib.hasPrefix s.data.toList [95] = false) (w : World) :
    Calls Tryz.prog 15 #[.string s] w fun e w' => e = .returned (numV none) ∧ Below w.heap.size w w' := by
  go_enter Tryz.func15, Tryz.ntmps15
  go_wp2_with (first
    | (go_at_call 60; refine (cut_any _ _ _).mono ?_; rintro e w' ⟨rfl, rfl⟩; simp only [hp])
    | go_in)
  go_ret2
  exact ⟨rfl, below_box _ _⟩

set_option maxRecDepth 100000 in
set_option maxHeartbeats 2000000 in
theorem pnum_no2 (s : ByteArray) (hz : s.size ≤ 9223372036854775807) (hp : Lib.hasPrefix s.data.toList [95] = true) (hl : 12 < s.size) (w : World) :
    Calls Tryz.prog 15 #[.string s] w fun e w' => e = .returned (numV none) ∧ Below w.heap.size w w' := by
  go_enter Tryz.func15, Tryz.ntmps15
  go_wp2_with (first
    | (go_at_call 60; refine (cut_any _ _ _).mono ?_; rintro e w' ⟨rfl, rfl⟩; simp only [hp])
    | go_in)
  go_ret2
  exact ⟨rfl, below_box _ _⟩

theorem box_in (w : World) (o : Obj) : w.heap.size < (w.alloc o).heap.size := by
  show w.heap.size < (w.heap.push o).size
  rw [Array.size_push]; omega
theorem box_cell (w : World) (v : Value) (t : Nat) : (w.alloc (Obj.cells #[v] t)).cell? ⟨w.heap.size, 0, none⟩ = some v := by
  have h : (w.alloc (Obj.cells #[v] t)).heap[w.heap.size]? = some (Obj.cells #[v] t) := by
    show (w.heap.push _)[w.heap.size]? = _
    rw [Array.getElem?_push, if_pos rfl]
  unfold World.cell?
  simp only [h]
  rfl
theorem str_eq {l : List UInt8} {s : ByteArray} (h : l = s.data.toList) : strB l = s := by
  subst h; rfl
theorem eq_str {l : List UInt8} {s : ByteArray} (h : (strB l).toList = s.toList) : l = s.data.toList := by
  rw [Lib.toList_data, Lib.toList_data] at h
  exact h
theorem trim_of {l : List UInt8} (hp : Lib.hasPrefix l [95] = true) : Lib.trimPrefix l [95] = l.drop 1 := by
  unfold Lib.trimPrefix; rw [if_pos hp]; rfl

set_option maxRecDepth 100000 in
set_option maxHeartbeats 2000000 in
theorem pnum_err (s : ByteArray) (hp : Lib.hasPrefix s.data.toList [95] = true) (hl : s.size ≤ 12) (D : List UInt8) (hD : Lib.trimPrefix s.data.toList [95] = D) (hz : D.length ≤ 11) (ha : Lib.atoi D = none) (w : World) (hs : Std w) :
    Calls Tryz.prog 15 #[.string s] w fun e w' => e = .returned (numV none) ∧ Below w.heap.size w w' := by
  go_enter Tryz.func15, Tryz.ntmps15
  go_wp2_with (first
    | (go_at_call 60; refine (cut_any _ _ _).mono ?_; rintro e w' ⟨rfl, rfl⟩; simp only [hp, hD])
    | (go_at_call 61; refine (atoi_err _ (show D.toArray.size ≤ 18 by rw [List.size_toArray]; omega) ha _ (hs.below (below_box _ _) hs.pos)).mono ?_; rintro e w' ⟨⟨te, pe, rfl⟩, hb⟩)
    | go_in)
  go_ret2
  exact ⟨rfl, (below_box _ _).trans (hb.mono (below_box _ _).size)⟩

set_option maxRecDepth 100000 in
set_option maxHeartbeats 2000000 in
theorem pnum_ok (s : ByteArray) (hp : Lib.hasPrefix s.data.toList [95] = true) (hl : s.size ≤ 12) (D : List UInt8) (hD : Lib.trimPrefix s.data.toList [95] = D) (hz : D.length ≤ 11) (n : Int) (ha : Lib.atoi D = some n) (o : Option Int) (ho1 : nameL n = s.data.toList → o = some n) (ho2 : nameL n ≠ s.data.toList → o = none) (w : World) (hs : Std w) :
    Calls Tryz.prog 15 #[.string s] w fun e w' => e = .returned (numV o) ∧ Below w.heap.size w w' := by
  obtain ⟨hn0, hn1⟩ := atoi_lt ha hz
  go_enter Tryz.func15, Tryz.ntmps15
  go_wp2_with (first
    | (go_at_call 60; refine (cut_any _ _ _).mono ?_; rintro e w' ⟨rfl, rfl⟩; simp only [hp, hD])
    | (go_at_call 61; refine (atoi_ok _ n (show D.toArray.size ≤ 18 by rw [List.size_toArray]; omega) ha _).mono ?_; rintro e w' ⟨rfl, t, hw⟩
       have hb : Below (w.alloc (Obj.cells #[Value.func (Fn.func 14) #[] #[]] 52)).heap.size (w.alloc (Obj.cells #[Value.func (Fn.func 14) #[] #[]] 52)) w' := hw ▸ Lib.bytesWorld_below _ _ _
       clear hw
       have hb2 : Below w.heap.size w w' := (below_box _ _).trans (hb.mono (below_box _ _).size)
       have hc : w'.cell? ⟨w.heap.size, 0, none⟩ = some (Value.func (Fn.func 14) #[] #[]) := (hb.cell (box_in _ _)).trans (box_cell _ _ _)
       have hs2 : Std w' := hs.below hb2 hs.pos)
    | (go_at_call 14; refine (pname_any n (by omega) (by omega) _ hs2).mono ?_; rintro e w'' ⟨rfl, hb3⟩)
    | go_in)
  · rename_i hq
    have hq2 : nameL n ≠ s.data.toList := fun h => by
      rw [str_eq h] at hq; simp at hq
    rw [ho2 hq2]
    go_ret2
    exact ⟨rfl, hb2.trans (hb3.mono hb2.size)⟩
  · rename_i hq
    have hq2 : nameL n = s.data.toList := eq_str (by simpa using hq)
    rw [ho1 hq2]
    go_ret2
    exact ⟨rfl, hb2.trans (hb3.mono hb2.size)⟩
end Go.Proofs.YtppgmepmegelbaaGreatDoor
