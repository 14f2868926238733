/- Stacks of deals, plainly: which ways are still to come, and how many steps at most. -/
import Derived.Test.YtdpdpjfnanjmgaaDoorSpM
namespace Go.Proofs.YtdpdpjfnanjmgaaDoor

theorem fm_congr {α β : Type} {f g : α → List β} : ∀ {l : List α}, (∀ x ∈ l, f x = g x) → l.flatMap f = l.flatMap g
  | [], _ => rfl
  | x :: l, h => by rw [List.flatMap_cons, List.flatMap_cons, h x (by simp), fm_congr fun y hy => h y (by simp [hy])]
/-- The ways behind a deal. -/
def wd (K : Nat) (k : List Nat) (d : Dl) : List (List Nat) := (LL K k (allB k.length) (K * k.length - d.v.length) d.v.length d.left d.has).map (d.v ++ ·)
/-- The ways behind a stack. -/
def remS (K : Nat) (k : List Nat) (st : List Dl) : List (List Nat) := st.reverse.flatMap (wd K k)
theorem rem_app (K : Nat) (k : List Nat) (st : List Dl) (d : Dl) : remS K k (st ++ [d]) = wd K k d ++ remS K k st := by
  unfold remS; rw [List.reverse_append, List.flatMap_append]; simp
def Able (f : Nat → Nat → Nat) (K T : Nat) (d : Dl) : Prop := (abN f K d.v.length d.left d.has K).testBit (allB T) = true
theorem push_rem {K : Nat} {k : List Nat} {f : Nat → Nat → Nat} (hk : ∀ x ∈ k, 1 ≤ x) (hf : Sv k f) {d : Dl} (hd : d.Ok K k.length) (st : List Dl) : remS K k (pushd f K k.length st d) = wd K k d ++ remS K k st := by
  unfold pushd
  split
  · exact rem_app K k st d
  · rename_i h
    have h1 := unable_none (r := K * k.length - d.v.length) (p := d.v.length) (has := d.has) (left := d.left) (get_pos hk) hf (by have := hd.made; omega) hd.left (fun j _ => hd.six j) hd.has (by simpa using h)
    unfold wd
    rw [h1]; rfl
theorem wd_next {K : Nat} {k : List Nat} {d : Dl} (hm : d.v.length < K * k.length) : wd K k d = (List.range (topN K k d + 1)).flatMap fun n => wd K k (nextD K k d n) := by
  unfold wd
  obtain ⟨r, hr⟩ : ∃ r, K * k.length - d.v.length = r + 1 := ⟨K * k.length - d.v.length - 1, by omega⟩
  rw [hr, LL, List.map_flatMap]
  refine fm_congr fun n _ => ?_
  have e : K * k.length - (nextD K k d n).v.length = r := by simp [nextD]; omega
  rw [e, List.map_map]
  have e2 : (nextD K k d n).v.length = d.v.length + 1 := by simp [nextD]
  rw [e2]
  show _ = (LL K k (allB k.length) r (d.v.length + 1) (d.left.set (d.v.length % K) (d.left.getD (d.v.length % K) 0 - n * k.getD (d.v.length / K) 0)) (if 0 < n then d.has ||| 2 ^ (d.v.length / K) else d.has)).map ((d.v ++ [n]) ++ ·)
  refine List.map_congr_left fun v _ => ?_
  simp
theorem pushs_rem {K : Nat} {k : List Nat} {f : Nat → Nat → Nat} (hk : ∀ x ∈ k, 1 ≤ x) (hf : Sv k f) {d : Dl} (hN : ∀ n, (nextD K k d n).Ok K k.length) (st : List Dl) : ∀ i, i ≤ topN K k d + 1 → remS K k (pushs f K k.length k st d i) = ((List.range i).reverse.flatMap fun j => wd K k (nextD K k d (topN K k d - j))) ++ remS K k st
  | 0, _ => rfl
  | i + 1, h => by
    rw [pushs, push_rem hk hf (hN _), pushs_rem hk hf hN st i (by omega), List.range_succ, List.reverse_append, List.flatMap_append]
    simp
theorem range_rev (q : Nat) (F : Nat → List (List Nat)) : ((List.range (q + 1)).reverse.flatMap fun j => F (q - j)) = (List.range (q + 1)).flatMap F := by
  have h : (List.range (q + 1)).reverse = (List.range (q + 1)).map fun j => q - j := by
    refine List.ext_getElem (by simp) fun i h1 h2 => ?_
    simp
  rw [h, List.flatMap_map]
  refine fm_congr fun j hj => ?_
  rw [List.mem_range] at hj
  rw [show q - (q - j) = j by omega]
/-- A deal that is taken off, and what it becomes. -/
theorem step_rem {K : Nat} {k : List Nat} {f : Nat → Nat → Nat} (hk : ∀ x ∈ k, 1 ≤ x) (hf : Sv k f) {d : Dl} (hm : d.v.length < K * k.length) (hN : ∀ n, (nextD K k d n).Ok K k.length) (st : List Dl) : remS K k (pushs f K k.length k st d (topN K k d + 1)) = remS K k (st ++ [d]) := by
  rw [pushs_rem hk hf hN st _ (Nat.le_refl _), rem_app, wd_next hm]
  congr 1
  exact range_rev (topN K k d) fun n => wd K k (nextD K k d n)
theorem wd_end {K : Nat} {k : List Nat} {f : Nat → Nat → Nat} (hf : Sv k f) {d : Dl} (hd : d.Ok K k.length) (hm : d.v.length = K * k.length) (ha : Able f K k.length d) : wd K k d = [d.v] := by
  unfold Able at ha
  unfold wd
  rw [hm] at ha ⊢
  rw [Nat.sub_self, able_end hf hd.left (fun j _ => hd.six j) hd.has ha]
  simp
/-- Each deal of a stack is one that may be. -/
def Good (f : Nat → Nat → Nat) (K T : Nat) (st : List Dl) : Prop := ∀ d ∈ st, d.Ok K T ∧ Able f K T d
theorem good_push {f : Nat → Nat → Nat} {K T : Nat} {st : List Dl} {d : Dl} (h : Good f K T st) (hd : d.Ok K T) : Good f K T (pushd f K T st d) := by
  unfold pushd
  split
  · rename_i ha
    intro x hx
    rcases List.mem_append.1 hx with hx | hx
    · exact h x hx
    · rw [List.mem_singleton] at hx; subst hx; exact ⟨hd, ha⟩
  · exact h
theorem good_pushs {f : Nat → Nat → Nat} {K T : Nat} {k : List Nat} {st : List Dl} {d : Dl} (h : Good f K T st) (hN : ∀ n, (nextD K k d n).Ok K T) : ∀ i, Good f K T (pushs f K T k st d i)
  | 0 => h
  | i + 1 => good_push (good_pushs h hN i) (hN _)
/-- How many steps a stack takes at most. -/
def cost (K T : Nat) (st : List Dl) : Nat := (st.map fun d => 8 ^ (K * T - d.v.length)).sum
theorem cost_app (K T : Nat) (st : List Dl) (d : Dl) : cost K T (st ++ [d]) = cost K T st + 8 ^ (K * T - d.v.length) := by
  unfold cost; rw [List.map_append, List.sum_append]; simp
theorem cost_pushs {f : Nat → Nat → Nat} {K T : Nat} {k : List Nat} {st : List Dl} {d : Dl} {r : Nat} (hr : K * T - d.v.length = r + 1) : ∀ i, cost K T (pushs f K T k st d i) ≤ cost K T st + i * 8 ^ r
  | 0 => by simp [pushs]
  | i + 1 => by
    have h1 := cost_pushs (f := f) (k := k) (st := st) hr i
    obtain ⟨z, hz⟩ : ∃ z, 8 ^ r = z := ⟨_, rfl⟩
    rw [hz] at h1 ⊢
    rw [pushs, Nat.succ_mul]
    unfold pushd
    split
    · rw [cost_app]
      have e : K * T - (nextD K k d (topN K k d - i)).v.length = r := by simp [nextD]; omega
      rw [e, hz]; omega
    · omega
theorem cost_step {f : Nat → Nat → Nat} {K T : Nat} {k : List Nat} {st : List Dl} {d : Dl} (hm : d.v.length < K * T) (ht : topN K k d ≤ 6) : cost K T (pushs f K T k st d (topN K k d + 1)) < cost K T (st ++ [d]) := by
  obtain ⟨r, hr⟩ : ∃ r, K * T - d.v.length = r + 1 := ⟨K * T - d.v.length - 1, by omega⟩
  have h1 := cost_pushs (f := f) (k := k) (st := st) hr (topN K k d + 1)
  rw [cost_app, hr, Nat.pow_succ]
  have h2 : (topN K k d + 1) * 8 ^ r ≤ 7 * 8 ^ r := Nat.mul_le_mul_right _ (by omega)
  have h3 := Nat.pow_pos (n := r) (show 0 < 8 by omega)
  omega
end Go.Proofs.YtdpdpjfnanjmgaaDoor
