/- The document's All: what is found. -/
import Derived.Test.YtbdkogccjnmfoaaLkJ
import Derived.Test.YtbdkogccjnmfoaaLkK
import Derived.Test.YtbdkogccjnmfoaaLjC
import Derived.Deep.RegionHeld3
namespace Go.Proofs.Ytbdkogccjnmfoaa
open Go.RowKit Go.Shelf

def rt : Code → Code
  | .seq _ b => b
  | c => c
/-- At a step of a statement that draws its order. -/
theorem step_append_run {P : Program} {ops : Array Oper} {o : Oper} {a : Act} {w : World} {K : Act → World → Prop} {Q : Exit → Act → World → Prop} {E : Prop} (hgd : o.guard = none) (s x : Operand) (t : TypeId)
    (ho : o.op = .call { callee := .builtin .append, args := #[s, x], argTypes := #[t, t] }) (vs vx : Value) (hs : a.eval s = vs) (hx : a.eval x = vx)
    (v' : Value) (w' : World) (hr : (Builtin.append_ #[t, t] o.type #[vs, vx]).run P w = .ok v' w') (h : K (a.put o.dst v') w') :
    if Region.wanted o (yielded ops a.tmps) = true then Oper.wp P o a w K Q else E := by
  have hw : Region.wanted o (yielded ops a.tmps) = true := by simp [Region.wanted, hgd]
  rw [if_pos hw]
  exact Lib.wp_append_run w s x t t ho vs vx hs hx v' w' hr h
theorem Nx.drewN {w1 : World} {nv : Value} {ns : List Vc} {W : World} (h : Nx w1 nv ns W) (n : Nat) : Nx w1 nv ns (W.drewN n) :=
  ⟨h.row.keep (fun _ _ => by rw [heap_drewN]) (fun _ _ => by rw [heap_drewN]), below_drewN h.low n, h.new⟩
theorem Nx.below {w1 : World} {nv : Value} {ns : List Vc} {W W' : World} (h : Nx w1 nv ns W) (hb : Below W.heap.size W W') : Nx w1 nv ns W' :=
  ⟨h.row.below hb, h.low.trans (hb.mono h.low.size), h.new⟩
/-- The row of the table for a number. -/
def fitB (b : List Int) (Y : List (List Nat)) (m : Int) : List (List Nat) := Y.filter (fun y => decide (prodI b (toI y) = m))
/-- What the document's walk knows when it begins to search. -/
structure Kn (a b : List Int) (p q : Option Addr) (W : World) (qx : Option Addr) (nx cx : Nat) (xs : List Vc) (qb : Option Addr) (L cb : Nat) (Ts : List (Value × List Vc)) : Prop where
  h0 : chkE a b = 0
  ia : IntsAt W p a
  ib : IntsAt W q b
  hx : XRow W 0 (.slice qx nx cx) xs
  xl : xs.map Vc.l = vx a b
  xn : xs.length = nx
  hb : ByAt W 0 (.slice qb L cb) Ts
  tl : Ts.length = L
  tt : ∀ m (h : m < Ts.length), (Ts[m].2).map Vc.l = fitB b (vy a b) (m : Int)
  ty : ∀ y ∈ vy a b, prodI b (toI y) < (L : Int)
theorem flat_take (a b : List Int) (s : Int) (i : Nat) (hi : i < (vx a b).length) (F : List (List Nat)) : (((vx a b).take (i + 1)).flatMap (cand a b (vy a b) s)).foldl stepF F = (cand a b (vy a b) s (vx a b)[i]).foldl stepF ((((vx a b).take i).flatMap (cand a b (vy a b) s)).foldl stepF F) := by
  rw [flat_more _ _ i hi, List.foldl_append]
theorem fitY_eq (b : List Int) (Y : List (List Nat)) (m l : Int) : fitY b Y m l = (fitB b Y m).filter (fun y => decide (sumI (toI y) = l)) := rfl
theorem sum_nonneg' (y : List Nat) : 0 ≤ sumI (toI y) := sumI_nonneg (toI_nonneg y)
theorem cand_none {a b : List Int} {Y : List (List Nat)} {s : Int} {x : List Nat} (h : prodI a (toI x) = 0 ∨ (∀ y ∈ Y, prodI b (toI y) ≠ prodI a (toI x)) ∨ s - sumI (toI x) < 0) : cand a b Y s x = [] := by
  unfold cand
  split
  · rfl
  · next hz =>
    have : fitY b Y (prodI a (toI x)) (s - sumI (toI x)) = [] := by
      rw [fitY_eq]
      rcases h with h | h | h
      · exact absurd h hz
      · have : fitB b Y (prodI a (toI x)) = [] := List.filter_eq_nil_iff.2 (fun y hy => by simpa using h y hy)
        rw [this]; rfl
      · exact List.filter_eq_nil_iff.2 (fun y _ => by
          have := sum_nonneg' y
          simp
          omega)
    rw [this]
    rfl
theorem cand_row {a b : List Int} {Y : List (List Nat)} {s : Int} {x : List Nat} (h : prodI a (toI x) ≠ 0) : cand a b Y s x = ((fitB b Y (prodI a (toI x))).filter (fun y => decide (sumI (toI y) = s - sumI (toI x)))).map (fun y => x ++ y) := by
  unfold cand
  rw [if_neg h, fitY_eq]
/-- What is tried of the first rows. -/
def triedK (x : List Nat) (l : Int) (R : List (List Nat)) (k : Nat) : List (List Nat) := ((R.take k).filter (fun y => decide (sumI (toI y) = l))).map (fun y => x ++ y)
theorem tried_yes (x : List Nat) (l : Int) (R : List (List Nat)) (k : Nat) (hk : k < R.length) (h : sumI (toI R[k]) = l) : triedK x l R (k + 1) = triedK x l R k ++ [x ++ R[k]] := by
  unfold triedK
  rw [List.take_add_one, List.getElem?_eq_getElem hk, List.filter_append, List.map_append]
  simp [h]
theorem tried_no (x : List Nat) (l : Int) (R : List (List Nat)) (k : Nat) (hk : k < R.length) (h : sumI (toI R[k]) ≠ l) : triedK x l R (k + 1) = triedK x l R k := by
  unfold triedK
  rw [List.take_add_one, List.getElem?_eq_getElem hk, List.filter_append, List.map_append]
  simp [h]
theorem vx_len {a b : List Int} (h0 : chkE a b = 0) : (vx a b).length ≤ 16807 := by
  obtain ⟨l5, _, _, k2⟩ := chk_zero h0
  have g2 := grt_six (coe_of k2)
  exact vecs_len _ (by omega) _ l5
theorem vy_len {a b : List Int} (h0 : chkE a b = 0) : (vy a b).length ≤ 16807 := by
  obtain ⟨_, l6, k1, _⟩ := chk_zero h0
  have g1 := grt_six (coe_of k1)
  exact vecs_len _ (by omega) _ l6
theorem fitB_len {a b : List Int} (h0 : chkE a b = 0) (m : Int) : (fitB b (vy a b) m).length ≤ 16807 := Nat.le_trans (List.length_filter_le _ _) (vy_len h0)
theorem tried_sub {x : List Nat} {l : Int} {R : List (List Nat)} {k : Nat} {v : List Nat} (h : v ∈ triedK x l R k) : v ∈ (R.filter (fun y => decide (sumI (toI y) = l))).map (fun y => x ++ y) := by
  unfold triedK at h
  obtain ⟨y, hy, rfl⟩ := List.mem_map.1 h
  obtain ⟨h1, h2⟩ := List.mem_filter.1 hy
  exact List.mem_map.2 ⟨y, List.mem_filter.2 ⟨List.mem_of_mem_take h1, h2⟩, rfl⟩
theorem tried_all (x : List Nat) (l : Int) (R : List (List Nat)) : triedK x l R R.length = (R.filter (fun y => decide (sumI (toI y) = l))).map (fun y => x ++ y) := by
  unfold triedK
  rw [List.take_length]
theorem any_more (F : List (List Nat)) (v : List Nat) (j : Nat) (hj : j < F.length) : (F.take (j + 1)).any (fun u => belN u v) = ((F.take j).any (fun u => belN u v) || belN F[j] v) := by
  rw [List.take_add_one, List.getElem?_eq_getElem hj, List.any_append]
  simp
theorem any_of_take (F : List (List Nat)) (v : List Nat) (j : Nat) (h : (F.take j).any (fun u => belN u v) = true) : F.any (fun u => belN u v) = true := by
  obtain ⟨u, hu, hb⟩ := List.any_eq_true.1 h
  exact List.any_eq_true.2 ⟨u, List.mem_of_mem_take hu, hb⟩
theorem part_len {a b : List Int} (h0 : chkE a b = 0) (s s1 : Nat) (hs : s + 1 = s1) (C : List (List Nat)) (hC : ∀ v ∈ C, v ∈ (vx a b).flatMap (cand a b (vy a b) (s1 : Int))) : (C.foldl stepF (foundF a b s)).length ≤ 13060694016 ∧ ∀ v ∈ C.foldl stepF (foundF a b s), v.length = a.length + b.length := by
  obtain ⟨l5, l6, _, _⟩ := chk_zero h0
  have h1 := InvF.fold h0 C _ _ (found_inv h0 s) (fun v hv => by
    obtain ⟨q1, q2, q3⟩ := cand_sol h0 (hC v hv)
    refine ⟨q1, q2, fun u hu hb hne => ?_⟩
    have hsu := ml_sol h0 hu
    have := sum_below (toI u) (toI v) (hsu.1.trans q1.1.symm) ((belV_iff (hsu.1.trans q1.1.symm)).1 hb) (fun e => hne (toI_inj e))
    omega)
  have h2 : (C.foldl stepF (foundF a b s)) ⊆ res (pbOf a b) 13 root := fun v hv => by
    have := h1.min v hv
    unfold ML at this
    obtain ⟨u, hu, e⟩ := List.mem_map.1 this
    rw [← toI_inj e]
    exact hu
  have h3 := h1.nd.length_le_of_subset h2
  have h4 := Nat.le_trans (res_len (pbOf a b) 13 root) (siz_pow (p := pbOf a b) l5 l6 13 root)
  simp only [Nat.reducePow] at h4
  exact ⟨by omega, fun v hv => by
    have := (ml_sol h0 (h1.min v hv)).1
    rw [toI_len] at this
    exact this⟩
end Go.Proofs.Ytbdkogccjnmfoaa
