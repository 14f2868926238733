import Derived.Test.YtgidgmgpgfonnaaGreatKSPIs
/- What checkBind answers, and that it is what the document's Check says of a bind. -/
namespace Go.Proofs.YtgidgmgpgfonnaaGreat
open Go.RowKit Go.Deep

def ckBad (ahead vn : ByteArray) (x : ByteArray × Int) : Bool := !(varB vn) || leS vn ahead || (x.1.toList == vn.toList)
def CkR (sg : List Sym) (ahead vn : ByteArray) (x : ByteArray × Int) (l : Fo) (ec : Int) : Prop :=
  (ckBad ahead vn x = true ∧ ec = 71) ∨ (ckBad ahead vn x = false ∧ ¬ 0 ≤ leftN (fun _ => none) x l 400 ∧ ec = 73) ∨ (ckBad ahead vn x = false ∧ 0 ≤ leftN (fun _ => none) x l 400 ∧ rgT sg x l = false ∧ ec = 72) ∨
    (ckBad ahead vn x = false ∧ 0 ≤ leftN (fun _ => none) x l 400 ∧ rgT sg x l = true ∧ ∃ r, CanR sg (x, l) r ∧ ec = if (cmpN (x, l) r == 0) = true then 0 else 72)
theorem left_fits (x : ByteArray × Int) (l : Fo) : 0 ≤ leftN (fun _ => none) x l 400 ↔ ¬ 400 < nodesF l + 1 := by
  unfold leftN
  rw [lkN_none]
  dsimp only
  rw [leftF_none]
  constructor
  · intro h
    have := left0F_eq l _ h
    omega
  · intro h
    exact left0F_nn l _ (by omega)
theorem arity_few {l : List Sym} (h : checkE l = 0) {k : Nat} (hk : k < l.length) (h1 : l[k].kind = 1) : l[k].arity ≤ 4 := by
  have := right_each h hk
  unfold symErr at this
  split at this
  · omega
  · split at this
    · omega
    · split at this
      · omega
      · rename_i h3
        simp only [arityB, h1] at h3
        simp at h3
        omega
theorem okNd_is {l : List Sym} (h : checkE l = 0) (x : ByteArray × Int) (n : Nat) : okNd l x n = (nodeErr l x n == 0) := by
  unfold okNd
  by_cases hn : n ≤ 5
  · rw [Nat.min_eq_left hn]
  · rw [Nat.min_eq_right (by omega)]
    unfold nodeErr
    split
    · unfold varErr
      rw [if_neg (by omega), if_neg (by omega)]
    · split
      · cases hs : l[x.2.toNat]? with
        | none => rfl
        | some s =>
          dsimp only
          obtain ⟨hlt, he⟩ := List.getElem?_eq_some_iff.1 hs
          unfold takesB
          split
          · rename_i h1
            have := arity_few h hlt (by rw [he]; exact h1)
            rw [he] at this
            rw [if_neg (by simp; omega), if_neg (by simp; omega)]
          · rw [if_pos (by simp), if_pos (by simp; omega)]
      · rfl
theorem thenB_is (a b : Int) : (thenC a b == 0) = ((a == 0) && (b == 0)) := by
  unfold thenC
  by_cases h : a = 0
  · simp [h]
  · simp [h]
theorem rgF_is {l : List Sym} (h : checkE l = 0) : ∀ F : Fo, rgF l F = (errF l F == 0)
  | .nil => rfl
  | .node _ _ x m r => by rw [rgF, errF, thenB_is, thenB_is, okNd_is h, rgF_is h m, rgF_is h r]
theorem rgT_is {l : List Sym} (h : checkE l = 0) (x : ByteArray × Int) (m : Fo) : rgT l x m = rightB l (x, m) := by
  unfold rgT rightB errT
  rw [thenB_is, okNd_is h, rgF_is h, h]
  rfl
theorem bad_is {ahead vn : ByteArray} {x : ByteArray × Int} {l : Fo} {prev : Option ByteArray} (hp : prev = some ahead ∨ prev = none ∧ ahead = ⟨#[]⟩) : ckBad ahead vn x = badV prev (vn, (x, l)) := by
  unfold ckBad badV
  rcases hp with rfl | ⟨rfl, rfl⟩
  · rfl
  · dsimp only
    cases hv : varB vn with
    | false => simp
    | true =>
      have : leS vn ⟨#[]⟩ = false := by
        have hz : vn.toList ≠ [] := by
          intro h0
          have h1 : 1 ≤ vn.size := by
            unfold varB fitsB at hv
            simp only [Bool.and_eq_true, decide_eq_true_eq] at hv
            exact hv.1.1
          rw [ByteArray.toList_eq] at h0
          have h2 := Lib.size_eq vn
          rw [h0] at h2
          have h3 : vn.size = 0 := h2
          omega
        unfold leS
        cases hvl : vn.toList with
        | nil => exact absurd hvl hz
        | cons y r =>
          have e0 : (⟨#[]⟩ : ByteArray).toList = [] := by decide +kernel
          rw [e0]
          rfl
      rw [this]
theorem ck_bd {sg : List Sym} {ahead vn : ByteArray} {x : ByteArray × Int} {l : Fo} {ec : Int} {prev : Option ByteArray} (h : checkE sg = 0) (hp : prev = some ahead ∨ prev = none ∧ ahead = ⟨#[]⟩) (hr : CkR sg ahead vn x l ec) : ec = bdE sg prev (vn, (x, l)) := by
  unfold bdE
  dsimp only
  unfold CkR at hr
  rw [bad_is (l := l) hp, left_fits, rgT_is h] at hr
  rcases hr with ⟨h1, rfl⟩ | ⟨h1, h2, rfl⟩ | ⟨h1, h2, h3, rfl⟩ | ⟨h1, h2, h3, r, h4, rfl⟩
  · rw [if_pos h1]
  · rw [if_neg (by rw [h1]; simp), if_pos (by omega)]
  · rw [if_neg (by rw [h1]; simp), if_neg h2, if_pos h3]
  · rw [is_same h3 h4, h1, h3, if_neg h2]
    dsimp only
    cases exN (canonT (sgOf sg) (x, l)).1 x (canonT (sgOf sg) (x, l)).2 l <;> rfl
end Go.Proofs.YtgidgmgpgfonnaaGreat
