import Derived.Shelf.SlSortCmp.WholeK
import Derived.Test.YtfnfbljijkjkjaaGreatProg
import Derived.Test.YtfnfbljijkjkjaaGreatKUgB
/- Plain: what StepGeneral asks of Free's answer. -/
namespace Go.Proofs.YtfnfbljijkjkjaaGreat

/-! ### a right signature of free symbols -/
theorem free_joins {sg : List Sym} (hk : ∀ x ∈ sg, x.kind = 1) (f : Int) : (sgOf sg).joins f = false := by
  show joinsAt sg f = false
  unfold joinsAt
  cases hs : symAt sg f with
  | none => rfl
  | some x =>
    unfold symAt at hs
    split at hs
    · have := hk x (List.mem_of_getElem? hs)
      simp [this]
    · cases hs
theorem free_plain {sg : List Sym} (hk : ∀ x ∈ sg, x.kind = 1) : sg.map plainS = sg := by
  conv => rhs; rw [← List.map_id sg]
  refine List.map_congr_left fun x hx => ?_
  have := hk x hx
  exact plainS_not (by omega)
theorem node_fr {sg : List Sym} (hk : ∀ x ∈ sg, x.kind = 1) {x : ByteArray × Int} {n : Nat} (h : nodeErr sg x n = 0) : fr1 sg x = true := by
  unfold fr1
  cases hx : noName x.1
  · rfl
  · unfold nodeErr at h
    rw [if_neg (by simp [hx])] at h
    split at h
    · rename_i h0
      split at h
      · rename_i s hs
        have hlt : x.2.toNat < sg.length := by
          rcases Nat.lt_or_ge x.2.toNat sg.length with h | h
          · exact h
          · rw [List.getElem?_eq_none_iff.2 h] at hs; cases hs
        show (false || freeB sg x.2) = true
        unfold freeB kindAt
        rw [hs, decide_eq_true h0, decide_eq_true (show x.2 < (sg.length : Int) by omega)]
        have e := hk s (List.mem_of_getElem? hs)
        simp [e]
      · omega
    · omega
theorem err_af {sg : List Sym} (hk : ∀ x ∈ sg, x.kind = 1) : ∀ {F : Fo}, errF sg F = 0 → afF sg F = true
  | .nil, _ => rfl
  | .node _ _ x m r, he => by
    rw [errF] at he
    obtain ⟨h1, h2⟩ := then_zero he
    obtain ⟨h3, h4⟩ := then_zero h1
    rw [afF, node_fr hk h3, err_af hk h4, err_af hk h2]
    rfl
theorem right_RT {sg : List Sym} (hk : ∀ x ∈ sg, x.kind = 1) {t : Tn} (h : rightB sg t = true) : RT sg t := by
  have h1 := (right_facts h).2
  unfold rightB at h
  simp only [Bool.and_eq_true, beq_iff_eq] at h
  have h2 : errT sg t.1 t.2 = 0 := h.2
  unfold errT at h2
  obtain ⟨h3, h4⟩ := then_zero h2
  refine ⟨h1, ?_⟩
  unfold afT
  rw [node_fr hk h3, err_af hk h4]
  rfl
/-! ### binds as a substitution -/
theorem getN_mem : ∀ {ms : List Bn} {b : Bn}, (ms.map (·.1)).Nodup → b ∈ ms → getN ms b.1 = b.2
  | [], _, _, h => by cases h
  | x :: r, b, hn, h => by
    rw [List.map_cons, List.nodup_cons] at hn
    unfold getN getB
    rw [List.find?_cons]
    by_cases e : x.1 = b.1
    · rw [decide_eq_true e]
      rcases List.mem_cons.1 h with rfl | h
      · rfl
      · exact absurd (List.mem_map_of_mem (f := (·.1)) h) (by rw [← e]; exact hn.1)
    · rw [decide_eq_false e]
      rcases List.mem_cons.1 h with rfl | h
      · exact absurd rfl e
      · have := getN_mem hn.2 h
        unfold getN getB at this
        exact this
theorem getN_not {ms : List Bn} {s : ByteArray} (h : ∀ b ∈ ms, b.1 ≠ s) : getN ms s = vr s := by
  have : getB ms s = none := by
    unfold getB
    rw [List.find?_eq_none.2 (fun b hb => by simpa using h b hb)]
    rfl
  unfold getN
  rw [this]
  rfl
theorem pinF_id {ms : List Bn} : ∀ {F : Fo}, okF F → (∀ s ∈ nmF F, ∀ b ∈ ms, b.1 ≠ s) → pinF ms F = F
  | .nil, _, _ => rfl
  | .node B O x l r, ho, h => by
    have hr := pinF_id ho.2 (fun s hs => h s (by rw [nmF]; exact List.mem_append_right _ hs))
    have hl := pinF_id ho.1.2 (fun s hs => h s (by rw [nmF]; exact List.mem_append_left _ (List.mem_append_right _ hs)))
    unfold pinF
    cases hx : noName x.1
    · rw [if_neg (by simp), hr]
      have h1 := ho.1.1 hx
      have h2 : getN ms x.1 = vr x.1 := getN_not (h x.1 (by rw [nmF, hx]; simp))
      rw [h2]
      unfold vr
      obtain ⟨xn, xs⟩ := x
      have e1 : xs = 0 := h1.2
      have e2 : l = .nil := h1.1
      rw [e1, e2]
    · rw [if_pos rfl, hr, hl]
theorem pin_id {ms : List Bn} {t : Tn} (ho : okT t) (h : ∀ s ∈ nmT t, ∀ b ∈ ms, b.1 ≠ s) : pinN ms t.1 t.2 = t := by
  unfold pinN
  cases hx : noName t.1.1
  · rw [if_neg (by simp), getN_not (h t.1.1 (by unfold nmT; rw [hx]; simp))]
    exact (ok_var ho hx).symm
  · rw [if_pos rfl, pinF_id ho.2 (fun s hs => h s (by unfold nmT; exact List.mem_append_right _ hs))]
/-- The answer solves itself. -/
theorem ans_self {sg : List Sym} {ms bs : List Bn} (hp : List.Perm ms bs) (hi : Idem [] bs) : solB sg ms bs := fun b hb => by
  have hbm : b ∈ ms := hp.mem_iff.2 hb
  have hnd : (ms.map (·.1)).Nodup := (hp.map _).nodup_iff.2 hi.nd
  have h1 : pinN ms (vr b.1).1 (vr b.1).2 = b.2 := by
    unfold pinN
    have : noName (vr b.1).1.1 = false := hi.nn b hb
    rw [if_neg (by simp [this])]
    exact getN_mem hnd hbm
  have h2 : pinN ms b.2.1 b.2.2 = b.2 := pin_id (hi.ok b hb) (fun s hs c hc e => hi.s2 c (hp.mem_iff.1 hc) b hb (e ▸ hs))
  unfold eT
  rw [h1, h2]
theorem canon_cmpF {S : Sg} (hJ : ∀ f, S.joins f = false) : ∀ {F G : Fo}, canonL S F = canonL S G → lenF F = lenF G ∧ cmpF F G = 0
  | .nil, .nil, _ => ⟨rfl, rfl⟩
  | .nil, .node _ _ _ _ _, h => by simp [canonL] at h
  | .node _ _ _ _ _, .nil, h => by simp [canonL] at h
  | .node _ _ x l r, .node _ _ y m s, h => by
    rw [canonL, canonL] at h
    obtain ⟨h1, h2⟩ := List.cons.inj h
    obtain ⟨e1, e2⟩ := canon_cmpF hJ h2
    have h1' : canonT S (x, l) = canonT S (y, m) := h1
    refine ⟨by simp only [lenF]; omega, ?_⟩
    rw [cmpF, thenC]
    have hc : cmp1 x y (lenF l) (lenF m) (cmpF l m) = 0 := by
      unfold cmp1
      cases hx : noName x.1
      · rw [if_pos rfl]
        rw [canon_var (S := S) (F := l) hx] at h1'
        cases hy : noName y.1
        · rw [if_pos rfl]
          rw [canon_var (S := S) (F := m) hy] at h1'
          have e3 : x.1 = y.1 := (Prod.mk.inj (Prod.mk.inj h1').1).1
          rw [e3]
          unfold cmpS
          have := bytes_anti y.1.data.toList y.1.data.toList
          omega
        · rw [canon_free (S := S) (F := m) hy (hJ _)] at h1'
          have e3 : x.1 = noB := (Prod.mk.inj (Prod.mk.inj h1').1).1
          rw [e3, noName_noB] at hx
          cases hx
      · rw [if_neg (by simp)]
        rw [canon_free (S := S) (F := l) hx (hJ _)] at h1'
        cases hy : noName y.1
        · rw [canon_var (S := S) (F := m) hy] at h1'
          have e3 : noB = y.1 := (Prod.mk.inj (Prod.mk.inj h1').1).1
          rw [← e3, noName_noB] at hy
          cases hy
        · rw [if_neg (by simp)]
          rw [canon_free (S := S) (F := m) hy (hJ _)] at h1'
          have e3 : x.2 = y.2 := (Prod.mk.inj (Prod.mk.inj h1').1).2
          obtain ⟨e4, e5⟩ := canon_cmpF hJ (mkF_inj (Prod.mk.inj h1').2)
          rw [if_pos e3, if_pos e4, e5]
    rw [if_pos hc]
    exact e2
theorem canon_cmp {S : Sg} (hJ : ∀ f, S.joins f = false) {t u : Tn} (h : canonT S t = canonT S u) : cmpN t u = 0 := by
  have h1 := canon_cmpF hJ (F := .node 0 0 t.1 t.2 .nil) (G := .node 0 0 u.1 u.2 .nil) (by
    rw [canonL, canonL]
    show [canonT S t] = [canonT S u]
    rw [h])
  have h2 := h1.2
  rw [cmpF, thenC] at h2
  split at h2
  · assumption
  · exact h2
/-! ### what the statement asks -/
theorem chk_few {sg : List Sym} : ∀ (bs : List Bn) (p : Option ByteArray) (i : Nat), (chkB sg bs p i).1 = 0 → ∀ b ∈ bs, nodesF b.2.2 + 1 ≤ 400
  | [], _, _, _, b, hb => by cases hb
  | x :: r, p, i, h, b, hb => by
    unfold chkB at h
    by_cases hx : bdE sg p x = 0
    · rw [if_pos hx] at h
      rcases List.mem_cons.1 hb with rfl | hb
      · unfold bdE at hx
        by_cases h1 : badV p b = true
        · rw [if_pos h1] at hx; cases hx
        · rw [if_neg h1] at hx
          by_cases h2 : 400 < nodesF b.2.2 + 1
          · rw [if_pos h2] at hx; cases hx
          · omega
      · exact chk_few r _ _ h b hb
    · rw [if_neg hx] at h; exact absurd h hx
theorem var_small {sg : List Sym} {th : List Bn} (hc : (chkB sg th none 0).1 = 0) {s : ByteArray} (hs : noName s = false) : bigB th (vr s) = false := by
  unfold bigB vr growN
  dsimp only
  rw [if_neg (by simp [hs])]
  have h1 : szB th s ≤ 400 := by
    unfold szB
    cases hg : getB th s with
    | none => dsimp only; omega
    | some t =>
      dsimp only
      unfold getB at hg
      obtain ⟨b, hb, rfl⟩ := Option.map_eq_some_iff.1 hg
      exact chk_few th none 0 hc b (List.mem_of_find?_eq_some hb)
  rw [decide_eq_false_iff_not]
  omega
structure GenOk (sg : List Sym) (P : List (Tn × Tn)) (th ms : List Bn) (R : Int × List Bn) : Prop where
  same : R.1 = 0 → ∀ p ∈ P, cmpN (pinN ms p.1.1 p.1.2) (pinN ms p.2.1 p.2.2) = 0
  fail : R.1 = 1 → (decide ((chkB sg th none 0).1 = 0) && P.all fun p => eqB sg th p.1 p.2) = false
  occ : R.1 = 0 → ∀ b ∈ ms, ∀ c ∈ ms, hasR b.1 c.2.1 c.2.2 = false
  gen : R.1 = 0 → (decide ((chkB sg th none 0).1 = 0) && P.all fun p => eqB sg th p.1 p.2) = true → ∀ b ∈ ms, bigB th b.2 = false → eqB sg th (vr b.1) b.2 = true
theorem gen_ok {sg : List Sym} (hk : ∀ x ∈ sg, x.kind = 1) {P : List (Tn × Tn)} (hr : ∀ p ∈ P, rightB sg p.1 = true ∧ rightB sg p.2 = true) {f : Nat} {R : Int × List Bn} (hf : freeF sg f P [] = some R) {th ms : List Bn} (hp : R.1 = 0 → List.Perm ms R.2) : GenOk sg P th ms R := by
  have hJ := free_joins hk
  have hP := free_plain hk
  have hRT : RTs sg P [] := ⟨fun p hpp => ⟨right_RT hk (hr p hpp).1, right_RT hk (hr p hpp).2⟩, fun b hb => by cases hb⟩
  have hok : ∀ p ∈ P, okT p.1 ∧ okT p.2 := fun p hpp => ⟨right_ok (hRT.st p hpp).1.right, right_ok (hRT.st p hpp).2.right⟩
  have hid0 : R.1 = 0 → Idem [] R.2 := fun h0 => free_idem f P [] R.2 (by rw [hf]; obtain ⟨a, b⟩ := R; dsimp only at h0; rw [h0]) hok ⟨fun b hb => (by cases hb), fun b hb => (by cases hb), (by simp), fun b hb => (by cases hb), fun b hb => (by cases hb)⟩
  have hsolves : (decide ((chkB sg th none 0).1 = 0) && P.all fun p => eqB sg th p.1 p.2) = true → (∀ b ∈ th, RightT (sgOf sg) (arAt sg) b.2) ∧ solS sg th P := fun h => by
    rw [Bool.and_eq_true, decide_eq_true_iff, List.all_eq_true] at h
    have hrt := chk_rights th none 0 h.1
    refine ⟨hrt, fun p hpp => ?_⟩
    have h1 := h.2 p hpp
    unfold eqB at h1
    simp only [Bool.and_eq_true, beq_iff_eq] at h1
    have hso := same_iff (a := pinN th p.1.1 p.1.2) (b := pinN th p.2.1 p.2.2) (S := sgOf sg) (ar := arAt sg) (by rw [← hP]; exact plain_ok sg _) (pinN_right hrt _ _ (hRT.st p hpp).1.right) (pinN_right hrt _ _ (hRT.st p hpp).2.right)
    exact hso.1 h1.2.2
  refine ⟨fun h0 p hpp => ?_, fun h1 => ?_, fun h0 b hb c hc => ?_, fun h0 hs b hb hbig => ?_⟩
  · have hsd := ((free_sound hJ hP ms f P [] R hf hRT).1 h0).2 (ans_self (hp h0) (hid0 h0))
    exact canon_cmp hJ (hsd.1 p hpp)
  · cases hv : (decide ((chkB sg th none 0).1 = 0) && P.all fun p => eqB sg th p.1 p.2)
    · rfl
    · exfalso
      obtain ⟨h2, h3⟩ := hsolves hv
      exact (free_sound hJ hP th f P [] R hf hRT).2 h1 h2 ⟨h3, fun b hb => (by cases hb)⟩
  · have hi := hid0 h0
    have h5 := hi.s2 b ((hp h0).mem_iff.1 hb) c ((hp h0).mem_iff.1 hc)
    rw [hasR_is]
    rw [Bool.eq_false_iff]
    exact fun h => h5 (has_nmT.1 h)
  · obtain ⟨h2, h3⟩ := hsolves hs
    have hbR := (hp h0).mem_iff.1 hb
    have h4 := ((free_sound hJ hP th f P [] R hf hRT).1 h0).1 ⟨h3, fun b hb => (by cases hb)⟩ b hbR
    have hs1 := (Bool.and_eq_true_iff.1 hs).1
    unfold eqB
    rw [var_small (of_decide_eq_true hs1) ((hid0 h0).nn b hbR), hbig]
    have h5 : canonT (sgOf sg) (pinN th (vr b.1).1 (vr b.1).2) = canonT (sgOf sg) (pinN th b.2.1 b.2.2) := h4
    rw [h5, cmpN_self]
    rfl
end Go.Proofs.YtfnfbljijkjkjaaGreat
/- What the library says of slices.SortFunc, laid at this program. -/
namespace Go.Proofs
open Go.Shelf
def Tryz.sortB_ren : Go.Shelf.Ren := ⟨fun | 6 => 51 | 15 => 74 | 14 => 73 | 28 => 91 | 29 => 92 | 20 => 83 | 21 => 84 | 22 => 85 | 23 => 86 | 24 => 87 | 25 => 88 | 26 => 89 | 27 => 90 | 46 => 101 | 47 => 102 | 48 => 103 | 49 => 104 | 50 => 105 | 57 => 107 | n => n, fun | 22 => 29 | 24 => 38 | 25 => 101 | 3 => 3 | 39 => 119 | 0 => 0 | 53 => 139 | 55 => 141 | 4 => 4 | 46 => 133 | 45 => 132 | 50 => 127 | 5 => 5 | 9 => 9 | 66 => 145 | 70 => 149 | 76 => 151 | 77 => 152 | n => n, fun | n => n⟩
theorem Tryz.sortB : Go.Proofs.SlLaysF0.n6 Tryz.prog Tryz.sortB_ren := {
  mixed := by kernel_rfl
  f6 := ⟨Tryz.f51.name, by decide, Tryz.func51.trans (congrArg some (by kernel_rfl))⟩
  f14 := ⟨Tryz.f73.name, by decide, Tryz.func73.trans (congrArg some (by kernel_rfl))⟩
  f15 := Tryz.func74.trans (congrArg some (by kernel_rfl))
  f20 := ⟨Tryz.f83.name, by decide, Tryz.func83.trans (congrArg some (by kernel_rfl))⟩
  f21 := ⟨Tryz.f84.name, by decide, Tryz.func84.trans (congrArg some (by kernel_rfl))⟩
  f22 := ⟨Tryz.f85.name, by decide, Tryz.func85.trans (congrArg some (by kernel_rfl))⟩
  f23 := ⟨Tryz.f86.name, by decide, Tryz.func86.trans (congrArg some (by kernel_rfl))⟩
  f24 := ⟨Tryz.f87.name, by decide, Tryz.func87.trans (congrArg some (by kernel_rfl))⟩
  f25 := ⟨Tryz.f88.name, by decide, Tryz.func88.trans (congrArg some (by kernel_rfl))⟩
  f26 := ⟨Tryz.f89.name, by decide, Tryz.func89.trans (congrArg some (by kernel_rfl))⟩
  f27 := ⟨Tryz.f90.name, by decide, Tryz.func90.trans (congrArg some (by kernel_rfl))⟩
  f28 := Tryz.func91.trans (congrArg some (by kernel_rfl))
  f29 := Tryz.func92.trans (congrArg some (by kernel_rfl))
  f46 := ⟨Tryz.f101.name, by decide, Tryz.func101.trans (congrArg some (by kernel_rfl))⟩
  f47 := Tryz.func102.trans (congrArg some (by kernel_rfl))
  f48 := Tryz.func103.trans (congrArg some (by kernel_rfl))
  f49 := ⟨Tryz.f104.name, by decide, Tryz.func104.trans (congrArg some (by kernel_rfl))⟩
  f50 := ⟨Tryz.f105.name, by decide, Tryz.func105.trans (congrArg some (by kernel_rfl))⟩
  f57 := ⟨Tryz.f107.name, by decide, Tryz.func107.trans (congrArg some (by kernel_rfl))⟩
  t0 := Tryz.underlying0
  a0 := Tryz.isAgg0
  z0 := Tryz.sizeOf0
  v0 := Tryz.zeroValue0
  t3 := Tryz.underlying3
  a3 := Tryz.isAgg3
  z3 := Tryz.sizeOf3
  v3 := Tryz.zeroValue3
  t4 := Tryz.underlying4
  a4 := Tryz.isAgg4
  z4 := Tryz.sizeOf4
  v4 := Tryz.zeroValue4
  t5 := Tryz.underlying5
  a5 := Tryz.isAgg5
  z5 := Tryz.sizeOf5
  v5 := Tryz.zeroValue5
  t9 := Tryz.underlying9
  a9 := Tryz.isAgg9
  z9 := Tryz.sizeOf9
  v9 := Tryz.zeroValue9
  t22 := Tryz.underlying29
  a22 := Tryz.isAgg29
  z22 := Tryz.sizeOf29
  v22 := Tryz.zeroValue29
  t25 := Tryz.underlying101
  a25 := Tryz.isAgg101
  z25 := Tryz.sizeOf101
  v25 := Tryz.zeroValue101
  t39 := Tryz.underlying119
  a39 := Tryz.isAgg119
  z39 := Tryz.sizeOf119
  v39 := Tryz.zeroValue119
  t45 := Tryz.underlying132
  a45 := Tryz.isAgg132
  z45 := Tryz.sizeOf132
  v45 := Tryz.zeroValue132
  t46 := Tryz.underlying133
  a46 := Tryz.isAgg133
  z46 := Tryz.sizeOf133
  v46 := Tryz.zeroValue133
  t50 := Tryz.underlying127
  a50 := Tryz.isAgg127
  z50 := Tryz.sizeOf127
  v50 := Tryz.zeroValue127
  t53 := Tryz.underlying139
  a53 := Tryz.isAgg139
  z53 := Tryz.sizeOf139
  v53 := Tryz.zeroValue139
  t55 := Tryz.underlying141
  a55 := Tryz.isAgg141
  z55 := Tryz.sizeOf141
  v55 := Tryz.zeroValue141
  t66 := Tryz.underlying145
  a66 := Tryz.isAgg145
  z66 := Tryz.sizeOf145
  v66 := Tryz.zeroValue145
  t70 := Tryz.underlying149
  a70 := Tryz.isAgg149
  z70 := Tryz.sizeOf149
  v70 := Tryz.zeroValue149
  t76 := Tryz.underlying151
  a76 := Tryz.isAgg151
  z76 := Tryz.sizeOf151
  v76 := Tryz.zeroValue151
  t77 := Tryz.underlying152
  a77 := Tryz.isAgg152
  z77 := Tryz.sizeOf152
  v77 := Tryz.zeroValue152 }
end Go.Proofs
