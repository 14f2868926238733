import Derived.Test.YtfnfbljijkjkjaaGreatKSChk
/- Plain: what is done with an equation loses no substitution that solves it, and wins none. -/
namespace Go.Proofs.YtfnfbljijkjkjaaGreat

/-! ### the plain signature -/
theorem symAt_map (l : List Sym) (f : Int) : symAt (l.map plainS) f = (symAt l f).map plainS := by
  unfold symAt
  split
  · rw [List.getElem?_map]
  · rfl
theorem plainS_kind (x : Sym) : (plainS x).kind ≠ 3 := by
  unfold plainS
  split
  · show (2 : Int) ≠ 3; omega
  · assumption
theorem plainS_joins (x : Sym) : (decide ((plainS x).kind = 2) || decide ((plainS x).kind = 3)) = (decide (x.kind = 2) || decide (x.kind = 3)) := by
  unfold plainS
  split
  · rename_i h; simp [h]
  · rfl
theorem plainS_arity (x : Sym) : (plainS x).arity = x.arity := by
  unfold plainS
  split <;> rfl
theorem plain_unit (l : List Sym) (f : Int) : unitAt (l.map plainS) f = none := by
  unfold unitAt
  split
  · rename_i h
    rw [if_neg]
    rw [List.getElem_map]
    exact plainS_kind _
  · rfl
theorem plain_joins (l : List Sym) (f : Int) : joinsAt (l.map plainS) f = joinsAt l f := by
  unfold joinsAt
  rw [symAt_map]
  cases symAt l f with
  | none => rfl
  | some x => exact plainS_joins x
theorem plain_ar (l : List Sym) (f : Int) : arAt (l.map plainS) f = arAt l f := by
  unfold arAt
  rw [symAt_map]
  cases symAt l f with
  | none => rfl
  | some x => exact congrArg Int.toNat (plainS_arity x)
theorem plain_none (l : List Sym) (f : Int) : (sgOf (l.map plainS)).unit f = none := by
  show (unitAt (l.map plainS) f).map _ = none
  rw [plain_unit]; rfl
theorem plain_ok (l : List Sym) (ar : Int → Nat) : (sgOf (l.map plainS)).Ok ar := ⟨fun f u h => (by rw [plain_none] at h; cases h), fun f u h => (by rw [plain_none] at h; cases h)⟩
theorem plain_node (l : List Sym) (x : ByteArray × Int) (n : Nat) (h : nodeOk (sgOf l) (arAt l) x n) : nodeOk (sgOf (l.map plainS)) (arAt (l.map plainS)) x n := by
  unfold nodeOk at h ⊢
  have e1 : (sgOf (l.map plainS)).joins x.2 = (sgOf l).joins x.2 := plain_joins l x.2
  rw [e1, plain_ar]
  exact h
theorem plain_rightF (l : List Sym) : ∀ {F : Fo}, RightF (sgOf l) (arAt l) F → RightF (sgOf (l.map plainS)) (arAt (l.map plainS)) F
  | .nil, _ => trivial
  | .node _ _ _ _ _, h => ⟨⟨plain_node l _ _ h.1.1, plain_rightF l h.1.2⟩, plain_rightF l h.2⟩
theorem plain_right {l : List Sym} {t : Tn} (h : RightT (sgOf l) (arAt l) t) : RightT (sgOf (l.map plainS)) (arAt (l.map plainS)) t := ⟨plain_node l _ _ h.1, plain_rightF l h.2⟩

/-! ### what is put in -/
theorem pinF_sb (bs : List Bn) : ∀ F : Fo, pinF bs F = sbF (getN bs) F
  | .nil => rfl
  | .node _ _ x l r => by
    unfold pinF sbF sb1
    rw [pinF_sb bs l, pinF_sb bs r]
    split
    · rfl
    · rfl
theorem pinN_sb (bs : List Bn) (t : Tn) : pinN bs t.1 t.2 = sbN (getN bs) t := by
  unfold pinN sbN sb1
  rw [pinF_sb]
theorem chk_rights {sg : List Sym} : ∀ (bs : List Bn) (p : Option ByteArray) (i : Nat), (chkB sg bs p i).1 = 0 → ∀ b ∈ bs, RightT (sgOf sg) (arAt sg) b.2
  | [], _, _, _, b, hb => by cases hb
  | x :: r, p, i, h, b, hb => by
    unfold chkB at h
    by_cases hx : bdE sg p x = 0
    · rw [if_pos hx] at h
      rcases List.mem_cons.1 hb with rfl | hb
      · unfold bdE at hx
        by_cases h1 : badV p b = true
        · rw [if_pos h1] at hx; cases hx
        · rw [if_neg h1] at hx
          by_cases h2 : 400 < nodesF b.2.2 + 1
          · rw [if_pos h2] at hx; cases hx
          · rw [if_neg h2] at hx
            by_cases h3 : rightB sg b.2 = false
            · rw [if_pos h3] at hx; cases hx
            · exact (right_facts (by simpa using h3)).2
      · exact chk_rights r _ _ h b hb
    · rw [if_neg hx] at h; exact absurd h hx
/-- Right terms that compare alike make the same, whatever is put in. -/
theorem alikeF {S : Sg} {ar : Int → Nat} (bs : List Bn) : ∀ {F G : Fo}, RightF S ar F → RightF S ar G → lenF F = lenF G → cmpF F G = 0 → canonL S (pinF bs F) = canonL S (pinF bs G)
  | .nil, .nil, _, _, _, _ => rfl
  | .nil, .node _ _ _ _ _, _, _, h, _ => by simp [lenF] at h
  | .node _ _ _ _ _, .nil, _, _, h, _ => by simp [lenF] at h
  | .node b o x l r, .node b' o' y m s, ⟨⟨hx, hl⟩, hr⟩, ⟨⟨hy, hm⟩, hs⟩, hlen, h => by
    simp only [lenF, Nat.add_right_cancel_iff] at hlen
    rw [cmpF, thenC] at h
    split at h
    case isFalse hne => exact absurd h hne
    rename_i h1
    have hrs := alikeF bs hr hs hlen h
    unfold cmp1 at h1
    unfold nodeOk at hx hy
    unfold pinF
    cases ex : noName x.1 <;> cases ey : noName y.1 <;> simp only [ex, ey, if_true, if_false, Bool.true_eq_false, Bool.false_eq_true] at h1 hx hy ⊢
    · have hn : x.1 = y.1 := bytes_eq (bytes_zero h1)
      rw [canonL, canonL, hrs, hn]
    · omega
    · omega
    · split at h1
      case isFalse hne => exact absurd (compareInt_zero h1) hne
      rename_i hs2
      split at h1
      case isFalse hne => exact absurd (by have := compareInt_zero h1; omega) hne
      rename_i hlm
      have hlm2 := alikeF bs hl hm hlm h1
      rw [canonL, canonL, hrs, hlm2, show x = y from Prod.ext ((noName_eq ex).trans (noName_eq ey).symm) hs2]
theorem alikeT {S : Sg} {ar : Int → Nat} (bs : List Bn) {x y : Tn} (hx : RightT S ar x) (hy : RightT S ar y) (h : cmpN x y = 0) : canonT S (pinN bs x.1 x.2) = canonT S (pinN bs y.1 y.2) := by
  have h2 := alikeF bs (F := .node 0 0 x.1 x.2 .nil) (G := .node 0 0 y.1 y.2 .nil) (S := S) (ar := ar) ⟨hx, trivial⟩ ⟨hy, trivial⟩ rfl (by
    rw [cmpF, thenC]
    have h' : cmp1 x.1 y.1 (lenF x.2) (lenF y.2) (cmpF x.2 y.2) = 0 := h
    rw [if_pos h', cmpF])
  rw [canonL_map, canonL_map, pinF_kids, pinF_kids] at h2
  simpa [kidsL] using h2

/-! ### what equal answers -/
def bigB (bs : List Bn) (A : Tn) : Bool := decide (growN bs A.1 A.2 400 < 0)
def eqB (sg : List Sym) (bs : List Bn) (A B : Tn) : Bool := !bigB bs A && (!bigB bs B && (cmpN (canonT (sgOf sg) (pinN bs A.1 A.2)) (canonT (sgOf sg) (pinN bs B.1 B.2)) == 0))
theorem eqB_turn (sg : List Sym) (bs : List Bn) (A B : Tn) : eqB sg bs B A = eqB sg bs A B := by
  unfold eqB
  have : (cmpN (canonT (sgOf sg) (pinN bs B.1 B.2)) (canonT (sgOf sg) (pinN bs A.1 A.2)) == 0) = (cmpN (canonT (sgOf sg) (pinN bs A.1 A.2)) (canonT (sgOf sg) (pinN bs B.1 B.2)) == 0) := by
    rw [Bool.eq_iff_iff, beq_iff_eq, beq_iff_eq, cmpN_anti (canonT (sgOf sg) (pinN bs A.1 A.2))]
    omega
  rw [this]
  cases bigB bs A <;> cases bigB bs B <;> rfl
theorem eqB_iff {sg : List Sym} {bs : List Bn} (hb : ∀ b ∈ bs, RightT (sgOf (sg.map plainS)) (arAt (sg.map plainS)) b.2) {A B : Tn} (hA : RightT (sgOf (sg.map plainS)) (arAt (sg.map plainS)) A) (hB : RightT (sgOf (sg.map plainS)) (arAt (sg.map plainS)) B) (h1 : bigB bs A = false) (h2 : bigB bs B = false) :
    eqB (sg.map plainS) bs A B = true ↔ canonT (sgOf (sg.map plainS)) (pinN bs A.1 A.2) = canonT (sgOf (sg.map plainS)) (pinN bs B.1 B.2) := by
  unfold eqB
  rw [h1, h2]
  simp only [Bool.not_false, Bool.true_and, beq_iff_eq]
  exact same_iff (plain_ok sg _) (pinN_right hb _ _ hA) (pinN_right hb _ _ hB)
theorem eqB_not {sg : List Sym} {bs : List Bn} (hb : ∀ b ∈ bs, RightT (sgOf (sg.map plainS)) (arAt (sg.map plainS)) b.2) {A B : Tn} (hA : RightT (sgOf (sg.map plainS)) (arAt (sg.map plainS)) A) (hB : RightT (sgOf (sg.map plainS)) (arAt (sg.map plainS)) B)
    (hne : canonT (sgOf (sg.map plainS)) (pinN bs A.1 A.2) ≠ canonT (sgOf (sg.map plainS)) (pinN bs B.1 B.2)) : eqB (sg.map plainS) bs A B = false := by
  cases h1 : bigB bs A
  · cases h2 : bigB bs B
    · rw [Bool.eq_false_iff]
      intro h
      exact hne ((eqB_iff hb hA hB h1 h2).1 h)
    · unfold eqB; rw [h2]; simp
  · unfold eqB; rw [h1]; simp
theorem bigB_iff (bs : List Bn) (A : Tn) : bigB bs A = false ↔ nodesF (pinN bs A.1 A.2).2 + 1 ≤ 400 := by
  unfold bigB
  rw [decide_eq_false_iff_not, Int.not_lt, growN_iff]
  omega
theorem kid_small {bs : List Bn} {A k : Tn} (hx : noName A.1.1 = true) (hk : k ∈ kidsL A.2) (h : bigB bs A = false) : bigB bs k = false := by
  rw [bigB_iff] at h ⊢
  have e : pinN bs A.1 A.2 = (A.1, pinF bs A.2) := by unfold pinN; rw [if_pos hx]
  rw [e] at h
  have hm : pinN bs k.1 k.2 ∈ kidsL (pinF bs A.2) := by
    rw [pinF_kids]
    exact List.mem_map.2 ⟨k, hk, rfl⟩
  have h2 : sizeT (pinN bs k.1 k.2) ≤ sizes (kidsL (pinF bs A.2)) := by
    have : ∀ (l : List Tn) (t : Tn), t ∈ l → sizeT t ≤ sizes l := by
      intro l
      induction l with
      | nil => intro t ht; cases ht
      | cons a r ih =>
        intro t ht
        rw [sizes_cons]
        rcases List.mem_cons.1 ht with rfl | ht
        · omega
        · have := ih t ht; omega
    exact this _ _ hm
  rw [← nodes_sizes] at h2
  unfold sizeT at h2
  dsimp only at h
  omega

/-! ### the law -/
theorem zip_all {α : Type} {f : Tn → α} {p : Tn → Tn → Bool} : ∀ (l m : List Tn), l.length = m.length → (∀ a ∈ l, ∀ b ∈ m, p a b = true ↔ f a = f b) → ((l.zip m).all (fun q => p q.1 q.2) = true ↔ l.map f = m.map f)
  | [], [], _, _ => by simp
  | [], _ :: _, h, _ => by simp at h
  | _ :: _, [], h, _ => by simp at h
  | a :: l, b :: m, h, hp => by
    have ih := zip_all l m (by simpa using h) (fun x hx y hy => hp x (.tail _ hx) y (.tail _ hy))
    simp only [List.zip_cons_cons, List.all_cons, Bool.and_eq_true, List.map_cons, List.cons.injEq]
    rw [ih, hp a (.head _) b (.head _)]
/-- What the statement asks of what is done. -/
def rightW (sg : List Sym) (bs : List Bn) (A B : Tn) (V : Wy) : Bool :=
  if V.act = 1 then eqB (sg.map plainS) bs A B || (bigB bs A || bigB bs B)
  else if V.act = 2 then !eqB (sg.map plainS) bs A B
  else if V.act = 3 then eqB (sg.map plainS) bs A B == eqB (sg.map plainS) bs ((V.bv, 0), .nil) V.t
  else if V.act = 4 then (V.ls.all (fun q => eqB (sg.map plainS) bs q.1 q.2) == eqB (sg.map plainS) bs A B) || (bigB bs A || bigB bs B)
  else decide (V.act = 5) && (decide (0 ≤ V.sym) && (decide (V.sym < sg.length) && (decide (kindAt (sg.map plainS) V.sym = 2) && (decide (A.1.2 = V.sym) && decide (B.1.2 = V.sym)))))
theorem var_is {S : Sg} {ar : Int → Nat} {A : Tn} (h : RightT S ar A) (hx : noName A.1.1 = false) : A = ((A.1.1, 0), .nil) := by
  obtain ⟨⟨x, s⟩, l⟩ := A
  have h1 := h.1
  unfold nodeOk at h1
  rw [if_pos hx] at h1
  have e : l = .nil := len_nil h1.2
  have e2 : s = 0 := h1.1
  rw [e, e2]
theorem set_right {sg : List Sym} {bs : List Bn} {A B : Tn} (hA : RightT (sgOf (sg.map plainS)) (arAt (sg.map plainS)) A) (hx : noName A.1.1 = false) : rightW sg bs A B (setW A.1.1 B) = true := by
  show (eqB (sg.map plainS) bs A B == eqB (sg.map plainS) bs ((A.1.1, 0), .nil) B) = true
  rw [← var_is hA hx]
  exact beq_self_eq_true _
theorem set_right2 {sg : List Sym} {bs : List Bn} {A B : Tn} (hB : RightT (sgOf (sg.map plainS)) (arAt (sg.map plainS)) B) (hx : noName B.1.1 = false) : rightW sg bs A B (setW B.1.1 A) = true := by
  show (eqB (sg.map plainS) bs A B == eqB (sg.map plainS) bs ((B.1.1, 0), .nil) A) = true
  rw [← var_is hB hx, eqB_turn]
  exact beq_self_eq_true _
theorem pin_right {sg : List Sym} {bs : List Bn} (hb : ∀ b ∈ bs, RightT (sgOf (sg.map plainS)) (arAt (sg.map plainS)) b.2) {A : Tn} (hA : RightT (sgOf (sg.map plainS)) (arAt (sg.map plainS)) A) : RightT (sgOf (sg.map plainS)) (arAt (sg.map plainS)) (pinN bs A.1 A.2) := pinN_right hb _ _ hA
theorem occurs_not {sg : List Sym} {bs : List Bn} (hb : ∀ b ∈ bs, RightT (sgOf (sg.map plainS)) (arAt (sg.map plainS)) b.2) {A B : Tn} (hA : RightT (sgOf (sg.map plainS)) (arAt (sg.map plainS)) A) (hB : RightT (sgOf (sg.map plainS)) (arAt (sg.map plainS)) B) (hx : noName A.1.1 = false) (hy : noName B.1.1 = true) (hh : hasT A.1.1 B.1 B.2 = true) :
    canonT (sgOf (sg.map plainS)) (pinN bs A.1 A.2) ≠ canonT (sgOf (sg.map plainS)) (pinN bs B.1 B.2) := fun e => by
  have h1 := canonT_wg (plain_ok sg _) (plain_none sg) (pin_right hb hA)
  have h2 := canonT_wg (plain_ok sg _) (plain_none sg) (pin_right hb hB)
  rw [e, h2] at h1
  have hf : hasF A.1.1 B.2 = true := by
    rw [← hasR_is] at hh
    unfold hasR hasN at hh
    rw [hy] at hh
    simpa using hh
  have h3 := occ_less (g := getN bs) (nm := A.1.1) (fun s hs => getN_right hb hs) hB hy hf
  rw [← pinN_sb, h1] at h3
  have h4 : pinN bs A.1 A.2 = getN bs A.1.1 := by unfold pinN; rw [if_neg (by simp [hx])]
  rw [h4] at h3
  omega
theorem right_law {sg : List Sym} {bs : List Bn} {A B : Tn} (hp : plainB sg A B = true) (hb : ∀ b ∈ bs, RightT (sgOf (sg.map plainS)) (arAt (sg.map plainS)) b.2) : rightW sg bs A B (oneP sg A B) = true := by
  unfold plainB at hp
  simp only [Bool.and_eq_true] at hp
  obtain ⟨⟨rA, rB⟩, _, _⟩ := hp
  have fA := right_facts rA
  have fB := right_facts rB
  have hA := plain_right fA.2
  have hB := plain_right fB.2
  unfold oneP
  by_cases hc : cmpN A B = 0
  · rw [if_pos hc]
    show (eqB (sg.map plainS) bs A B || (bigB bs A || bigB bs B)) = true
    cases h1 : bigB bs A
    · cases h2 : bigB bs B
      · rw [(eqB_iff hb hA hB h1 h2).2 (alikeT bs hA hB hc)]; rfl
      · simp
    · simp
  · rw [if_neg hc]
    unfold lookP
    cases hx : noName A.1.1
    · rw [if_pos rfl]
      cases hy : noName B.1.1
      · rw [if_pos rfl]
        unfold ofVarsP
        rw [if_neg hc]
        split
        · exact set_right hA hx
        · exact set_right2 hB hy
      · rw [if_neg (by simp)]
        unfold ofVarP
        split
        · rename_i hh
          show (!eqB (sg.map plainS) bs A B) = true
          rw [eqB_not hb hA hB (occurs_not hb hA hB hx hy hh)]; rfl
        · exact set_right hA hx
    · rw [if_neg (by simp)]
      cases hy : noName B.1.1
      · rw [if_pos rfl]
        unfold ofVarP
        split
        · rename_i hh
          show (!eqB (sg.map plainS) bs A B) = true
          rw [← eqB_turn, eqB_not hb hB hA (occurs_not hb hB hA hy hx hh)]; rfl
        · exact set_right2 hB hy
      · rw [if_neg (by simp)]
        have pA : pinN bs A.1 A.2 = (A.1, pinF bs A.2) := by unfold pinN; rw [if_pos hx]
        have pB : pinN bs B.1 B.2 = (B.1, pinF bs B.2) := by unfold pinN; rw [if_pos hy]
        by_cases hs : A.1.2 = B.1.2
        · rw [if_pos hs]
          have nA := fA.2.1
          have nB := fB.2.1
          unfold nodeOk at nA nB
          rw [if_neg (by simp [hx])] at nA
          rw [if_neg (by simp [hy]), ← hs] at nB
          cases hf : freeB sg A.1.2
          · rw [if_neg (by simp)]
            have hj : joinsAt sg A.1.2 = true ∧ 0 ≤ A.1.2 ∧ A.1.2 < sg.length ∧ kindAt (sg.map plainS) A.1.2 = 2 := by
              have hin : 0 ≤ A.1.2 ∧ A.1.2.toNat < sg.length ∧ ∃ x, symAt sg A.1.2 = some x ∧ (x.kind = 1 ∨ x.kind = 2 ∨ x.kind = 3) := by
                have hr := rA
                unfold rightB at hr
                simp only [Bool.and_eq_true, beq_iff_eq] at hr
                have hE : errT sg A.1 A.2 = 0 := hr.2
                unfold errT at hE
                have hn := (then_zero hE).1
                unfold nodeErr at hn
                rw [if_neg (by simp [hx])] at hn
                split at hn
                · rename_i h0
                  split at hn
                  · rename_i s hs1
                    have hlt : A.1.2.toNat < sg.length := by
                      rcases Nat.lt_or_ge A.1.2.toNat sg.length with h | h
                      · exact h
                      · rw [List.getElem?_eq_none_iff.2 h] at hs1; cases hs1
                    have hkb := (symErr_zero (right_each hr.1 hlt)).2.1
                    have hsk : sg[A.1.2.toNat] = s := by rw [List.getElem?_eq_getElem hlt] at hs1; exact Option.some.inj hs1
                    rw [hsk] at hkb
                    refine ⟨h0, hlt, s, ?_, ?_⟩
                    · unfold symAt; rw [if_pos h0]; exact hs1
                    · unfold kindB at hkb
                      simp only [Bool.or_eq_true, decide_eq_true_eq] at hkb
                      omega
                  · omega
                · omega
              obtain ⟨h0, hlt, x, hxs, hk⟩ := hin
              have hsx : sg[A.1.2.toNat]? = some x := by unfold symAt at hxs; rw [if_pos h0] at hxs; exact hxs
              have hka : kindAt sg A.1.2 = x.kind := by unfold kindAt; rw [hsx]
              have hk1 : x.kind ≠ 1 := by
                intro e
                unfold freeB at hf
                rw [hka, e] at hf
                simp at hf
                omega
              refine ⟨?_, h0, by omega, ?_⟩
              · unfold joinsAt
                rw [hxs]
                simp only [Bool.or_eq_true, decide_eq_true_eq]
                omega
              · unfold kindAt
                rw [List.getElem?_map, hsx]
                show (plainS x).kind = 2
                unfold plainS
                split
                · rfl
                · omega
            show (decide ((5 : Int) = 5) && (decide (0 ≤ A.1.2) && (decide (A.1.2 < sg.length) && (decide (kindAt (sg.map plainS) A.1.2 = 2) && (decide (A.1.2 = A.1.2) && decide (B.1.2 = A.1.2)))))) = true
            rw [decide_eq_true hj.2.1, decide_eq_true hj.2.2.1, decide_eq_true hj.2.2.2, decide_eq_true hs.symm]
            simp
          · rw [if_pos rfl]
            have hjf : joinsAt sg A.1.2 = false := by
              unfold freeB at hf
              simp only [Bool.and_eq_true, decide_eq_true_eq] at hf
              obtain ⟨h0, h1, h2⟩ := hf
              unfold joinsAt symAt
              rw [if_pos h0]
              unfold kindAt at h2
              cases hq : sg[A.1.2.toNat]? with
              | none => rfl
              | some x => rw [hq] at h2; dsimp only at h2 ⊢; rw [h2]; rfl
            have e1 : (sgOf sg).joins A.1.2 = false := hjf
            rw [e1, if_neg (by simp)] at nA nB
            have hlen : lenF A.2 = lenF B.2 := by omega
            unfold sideP
            rw [if_pos hlen]
            show ((((kidsL A.2).zip (kidsL B.2)).all (fun q => eqB (sg.map plainS) bs q.1 q.2) == eqB (sg.map plainS) bs A B) || (bigB bs A || bigB bs B)) = true
            cases h1 : bigB bs A
            · cases h2 : bigB bs B
              · have hjp : (sgOf (sg.map plainS)).joins A.1.2 = false := (plain_joins sg _).trans hjf
                have hz := zip_all (f := fun t => canonT (sgOf (sg.map plainS)) (pinN bs t.1 t.2)) (p := eqB (sg.map plainS) bs) (kidsL A.2) (kidsL B.2) (by rw [kids_len, kids_len]; exact hlen) (fun a ha b hb' =>
                  eqB_iff hb (right_kids.1 hA.2 a ha) (right_kids.1 hB.2 b hb') (kid_small hx ha h1) (kid_small hy hb' h2))
                have hq := eqB_iff hb hA hB h1 h2
                rw [pA, pB, free_iff hx hy hs hjp, canonL_map, canonL_map, pinF_kids, pinF_kids, List.map_map, List.map_map] at hq
                have : ((kidsL A.2).zip (kidsL B.2)).all (fun q => eqB (sg.map plainS) bs q.1 q.2) = eqB (sg.map plainS) bs A B := by
                  rw [Bool.eq_iff_iff, hz, hq]; rfl
                rw [this]
                simp
              · simp
            · simp
        · rw [if_neg hs]
          show (!eqB (sg.map plainS) bs A B) = true
          rw [eqB_not hb hA hB ?_]; · rfl
          exact head_other (plain_ok sg _) (plain_none sg) (by rw [pA]; exact hx) (by rw [pB]; exact hy) (pin_right hb hA) (pin_right hb hB) (by rw [pA, pB]; exact hs)
end Go.Proofs.YtfnfbljijkjkjaaGreat
