/- What is shown of a term is read as that term: plain. -/
import Derived.Test.YtkcbhbkldcebiabZShow
namespace Go.Proofs.Ytkcbhbkldcebiab
open Go.RowKit Go.Deep

/-- A word that is a name (1) or a variable (2). -/
structure TokB (kd : Int) (b : ByteArray) : Prop where
  pos : 0 < b.size
  short : b.size ≤ 12
  kind : (kd = 1 ∧ lowZ (bt b 0) = true) ∨ (kd = 2 ∧ lowZ (bt b 0) = false ∧ (upZ (bt b 0) || bt b 0 == 95) = true)
  tail : ∀ j, 1 ≤ j → j < b.size → okTail (bt b 0) (bt b j) = true
  under : bt b 0 = 95 → 1 < b.size ∧ bt b 1 ≠ 48
/-- These bytes stand at this place. -/
def Sits (T : ByteArray) (k : Nat) (l : List UInt8) : Prop := k + l.length ≤ T.size ∧ ∀ j (h : j < l.length), bt T (k + j) = (l[j].toNat : Int)
theorem sits_append {T : ByteArray} {k : Nat} {a b : List UInt8} (h : Sits T k (a ++ b)) : Sits T k a ∧ Sits T (k + a.length) b := by
  obtain ⟨h1, h2⟩ := h
  rw [List.length_append] at h1
  refine ⟨⟨by omega, fun j hj => ?_⟩, by omega, fun j hj => ?_⟩
  · rw [h2 j (by rw [List.length_append]; omega), List.getElem_append_left hj]
  · rw [Nat.add_assoc, h2 (a.length + j) (by rw [List.length_append]; omega), List.getElem_append_right (by omega)]
    congr 3
    omega
theorem sits_one {T : ByteArray} {k : Nat} {c : UInt8} {b : List UInt8} (h : Sits T k (c :: b)) : k < T.size ∧ bt T k = (c.toNat : Int) ∧ Sits T (k + 1) b := by
  have := sits_append (a := [c]) (b := b) h
  refine ⟨?_, ?_, this.2⟩
  · have := this.1.1; simp at this; omega
  · have := this.1.2 0 (by simp)
    simpa using this
theorem sits_bytes {T : ByteArray} {k : Nat} {b : ByteArray} (h : Sits T k b.data.toList) : k + b.size ≤ T.size ∧ ∀ j, j < b.size → bt T (k + j) = bt b j := by
  obtain ⟨h1, h2⟩ := h
  have hz : b.data.toList.length = b.size := rfl
  refine ⟨by omega, fun j hj => ?_⟩
  rw [h2 j (by omega), bt_of hj]
  rfl
theorem low_not {c : Int} (h : lowZ c = true) : 97 ≤ c ∧ c ≤ 122 := by
  unfold lowZ at h
  simpa using h
theorem kindP_1 {s : ByteArray} {b : Nat} (h : kindP s b = 1) : lowZ (bt s b) = true := by
  unfold kindP at h
  split at h
  · assumption
  · repeat' split at h
    all_goals (exfalso; revert h; decide)
theorem kindP_2 {s : ByteArray} {b : Nat} (h : kindP s b = 2) : lowZ (bt s b) = false ∧ (upZ (bt s b) || bt s b == 95) = true := by
  unfold kindP at h
  split at h
  · exfalso; revert h; decide
  · rename_i h0
    split at h
    · rename_i h1
      exact ⟨by simpa using h0, h1⟩
    · repeat' split at h
      all_goals (exfalso; revert h; decide)
theorem errP_0 {s : ByteArray} {b : Nat} (h : errP s b = 0) : badP s b = false ∧ endP s b ≤ b + 12 := by
  unfold errP at h
  split at h
  · exfalso; revert h; decide
  · rename_i h0
    split at h
    · exfalso; revert h; decide
    · exact ⟨by simpa using h0, by omega⟩
/-- A word that was read. -/
theorem tok_of_nx {s : ByteArray} {k : Nat} (hk : (nx s k).word.kind = 1 ∨ (nx s k).word.kind = 2) : TokB (nx s k).word.kind (nx s k).word.text ∧ k + (nx s k).word.text.size ≤ (nx s k).to := by
  unfold nx at hk ⊢
  have hge := runTo_ge blank s k
  generalize runTo blank s k = b at hk hge ⊢
  by_cases hb : s.size ≤ b
  · rw [if_pos hb] at hk
    exfalso
    rcases hk with h | h <;> exact absurd h (by dsimp only [noWd]; decide)
  · rw [if_neg hb] at hk ⊢
    by_cases he : errP s b = 0
    · rw [if_pos he] at hk ⊢
      dsimp only at hk ⊢
      obtain ⟨hbad, hlen⟩ := errP_0 he
      have hb' : b < s.size := by omega
      have hgt := endP_gt s b
      have hle := endP_le hb'
      have hz : (s.extract b (endP s b)).size = endP s b - b := by simp; omega
      have hbt : ∀ j, b + j < endP s b → bt (s.extract b (endP s b)) j = bt s (b + j) := fun j hj => by rw [bt_ext s _ _ _ hle, if_pos hj]
      have h0 : bt (s.extract b (endP s b)) 0 = bt s b := hbt 0 (by omega)
      refine ⟨⟨by omega, by omega, ?_, fun j h1 h2 => ?_, fun h => ?_⟩, by omega⟩
      · rw [h0]
        rcases hk with h | h
        · exact .inl ⟨h, kindP_1 h⟩
        · exact .inr ⟨h, kindP_2 h⟩
      · rw [h0, hbt j (by omega)]
        have hE : endP s b = runTo (okTail (bt s b)) s (b + 1) := by
          unfold endP lenK
          rw [if_pos (by rcases hk with h | h <;> rw [h] <;> rfl)]
        exact runTo_all (p := okTail (bt s b)) (k := b + 1) (by omega) (by omega)
      · rw [h0] at h
        unfold badP at hbad
        simp [h] at hbad
        refine ⟨by omega, ?_⟩
        rw [hbt 1 (by omega)]
        exact hbad.2.2
    · rw [if_neg he] at hk
      exfalso
      rcases hk with h | h <;> exact absurd h (by dsimp only [noWd]; decide)
theorem tok_first {kd : Int} {b : ByteArray} (h : TokB kd b) : (97 ≤ bt b 0 ∧ bt b 0 ≤ 122) ∨ (65 ≤ bt b 0 ∧ bt b 0 ≤ 90) ∨ bt b 0 = 95 := by
  rcases h.kind with ⟨_, h⟩ | ⟨_, _, h⟩
  · exact .inl (low_not h)
  · unfold upZ at h
    simp at h
    rcases h with h | h
    · exact .inr (.inl h)
    · exact .inr (.inr h)
theorem nx_tok {T : ByteArray} {k : Nat} {kd : Int} {b : ByteArray} (ht : TokB kd b) (hs : Sits T k b.data.toList) (he : okTail (bt b 0) (bt T (k + b.size)) = false) : nx T k = ⟨⟨kd, b, k⟩, k + b.size, 0⟩ := by
  obtain ⟨h1, h2⟩ := sits_bytes hs
  have hp := ht.pos
  have h0 : bt T k = bt b 0 := h2 0 hp
  have hf := tok_first ht
  have hbl : runTo blank T k = k := runTo_stop (by unfold blank; rw [h0]; simp; omega)
  have hkd : kindP T k = kd := by
    unfold kindP
    rw [h0]
    rcases ht.kind with ⟨e, h⟩ | ⟨e, h, h'⟩
    · rw [if_pos h, e]
    · rw [if_neg (by simp [h]), if_pos h', e]
  have hk12 : (kd == 1 || kd == 2) = true := by rcases ht.kind with ⟨e, _⟩ | ⟨e, _⟩ <;> rw [e] <;> rfl
  have hend : endP T k = k + b.size := by
    unfold endP lenK
    rw [hkd, if_pos hk12]
    refine runTo_eq (by omega) h1 (fun j h3 h4 => ?_) (fun _ => by rw [h0]; exact he)
    have := ht.tail (j - k) (by omega) (by omega)
    rw [← h2 (j - k) (by omega)] at this
    rw [h0]
    rwa [show k + (j - k) = j by omega] at this
  have hbad : badP T k = false := by
    unfold badP
    rw [hkd, hend, h0]
    have hk0 : (kd == 0) = false := by rcases ht.kind with ⟨e, _⟩ | ⟨e, _⟩ <;> rw [e] <;> rfl
    rw [hk0, Bool.false_or]
    by_cases h95 : bt b 0 = 95
    · obtain ⟨h5, h6⟩ := ht.under h95
      rw [h2 1 h5]
      simp [h6]
      omega
    · simp [h95]
  have herr : errP T k = 0 := by
    unfold errP
    rw [hbad, hend]
    have := ht.short
    simp
    omega
  unfold nx
  rw [hbl, if_neg (by omega), if_pos herr, hkd, hend]
  congr 2
  refine ext_bt (by simp; omega) (fun j hj => ?_)
  have hj' : j < b.size := by simp at hj; omega
  rw [bt_ext T _ _ _ h1, if_pos (by omega)]
  exact h2 j hj'
theorem nx_sign {T : ByteArray} {k : Nat} (hk : k < T.size) {c kd : Int} (hb : bt T k = c) (h : (c = 40 ∧ kd = 3) ∨ (c = 41 ∧ kd = 4) ∨ (c = 44 ∧ kd = 5)) : nx T k = ⟨⟨kd, T.extract k (k + 1), k⟩, k + 1, 0⟩ := by
  have hbl : runTo blank T k = k := runTo_stop (by unfold blank; rw [hb]; simp; omega)
  have hkd : kindP T k = kd := by
    unfold kindP
    rw [hb]
    rcases h with ⟨rfl, rfl⟩ | ⟨rfl, rfl⟩ | ⟨rfl, rfl⟩ <;> rfl
  have hend : endP T k = k + 1 := by
    unfold endP lenK
    rw [hkd]
    rcases h with ⟨_, rfl⟩ | ⟨_, rfl⟩ | ⟨_, rfl⟩ <;> rfl
  have hbad : badP T k = false := by
    unfold badP
    rw [hkd, hend, hb]
    rcases h with ⟨rfl, rfl⟩ | ⟨rfl, rfl⟩ | ⟨rfl, rfl⟩ <;> rfl
  have herr : errP T k = 0 := by
    unfold errP
    rw [hbad, hend]
    simp
  unfold nx
  rw [hbl, if_neg (by omega), if_pos herr, hkd, hend]
/-- What stands behind a term, so that it ends there. -/
structure Soft (T : ByteArray) (E : Nat) : Prop where
  stop : ∀ a, okTail a (bt T E) = false
  fine : (nx T E).err = 0
  none : (nx T E).word.kind ≠ 3
theorem tail_not (a : Int) {c : Int} (h : c = 0 ∨ c = 32 ∨ c = 40 ∨ c = 41 ∨ c = 44) : okTail a c = false := by
  unfold okTail
  rcases h with rfl | rfl | rfl | rfl | rfl <;> simp [digZ, lowZ, upZ]
theorem soft_sign {T : ByteArray} {k : Nat} (hk : k < T.size) (hb : bt T k = 41 ∨ bt T k = 44) : Soft T k := by
  rcases hb with hb | hb
  · refine ⟨fun a => tail_not a (by omega), ?_, ?_⟩
    · rw [nx_sign hk hb (.inr (.inl ⟨rfl, rfl⟩))]
    · rw [nx_sign hk hb (.inr (.inl ⟨rfl, rfl⟩))]; dsimp only; decide
  · refine ⟨fun a => tail_not a (by omega), ?_, ?_⟩
    · rw [nx_sign hk hb (.inr (.inr ⟨rfl, rfl⟩))]
    · rw [nx_sign hk hb (.inr (.inr ⟨rfl, rfl⟩))]; dsimp only; decide
theorem nx_end {T : ByteArray} : nx T T.size = ⟨noWd, T.size, 0⟩ := by
  unfold nx
  rw [runTo_end (Nat.le_refl _), if_pos (Nat.le_refl _)]
theorem soft_end {T : ByteArray} : Soft T T.size := by
  refine ⟨fun a => tail_not a (.inl (bt_out (Nat.le_refl _))), ?_, ?_⟩
  · rw [nx_end]
  · rw [nx_end]; dsimp only [noWd]; decide
theorem look_of {T : ByteArray} {k : Nat} {r : Nx} (h : nx T k = r) (he : r.err = 0) : lookP T k = .ok r := by
  unfold lookP
  rw [h, if_pos he]
theorem next_of {T : ByteArray} {k : Nat} {r : Nx} (h : nx T k = r) (he : r.err = 0) (h0 : r.word.kind ≠ 0) : nextP T k = .ok r := by
  unfold nextP
  rw [look_of h he]
  dsimp only
  rw [if_neg h0]
theorem want_of {T : ByteArray} {k : Nat} {r : Nx} {kd : Int} (h : nx T k = r) (he : r.err = 0) (h0 : r.word.kind = kd) (hk : kd ≠ 0) : wantP T k kd = .ok r := by
  unfold wantP
  rw [next_of h he (by rw [h0]; exact hk)]
  dsimp only
  rw [if_pos h0]
theorem pass_of {T : ByteArray} {k : Nat} {r : Nx} {kd : Int} (h : nx T k = r) (he : r.err = 0) (h0 : r.word.kind = kd) : passP T k kd = .ok (true, r.to) := by
  unfold passP
  rw [look_of h he]
  dsimp only
  rw [if_pos h0]
theorem pass_no {T : ByteArray} {k : Nat} {kd : Int} (he : (nx T k).err = 0) (h0 : (nx T k).word.kind ≠ kd) : passP T k kd = .ok (false, k) := by
  unfold passP
  rw [look_of rfl he]
  dsimp only
  rw [if_neg h0]

/-- The same terms, without where they lie. -/
def cleanF : Fo → Fo
  | .nil => .nil
  | .node _ _ x m r => .node 0 0 x (cleanF m) (cleanF r)
/-- Names and variables that can be read back. -/
def TokX (l : List Sym) (x : ByteArray × Int) (m : Fo) : Prop := if x.1.size = 0 then TokB 1 (symB l x.2) ∧ findB l (symB l x.2) = true ∧ findI l (symB l x.2) = x.2 else TokB 2 x.1 ∧ x.2 = 0 ∧ m = .nil
def TokF (l : List Sym) : Fo → Prop
  | .nil => True
  | .node _ _ x m r => TokX l x m ∧ TokF l m ∧ TokF l r
def TermSt (l : List Sym) (x : ByteArray × Int) (m : Fo) : Prop := ∀ (T : ByteArray) (k : Nat), TokX l x m → TokF l m → Sits T k (showN l x m) → Soft T (k + (showN l x m).length) → rdC T l false k = .ok (.node 0 0 x (cleanF m) .nil, k + (showN l x m).length)
def ListSt (l : List Sym) (F : Fo) : Prop := ∀ (T : ByteArray) (k : Nat), TokF l F → Sits T k (showF l false F ++ [41]) → rdC T l true k = .ok (cleanF F, k + (showF l false F).length + 1)
def KidsSt (l : List Sym) : Fo → Prop
  | .nil => True
  | .node _ _ x m r => TermSt l x m ∧ ListSt l r
theorem size_zero {b : ByteArray} (h : b.size = 0) : b = ⟨#[]⟩ := ext_bt h (fun j hj => by omega)
theorem soft_list {T : ByteArray} {k : Nat} {l : List Sym} {F : Fo} (h : Sits T k (showF l false F ++ [41])) : Soft T k := by
  cases F with
  | nil =>
    obtain ⟨h1, h2, _⟩ := sits_one (b := []) h
    exact soft_sign h1 (.inl h2)
  | node b o x m r =>
    rw [showF_node] at h
    have h' : Sits T k (44 :: (showN l x m ++ showF l false r ++ [41])) := h
    obtain ⟨h1, h2, _⟩ := sits_one h'
    exact soft_sign h1 (.inr h2)
theorem showF_first (l : List Sym) (b o : Nat) (x : ByteArray × Int) (m r : Fo) : showF l true (.node b o x m r) = showN l x m ++ showF l false r := by
  rw [showF_node]; rfl
theorem termSt_of {l : List Sym} {x : ByteArray × Int} {m : Fo} (hm : KidsSt l m) : TermSt l x m := by
  intro T k hx hF hs hsoft
  have hk : k ≤ T.size := by have := hs.1; omega
  rw [rdC_eq hk]
  unfold rd1
  dsimp only
  unfold TokX at hx
  unfold showN at hs hsoft ⊢
  by_cases h0 : x.1.size = 0
  · rw [if_pos h0] at hx hs hsoft ⊢
    obtain ⟨ht, hfb, hfi⟩ := hx
    have hx1 := size_zero h0
    have hz : (symB l x.2).data.toList.length = (symB l x.2).size := rfl
    cases m with
    | nil =>
      have e : (if lenF (.nil : Fo) = 0 then ([] : List UInt8) else [40] ++ showF l true .nil ++ [41]) = [] := if_pos rfl
      rw [e, List.append_nil] at hs hsoft ⊢
      rw [hz] at hsoft ⊢
      have hn := nx_tok ht hs (hsoft.stop _)
      rw [next_of hn rfl (by dsimp only; decide)]
      dsimp only
      rw [if_neg (by decide), if_pos rfl, if_pos hfb, pass_no hsoft.fine hsoft.none]
      dsimp only
      rw [hfi, ← hx1]
      rfl
    | node b o y c r =>
      have e : (if lenF (.node b o y c r : Fo) = 0 then ([] : List UInt8) else [40] ++ showF l true (.node b o y c r) ++ [41]) = [40] ++ (showN l y c ++ showF l false r) ++ [41] := by rw [if_neg (by simp [lenF]), showF_first]
      rw [e] at hs hsoft ⊢
      obtain ⟨s1, s2⟩ := sits_append hs
      rw [hz] at s2
      have s2' : Sits T (k + (symB l x.2).size) (40 :: (showN l y c ++ (showF l false r ++ [41]))) := by simpa [List.append_assoc] using s2
      obtain ⟨h1, h2, s3⟩ := sits_one s2'
      have hn := nx_tok ht s1 (by rw [h2]; exact tail_not _ (.inr (.inr (.inl rfl))))
      obtain ⟨s4, s5⟩ := sits_append s3
      obtain ⟨_, hFc, hFr⟩ := hF
      rw [next_of hn rfl (by dsimp only; decide)]
      dsimp only
      rw [if_neg (by decide), if_pos rfl, if_pos hfb, pass_of (nx_sign h1 h2 (.inl ⟨rfl, rfl⟩)) rfl rfl]
      dsimp only
      rw [hm.1 T _ (by assumption) hFc s4 (soft_list s5)]
      dsimp only
      rw [hm.2 T _ hFr s5]
      dsimp only
      rw [hfi, ← hx1]
      simp only [List.length_append, hz, List.length_cons, List.length_nil, cleanF]
      congr 2
      omega
  · rw [if_neg h0] at hx hs hsoft ⊢
    obtain ⟨ht, hx2, rfl⟩ := hx
    have hz : x.1.data.toList.length = x.1.size := rfl
    have hn := nx_tok ht hs (hsoft.stop _)
    rw [next_of hn rfl (by dsimp only; decide)]
    dsimp only
    rw [if_pos rfl, ← hx2]
    rfl
theorem back_all (l : List Sym) : ∀ F : Fo, ListSt l F ∧ KidsSt l F
  | .nil => by
    refine ⟨fun T k _ hs => ?_, trivial⟩
    obtain ⟨h1, h2, _⟩ := sits_one (b := []) hs
    have hn := nx_sign h1 h2 (.inr (.inl ⟨rfl, rfl⟩))
    rw [rdC_eq (by omega)]
    unfold rd1
    dsimp only
    rw [pass_no (kd := 5) (by rw [hn]) (by rw [hn]; dsimp only; decide)]
    dsimp only
    rw [want_of (kd := 4) hn rfl rfl (by decide)]
    rfl
  | .node b o x m r => by
    have hm := back_all l m
    have hr := back_all l r
    have ht : TermSt l x m := termSt_of hm.2
    refine ⟨fun T k hF hs => ?_, ht, hr.1⟩
    obtain ⟨hX, hFm, hFr⟩ := hF
    rw [showF_node] at hs ⊢
    have hs' : Sits T k (44 :: (showN l x m ++ (showF l false r ++ [41]))) := by simpa [List.append_assoc] using hs
    obtain ⟨h1, h2, s1⟩ := sits_one hs'
    obtain ⟨s2, s3⟩ := sits_append s1
    rw [rdC_eq (by omega)]
    unfold rd1
    dsimp only
    rw [pass_of (nx_sign h1 h2 (.inr (.inr ⟨rfl, rfl⟩))) rfl rfl]
    dsimp only
    rw [ht T _ hX hFm s2 (soft_list s3)]
    dsimp only
    rw [hr.1 T _ hFr s3]
    dsimp only
    simp only [List.length_append, List.length_cons, List.length_nil, cleanF, Bool.false_eq_true, if_false]
    congr 2
    omega

theorem find_back {l : List Sym} {t : ByteArray} (h : findB l t = true) : symB l (findI l t) = t := by
  unfold findB at h
  obtain ⟨i, hi⟩ := Option.isSome_iff_exists.1 h
  have hi' := hi
  unfold findL at hi'
  rw [List.findIdx?_eq_some_iff_getElem] at hi'
  obtain ⟨hlt, hs, _⟩ := hi'
  have e : findI l t = (i : Int) := by unfold findI; rw [hi]
  rw [e]
  unfold symB
  rw [if_pos (by omega)]
  have e2 : l.getD (i : Int).toNat ⟨⟨#[]⟩, 0, 0, ⟨#[]⟩⟩ = l[i] := by simp [List.getD, hlt]
  rw [e2]
  exact (bytes_eq_iff _ _).1 hs
/-- What was read can be shown: how long that is. -/
def TokR (l : List Sym) (k : Nat) : Bool → Fo → Nat → Prop
  | false, F, k' => ∃ x m, F = .node 0 0 x m .nil ∧ TokX l x m ∧ TokF l m ∧ cleanF m = m ∧ k + (showN l x m).length ≤ k'
  | true, F, k' => TokF l F ∧ cleanF F = F ∧ k + (showF l false F).length + 1 ≤ k'
theorem next_nx {s : ByteArray} {k : Nat} {r : Nx} (h : nextP s k = .ok r) : nx s k = r := by
  unfold nextP at h
  cases hl : lookP s k with
  | error e => rw [hl] at h; cases h
  | ok q =>
    rw [hl] at h
    dsimp only at h
    split at h
    · cases h
    · cases h; exact look_ok hl
theorem tok_lone {l : List Sym} {t : ByteArray} (ht : TokB 1 t) (hf : findB l t = true) (m : Fo) : TokX l (⟨#[]⟩, findI l t) m := by
  have e0 : ((⟨#[]⟩ : ByteArray), findI l t).1.size = 0 := rfl
  unfold TokX
  rw [if_pos e0]
  dsimp only
  rw [find_back hf]
  exact ⟨ht, hf, rfl⟩
theorem show_lone {l : List Sym} {t : ByteArray} (hf : findB l t = true) (m : Fo) : (showN l (⟨#[]⟩, findI l t) m).length = t.size + (if lenF m = 0 then 0 else (showF l true m).length + 2) := by
  have e0 : ((⟨#[]⟩ : ByteArray), findI l t).1.size = 0 := rfl
  unfold showN
  rw [if_pos e0]
  dsimp only
  rw [find_back hf, List.length_append]
  have hz : t.data.toList.length = t.size := rfl
  rw [hz]
  split <;> simp
theorem rd_tok (s : ByteArray) (l : List Sym) : ∀ (z : Nat) (m : Bool) (k : Nat) (F : Fo) (k' : Nat), s.size - k ≤ z → k ≤ s.size → rdC s l m k = .ok (F, k') → TokR l k m F k' := by
  intro z
  induction z using Nat.strongRecOn with
  | ind z ih =>
    intro m k F k' hz hk h
    rw [rdC_eq hk] at h
    cases m with
    | false =>
      unfold rd1 at h
      dsimp only at h
      cases hn : nextP s k with
      | error e => rw [hn] at h; cases h
      | ok r =>
        rw [hn] at h
        dsimp only at h
        have h0 := next_ok hk hn
        have hx := next_nx hn
        split at h
        · rename_i h2
          obtain ⟨ht, hle⟩ := tok_of_nx (s := s) (k := k) (.inr (by rw [hx]; exact h2))
          rw [hx, h2] at ht
          rw [hx] at hle
          cases h
          have hp := ht.pos
          refine ⟨_, _, rfl, ?_, trivial, rfl, ?_⟩
          · unfold TokX
            rw [if_neg (show ¬ (r.word.text, (0 : Int)).1.size = 0 by dsimp only; omega)]
            exact ⟨ht, rfl, rfl⟩
          · unfold showN
            rw [if_neg (show ¬ (r.word.text, (0 : Int)).1.size = 0 by dsimp only; omega)]
            exact hle
        · split at h
          · rename_i h1
            obtain ⟨ht, hle⟩ := tok_of_nx (s := s) (k := k) (.inl (by rw [hx]; exact h1))
            rw [hx, h1] at ht
            rw [hx] at hle
            split at h
            · rename_i hf
              cases hp : passP s r.to 3 with
              | error e => rw [hp] at h; cases h
              | ok q =>
                obtain ⟨b, k1⟩ := q
                rw [hp] at h
                cases b with
                | false =>
                  have := pass_false hp
                  cases h
                  refine ⟨_, _, rfl, tok_lone ht hf _, trivial, rfl, ?_⟩
                  rw [show_lone hf, if_pos (show lenF (.nil : Fo) = 0 from rfl)]
                  omega
                | true =>
                  have h1 := pass_true h0.2 (by decide) hp
                  dsimp only at h
                  cases hr : rdC s l false k1 with
                  | error e => rw [hr] at h; cases h
                  | ok q =>
                    obtain ⟨G, k2⟩ := q
                    have h2 := rdC_to h1.2 hr
                    obtain ⟨y, c, rfl, hX, hF, hc, hle1⟩ := ih (s.size - k1) (by omega) false k1 G k2 (Nat.le_refl _) h1.2 hr
                    rw [hr] at h
                    dsimp only at h
                    cases ht2 : rdC s l true k2 with
                    | error e => rw [ht2] at h; cases h
                    | ok q =>
                      obtain ⟨G2, k3⟩ := q
                      have h3 := rdC_to h2.2 ht2
                      obtain ⟨hF2, hc2, hle2⟩ := ih (s.size - k2) (by omega) true k2 G2 k3 (Nat.le_refl _) h2.2 ht2
                      rw [ht2] at h
                      cases h
                      refine ⟨_, _, rfl, tok_lone ht hf _, ⟨hX, hF, hF2⟩, by unfold cleanF; rw [hc, hc2], ?_⟩
                      rw [show_lone hf, if_neg (by simp [lenF]), showF_first, List.length_append]
                      omega
            · cases h
          · cases h
    | true =>
      unfold rd1 at h
      dsimp only at h
      cases hp : passP s k 5 with
      | error e => rw [hp] at h; cases h
      | ok q =>
        obtain ⟨b, k1⟩ := q
        rw [hp] at h
        cases b with
        | false =>
          dsimp only at h
          cases hw : wantP s k 4 with
          | error e => rw [hw] at h; cases h
          | ok r =>
            rw [hw] at h
            have := want_ok hk hw
            cases h
            refine ⟨trivial, rfl, ?_⟩
            show k + 0 + 1 ≤ _
            omega
        | true =>
          have h1 := pass_true hk (by decide) hp
          dsimp only at h
          cases hr : rdC s l false k1 with
          | error e => rw [hr] at h; cases h
          | ok q =>
            obtain ⟨G, k2⟩ := q
            have h2 := rdC_to h1.2 hr
            obtain ⟨y, c, rfl, hX, hF, hc, hle1⟩ := ih (s.size - k1) (by omega) false k1 G k2 (Nat.le_refl _) h1.2 hr
            rw [hr] at h
            dsimp only at h
            cases ht2 : rdC s l true k2 with
            | error e => rw [ht2] at h; cases h
            | ok q =>
              obtain ⟨G2, k3⟩ := q
              have h3 := rdC_to h2.2 ht2
              obtain ⟨hF2, hc2, hle2⟩ := ih (s.size - k2) (by omega) true k2 G2 k3 (Nat.le_refl _) h2.2 ht2
              rw [ht2] at h
              cases h
              refine ⟨⟨hX, hF, hF2⟩, by unfold cleanF; rw [hc, hc2], ?_⟩
              rw [showF_node, List.length_append, List.length_append]
              simp only [Bool.false_eq_true, if_false, List.length_cons, List.length_nil]
              omega
/-- No byte of it is a blank. -/
theorem tok_no {kd : Int} {b : ByteArray} (h : TokB kd b) : ∀ c ∈ b.data.toList, c ≠ 32 := by
  intro c hc e
  subst e
  obtain ⟨j, hj, hb⟩ := List.getElem_of_mem hc
  have hj' : j < b.size := hj
  have hbt : bt b j = 32 := by
    rw [bt_of hj']
    have : (b[j]'hj') = 32 := hb
    rw [this]; rfl
  by_cases h0 : j = 0
  · subst h0
    have := tok_first h
    omega
  · have := h.tail j (by omega) hj'
    rw [hbt, tail_not _ (.inr (.inl rfl))] at this
    cases this
theorem show_no {l : List Sym} {x : ByteArray × Int} {m : Fo} (hx : TokX l x m) (hm : ∀ c ∈ showF l true m, c ≠ 32) : ∀ c ∈ showN l x m, c ≠ 32 := by
  intro c hc
  unfold TokX at hx
  unfold showN at hc
  by_cases h0 : x.1.size = 0
  · rw [if_pos h0] at hx hc
    rcases List.mem_append.1 hc with h | h
    · exact tok_no hx.1 c h
    · split at h
      · cases h
      · rcases List.mem_append.1 h with h | h
        · rcases List.mem_append.1 h with h | h
          · rw [List.mem_singleton.1 h]; decide
          · exact hm c h
        · rw [List.mem_singleton.1 h]; decide
  · rw [if_neg h0] at hx hc
    exact tok_no hx.1 c hc
theorem shows_no (l : List Sym) : ∀ (F : Fo) (f : Bool), TokF l F → ∀ c ∈ showF l f F, c ≠ 32
  | .nil, _, _ => fun c hc => by cases hc
  | .node b o x m r, f, ⟨hX, hm, hr⟩ => by
    intro c hc
    rw [showF_node] at hc
    rcases List.mem_append.1 hc with h | h
    · rcases List.mem_append.1 h with h | h
      · split at h
        · cases h
        · rw [List.mem_singleton.1 h]; decide
      · exact show_no hX (shows_no l m true hm) c h
    · exact shows_no l r false hr c h
theorem sits_self (bs : List UInt8) : Sits ⟨bs.toArray⟩ 0 bs := by
  refine ⟨by rw [Nat.zero_add]; exact Nat.le_refl _, fun j hj => ?_⟩
  rw [Nat.zero_add, bt_of (s := ⟨bs.toArray⟩) (j := j) hj]
  rfl
/-- A text that holds one term alone. -/
theorem term_back {l : List Sym} {x : ByteArray × Int} {m : Fo} (hX : TokX l x m) (hF : TokF l m) (hz : (showN l x m).length ≤ 800) : termR ⟨(showN l x m).toArray⟩ l = .ok (x, cleanF m) := by
  have hsz : (⟨(showN l x m).toArray⟩ : ByteArray).size = (showN l x m).length := rfl
  have h := termSt_of (back_all l m).2 ⟨(showN l x m).toArray⟩ 0 hX hF (sits_self _) (by rw [Nat.zero_add, ← hsz]; exact soft_end)
  rw [Nat.zero_add, ← hsz] at h
  unfold rdC at h
  unfold termR
  rw [if_neg (by rw [hsz]; omega), h]
  dsimp only
  unfold endR
  rw [look_of nx_end rfl]
  rfl
theorem full_again {s : ByteArray} {l : List Sym} {t : Tn} (h : fullR s l = .ok t) : fullR ⟨(showN l t.1 t.2).toArray⟩ l = .ok t ∧ (showN l t.1 t.2).length ≤ s.size ∧ (∀ c ∈ showN l t.1 t.2, c ≠ 32) ∧ s.size ≤ 800 := by
  unfold fullR at h
  cases hr : termR s l with
  | error e => rw [hr] at h; cases h
  | ok q =>
    rw [hr] at h
    dsimp only at h
    split at h
    · rename_i hc
      cases h
      have hr' := hr
      unfold termR at hr
      split at hr
      · cases hr
      · rename_i h8
        cases hd : rdF s l (s.size + 1) false 0 with
        | error e => rw [hd] at hr; cases hr
        | ok p =>
          obtain ⟨F, k⟩ := p
          have hd' : rdC s l false 0 = .ok (F, k) := hd
          have hto := rdC_to (Nat.zero_le _) hd'
          obtain ⟨x, m, rfl, hX, hF, hcl, hle⟩ := rd_tok s l _ false 0 F k (Nat.le_refl _) (Nat.zero_le _) hd'
          rw [hd] at hr
          dsimp only at hr
          cases he : endR s k with
          | error e => rw [he] at hr; cases hr
          | ok r =>
            rw [he] at hr
            cases hr
            refine ⟨?_, (show (showN l x m).length ≤ s.size by omega), show_no hX (shows_no l m true hF), by omega⟩
            unfold fullR
            rw [term_back hX hF (by omega), hcl]
            dsimp only
            rw [if_pos hc]
    · cases h
end Go.Proofs.Ytkcbhbkldcebiab
