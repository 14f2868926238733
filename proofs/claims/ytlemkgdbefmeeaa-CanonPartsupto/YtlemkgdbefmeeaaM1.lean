/- Texts laid together: TPath, CanP, CanQ, CanS, Plain, Leaf, SName, SVar, RVar, SigMem, TSig, TRChk, TRChkB, Find, Unit, Right, ChkPlain. -/
import Derived.Laws.RangeAny
import Derived.Test.YtlemkgdbefmeeaaRows
import Derived.WalkKit
import Derived.WalkSpells
import Derived.WalkLawsBesides
import Derived.Test.YtlemkgdbefmeeaaM0
/- What stands at a path, and what another term put there makes; where it lies in memory. -/
namespace Go.Proofs.Ytlemkgdbefmeeaa
open Go.RowKit Go.Deep

abbrev Tn := (ByteArray × Int) × Fo
def kidT (i : Int) (l : Fo) : Option Tn := if 0 ≤ i ∧ i < lenF l then (kidsL l)[i.toNat]? else none
def setF : Nat → Fo → Tn → Fo
  | _, .nil, _ => .nil
  | 0, .node b o _ _ r, t => .node b o t.1 t.2 r
  | n + 1, .node b o x l r, t => .node b o x l (setF n r t)
def subT : List Int → Tn → Option Tn
  | [], t => some t
  | i :: p, t => match kidT i t.2 with
    | none => none
    | some k => subT p k
def putT (u : Tn) : List Int → Tn → Option Tn
  | [], _ => some u
  | i :: p, t => match kidT i t.2 with
    | none => none
    | some k => match putT u p k with
      | none => none
      | some k' => some (t.1, setF i.toNat t.2 k')
def noT : Tn := ((⟨#[]⟩, 0), .nil)
def ansT (o : Option Tn) : Tn := o.getD noT
def ansE (o : Option Tn) : Int := match o with | none => 35 | some _ => 0

theorem len_set : ∀ (n : Nat) (F : Fo) (t : Tn), lenF (setF n F t) = lenF F
  | n, .nil, _ => by cases n <;> rfl
  | 0, .node _ _ _ _ _, _ => rfl
  | n + 1, .node _ _ _ _ r, t => by simp only [setF, lenF]; rw [len_set n r t]
theorem kids_split {F : Fo} {k : Nat} {x : ByteArray × Int} {l r : Fo} {B O : Nat} (h : dropF k F = .node B O x l r) : (kidsL F)[k]? = some (x, l) := by
  have h1 := kids_drop k F
  rw [h, kidsL] at h1
  have := congrArg (·[0]?) h1
  simpa using this.symm
theorem kidT_bad {i : Int} {l : Fo} (h : ¬ (0 ≤ i ∧ i < lenF l)) : kidT i l = none := if_neg h
theorem kidT_is {k : Nat} {l : Fo} {x : ByteArray × Int} {m : Fo} (hlt : k < lenF l) (h : (kidsL l)[k]? = some (x, m)) : kidT (k : Int) l = some (x, m) := by
  unfold kidT
  rw [if_pos (by omega), Int.toNat_natCast]
  exact h

/-- The path's numbers lie in this slice. -/
structure IntsAt (w : World) (a : Option Addr) (n : Nat) (ps : List Int) : Prop where
  len : n = ps.length
  cells : ∀ i (h : i < ps.length), ∃ b off, a = some ⟨b, off, none⟩ ∧ w.cell? ⟨b, off + i, none⟩ = some (.int .i64 ps[i])
theorem IntsAt.below {w w' : World} {a : Option Addr} {n : Nat} {ps : List Int} (h : IntsAt w a n ps) (hb : Below w.heap.size w w') : IntsAt w' a n ps :=
  ⟨h.len, fun i hi => by obtain ⟨b, off, ha, hc⟩ := h.cells i hi; exact ⟨b, off, ha, below_cell hb _ _ hc⟩⟩

/-- A term's three cells. -/
structure Node (w : World) (b o : Nat) (x : ByteArray × Int) (a : Option Addr) (c : Nat) (l : Fo) : Prop where
  name : w.cell? ⟨b, o, none⟩ = some (.string x.1)
  sym : w.cell? ⟨b, o + 1, none⟩ = some (.int .i64 x.2)
  list : w.cell? ⟨b, o + 2, none⟩ = some (.slice a (lenF l) c)
/-- From the term whose cells lie here the path leads to the one whose cells lie there. -/
def Leads (w : World) : List Int → Nat → Nat → Tn → Nat → Nat → Prop
  | [], b, o, _, b', o' => b' = b ∧ o' = o
  | i :: p, b, o, t, b', o' => ∃ (k g q c : Nat) (u : Tn), i = k ∧ k < lenF t.2 ∧ (kidsL t.2)[k]? = some u ∧ w.cell? ⟨b, o + 2, none⟩ = some (.slice (some ⟨g, q, none⟩) (lenF t.2) c) ∧ Leads w p g (q + k * 3) u b' o'

/-- Where another term is put in place of one of a list. -/
theorem SepKids.replace {W : World} : ∀ {F : Fo} {A : Nat → Prop} {b o : Nat} (i : Nat), SepKids W F A b o → i < lenF F →
    ∃ (t : Tn) (a : Option Addr) (c : Nat) (A1 : Nat → Prop), (∀ k, A1 k → A k) ∧ (kidsL F)[i]? = some t ∧ Node W b (o + i * 3) t.1 a c t.2 ∧ SepTm W A1 t.1 a c t.2 ∧
      ∀ (W' : World) (t' : Tn) (a' : Option Addr) (c' : Nat) (A3 : Nat → Prop), (∀ k, A3 k → ¬ A k) → (∀ k, A k → ¬ A1 k → k < W.heap.size → W'.heap[k]? = W.heap[k]?) →
        (∀ j v, o ≤ j → (j < o + i * 3 ∨ o + i * 3 + 3 ≤ j) → W.cell? ⟨b, j, none⟩ = some v → W'.cell? ⟨b, j, none⟩ = some v) → Node W' b (o + i * 3) t'.1 a' c' t'.2 → SepTm W' (fun k => A1 k ∨ A3 k) t'.1 a' c' t'.2 →
        SepKids W' (setF i F t') (fun k => A k ∨ A3 k) b o
  | .nil, _, _, _, i, _, hi => absurd hi (by simp [lenF])
  | .node _ _ x l r, A, b, o, 0, ⟨A1, A2, h1, h2, ⟨a, c, c0, c1, c2, hs, hl⟩, hr⟩, _ => by
    refine ⟨(x, l), a, c, A1, h1, rfl, ⟨by simpa using c0, by simpa using c1, by simpa using c2⟩, ⟨hs, hl⟩, ?_⟩
    intro W' t' a' c' A3 hd hk hc hn hS
    refine ⟨fun k => A1 k ∨ A3 k, A2, fun k hk => hk.elim (fun h => .inl (h1 k h)) .inr, fun k hk => ⟨.inl (h2 k hk).1, fun h => h.elim (h2 k hk).2 (fun h3 => hd k h3 (h2 k hk).1)⟩, ⟨a', c', by simpa using hn.name, by simpa using hn.sym, by simpa using hn.list, hS.sizes, hS.list⟩, ?_⟩
    exact hr.keep (fun k hk' hlt => hk k (h2 k hk').1 (h2 k hk').2 hlt) (fun j v hj hv => hc j v (by omega) (.inr (by omega)) hv)
  | .node _ _ x l r, A, b, o, i + 1, ⟨A1, A2, h1, h2, ⟨a, c, c0, c1, c2, hs, hl⟩, hr⟩, hi => by
    obtain ⟨t, ta, tc, B1, hB, ht, hn, hS, hrep⟩ := SepKids.replace i hr (by simp only [lenF] at hi; omega)
    have e : o + 3 + i * 3 = o + (i + 1) * 3 := by omega
    rw [e] at hn
    refine ⟨t, ta, tc, B1, fun k hk => (h2 k (hB k hk)).1, by simpa [kidsL] using ht, hn, hS, ?_⟩
    intro W' t' a' c' A3 hd hk hc hn' hS'
    refine ⟨A1, fun k => A2 k ∨ A3 k, fun k hk => .inl (h1 k hk), fun k hk => hk.elim (fun h => ⟨.inl (h2 k h).1, (h2 k h).2⟩) (fun h => ⟨.inr h, fun h' => hd k h (h1 k h')⟩), ⟨a, c, hc _ _ (Nat.le_refl _) (.inl (by omega)) c0, hc _ _ (by omega) (.inl (by omega)) c1, hc _ _ (by omega) (.inl (by omega)) c2, hs, ?_⟩, ?_⟩
    · rcases hl with h | ⟨g, cur, ha, hg, hcur, hkk⟩
      · exact .inl h
      · have same : ∀ k, A1 k → k < W.heap.size → W'.heap[k]? = W.heap[k]? := fun k h hlt => hk k (h1 k h) (fun hb => (h2 k (hB k hb)).2 h) hlt
        have hgg := same g hg (Array.getElem?_eq_some_iff.1 hcur).1
        exact .inr ⟨g, cur, ha, hg, hgg.trans hcur, hkk.keep (fun k h hlt => same k h.1 hlt) (fun j v _ hv => (World.cell?_of_block hgg).trans hv)⟩
    · rw [← e] at hn'
      exact hrep W' t' a' c' A3 (fun k h h' => hd k h (h2 k h').1) (fun k h h' hlt => hk k (h2 k h).1 h' hlt) (fun j v hj hor hv => hc j v (by omega) (by omega) hv) hn' hS'
theorem OwnKids.kids_in {W W' : World} {P Q : Nat → Prop} {b : Nat} (hPQ : ∀ k, P k → Q k) (hk : ∀ k, P k → k < W.heap.size → W'.heap[k]? = W.heap[k]?) : ∀ {F : Fo} {o : Nat}, OwnKids false P W F b o → (∀ j v, o ≤ j → W.cell? ⟨b, j, none⟩ = some v → W'.cell? ⟨b, j, none⟩ = some v) → OwnKids false Q W' F b o
  | .nil, _, _, _ => trivial
  | .node _ _ _ l r, o, ⟨⟨a, c, h0, h1, h2, hs, hl⟩, hr⟩, hc => ⟨⟨a, c, hc _ _ (Nat.le_refl _) h0, hc _ _ (by omega) h1, hc _ _ (by omega) h2, hs, by
      rcases hl with h | ⟨g, cur, ha, hg, hcur, hm, hkk⟩
      · exact .inl h
      · have hgg := hk g hg (Array.getElem?_eq_some_iff.1 hcur).1
        exact .inr ⟨g, cur, ha, hPQ g hg, hgg.trans hcur, (fun e => by cases e), (hkk.keep hk hgg).mono (fun k _ h => hPQ k h)⟩⟩, OwnKids.kids_in hPQ hk hr (fun j v hj hv => hc j v (by omega) hv)⟩
/-- The same where nothing is spoilt afterwards. -/
theorem OwnKids.replace {W W' : World} {P Q : Nat → Prop} {b : Nat} (hPQ : ∀ k, P k → Q k) (hk : ∀ k, P k → k < W.heap.size → W'.heap[k]? = W.heap[k]?) {t' : Tn} {a' : Option Addr} {c' : Nat} (hT : OwnTm false Q W' t'.1 a' c' t'.2) : ∀ {F : Fo} {o : Nat} (i : Nat), OwnKids false P W F b o → i < lenF F →
    (∀ j v, o ≤ j → (j < o + i * 3 ∨ o + i * 3 + 3 ≤ j) → W.cell? ⟨b, j, none⟩ = some v → W'.cell? ⟨b, j, none⟩ = some v) → Node W' b (o + i * 3) t'.1 a' c' t'.2 → OwnKids false Q W' (setF i F t') b o
  | .nil, _, i, _, hi, _, _ => absurd hi (by simp [lenF])
  | .node _ _ x l r, o, 0, ⟨_, hr⟩, _, hc, hn => by
    refine ⟨⟨a', c', by simpa using hn.name, by simpa using hn.sym, by simpa using hn.list, hT.sizes, hT.list⟩, ?_⟩
    exact OwnKids.kids_in hPQ hk hr (fun j v hj hv => hc j v (by omega) (.inr (by omega)) hv)
  | .node _ _ x l r, o, i + 1, ⟨⟨a, c, c0, c1, c2, hs, hl⟩, hr⟩, hi, hc, hn => by
    have e : o + 3 + i * 3 = o + (i + 1) * 3 := by omega
    refine ⟨⟨a, c, hc _ _ (Nat.le_refl _) (.inl (by omega)) c0, hc _ _ (by omega) (.inl (by omega)) c1, hc _ _ (by omega) (.inl (by omega)) c2, hs, ?_⟩, OwnKids.replace hPQ hk hT i hr (by simp only [lenF] at hi; omega) (fun j v hj hor hv => hc j v (by omega) (by omega) hv) (by rw [e]; exact hn)⟩
    rcases hl with h | ⟨g, cur, ha, hg, hcur, hm, hkk⟩
    · exact .inl h
    · have hgg := hk g hg (Array.getElem?_eq_some_iff.1 hcur).1
      exact .inr ⟨g, cur, ha, hPQ g hg, hgg.trans hcur, (fun e => by cases e), (hkk.keep hk hgg).mono (fun k _ h => hPQ k h)⟩

/-- What is stored where a path leads makes the term that the path says. -/
theorem put_stored {W W2 : World} {u : Tn} {ua : Option Addr} {uc : Nat} {A3 : Nat → Prop} : ∀ (ps : List Int) {A : Nat → Prop} {b o : Nat} {t : Tn} {a : Option Addr} {c b' o' : Nat},
    SepTm W A t.1 a c t.2 → Node W b o t.1 a c t.2 → ¬ A b → (∃ cur, W.heap[b]? = some (Obj.cells cur 26 (0, 0))) → Leads W ps b o t b' o' →
    (A b' ∨ (b' = b ∧ o' = o)) ∧ (∃ cur, W.heap[b']? = some (Obj.cells cur 26 (0, 0))) ∧ ((∀ k, (A k ∨ k = b) → k < W.heap.size → k ≠ b' → W2.heap[k]? = W.heap[k]?) → (∀ j v, (j < o' ∨ o' + 3 ≤ j) → W.cell? ⟨b', j, none⟩ = some v → W2.cell? ⟨b', j, none⟩ = some v) →
      (∃ cur, W2.heap[b']? = some (Obj.cells cur 26 (0, 0))) → Node W2 b' o' u.1 ua uc u.2 → SepTm W2 A3 u.1 ua uc u.2 → (∀ k, A3 k → ¬ A k) →
      ∃ t' a' c', putT u ps t = some t' ∧ Node W2 b o t'.1 a' c' t'.2 ∧ SepTm W2 (fun k => A k ∨ A3 k) t'.1 a' c' t'.2)
  | [], A, b, o, t, a, c, b', o', hS, hN, hb, hrow, ⟨h1, h2⟩ => by
    subst h1 h2
    exact ⟨.inr ⟨rfl, rfl⟩, hrow, fun _ _ _ hn hs _ => ⟨u, ua, uc, rfl, hn, hs.mono (fun k hk => .inr hk)⟩⟩
  | i :: ps, A, b, o, t, a, c, b', o', hS, hN, hb, _, ⟨k, g, q, c2, u1, hi, hk, hu, hcell, hL⟩ => by
    have hcell' := hN.list
    rw [hcell] at hcell'
    simp only [Option.some.injEq, Value.slice.injEq, true_and] at hcell'
    obtain ⟨rfl, rfl⟩ := hcell'
    rcases hS.list with hnil | ⟨g', cur, hg', hAg, hcur, hkids⟩
    · rw [hnil] at hk; simp [lenF] at hk
    · cases hg'
      obtain ⟨t1, a1, c1, A1, hA1, ht1, hn1, hs1, hrep⟩ := hkids.replace k hk
      rw [hu] at ht1
      cases ht1
      have hA1g : ¬ A1 g := fun h => (hA1 g h).2 rfl
      obtain ⟨hwhere, hrow', hgo⟩ := put_stored ps hs1 hn1 hA1g ⟨cur, hcur⟩ hL
      have hAb : A b' := hwhere.elim (fun h => (hA1 _ h).1) (fun h => by rw [h.1]; exact hAg)
      refine ⟨.inl hAb, hrow', fun hW hC hblk hn hs hd => ?_⟩
      have hb'b : b ≠ b' := fun e => hb (e ▸ hAb)
      have hblt : b < W.heap.size := World.block_lt_of_cell? W _ hN.name
      have hbb := hW b (.inr rfl) hblt hb'b
      obtain ⟨t1', a1', c1', hp, hn1', hs1'⟩ := hgo (fun k' hk' hlt hne => hW k' (.inl (hk'.elim (fun h => (hA1 _ h).1) (fun h => by rw [h]; exact hAg))) hlt hne) hC hblk hn hs (fun k' h h' => hd k' h (hA1 k' h').1)
      have hsame : ∀ k', (A k' ∧ k' ≠ g) → ¬ A1 k' → k' < W.heap.size → W2.heap[k']? = W.heap[k']? := fun k' h h' hlt => hW k' (.inl h.1) hlt (fun e => by
        rcases hwhere with h2 | h2
        · exact h' (e ▸ h2)
        · exact h.2 (e.trans h2.1))
      have hcells : ∀ j v, 0 ≤ j → (j < 0 + k * 3 ∨ 0 + k * 3 + 3 ≤ j) → W.cell? ⟨g, j, none⟩ = some v → W2.cell? ⟨g, j, none⟩ = some v := fun j v _ hj hv => by
        by_cases e : g = b'
        · rcases hwhere with h2 | h2
          · rw [← e] at h2; exact absurd h2 hA1g
          · have := hC j v (by rw [h2.2]; exact hj)
            rw [← e] at this
            exact this hv
        · exact (World.cell?_of_block (hW g (.inl hAg) (Array.getElem?_eq_some_iff.1 hcur).1 e)).trans hv
      have hnew := hrep W2 t1' a1' c1' A3 (fun k' h h' => hd k' h h'.1) hsame hcells hn1' hs1'
      have hgb : ∃ cur, W2.heap[g]? = some (Obj.cells cur 26 (0, 0)) := by
        by_cases e : g = b'
        · rw [e]; exact hblk
        · exact ⟨cur, (hW g (.inl hAg) (Array.getElem?_eq_some_iff.1 hcur).1 e).trans hcur⟩
      obtain ⟨cur', hcur'⟩ := hgb
      refine ⟨(t.1, setF k t.2 t1'), some ⟨g, 0, none⟩, c2, ?_, ⟨(World.cell?_of_block hbb).trans hN.name, (World.cell?_of_block hbb).trans hN.sym, ?_⟩, ?_, .inr ⟨g, cur', rfl, .inl hAg, hcur', hnew.mono (fun k' h => ?_)⟩⟩
      · rw [putT, hi, kidT_is hk hu]
        simp only [hp, Int.toNat_natCast]
      · simp only [len_set]; exact (World.cell?_of_block hbb).trans hN.list
      · simp only [len_set]; exact hS.sizes
      · rcases h with h | h
        · exact ⟨.inl h.1, h.2⟩
        · exact ⟨.inr h, fun e => hd k' h (e ▸ hAg)⟩
end Go.Proofs.Ytlemkgdbefmeeaa
/- Canonical forms, without any program: what Canon, Parts and Join say of a term, and that one is canonical just if it is its own canonical form. -/
namespace Go.Proofs.Ytlemkgdbefmeeaa
open Go.RowKit Go.Deep

/-! ### lists of terms and forests -/
def mkF : List Tn → Fo
  | [] => .nil
  | t :: r => .node 0 0 t.1 t.2 (mkF r)
theorem kids_mk : ∀ l : List Tn, kidsL (mkF l) = l
  | [] => rfl
  | t :: r => by simp only [mkF, kidsL]; rw [kids_mk r]
theorem len_mk (l : List Tn) : lenF (mkF l) = l.length := by rw [← kids_len, kids_mk]
def noB : ByteArray := ⟨#[]⟩
theorem bytes_eq {a b : ByteArray} (h : a.data.toList = b.data.toList) : a = b := by
  obtain ⟨⟨l⟩⟩ := a
  obtain ⟨⟨m⟩⟩ := b
  rw [show l = m from h]
theorem noName_eq {s : ByteArray} (h : noName s = true) : s = noB := by
  unfold noName at h
  rw [List.isEmpty_iff, ByteArray.toList_eq] at h
  exact bytes_eq h
theorem noName_noB : noName noB = true := by decide +kernel

/-! ### the order -/
def cmpN (x y : Tn) : Int := cmp1 x.1 y.1 (lenF x.2) (lenF y.2) (cmpF x.2 y.2)
theorem cmpN_anti (x y : Tn) : cmpN y x = - cmpN x y := by unfold cmpN; rw [cmpF_anti]; exact cmp1_anti _ _ _ _ _
theorem cmpN_cons (x y z : Tn) : Cons (cmpN x y) (cmpN y z) (cmpN x z) := cmp1_cons _ _ _ _ _ _ _ _ _ (fun a b => cmpF_cons _ _ _ a b)
def leN (x y : Tn) : Prop := cmpN x y ≤ 0
theorem leN_trans {x y z : Tn} (h : leN x y) (k : leN y z) : leN x z := by
  obtain ⟨c1, c2, c3, _⟩ := cmpN_cons x y z
  unfold leN at *
  by_cases e : cmpN x y = 0
  · rw [c1 e]; exact k
  · by_cases e2 : cmpN y z = 0
    · rw [c2 e2]; exact h
    · exact Int.le_of_lt (c3 (by omega) (by omega))
theorem leN_total (x y : Tn) : leN x y ∨ leN y x := by
  unfold leN
  rw [cmpN_anti x y]
  omega
/-- Behind all that are not greater. -/
def insN (x : Tn) : List Tn → List Tn
  | [] => [x]
  | y :: r => if cmpN y x > 0 then x :: y :: r else y :: insN x r
def sortN : List Tn → List Tn
  | l => l.foldl (fun out x => insN x out) []
abbrev Srt (l : List Tn) : Prop := l.Pairwise leN
theorem insN_perm (x : Tn) : ∀ l : List Tn, List.Perm (insN x l) (x :: l)
  | [] => List.Perm.refl _
  | y :: r => by
    unfold insN
    split
    · exact List.Perm.refl _
    · exact ((insN_perm x r).cons y).trans (List.Perm.swap x y r)
theorem insN_srt (x : Tn) : ∀ {l : List Tn}, Srt l → Srt (insN x l)
  | [], _ => by simp [insN]
  | y :: r, h => by
    unfold insN
    obtain ⟨h1, h2⟩ := List.pairwise_cons.1 h
    split
    · rename_i hgt
      have hxy : leN x y := by unfold leN; rw [cmpN_anti y x]; omega
      refine List.pairwise_cons.2 ⟨fun z hz => ?_, h⟩
      rcases List.mem_cons.1 hz with rfl | hz
      · exact hxy
      · exact leN_trans hxy (h1 z hz)
    · rename_i hgt
      refine List.pairwise_cons.2 ⟨fun z hz => ?_, insN_srt x h2⟩
      rcases List.mem_cons.1 ((insN_perm x r).mem_iff.1 hz) with rfl | hz
      · unfold leN; omega
      · exact h1 z hz
theorem sort_go_perm : ∀ (l out : List Tn), List.Perm (l.foldl (fun out x => insN x out) out) (out ++ l)
  | [], out => by simp
  | x :: l, out => by
    rw [List.foldl_cons]
    refine (sort_go_perm l (insN x out)).trans ?_
    refine ((insN_perm x out).append_right l).trans ?_
    exact List.perm_middle.symm
theorem sortN_perm (l : List Tn) : List.Perm (sortN l) l := by
  have := sort_go_perm l []
  rwa [List.nil_append] at this
theorem sort_go_srt : ∀ (l out : List Tn), Srt out → Srt (l.foldl (fun out x => insN x out) out)
  | [], _, h => h
  | x :: l, out, h => by rw [List.foldl_cons]; exact sort_go_srt l _ (insN_srt x h)
theorem sortN_srt (l : List Tn) : Srt (sortN l) := sort_go_srt l [] List.Pairwise.nil
theorem sortN_len (l : List Tn) : (sortN l).length = l.length := (sortN_perm l).length_eq

/-! ### what Canon says -/
/-- What is asked of a signature: which places join, and which unit they have. -/
structure Sg where
  joins : Int → Bool
  unit : Int → Option Int
def constT (u : Int) : Tn := ((noB, u), .nil)
def isConst (t : Tn) (u : Int) : Bool := noName t.1.1 && t.1.2 == u && lenF t.2 == 0
def isUn (S : Sg) (f : Int) (t : Tn) : Bool := match S.unit f with | some u => isConst t u | none => false
def headed (f : Int) (t : Tn) : Bool := noName t.1.1 && t.1.2 == f
def partsN (S : Sg) (f : Int) (t : Tn) : List Tn := if S.joins f = false then [t] else if isUn S f t then [] else if headed f t then kidsL t.2 else [t]
def joinL (S : Sg) (f : Int) : List Tn → Option Tn
  | [] => (S.unit f).map constT
  | [t] => some t
  | l => some ((noB, f), mkF (sortN l))
/-- Of canonical terms. -/
def joinN (S : Sg) (f : Int) (cs : List Tn) : Option Tn := if S.joins f = false then none else joinL S f (cs.flatMap (partsN S f))
def canon1 (S : Sg) (x : ByteArray × Int) (cs : List Tn) : Tn :=
  if noName x.1 = false then ((x.1, 0), .nil) else if S.joins x.2 then (joinN S x.2 cs).getD (constT x.2) else ((noB, x.2), mkF cs)
def canonL (S : Sg) : Fo → List Tn
  | .nil => []
  | .node _ _ x l r => canon1 S x (canonL S l) :: canonL S r
def canonT (S : Sg) (t : Tn) : Tn := canon1 S t.1 (canonL S t.2)
theorem canonL_map (S : Sg) : ∀ F : Fo, canonL S F = (kidsL F).map (canonT S)
  | .nil => rfl
  | .node _ _ x l r => by simp only [canonL, kidsL, List.map_cons, canonT]; rw [canonL_map S r]

/-! ### what is right -/
/-- What a right signature says of units: they don't join. -/
structure Sg.Ok (S : Sg) (ar : Int → Nat) : Prop where
  free : ∀ f u, S.unit f = some u → S.joins u = false
  none : ∀ f u, S.unit f = some u → ar u = 0
def nodeOk (S : Sg) (ar : Int → Nat) (x : ByteArray × Int) (n : Nat) : Prop := if noName x.1 = false then x.2 = 0 ∧ n = 0 else if S.joins x.2 then 2 ≤ n else n = ar x.2
def RightF (S : Sg) (ar : Int → Nat) : Fo → Prop
  | .nil => True
  | .node _ _ x l r => (nodeOk S ar x (lenF l) ∧ RightF S ar l) ∧ RightF S ar r
def RightT (S : Sg) (ar : Int → Nat) (t : Tn) : Prop := nodeOk S ar t.1 (lenF t.2) ∧ RightF S ar t.2
theorem right_kids {S : Sg} {ar : Int → Nat} : ∀ {F : Fo}, RightF S ar F ↔ ∀ k ∈ kidsL F, RightT S ar k
  | .nil => by simp [RightF, kidsL]
  | .node _ _ x l r => by
    simp only [RightF, kidsL, List.mem_cons]
    rw [right_kids (F := r)]
    constructor
    · rintro ⟨h1, h2⟩ k (rfl | hk)
      · exact h1
      · exact h2 k hk
    · exact fun h => ⟨h (x, l) (.inl rfl), fun k hk => h k (.inr hk)⟩

/-! ### canonical -/
/-- A node that is canonical above what is beneath it. -/
def can1 (S : Sg) (ar : Int → Nat) (x : ByteArray × Int) (ks : List Tn) : Prop :=
  if noName x.1 = false then x.2 = 0 ∧ ks = [] else x.1 = noB ∧ if S.joins x.2 then 2 ≤ ks.length ∧ Srt ks ∧ ∀ k ∈ ks, isUn S x.2 k = false ∧ headed x.2 k = false else ks.length = ar x.2
def CanF (S : Sg) (ar : Int → Nat) : Fo → Prop
  | .nil => True
  | .node b o x l r => (b = 0 ∧ o = 0) ∧ (can1 S ar x (kidsL l) ∧ CanF S ar l) ∧ CanF S ar r
def CanT (S : Sg) (ar : Int → Nat) (t : Tn) : Prop := can1 S ar t.1 (kidsL t.2) ∧ CanF S ar t.2
theorem can_kids {S : Sg} {ar : Int → Nat} : ∀ {F : Fo}, CanF S ar F → ∀ k ∈ kidsL F, CanT S ar k
  | .nil, _, _, h => by simp [kidsL] at h
  | .node _ _ _ _ _, ⟨_, h1, h2⟩, k, hk => by
    rcases List.mem_cons.1 hk with rfl | hk
    · exact h1
    · exact can_kids h2 k hk
theorem can_mk {S : Sg} {ar : Int → Nat} : ∀ {l : List Tn}, (∀ k ∈ l, CanT S ar k) → CanF S ar (mkF l)
  | [], _ => trivial
  | t :: _, h => ⟨⟨rfl, rfl⟩, h t List.mem_cons_self, can_mk (fun k hk => h k (List.mem_cons_of_mem _ hk))⟩
theorem can_mk_kids {S : Sg} {ar : Int → Nat} : ∀ {F : Fo}, CanF S ar F → mkF (kidsL F) = F
  | .nil, _ => rfl
  | .node _ _ _ _ _, ⟨⟨hb, ho⟩, _, h2⟩ => by subst hb ho; simp only [kidsL, mkF]; rw [can_mk_kids h2]

/-- Canonical terms that compare alike are one. -/
theorem canF_zero {S : Sg} {ar : Int → Nat} : ∀ {F G : Fo}, CanF S ar F → CanF S ar G → lenF F = lenF G → cmpF F G = 0 → F = G
  | .nil, .nil, _, _, _, _ => rfl
  | .nil, .node _ _ _ _ _, _, _, h, _ => by simp [lenF] at h
  | .node _ _ _ _ _, .nil, _, _, h, _ => by simp [lenF] at h
  | .node b o x l r, .node b' o' y m s, ⟨⟨hb, ho⟩, ⟨hx, hl⟩, hr⟩, ⟨⟨hb', ho'⟩, ⟨hy, hm⟩, hs⟩, hlen, h => by
    subst hb ho hb' ho'
    simp only [lenF, Nat.add_right_cancel_iff] at hlen
    rw [cmpF, thenC] at h
    split at h
    case isFalse hne => exact absurd h hne
    rename_i h1
    have hrs := canF_zero hr hs hlen h
    unfold cmp1 at h1
    unfold can1 at hx hy
    cases ex : noName x.1 <;> cases ey : noName y.1 <;> simp only [ex, ey, if_true, if_false, Bool.true_eq_false] at h1 hx hy
    · have hn : x.1 = y.1 := bytes_eq (bytes_zero h1)
      have e1 : l = .nil := len_nil (by rw [← kids_len, hx.2]; rfl)
      have e2 : m = .nil := len_nil (by rw [← kids_len, hy.2]; rfl)
      rw [hrs, e1, e2, show x = y from Prod.ext hn (hx.1.trans hy.1.symm)]
    · omega
    · omega
    · split at h1
      case isFalse hne => exact absurd (compareInt_zero h1) hne
      rename_i hs2
      split at h1
      case isFalse hne => exact absurd (by have := compareInt_zero h1; omega) hne
      rename_i hlm
      have hlm2 := canF_zero hl hm hlm h1
      rw [hrs, hlm2, show x = y from Prod.ext (hx.1.trans hy.1.symm) hs2]
theorem canT_zero {S : Sg} {ar : Int → Nat} {x y : Tn} (hx : CanT S ar x) (hy : CanT S ar y) (h : cmpN x y = 0) : x = y := by
  have h2 : BT.node 0 0 x.1 x.2 .nil = BT.node 0 0 y.1 y.2 .nil := canF_zero (F := .node 0 0 x.1 x.2 .nil) (G := .node 0 0 y.1 y.2 .nil) (S := S) (ar := ar) ⟨⟨rfl, rfl⟩, hx, trivial⟩ ⟨⟨rfl, rfl⟩, hy, trivial⟩ rfl (by
    rw [cmpF, thenC]
    have h' : cmp1 x.1 y.1 (lenF x.2) (lenF y.2) (cmpF x.2 y.2) = 0 := h
    rw [if_pos h', cmpF])
  simp only [BT.node.injEq, true_and, and_true] at h2
  exact Prod.ext h2.1 h2.2
/-- Terms in order are told by which they are. -/
theorem srt_eq {S : Sg} {ar : Int → Nat} {l m : List Tn} (hl : ∀ k ∈ l, CanT S ar k) (h1 : Srt l) (h2 : Srt m) (h : List.Perm l m) : l = m :=
  List.Perm.eq_of_pairwise (fun a b ha hb hab hba => canT_zero (hl a ha) (hl b (h.mem_iff.2 hb)) (by
    unfold leN at hab hba
    rw [cmpN_anti a b] at hba
    omega)) h1 h2 h
theorem sort_eq {S : Sg} {ar : Int → Nat} {l m : List Tn} (hl : ∀ k ∈ l, CanT S ar k) (h : List.Perm l m) : sortN l = sortN m :=
  srt_eq (fun k hk => hl k ((sortN_perm l).mem_iff.1 hk)) (sortN_srt l) (sortN_srt m) ((sortN_perm l).trans (h.trans (sortN_perm m).symm))
theorem sort_self {S : Sg} {ar : Int → Nat} {l : List Tn} (hl : ∀ k ∈ l, CanT S ar k) (h : Srt l) : sortN l = l :=
  srt_eq (fun k hk => hl k ((sortN_perm l).mem_iff.1 hk)) (sortN_srt l) h (sortN_perm l)
end Go.Proofs.Ytlemkgdbefmeeaa
/- Canonical forms, without any program: a canonical term is told by its parts; Canon of a right term is canonical; what the axioms and cancelling say. -/
namespace Go.Proofs.Ytlemkgdbefmeeaa
open Go.RowKit Go.Deep

structure Good (S : Sg) (ar : Int → Nat) (f : Int) (p : Tn) : Prop where
  can : CanT S ar p
  unit : isUn S f p = false
  head : headed f p = false

theorem headed_iff {f : Int} {t : Tn} : headed f t = true ↔ noName t.1.1 = true ∧ t.1.2 = f := by
  unfold headed
  rw [Bool.and_eq_true, beq_iff_eq]
theorem isUn_some {S : Sg} {f : Int} {t : Tn} (h : isUn S f t = true) : ∃ u, S.unit f = some u ∧ t = constT u := by
  unfold isUn at h
  cases hu : S.unit f with
  | none => rw [hu] at h; cases h
  | some u =>
    rw [hu] at h
    dsimp only at h
    unfold isConst at h
    rw [Bool.and_eq_true, Bool.and_eq_true, beq_iff_eq, beq_iff_eq] at h
    obtain ⟨⟨h1, h2⟩, h3⟩ := h
    obtain ⟨⟨n, s⟩, l⟩ := t
    refine ⟨u, rfl, ?_⟩
    have e1 : n = noB := noName_eq h1
    have e2 : s = u := h2
    have e3 : l = .nil := len_nil h3
    rw [e1, e2, e3]
    rfl
theorem isUn_const {S : Sg} {f u : Int} (h : S.unit f = some u) : isUn S f (constT u) = true := by
  unfold isUn
  rw [h]
  dsimp only
  unfold isConst constT
  simp [noName_noB, lenF]
theorem can_head {S : Sg} {ar : Int → Nat} {f : Int} {t : Tn} (hj : S.joins f = true) (h : CanT S ar t) (hh : headed f t = true) : t.1 = (noB, f) ∧ 2 ≤ (kidsL t.2).length ∧ Srt (kidsL t.2) ∧ ∀ k ∈ kidsL t.2, Good S ar f k := by
  obtain ⟨h1, h2⟩ := headed_iff.1 hh
  have hc := h.1
  unfold can1 at hc
  rw [if_neg (by rw [h1]; simp), h2, if_pos hj] at hc
  obtain ⟨c1, c2, c3, c4⟩ := hc
  exact ⟨Prod.ext c1 h2, c2, c3, fun k hk => ⟨can_kids h.2 k hk, (c4 k hk).1, (c4 k hk).2⟩⟩
theorem parts_good {S : Sg} {ar : Int → Nat} {f : Int} {t : Tn} (hj : S.joins f = true) (h : CanT S ar t) : ∀ p ∈ partsN S f t, Good S ar f p := by
  unfold partsN
  rw [if_neg (by simp [hj])]
  cases hu : isUn S f t with
  | true => simp
  | false =>
    cases hh : headed f t with
    | true => simpa using (can_head hj h hh).2.2.2
    | false =>
      intro p hp
      simp at hp
      subst hp
      exact ⟨h, hu, hh⟩
theorem parts_of_good {S : Sg} {ar : Int → Nat} {f : Int} {t : Tn} (h : Good S ar f t) : partsN S f t = [t] := by
  unfold partsN
  rw [h.unit, h.head]
  split <;> simp
theorem parts_nil {S : Sg} {ar : Int → Nat} {f : Int} {t : Tn} (hj : S.joins f = true) (h : CanT S ar t) (hp : partsN S f t = []) : ∃ u, S.unit f = some u := by
  unfold partsN at hp
  rw [if_neg (by simp [hj])] at hp
  cases hu : isUn S f t with
  | true => obtain ⟨u, h1, _⟩ := isUn_some hu; exact ⟨u, h1⟩
  | false =>
    rw [hu] at hp
    cases hh : headed f t with
    | true =>
      rw [hh] at hp
      simp only [Bool.false_eq_true, if_false, if_true] at hp
      have := (can_head hj h hh).2.1
      rw [hp] at this
      simp at this
    | false => rw [hh] at hp; simp at hp
theorem join_many (S : Sg) (f : Int) {l : List Tn} (h : 2 ≤ l.length) : joinL S f l = some ((noB, f), mkF (sortN l)) := by
  match l, h with
  | _ :: _ :: _, _ => rfl
theorem join_can {S : Sg} {ar : Int → Nat} (hS : S.Ok ar) {f : Int} {l : List Tn} {t : Tn} (hj : S.joins f = true) (hl : ∀ p ∈ l, Good S ar f p) (h : joinL S f l = some t) : CanT S ar t := by
  match l, hl, h with
  | [], _, h =>
    simp only [joinL, Option.map_eq_some_iff] at h
    obtain ⟨u, hu, rfl⟩ := h
    refine ⟨?_, trivial⟩
    unfold can1 constT
    dsimp only
    rw [if_neg (by simp [noName_noB]), hS.free f u hu]
    simp [kidsL, hS.none f u hu]
  | [a], hl, h =>
    simp only [joinL, Option.some.injEq] at h
    subst h
    exact (hl a (by simp)).can
  | a :: b :: r, hl, h =>
    simp only [joinL, Option.some.injEq] at h
    subst h
    have hm : ∀ k ∈ sortN (a :: b :: r), Good S ar f k := fun k hk => hl k ((sortN_perm _).mem_iff.1 hk)
    refine ⟨?_, can_mk (fun k hk => (hm k hk).can)⟩
    unfold can1
    dsimp only
    rw [if_neg (by simp [noName_noB]), if_pos hj, kids_mk]
    exact ⟨rfl, by rw [sortN_len]; simp, sortN_srt _, fun k hk => ⟨(hm k hk).unit, (hm k hk).head⟩⟩
theorem parts_join {S : Sg} {ar : Int → Nat} {f : Int} {l : List Tn} {t : Tn} (hj : S.joins f = true) (hl : ∀ p ∈ l, Good S ar f p) (h : joinL S f l = some t) : List.Perm (partsN S f t) l := by
  match l, hl, h with
  | [], _, h =>
    simp only [joinL, Option.map_eq_some_iff] at h
    obtain ⟨u, hu, rfl⟩ := h
    unfold partsN
    rw [if_neg (by simp [hj]), isUn_const hu]
    simp
  | [a], hl, h =>
    simp only [joinL, Option.some.injEq] at h
    subst h
    rw [parts_of_good (hl a (by simp))]
  | a :: b :: r, hl, h =>
    simp only [joinL, Option.some.injEq] at h
    subst h
    have hu : isUn S f ((noB, f), mkF (sortN (a :: b :: r))) = false := by
      cases hq : isUn S f ((noB, f), mkF (sortN (a :: b :: r))) with
      | false => rfl
      | true =>
        obtain ⟨u, _, e⟩ := isUn_some hq
        have := congrArg (fun t : Tn => lenF t.2) e
        simp only [constT, len_mk, sortN_len, lenF, List.length_cons] at this
        omega
    have hh : headed f ((noB, f), mkF (sortN (a :: b :: r))) = true := headed_iff.2 ⟨noName_noB, rfl⟩
    unfold partsN
    rw [if_neg (by simp [hj]), hu, hh]
    simp only [Bool.false_eq_true, if_false, if_true, kids_mk]
    exact sortN_perm _
theorem join_parts {S : Sg} {ar : Int → Nat} {f : Int} {t : Tn} (hj : S.joins f = true) (h : CanT S ar t) : joinL S f (partsN S f t) = some t := by
  unfold partsN
  rw [if_neg (by simp [hj])]
  cases hu : isUn S f t with
  | true =>
    obtain ⟨u, h1, rfl⟩ := isUn_some hu
    simp [joinL, h1]
  | false =>
    cases hh : headed f t with
    | true =>
      obtain ⟨c1, c2, c3, c4⟩ := can_head hj h hh
      simp only [Bool.false_eq_true, if_false, if_true]
      rw [join_many S f c2, sort_self (fun k hk => (c4 k hk).can) c3, can_mk_kids h.2, ← c1]
    | false => simp [joinL]
theorem join_perm {S : Sg} {ar : Int → Nat} {f : Int} {l m : List Tn} (hl : ∀ p ∈ l, CanT S ar p) (h : List.Perm l m) : joinL S f l = joinL S f m := by
  have hlen := h.length_eq
  match l, m, hlen, hl, h with
  | [], [], _, _, _ => rfl
  | [a], [b], _, _, h => rw [show a = b by simpa using h]
  | a :: b :: r, c :: d :: s, _, hl, h => simp only [joinL]; rw [sort_eq hl h]
/-- A canonical term is told by its parts. -/
theorem parts_inj {S : Sg} {ar : Int → Nat} {f : Int} {x y : Tn} (hj : S.joins f = true) (hx : CanT S ar x) (hy : CanT S ar y) (h : List.Perm (partsN S f x) (partsN S f y)) : x = y := by
  have h1 := join_parts hj hx
  rw [join_perm (fun p hp => (parts_good hj hx p hp).can) h, join_parts hj hy] at h1
  exact (Option.some.inj h1).symm

/-! ### Canon is canonical -/
theorem flat_good {S : Sg} {ar : Int → Nat} {f : Int} {cs : List Tn} (hj : S.joins f = true) (hc : ∀ c ∈ cs, CanT S ar c) : ∀ p ∈ cs.flatMap (partsN S f), Good S ar f p := fun p hp => by
  obtain ⟨c, h1, h2⟩ := List.mem_flatMap.1 hp
  exact parts_good hj (hc c h1) p h2
theorem join_some {S : Sg} {ar : Int → Nat} {f : Int} {cs : List Tn} (hj : S.joins f = true) (hc : ∀ c ∈ cs, CanT S ar c) (hn : cs ≠ []) : ∃ t, joinL S f (cs.flatMap (partsN S f)) = some t := by
  match hq : cs.flatMap (partsN S f) with
  | [] =>
    match cs, hn, hc with
    | c :: _, _, hc =>
      simp only [List.flatMap_cons, List.append_eq_nil_iff] at hq
      obtain ⟨u, hu⟩ := parts_nil hj (hc c (by simp)) hq.1
      exact ⟨constT u, by simp [joinL, hu]⟩
  | [a] => exact ⟨a, rfl⟩
  | a :: b :: r => exact ⟨_, rfl⟩
theorem canon1_join {S : Sg} {ar : Int → Nat} {x : ByteArray × Int} {cs : List Tn} (hx : noName x.1 = true) (hj : S.joins x.2 = true) (hc : ∀ c ∈ cs, CanT S ar c) (hn : cs ≠ []) : joinL S x.2 (cs.flatMap (partsN S x.2)) = some (canon1 S x cs) := by
  obtain ⟨t, ht⟩ := join_some hj hc hn
  unfold canon1 joinN
  rw [if_neg (by simp [hx]), if_pos hj, if_neg (by simp [hj]), ht]
  rfl
theorem canon1_can {S : Sg} {ar : Int → Nat} (hS : S.Ok ar) {x : ByteArray × Int} {cs : List Tn} (hn : nodeOk S ar x cs.length) (hc : ∀ c ∈ cs, CanT S ar c) : CanT S ar (canon1 S x cs) := by
  unfold nodeOk at hn
  cases hx : noName x.1 with
  | false =>
    unfold canon1
    rw [if_pos hx]
    refine ⟨?_, trivial⟩
    unfold can1
    rw [if_pos hx]
    exact ⟨rfl, rfl⟩
  | true =>
    rw [if_neg (by simp [hx])] at hn
    cases hj : S.joins x.2 with
    | true =>
      rw [if_pos hj] at hn
      have hne : cs ≠ [] := fun e => by rw [e] at hn; simp at hn
      exact join_can hS hj (flat_good hj hc) (canon1_join hx hj hc hne)
    | false =>
      rw [if_neg (by simp [hj])] at hn
      unfold canon1
      rw [if_neg (by simp [hx]), if_neg (by simp [hj])]
      refine ⟨?_, can_mk hc⟩
      unfold can1
      dsimp only
      rw [if_neg (by simp [noName_noB]), if_neg (by simp [hj]), kids_mk]
      exact ⟨rfl, hn⟩
theorem canonL_can {S : Sg} {ar : Int → Nat} (hS : S.Ok ar) : ∀ {F : Fo}, RightF S ar F → ∀ c ∈ canonL S F, CanT S ar c
  | .nil, _, _, h => by simp [canonL] at h
  | .node _ _ x l r, ⟨⟨h1, h2⟩, h3⟩, c, hc => by
    simp only [canonL, List.mem_cons] at hc
    rcases hc with rfl | hc
    · exact canon1_can hS (by rw [canonL_map, List.length_map, kids_len]; exact h1) (canonL_can hS h2)
    · exact canonL_can hS h3 c hc
theorem canonT_can {S : Sg} {ar : Int → Nat} (hS : S.Ok ar) {t : Tn} (h : RightT S ar t) : CanT S ar (canonT S t) :=
  canon1_can hS (by rw [canonL_map, List.length_map, kids_len]; exact h.1) (canonL_can hS h.2)

/-! ### a canonical term is its own form -/
theorem flat_self {S : Sg} {ar : Int → Nat} {f : Int} : ∀ {l : List Tn}, (∀ p ∈ l, Good S ar f p) → l.flatMap (partsN S f) = l
  | [], _ => rfl
  | a :: r, h => by rw [List.flatMap_cons, parts_of_good (h a (by simp)), flat_self (fun p hp => h p (by simp [hp]))]; rfl
theorem canon1_id {S : Sg} {ar : Int → Nat} {x : ByteArray × Int} {l : Fo} (h : can1 S ar x (kidsL l)) (hl : CanF S ar l) : canon1 S x (kidsL l) = (x, l) := by
  cases hx : noName x.1 with
  | false =>
    unfold can1 at h
    rw [if_pos hx] at h
    unfold canon1
    rw [if_pos hx]
    have e : l = .nil := len_nil (by rw [← kids_len, h.2]; rfl)
    rw [e, ← h.1]
  | true =>
    cases hj : S.joins x.2 with
    | true =>
      have hc : CanT S ar (x, l) := ⟨h, hl⟩
      obtain ⟨c1, c2, c3, c4⟩ := can_head hj hc (headed_iff.2 ⟨hx, rfl⟩)
      have hne : kidsL l ≠ [] := fun e => by rw [e] at c2; simp at c2
      have h1 := canon1_join hx hj (can_kids hl) hne
      rw [flat_self c4, join_many S x.2 c2, sort_self (fun k hk => (c4 k hk).can) c3, can_mk_kids hl, Option.some.injEq] at h1
      rw [← h1, ← show x = (noB, x.2) from c1]
    | false =>
      unfold can1 at h
      rw [if_neg (by simp [hx])] at h
      unfold canon1
      rw [if_neg (by simp [hx]), if_neg (by simp [hj]), can_mk_kids hl]
      exact Prod.ext (Prod.ext h.1.symm rfl) rfl
theorem canonL_id {S : Sg} {ar : Int → Nat} : ∀ {F : Fo}, CanF S ar F → canonL S F = kidsL F
  | .nil, _ => rfl
  | .node _ _ x l r, ⟨_, ⟨h1, h2⟩, h3⟩ => by
    simp only [canonL, kidsL]
    rw [canonL_id h2, canonL_id h3, canon1_id h1 h2]
theorem canonT_id {S : Sg} {ar : Int → Nat} {t : Tn} (h : CanT S ar t) : canonT S t = t := by
  unfold canonT
  rw [canonL_id h.2, canon1_id h.1 h.2]
theorem right_of_can1 {S : Sg} {ar : Int → Nat} {x : ByteArray × Int} {l : Fo} (h : can1 S ar x (kidsL l)) : nodeOk S ar x (lenF l) := by
  unfold can1 at h
  unfold nodeOk
  cases hx : noName x.1 with
  | false =>
    rw [if_pos hx] at h
    rw [if_pos rfl]
    exact ⟨h.1, by rw [← kids_len, h.2]; rfl⟩
  | true =>
    rw [if_neg (by simp [hx])] at h
    rw [if_neg (by simp)]
    cases hj : S.joins x.2 with
    | true => rw [if_pos hj] at h; rw [if_pos rfl, ← kids_len]; exact h.2.1
    | false => rw [if_neg (by simp [hj])] at h; rw [if_neg (by simp), ← kids_len]; exact h.2
theorem right_of_canF {S : Sg} {ar : Int → Nat} : ∀ {F : Fo}, CanF S ar F → RightF S ar F
  | .nil, _ => trivial
  | .node _ _ _ _ _, ⟨_, ⟨h1, h2⟩, h3⟩ => ⟨⟨right_of_can1 h1, right_of_canF h2⟩, right_of_canF h3⟩
theorem right_of_can {S : Sg} {ar : Int → Nat} {t : Tn} (h : CanT S ar t) : RightT S ar t := ⟨right_of_can1 h.1, right_of_canF h.2⟩
theorem canonT_twice {S : Sg} {ar : Int → Nat} (hS : S.Ok ar) {t : Tn} (h : RightT S ar t) : canonT S (canonT S t) = canonT S t := canonT_id (canonT_can hS h)
/-- Written alike, just if they are one. -/
theorem same_iff {S : Sg} {ar : Int → Nat} (hS : S.Ok ar) {a b : Tn} (ha : RightT S ar a) (hb : RightT S ar b) : cmpN (canonT S a) (canonT S b) = 0 ↔ canonT S a = canonT S b :=
  ⟨canT_zero (canonT_can hS ha) (canonT_can hS hb), fun e => by rw [e]; have := cmpN_anti (canonT S b) (canonT S b); omega⟩
end Go.Proofs.Ytlemkgdbefmeeaa
/- Canonical forms, without any program: no more nodes, the same variables, parts in order and joined again. -/
namespace Go.Proofs.Ytlemkgdbefmeeaa
open Go.RowKit Go.Deep

/-! ### how many nodes -/
def sizeT (t : Tn) : Nat := nodesF t.2 + 1
def sizes (l : List Tn) : Nat := (l.map sizeT).sum
theorem sizes_nil : sizes [] = 0 := rfl
theorem sizes_cons (t : Tn) (l : List Tn) : sizes (t :: l) = sizeT t + sizes l := by simp [sizes]
theorem sizes_append : ∀ l m : List Tn, sizes (l ++ m) = sizes l + sizes m
  | [], _ => by simp [sizes_nil]
  | t :: l, m => by rw [List.cons_append, sizes_cons, sizes_cons, sizes_append l m]; omega
theorem sizes_perm {l m : List Tn} (h : List.Perm l m) : sizes l = sizes m := by
  induction h with
  | nil => rfl
  | cons x _ ih => rw [sizes_cons, sizes_cons, ih]
  | swap x y l => simp only [sizes_cons]; omega
  | trans _ _ h1 h2 => exact h1.trans h2
theorem nodes_sizes : ∀ F : Fo, nodesF F = sizes (kidsL F)
  | .nil => rfl
  | .node _ _ x l r => by
    rw [kidsL, sizes_cons, ← nodes_sizes r]
    simp only [nodesF, sizeT]
    omega
theorem nodes_mk (l : List Tn) : nodesF (mkF l) = sizes l := by rw [nodes_sizes, kids_mk]
theorem parts_size (S : Sg) (f : Int) (t : Tn) : sizes (partsN S f t) ≤ sizeT t := by
  unfold partsN
  split
  · simp [sizes_cons, sizes_nil]
  · split
    · simp [sizes_nil]
    · split
      · rw [← nodes_sizes]; unfold sizeT; omega
      · simp [sizes_cons, sizes_nil]
theorem flat_size (S : Sg) (f : Int) : ∀ cs : List Tn, sizes (cs.flatMap (partsN S f)) ≤ sizes cs
  | [] => Nat.le_refl _
  | c :: r => by
    rw [List.flatMap_cons, sizes_append, sizes_cons]
    have := parts_size S f c
    have := flat_size S f r
    omega
theorem join_size {S : Sg} {f : Int} {l : List Tn} {t : Tn} (h : joinL S f l = some t) : sizeT t ≤ sizes l + 1 := by
  match l, h with
  | [], h =>
    simp only [joinL, Option.map_eq_some_iff] at h
    obtain ⟨u, _, rfl⟩ := h
    simp [sizeT, constT, nodesF]
  | [a], h =>
    simp only [joinL, Option.some.injEq] at h
    subst h
    simp [sizes_cons, sizes_nil]
  | a :: b :: r, h =>
    simp only [joinL, Option.some.injEq] at h
    subst h
    show nodesF (mkF (sortN (a :: b :: r))) + 1 ≤ _
    rw [nodes_mk, sizes_perm (sortN_perm _)]
    exact Nat.le_refl _
theorem canon1_size (S : Sg) (x : ByteArray × Int) (cs : List Tn) : sizeT (canon1 S x cs) ≤ sizes cs + 1 := by
  unfold canon1
  split
  · simp [sizeT, nodesF]
  · split
    · unfold joinN
      split
      · simp [sizeT, constT, nodesF]
      · cases h : joinL S x.2 (cs.flatMap (partsN S x.2)) with
        | none => simp [sizeT, constT, nodesF]
        | some t =>
          have := join_size h
          have := flat_size S x.2 cs
          simp only [Option.getD_some]
          omega
    · show nodesF (mkF cs) + 1 ≤ _
      rw [nodes_mk]
      exact Nat.le_refl _
theorem canonL_size (S : Sg) : ∀ F : Fo, sizes (canonL S F) ≤ nodesF F
  | .nil => Nat.le_refl _
  | .node _ _ x l r => by
    rw [canonL, sizes_cons, nodesF]
    have := canon1_size S x (canonL S l)
    have := canonL_size S l
    have := canonL_size S r
    omega
theorem canonT_size (S : Sg) (t : Tn) : nodesF (canonT S t).2 + 1 ≤ nodesF t.2 + 1 := by
  have := canon1_size S t.1 (canonL S t.2)
  have := canonL_size S t.2
  show sizeT (canonT S t) ≤ _
  unfold canonT
  omega

/-! ### which variables -/
def inF (nm : List UInt8) : Fo → Prop
  | .nil => False
  | .node _ _ x l r => ((noName x.1 = false ∧ x.1.data.toList = nm) ∨ inF nm l) ∨ inF nm r
def inT (nm : List UInt8) (t : Tn) : Prop := (noName t.1.1 = false ∧ t.1.1.data.toList = nm) ∨ inF nm t.2
theorem inF_kids {nm : List UInt8} : ∀ {F : Fo}, inF nm F ↔ ∃ k ∈ kidsL F, inT nm k
  | .nil => by simp [inF, kidsL]
  | .node _ _ x l r => by
    rw [inF, inF_kids (F := r), kidsL]
    constructor
    · rintro (h | ⟨k, hk, h⟩)
      · exact ⟨(x, l), by simp, h⟩
      · exact ⟨k, by simp [hk], h⟩
    · rintro ⟨k, hk, h⟩
      rcases List.mem_cons.1 hk with rfl | hk
      · exact .inl h
      · exact .inr ⟨k, hk, h⟩
theorem inT_none {nm : List UInt8} {f : Int} {l : Fo} : inT nm ((noB, f), l) ↔ inF nm l := by
  unfold inT
  simp [noName_noB]
theorem parts_in {S : Sg} {ar : Int → Nat} {f : Int} {c : Tn} {nm : List UInt8} (hj : S.joins f = true) (h : CanT S ar c) : inT nm c ↔ ∃ p ∈ partsN S f c, inT nm p := by
  unfold partsN
  rw [if_neg (by simp [hj])]
  cases hu : isUn S f c with
  | true =>
    obtain ⟨u, _, rfl⟩ := isUn_some hu
    unfold constT
    rw [inT_none]
    simp [inF]
  | false =>
    cases hh : headed f c with
    | true =>
      obtain ⟨c1, _, _, _⟩ := can_head hj h hh
      obtain ⟨x, l⟩ := c
      dsimp only at c1
      subst c1
      rw [inT_none, inF_kids]
      simp
    | false => simp
theorem join_in {S : Sg} {f : Int} {l : List Tn} {t : Tn} {nm : List UInt8} (h : joinL S f l = some t) : inT nm t ↔ ∃ p ∈ l, inT nm p := by
  match l, h with
  | [], h =>
    simp only [joinL, Option.map_eq_some_iff] at h
    obtain ⟨u, _, rfl⟩ := h
    unfold constT
    rw [inT_none]
    simp [inF]
  | [a], h =>
    simp only [joinL, Option.some.injEq] at h
    subst h
    simp
  | a :: b :: r, h =>
    simp only [joinL, Option.some.injEq] at h
    subst h
    rw [inT_none, inF_kids, kids_mk]
    constructor
    · rintro ⟨k, hk, h⟩; exact ⟨k, (sortN_perm _).mem_iff.1 hk, h⟩
    · rintro ⟨k, hk, h⟩; exact ⟨k, (sortN_perm _).mem_iff.2 hk, h⟩
theorem canon1_in {S : Sg} {ar : Int → Nat} {x : ByteArray × Int} {l : Fo} {cs : List Tn} {nm : List UInt8} (hn : nodeOk S ar x (lenF l)) (hl : cs.length = lenF l) (hc : ∀ c ∈ cs, CanT S ar c) (h : (∃ c ∈ cs, inT nm c) ↔ inF nm l) : inT nm (canon1 S x cs) ↔ inT nm (x, l) := by
  unfold nodeOk at hn
  cases hx : noName x.1 with
  | false =>
    rw [if_pos hx] at hn
    have e : l = .nil := len_nil hn.2
    subst e
    unfold canon1
    rw [if_pos hx]
    unfold inT
    simp [inF]
  | true =>
    have ex : x = (noB, x.2) := Prod.ext (noName_eq hx) rfl
    rw [if_neg (by simp [hx])] at hn
    have h2 : inT nm (x, l) ↔ inF nm l := by rw [ex]; exact inT_none
    rw [h2, ← h]
    cases hj : S.joins x.2 with
    | true =>
      rw [if_pos hj] at hn
      have hne : cs ≠ [] := fun e => by rw [e] at hl; simp at hl; omega
      rw [join_in (canon1_join hx hj hc hne)]
      constructor
      · rintro ⟨p, hp, hi⟩
        obtain ⟨c, h3, h4⟩ := List.mem_flatMap.1 hp
        exact ⟨c, h3, (parts_in hj (hc c h3)).2 ⟨p, h4, hi⟩⟩
      · rintro ⟨c, h3, hi⟩
        obtain ⟨p, h4, h5⟩ := (parts_in hj (hc c h3)).1 hi
        exact ⟨p, List.mem_flatMap.2 ⟨c, h3, h4⟩, h5⟩
    | false =>
      unfold canon1
      rw [if_neg (by simp [hx]), if_neg (by simp [hj]), inT_none, inF_kids, kids_mk]
theorem canonL_in {S : Sg} {ar : Int → Nat} (hS : S.Ok ar) {nm : List UInt8} : ∀ {F : Fo}, RightF S ar F → ((∃ c ∈ canonL S F, inT nm c) ↔ inF nm F)
  | .nil, _ => by simp [canonL, inF]
  | .node _ _ x l r, ⟨⟨h1, h2⟩, h3⟩ => by
    have e := canon1_in h1 (by rw [canonL_map, List.length_map, kids_len]) (canonL_can hS h2) (canonL_in hS (nm := nm) h2)
    rw [inF, ← canonL_in hS h3, canonL]
    constructor
    · rintro ⟨c, hc, hi⟩
      rcases List.mem_cons.1 hc with rfl | hc
      · exact .inl (e.1 hi)
      · exact .inr ⟨c, hc, hi⟩
    · rintro (h | ⟨c, hc, hi⟩)
      · exact ⟨_, List.mem_cons_self, e.2 h⟩
      · exact ⟨c, List.mem_cons_of_mem _ hc, hi⟩
theorem canonT_in {S : Sg} {ar : Int → Nat} (hS : S.Ok ar) {nm : List UInt8} {t : Tn} (h : RightT S ar t) : inT nm (canonT S t) ↔ inT nm t :=
  canon1_in h.1 (by rw [canonL_map, List.length_map, kids_len]) (canonL_can hS h.2) (canonL_in hS h.2)

/-! ### parts, in order and joined again -/
theorem parts_srt {S : Sg} {ar : Int → Nat} {f : Int} {t : Tn} (hj : S.joins f = true) (h : CanT S ar t) : Srt (partsN S f t) := by
  unfold partsN
  rw [if_neg (by simp [hj])]
  cases isUn S f t with
  | true => simp
  | false =>
    cases hh : headed f t with
    | true => simpa using (can_head hj h hh).2.2.1
    | false => simp
theorem map_can {S : Sg} {ar : Int → Nat} {l : List Tn} (h : ∀ p ∈ l, CanT S ar p) : l.map (canonT S) = l := by
  induction l with
  | nil => rfl
  | cons a r ih => rw [List.map_cons, canonT_id (h a (by simp)), ih (fun p hp => h p (by simp [hp]))]
/-- Join of a canonical term's parts. -/
theorem join_back {S : Sg} {ar : Int → Nat} {f : Int} {t : Tn} (hj : S.joins f = true) (h : CanT S ar t) : joinN S f ((partsN S f t).map (canonT S)) = some t := by
  rw [map_can (fun p hp => (parts_good hj h p hp).can)]
  unfold joinN
  rw [if_neg (by simp [hj]), flat_self (parts_good hj h)]
  exact join_parts hj h
/-- Join of the parts of two. -/
theorem join_two {S : Sg} {ar : Int → Nat} {f : Int} {a b : Tn} (hj : S.joins f = true) (ha : CanT S ar a) (hb : CanT S ar b) : joinN S f ((partsN S f a ++ partsN S f b).map (canonT S)) = joinL S f (partsN S f a ++ partsN S f b) := by
  have hg : ∀ p ∈ partsN S f a ++ partsN S f b, Good S ar f p := fun p hp => by
    rcases List.mem_append.1 hp with h | h
    · exact parts_good hj ha p h
    · exact parts_good hj hb p h
  rw [map_can (fun p hp => (hg p hp).can)]
  unfold joinN
  rw [if_neg (by simp [hj]), flat_self hg]
end Go.Proofs.Ytlemkgdbefmeeaa
/- The plain functions of layer 1 (names of symbols and of variables, over bytes), without any program. -/
namespace Go.Proofs.Ytlemkgdbefmeeaa

def lowZ (r : Int) : Bool := decide (97 ≤ r) && decide (r ≤ 122)
def upZ (r : Int) : Bool := decide (65 ≤ r) && decide (r ≤ 90)
def digZ (r : Int) : Bool := decide (48 ≤ r) && decide (r ≤ 57)
def fitsB (s : ByteArray) : Bool := decide (1 ≤ s.size) && decide (s.size ≤ 12)
/-- The byte at a place, 0 where there is none. -/
def bt (s : ByteArray) (j : Nat) : Int := if h : j < s.size then ((s[j]'h).toNat : Int) else 0
def okName (j : Nat) (c : Int) : Bool := lowZ c || (decide (1 ≤ j) && digZ c)
def okVar (j : Nat) (c : Int) : Bool := upZ c || (decide (1 ≤ j) && (lowZ c || digZ c))
def okNum (j : Nat) (c : Int) : Bool := (decide (j = 0) && decide (c = 95)) || (decide (j = 1) && digZ c && decide (c ≠ 48)) || (decide (2 ≤ j) && digZ c)
def allB (p : Nat → Int → Bool) (s : ByteArray) (n : Nat) : Bool := (List.range n).all fun j => p j (bt s j)
def nameB (s : ByteArray) : Bool := fitsB s && allB okName s s.size
def writtenB (s : ByteArray) : Bool := allB okVar s s.size
def numberedB (s : ByteArray) : Bool := decide (2 ≤ s.size) && allB okNum s s.size
def varB (s : ByteArray) : Bool := fitsB s && (writtenB s || numberedB s)

theorem bt_of {s : ByteArray} {j : Nat} (h : j < s.size) : bt s j = ((s[j]'h).toNat : Int) := by simp [bt, h]
theorem bt_range (s : ByteArray) (j : Nat) : 0 ≤ bt s j ∧ bt s j ≤ 255 := by
  unfold bt
  split
  · rename_i h; have := (s[j]'h).toNat_lt; omega
  · omega
theorem allB_succ (p : Nat → Int → Bool) (s : ByteArray) (n : Nat) : allB p s (n + 1) = (allB p s n && p n (bt s n)) := by
  simp [allB, List.range_succ]
theorem allB_zero (p : Nat → Int → Bool) (s : ByteArray) : allB p s 0 = true := by simp [allB]
theorem allB_iff (p : Nat → Int → Bool) (s : ByteArray) (n : Nat) : allB p s n = true ↔ ∀ j, j < n → p j (bt s j) = true := by
  simp [allB]
theorem allB_false {p : Nat → Int → Bool} {s : ByteArray} {n k : Nat} (hk : k < n) (h : p k (bt s k) = false) : allB p s n = false := by
  cases e : allB p s n with
  | false => rfl
  | true => rw [(allB_iff p s n).1 e k hk] at h; cases h

end Go.Proofs.Ytlemkgdbefmeeaa
/- What the smallest functions of layer 1 answer: letters, digits, lengths. -/
namespace Go.Proofs.Ytlemkgdbefmeeaa
open Go.RowKit

theorem rlow_any (r : Int) (w : World) : Calls Try.prog 93 #[.int .u8 r] w fun e w' => e = .returned (.bool (lowZ r)) ∧ w' = w := by
  by_cases h : 97 ≤ r
  · go_enter Try.func93, Try.ntmps93
    go_wp2
    go_ret
    exact ⟨by simp [lowZ, h], rfl⟩
  · go_enter Try.func93, Try.ntmps93
    go_wp2
    go_ret
    exact ⟨by simp [lowZ]; omega, rfl⟩

theorem rdigit_any (r : Int) (w : World) : Calls Try.prog 91 #[.int .u8 r] w fun e w' => e = .returned (.bool (digZ r)) ∧ w' = w := by
  by_cases h : 48 ≤ r
  · go_enter Try.func91, Try.ntmps91
    go_wp2
    go_ret
    exact ⟨by simp [digZ, h], rfl⟩
  · go_enter Try.func91, Try.ntmps91
    go_wp2
    go_ret
    exact ⟨by simp [digZ]; omega, rfl⟩

theorem rup_any (r : Int) (w : World) : Calls Try.prog 92 #[.int .u8 r] w fun e w' => e = .returned (.bool (upZ r)) ∧ w' = w := by
  by_cases h : 65 ≤ r
  · go_enter Try.func92, Try.ntmps92
    go_wp2
    go_ret
    exact ⟨by simp [upZ, h], rfl⟩
  · go_enter Try.func92, Try.ntmps92
    go_wp2
    go_ret
    exact ⟨by simp [upZ]; omega, rfl⟩

theorem fits_hi {s : ByteArray} (h : 1 ≤ (s.size : Int)) : fitsB s = decide ((s.size : Int) ≤ 12) := by
  rw [Bool.eq_iff_iff]; simp [fitsB]; omega
end Go.Proofs.Ytlemkgdbefmeeaa
/- What Name of package sig answers of any text: it goes through the runes. -/
namespace Go.Proofs.Ytlemkgdbefmeeaa
open Go.RowKit

theorem okName_high {j : Nat} {c : Int} (h : 128 ≤ c) : okName j c = false := by
  simp [okName, lowZ, digZ]; omega
theorem okVar_high {j : Nat} {c : Int} (h : 128 ≤ c) : okVar j c = false := by
  simp [okVar, lowZ, digZ, upZ]; omega
theorem lowZ_high {c : Int} (h : 128 ≤ c) : lowZ c = false := by simp [lowZ]; omega
theorem upZ_high {c : Int} (h : 128 ≤ c) : upZ c = false := by simp [upZ]; omega
theorem digZ_high {c : Int} (h : 128 ≤ c) : digZ c = false := by simp [digZ]; omega
theorem below_iter (w : World) (s : ByteArray) (p : Nat) : Below w.heap.size w (w.iter s p) := (Below.refl _ _).alloc (Nat.le_refl _) _

end Go.Proofs.Ytlemkgdbefmeeaa
/- What Var of package sig answers of any text: it goes through the runes. -/
namespace Go.Proofs.Ytlemkgdbefmeeaa
open Go.RowKit

theorem ext_size (s : ByteArray) : (s.extract 1 s.size).size = s.size - 1 := by simp
theorem ext_at (s : ByteArray) (j : Nat) (h : j < (s.extract 1 s.size).size) (h' : j + 1 < s.size) : (s.extract 1 s.size)[j]'h = s[j + 1]'h' := by
  rw [ByteArray.getElem_extract]; congr 1; omega
theorem numbered_no {s : ByteArray} (k : Nat) (hk : k < s.size) (h : okNum k ((s[k]'hk).toNat : Int) = false) : numberedB s = false := by
  unfold numberedB; rw [allB_false hk (by rw [bt_of hk]; exact h)]; simp
theorem okNum_high {j : Nat} {c : Int} (h : 128 ≤ c) : okNum j c = false := by
  simp [okNum, digZ]; omega

end Go.Proofs.Ytlemkgdbefmeeaa
/- What the document's Var answers of any text. -/
namespace Go.Proofs.Ytlemkgdbefmeeaa
open Go.RowKit

theorem var_num {s : ByteArray} (hf : fitsB s = true) (hp : 0 < s.size) (h : ((s[0]'hp).toNat : Int) = 95) : varB s = numberedB s := by
  unfold varB writtenB
  rw [hf, allB_false hp (by rw [bt_of hp, h]; rfl)]; simp
theorem var_writ {s : ByteArray} (hf : fitsB s = true) (hp : 0 < s.size) (h : ((s[0]'hp).toNat : Int) ≠ 95) : varB s = writtenB s := by
  unfold varB
  rw [hf, numbered_no 0 hp (by simp [okNum, h])]; simp
theorem okNum_two {j : Nat} {c : Int} (h : 2 ≤ j) : okNum j c = digZ c := by
  have h0 : ¬ j = 0 := by omega
  have h1 : ¬ j = 1 := by omega
  simp [okNum, h, h0, h1]

set_option maxHeartbeats 800000 in
theorem rvar_any (s : ByteArray) (w : World) (hs : s.size ≤ maxLen) : Calls Try.prog 81 #[.string s] w fun e w' => e = .returned (.bool (varB s)) ∧ w' = w := by
  unfold maxLen at hs
  by_cases h0 : (s.size : Int) < 1
  · go_enter Try.func81, Try.ntmps81
    go_wp2
    go_ret
    exact ⟨by simp [varB, fitsB]; omega, rfl⟩
  · by_cases h1 : 12 < (s.size : Int)
    · go_enter Try.func81, Try.ntmps81
      go_wp2
      go_ret
      exact ⟨by simp [varB, fitsB]; omega, rfl⟩
    · have hp : 0 < s.size := by omega
      have hfit : Hid (fitsB s = true) := by show fitsB s = true; simp [fitsB]; omega
      cases hu : (((s[0]'hp).toNat : Int) == 95)
      · have hu' : Hid (((s[0]'hp).toNat : Int) ≠ 95) := by show _ ≠ _; simpa using hu
        have hv : Hid (varB s = writtenB s) := var_writ hfit.out hp hu'.out
        cases hl : upZ ((s[0]'hp).toNat : Int)
        · have hbad : Hid (varB s = false) := by
            show varB s = false
            rw [hv.out]; unfold writtenB
            rw [allB_false hp (by rw [bt_of hp]; simp [okVar, hl])]
          go_enter Try.func81, Try.ntmps81
          go_wp2_with (go_at_call 92; refine (rup_any _ _).mono ?_; rintro e w' ⟨rfl, rfl⟩)
          go_ret
          exact ⟨by rw [hbad.out]; rfl, rfl⟩
        · have h01 : Hid (allB okVar s 1 = true) := by
            show allB okVar s 1 = true
            rw [allB_succ, allB_zero, bt_of hp]; simp [okVar, hl]
          go_enter Try.func81, Try.ntmps81
          go_wp2_with (go_at_call 92; refine (rup_any _ _).mono ?_; rintro e w' ⟨rfl, rfl⟩)
          go_loop [4] (fun i => ∃ k : Nat, 1 ≤ k ∧ k ≤ s.size ∧ i = .int .i64 k ∧ allB okVar s k = true) (fun i => s.size - (intOf i).toNat)
          case atStart => exact ⟨1, Nat.le_refl _, hp, rfl, h01.out⟩
          case round =>
            obtain ⟨k, hk1, hk, rfl, hall⟩ := hrel
            have HA : Hid (allB okVar s k = true) := hall
            clear hall
            by_cases hlt : k < s.size
            · have hst : Hid (∀ b, okVar k ((s[k]'hlt).toNat : Int) = b → allB okVar s (k + 1) = b) := by
                intro b hb; rw [allB_succ, HA.out, bt_of hlt, hb]; rfl
              have hbad : Hid (okVar k ((s[k]'hlt).toNat : Int) = false → varB s = false) := by
                intro hb; rw [hv.out]; unfold writtenB; rw [allB_false hlt (by rw [bt_of hlt]; exact hb)]
              cases hlk : lowZ ((s[k]'hlt).toNat : Int)
              · cases huk : upZ ((s[k]'hlt).toNat : Int)
                · cases hdk : digZ ((s[k]'hlt).toNat : Int)
                  · go_wp2_with (first | (go_at_call 93; refine (rlow_any _ _).mono ?_; rintro e w' ⟨rfl, rfl⟩) | (go_at_call 91; refine (rdigit_any _ _).mono ?_; rintro e w' ⟨rfl, rfl⟩) | (go_at_call 92; refine (rup_any _ _).mono ?_; rintro e w' ⟨rfl, rfl⟩))
                    go_ret
                    exact ⟨by rw [hbad.out (by simp [okVar, hlk, hdk, huk])]; rfl, rfl⟩
                  · go_wp2_with (first | (go_at_call 93; refine (rlow_any _ _).mono ?_; rintro e w' ⟨rfl, rfl⟩) | (go_at_call 91; refine (rdigit_any _ _).mono ?_; rintro e w' ⟨rfl, rfl⟩) | (go_at_call 92; refine (rup_any _ _).mono ?_; rintro e w' ⟨rfl, rfl⟩))
                    go_round
                    case rel => exact ⟨k + 1, by omega, by omega, by go_num, hst.out _ (by simp [okVar, hdk]; omega)⟩
                    case measure => simp [intOf]; omega
                · go_wp2_with (first | (go_at_call 93; refine (rlow_any _ _).mono ?_; rintro e w' ⟨rfl, rfl⟩) | (go_at_call 91; refine (rdigit_any _ _).mono ?_; rintro e w' ⟨rfl, rfl⟩) | (go_at_call 92; refine (rup_any _ _).mono ?_; rintro e w' ⟨rfl, rfl⟩))
                  go_round
                  case rel => exact ⟨k + 1, by omega, by omega, by go_num, hst.out _ (by simp [okVar, huk])⟩
                  case measure => simp [intOf]; omega
              · go_wp2_with (first | (go_at_call 93; refine (rlow_any _ _).mono ?_; rintro e w' ⟨rfl, rfl⟩) | (go_at_call 91; refine (rdigit_any _ _).mono ?_; rintro e w' ⟨rfl, rfl⟩) | (go_at_call 92; refine (rup_any _ _).mono ?_; rintro e w' ⟨rfl, rfl⟩))
                go_round
                case rel => exact ⟨k + 1, by omega, by omega, by go_num, hst.out _ (by simp [okVar, hlk]; omega)⟩
                case measure => simp [intOf]; omega
            · have hgood : Hid (varB s = true) := by
                have hke : s.size = k := by omega
                show varB s = true; rw [hv.out]; unfold writtenB; rw [hke, HA.out]
              go_wp2
              go_ret
              exact ⟨by rw [hgood.out]; rfl, rfl⟩
      · have hu' : Hid (((s[0]'hp).toNat : Int) = 95) := by show _ = _; simpa using hu
        have hv : Hid (varB s = numberedB s) := var_num hfit.out hp hu'.out
        by_cases h2 : (s.size : Int) < 2
        · have hbad : Hid (varB s = false) := by show varB s = false; rw [hv.out]; simp [numberedB]; omega
          go_enter Try.func81, Try.ntmps81
          go_wp2
          go_ret
          exact ⟨by rw [hbad.out]; rfl, rfl⟩
        · have hp1 : 1 < s.size := by omega
          cases hz : (((s[1]'hp1).toNat : Int) == 48)
          · have hz' : Hid (((s[1]'hp1).toNat : Int) ≠ 48) := by show _ ≠ _; simpa using hz
            have h01 : Hid (allB okNum s 1 = true) := by
              show allB okNum s 1 = true
              rw [allB_succ, allB_zero, bt_of hp, hu'.out]; rfl
            go_enter Try.func81, Try.ntmps81
            go_wp2
            go_loop [3] (fun i => ∃ k : Nat, 1 ≤ k ∧ k ≤ s.size ∧ i = .int .i64 k ∧ allB okNum s k = true) (fun i => s.size - (intOf i).toNat)
            case atStart => exact ⟨1, Nat.le_refl _, hp, rfl, h01.out⟩
            case round =>
              obtain ⟨k, hk1, hk, rfl, hall⟩ := hrel
              have HA : Hid (allB okNum s k = true) := hall
              clear hall
              by_cases hlt : k < s.size
              · have hst : Hid (okNum k ((s[k]'hlt).toNat : Int) = true → allB okNum s (k + 1) = true) := by
                  intro hb; rw [allB_succ, HA.out, bt_of hlt, hb]; rfl
                have hbad : Hid (okNum k ((s[k]'hlt).toNat : Int) = false → varB s = false) := by
                  intro hb; rw [hv.out]; exact numbered_no k hlt hb
                cases hdk : digZ ((s[k]'hlt).toNat : Int)
                · go_wp2_with (go_at_call 91; refine (rdigit_any _ _).mono ?_; rintro e w' ⟨rfl, rfl⟩)
                  go_ret
                  exact ⟨by rw [hbad.out (by simp [okNum, hdk]; omega)]; rfl, rfl⟩
                · have hok : Hid (okNum k ((s[k]'hlt).toNat : Int) = true) := by
                    show okNum _ _ = true
                    by_cases hz1 : k = 1
                    · subst hz1; have := hz'.out; simp [okNum, hdk]; omega
                    · rw [okNum_two (by omega)]; exact hdk
                  go_wp2_with (go_at_call 91; refine (rdigit_any _ _).mono ?_; rintro e w' ⟨rfl, rfl⟩)
                  go_round
                  case rel => exact ⟨k + 1, by omega, by omega, by go_num, hst.out hok.out⟩
                  case measure => simp [intOf]; omega
              · have hgood : Hid (varB s = true) := by
                  have hke : s.size = k := by omega
                  show varB s = true; rw [hv.out]; unfold numberedB; rw [hke, HA.out]; simp; omega
                go_wp2
                go_ret
                exact ⟨by rw [hgood.out]; rfl, rfl⟩
          · have hbad : Hid (varB s = false) := by
              show varB s = false; rw [hv.out]
              have : ((s[1]'hp1).toNat : Int) = 48 := by simpa using hz
              exact numbered_no 1 hp1 (by rw [this]; rfl)
            go_enter Try.func81, Try.ntmps81
            go_wp2
            go_ret
            exact ⟨by rw [hbad.out]; rfl, rfl⟩
end Go.Proofs.Ytlemkgdbefmeeaa
/- Signatures as plain lists: what is found, what is right; and where they lie in memory. -/
namespace Go.Proofs.Ytlemkgdbefmeeaa
open Go.RowKit

structure Sym where
  name : ByteArray
  kind : Int
  arity : Int
  unit : ByteArray

def Sym.val (x : Sym) : Value := .agg #[.string x.name, .int .i64 x.kind, .int .i64 x.arity, .string x.unit]

/-! ### plain -/
def sameB (a b : ByteArray) : Bool := a.toList == b.toList
def findL (l : List Sym) (nm : ByteArray) : Option Nat := l.findIdx? fun x => sameB x.name nm
def findI (l : List Sym) (nm : ByteArray) : Int := match findL l nm with | some i => i | none => 0
def findB (l : List Sym) (nm : ByteArray) : Bool := (findL l nm).isSome

theorem find_hit {l : List Sym} {nm : ByteArray} {k : Nat} (hk : k < l.length) (h : sameB l[k].name nm = true) (hno : ∀ j (hj : j < l.length), j < k → sameB l[j].name nm = false) : findL l nm = some k := by
  unfold findL
  rw [List.findIdx?_eq_some_iff_getElem]
  exact ⟨hk, h, fun j hj => by rw [hno j (by omega) hj]; simp⟩
theorem find_miss {l : List Sym} {nm : ByteArray} (hno : ∀ j (hj : j < l.length), sameB l[j].name nm = false) : findL l nm = none := by
  unfold findL
  rw [List.findIdx?_eq_none_iff]
  intro x hx
  obtain ⟨j, hj, rfl⟩ := List.getElem_of_mem hx
  exact hno j hj
theorem findI_some {l : List Sym} {nm : ByteArray} {k : Nat} (h : findL l nm = some k) : findI l nm = k := by simp [findI, h]
theorem findB_some {l : List Sym} {nm : ByteArray} {k : Nat} (h : findL l nm = some k) : findB l nm = true := by simp [findB, h]
theorem findI_none {l : List Sym} {nm : ByteArray} (h : findL l nm = none) : findI l nm = 0 := by simp [findI, h]
theorem findB_none {l : List Sym} {nm : ByteArray} (h : findL l nm = none) : findB l nm = false := by simp [findB, h]

def arityB (x : Sym) : Bool := if x.kind = 1 then decide (0 ≤ x.arity) && decide (x.arity ≤ 4) else decide (x.arity = 2)
def emptyB (s : ByteArray) : Bool := s.toList.isEmpty
def isUnit (x y : Sym) : Bool := decide (y.kind = 1) && decide (y.arity = 0) && sameB y.name x.unit
def unitB (l : List Sym) (x : Sym) : Bool := if x.kind = 3 then l.any (isUnit x) else emptyB x.unit
def kindB (x : Sym) : Bool := decide (x.kind = 1) || decide (x.kind = 2) || decide (x.kind = 3)
/-- What is wrong with a symbol behind others. -/
def symErr (l : List Sym) (x : Sym) : Int :=
  if findB l x.name = true ∨ nameB x.name = false then 11 else if kindB x = false then 12 else if arityB x = false then 13 else if unitB l x = false then 14 else 0

/-! ### memory -/
structure SymAt (w : World) (b o : Nat) (x : Sym) : Prop where
  name : w.cell? ⟨b, o, none⟩ = some (.string x.name)
  kind : w.cell? ⟨b, o + 1, none⟩ = some (.int .i64 x.kind)
  arity : w.cell? ⟨b, o + 2, none⟩ = some (.int .i64 x.arity)
  unit : w.cell? ⟨b, o + 3, none⟩ = some (.string x.unit)

theorem SymAt.below {w w' : World} {b o : Nat} {x : Sym} (h : SymAt w b o x) (hb : Below w.heap.size w w') : SymAt w' b o x := by
  have hlt : b < w.heap.size := World.block_lt_of_cell? w _ h.name
  exact ⟨by rw [hb.cell (p := ⟨b, o, none⟩) hlt]; exact h.name, by rw [hb.cell (p := ⟨b, o + 1, none⟩) hlt]; exact h.kind,
    by rw [hb.cell (p := ⟨b, o + 2, none⟩) hlt]; exact h.arity, by rw [hb.cell (p := ⟨b, o + 3, none⟩) hlt]; exact h.unit⟩

/-- Each text is short enough to be one. -/
structure Sym.Fits (x : Sym) : Prop where
  name : x.name.size ≤ maxLen
  unit : x.unit.size ≤ maxLen

/-- The slice with this address and length holds these symbols. -/
structure SigAt (w : World) (a : Option Addr) (n : Nat) (l : List Sym) : Prop where
  len : n = l.length
  small : n ≤ maxLen
  cells : ∀ i (h : i < l.length), ∃ b off, a = some ⟨b, off, none⟩ ∧ SymAt w b (off + i * 4) l[i]
  fits : ∀ x ∈ l, x.Fits

theorem SigAt.below {w w' : World} {a : Option Addr} {n : Nat} {l : List Sym} (h : SigAt w a n l) (hb : Below w.heap.size w w') : SigAt w' a n l :=
  ⟨h.len, h.small, fun i hi => by obtain ⟨b, off, ha, hc⟩ := h.cells i hi; exact ⟨b, off, ha, hc.below hb⟩, h.fits⟩

end Go.Proofs.Ytlemkgdbefmeeaa
/- Signatures in memory; what is wrong with a node, plain and as the program and the document say it. -/
namespace Go.Proofs.Ytlemkgdbefmeeaa
open Go.RowKit Go.Deep

def takesB (s : Sym) (n : Nat) : Bool := if s.kind = 1 then (n : Int) == s.arity else decide (2 ≤ n)
def varErr (x : ByteArray × Int) (n : Nat) : Int := if varB x.1 = true ∧ x.2 = 0 ∧ n = 0 then 0 else 31
/-- What is wrong with a node. -/
def nodeErr (S : List Sym) (x : ByteArray × Int) (n : Nat) : Int :=
  if noName x.1 = false then varErr x n else if 0 ≤ x.2 then (match S[x.2.toNat]? with | some s => if takesB s n = true then 0 else 33 | none => 32) else 32

theorem nodeErr_in {S : List Sym} {x : ByteArray × Int} {n : Nat} (h : noName x.1 = true) (h0 : 0 ≤ x.2) (h1 : x.2.toNat < S.length) : nodeErr S x n = if takesB S[x.2.toNat] n = true then 0 else 33 := by
  unfold nodeErr
  rw [if_neg (by simp [h]), if_pos h0, List.getElem?_eq_getElem h1]
theorem nodeErr_out {S : List Sym} {x : ByteArray × Int} {n : Nat} (h : noName x.1 = true) (h1 : x.2 < 0 ∨ (S.length : Int) ≤ x.2) : nodeErr S x n = 32 := by
  unfold nodeErr
  rw [if_neg (by simp [h])]
  by_cases h0 : 0 ≤ x.2
  · rw [if_pos h0, List.getElem?_eq_none (by omega)]
  · rw [if_neg h0]

end Go.Proofs.Ytlemkgdbefmeeaa
/- What the document's Check answers of any term by any signature. -/
namespace Go.Proofs.Ytlemkgdbefmeeaa
open Go.RowKit Go.Deep

/-- What is wrong in a list of terms: of the first node at which something is. -/
def errF (S : List Sym) : Fo → Int
  | .nil => 0
  | .node _ _ x l r => thenC (thenC (nodeErr S x (lenF l)) (errF S l)) (errF S r)
def errT (S : List Sym) (x : ByteArray × Int) (l : Fo) : Int := thenC (nodeErr S x (lenF l)) (errF S l)
/-- What is left of most nodes; below zero, if there are more. -/
def ovF : Fo → Int → Int
  | .nil, m => m
  | .node _ _ _ l r, m => if m < 0 then m else ovF r (ovF l (m - 1))
theorem ov_neg : ∀ (F : Fo) (m : Int), m < 0 → ovF F m = m
  | .nil, _, _ => rfl
  | .node _ _ _ _ _, m, h => by rw [ovF, if_pos h]
theorem ov_is : ∀ (F : Fo) (m : Int), 0 ≤ m → ovF F m = if (nodesF F : Int) ≤ m then m - nodesF F else -1
  | .nil, m, h => by simp [ovF, nodesF, h]
  | .node _ _ x l r, m, h => by
    show _ = if ((nodesF l + nodesF r + 1 : Nat) : Int) ≤ m then m - ((nodesF l + nodesF r + 1 : Nat) : Int) else -1
    rw [ovF, if_neg (by omega)]
    by_cases h1 : m = 0
    · subst h1
      rw [ov_neg l _ (by omega), ov_neg r _ (by omega), if_neg (by omega)]; rfl
    · rw [ov_is l (m - 1) (by omega)]
      by_cases h2 : (nodesF l : Int) ≤ m - 1
      · rw [if_pos h2, ov_is r _ (by omega)]
        by_cases h3 : (nodesF r : Int) ≤ m - 1 - nodesF l
        · rw [if_pos h3, if_pos (by omega)]; omega
        · rw [if_neg h3, if_neg (by omega)]
      · rw [if_neg h2, ov_neg r _ (by omega), if_neg (by omega)]

set_option maxHeartbeats 1000000 in
theorem node_any (S : List Sym) (sa : Option Addr) (sn sc : Nat) (x : ByteArray × Int) (a : Option Addr) (n c : Nat) (w : World) (hS : SigAt w sa sn S) (hs : x.1.size ≤ maxLen) :
    Calls Try.prog 63 #[.slice sa sn sc, .agg #[.string x.1, .int .i64 x.2, .slice a n c]] w fun e w' => e = .returned (.int .i64 (nodeErr S x n)) ∧ Below w.heap.size w w' := by
  have hb1 : Hid (Below w.heap.size w (w.alloc (.cells #[.string x.1, .int .i64 x.2, .slice a n c] 26))) := (Below.refl _ w).alloc (Nat.le_refl _) _
  have hlen := hS.len
  have hsm := hS.small
  have HS : Hid (SigAt w sa sn S) := hS
  unfold maxLen at hsm
  clear hS
  cases hx : x.1.toList.isEmpty
  · have hE : Hid (nodeErr S x n = varErr x n) := by show _ = _; unfold nodeErr noName; rw [hx]; rfl
    have hE2 : varErr x n = if varB x.1 = true ∧ x.2 = 0 ∧ n = 0 then 0 else 31 := rfl
    have bx := TBox.new w x a n c
    have hv := rvar_any x.1 (w.alloc (.cells #[.string x.1, .int .i64 x.2, .slice a n c] 26)) hs
    go_enter Try.func63, Try.ntmps63
    go_wp2_with fail
    refine hv.mono ?_
    rintro e w2 ⟨rfl, hw2⟩
    have HB : Hid (Below w.heap.size w w2) := by first | (rw [hw2]; exact hb1.out) | exact hb1.out.trans (hw2.mono hb1.out.size)
    have bx2 : TBox w2 w.heap.size x a n c := by first | (rw [hw2]; exact bx) | exact bx.below hw2
    have c1 := bx2.c1
    have c2 := bx2.c2
    clear hv bx bx2 hw2
    cases h1 : varB x.1
    · rw [h1] at hE2
      go_wp2
      go_ret
      exact ⟨by rw [hE.out, hE2]; simp, HB.out⟩
    · rw [h1] at hE2
      cases h2 : (x.2 != 0)
      · have h2' : x.2 = 0 := by simpa using h2
        by_cases h3 : 0 < n
        · go_wp2
          go_ret
          exact ⟨by rw [hE.out, hE2, if_neg (by omega)]; rfl, HB.out⟩
        · go_wp2
          go_ret
          exact ⟨by rw [hE.out, hE2, if_pos (by simp; omega)]; rfl, HB.out⟩
      · have h2' : x.2 ≠ 0 := by simpa using h2
        go_wp2
        go_ret
        exact ⟨by rw [hE.out, hE2, if_neg (by simp; omega)]; rfl, HB.out⟩
  · by_cases h0 : x.2 < 0
    · have hE : Hid (nodeErr S x n = 32) := nodeErr_out hx (.inl h0)
      go_enter Try.func63, Try.ntmps63
      go_wp2
      go_ret
      exact ⟨by rw [hE.out]; rfl, hb1.out⟩
    · by_cases h1 : (sn : Int) ≤ x.2
      · have hE : Hid (nodeErr S x n = 32) := nodeErr_out hx (.inr (by omega))
        go_enter Try.func63, Try.ntmps63
        go_wp2
        go_ret
        exact ⟨by rw [hE.out]; rfl, hb1.out⟩
      · have hlt : x.2.toNat < S.length := by omega
        have hE : Hid (nodeErr S x n = if takesB S[x.2.toNat] n = true then 0 else 33) := nodeErr_in hx (by omega) hlt
        obtain ⟨b, off, rfl, sy⟩ := HS.out.cells _ hlt
        have sy' := sy.below hb1.out
        have hk0 : (0 : Int) ≤ x.2 := by omega
        have hkn : x.2 < (sn : Int) := by omega
        have s0 := sy'.name; have s1 := sy'.kind; have s2 := sy'.arity; have s3 := sy'.unit
        clear sy sy' HS hlen
        obtain ⟨s, hsd⟩ : ∃ s, S[x.2.toNat] = s := ⟨_, rfl⟩
        rw [hsd] at s0 s1 s2 s3 hE
        clear hsd
        have hT : takesB s n = if s.kind = 1 then (n : Int) == s.arity else decide (2 ≤ n) := rfl
        have hb2 : Hid (Below w.heap.size w ((w.alloc (.cells #[.string x.1, .int .i64 x.2, .slice a n c] 26)).alloc (.cells #[.string s.name, .int .i64 s.kind, .int .i64 s.arity, .string s.unit] 45))) := hb1.out.alloc hb1.out.size _
        cases hk : (s.kind == 1)
        · have hk2 : (s.kind != 1) = true := by simpa using hk
          rw [if_neg (by simpa using hk)] at hT
          by_cases h2 : n < 2
          · rw [show decide (2 ≤ n) = false by simp; omega] at hT
            rw [hT] at hE
            go_enter Try.func63, Try.ntmps63
            go_wp2
            go_ret
            exact ⟨by rw [hE.out]; rfl, hb2.out⟩
          · rw [show decide (2 ≤ n) = true by simp; omega] at hT
            rw [hT] at hE
            go_enter Try.func63, Try.ntmps63
            go_wp2
            go_ret
            exact ⟨by rw [hE.out]; rfl, hb2.out⟩
        · have hk2 : (s.kind != 1) = false := by simpa using hk
          rw [if_pos (by simpa using hk)] at hT
          cases ha : ((n : Int) == s.arity)
          · rw [ha] at hT
            rw [hT] at hE
            have ha' : ((n : Int) != s.arity) = true := by simpa using ha
            go_enter Try.func63, Try.ntmps63
            go_wp2
            go_ret
            exact ⟨by rw [hE.out]; rfl, hb2.out⟩
          · rw [ha] at hT
            rw [hT] at hE
            have ha' : ((n : Int) != s.arity) = false := by simpa using ha
            go_enter Try.func63, Try.ntmps63
            go_wp2
            go_ret
            exact ⟨by rw [hE.out]; rfl, hb2.out⟩
end Go.Proofs.Ytlemkgdbefmeeaa
/- How many nodes, and what is wrong node by node: the document's Check, whole. -/
namespace Go.Proofs.Ytlemkgdbefmeeaa
open Go.RowKit Go.Deep

/-- The box of a function of one term. -/
structure One (w : World) (x : ByteArray × Int) (a : Option Addr) (n c : Nat) (W : World) : Prop where
  low : Below w.heap.size w W
  t : TBox W w.heap.size x a n c
theorem One.new (w : World) (x : ByteArray × Int) (a : Option Addr) (n c : Nat) : One w x a n c (w.alloc (.cells #[.string x.1, .int .i64 x.2, .slice a n c] 26)) := ⟨(Below.refl _ w).alloc (Nat.le_refl _) _, TBox.new _ _ _ _ _⟩
theorem One.below {w : World} {x : ByteArray × Int} {a : Option Addr} {n c : Nat} {W W' : World} (h : One w x a n c W) (hb : Below W.heap.size W W') : One w x a n c W' := ⟨h.low.trans (hb.mono h.low.size), h.t.below hb⟩

def NdOk (S : List Sym) (k : Nat) : Prop := ∀ (sa : Option Addr) (sn sc : Nat) (x : ByteArray × Int) (l : Fo) (a : Option Addr) (c : Nat) (w : World), nodesF l ≤ k → SigAt w sa sn S → TmAt w x a c l →
  Calls Try.prog 52 #[.slice sa sn sc, .agg #[.string x.1, .int .i64 x.2, .slice a (lenF l) c]] w fun e w' => e = .returned (.int .i64 (errT S x l)) ∧ Below w.heap.size w w'

set_option maxRecDepth 100000 in
set_option maxHeartbeats 1000000 in
theorem nodes_all (S : List Sym) : ∀ k, NdOk S k := by
  intro k
  induction k using Nat.strongRecOn with
  | _ k ih =>
    intro sa sn sc x l a c w hk hS hT
    have HS : Hid (SigAt w sa sn S) := hS
    have HT : Hid (TmAt w x a c l) := hT
    have IH : Hid (∀ j, j < k → NdOk S j) := ih
    have O0 : Hid (One w x a (lenF l) c (w.alloc (.cells #[.string x.1, .int .i64 x.2, .slice a (lenF l) c] 26))) := One.new _ _ _ _ _
    have hn : lenF l ≤ 9223372036854775807 := by have := hT.sizes.len; have := hT.sizes.cap; unfold maxLen at *; omega
    have hC := node_any S sa sn sc x a (lenF l) c _ (hS.below O0.out.low) hT.sizes.name
    clear hT ih hS
    go_enter Try.func52, Try.ntmps52
    go_wp2_with fail
    refine hC.mono ?_
    rintro e w2 ⟨rfl, hb⟩
    have O2 : Hid (One w x a (lenF l) c w2) := O0.out.below hb
    clear hC hb O0
    go_wp2
    go_loopw [5, 6] (fun er i wr => ∃ (j : Nat) (q : Int), j ≤ lenF l ∧ er = .int .i64 q ∧ i = .int .i64 j ∧ One w x a (lenF l) c wr ∧ errT S x l = thenC q (errF S (dropF j l))) (fun _ i _ => lenF l - (intOf i).toNat)
    case atStart => exact ⟨0, _, Nat.zero_le _, rfl, rfl, O2.out, by rw [drop_zero]; rfl⟩
    case round =>
      obtain ⟨j, q, hj, rfl, rfl, hO, her⟩ := hrel
      have t2 := hO.t.c2
      by_cases hlt : j < lenF l
      · cases hq : (q == 0)
        · have her' : Hid (errT S x l = q) := by show _ = _; rw [her]; unfold thenC; rw [if_neg (by simpa using hq)]
          clear her
          go_wp2
          go_ret
          exact ⟨by rw [her'.out]; rfl, hO.low⟩
        · obtain ⟨b1, o1, rfl, hk1⟩ := HT.out.args.get (by omega)
          obtain ⟨z, a1, c1, l1, kd⟩ := hk1.kid (k := j) hlt
          have kd' := kd.below hO.low
          obtain ⟨B1, O1, s1⟩ := kd.split
          have hq0 : q = 0 := by simpa using hq
          rw [s1, errF] at her
          have HER : Hid (errT S x l = thenC (errT S z l1) (errF S (dropF (j + 1) l))) := by show _ = _; rw [her, hq0]; rfl
          have p0 := kd'.name; have p1 := kd'.sym; have p2 := kd'.list
          have hC := IH.out (nodesF l1) (by have := kd.less; omega) sa sn sc z l1 a1 c1 wr (Nat.le_refl _) (HS.out.below hO.low) kd'.at_
          have HO : Hid (One w x (some ⟨b1, o1, none⟩) (lenF l) c wr) := hO
          clear kd kd' hk1 her s1 hO
          go_wp2_with fail
          refine hC.mono ?_
          rintro e w3 ⟨rfl, hb⟩
          have HO2 : Hid (One w x (some ⟨b1, o1, none⟩) (lenF l) c w3) := HO.out.below hb
          clear hC hb p0 p1 p2 t2
          go_wp2
          go_roundw
          case rel => exact ⟨j + 1, _, by omega, rfl, by go_num, HO2.out, HER.out⟩
          case measure => simp [intOf]; omega
      · have e1 : j = lenF l := by omega
        have her' : Hid (errT S x l = q) := by
          show _ = _
          rw [her, e1, drop_end, errF]; unfold thenC
          split
          · rename_i h; exact h.symm
          · rfl
        clear her
        go_wp2
        go_ret
        exact ⟨by rw [her'.out]; rfl, hO.low⟩

end Go.Proofs.Ytlemkgdbefmeeaa
/- What Find answers: the program's and the document's. -/
namespace Go.Proofs.Ytlemkgdbefmeeaa
open Go.RowKit

def FindRet (l : List Sym) (nm : ByteArray) (e : Ending) : Prop := e = .returned (.tuple #[.int .i64 (findI l nm), .bool (findB l nm)])

set_option maxHeartbeats 400000 in
theorem rfind_any (a : Option Addr) (n cap : Nat) (l : List Sym) (nm : ByteArray) (w : World) (h : SigAt w a n l) :
    Calls Try.prog 47 #[.slice a n cap, .string nm] w fun e w' => FindRet l nm e ∧ w' = w := by
  obtain ⟨hl, hm, hcells, _⟩ := h
  unfold maxLen at hm
  have HL : Hid (n = l.length) := hl
  clear hl
  have HC : Hid (∀ i (h : i < l.length), ∃ b off, a = some ⟨b, off, none⟩ ∧ SymAt w b (off + i * 4) l[i]) := hcells
  clear hcells
  go_enter Try.func47, Try.ntmps47
  go_wp2
  go_loop [6] (fun i => ∃ k : Nat, k ≤ n ∧ i = .int .i64 k ∧ ∀ j (hj : j < l.length), j < k → sameB l[j].name nm = false) (fun i => n - (intOf i).toNat)
  case atStart => exact ⟨0, Nat.zero_le _, rfl, fun j _ h => absurd h (by omega)⟩
  case round =>
    obtain ⟨k, hk, rfl, hno⟩ := hrel
    have HN : Hid (∀ j (hj : j < l.length), j < k → sameB l[j].name nm = false) := hno
    clear hno
    by_cases hlt : k < n
    · have hlk : k < l.length := by have := HL.out; omega
      obtain ⟨b, off, rfl, hw⟩ := HC.out k hlk
      have c0 := hw.name
      clear hw
      cases ht : (l[k].name.toList == nm.toList)
      · go_wp2
        go_round
        case rel => exact ⟨k + 1, by omega, by go_num, fun j hj h => by
          rcases Nat.lt_succ_iff_lt_or_eq.1 h with h | rfl
          · exact HN.out j hj h
          · exact ht⟩
        case measure => simp [intOf]; omega
      · have hf : Hid (findL l nm = some k) := find_hit hlk ht HN.out
        go_wp2
        go_ret2
        exact ⟨by unfold FindRet; rw [findI_some hf.out, findB_some hf.out]; rfl, rfl⟩
    · have hf : Hid (findL l nm = none) := find_miss fun j hj => HN.out j hj (by have := HL.out; omega)
      go_wp2
      go_ret2
      exact ⟨by unfold FindRet; rw [findI_none hf.out, findB_none hf.out]; rfl, rfl⟩
end Go.Proofs.Ytlemkgdbefmeeaa
/- What Unit answers: the program's and the document's. -/
namespace Go.Proofs.Ytlemkgdbefmeeaa
open Go.RowKit

def unitAt (l : List Sym) (z : Int) : Option Nat := if h : 0 ≤ z ∧ z.toNat < l.length then (if (l[z.toNat]'h.2).kind = 3 then findL l (l[z.toNat]'h.2).unit else none) else none
def unitI (l : List Sym) (z : Int) : Int := match unitAt l z with | some i => i | none => 0
def unitOk (l : List Sym) (z : Int) : Bool := (unitAt l z).isSome
def UnitRet (l : List Sym) (z : Int) (e : Ending) : Prop := e = .returned (.tuple #[.int .i64 (unitI l z), .bool (unitOk l z)])

theorem unit_out {l : List Sym} {z : Int} (h : ¬ (0 ≤ z ∧ z.toNat < l.length)) : unitAt l z = none := by simp [unitAt, h]
theorem unit_not {l : List Sym} {k : Nat} (hk : k < l.length) (h : l[k].kind ≠ 3) : unitAt l k = none := by
  unfold unitAt
  rw [dif_pos ⟨by omega, by simpa using hk⟩, if_neg (by simpa using h)]
theorem unit_is {l : List Sym} {k : Nat} (hk : k < l.length) (h : l[k].kind = 3) : unitAt l k = findL l l[k].unit := by
  unfold unitAt
  rw [dif_pos ⟨by omega, by simpa using hk⟩, if_pos (by simpa using h)]
  simp
theorem unitI_none {l : List Sym} {z : Int} (h : unitAt l z = none) : unitI l z = 0 := by simp [unitI, h]
theorem unitOk_none {l : List Sym} {z : Int} (h : unitAt l z = none) : unitOk l z = false := by simp [unitOk, h]
theorem unitI_is {l : List Sym} {z : Int} {nm : ByteArray} (h : unitAt l z = findL l nm) : unitI l z = findI l nm := by unfold unitI findI; rw [h] <;> rfl
theorem unitOk_is {l : List Sym} {z : Int} {nm : ByteArray} (h : unitAt l z = findL l nm) : unitOk l z = findB l nm := by simp [unitOk, findB, h]

set_option maxHeartbeats 400000 in
theorem runit_any (a : Option Addr) (n cap : Nat) (l : List Sym) (z : Int) (w : World) (h : SigAt w a n l) :
    Calls Try.prog 28 #[.slice a n cap, .int .i64 z] w fun e w' => UnitRet l z e ∧ w' = w := by
  have HS : Hid (SigAt w a n l) := h
  have hm := h.small
  unfold maxLen at hm
  clear h
  by_cases h0 : z < 0
  · have hu : Hid (unitAt l z = none) := unit_out (by omega)
    go_enter Try.func28, Try.ntmps28
    go_wp2
    go_ret2
    exact ⟨by unfold UnitRet; rw [unitI_none hu.out, unitOk_none hu.out]; rfl, rfl⟩
  · obtain ⟨k, rfl⟩ := Int.eq_ofNat_of_zero_le (by omega : 0 ≤ z)
    by_cases h1 : (n : Int) ≤ k
    · have hu : Hid (unitAt l k = none) := unit_out (by have := HS.out.len; omega)
      go_enter Try.func28, Try.ntmps28
      go_wp2
      go_ret2
      exact ⟨by unfold UnitRet; rw [unitI_none hu.out, unitOk_none hu.out]; rfl, rfl⟩
    · have hlk : k < l.length := by have := HS.out.len; omega
      obtain ⟨b, off, rfl, hw⟩ := HS.out.cells k hlk
      have c1 := hw.kind
      have c3 := hw.unit
      clear hw
      cases hk : (l[k].kind != 3)
      · have hu : Hid (unitAt l k = findL l l[k].unit) := unit_is hlk (by simpa using hk)
        go_enter Try.func28, Try.ntmps28
        go_wp2_with fail
        refine (rfind_any _ _ _ l _ _ HS.out).mono ?_
        rintro e w1 ⟨he, hb⟩
        unfold FindRet at he
        subst he
        rw [hb]
        go_wp2
        go_ret2
        exact ⟨by unfold UnitRet; rw [unitI_is hu.out, unitOk_is hu.out]; rfl, rfl⟩
      · have hu : Hid (unitAt l k = none) := unit_not hlk (by simpa using hk)
        go_enter Try.func28, Try.ntmps28
        go_wp2
        go_ret2
        exact ⟨by unfold UnitRet; rw [unitI_none hu.out, unitOk_none hu.out]; rfl, rfl⟩
end Go.Proofs.Ytlemkgdbefmeeaa
/- What rightArity, rightUnit and checkSymbol answer. -/
namespace Go.Proofs.Ytlemkgdbefmeeaa
open Go.RowKit

def unitB2 (l : List Sym) (x : Sym) : Bool := if x.kind = 3 then l.any (fun y => isUnit x y && emptyB y.unit) else emptyB x.unit
theorem unitB2_not {l : List Sym} {x : Sym} (hk : x.kind ≠ 3) : unitB2 l x = emptyB x.unit := by simp [unitB2, hk]
theorem unitB2_hit {l : List Sym} {x : Sym} (hk : x.kind = 3) {k : Nat} (hlk : k < l.length) (h : (isUnit x l[k] && emptyB l[k].unit) = true) : unitB2 l x = true := by
  unfold unitB2
  rw [if_pos hk, List.any_eq_true]
  exact ⟨l[k], List.getElem_mem hlk, h⟩
theorem unitB2_miss {l : List Sym} {x : Sym} (hk : x.kind = 3) (h : ∀ j (hj : j < l.length), (isUnit x l[j] && emptyB l[j].unit) = false) : unitB2 l x = false := by
  unfold unitB2
  rw [if_pos hk, List.any_eq_false]
  intro y hy
  obtain ⟨j, hj, rfl⟩ := List.getElem_of_mem hy
  rw [h j hj]; simp

end Go.Proofs.Ytlemkgdbefmeeaa
/- What Check answers, plainly: the first symbol that may not be. -/
namespace Go.Proofs.Ytlemkgdbefmeeaa
open Go.RowKit

def errAt (l : List Sym) (i : Nat) : Int := if h : i < l.length then symErr (l.take i) l[i] else 0
def firstErr (l : List Sym) : Option Nat := (List.range l.length).find? fun i => errAt l i != 0
def checkE (l : List Sym) : Int := if 16 < l.length then 15 else match firstErr l with | some i => errAt l i | none => 0
def checkP (l : List Sym) : Int := if 16 < l.length then 0 else match firstErr l with | some i => (i : Int) | none => 0

theorem firstErr_hit {l : List Sym} {k : Nat} (hk : k < l.length) (h : errAt l k ≠ 0) (hno : ∀ j, j < k → errAt l j = 0) : firstErr l = some k := by
  unfold firstErr
  rw [List.find?_range_eq_some]
  refine ⟨by simpa using h, by simpa using hk, fun j hj => by simp [hno j hj]⟩
theorem firstErr_miss {l : List Sym} (hno : ∀ j, j < l.length → errAt l j = 0) : firstErr l = none := by
  unfold firstErr
  rw [List.find?_eq_none]
  intro j hj
  simp only [List.mem_range] at hj
  simp [hno j hj]
theorem checkE_hit {l : List Sym} {k : Nat} (h16 : ¬ 16 < l.length) (h : firstErr l = some k) : checkE l = errAt l k := by simp [checkE, h16, h]
theorem checkP_hit {l : List Sym} {k : Nat} (h16 : ¬ 16 < l.length) (h : firstErr l = some k) : checkP l = k := by simp [checkP, h16, h]
theorem checkE_miss {l : List Sym} (h16 : ¬ 16 < l.length) (h : firstErr l = none) : checkE l = 0 := by simp [checkE, h16, h]
theorem checkP_miss {l : List Sym} (h16 : ¬ 16 < l.length) (h : firstErr l = none) : checkP l = 0 := by simp [checkP, h16, h]

theorem symErr_unit {l : List Sym} {x : Sym} (h : symErr l x = 0) : unitB l x = true := by
  unfold symErr at h
  split at h
  · omega
  · split at h
    · omega
    · split at h
      · omega
      · split at h
        · omega
        · rename_i hu; simpa using hu
theorem unitB2_eq {l : List Sym} {x : Sym} (h : ∀ y ∈ l, y.kind = 1 → emptyB y.unit = true) : unitB2 l x = unitB l x := by
  unfold unitB2 unitB
  split
  · rw [Bool.eq_iff_iff, List.any_eq_true, List.any_eq_true]
    constructor
    · rintro ⟨y, hy, h1⟩; exact ⟨y, hy, by simp at h1; exact h1.1⟩
    · rintro ⟨y, hy, h1⟩
      refine ⟨y, hy, ?_⟩
      rw [h1, h y hy (by simp [isUnit] at h1; exact h1.1.1)]; rfl
  · rfl
theorem free_empty {l : List Sym} {k : Nat} (hk : k ≤ l.length) (hno : ∀ j, j < k → errAt l j = 0) : ∀ y ∈ l.take k, y.kind = 1 → emptyB y.unit = true := by
  intro y hy h1
  obtain ⟨j, hj, rfl⟩ := List.getElem_of_mem hy
  have hjk : j < k := by simp at hj; omega
  have hjl : j < l.length := by omega
  have h0 := hno j hjk
  unfold errAt at h0
  rw [dif_pos hjl] at h0
  have hu := symErr_unit h0
  have e : (l.take k)[j] = l[j] := by simp
  rw [e] at h1 ⊢
  unfold unitB at hu
  rw [if_neg (by omega)] at hu
  exact hu
theorem SigAt.take {w : World} {a : Option Addr} {n : Nat} {l : List Sym} (h : SigAt w a n l) (k : Nat) (hk : k ≤ n) : SigAt w a k (l.take k) :=
  ⟨by have := h.len; simp; omega, by have := h.small; omega, fun i hi => by
    have hi' : i < l.length := by simp at hi; omega
    obtain ⟨b, off, ha, hc⟩ := h.cells i hi'
    exact ⟨b, off, ha, by simpa using hc⟩, fun x hx => h.fits x (List.mem_of_mem_take hx)⟩
end Go.Proofs.Ytlemkgdbefmeeaa
