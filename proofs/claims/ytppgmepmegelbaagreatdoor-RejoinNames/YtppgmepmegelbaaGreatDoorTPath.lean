/- What stands at a path, and what another term put there makes; where it lies in memory. -/
import Derived.Test.YtppgmepmegelbaaGreatDoorTSep
import Derived.Test.YtppgmepmegelbaaGreatDoorTRClone
namespace Go.Proofs.YtppgmepmegelbaaGreatDoor
open Go.RowKit Go.Deep

abbrev Tn := (ByteArray × Int) × Fo
def kidT (i : Int) (l : Fo) : Option Tn := if 0 ≤ i ∧ i < lenF l then (kidsL l)[i.toNat]? else none
def setF : Nat → Fo → Tn → Fo
  | _, .nil, _ => .nil
  | 0, .node b o _ _ r, t => .node b o t.1 t.2 r
  | n + 1, .node b o x l r, t => .node b o x l (setF n r t)
def subT : List Int → Tn → Option Tn
  | [], t => some t
  | i :: p, t => match kidT i t.2 with
    | none => none
    | some k => subT p k
def putT (u : Tn) : List Int → Tn → Option Tn
  | [], _ => some u
  | i :: p, t => match kidT i t.2 with
    | none => none
    | some k => match putT u p k with
      | none => none
      | some k' => some (t.1, setF i.toNat t.2 k')
def noT : Tn := ((⟨#[]⟩, 0), .nil)
def ansT (o : Option Tn) : Tn := o.getD noT
def ansE (o : Option Tn) : Int := match o with | none => 35 | some _ => 0

theorem len_set : ∀ (n : Nat) (F : Fo) (t : Tn), lenF (setF n F t) = lenF F
  | n, .nil, _ => by cases n <;> rfl
  | 0, .node _ _ _ _ _, _ => rfl
  | n + 1, .node _ _ _ _ r, t => by simp only [setF, lenF]; rw [len_set n r t]
theorem kids_split {F : Fo} {k : Nat} {x : ByteArray × Int} {l r : Fo} {B O : Nat} (h : dropF k F = .node B O x l r) : (kidsL F)[k]? = some (x, l) := by
  have h1 := kids_drop k F
  rw [h, kidsL] at h1
  have := congrArg (·[0]?) h1
  simpa using this.symm
theorem kidT_bad {i : Int} {l : Fo} (h : ¬ (0 ≤ i ∧ i < lenF l)) : kidT i l = none := if_neg h
theorem kidT_is {k : Nat} {l : Fo} {x : ByteArray × Int} {m : Fo} (hlt : k < lenF l) (h : (kidsL l)[k]? = some (x, m)) : kidT (k : Int) l = some (x, m) := by
  unfold kidT
  rw [if_pos (by omega), Int.toNat_natCast]
  exact h

/-- The path's numbers lie in this slice. -/
structure IntsAt (w : World) (a : Option Addr) (n : Nat) (ps : List Int) : Prop where
  len : n = ps.length
  cells : ∀ i (h : i < ps.length), ∃ b off, a = some ⟨b, off, none⟩ ∧ w.cell? ⟨b, off + i, none⟩ = some (.int .i64 ps[i])
theorem IntsAt.below {w w' : World} {a : Option Addr} {n : Nat} {ps : List Int} (h : IntsAt w a n ps) (hb : Below w.heap.size w w') : IntsAt w' a n ps :=
  ⟨h.len, fun i hi => by obtain ⟨b, off, ha, hc⟩ := h.cells i hi; exact ⟨b, off, ha, below_cell hb _ _ hc⟩⟩

/-- A term's three cells. -/
structure Node (w : World) (b o : Nat) (x : ByteArray × Int) (a : Option Addr) (c : Nat) (l : Fo) : Prop where
  name : w.cell? ⟨b, o, none⟩ = some (.string x.1)
  sym : w.cell? ⟨b, o + 1, none⟩ = some (.int .i64 x.2)
  list : w.cell? ⟨b, o + 2, none⟩ = some (.slice a (lenF l) c)
/-- From the term whose cells lie here the path leads to the one whose cells lie there. -/
def Leads (w : World) : List Int → Nat → Nat → Tn → Nat → Nat → Prop
  | [], b, o, _, b', o' => b' = b ∧ o' = o
  | i :: p, b, o, t, b', o' => ∃ (k g q c : Nat) (u : Tn), i = k ∧ k < lenF t.2 ∧ (kidsL t.2)[k]? = some u ∧ w.cell? ⟨b, o + 2, none⟩ = some (.slice (some ⟨g, q, none⟩) (lenF t.2) c) ∧ Leads w p g (q + k * 3) u b' o'

/-- Where another term is put in place of one of a list. -/
theorem SepKids.replace {W : World} : ∀ {F : Fo} {A : Nat → Prop} {b o : Nat} (i : Nat), SepKids W F A b o → i < lenF F →
    ∃ (t : Tn) (a : Option Addr) (c : Nat) (A1 : Nat → Prop), (∀ k, A1 k → A k) ∧ (kidsL F)[i]? = some t ∧ Node W b (o + i * 3) t.1 a c t.2 ∧ SepTm W A1 t.1 a c t.2 ∧
      ∀ (W' : World) (t' : Tn) (a' : Option Addr) (c' : Nat) (A3 : Nat → Prop), (∀ k, A3 k → ¬ A k) → (∀ k, A k → ¬ A1 k → k < W.heap.size → W'.heap[k]? = W.heap[k]?) →
        (∀ j v, o ≤ j → (j < o + i * 3 ∨ o + i * 3 + 3 ≤ j) → W.cell? ⟨b, j, none⟩ = some v → W'.cell? ⟨b, j, none⟩ = some v) → Node W' b (o + i * 3) t'.1 a' c' t'.2 → SepTm W' (fun k => A1 k ∨ A3 k) t'.1 a' c' t'.2 →
        SepKids W' (setF i F t') (fun k => A k ∨ A3 k) b o
  | .nil, _, _, _, i, _, hi => absurd hi (by simp [lenF])
  | .node _ _ x l r, A, b, o, 0, ⟨A1, A2, h1, h2, ⟨a, c, c0, c1, c2, hs, hl⟩, hr⟩, _ => by
    refine ⟨(x, l), a, c, A1, h1, rfl, ⟨by simpa using c0, by simpa using c1, by simpa using c2⟩, ⟨hs, hl⟩, ?_⟩
    intro W' t' a' c' A3 hd hk hc hn hS
    refine ⟨fun k => A1 k ∨ A3 k, A2, fun k hk => hk.elim (fun h => .inl (h1 k h)) .inr, fun k hk => ⟨.inl (h2 k hk).1, fun h => h.elim (h2 k hk).2 (fun h3 => hd k h3 (h2 k hk).1)⟩, ⟨a', c', by simpa using hn.name, by simpa using hn.sym, by simpa using hn.list, hS.sizes, hS.list⟩, ?_⟩
    exact hr.keep (fun k hk' hlt => hk k (h2 k hk').1 (h2 k hk').2 hlt) (fun j v hj hv => hc j v (by omega) (.inr (by omega)) hv)
  | .node _ _ x l r, A, b, o, i + 1, ⟨A1, A2, h1, h2, ⟨a, c, c0, c1, c2, hs, hl⟩, hr⟩, hi => by
    obtain ⟨t, ta, tc, B1, hB, ht, hn, hS, hrep⟩ := SepKids.replace i hr (by simp only [lenF] at hi; omega)
    have e : o + 3 + i * 3 = o + (i + 1) * 3 := by omega
    rw [e] at hn
    refine ⟨t, ta, tc, B1, fun k hk => (h2 k (hB k hk)).1, by simpa [kidsL] using ht, hn, hS, ?_⟩
    intro W' t' a' c' A3 hd hk hc hn' hS'
    refine ⟨A1, fun k => A2 k ∨ A3 k, fun k hk => .inl (h1 k hk), fun k hk => hk.elim (fun h => ⟨.inl (h2 k h).1, (h2 k h).2⟩) (fun h => ⟨.inr h, fun h' => hd k h (h1 k h')⟩), ⟨a, c, hc _ _ (Nat.le_refl _) (.inl (by omega)) c0, hc _ _ (by omega) (.inl (by omega)) c1, hc _ _ (by omega) (.inl (by omega)) c2, hs, ?_⟩, ?_⟩
    · rcases hl with h | ⟨g, cur, ha, hg, hcur, hkk⟩
      · exact .inl h
      · have same : ∀ k, A1 k → k < W.heap.size → W'.heap[k]? = W.heap[k]? := fun k h hlt => hk k (h1 k h) (fun hb => (h2 k (hB k hb)).2 h) hlt
        have hgg := same g hg (Array.getElem?_eq_some_iff.1 hcur).1
        exact .inr ⟨g, cur, ha, hg, hgg.trans hcur, hkk.keep (fun k h hlt => same k h.1 hlt) (fun j v _ hv => (World.cell?_of_block hgg).trans hv)⟩
    · rw [← e] at hn'
      exact hrep W' t' a' c' A3 (fun k h h' => hd k h (h2 k h').1) (fun k h h' hlt => hk k (h2 k h).1 h' hlt) (fun j v hj hor hv => hc j v (by omega) (by omega) hv) hn' hS'
theorem OwnKids.kids_in {W W' : World} {P Q : Nat → Prop} {b : Nat} (hPQ : ∀ k, P k → Q k) (hk : ∀ k, P k → k < W.heap.size → W'.heap[k]? = W.heap[k]?) : ∀ {F : Fo} {o : Nat}, OwnKids false P W F b o → (∀ j v, o ≤ j → W.cell? ⟨b, j, none⟩ = some v → W'.cell? ⟨b, j, none⟩ = some v) → OwnKids false Q W' F b o
  | .nil, _, _, _ => trivial
  | .node _ _ _ l r, o, ⟨⟨a, c, h0, h1, h2, hs, hl⟩, hr⟩, hc => ⟨⟨a, c, hc _ _ (Nat.le_refl _) h0, hc _ _ (by omega) h1, hc _ _ (by omega) h2, hs, by
      rcases hl with h | ⟨g, cur, ha, hg, hcur, hm, hkk⟩
      · exact .inl h
      · have hgg := hk g hg (Array.getElem?_eq_some_iff.1 hcur).1
        exact .inr ⟨g, cur, ha, hPQ g hg, hgg.trans hcur, (fun e => by cases e), (hkk.keep hk hgg).mono (fun k _ h => hPQ k h)⟩⟩, OwnKids.kids_in hPQ hk hr (fun j v hj hv => hc j v (by omega) hv)⟩
/-- The same where nothing is spoilt afterwards. -/
theorem OwnKids.replace {W W' : World} {P Q : Nat → Prop} {b : Nat} (hPQ : ∀ k, P k → Q k) (hk : ∀ k, P k → k < W.heap.size → W'.heap[k]? = W.heap[k]?) {t' : Tn} {a' : Option Addr} {c' : Nat} (hT : OwnTm false Q W' t'.1 a' c' t'.2) : ∀ {F : Fo} {o : Nat} (i : Nat), OwnKids false P W F b o → i < lenF F →
    (∀ j v, o ≤ j → (j < o + i * 3 ∨ o + i * 3 + 3 ≤ j) → W.cell? ⟨b, j, none⟩ = some v → W'.cell? ⟨b, j, none⟩ = some v) → Node W' b (o + i * 3) t'.1 a' c' t'.2 → OwnKids false Q W' (setF i F t') b o
  | .nil, _, i, _, hi, _, _ => absurd hi (by simp [lenF])
  | .node _ _ x l r, o, 0, ⟨_, hr⟩, _, hc, hn => by
    refine ⟨⟨a', c', by simpa using hn.name, by simpa using hn.sym, by simpa using hn.list, hT.sizes, hT.list⟩, ?_⟩
    exact OwnKids.kids_in hPQ hk hr (fun j v hj hv => hc j v (by omega) (.inr (by omega)) hv)
  | .node _ _ x l r, o, i + 1, ⟨⟨a, c, c0, c1, c2, hs, hl⟩, hr⟩, hi, hc, hn => by
    have e : o + 3 + i * 3 = o + (i + 1) * 3 := by omega
    refine ⟨⟨a, c, hc _ _ (Nat.le_refl _) (.inl (by omega)) c0, hc _ _ (by omega) (.inl (by omega)) c1, hc _ _ (by omega) (.inl (by omega)) c2, hs, ?_⟩, OwnKids.replace hPQ hk hT i hr (by simp only [lenF] at hi; omega) (fun j v hj hor hv => hc j v (by omega) (by omega) hv) (by rw [e]; exact hn)⟩
    rcases hl with h | ⟨g, cur, ha, hg, hcur, hm, hkk⟩
    · exact .inl h
    · have hgg := hk g hg (Array.getElem?_eq_some_iff.1 hcur).1
      exact .inr ⟨g, cur, ha, hPQ g hg, hgg.trans hcur, (fun e => by cases e), (hkk.keep hk hgg).mono (fun k _ h => hPQ k h)⟩

/-- What is stored where a path leads makes the term that the path says. -/
theorem put_stored {W W2 : World} {u : Tn} {ua : Option Addr} {uc : Nat} {A3 : Nat → Prop} : ∀ (ps : List Int) {A : Nat → Prop} {b o : Nat} {t : Tn} {a : Option Addr} {c b' o' : Nat},
    SepTm W A t.1 a c t.2 → Node W b o t.1 a c t.2 → ¬ A b → (∃ cur, W.heap[b]? = some (Obj.cells cur 28 (0, 0))) → Leads W ps b o t b' o' →
    (A b' ∨ (b' = b ∧ o' = o)) ∧ (∃ cur, W.heap[b']? = some (Obj.cells cur 28 (0, 0))) ∧ ((∀ k, (A k ∨ k = b) → k < W.heap.size → k ≠ b' → W2.heap[k]? = W.heap[k]?) → (∀ j v, (j < o' ∨ o' + 3 ≤ j) → W.cell? ⟨b', j, none⟩ = some v → W2.cell? ⟨b', j, none⟩ = some v) →
      (∃ cur, W2.heap[b']? = some (Obj.cells cur 28 (0, 0))) → Node W2 b' o' u.1 ua uc u.2 → SepTm W2 A3 u.1 ua uc u.2 → (∀ k, A3 k → ¬ A k) →
      ∃ t' a' c', putT u ps t = some t' ∧ Node W2 b o t'.1 a' c' t'.2 ∧ SepTm W2 (fun k => A k ∨ A3 k) t'.1 a' c' t'.2)
  | [], A, b, o, t, a, c, b', o', hS, hN, hb, hrow, ⟨h1, h2⟩ => by
    subst h1 h2
    exact ⟨.inr ⟨rfl, rfl⟩, hrow, fun _ _ _ hn hs _ => ⟨u, ua, uc, rfl, hn, hs.mono (fun k hk => .inr hk)⟩⟩
  | i :: ps, A, b, o, t, a, c, b', o', hS, hN, hb, _, ⟨k, g, q, c2, u1, hi, hk, hu, hcell, hL⟩ => by
    have hcell' := hN.list
    rw [hcell] at hcell'
    simp only [Option.some.injEq, Value.slice.injEq, true_and] at hcell'
    obtain ⟨rfl, rfl⟩ := hcell'
    rcases hS.list with hnil | ⟨g', cur, hg', hAg, hcur, hkids⟩
    · rw [hnil] at hk; simp [lenF] at hk
    · cases hg'
      obtain ⟨t1, a1, c1, A1, hA1, ht1, hn1, hs1, hrep⟩ := hkids.replace k hk
      rw [hu] at ht1
      cases ht1
      have hA1g : ¬ A1 g := fun h => (hA1 g h).2 rfl
      obtain ⟨hwhere, hrow', hgo⟩ := put_stored ps hs1 hn1 hA1g ⟨cur, hcur⟩ hL
      have hAb : A b' := hwhere.elim (fun h => (hA1 _ h).1) (fun h => by rw [h.1]; exact hAg)
      refine ⟨.inl hAb, hrow', fun hW hC hblk hn hs hd => ?_⟩
      have hb'b : b ≠ b' := fun e => hb (e ▸ hAb)
      have hblt : b < W.heap.size := World.block_lt_of_cell? W _ hN.name
      have hbb := hW b (.inr rfl) hblt hb'b
      obtain ⟨t1', a1', c1', hp, hn1', hs1'⟩ := hgo (fun k' hk' hlt hne => hW k' (.inl (hk'.elim (fun h => (hA1 _ h).1) (fun h => by rw [h]; exact hAg))) hlt hne) hC hblk hn hs (fun k' h h' => hd k' h (hA1 k' h').1)
      have hsame : ∀ k', (A k' ∧ k' ≠ g) → ¬ A1 k' → k' < W.heap.size → W2.heap[k']? = W.heap[k']? := fun k' h h' hlt => hW k' (.inl h.1) hlt (fun e => by
        rcases hwhere with h2 | h2
        · exact h' (e ▸ h2)
        · exact h.2 (e.trans h2.1))
      have hcells : ∀ j v, 0 ≤ j → (j < 0 + k * 3 ∨ 0 + k * 3 + 3 ≤ j) → W.cell? ⟨g, j, none⟩ = some v → W2.cell? ⟨g, j, none⟩ = some v := fun j v _ hj hv => by
        by_cases e : g = b'
        · rcases hwhere with h2 | h2
          · rw [← e] at h2; exact absurd h2 hA1g
          · have := hC j v (by rw [h2.2]; exact hj)
            rw [← e] at this
            exact this hv
        · exact (World.cell?_of_block (hW g (.inl hAg) (Array.getElem?_eq_some_iff.1 hcur).1 e)).trans hv
      have hnew := hrep W2 t1' a1' c1' A3 (fun k' h h' => hd k' h h'.1) hsame hcells hn1' hs1'
      have hgb : ∃ cur, W2.heap[g]? = some (Obj.cells cur 28 (0, 0)) := by
        by_cases e : g = b'
        · rw [e]; exact hblk
        · exact ⟨cur, (hW g (.inl hAg) (Array.getElem?_eq_some_iff.1 hcur).1 e).trans hcur⟩
      obtain ⟨cur', hcur'⟩ := hgb
      refine ⟨(t.1, setF k t.2 t1'), some ⟨g, 0, none⟩, c2, ?_, ⟨(World.cell?_of_block hbb).trans hN.name, (World.cell?_of_block hbb).trans hN.sym, ?_⟩, ?_, .inr ⟨g, cur', rfl, .inl hAg, hcur', hnew.mono (fun k' h => ?_)⟩⟩
      · rw [putT, hi, kidT_is hk hu]
        simp only [hp, Int.toNat_natCast]
      · simp only [len_set]; exact (World.cell?_of_block hbb).trans hN.list
      · simp only [len_set]; exact hS.sizes
      · rcases h with h | h
        · exact ⟨.inl h.1, h.2⟩
        · exact ⟨.inr h, fun e => hd k' h (e ▸ hAg)⟩
end Go.Proofs.YtppgmepmegelbaaGreatDoor
