/- Texts laid together: TVPlain, TRNames, TRVars, LPl, SIsP, PParts, PJoin, RTwo, RApp, RAppB, PHead, SHead, SRIs, LBase. -/
import Derived.Lib.SlicesCompact
import Derived.Sort.EncStr
import Derived.Laws.AppendOwnNone
import Derived.Deep.RegionHeld3
import Derived.Deep.DeepCutAuto
import Derived.Test.YtgidgmgpgfonnaaGreatM8
/- Names rising, each once: there is but one such list of the same names. -/
namespace Go.Proofs.YtgidgmgpgfonnaaGreat
open Go.RowKit Go.Deep

abbrev Nm := List UInt8
theorem Tryz.info9 : (Tryz.prog.info? 9).map (fun i => (i.zero, i.size, i.bytes)) = some (some (.string ⟨#[]⟩), 1, 16) := by kernel_rfl
def sortL (l : List (List UInt8)) : List (List UInt8) := l.mergeSort fun x y => decide (x ≤ y)
def LtN (a b : Nm) : Prop := Lib.compareBytes a b = -1
theorem nm_range : ∀ a b : Nm, Lib.compareBytes a b = -1 ∨ Lib.compareBytes a b = 0 ∨ Lib.compareBytes a b = 1
  | [], [] => by simp [Lib.compareBytes]
  | [], _ :: _ => by simp [Lib.compareBytes]
  | _ :: _, [] => by simp [Lib.compareBytes]
  | a :: u, b :: v => by
    have := nm_range u v
    rw [Lib.compareBytes]
    split
    · omega
    · split <;> omega
theorem ltN_irrefl (a : Nm) : ¬ LtN a a := fun h => by have := bytes_refl a; unfold LtN at h; omega
theorem ltN_trans {a b c : Nm} (h : LtN a b) (k : LtN b c) : LtN a c := by
  unfold LtN at *
  have := (bytes_cons a b c).lt (by omega) (by omega)
  have := nm_range a c
  omega
theorem ltN_asymm {a b : Nm} (h : LtN a b) : ¬ LtN b a := fun k => ltN_irrefl a (ltN_trans h k)
theorem ltN_total {a b : Nm} (h1 : ¬ LtN a b) (h2 : a ≠ b) : LtN b a := by
  unfold LtN at *
  have := nm_range a b
  have := bytes_anti a b
  have : Lib.compareBytes a b ≠ 0 := fun h => h2 (bytes_zero h)
  omega
/-- Strictly rising. -/
def SS (l : List Nm) : Prop := l.Pairwise LtN
theorem ss_unique : ∀ (l m : List Nm), SS l → SS m → (∀ x, x ∈ l ↔ x ∈ m) → l = m
  | [], [], _, _, _ => rfl
  | [], b :: m, _, _, h => absurd ((h b).2 (by simp)) (by simp)
  | a :: l, [], _, _, h => absurd ((h a).1 (by simp)) (by simp)
  | a :: l, b :: m, hl, hm, h => by
    obtain ⟨ha, hl'⟩ := List.pairwise_cons.1 hl
    obtain ⟨hb, hm'⟩ := List.pairwise_cons.1 hm
    have e : a = b := by
      rcases List.mem_cons.1 ((h a).1 (by simp)) with e | e
      · exact e
      · rcases List.mem_cons.1 ((h b).2 (by simp)) with e' | e'
        · exact e'.symm
        · exact absurd (hb a e) (ltN_asymm (ha b e'))
    subst e
    rw [ss_unique l m hl' hm' (fun x => ?_)]
    constructor
    · intro hx
      rcases List.mem_cons.1 ((h x).1 (by simp [hx])) with e | e
      · subst e; exact absurd (ha x hx) (ltN_irrefl x)
      · exact e
    · intro hx
      rcases List.mem_cons.1 ((h x).2 (by simp [hx])) with e | e
      · subst e; exact absurd (hb x hx) (ltN_irrefl x)
      · exact e

theorem compact_is (d : Array Nm) (hs : ∀ i j, i < j → j < d.size → ¬ LtN d[j]! d[i]!) : ∀ m, m ≤ d.size → SS (Lib.compactUpTo d m) ∧ (∀ x, x ∈ Lib.compactUpTo d m ↔ ∃ j, j < m ∧ d[j]! = x)
  | 0, _ => ⟨by simp [Lib.compactUpTo, SS], by simp [Lib.compactUpTo]⟩
  | m + 1, hm => by
    obtain ⟨h1, h2⟩ := compact_is d hs m (by omega)
    rw [Lib.compactUpTo_succ]
    cases hk : Lib.keeps d m
    · simp only [Bool.false_eq_true, if_false, List.append_nil]
      refine ⟨h1, fun x => (h2 x).trans ⟨fun ⟨j, hj, e⟩ => ⟨j, by omega, e⟩, fun ⟨j, hj, e⟩ => ?_⟩⟩
      rcases Nat.lt_succ_iff_lt_or_eq.1 hj with hj | rfl
      · exact ⟨j, hj, e⟩
      · unfold Lib.keeps at hk
        simp at hk
        exact ⟨j - 1, by omega, by rw [← e]; exact hk.2.symm⟩
    · simp only [if_true]
      constructor
      · refine List.pairwise_append.2 ⟨h1, by simp, fun a ha b hb => ?_⟩
        simp at hb
        subst hb
        obtain ⟨j, hj, e⟩ := (h2 a).1 ha
        subst e
        have hne : d[m]! ≠ d[m - 1]! := by
          unfold Lib.keeps at hk
          simp at hk
          rcases hk with hk | hk
          · omega
          · exact hk
        have hlast : LtN d[m - 1]! d[m]! := ltN_total (hs (m - 1) m (by omega) (by omega)) hne
        by_cases hj1 : j = m - 1
        · subst hj1; exact hlast
        · have := hs j (m - 1) (by omega) (by omega)
          by_cases he : d[j]! = d[m - 1]!
          · rw [he]; exact hlast
          · exact ltN_trans (ltN_total this (fun e => he e.symm)) hlast
      · intro x
        rw [List.mem_append, h2 x]
        simp only [List.mem_singleton]
        constructor
        · rintro (⟨j, hj, e⟩ | e)
          · exact ⟨j, by omega, e⟩
          · exact ⟨m, by omega, e.symm⟩
        · rintro ⟨j, hj, e⟩
          rcases Nat.lt_succ_iff_lt_or_eq.1 hj with hj | rfl
          · exact .inl ⟨j, hj, e⟩
          · exact .inr e.symm
theorem sort_pairwise (l : List Nm) : (sortL l).Pairwise (fun a b => ¬ LtN b a) := by
  have h := List.pairwise_mergeSort (le := fun x y : Nm => decide (x ≤ y)) (fun a b c hab hbc => ?_) (fun a b => ?_) l
  · refine h.imp fun {a b} hab => ?_
    have hab' : ¬ b < a := by simpa using hab
    exact fun h => hab' ((lt_bytes b a).2 h)
  · have h1 : ¬ b < a := by simpa using hab
    have h2 : ¬ c < b := by simpa using hbc
    have : ¬ c < a := fun h3 => by
      have k3 := (lt_bytes c a).1 h3
      have k1 : ¬ LtN b a := fun h => h1 ((lt_bytes b a).2 h)
      have k2 : ¬ LtN c b := fun h => h2 ((lt_bytes c b).2 h)
      by_cases e : a = b
      · subst e; exact k2 k3
      · exact k2 (ltN_trans k3 (ltN_total k1 (fun e' => e e'.symm)))
    simpa using this
  · by_cases h1 : a < b
    · have : ¬ b < a := fun h2 => ltN_asymm ((lt_bytes a b).1 h1) ((lt_bytes b a).1 h2)
      have : decide (a ≤ b) = true := by simpa using this
      rw [this, Bool.true_or]
    · have : decide (b ≤ a) = true := by simpa using h1
      rw [this, Bool.or_true]
theorem vars_ss (ss : List Nm) : SS (Lib.compact (sortL ss)) ∧ ∀ x, x ∈ Lib.compact (sortL ss) ↔ x ∈ ss := by
  have hs : ∀ i j, i < j → j < (sortL ss).toArray.size → ¬ LtN (sortL ss).toArray[j]! (sortL ss).toArray[i]! := by
    intro i j hij hj
    have hj' : j < (sortL ss).length := by simpa using hj
    have := List.pairwise_iff_getElem.1 (sort_pairwise ss) i j (by omega) hj' hij
    simpa [getElem!_pos, hj', show i < (sortL ss).length by omega] using this
  obtain ⟨h1, h2⟩ := compact_is (sortL ss).toArray hs (sortL ss).length (by simp)
  refine ⟨h1, fun x => ?_⟩
  unfold Lib.compact
  rw [h2 x]
  have hm : x ∈ ss ↔ x ∈ sortL ss := by unfold sortL; simp
  rw [hm, List.mem_iff_getElem]
  constructor
  · rintro ⟨j, hj, e⟩
    exact ⟨j, hj, by simpa [getElem!_pos, hj] using e⟩
  · rintro ⟨j, hj, e⟩
    exact ⟨j, hj, by simpa [getElem!_pos, hj] using e⟩
theorem vars_unique {ss out : List Nm} (h : SS out) (hm : ∀ x, x ∈ out ↔ x ∈ ss) : out = Lib.compact (sortL ss) :=
  ss_unique _ _ h (vars_ss ss).1 (fun x => (hm x).trans ((vars_ss ss).2 x).symm)
/-- One more name at its place. -/
theorem ss_insert {out : List Nm} {s : Nm} {k : Nat} (h : SS out) (hk : k ≤ out.length) (hi : ∀ i (h : i < out.length), k ≤ i → LtN s out[i]) (lo : k = 0 ∨ ∃ h : k - 1 < out.length, LtN out[k - 1] s) : SS (out.take k ++ [s] ++ out.drop k) := by
  have hlow : ∀ a ∈ out.take k, LtN a s := by
    intro a ha
    obtain ⟨i, hi', rfl⟩ := List.getElem_of_mem ha
    rw [List.getElem_take]
    have hik : i < k := by simp at hi'; omega
    rcases lo with lo | ⟨hlt, lo⟩
    · omega
    · by_cases e : i = k - 1
      · subst e; exact lo
      · exact ltN_trans (List.pairwise_iff_getElem.1 h i (k - 1) (by simp at hi'; omega) hlt (by omega)) lo
  have hhigh : ∀ b ∈ out.drop k, LtN s b := by
    intro b hb
    obtain ⟨i, hi', rfl⟩ := List.getElem_of_mem hb
    rw [List.getElem_drop]
    exact hi _ (by simp at hi'; omega) (by omega)
  have hb : out = out.take k ++ out.drop k := (List.take_append_drop k out).symm
  have hcross : ∀ a ∈ out.take k, ∀ b ∈ out.drop k, LtN a b := fun a ha b hb => ltN_trans (hlow a ha) (hhigh b hb)
  rw [List.append_assoc]
  refine List.pairwise_append.2 ⟨h.sublist (List.take_sublist k out), ?_, fun a ha b hb => ?_⟩
  · exact List.pairwise_append.2 ⟨by simp, h.sublist (List.drop_sublist k out), fun a ha b hb => by simp at ha; subst ha; exact hhigh b hb⟩
  · rcases List.mem_append.1 hb with hb | hb
    · simp at hb; subst hb; exact hlow a ha
    · exact hcross a ha b hb
theorem mem_insert {out : List Nm} {s x : Nm} {k : Nat} : x ∈ out.take k ++ [s] ++ out.drop k ↔ x ∈ out ∨ x = s := by
  have : x ∈ out ↔ x ∈ out.take k ∨ x ∈ out.drop k := by
    rw [← List.mem_append, List.take_append_drop]
  simp only [List.mem_append, List.mem_singleton, this]
  constructor
  · rintro ((h | h) | h)
    · exact .inl (.inl h)
    · exact .inr h
    · exact .inl (.inr h)
  · rintro ((h | h) | h)
    · exact .inl (.inl h)
    · exact .inr h
    · exact .inl (.inr h)
end Go.Proofs.YtgidgmgpgfonnaaGreat
/- What the document's names gathers. -/
namespace Go.Proofs.YtgidgmgpgfonnaaGreat
open Go.RowKit Go.Deep

def namesN (x : ByteArray × Int) : List Nm := if noName x.1 then [] else [x.1.data.toList]
def namesFo : Fo → List Nm
  | .nil => []
  | .node _ _ x l r => (namesN x ++ namesFo l) ++ namesFo r
set_option maxRecDepth 100000 in
theorem namesN_len (x : ByteArray × Int) : (namesN x).length ≤ 1 := by unfold namesN; split <;> simp
set_option maxRecDepth 100000 in
theorem namesFo_len : ∀ F : Fo, (namesFo F).length ≤ nodesF F
  | .nil => Nat.le_refl _
  | .node _ _ x l r => by
    have := namesN_len x
    have := namesFo_len l
    have := namesFo_len r
    simp only [namesFo, List.length_append, nodesF]; omega

/-- Below nothing has turned, beyond no cells but rows of texts. -/
structure Nv (B : Nat) (W W' : World) : Prop where
  low : Below B W W'
  cells : ∀ (k : Nat) (cs : Array Value) (t : TypeId) (fr : Nat × Nat), W.heap[k]? = some (Obj.cells cs t fr) → t ≠ 9 → W'.heap[k]? = some (Obj.cells cs t fr)
set_option maxRecDepth 100000 in
theorem Nv.refl (B : Nat) (W : World) : Nv B W W := ⟨Below.refl _ _, fun _ _ _ _ h _ => h⟩
set_option maxRecDepth 100000 in
theorem Nv.trans {B : Nat} {X Y Z : World} (h : Nv B X Y) (k : Nv B Y Z) : Nv B X Z := ⟨h.low.trans k.low, fun i cs t fr hi ht => k.cells i cs t fr (h.cells i cs t fr hi ht) ht⟩
set_option maxRecDepth 100000 in
theorem Nv.of_below {B : Nat} {X Y : World} (h : Below X.heap.size X Y) (hB : B ≤ X.heap.size) : Nv B X Y := ⟨h.mono hB, fun k _ _ _ hk _ => (h.block k (Array.getElem?_eq_some_iff.1 hk).1).trans hk⟩
set_option maxRecDepth 100000 in
theorem Nv.grown {B : Nat} {X Y : World} {row : Option Nat} (hg : X.grownBy Y row) (hB : B ≤ X.heap.size) (hr : ∀ r, row = some r → B ≤ r ∧ ∃ cs fr, X.heap[r]? = some (Obj.cells cs 9 fr)) : Nv B X Y :=
  ⟨(Below.refl B X).grown hg hB (fun k e => (hr k e).1), fun k cs t fr hk h9 => by
    refine (hg.block k (Array.getElem?_eq_some_iff.1 hk).1 (fun e => ?_)).trans hk
    obtain ⟨_, cs', fr', h'⟩ := hr k e.symm
    rw [hk] at h'
    cases h'
    exact h9 rfl⟩
set_option maxRecDepth 100000 in
theorem Nv.append {B k : Nat} {X Y : World} {v : Value} {xs : List Value} {o : Obj} (hr : X.ownsRow B 9 1 v k xs) (hg : (X.alloc o).grownBy Y v.ownBlock) (hB : B ≤ X.heap.size) : Nv B X Y :=
  (Nv.of_below ((Below.refl _ X).alloc (Nat.le_refl _) o) hB).trans (Nv.grown hg (by simp; omega) (fun r e => by
    obtain ⟨h1, cur, h2⟩ := owns_cells (hr.alloc o) e
    exact ⟨h1, cur, _, h2⟩))
set_option maxRecDepth 100000 in
theorem TBox.nv {B0 : Nat} {W W' : World} {B : Nat} {x : ByteArray × Int} {a : Option Addr} {n c : Nat} (h : TBox W B x a n c) (hm : Nv B0 W W') : TBox W' B x a n c := hm.cells _ _ _ _ h (by decide)

end Go.Proofs.YtgidgmgpgfonnaaGreat
/- What the document's Names and Vars answer. -/
namespace Go.Proofs.YtgidgmgpgfonnaaGreat
open Go.RowKit Go.Deep

/-- The slice with this address holds these texts. -/
structure TextsAt (w : World) (a : Option Addr) (n : Nat) (ss : List Nm) : Prop where
  len : n = ss.length
  cells : ∀ i (h : i < ss.length), ∃ b off, a = some ⟨b, off, none⟩ ∧ w.cell? ⟨b, off + i, none⟩ = some (.string ⟨ss[i].toArray⟩)
set_option maxRecDepth 100000 in
theorem TextsAt.below {w w' : World} {a : Option Addr} {n : Nat} {ss : List Nm} (h : TextsAt w a n ss) (hb : Below w.heap.size w w') : TextsAt w' a n ss :=
  ⟨h.len, fun i hi => by obtain ⟨b, off, ha, hc⟩ := h.cells i hi; exact ⟨b, off, ha, below_cell hb _ _ hc⟩⟩
set_option maxRecDepth 100000 in
theorem texts_of_owns {w : World} {base n : Nat} {v : Value} {ss : List Nm} (h : w.ownsRow base 9 1 v n (ss.map encStr)) : ∃ a cap, v = .slice a n cap ∧ n ≤ cap ∧ cap ≤ maxLen ∧ TextsAt w a n ss ∧ (a = none → n = 0 ∧ cap = 0) ∧ (∀ b off sp, a = some ⟨b, off, sp⟩ → base ≤ b ∧ off = 0 ∧ sp = none ∧ ∃ cur, w.heap[b]? = some (Obj.cells cur 9 (0, 0))) := by
  have hl : ss.length = n := by simpa using h.1
  rcases h.2 with ⟨rfl, h0⟩ | ⟨g, cap, cur, rfl, hb, hg, hnc, hcm, hsz, hcur⟩
  · exact ⟨none, 0, by rw [h0], by omega, by simp, ⟨by omega, fun i hi => by omega⟩, fun _ => ⟨h0, rfl⟩, fun b off sp e => by cases e⟩
  · refine ⟨_, cap, rfl, hnc, hcm, ⟨hl.symm, fun i hi => ⟨g, 0, rfl, ?_⟩⟩, (fun e => by cases e), (fun b off sp e => by cases e; exact ⟨hb, rfl, rfl, cur, hg⟩)⟩
    exact owns_at h i _ (by simp [hi])
set_option maxRecDepth 100000 in
theorem less_bytes (a b : Nm) : Op.bytesLess a b = decide (Lib.compareBytes a b = -1) := by
  rw [bytesLess_eq]
  exact decide_eq_decide.2 (lt_bytes _ _)

set_option maxRecDepth 100000 in
theorem own_empty9 (w : World) : (w.alloc (.cells #[] 9)).ownsRow w.heap.size 9 1 (.slice (some ⟨w.heap.size, 0, none⟩) 0 0) 0 [] :=
  ⟨rfl, Or.inr ⟨w.heap.size, 0, #[], rfl, Nat.le_refl _, heap_alloc_new w _, Nat.le_refl _, by simp, rfl, rfl⟩⟩
set_option maxRecDepth 100000 in
theorem own_base9 {w : World} {B B' k : Nat} {v : Value} {xs : List Value} (h : w.ownsRow B 9 1 v k xs) (hB : B' ≤ B) : w.ownsRow B' 9 1 v k xs := by
  refine ⟨h.1, ?_⟩
  rcases h.2 with h | ⟨g, cap, cur, h1, h2, h3⟩
  · exact .inl h
  · exact .inr ⟨g, cap, cur, h1, by omega, h3⟩
set_option maxRecDepth 100000 in
theorem enc_one (l : List Nm) : ∀ u ∈ l.map encStr, u.oneCell' = true := by
  intro u hu
  obtain ⟨x, _, rfl⟩ := List.mem_map.1 hu
  rfl
set_option maxRecDepth 100000 in
/-- Where a piece of a list of texts lies. -/
theorem texts_news {w : World} {g n : Nat} {out : List Nm} (h : TextsAt w (some ⟨g, 0, none⟩) n out) (m : Nat) : ∀ j u, ((out.drop m).map encStr)[j]? = some u → w.cell? ((⟨g, m, none⟩ : Addr).add j) = some u := by
  intro j u hu
  have e : (⟨g, m, none⟩ : Addr).add j = ⟨g, m + j, none⟩ := by unfold Addr.add; split <;> simp_all
  rw [e]
  rw [List.getElem?_map, List.getElem?_drop] at hu
  rcases Nat.lt_or_ge (m + j) out.length with hlt | hge
  · rw [List.getElem?_eq_getElem hlt] at hu
    simp only [Option.map_some, Option.some.injEq] at hu
    subst hu
    obtain ⟨b, off, hb, hc⟩ := h.cells (m + j) hlt
    cases hb
    rw [Nat.zero_add] at hc
    exact hc
  · rw [List.getElem?_eq_none hge] at hu; cases hu
set_option maxRecDepth 100000 in
theorem texts_front {w : World} {g n : Nat} {out : List Nm} (h : TextsAt w (some ⟨g, 0, none⟩) n out) (m : Nat) : ∀ j u, ((out.take m).map encStr)[j]? = some u → w.cell? ((⟨g, 0, none⟩ : Addr).add j) = some u := by
  intro j u hu
  refine texts_news h 0 j u ?_
  rw [List.drop_zero]
  rw [List.getElem?_map] at hu ⊢
  rw [List.getElem?_take] at hu
  split at hu
  · exact hu
  · cases hu

end Go.Proofs.YtgidgmgpgfonnaaGreat
/- Of right terms: the order's nought is to be alike in every field. -/
namespace Go.Proofs.YtgidgmgpgfonnaaGreat
open Go.RowKit Go.Deep

theorem names_iff (a b : ByteArray) : a.toList = b.toList ↔ a = b := by
  constructor
  · intro h
    rw [ByteArray.toList_eq, ByteArray.toList_eq] at h
    exact bytes_eq h
  · rintro rfl; rfl
theorem cmpS_self {a : ByteArray} (h : noName a = false) : cmpS a a = 0 := by
  have := cmpN_anti ((a, 0), .nil) ((a, 0), .nil)
  have e : cmpN ((a, 0), .nil) ((a, 0), .nil) = cmpS a a := by unfold cmpN cmp1; rw [if_pos h, if_pos h]
  rw [e] at this
  omega
theorem right1_ex {S : Sg} {ar : Int → Nat} {x y : ByteArray × Int} {n m : Nat} {deep : Int} {ex : Bool} (hx : nodeOk S ar x n) (hy : nodeOk S ar y m) (hz : n = 0 → ex = true) (hd : n = m → (deep = 0 ↔ ex = true)) :
    cmp1 x y n m deep = 0 ↔ (((x.1.toList == y.1.toList) && (x.2 == y.2) && (n == m) && ex) = true) := by
  simp only [Bool.and_eq_true, beq_iff_eq, names_iff]
  unfold nodeOk at hx hy
  unfold cmp1
  cases e1 : noName x.1 <;> cases e2 : noName y.1 <;> simp only [e1, e2, if_true, if_false, Bool.true_eq_false] at hx hy ⊢
  · constructor
    · intro h
      exact ⟨⟨⟨bytes_eq (bytes_zero h), hx.1.trans hy.1.symm⟩, hx.2.trans hy.2.symm⟩, hz hx.2⟩
    · rintro ⟨⟨⟨h, _⟩, _⟩, _⟩
      rw [h]
      exact cmpS_self e2
  · constructor
    · intro h; omega
    · rintro ⟨⟨⟨h, _⟩, _⟩, _⟩
      rw [h, e2] at e1
      cases e1
  · constructor
    · intro h; omega
    · rintro ⟨⟨⟨h, _⟩, _⟩, _⟩
      rw [h, e2] at e1
      cases e1
  · have hn : x.1 = y.1 := (noName_eq e1).trans (noName_eq e2).symm
    by_cases h1 : x.2 = y.2
    · rw [if_pos h1]
      by_cases h2 : n = m
      · rw [if_pos h2, hd h2]
        simp [hn, h1, h2]
      · rw [if_neg h2]
        constructor
        · intro h; exact absurd (by have := compareInt_zero h; omega) h2
        · rintro ⟨⟨_, h⟩, _⟩; exact absurd h h2
    · rw [if_neg h1]
      constructor
      · intro h; exact absurd (compareInt_zero h) h1
      · rintro ⟨⟨⟨_, h⟩, _⟩, _⟩; exact absurd h h1
theorem exF_nil {F G : Fo} (h : lenF F = 0) : exF F G = true := by rw [len_nil h]; cases G <;> rfl
theorem rightF_ex {S : Sg} {ar : Int → Nat} : ∀ {F G : Fo}, RightF S ar F → RightF S ar G → lenF F = lenF G → (cmpF F G = 0 ↔ exF F G = true)
  | .nil, _, _, _, _ => by simp [cmpF, exF]
  | .node _ _ _ _ _, .nil, _, _, h => by simp [lenF] at h
  | .node _ _ x l r, .node _ _ y m s, hF, hG, h => by
    simp only [lenF, Nat.add_right_cancel_iff] at h
    obtain ⟨⟨h1, h2⟩, h3⟩ := hF
    obtain ⟨⟨k1, k2⟩, k3⟩ := hG
    have i1 := right1_ex (deep := cmpF l m) (ex := exF l m) h1 k1 (fun e => exF_nil e) (fun e => rightF_ex h2 k2 e)
    have i2 := rightF_ex h3 k3 h
    rw [cmpF, thenC, exF, Bool.and_eq_true, ← i1, ← i2]
    by_cases hz : cmp1 x y (lenF l) (lenF m) (cmpF l m) = 0
    · simp [hz]
    · simp [hz]
theorem right_ex {S : Sg} {ar : Int → Nat} {x y : Tn} (hx : RightT S ar x) (hy : RightT S ar y) : (cmpN x y == 0) = exN x.1 y.1 x.2 y.2 := by
  have := right1_ex (deep := cmpF x.2 y.2) (ex := exF x.2 y.2) hx.1 hy.1 (fun e => exF_nil e) (fun e => rightF_ex hx.2 hy.2 e)
  unfold cmpN exN
  rw [Bool.eq_iff_iff, beq_iff_eq]
  exact this
theorem is_same {l : List Sym} {t r : Tn} (h : rightB l t = true) (hr : CanR l t r) : (cmpN t r == 0) = exN (canonT (sgOf l) t).1 t.1 (canonT (sgOf l) t).2 t.2 := by
  obtain ⟨h1, h2⟩ := right_facts h
  rw [hr.2 h1 h2, ← right_ex (right_of_can (canonT_can h1 h2)) h2]
  have := cmpN_anti t (canonT (sgOf l) t)
  rw [Bool.eq_iff_iff, beq_iff_eq, beq_iff_eq]
  omega
theorem exN_self (x : Tn) : exN x.1 x.1 x.2 x.2 = true := by
  have go : ∀ F : Fo, exF F F = true := by
    intro F
    induction F with
    | nil => rfl
    | node _ _ x l r ihl ihr => simp [exF, ihl, ihr]
  unfold exN
  simp [go]
end Go.Proofs.YtgidgmgpgfonnaaGreat
/- Plain: what binds are that Check finds right. -/
namespace Go.Proofs.YtgidgmgpgfonnaaGreat
open Go.RowKit Go.Deep

theorem leS_lt {a b : ByteArray} (h : leS a b = false) : LtN b.data.toList a.data.toList := by
  unfold leS at h
  rw [Bool.or_eq_false_iff, less_bytes, decide_eq_false_iff_not, beq_eq_false_iff_ne, ByteArray.toList_eq, ByteArray.toList_eq] at h
  exact ltN_total h.1 h.2
/-- A substitution by a right signature. -/
structure SubOk (sg : List Sym) (bs : List Bn) : Prop where
  up : bs.Pairwise fun x y => LtN x.1.data.toList y.1.data.toList
  var : ∀ b ∈ bs, varB b.1 = true
  self : ∀ b ∈ bs, (b.2.1.1.toList == b.1.toList) = false
  few : ∀ b ∈ bs, nodesF b.2.2 + 1 ≤ 400
  right : ∀ b ∈ bs, rightB sg b.2 = true
  can : ∀ b ∈ bs, exN (canonT (sgOf sg) b.2).1 b.2.1 (canonT (sgOf sg) b.2).2 b.2.2 = true
theorem bdE_ok {sg : List Sym} {p : Option ByteArray} {x : Bn} (h : bdE sg p x = 0) : badV p x = false ∧ nodesF x.2.2 + 1 ≤ 400 ∧ rightB sg x.2 = true ∧ exN (canonT (sgOf sg) x.2).1 x.2.1 (canonT (sgOf sg) x.2).2 x.2.2 = true := by
  unfold bdE at h
  by_cases h1 : badV p x = true
  · rw [if_pos h1] at h; cases h
  · rw [if_neg h1] at h
    by_cases h2 : 400 < nodesF x.2.2 + 1
    · rw [if_pos h2] at h; cases h
    · rw [if_neg h2] at h
      by_cases h3 : rightB sg x.2 = false
      · rw [if_pos h3] at h; cases h
      · rw [if_neg h3] at h
        by_cases h4 : exN (canonT (sgOf sg) x.2).1 x.2.1 (canonT (sgOf sg) x.2).2 x.2.2 = false
        · rw [if_pos h4] at h; cases h
        · exact ⟨by simpa using h1, by omega, by simpa using h3, by simpa using h4⟩
theorem chk_ok {sg : List Sym} : ∀ (bs : List Bn) (p : Option ByteArray) (i : Nat), (chkB sg bs p i).1 = 0 → SubOk sg bs ∧ ∀ q, p = some q → ∀ b ∈ bs, LtN q.data.toList b.1.data.toList
  | [], _, _, _ => ⟨⟨List.Pairwise.nil, by simp, by simp, by simp, by simp, by simp⟩, fun _ _ b hb => by cases hb⟩
  | x :: r, p, i, h => by
    unfold chkB at h
    by_cases hx : bdE sg p x = 0
    · rw [if_pos hx] at h
      obtain ⟨ih, hup⟩ := chk_ok r (some x.1) (i + 1) h
      obtain ⟨h1, h2, h3, h4⟩ := bdE_ok hx
      unfold badV at h1
      simp only [Bool.or_eq_false_iff, Bool.not_eq_false'] at h1
      obtain ⟨⟨hv, hl⟩, hs⟩ := h1
      have up1 : ∀ b ∈ r, LtN x.1.data.toList b.1.data.toList := hup x.1 rfl
      refine ⟨⟨List.pairwise_cons.2 ⟨up1, ih.up⟩, ?_, ?_, ?_, ?_, ?_⟩, fun q hq b hb => ?_⟩
      · intro b hb
        rcases List.mem_cons.1 hb with rfl | hb
        · exact hv
        · exact ih.var b hb
      · intro b hb
        rcases List.mem_cons.1 hb with rfl | hb
        · exact hs
        · exact ih.self b hb
      · intro b hb
        rcases List.mem_cons.1 hb with rfl | hb
        · exact h2
        · exact ih.few b hb
      · intro b hb
        rcases List.mem_cons.1 hb with rfl | hb
        · exact h3
        · exact ih.right b hb
      · intro b hb
        rcases List.mem_cons.1 hb with rfl | hb
        · exact h4
        · exact ih.can b hb
      · subst hq
        have hx1 := leS_lt hl
        rcases List.mem_cons.1 hb with rfl | hb
        · exact hx1
        · exact ltN_trans hx1 (up1 b hb)
    · rw [if_neg hx] at h
      exact absurd h hx
theorem SubOk.nodup {sg : List Sym} {bs : List Bn} (h : SubOk sg bs) : (bs.map (·.1)).Nodup := by
  rw [List.nodup_iff_pairwise_ne, List.pairwise_map]
  exact h.up.imp fun {x y} hlt e => by rw [e] at hlt; exact ltN_irrefl _ hlt
theorem SubOk.rights {sg : List Sym} {bs : List Bn} (h : SubOk sg bs) : ∀ b ∈ bs, RightT (sgOf sg) (arAt sg) b.2 := fun b hb => (right_facts (h.right b hb)).2
end Go.Proofs.YtgidgmgpgfonnaaGreat
/- What Parts of package canon answers. -/
namespace Go.Proofs.YtgidgmgpgfonnaaGreat
open Go.RowKit Go.Deep

/-- A list of new terms that a slice holds, none of which shares a block with another. -/
structure NewL (B : Nat) (w : World) (a : Option Addr) (c : Nat) (ks : List Kv) : Prop where
  row : RowAt w a ks.length ks
  gl : GL SepE w ks (fun q => B ≤ q ∧ ∀ b o, a = some ⟨b, o, none⟩ → q ≠ b)
  nil : a = none → c = 0
  new : ∀ b o, a = some ⟨b, o, none⟩ → B ≤ b
  cap : ks.length ≤ c ∧ c ≤ maxLen
theorem newL_clone {w : World} {B : Nat} {x : ByteArray × Int} {a : Option Addr} {c : Nat} {F : Fo} (h : SepTm w (fun q => B ≤ q) x a c F) (hz : lenF F = 0 → a = none ∧ c = 0) : ∃ ks : List Kv, ks.map Kv.tn = kidsL F ∧ ks.length = lenF F ∧ NewL B w a c ks := by
  rcases h.list with e | ⟨g, cur, e1, e2, e3, e4⟩
  · subst e
    obtain ⟨rfl, rfl⟩ := hz rfl
    exact ⟨[], rfl, rfl, RowAt.empty _ _, trivial, fun _ => rfl, (fun b o e => by cases e), Nat.le_refl _, Nat.zero_le _⟩
  · subst e1
    obtain ⟨ks, k1, k2, k3⟩ := sepKids_list e4
    have hl : ks.length = lenF F := by have := congrArg List.length k1; rwa [List.length_map, kids_len] at this
    exact ⟨ks, k1, hl, ⟨rfl, fun j u hu => ⟨g, 0, rfl, k2 j u hu⟩⟩, k3.mono (fun q hq => ⟨hq.1, fun b o e => by cases e; exact hq.2⟩), (fun e => by cases e), (fun b o e => by cases e; exact e2), by rw [hl]; exact h.sizes.len, h.sizes.cap⟩
theorem parts_eq (l : List Sym) (f : Int) (t : Tn) : partsN (sgOf l) f t = if (!decide (kindK l f = 1) && headed f t) = true then kidsL t.2 else if isUnB l f t then [] else [t] := by
  rw [isUnB_eq]
  have hk := kindK_ok l f
  unfold partsN
  by_cases h1 : kindK l f = 1
  · have hj := hk.free.1 h1
    have hu : isUn (sgOf l) f t = false := by
      have : unitAt l f = none := by
        by_cases hin : 0 ≤ f ∧ f.toNat < l.length
        · obtain ⟨n, rfl⟩ := Int.eq_ofNat_of_zero_le hin.1
          have hn : n < l.length := by simpa using hin.2
          refine unit_not hn ?_
          unfold kindK at h1
          rw [symAt_in hn] at h1
          dsimp only at h1
          intro e
          rw [e] at h1
          simp at h1
        · exact unit_out hin
      unfold isUn
      show (match (unitAt l f).map (fun (i : Nat) => (i : Int)) with | some u => isConst t u | none => false) = false
      rw [this]
      rfl
    rw [hj, hu]
    simp [h1]
  · have hj : (sgOf l).joins f = true := by
      cases h : (sgOf l).joins f with
      | true => rfl
      | false => exact absurd (hk.free.2 h) h1
    rw [hj]
    cases hu : isUn (sgOf l) f t with
    | false => simp [h1]
    | true =>
      obtain ⟨u, _, rfl⟩ := isUn_some hu
      cases hh : headed f (constT u) <;> simp [h1, constT, kidsL]

theorem field2 (s : ByteArray) (i : Int) (a : Option Addr) (n c : Nat) (W : World) : (Instr.field 27 (.agg #[.string s, .int .i64 i, .slice a n c]) 2).run Tryz.prog W = .ok (.slice a n c) W := by kernel_rfl

end Go.Proofs.YtgidgmgpgfonnaaGreat
/- What Join of package canon answers. -/
namespace Go.Proofs.YtgidgmgpgfonnaaGreat
open Go.RowKit Go.Deep

def joinB (l : List Sym) (f : Int) (n : Nat) : Bool := !decide (kindK l f = 1) && (!(n == 0) || unitOk l f)
/-- What is joined: of right terms the canonical term; no greater than they are, whatever they are. -/
def JoinR (l : List Sym) (f : Int) (ts : List Tn) (b : Bool) (r : Tn) : Prop :=
  sizeT r ≤ sizes ts + 1 ∧ (b = false → r = constT 0) ∧ ((sgOf l).Ok (arAt l) → (∀ t ∈ ts, RightT (sgOf l) (arAt l) t) → joinN (sgOf l) f (ts.map (canonT (sgOf l))) = if b then some r else none)
theorem joinR_no {l : List Sym} {f : Int} {ts : List Tn} (h : joinB l f ts.length = false) : JoinR l f ts false (constT 0) := by
  refine ⟨by simp [sizeT, constT, nodesF], fun _ => rfl, fun _ _ => ?_⟩
  unfold joinB at h
  unfold joinN
  simp only [Bool.false_eq_true, if_false]
  by_cases hk : kindK l f = 1
  · rw [if_pos ((kindK_ok l f).free.1 hk)]
  · simp only [hk, decide_false, Bool.not_false, Bool.true_and, Bool.or_eq_false_iff, Bool.not_eq_false', beq_iff_eq] at h
    obtain ⟨h1, h2⟩ := h
    have hts : ts = [] := List.length_eq_zero_iff.1 h1
    subst hts
    split
    · rfl
    · show ((unitAt l f).map _).map constT = none
      unfold unitOk at h2
      rw [Option.isSome_eq_false_iff, Option.isNone_iff_eq_none] at h2
      rw [h2]
      rfl
theorem joinR_yes {l : List Sym} {f : Int} {F : Fo} {rs : List Tn} {r r' : Tn} (h : joinB l f (lenF F) = true) (ha : All2 (LooseR (sgOf l) (arAt l)) (kidsL F) rs) (hl : LayR (sgOf l) (kindK l f) f (unitI l f) rs r) (hs : SetR (sgOf l) r r') : JoinR l f (kidsL F) true r' := by
  refine ⟨?_, (fun e => by cases e), fun hS hR => ?_⟩
  · rw [set_size hs]
    have h1 := lay_size hl
    have h2 := loose_sizes ha
    omega
  · have hk := kindK_ok l f
    unfold joinB at h
    rw [Bool.and_eq_true, Bool.or_eq_true] at h
    obtain ⟨h1, h2⟩ := h
    have hj : (sgOf l).joins f = true := by
      cases hj : (sgOf l).joins f with
      | true => rfl
      | false => have := hk.free.2 hj; simp [this] at h1
    have hn : kidsL F ≠ [] ∨ (sgOf l).unit f ≠ none := by
      rcases h2 with h2 | h2
      · left
        intro e
        have := congrArg List.length e
        rw [kids_len] at this
        simp [this] at h2
      · right
        intro e
        have e : (unitAt l f).map (fun (i : Nat) => (i : Int)) = none := e
        rw [Option.map_eq_none_iff] at e
        unfold unitOk at h2
        rw [e] at h2
        cases h2
    obtain ⟨c, c1, c2⟩ := lay_join hS hk hj hR ha hl hn
    unfold joinN
    rw [if_neg (by rw [hj]; simp), List.flatMap_map]
    have e : (fun a => partsN (sgOf l) f (canonT (sgOf l) a)) = pc (sgOf l) f := rfl
    rw [e, c1]
    have hcan : CanT (sgOf l) (arAt l) c := join_can hS hj (fun p hp => by
      obtain ⟨t, ht, hp⟩ := List.mem_flatMap.1 hp
      exact parts_good hj (canonT_can hS (hR t ht)) p hp) c1
    rw [mod_set hcan c2 hs]
    rfl

end Go.Proofs.YtgidgmgpgfonnaaGreat
/- What the statements' own 'right' answers of a signature, two terms and a list. -/
namespace Go.Proofs.YtgidgmgpgfonnaaGreat
open Go.RowKit Go.Deep

/-- What a statement is asked about, in memory. -/
structure TwoAt (w : World) (S : Option Addr) (n : Nat) (l : List Sym) (A B : Tn) (a b : Option Addr) (c d : Nat) (La : Option Addr) (F : Fo) : Prop where
  sig : SigAt w S n l
  a : TmAt w A.1 a c A.2
  b : TmAt w B.1 b d B.2
  l : ArgsAt w La F
  few : lenF F * 48 ≤ 140737488351232
set_option maxRecDepth 100000 in
theorem TwoAt.below {w w' : World} {S : Option Addr} {n : Nat} {l : List Sym} {A B : Tn} {a b : Option Addr} {c d : Nat} {La : Option Addr} {F : Fo} (h : TwoAt w S n l A B a b c d La F) (hb : Below w.heap.size w w') : TwoAt w' S n l A B a b c d La F :=
  ⟨h.sig.below hb, h.a.below hb, h.b.below hb, h.l.below hb, h.few⟩
def twoC (S : Option Addr) (n cap : Nat) (A B : Tn) (a b : Option Addr) (c d : Nat) (f : Int) (La : Option Addr) (F : Fo) (lc : Nat) : Array Value :=
  #[.slice S n cap, .string A.1.1, .int .i64 A.1.2, .slice a (lenF A.2) c, .string B.1.1, .int .i64 B.1.2, .slice b (lenF B.2) d, .int .i64 f, .slice La (lenF F) lc]
/-- The box of it. -/
def WBox (W : World) (g : Nat) (cs : Array Value) : Prop := W.heap[g]? = some (.cells cs 28 (0, 0))
set_option maxRecDepth 100000 in
theorem WBox.below {W W' : World} {g : Nat} {cs : Array Value} (h : WBox W g cs) (hb : Below W.heap.size W W') : WBox W' g cs := (hb.block g (Array.getElem?_eq_some_iff.1 h).1).trans h
set_option maxRecDepth 100000 in
theorem WBox.c {W : World} {g : Nat} {cs : Array Value} (h : WBox W g cs) (k : Nat) {v : Value} (hv : cs[k]? = some v) : W.cell? ⟨g, k, none⟩ = some v := by simp [World.cell?, show W.heap[g]? = _ from h, hv]

end Go.Proofs.YtgidgmgpgfonnaaGreat
/- What the statements' own 'app' answers: a symbol's term of copies. -/
namespace Go.Proofs.YtgidgmgpgfonnaaGreat
open Go.RowKit Go.Deep

set_option maxRecDepth 100000 in
theorem Lst.set {B : Nat} {W : World} {v : Value} {ks : List Kv} (h : Lst B W v ks) {p : Addr} (hp : p.block < B) (u : Value) : Lst B (W.setCell p u) v ks :=
  ⟨owns_block h.row (fun q hq => by have := (owns_cells h.row hq).1; exact Below.heap_setCell W p u q (by omega)), fun k hk => (h.own k hk).keep (fun q hq _ => Below.heap_setCell W p u q (by omega))⟩
/-- The boxes of the answer and of what is built. -/
structure Duo (w : World) (x : ByteArray × Int) (W : World) (v : Value) : Prop where
  low : Below w.heap.size w W
  r : XBox W w.heap.size (⟨#[]⟩, 0) (.slice none 0 0)
  x : XBox W (w.heap.size + 1) x v
set_option maxRecDepth 100000 in
theorem duo_new (w : World) (x : ByteArray × Int) : Duo w x ((w.alloc (.cells #[.string ⟨#[]⟩, .int .i64 0, .slice none 0 0] 27)).alloc (.cells #[.string x.1, .int .i64 x.2, .slice none 0 0] 27)) (.slice none 0 0) :=
  ⟨((Below.refl _ w).alloc (Nat.le_refl _) _).alloc (by simp) _, XBox.below (W := w.alloc (.cells #[.string ⟨#[]⟩, .int .i64 0, .slice none 0 0] 27)) (World.alloc_heap_new w _) ((Below.refl _ _).alloc (Nat.le_refl _) _), heap_alloc2_new w _ _⟩

end Go.Proofs.YtgidgmgpgfonnaaGreat
/- An AC or ACU symbol's term of two right terms or more is right; the unit's constant is. -/
namespace Go.Proofs.YtgidgmgpgfonnaaGreat
open Go.RowKit Go.Deep

set_option maxRecDepth 100000 in
theorem errF_mk {S : List Sym} : ∀ {l : List Tn}, (∀ t ∈ l, errT S t.1 t.2 = 0) → errF S (mkF l) = 0
  | [], _ => rfl
  | t :: r, h => by
    rw [mkF, errF, show thenC (nodeErr S t.1 (lenF t.2)) (errF S t.2) = 0 from h t List.mem_cons_self, errF_mk (fun k hk => h k (List.mem_cons_of_mem _ hk))]
    rfl
set_option maxRecDepth 100000 in
theorem rightB_app {S : List Sym} {k : Nat} (hk : k < S.length) (hj : S[k].kind ≠ 1) {l : List Tn} (h2 : 2 ≤ l.length) (hc : checkE S = 0) (h : ∀ t ∈ l, rightB S t = true) : rightB S (appT (k : Int) l) = true := by
  have he : ∀ t ∈ l, errT S t.1 t.2 = 0 := fun t ht => by
    have := h t ht
    unfold rightB at this
    simp only [Bool.and_eq_true, beq_iff_eq] at this
    exact this.2
  have hn : nodeErr S (noB, (k : Int)) (lenF (mkF l)) = 0 := by
    rw [nodeErr_in noName_noB (by show (0 : Int) ≤ (k : Int); omega) (by show (k : Int).toNat < S.length; omega)]
    rw [if_pos]
    unfold takesB
    rw [if_neg (by simpa using hj), len_mk]
    simpa using h2
  unfold rightB appT errT
  dsimp only
  rw [hn, errF_mk he, hc]
  rfl
set_option maxRecDepth 100000 in
/-- The place of an AC or ACU symbol of a right signature joins. -/
theorem joins_of {S : List Sym} (hc : checkE S = 0) {k : Nat} (hk : k < S.length) (hj : S[k].kind ≠ 1) : (sgOf S).joins (k : Int) = true := by
  show joinsAt S (k : Int) = true
  unfold joinsAt
  rw [symAt_in hk]
  have := (symErr_zero (right_each hc hk)).2.1
  unfold kindB at this
  simpa [hj] using this
set_option maxRecDepth 100000 in
theorem rightB_const {S : List Sym} (hc : checkE S = 0) {f : Int} {i : Nat} (hu : unitAt S f = some i) : rightB S (constT (i : Int)) = true := by
  obtain ⟨hi, hk, ha⟩ := unit_facts hc hu
  have hn : nodeErr S (noB, (i : Int)) 0 = 0 := by
    rw [nodeErr_in noName_noB (by show (0 : Int) ≤ (i : Int); omega) (by show (i : Int).toNat < S.length; omega)]
    rw [if_pos]
    unfold takesB
    have e : S[(noB, (i : Int)).2.toNat]'(by show (i : Int).toNat < S.length; omega) = S[i] := by simp
    rw [e, if_pos hk, ha]
    rfl
  unfold rightB constT errT
  dsimp only
  rw [show lenF (BT.nil : Fo) = 0 from rfl, hn, hc]
  rfl
end Go.Proofs.YtgidgmgpgfonnaaGreat
/- What Head of the statements answers: true. -/
namespace Go.Proofs.YtgidgmgpgfonnaaGreat
open Go.RowKit Go.Deep

def bA : ByteArray := ⟨#[97]⟩
def bOne : ByteArray := ⟨#[111, 110, 101]⟩
def bF : ByteArray := ⟨#[102]⟩
def bPlus : ByteArray := ⟨#[112, 108, 117, 115]⟩
def bTimes : ByteArray := ⟨#[116, 105, 109, 101, 115]⟩
def bX : ByteArray := ⟨#[88]⟩
def someL : List Sym := [⟨bA, 1, 0, ⟨#[]⟩⟩, ⟨bOne, 1, 0, ⟨#[]⟩⟩, ⟨bF, 1, 2, ⟨#[]⟩⟩, ⟨bPlus, 2, 2, ⟨#[]⟩⟩, ⟨bTimes, 3, 2, bOne⟩]

def headX : Tn := ((⟨#[]⟩, 4), .node 0 0 (⟨#[]⟩, 0) .nil (.node 0 0 (⟨#[]⟩, 4) (.node 0 0 (bX, 0) .nil (.node 0 0 (⟨#[]⟩, 1) .nil .nil)) .nil))
def headYF : Fo := .node 0 0 (bX, 0) .nil (.node 0 0 (⟨#[]⟩, 0) .nil .nil)
def headY : Tn := ((⟨#[]⟩, 4), headYF)
theorem some_ok : (sgOf someL).Ok (arAt someL) := sg_ok (by decide +kernel)
theorem head_right : RightT (sgOf someL) (arAt someL) headX := errT_right (x := (⟨#[]⟩, 4)) (by decide +kernel) (by decide +kernel)
theorem head_canon : canonT (sgOf someL) headX = headY := by kernel_rfl
theorem headY_canon : canonT (sgOf someL) headY = headY := by rw [← head_canon]; exact canonT_twice some_ok head_right
theorem headY_right : RightT (sgOf someL) (arAt someL) headY := by rw [← head_canon]; exact right_of_can (canonT_can some_ok head_right)

set_option maxRecDepth 100000 in
theorem some_any (w : World) : Calls Tryz.prog 17 #[] w fun e w' => ∃ g, e = .returned (.slice (some ⟨g, 0, none⟩) 5 5) ∧ SigAt w' (some ⟨g, 0, none⟩) 5 someL ∧ Below w.heap.size w w' := by
  go_enter Tryz.func17, Tryz.ntmps17
  go_wp2
  go_ret
  refine ⟨w.heap.size, rfl, ⟨rfl, by decide, fun i hi => ⟨w.heap.size, 0, rfl, ?_⟩, ?_⟩, (Below.refl _ w).alloc (Nat.le_refl _) _⟩
  · have hb := Box.new w 69 #[.string bA, .int .i64 1, .int .i64 0, .string ⟨#[]⟩, .string bOne, .int .i64 1, .int .i64 0, .string ⟨#[]⟩, .string bF, .int .i64 1, .int .i64 2, .string ⟨#[]⟩, .string bPlus, .int .i64 2, .int .i64 2, .string ⟨#[]⟩, .string bTimes, .int .i64 3, .int .i64 2, .string bOne]
    have hi : i < 5 := hi
    match i, hi with
    | 0, _ => exact ⟨hb.c 0, hb.c 1, hb.c 2, hb.c 3⟩
    | 1, _ => exact ⟨hb.c 4, hb.c 5, hb.c 6, hb.c 7⟩
    | 2, _ => exact ⟨hb.c 8, hb.c 9, hb.c 10, hb.c 11⟩
    | 3, _ => exact ⟨hb.c 12, hb.c 13, hb.c 14, hb.c 15⟩
    | 4, _ => exact ⟨hb.c 16, hb.c 17, hb.c 18, hb.c 19⟩
  · intro x hx
    simp only [someL, List.mem_cons, List.not_mem_nil, or_false] at hx
    rcases hx with rfl | rfl | rfl | rfl | rfl <;> exact ⟨by decide, by decide⟩

end Go.Proofs.YtgidgmgpgfonnaaGreat
/- What head of the statements of layer 7 answers: true. -/
namespace Go.Proofs.YtgidgmgpgfonnaaGreat
open Go.RowKit Go.Deep

def bY : ByteArray := ⟨#[89]⟩
def hdA : Fo := .node 0 0 (bY, 0) .nil (.node 0 0 (⟨#[]⟩, 0) .nil .nil)
def hdB : List Bn := [(bX, ((⟨#[]⟩, 3), hdA))]
def hdT : Fo := .node 0 0 (bX, 0) .nil (.node 0 0 (bX, 0) .nil .nil)
def hdP : Tn := putN (lkB hdB) (⟨#[]⟩, 3) hdT
def hdYF : Fo := .node 0 0 (bY, 0) .nil (.node 0 0 (bY, 0) .nil (.node 0 0 (⟨#[]⟩, 0) .nil (.node 0 0 (⟨#[]⟩, 0) .nil .nil)))
def hdY : Tn := ((⟨#[]⟩, 3), hdYF)
theorem hd_left : (0 : Int) ≤ leftN (lkB hdB) (⟨#[]⟩, 3) hdT 400 := by decide +kernel
theorem hd_right : RightT (sgOf someL) (arAt someL) hdP := errT_right (x := hdP.1) (by decide +kernel) (by decide +kernel)
theorem hd_canon : canonT (sgOf someL) hdP = hdY := by kernel_rfl
set_option maxRecDepth 100000 in
set_option maxHeartbeats 4000000 in
theorem shead_any (w : World) : Calls Tryz.prog 5 #[] w fun e w' => e = .returned (.bool true) ∧ Below w.heap.size w w' := by
  obtain ⟨W0, hW0⟩ : ∃ W0, (w.alloc (.cells #[.string ⟨#[89]⟩, .int .i64 0, .slice none 0 0, .string ⟨#[]⟩, .int .i64 0, .slice none 0 0] 27)).alloc (.cells #[.string ⟨#[88]⟩, .string ⟨#[]⟩, .int .i64 3, .slice (some ⟨w.heap.size, 0, none⟩) 2 2] 43) = W0 := ⟨_, rfl⟩
  have hb0 : Below w.heap.size w W0 := by rw [← hW0]; exact ((Below.refl _ w).alloc (Nat.le_refl _) _).alloc (by simp) _
  have B0 : Box W0 w.heap.size 27 #[.string ⟨#[89]⟩, .int .i64 0, .slice none 0 0, .string ⟨#[]⟩, .int .i64 0, .slice none 0 0] := by
    rw [← hW0]
    exact (Box.new w 27 _).below ((Below.refl _ _).alloc (Nat.le_refl _) _)
  have B1 : Box W0 (w.heap.size + 1) 43 #[.string ⟨#[88]⟩, .string ⟨#[]⟩, .int .i64 3, .slice (some ⟨w.heap.size, 0, none⟩) 2 2] := by
    have := Box.new (w.alloc (.cells #[.string ⟨#[89]⟩, .int .i64 0, .slice none 0 0, .string ⟨#[]⟩, .int .i64 0, .slice none 0 0] 27)) 43 #[.string ⟨#[88]⟩, .string ⟨#[]⟩, .int .i64 3, .slice (some ⟨w.heap.size, 0, none⟩) 2 2]
    rw [World.size_alloc] at this
    rw [← hW0]
    exact this
  have HT1 : TmAt W0 (⟨#[]⟩, 3) (some ⟨w.heap.size, 0, none⟩) 2 hdA :=
    ⟨⟨by decide, by decide, by decide, by decide⟩, .inr ⟨_, _, rfl, ⟨none, 0, B0.c 0, B0.c 1, B0.c 2, ⟨by decide, by decide, by decide, by decide⟩, .inl rfl⟩, ⟨none, 0, B0.c 3, B0.c 4, B0.c 5, ⟨by decide, by decide, by decide, by decide⟩, .inl rfl⟩, trivial⟩⟩
  have HBI : Hid (BindsAt W0 (some ⟨w.heap.size + 1, 0, none⟩) 1 hdB) := hid ⟨rfl, by decide, fun i hi => by
    have hi : i < 1 := hi
    match i, hi with
    | 0, _ => exact ⟨w.heap.size + 1, 0, some ⟨w.heap.size, 0, none⟩, 2, rfl, ⟨B1.c 0, B1.c 1, B1.c 2, B1.c 3, HT1⟩⟩, fun x hx => by
      simp only [hdB, List.mem_singleton] at hx
      subst hx
      decide⟩
  have HL0 := hid hb0
  clear HT1 B0 B1 hb0
  go_enter Tryz.func5, Tryz.ntmps5
  go_upto_region 2 with fail
  clear hW0
  go_wp2_with fail
  refine (some_any _).mono ?_
  rintro e w1 ⟨g1, rfl, hs1, hb1⟩
  have b2 := alloc_below0 w1 (.cells #[.string ⟨#[88]⟩, .int .i64 0, .slice none 0 0, .string ⟨#[88]⟩, .int .i64 0, .slice none 0 0] 27)
  have B2 := Box.new w1 27 #[.string ⟨#[88]⟩, .int .i64 0, .slice none 0 0, .string ⟨#[88]⟩, .int .i64 0, .slice none 0 0]
  have HS2 := hid (hs1.below b2)
  have HB2 := hid (HBI.out.below (hb1.trans (b2.mono hb1.size)))
  have HL2 := hid (HL0.out.trans ((hb1.trans (b2.mono hb1.size)).mono HL0.out.size))
  have HT2 : Hid (TmAt (w1.alloc (.cells #[.string ⟨#[88]⟩, .int .i64 0, .slice none 0 0, .string ⟨#[88]⟩, .int .i64 0, .slice none 0 0] 27)) (⟨#[]⟩, 3) (some ⟨w1.heap.size, 0, none⟩) 2 hdT) :=
    hid ⟨⟨by decide, by decide, by decide, by decide⟩, .inr ⟨_, _, rfl, ⟨none, 0, B2.c 0, B2.c 1, B2.c 2, ⟨by decide, by decide, by decide, by decide⟩, .inl rfl⟩, ⟨none, 0, B2.c 3, B2.c 4, B2.c 5, ⟨by decide, by decide, by decide, by decide⟩, .inl rfl⟩, trivial⟩⟩
  clear hs1 hb1 b2 B2 HBI HL0
  go_wp2_with fail
  generalize w1.alloc (.cells #[.string ⟨#[88]⟩, .int .i64 0, .slice none 0 0, .string ⟨#[88]⟩, .int .i64 0, .slice none 0 0] 27) = W2 at HS2 HB2 HL2 HT2 ⊢
  refine (papply_any (some ⟨g1, 0, none⟩) 5 5 someL (some ⟨w.heap.size + 1, 0, none⟩) 1 hdB (⟨#[]⟩, 3) hdT (some ⟨w1.heap.size, 0, none⟩) 2 W2 HS2.out HB2.out (by decide) HT2.out).mono ?_
  rintro e w3 ⟨hb3, ⟨h1, _⟩ | ⟨_, k, rfl, hr, hE⟩⟩
  · exact absurd hd_left (by omega)
  have hk : k.tn = hdY := by rw [hr.2 some_ok hd_right]; exact hd_canon
  obtain ⟨kx, kl, ka, kc⟩ := k
  have e1 : kx = (⟨#[]⟩, 3) := congrArg Prod.fst hk
  have e2 : kl = hdYF := congrArg Prod.snd hk
  subst e1 e2
  dsimp only
  rw [show lenF hdYF = 4 from rfl]
  have hty := (SepTm.tm hE.1).below (alloc_below0 w3 (.cells #[.string ⟨#[]⟩, .int .i64 3, .slice ka 4 kc] 27))
  have BX := Box.new w3 27 #[.string ⟨#[]⟩, .int .i64 3, .slice ka 4 kc]
  have HL3 := hid ((HL2.out.trans (hb3.mono HL2.out.size)).trans ((alloc_below0 w3 (.cells #[.string ⟨#[]⟩, .int .i64 3, .slice ka 4 kc] 27)).mono (Nat.le_trans HL2.out.size hb3.size)))
  obtain ⟨yb, yo, e3, hkk⟩ := hty.args.get (by show 0 < lenF hdYF; decide)
  have e3' : ka = some ⟨yb, yo, none⟩ := e3
  subst e3'
  have hyc : 4 ≤ kc := hty.sizes.len
  have hyc2 : kc ≤ 9223372036854775807 := hty.sizes.cap
  obtain ⟨⟨_, _, k0, _, _, _, _⟩, ⟨_, _, _, _, _, _, _⟩, ⟨_, _, _, _, _, _, _⟩, ⟨_, _, _, k4, _, _, _⟩, _⟩ := hkk
  have y1 := BX.c 1; have y2 := BX.c 2
  have k0' : (w3.alloc (.cells #[.string ⟨#[]⟩, .int .i64 3, .slice (some ⟨yb, yo, none⟩) 4 kc] 27)).cell? ⟨yb, yo, none⟩ = some (.string ⟨#[89]⟩) := k0
  have k4' : (w3.alloc (.cells #[.string ⟨#[]⟩, .int .i64 3, .slice (some ⟨yb, yo, none⟩) 4 kc] 27)).cell? ⟨yb, yo + 3 + 3 + 3 + 1, none⟩ = some (.int .i64 0) := k4
  have k5' : (w3.alloc (.cells #[.string ⟨#[]⟩, .int .i64 3, .slice (some ⟨yb, yo, none⟩) 4 kc] 27)).cell? ⟨yb, yo + 9 + 1, none⟩ = some (.int .i64 0) := k4
  clear k0 k4 hty BX hb3 hr hE hk HS2 HB2 HL2 HT2
  go_wp2_with fail
  go_ret
  exact ⟨rfl, HL3.out⟩
end Go.Proofs.YtgidgmgpgfonnaaGreat
/- What the document's Is answers of binds. -/
namespace Go.Proofs.YtgidgmgpgfonnaaGreat
open Go.RowKit Go.Deep

set_option maxRecDepth 100000 in
set_option maxHeartbeats 2000000 in
theorem ris_any (S : Option Addr) (n cap : Nat) (sg : List Sym) (p : Option Addr) (bcap : Nat) (bs : List Bn) (w : World) (hS : SigAt w S n sg) (hB : BindsAt w p bs.length bs) (hn : bs.length ≤ 1048576) (hnd : ∀ b ∈ bs, nodesF b.2.2 ≤ 1048576) :
    Calls Tryz.prog 32 #[.slice S n cap, .slice p bs.length bcap] w fun e w' => e = .returned (.bool (decide ((chkB sg bs none 0).1 = 0))) ∧ Below w.heap.size w w' := by
  have HC := hid (rchk_any S n cap sg p bcap bs w hS hB hn hnd)
  obtain ⟨⟨ev, iv⟩, hev⟩ : ∃ R, chkB sg bs none 0 = R := ⟨_, rfl⟩
  rw [hev] at HC ⊢
  clear hev hS hB
  go_enter Tryz.func32, Tryz.ntmps32
  go_wp2_with fail
  refine HC.out.mono ?_
  rintro e w1 ⟨rfl, hb1⟩
  have HL := hid hb1
  clear hb1 HC
  go_wp2_with fail
  go_ret
  exact ⟨rfl, HL.out⟩
end Go.Proofs.YtgidgmgpgfonnaaGreat
/- What the statement SubstComposes rests on. -/
