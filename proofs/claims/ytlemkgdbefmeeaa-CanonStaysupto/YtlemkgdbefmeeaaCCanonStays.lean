/- For every signature, two terms, symbol and list of terms, of bulk at most 1048576, CanonStays returns true: the canonical form of a right term is canonical, has the same variables and no more nodes, and is Equal to the term; Equal may be asked either way round; the condition is the second form's bound. -/
import Derived.Lib.SlicesCompact
import Derived.Sort.EncStr
import Derived.Laws.AppendOwnNone
import Derived.Test.YtlemkgdbefmeeaaM7
/- How a statement of layer 4 follows from its walk: the frame, of CanonStays. -/
namespace Go.Proofs.Ytlemkgdbefmeeaa
open Go.ChangeShapes Go.WideShapes Go.ChangeAt Go.RowKit Go.Deep

def StaysWalk : Prop := ∀ (S : Option Addr) (n cap : Nat) (l : List Sym) (A B : Tn) (a b : Option Addr) (c d : Nat) (f : Int) (La : Option Addr) (F : Fo) (lc : Nat) (W : World), TwoAt W S n l A B a b c d La F → n ≤ cap → nodesF A.2 + nodesF B.2 + nodesF F + 4 ≤ 1048576 →
  Calls Try.prog 5 #[.agg (twoC S n cap A B a b c d f La F lc)] W fun e W' => e = .returned (.bool true) ∧ Below W.heap.size W W'

set_option maxRecDepth 100000 in
theorem canonStays_contract (walk : StaysWalk) (H : Type) (enc : TypeId × Value → H) (W : World) (base : Nat) (args : Array Value) (ds gs : List (DataW H)) (before : List MemPlace)
    (hval : ∀ (j : Nat) t v, Try.f5.params[j]? = some t → args[j]? = some v → Value.okWide Try.prog W .any base t v)
    (hW : DataW.Whole enc Try.prog Try.f5.params.toList Rows.canonStaysSpec.vars false W args.toList ds gs before) (hk : Rows.uptoSmall H (ds ++ gs) = true) :
    Calls Try.prog 5 args W fun e W' => ∃ v, e = .returned v ∧ Rows.canonStaysSpec.post enc Try.prog Try.f5 false true false false W args v W' := by
  have hW' := hW
  obtain ⟨p, q, hA0, hV, rfl, hfz, hnd⟩ := hW
  have hA : DataW.TrodAll enc Try.prog W 0 (fun _ => true) true Try.f5.params.toList args.toList ds p := hA0
  rw [Try.params5] at hA hval
  obtain ⟨v0, vs0, d0, ds0, p0, q0, hargs, rfl, rfl, h0, r0⟩ := trodAll_cons hA
  obtain ⟨rfl, rfl, rfl⟩ := trodAll_nil r0
  obtain rfl : args = #[v0] := by cases args; simp_all
  obtain ⟨rfl, rfl⟩ := trodVars_none hV
  have lt0 : ∀ x ∈ p0, x.block < W.heap.size := by obtain ⟨m, hm⟩ := h0; exact DataW.trod_lt m _ _ _ hm
  have hbulk : Rows.uptoBulk d0 ≤ 1048576 := by
    have h : Rows.uptoBulkAll ([d0] ++ []) ≤ 1048576 := of_decide_eq_true hk
    simp only [List.append_nil, Rows.uptoBulkAll] at h
    omega
  obtain ⟨S, n, cap, l, A, B, a, b, c, d, f, La, F, lc, rfl, hT, hc, hs⟩ := two_open (hval 0 28 v0 rfl rfl) h0 hbulk
  clear hA0
  refine (walk S n cap l A B a b c d f La F lc W hT hc hs).mono fun e W' ⟨he, bel⟩ => ?_
  subst he
  exact ⟨_, rfl, _, _, _, [], _, [], hW', trodAll_mk1 (shut_bool Try.underlying4 _), (trodAll_cons_mk (Below.trod laidOut (by kernel_rfl) (of_decide_eq_true (by kernel_rfl)) h0 bel lt0) trodAll_mk0), rfl, bel.frame _, fun h => by cases h⟩

set_option maxRecDepth 100000 in
theorem canonStays_lifted (walk : StaysWalk) (os : Os) (started : os.Started) (H : Type) (enc : TypeId × Value → H) (F : Stop.Interp) :
    ReturnsInHanded {} Try.checked os 5 .any ((Rows.OpenSpec.upto Rows.canonStaysSpec).pre6 enc Try.prog Try.f5 Rows.canonStaysUptoRow.domain false) (((Rows.OpenSpec.upto Rows.canonStaysSpec).at F).post enc Try.prog Try.f5 false true false false) := by
  refine returnsInHanded_of_cond (C := Try.checked) (s := Rows.OpenSpec.upto Rows.canonStaysSpec) (k := Rows.uptoSmall) rfl own started (by kernel_rfl) Try.func5
    (OpenSpec.witness (enc := enc) (C := Try.checked) (s := Rows.OpenSpec.upto Rows.canonStaysSpec) (k := Rows.uptoSmall) rfl false ⟨#[], #[.agg #[.slice none 0 0, .string .empty, .int .i64 0, .slice none 0 0, .string .empty, .int .i64 0, .slice none 0 0, .int .i64 0, .slice none 0 0]], []⟩ 8 (by kernel_rfl) (by kernel_rfl) (by kernel_rfl)
      (x := ([.agg [.nil, .agg [.lit (.string []), .lit (.int .i64 0), .nil], .agg [.lit (.string []), .lit (.int .i64 0), .nil], .lit (.int .i64 0), .nil]], [], [])) (by kernel_rfl) rfl (by kernel_rfl)) ?_
  intro W base args ds gs before hval hW _ hk _
  exact canonStays_contract walk H enc W base args ds gs before hval hW hk

set_option maxRecDepth 100000 in
theorem canonStays_of (walk : StaysWalk) : Rows.CanonStaysUptoSaid :=
  OpenClaim.holds_of_cond 5 Try.f5 rfl rfl rfl rfl rfl rfl rfl ⟨rfl, rfl, rfl, rfl, rfl⟩ rfl rfl rfl rfl rfl (by kernel_rfl) Try.func5 (by kernel_rfl)
    (of_decide_eq_true (by kernel_rfl)) (by unfold Func.isWrapper; first | (rw [if_pos (by decide +kernel)]; kernel_rfl) | (rw [if_neg (by decide +kernel)]; exact ⟨rfl, rfl⟩))
    (fun os started H enc _ F => canonStays_lifted walk os started H enc F)
end Go.Proofs.Ytlemkgdbefmeeaa
/- Names rising, each once: there is but one such list of the same names. -/
namespace Go.Proofs.Ytlemkgdbefmeeaa
open Go.RowKit Go.Deep

abbrev Nm := List UInt8
theorem Try.info9 : (Try.prog.info? 9).map (fun i => (i.zero, i.size, i.bytes)) = some (some (.string ⟨#[]⟩), 1, 16) := by kernel_rfl
def sortL (l : List (List UInt8)) : List (List UInt8) := l.mergeSort fun x y => decide (x ≤ y)
def LtN (a b : Nm) : Prop := Lib.compareBytes a b = -1
theorem nm_range : ∀ a b : Nm, Lib.compareBytes a b = -1 ∨ Lib.compareBytes a b = 0 ∨ Lib.compareBytes a b = 1
  | [], [] => by simp [Lib.compareBytes]
  | [], _ :: _ => by simp [Lib.compareBytes]
  | _ :: _, [] => by simp [Lib.compareBytes]
  | a :: u, b :: v => by
    have := nm_range u v
    rw [Lib.compareBytes]
    split
    · omega
    · split <;> omega
theorem ltN_irrefl (a : Nm) : ¬ LtN a a := fun h => by have := bytes_refl a; unfold LtN at h; omega
theorem ltN_trans {a b c : Nm} (h : LtN a b) (k : LtN b c) : LtN a c := by
  unfold LtN at *
  have := (bytes_cons a b c).lt (by omega) (by omega)
  have := nm_range a c
  omega
theorem ltN_asymm {a b : Nm} (h : LtN a b) : ¬ LtN b a := fun k => ltN_irrefl a (ltN_trans h k)
theorem ltN_total {a b : Nm} (h1 : ¬ LtN a b) (h2 : a ≠ b) : LtN b a := by
  unfold LtN at *
  have := nm_range a b
  have := bytes_anti a b
  have : Lib.compareBytes a b ≠ 0 := fun h => h2 (bytes_zero h)
  omega
/-- Strictly rising. -/
def SS (l : List Nm) : Prop := l.Pairwise LtN
theorem ss_unique : ∀ (l m : List Nm), SS l → SS m → (∀ x, x ∈ l ↔ x ∈ m) → l = m
  | [], [], _, _, _ => rfl
  | [], b :: m, _, _, h => absurd ((h b).2 (by simp)) (by simp)
  | a :: l, [], _, _, h => absurd ((h a).1 (by simp)) (by simp)
  | a :: l, b :: m, hl, hm, h => by
    obtain ⟨ha, hl'⟩ := List.pairwise_cons.1 hl
    obtain ⟨hb, hm'⟩ := List.pairwise_cons.1 hm
    have e : a = b := by
      rcases List.mem_cons.1 ((h a).1 (by simp)) with e | e
      · exact e
      · rcases List.mem_cons.1 ((h b).2 (by simp)) with e' | e'
        · exact e'.symm
        · exact absurd (hb a e) (ltN_asymm (ha b e'))
    subst e
    rw [ss_unique l m hl' hm' (fun x => ?_)]
    constructor
    · intro hx
      rcases List.mem_cons.1 ((h x).1 (by simp [hx])) with e | e
      · subst e; exact absurd (ha x hx) (ltN_irrefl x)
      · exact e
    · intro hx
      rcases List.mem_cons.1 ((h x).2 (by simp [hx])) with e | e
      · subst e; exact absurd (hb x hx) (ltN_irrefl x)
      · exact e

theorem compact_is (d : Array Nm) (hs : ∀ i j, i < j → j < d.size → ¬ LtN d[j]! d[i]!) : ∀ m, m ≤ d.size → SS (Lib.compactUpTo d m) ∧ (∀ x, x ∈ Lib.compactUpTo d m ↔ ∃ j, j < m ∧ d[j]! = x)
  | 0, _ => ⟨by simp [Lib.compactUpTo, SS], by simp [Lib.compactUpTo]⟩
  | m + 1, hm => by
    obtain ⟨h1, h2⟩ := compact_is d hs m (by omega)
    rw [Lib.compactUpTo_succ]
    cases hk : Lib.keeps d m
    · simp only [Bool.false_eq_true, if_false, List.append_nil]
      refine ⟨h1, fun x => (h2 x).trans ⟨fun ⟨j, hj, e⟩ => ⟨j, by omega, e⟩, fun ⟨j, hj, e⟩ => ?_⟩⟩
      rcases Nat.lt_succ_iff_lt_or_eq.1 hj with hj | rfl
      · exact ⟨j, hj, e⟩
      · unfold Lib.keeps at hk
        simp at hk
        exact ⟨j - 1, by omega, by rw [← e]; exact hk.2.symm⟩
    · simp only [if_true]
      constructor
      · refine List.pairwise_append.2 ⟨h1, by simp, fun a ha b hb => ?_⟩
        simp at hb
        subst hb
        obtain ⟨j, hj, e⟩ := (h2 a).1 ha
        subst e
        have hne : d[m]! ≠ d[m - 1]! := by
          unfold Lib.keeps at hk
          simp at hk
          rcases hk with hk | hk
          · omega
          · exact hk
        have hlast : LtN d[m - 1]! d[m]! := ltN_total (hs (m - 1) m (by omega) (by omega)) hne
        by_cases hj1 : j = m - 1
        · subst hj1; exact hlast
        · have := hs j (m - 1) (by omega) (by omega)
          by_cases he : d[j]! = d[m - 1]!
          · rw [he]; exact hlast
          · exact ltN_trans (ltN_total this (fun e => he e.symm)) hlast
      · intro x
        rw [List.mem_append, h2 x]
        simp only [List.mem_singleton]
        constructor
        · rintro (⟨j, hj, e⟩ | e)
          · exact ⟨j, by omega, e⟩
          · exact ⟨m, by omega, e.symm⟩
        · rintro ⟨j, hj, e⟩
          rcases Nat.lt_succ_iff_lt_or_eq.1 hj with hj | rfl
          · exact .inl ⟨j, hj, e⟩
          · exact .inr e.symm
theorem sort_pairwise (l : List Nm) : (sortL l).Pairwise (fun a b => ¬ LtN b a) := by
  have h := List.pairwise_mergeSort (le := fun x y : Nm => decide (x ≤ y)) (fun a b c hab hbc => ?_) (fun a b => ?_) l
  · refine h.imp fun {a b} hab => ?_
    have hab' : ¬ b < a := by simpa using hab
    exact fun h => hab' ((lt_bytes b a).2 h)
  · have h1 : ¬ b < a := by simpa using hab
    have h2 : ¬ c < b := by simpa using hbc
    have : ¬ c < a := fun h3 => by
      have k3 := (lt_bytes c a).1 h3
      have k1 : ¬ LtN b a := fun h => h1 ((lt_bytes b a).2 h)
      have k2 : ¬ LtN c b := fun h => h2 ((lt_bytes c b).2 h)
      by_cases e : a = b
      · subst e; exact k2 k3
      · exact k2 (ltN_trans k3 (ltN_total k1 (fun e' => e e'.symm)))
    simpa using this
  · by_cases h1 : a < b
    · have : ¬ b < a := fun h2 => ltN_asymm ((lt_bytes a b).1 h1) ((lt_bytes b a).1 h2)
      have : decide (a ≤ b) = true := by simpa using this
      rw [this, Bool.true_or]
    · have : decide (b ≤ a) = true := by simpa using h1
      rw [this, Bool.or_true]
theorem vars_ss (ss : List Nm) : SS (Lib.compact (sortL ss)) ∧ ∀ x, x ∈ Lib.compact (sortL ss) ↔ x ∈ ss := by
  have hs : ∀ i j, i < j → j < (sortL ss).toArray.size → ¬ LtN (sortL ss).toArray[j]! (sortL ss).toArray[i]! := by
    intro i j hij hj
    have hj' : j < (sortL ss).length := by simpa using hj
    have := List.pairwise_iff_getElem.1 (sort_pairwise ss) i j (by omega) hj' hij
    simpa [getElem!_pos, hj', show i < (sortL ss).length by omega] using this
  obtain ⟨h1, h2⟩ := compact_is (sortL ss).toArray hs (sortL ss).length (by simp)
  refine ⟨h1, fun x => ?_⟩
  unfold Lib.compact
  rw [h2 x]
  have hm : x ∈ ss ↔ x ∈ sortL ss := by unfold sortL; simp
  rw [hm, List.mem_iff_getElem]
  constructor
  · rintro ⟨j, hj, e⟩
    exact ⟨j, hj, by simpa [getElem!_pos, hj] using e⟩
  · rintro ⟨j, hj, e⟩
    exact ⟨j, hj, by simpa [getElem!_pos, hj] using e⟩
theorem vars_unique {ss out : List Nm} (h : SS out) (hm : ∀ x, x ∈ out ↔ x ∈ ss) : out = Lib.compact (sortL ss) :=
  ss_unique _ _ h (vars_ss ss).1 (fun x => (hm x).trans ((vars_ss ss).2 x).symm)
/-- One more name at its place. -/
theorem ss_insert {out : List Nm} {s : Nm} {k : Nat} (h : SS out) (hk : k ≤ out.length) (hi : ∀ i (h : i < out.length), k ≤ i → LtN s out[i]) (lo : k = 0 ∨ ∃ h : k - 1 < out.length, LtN out[k - 1] s) : SS (out.take k ++ [s] ++ out.drop k) := by
  have hlow : ∀ a ∈ out.take k, LtN a s := by
    intro a ha
    obtain ⟨i, hi', rfl⟩ := List.getElem_of_mem ha
    rw [List.getElem_take]
    have hik : i < k := by simp at hi'; omega
    rcases lo with lo | ⟨hlt, lo⟩
    · omega
    · by_cases e : i = k - 1
      · subst e; exact lo
      · exact ltN_trans (List.pairwise_iff_getElem.1 h i (k - 1) (by simp at hi'; omega) hlt (by omega)) lo
  have hhigh : ∀ b ∈ out.drop k, LtN s b := by
    intro b hb
    obtain ⟨i, hi', rfl⟩ := List.getElem_of_mem hb
    rw [List.getElem_drop]
    exact hi _ (by simp at hi'; omega) (by omega)
  have hb : out = out.take k ++ out.drop k := (List.take_append_drop k out).symm
  have hcross : ∀ a ∈ out.take k, ∀ b ∈ out.drop k, LtN a b := fun a ha b hb => ltN_trans (hlow a ha) (hhigh b hb)
  rw [List.append_assoc]
  refine List.pairwise_append.2 ⟨h.sublist (List.take_sublist k out), ?_, fun a ha b hb => ?_⟩
  · exact List.pairwise_append.2 ⟨by simp, h.sublist (List.drop_sublist k out), fun a ha b hb => by simp at ha; subst ha; exact hhigh b hb⟩
  · rcases List.mem_append.1 hb with hb | hb
    · simp at hb; subst hb; exact hlow a ha
    · exact hcross a ha b hb
theorem mem_insert {out : List Nm} {s x : Nm} {k : Nat} : x ∈ out.take k ++ [s] ++ out.drop k ↔ x ∈ out ∨ x = s := by
  have : x ∈ out ↔ x ∈ out.take k ∨ x ∈ out.drop k := by
    rw [← List.mem_append, List.take_append_drop]
  simp only [List.mem_append, List.mem_singleton, this]
  constructor
  · rintro ((h | h) | h)
    · exact .inl (.inl h)
    · exact .inr h
    · exact .inl (.inr h)
  · rintro ((h | h) | h)
    · exact .inl (.inl h)
    · exact .inr h
    · exact .inl (.inr h)
end Go.Proofs.Ytlemkgdbefmeeaa
/- What the document's names gathers. -/
namespace Go.Proofs.Ytlemkgdbefmeeaa
open Go.RowKit Go.Deep

def namesN (x : ByteArray × Int) : List Nm := if noName x.1 then [] else [x.1.data.toList]
def namesFo : Fo → List Nm
  | .nil => []
  | .node _ _ x l r => (namesN x ++ namesFo l) ++ namesFo r
set_option maxRecDepth 100000 in
theorem namesN_len (x : ByteArray × Int) : (namesN x).length ≤ 1 := by unfold namesN; split <;> simp
set_option maxRecDepth 100000 in
theorem namesFo_len : ∀ F : Fo, (namesFo F).length ≤ nodesF F
  | .nil => Nat.le_refl _
  | .node _ _ x l r => by
    have := namesN_len x
    have := namesFo_len l
    have := namesFo_len r
    simp only [namesFo, List.length_append, nodesF]; omega

/-- Below nothing has turned, beyond no cells but rows of texts. -/
structure Nv (B : Nat) (W W' : World) : Prop where
  low : Below B W W'
  cells : ∀ (k : Nat) (cs : Array Value) (t : TypeId) (fr : Nat × Nat), W.heap[k]? = some (Obj.cells cs t fr) → t ≠ 9 → W'.heap[k]? = some (Obj.cells cs t fr)
set_option maxRecDepth 100000 in
theorem Nv.refl (B : Nat) (W : World) : Nv B W W := ⟨Below.refl _ _, fun _ _ _ _ h _ => h⟩
set_option maxRecDepth 100000 in
theorem Nv.trans {B : Nat} {X Y Z : World} (h : Nv B X Y) (k : Nv B Y Z) : Nv B X Z := ⟨h.low.trans k.low, fun i cs t fr hi ht => k.cells i cs t fr (h.cells i cs t fr hi ht) ht⟩
set_option maxRecDepth 100000 in
theorem Nv.of_below {B : Nat} {X Y : World} (h : Below X.heap.size X Y) (hB : B ≤ X.heap.size) : Nv B X Y := ⟨h.mono hB, fun k _ _ _ hk _ => (h.block k (Array.getElem?_eq_some_iff.1 hk).1).trans hk⟩
set_option maxRecDepth 100000 in
theorem Nv.grown {B : Nat} {X Y : World} {row : Option Nat} (hg : X.grownBy Y row) (hB : B ≤ X.heap.size) (hr : ∀ r, row = some r → B ≤ r ∧ ∃ cs fr, X.heap[r]? = some (Obj.cells cs 9 fr)) : Nv B X Y :=
  ⟨(Below.refl B X).grown hg hB (fun k e => (hr k e).1), fun k cs t fr hk h9 => by
    refine (hg.block k (Array.getElem?_eq_some_iff.1 hk).1 (fun e => ?_)).trans hk
    obtain ⟨_, cs', fr', h'⟩ := hr k e.symm
    rw [hk] at h'
    cases h'
    exact h9 rfl⟩
set_option maxRecDepth 100000 in
theorem Nv.append {B k : Nat} {X Y : World} {v : Value} {xs : List Value} {o : Obj} (hr : X.ownsRow B 9 1 v k xs) (hg : (X.alloc o).grownBy Y v.ownBlock) (hB : B ≤ X.heap.size) : Nv B X Y :=
  (Nv.of_below ((Below.refl _ X).alloc (Nat.le_refl _) o) hB).trans (Nv.grown hg (by simp; omega) (fun r e => by
    obtain ⟨h1, cur, h2⟩ := owns_cells (hr.alloc o) e
    exact ⟨h1, cur, _, h2⟩))
set_option maxRecDepth 100000 in
theorem TBox.nv {B0 : Nat} {W W' : World} {B : Nat} {x : ByteArray × Int} {a : Option Addr} {n c : Nat} (h : TBox W B x a n c) (hm : Nv B0 W W') : TBox W' B x a n c := hm.cells _ _ _ _ h (by decide)

def NamesOk (k : Nat) : Prop := ∀ (w0 : World) (x : ByteArray × Int) (l : Fo) (a : Option Addr) (c : Nat) (v : Value) (ss : List Nm) (w : World), nodesF l ≤ k → TmAt w0 x a c l → Below w0.heap.size w0 w → w.ownsRow w0.heap.size 9 1 v ss.length (ss.map encStr) → (ss.length + nodesF l + 2) * 16 ≤ 140737488355328 →
  Calls Try.prog 46 #[.agg #[.string x.1, .int .i64 x.2, .slice a (lenF l) c], v] w fun e w' => ∃ v', e = .returned v' ∧ w'.ownsRow w0.heap.size 9 1 v' (ss ++ (namesN x ++ namesFo l)).length ((ss ++ (namesN x ++ namesFo l)).map encStr) ∧ Nv w0.heap.size w w'

set_option maxRecDepth 100000 in
set_option maxHeartbeats 2000000 in
theorem names_all : ∀ k, NamesOk k := by
  intro k
  induction k using Nat.strongRecOn with
  | _ k ih =>
    intro w0 x l a c v ss w hk hT hlow hrow hbig
    obtain ⟨i0, hi, hz0, hz1, hz2⟩ := info_parts Try.info9
    have HT : Hid (TmAt w0 x a c l) := hT
    have IH : Hid (∀ j, j < k → NamesOk j) := ih
    have hn := len_nodes l
    have hsz := hlow.size
    have bA : ss.length + 1 ≤ maxLen := by
      have h : ss.length ≤ 8796093022208 := by clear hk; omega
      exact Nat.le_trans (Nat.succ_le_succ h) (by decide)
    have bB : (ss.length + 1) * 16 ≤ 140737488355328 := Nat.le_trans (Nat.mul_le_mul_right 16 (by omega)) hbig
    have hb0 : Below w.heap.size w (w.alloc (.cells #[.string x.1, .int .i64 x.2, .slice a (lenF l) c] 26)) := (Below.refl _ w).alloc (Nat.le_refl _) _
    have bT : Hid (TBox (w.alloc (.cells #[.string x.1, .int .i64 x.2, .slice a (lenF l) c] 26)) w.heap.size x a (lenF l) c) := TBox.new w x a (lenF l) c
    have N0 : Hid (Nv w0.heap.size w (w.alloc (.cells #[.string x.1, .int .i64 x.2, .slice a (lenF l) c] 26))) := Nv.of_below hb0 hsz
    have hrow0 : Hid ((w.alloc (.cells #[.string x.1, .int .i64 x.2, .slice a (lenF l) c] 26)).ownsRow w0.heap.size 9 1 v ss.length (ss.map encStr)) := hrow.alloc (.cells #[.string x.1, .int .i64 x.2, .slice a (lenF l) c] 26)
    have HLOW : Hid (Below w0.heap.size w0 w) := hlow
    clear hT ih hrow hb0 hlow
    cases hx : x.1.toList.isEmpty
    case' false =>
      have hN : Hid (namesN x = [x.1.data.toList]) := by show _ = _; unfold namesN noName; rw [hx]; rfl
      have hone : Hid (∀ u ∈ [Value.string x.1], u.oneCell' = true) := by intro u hu; simp at hu; subst hu; rfl
      have hnews : Hid (∀ (i : Nat) (u : Value), [Value.string x.1][i]? = some u → ((w.alloc (.cells #[.string x.1, .int .i64 x.2, .slice a (lenF l) c] 26)).alloc (.cells #[.string x.1] 9)).cell? ((⟨w.heap.size + 1, 0, none⟩ : Addr).add i) = some u) := by
        have h := World.news_of_block (heap_alloc_new (w.alloc (.cells #[.string x.1, .int .i64 x.2, .slice a (lenF l) c] 26)) (.cells #[.string x.1] 9))
        rw [World.size_alloc] at h; exact h
      go_enter Try.func46, Try.ntmps46
      go_wp2_with (at_builtin; refine wpList_append_own _ rfl _ _ 40 rfl w0.heap.size 9 i0 (.string ⟨#[]⟩) 1 16 Try.underlying40 hi hz0 hz1 hz2 rfl (by decide) v ss.length (ss.map encStr) rfl (hrow0.out.alloc _) ⟨w.heap.size + 1, 0, none⟩ 1 1 [.string x.1] rfl rfl hnews.out hone.out bA bB (by rw [World.size_alloc, World.size_alloc]; exact Nat.le_succ_of_le (Nat.le_succ_of_le hsz)) ?_; intro v' w1 hown' hgrow _; obtain ⟨g', cap', rfl⟩ := ownsRow_succ hown'; have NA : Hid (Nv w0.heap.size (w.alloc (.cells #[.string x.1, .int .i64 x.2, .slice a (lenF l) c] 26)) w1) := Nv.append hrow0.out hgrow (by rw [World.size_alloc]; exact Nat.le_succ_of_le hsz); have HO1 : Hid (w1.ownsRow w0.heap.size 9 1 (.slice (some ⟨g', 0, none⟩) (ss.length + 1) cap') (ss.length + 1) (ss.map encStr ++ [.string x.1])) := hown'; clear hown' hgrow)
      have hS1 : Hid (w1.ownsRow w0.heap.size 9 1 (.slice (some ⟨g', 0, none⟩) (ss.length + 1) cap') (ss ++ namesN x).length ((ss ++ namesN x).map encStr)) := by
        show World.ownsRow _ _ _ _ _ _ _
        rw [hN.out, List.length_append, List.map_append]
        exact HO1.out
      have hN1 : Hid (Nv w0.heap.size w w1) := N0.out.trans NA.out
      have hB1 : Hid (TBox w1 w.heap.size x a (lenF l) c) := bT.out.nv NA.out
      clear NA HO1 hN hone hnews bT N0 hrow0
    case' true =>
      have hN : Hid (namesN x = []) := by show _ = _; unfold namesN noName; rw [hx]; rfl
      have hS1 : Hid ((w.alloc (.cells #[.string x.1, .int .i64 x.2, .slice a (lenF l) c] 26)).ownsRow w0.heap.size 9 1 v (ss ++ namesN x).length ((ss ++ namesN x).map encStr)) := by rw [hN.out, List.append_nil]; exact hrow0.out
      have hN1 := N0
      have hB1 := bT
      clear hN bT N0 hrow0
      go_enter Try.func46, Try.ntmps46
      go_wp2
    all_goals
      have hlN := namesN_len x
      go_loopw [1, 5] (fun lv i wr => ∃ (j : Nat) (done : List Nm) (v2 : Value), j ≤ lenF l ∧ v2 = lv ∧ i = .int .i64 j ∧ wr.ownsRow w0.heap.size 9 1 v2 done.length (done.map encStr) ∧ Nv w0.heap.size w wr ∧ TBox wr w.heap.size x a (lenF l) c ∧ done ++ namesFo (dropF j l) = ss ++ (namesN x ++ namesFo l) ∧ done.length + nodesF (dropF j l) ≤ ss.length + 1 + nodesF l) (fun _ i _ => lenF l - (intOf i).toNat)
      case atStart => exact ⟨0, ss ++ namesN x, _, Nat.zero_le _, rfl, rfl, hS1.out, hN1.out, hB1.out, by rw [drop_zero]; simp, by rw [drop_zero, List.length_append]; omega⟩
      case round =>
        obtain ⟨j, done, v2, hj, rfl, rfl, hR, hV, hB, hD, hcnt⟩ := hrel
        have t2 := hB.c2
        have HR : Hid (wr.ownsRow w0.heap.size 9 1 v2 done.length (done.map encStr)) := hR
        have HV : Hid (Nv w0.heap.size w wr) := hV
        have HB : Hid (TBox wr w.heap.size x a (lenF l) c) := hB
        have HL : Hid (Below w0.heap.size w0 wr) := HLOW.out.trans hV.low
        clear hR hV hB hS1 hN1 hB1
        by_cases hlt : j < lenF l
        · obtain ⟨b1, o1, rfl, hk1⟩ := HT.out.args.get (by omega)
          obtain ⟨z, a1, c1, l1, kd⟩ := hk1.kid (k := j) hlt
          have kd' := kd.below HL.out
          obtain ⟨B1, O1, s1⟩ := kd.split
          rw [s1, namesFo] at hD
          rw [s1, nodesF] at hcnt
          have hz1' := namesN_len z
          have hz2' := namesFo_len l1
          have HD : Hid (done ++ ((namesN z ++ namesFo l1) ++ namesFo (dropF (j + 1) l)) = ss ++ (namesN x ++ namesFo l)) := hD
          have q0 := kd'.name; have q1 := kd'.sym; have q2 := kd'.list
          have hC := IH.out (nodesF l1) (by have := kd.less; omega) w0 z l1 a1 c1 v2 done wr (Nat.le_refl _) kd.at_ HL.out HR.out (Nat.le_trans (Nat.mul_le_mul_right 16 (by omega)) hbig)
          clear kd kd' hk1 s1 hD
          go_wp2_with fail
          refine hC.mono ?_
          rintro e w2 ⟨v3, rfl, hr3, hn3⟩
          have HR3 : Hid (w2.ownsRow w0.heap.size 9 1 v3 (done ++ (namesN z ++ namesFo l1)).length ((done ++ (namesN z ++ namesFo l1)).map encStr)) := hr3
          have HN3 : Hid (Nv w0.heap.size wr w2) := hn3
          clear hC hr3 hn3 q0 q1 q2 t2
          go_wp2
          go_roundw
          case rel => exact ⟨j + 1, _, _, by omega, rfl, by go_num, HR3.out, HV.out.trans HN3.out, HB.out.nv HN3.out, by rw [← HD.out]; simp, by simp only [List.length_append]; omega⟩
          case measure => simp [intOf]; omega
        · have e1 : j = lenF l := by omega
          rw [e1, drop_end, namesFo, List.append_nil] at hD
          subst hD
          go_wp2
          go_ret
          exact ⟨v2, rfl, HR.out, HV.out⟩
end Go.Proofs.Ytlemkgdbefmeeaa
/- What the document's Names and Vars answer. -/
namespace Go.Proofs.Ytlemkgdbefmeeaa
open Go.RowKit Go.Deep

/-- The slice with this address holds these texts. -/
structure TextsAt (w : World) (a : Option Addr) (n : Nat) (ss : List Nm) : Prop where
  len : n = ss.length
  cells : ∀ i (h : i < ss.length), ∃ b off, a = some ⟨b, off, none⟩ ∧ w.cell? ⟨b, off + i, none⟩ = some (.string ⟨ss[i].toArray⟩)
set_option maxRecDepth 100000 in
theorem TextsAt.below {w w' : World} {a : Option Addr} {n : Nat} {ss : List Nm} (h : TextsAt w a n ss) (hb : Below w.heap.size w w') : TextsAt w' a n ss :=
  ⟨h.len, fun i hi => by obtain ⟨b, off, ha, hc⟩ := h.cells i hi; exact ⟨b, off, ha, below_cell hb _ _ hc⟩⟩
set_option maxRecDepth 100000 in
theorem texts_of_owns {w : World} {base n : Nat} {v : Value} {ss : List Nm} (h : w.ownsRow base 9 1 v n (ss.map encStr)) : ∃ a cap, v = .slice a n cap ∧ n ≤ cap ∧ cap ≤ maxLen ∧ TextsAt w a n ss ∧ (a = none → n = 0 ∧ cap = 0) ∧ (∀ b off sp, a = some ⟨b, off, sp⟩ → base ≤ b ∧ off = 0 ∧ sp = none ∧ ∃ cur, w.heap[b]? = some (Obj.cells cur 9 (0, 0))) := by
  have hl : ss.length = n := by simpa using h.1
  rcases h.2 with ⟨rfl, h0⟩ | ⟨g, cap, cur, rfl, hb, hg, hnc, hcm, hsz, hcur⟩
  · exact ⟨none, 0, by rw [h0], by omega, by simp, ⟨by omega, fun i hi => by omega⟩, fun _ => ⟨h0, rfl⟩, fun b off sp e => by cases e⟩
  · refine ⟨_, cap, rfl, hnc, hcm, ⟨hl.symm, fun i hi => ⟨g, 0, rfl, ?_⟩⟩, (fun e => by cases e), (fun b off sp e => by cases e; exact ⟨hb, rfl, rfl, cur, hg⟩)⟩
    exact owns_at h i _ (by simp [hi])
set_option maxRecDepth 100000 in
theorem less_bytes (a b : Nm) : Op.bytesLess a b = decide (Lib.compareBytes a b = -1) := by
  rw [bytesLess_eq]
  exact decide_eq_decide.2 (lt_bytes _ _)

set_option maxRecDepth 100000 in
theorem own_empty9 (w : World) : (w.alloc (.cells #[] 9)).ownsRow w.heap.size 9 1 (.slice (some ⟨w.heap.size, 0, none⟩) 0 0) 0 [] :=
  ⟨rfl, Or.inr ⟨w.heap.size, 0, #[], rfl, Nat.le_refl _, heap_alloc_new w _, Nat.le_refl _, by simp, rfl, rfl⟩⟩
set_option maxRecDepth 100000 in
theorem own_base9 {w : World} {B B' k : Nat} {v : Value} {xs : List Value} (h : w.ownsRow B 9 1 v k xs) (hB : B' ≤ B) : w.ownsRow B' 9 1 v k xs := by
  refine ⟨h.1, ?_⟩
  rcases h.2 with h | ⟨g, cap, cur, h1, h2, h3⟩
  · exact .inl h
  · exact .inr ⟨g, cap, cur, h1, by omega, h3⟩
set_option maxRecDepth 100000 in
theorem enc_one (l : List Nm) : ∀ u ∈ l.map encStr, u.oneCell' = true := by
  intro u hu
  obtain ⟨x, _, rfl⟩ := List.mem_map.1 hu
  rfl
set_option maxRecDepth 100000 in
/-- Where a piece of a list of texts lies. -/
theorem texts_news {w : World} {g n : Nat} {out : List Nm} (h : TextsAt w (some ⟨g, 0, none⟩) n out) (m : Nat) : ∀ j u, ((out.drop m).map encStr)[j]? = some u → w.cell? ((⟨g, m, none⟩ : Addr).add j) = some u := by
  intro j u hu
  have e : (⟨g, m, none⟩ : Addr).add j = ⟨g, m + j, none⟩ := by unfold Addr.add; split <;> simp_all
  rw [e]
  rw [List.getElem?_map, List.getElem?_drop] at hu
  rcases Nat.lt_or_ge (m + j) out.length with hlt | hge
  · rw [List.getElem?_eq_getElem hlt] at hu
    simp only [Option.map_some, Option.some.injEq] at hu
    subst hu
    obtain ⟨b, off, hb, hc⟩ := h.cells (m + j) hlt
    cases hb
    rw [Nat.zero_add] at hc
    exact hc
  · rw [List.getElem?_eq_none hge] at hu; cases hu
set_option maxRecDepth 100000 in
theorem texts_front {w : World} {g n : Nat} {out : List Nm} (h : TextsAt w (some ⟨g, 0, none⟩) n out) (m : Nat) : ∀ j u, ((out.take m).map encStr)[j]? = some u → w.cell? ((⟨g, 0, none⟩ : Addr).add j) = some u := by
  intro j u hu
  refine texts_news h 0 j u ?_
  rw [List.drop_zero]
  rw [List.getElem?_map] at hu ⊢
  rw [List.getElem?_take] at hu
  split at hu
  · exact hu
  · cases hu

set_option maxRecDepth 100000 in
set_option maxHeartbeats 4000000 in
theorem Names_any (a : Option Addr) (n cap : Nat) (ss : List Nm) (w : World) (hS : TextsAt w a n ss) (hn : n ≤ 1048576) :
    Calls Try.prog 45 #[.slice a n cap] w fun e w' => ∃ v, e = .returned v ∧ w'.ownsRow w.heap.size 9 1 v (Lib.compact (sortL ss)).length ((Lib.compact (sortL ss)).map encStr) ∧ Below w.heap.size w w' := by
  obtain ⟨i0, hi, hz0, hz1, hz2⟩ := info_parts Try.info9
  obtain rfl := hS.len
  have HS : Hid (TextsAt w a ss.length ss) := hS
  clear hS
  go_enter Try.func45, Try.ntmps45
  go_wp2
  go_loopw [3, 4, 5, 6] (fun ov i _ _ wr => ∃ (k : Nat) (v : Value) (out : List Nm), k ≤ ss.length ∧ v = ov ∧ i = .int .i64 k ∧ (wr.ownsRow w.heap.size 9 1 v out.length (out.map encStr) ∧ Below w.heap.size w wr) ∧ SS out ∧ (∀ x, x ∈ out ↔ x ∈ ss.take k) ∧ out.length ≤ k) (fun _ i _ _ _ => ss.length - (intOf i).toNat)
  case atStart => exact ⟨0, _, [], Nat.zero_le _, rfl, rfl, ⟨World.ownsRow_nil _ _ _ _, Below.refl _ _⟩, by simp [SS], by simp, by simp⟩
  case round =>
    obtain ⟨k, v, out, hk, rfl, rfl, ⟨hrow, hlow⟩, hss, hmem, hol⟩ := hrel
    have HR : Hid (wr.ownsRow w.heap.size 9 1 v out.length (out.map encStr)) := hrow
    have HL : Hid (Below w.heap.size w wr) := hlow
    have HSS : Hid (SS out) := hss
    have HM : Hid (∀ x, x ∈ out ↔ x ∈ ss.take k) := hmem
    clear hrow hlow hss hmem
    by_cases hlt : k < ss.length
    · obtain ⟨b, off, rfl, hs0⟩ := HS.out.cells k (by omega)
      obtain ⟨s, hsd⟩ : ∃ s, ss[k]'(by omega) = s := ⟨_, rfl⟩
      rw [hsd] at hs0
      have hs1 := below_cell HL.out _ _ hs0
      obtain ⟨oa, ocap, rfl, hoc, hocm, hot, honil, hosome⟩ := texts_of_owns HR.out
      obtain ⟨wo, rfl⟩ : ∃ wo, wo = wr := ⟨wr, rfl⟩
      have HOT : Hid (TextsAt wo oa out.length out) := hot
      have HSK : Hid (∀ x, x ∈ ss.take (k + 1) ↔ x ∈ ss.take k ∨ x = s) := fun x => by
        rw [List.take_add_one, List.getElem?_eq_getElem (by omega), hsd]; simp
      clear hot hs0 hsd
      have hne := Nonempty.intro (Later.mk wo (Below.refl _ _))
      rcases oa with _ | ⟨g, o2, sp⟩
      · obtain ⟨ho0, rfl⟩ := honil rfl
        obtain rfl : out = [] := List.length_eq_zero_iff.1 ho0
        clear ho0 hosome honil HOT
        have hd : decide (0 < 0) = false := by simp
        have hjn : (k : Int) < (ss.length : Int) := by omega
        go_wp2
        go_loopw [5] (fun av W => av = .int .i64 0 ∧ Below wo.heap.size wo W) (fun av _ => (intOf av).toNat)
        case atStart => exact ⟨rfl, Below.refl _ _⟩
        case round =>
          obtain ⟨rfl, hW⟩ := hrel
          have HW : Hid (Below wo.heap.size wo wr) := hW
          have hs2 := below_cell hW _ _ hs1
          have hne2 := later_some wr
          have d0 := later_cell hs2
          clear hW
          go_wp2_with fail
          refine wp_region_later (by kernel_rfl) (by kernel_rfl) ?_
          repeat (go_big_quiet_step (fail))
          refine wpQuiet_nil ?_
          intro _ hw'
          obtain ⟨b2, hw''⟩ := hw'
          subst hw''
          have hs3 := d0 b2
          have HW2 : Hid (Below wo.heap.size wo b2.now) := HW.out.trans (b2.below.mono HW.out.size)
          clear d0 hne2 hs2
          have hne3 := later_some b2.now
          have d0 := later_cell hs3
          go_wp2
          refine wp_region_later (by kernel_rfl) (by kernel_rfl) ?_
          repeat (go_big_quiet_step (fail))
          refine wpQuiet_nil ?_
          intro _ hw'
          obtain ⟨b3, hw''⟩ := hw'
          subst hw''
          have HW3 : Hid (Below wo.heap.size wo b3.now) := HW2.out.trans (b3.below.mono HW2.out.size)
          have hs4 := d0 b3
          clear d0 hne3 hs3 HW2 HW
          obtain ⟨W9, hW9⟩ : ∃ W9, b3.now = W9 := ⟨_, rfl⟩
          rw [hW9] at HW3 hs4 ⊢
          clear hW9
          have hB9 : Hid (Below W9.heap.size W9 (W9.alloc (.cells #[] 9))) := (Below.refl _ _).alloc (Nat.le_refl _) _
          have hone : Hid (∀ u ∈ [Value.string ⟨s.toArray⟩], u.oneCell' = true) := by intro u hu; simp at hu; subst hu; rfl
          have hs5 := below_cell hB9.out _ _ hs4
          have hnews : Hid (∀ (i : Nat) (u : Value), [Value.string ⟨s.toArray⟩][i]? = some u → ((W9.alloc (.cells #[] 9)).alloc (.cells #[.string ⟨s.toArray⟩] 9)).cell? ((⟨W9.heap.size + 1, 0, none⟩ : Addr).add i) = some u) := by
            have h := World.news_of_block (heap_alloc_new (W9.alloc (.cells #[] 9)) (.cells #[.string ⟨s.toArray⟩] 9))
            rw [World.size_alloc] at h; exact h
          go_wp2_with (at_builtin; first | (refine wpList_append_own _ rfl (.tmp 50) (.tmp 55) 40 rfl W9.heap.size 9 i0 (.string ⟨#[]⟩) 1 16 Try.underlying40 hi hz0 hz1 hz2 rfl (by decide) _ 0 [] rfl ((own_empty9 W9).alloc _) ⟨W9.heap.size + 1, 0, none⟩ 1 1 [.string ⟨s.toArray⟩] rfl rfl hnews.out hone.out (by decide) (by decide) (by rw [World.size_alloc, World.size_alloc]; omega) ?_; intro v' w1 hown' hgrow _; obtain ⟨g', cap', rfl⟩ := ownsRow_succ hown'; have HG : Hid (((W9.alloc (.cells #[] 9)).alloc (.cells #[.string ⟨s.toArray⟩] 9)).grownBy w1 (some W9.heap.size)) := hgrow; have HO1 : Hid (w1.ownsRow W9.heap.size 9 1 (.slice (some ⟨g', 0, none⟩) 1 cap') 1 [.string ⟨s.toArray⟩]) := hown'; clear hown' hgrow) | (refine wpList_append_own_none rfl (.tmp 57) (.tmp 60) 40 rfl W9.heap.size 9 i0 1 Try.underlying40 hi _ 1 [.string ⟨s.toArray⟩] rfl HO1.out rfl ?_))
          go_roundw
          case rel =>
            have hb1 : Below W9.heap.size W9 w1 := (hB9.out.alloc (by rw [World.size_alloc]; omega) _).grown HG.out (by rw [World.size_alloc, World.size_alloc]; omega) (fun k e => by cases e; exact Nat.le_refl _)
            have hb2 : Below w.heap.size w w1 := HL.out.trans ((HW3.out.trans (hb1.mono HW3.out.size)).mono HL.out.size)
            refine ⟨k + 1, _, [s], by omega, rfl, by go_num, ⟨own_base9 HO1.out (Nat.le_trans HL.out.size HW3.out.size), hb2⟩, by simp [SS], fun x => ?_, by simp⟩
            rw [HSK.out x, ← HM.out x]
            simp
          case measure => simp [intOf]; omega
      · obtain ⟨_, rfl, rfl, _⟩ := hosome g o2 sp rfl
        have hne := Nonempty.intro (Later.mk wo (Below.refl _ _))
        go_wp2
        go_loopw [5] (fun av W => ∃ m : Nat, m ≤ out.length ∧ av = .int .i64 m ∧ Below wo.heap.size wo W ∧ ∀ i (h : i < out.length), m ≤ i → LtN s out[i]) (fun av _ => (intOf av).toNat)
        case atStart => exact ⟨out.length, Nat.le_refl _, rfl, Below.refl _ _, fun i h1 h2 => absurd h1 (by omega)⟩
        case round =>
          obtain ⟨m, hm, rfl, hW, hhi⟩ := hrel
          have HW : Hid (Below wo.heap.size wo wr) := hW
          have HHI : Hid (∀ i (h : i < out.length), m ≤ i → LtN s out[i]) := hhi
          have hs2 := below_cell hW _ _ hs1
          have hne2 := later_some wr
          have d0 := later_cell hs2
          clear hW hhi
          rcases Nat.eq_zero_or_pos m with hm0 | hm0
          case' inl =>
            have hd : decide (0 < m) = false := by simp; omega
            have HLO : Hid (m = 0 ∨ ∃ h : m - 1 < out.length, LtN out[m - 1] s) := .inl hm0
            clear hm0
            go_wp2_with fail
            refine wp_region_later (by kernel_rfl) (by kernel_rfl) ?_
            repeat (go_big_quiet_step (fail))
            refine wpQuiet_nil ?_
            intro _ hw'
            obtain ⟨b2, hw''⟩ := hw'
            subst hw''
            have hs3 := d0 b2
            have HW2 : Hid (Below wo.heap.size wo b2.now) := HW.out.trans (b2.below.mono HW.out.size)
            clear d0 hne2 hs2
            have hne3 := later_some b2.now
            have d0 := later_cell hs3
            go_wp2
            refine wp_region_later (by kernel_rfl) (by kernel_rfl) ?_
            repeat (go_big_quiet_step (fail))
            refine wpQuiet_nil ?_
            intro _ hw'
            obtain ⟨b3, hw''⟩ := hw'
            subst hw''
            have HW3 : Hid (Below wo.heap.size wo b3.now) := HW2.out.trans (b3.below.mono HW2.out.size)
            have hs4 := d0 b3
            clear d0 hne3 hs3 HW2 HW
            obtain ⟨W9, hW9⟩ : ∃ W9, b3.now = W9 := ⟨_, rfl⟩
            rw [hW9] at HW3 hs4 ⊢
            clear hW9
          case' inr =>
            obtain ⟨g2, o2, he2, ho0⟩ := HOT.out.cells (m - 1) (by omega)
            cases he2
            have ho1 := below_cell HW.out _ _ ho0
            obtain ⟨y, hy⟩ : ∃ y, out[m - 1]'(by omega) = y := ⟨_, rfl⟩
            rw [hy, Nat.zero_add] at ho1
            have HY : Hid (∃ h : m - 1 < out.length, out[m - 1] = y) := ⟨by omega, hy⟩
            have e0 := later_cell ho1
            have hL := less_bytes y s
            have hd : decide (0 < m) = true := by simp; omega
            have hk0 : (0 : Int) ≤ (m : Int) - 1 := by omega
            have hkn : (m : Int) - 1 < (out.length : Int) := by omega
            have hj0 : (0 : Int) ≤ (k : Int) := by omega
            have hjn : (k : Int) < (ss.length : Int) := by omega
            clear ho0 hy
            cases h1 : Op.bytesLess y s
            case' false =>
              cases h2 : (y == s)
              case false =>
                have hlt' : Hid (LtN s y) := by
                  rw [h1] at hL
                  exact ltN_total (by simpa [LtN] using hL.symm) (by simpa using h2)
                clear hL
                go_wp2_with fail
                refine wp_region_later (by kernel_rfl) (by kernel_rfl) ?_
                repeat (go_big_quiet_step (fail))
                refine wpQuiet_nil ?_
                intro _ hw'
                obtain ⟨b2, hw''⟩ := hw'
                subst hw''
                have HW2 : Hid (Below wo.heap.size wo b2.now) := HW.out.trans (b2.below.mono HW.out.size)
                clear d0 e0 hne2
                go_wp2
                go_roundw
                case rel => exact ⟨m - 1, by omega, by go_num, HW2.out, fun i h h' => by
                  by_cases e : i = m - 1
                  · subst e; obtain ⟨_, hy⟩ := HY.out; rw [hy]; exact hlt'.out
                  · exact HHI.out i h (by omega)⟩
                case measure => simp [intOf]; omega
              case true =>
                have heq : Hid (y = s) := by show _ = _; simpa using h2
                clear hL
                go_wp2_with fail
                refine wp_region_later (by kernel_rfl) (by kernel_rfl) ?_
                repeat (go_big_quiet_step (fail))
                refine wpQuiet_nil ?_
                intro _ hw'
                obtain ⟨b2, hw''⟩ := hw'
                subst hw''
                have HW2 : Hid (Below wo.heap.size wo b2.now) := HW.out.trans (b2.below.mono HW.out.size)
                have hs3 := d0 b2
                have ho3 := e0 b2
                clear d0 e0 hne2 hs2
                have hne3 := later_some b2.now
                have d0 := later_cell hs3
                have e0 := later_cell ho3
                go_wp2
                refine wp_region_later (by kernel_rfl) (by kernel_rfl) ?_
                repeat (go_big_quiet_step (fail))
                refine wpQuiet_nil ?_
                intro _ hw'
                obtain ⟨b3, hw''⟩ := hw'
                subst hw''
                have HW3 : Hid (Below wo.heap.size wo b3.now) := HW2.out.trans (b3.below.mono HW2.out.size)
                clear d0 e0 hne3 hs3 ho3
                go_wp2
                go_roundw
                case rel =>
                  refine ⟨k + 1, _, out, by omega, rfl, by go_num, ⟨owns_below HR.out HW3.out, HL.out.trans (HW3.out.mono HL.out.size)⟩, HSS.out, fun x => ?_, by omega⟩
                  rw [HSK.out x, HM.out x]
                  constructor
                  · exact .inl
                  · rintro (h | h)
                    · exact h
                    · rw [← HM.out x, h]
                      obtain ⟨hh, hy⟩ := HY.out
                      rw [← heq.out, ← hy]
                      exact List.getElem_mem hh
                case measure => simp [intOf]; omega
            case' true =>
              have h2 : (y == s) = false := by
                have h3 : LtN y s := by rw [h1] at hL; simpa [LtN] using hL.symm
                simp
                intro e
                subst e
                exact ltN_irrefl _ h3
              have HLO : Hid (m = 0 ∨ ∃ h : m - 1 < out.length, LtN out[m - 1] s) := .inr (by
                obtain ⟨hh, hy⟩ := HY.out
                exact ⟨hh, by rw [hy]; rw [h1] at hL; simpa [LtN] using hL.symm⟩)
              clear hL
              go_wp2_with fail
              refine wp_region_later (by kernel_rfl) (by kernel_rfl) ?_
              repeat (go_big_quiet_step (fail))
              refine wpQuiet_nil ?_
              intro _ hw'
              obtain ⟨b2, hw''⟩ := hw'
              subst hw''
              have HW2 : Hid (Below wo.heap.size wo b2.now) := HW.out.trans (b2.below.mono HW.out.size)
              have hs3 := d0 b2
              have ho3 := e0 b2
              clear d0 e0 hne2 hs2
              have hne3 := later_some b2.now
              have d0 := later_cell hs3
              have e0 := later_cell ho3
              go_wp2
              refine wp_region_later (by kernel_rfl) (by kernel_rfl) ?_
              repeat (go_big_quiet_step (fail))
              refine wpQuiet_nil ?_
              intro _ hw'
              obtain ⟨b3, hw''⟩ := hw'
              subst hw''
              have HW3 : Hid (Below wo.heap.size wo b3.now) := HW2.out.trans (b3.below.mono HW2.out.size)
              have hs4 := d0 b3
              clear d0 e0 hne3 hs3 ho3 HW2 HW
              obtain ⟨W9, hW9⟩ : ∃ W9, b3.now = W9 := ⟨_, rfl⟩
              rw [hW9] at HW3 hs4 ⊢
              clear hW9
          all_goals
            have HOT9 : Hid (TextsAt W9 (some ⟨g, 0, none⟩) out.length out) := HOT.out.below HW3.out
            have hB9 : Hid (Below W9.heap.size W9 (W9.alloc (.cells #[] 9))) := (Below.refl _ _).alloc (Nat.le_refl _) _
            have hone : Hid (∀ u ∈ [Value.string ⟨s.toArray⟩], u.oneCell' = true) := by intro u hu; simp at hu; subst hu; rfl
            have hjn : (k : Int) < (ss.length : Int) := by omega
            have bA : 0 + m ≤ maxLen := by show _ ≤ 9223372036854775807; omega
            have bB : (0 + m) * 16 ≤ 140737488355328 := Nat.le_trans (Nat.mul_le_mul_right 16 (show 0 + m ≤ 1048576 by omega)) (by decide)
            have bC : 0 + m + 1 ≤ maxLen := by show _ ≤ 9223372036854775807; omega
            have bD : (0 + m + 1) * 16 ≤ 140737488355328 := Nat.le_trans (Nat.mul_le_mul_right 16 (show 0 + m + 1 ≤ 1048577 by omega)) (by decide)
            have bE : 0 + m + 1 + (out.length - m) ≤ maxLen := by show _ ≤ 9223372036854775807; omega
            have bF : (0 + m + 1 + (out.length - m)) * 16 ≤ 140737488355328 := Nat.le_trans (Nat.mul_le_mul_right 16 (show 0 + m + 1 + (out.length - m) ≤ 1048577 by omega)) (by decide)
            have hmo : m ≤ ocap := by omega
            clear HOT
            have l1 : Hid (((out.take m).map encStr).length = m * 1) := by show _ = _; simp; omega
            have l3 : Hid (((out.drop m).map encStr).length = (out.length - m) * 1) := by show _ = _; simp
            have n1 : Hid (∀ j u, ((out.take m).map encStr)[j]? = some u → (W9.alloc (.cells #[] 9)).cell? ((⟨g, 0, none⟩ : Addr).add j) = some u) := texts_front (HOT9.out.below hB9.out) m
            by_cases hmc : ocap = m
            case' pos =>
              obtain ⟨ad, had⟩ : ∃ ad : Addr, ad = ⟨g, 0, none⟩ := ⟨_, rfl⟩
              have hx3 : Hid (∀ n c, Value.slice (some ⟨g, 0, none⟩) n c = Value.slice (some ad) n c) := by rw [had]; exact fun _ _ => rfl
              have HN3 : Hid (∀ w', Below W9.heap.size W9 w' → ∀ j u, ((out.drop m).map encStr)[j]? = some u → w'.cell? (ad.add j) = some u) := fun w' _ j u hu => by
                have : out.drop m = [] := by rw [List.drop_eq_nil_iff]; omega
                rw [this] at hu; cases hu
            case' neg =>
              obtain ⟨ad, had⟩ : ∃ ad : Addr, ad = ⟨g, m, none⟩ := ⟨_, rfl⟩
              have hx3 : Hid (∀ n c, Value.slice (some ⟨g, m, none⟩) n c = Value.slice (some ad) n c) := by rw [had]; exact fun _ _ => rfl
              have HN3 : Hid (∀ w', Below W9.heap.size W9 w' → ∀ j u, ((out.drop m).map encStr)[j]? = some u → w'.cell? (ad.add j) = some u) := fun w' hb j u hu => by
                rw [had]; exact texts_news (HOT9.out.below hb) m j u hu
            all_goals
              go_wp2_with (at_builtin; first | (refine wpList_append_own _ rfl (.tmp 45) (.tmp 48) 40 rfl W9.heap.size 9 i0 (.string ⟨#[]⟩) 1 16 Try.underlying40 hi hz0 hz1 hz2 rfl (by decide) _ 0 [] rfl (own_empty9 W9) ⟨g, 0, none⟩ m _ ((out.take m).map encStr) rfl l1.out n1.out (enc_one _) bA bB (by rw [World.size_alloc]; omega) ?_; intro v1 w1 hown1 hgrow1 _; have HO1 : Hid (w1.ownsRow W9.heap.size 9 1 v1 (0 + m) ([] ++ (out.take m).map encStr)) := hown1; have B1 : Hid (Below W9.heap.size W9 w1) := hB9.out.grown hgrow1 (by rw [World.size_alloc]; omega) (fun k e => by cases e; exact Nat.le_refl _); have hs5 := below_cell B1.out _ _ hs4; clear hown1 hgrow1 hs4) | (refine wpList_append_own _ rfl (.tmp 50) (.tmp 55) 40 rfl W9.heap.size 9 i0 (.string ⟨#[]⟩) 1 16 Try.underlying40 hi hz0 hz1 hz2 rfl (by decide) _ (0 + m) ([] ++ (out.take m).map encStr) rfl (HO1.out.alloc _) ⟨w1.heap.size, 0, none⟩ 1 1 [.string ⟨s.toArray⟩] rfl rfl (World.news_of_block (heap_alloc_new w1 (.cells #[.string ⟨s.toArray⟩] 9))) hone.out bC bD (by rw [World.size_alloc]; exact Nat.le_succ_of_le B1.out.size) ?_; intro v2 w2 hown2 hgrow2 _; have HO2 : Hid (w2.ownsRow W9.heap.size 9 1 v2 (0 + m + 1) (([] ++ (out.take m).map encStr) ++ [.string ⟨s.toArray⟩])) := hown2; have B2 : Hid (Below W9.heap.size W9 w2) := (B1.out.alloc B1.out.size _).grown hgrow2 (by rw [World.size_alloc]; exact Nat.le_succ_of_le B1.out.size) (fun k e => (owns_cells HO1.out e).1); clear hown2 hgrow2 hs5) | (refine wpList_append_own _ rfl (.tmp 57) (.tmp 60) 40 rfl W9.heap.size 9 i0 (.string ⟨#[]⟩) 1 16 Try.underlying40 hi hz0 hz1 hz2 rfl (by decide) v2 (0 + m + 1) _ rfl HO2.out ad (out.length - m) _ ((out.drop m).map encStr) (hx3.out _ _) l3.out (HN3.out w2 B2.out) (enc_one _) bE bF B2.out.size ?_; intro v3 w3 hown3 hgrow3 _; have HO3 : Hid (w3.ownsRow W9.heap.size 9 1 v3 (0 + m + 1 + (out.length - m)) ((([] ++ (out.take m).map encStr) ++ [Value.string ⟨s.toArray⟩]) ++ (out.drop m).map encStr)) := hown3; have B3 : Hid (Below W9.heap.size W9 w3) := B2.out.grown hgrow3 B2.out.size (fun k e => (owns_cells HO2.out e).1); clear hown3 hgrow3))
              clear hx3 had HN3
              go_roundw
              case rel =>
                have hb2 : Below w.heap.size w w3 := HL.out.trans ((HW3.out.trans (B3.out.mono HW3.out.size)).mono HL.out.size)
                refine ⟨k + 1, _, out.take m ++ [s] ++ out.drop m, by omega, rfl, by go_num, ⟨?_, hb2⟩, ss_insert HSS.out hm HHI.out HLO.out, fun x => ?_, ?_⟩
                · have h := own_base9 HO3.out (Nat.le_trans HL.out.size HW3.out.size)
                  have e1 : (out.take m ++ [s] ++ out.drop m).length = 0 + m + 1 + (out.length - m) := by simp; omega
                  have e2 : (out.take m ++ [s] ++ out.drop m).map encStr = (([] ++ (out.take m).map encStr) ++ [Value.string ⟨s.toArray⟩]) ++ (out.drop m).map encStr := by simp [encStr]
                  rw [e1, e2]
                  exact h
                · rw [HSK.out x, ← HM.out x, mem_insert]
                · simp; omega
              case measure => simp [intOf]; omega
    · have e1 : k = ss.length := by omega
      have hv : Hid (out = Lib.compact (sortL ss)) := vars_unique HSS.out (fun x => by rw [HM.out x, e1, List.take_length])
      go_wp2
      go_ret
      exact ⟨v, rfl, by rw [← hv.out]; exact HR.out, HL.out⟩
end Go.Proofs.Ytlemkgdbefmeeaa
/- What the document's Vars answers. -/
namespace Go.Proofs.Ytlemkgdbefmeeaa
open Go.RowKit Go.Deep

set_option maxRecDepth 100000 in
set_option maxHeartbeats 1000000 in
theorem rvars_any (x : ByteArray × Int) (l : Fo) (a : Option Addr) (c : Nat) (w : World) (hT : TmAt w x a c l) (hbig : nodesF l + 1 ≤ 1048576) :
    Calls Try.prog 25 #[.agg #[.string x.1, .int .i64 x.2, .slice a (lenF l) c]] w fun e w' => ∃ v, e = .returned v ∧ w'.ownsRow w.heap.size 9 1 v (Lib.compact (sortL (namesN x ++ namesFo l))).length ((Lib.compact (sortL (namesN x ++ namesFo l))).map encStr) ∧ Below w.heap.size w w' := by
  have hl1 := namesN_len x
  have hl2 := namesFo_len l
  have hbb : (([] : List Nm).length + nodesF l + 2) * 16 ≤ 140737488355328 := by rw [List.length_nil]; exact Nat.le_trans (Nat.mul_le_mul_right 16 (show 0 + nodesF l + 2 ≤ 1048578 by omega)) (by decide)
  have hC := names_all (nodesF l) w x l a c (.slice none 0 0) [] (w.alloc (.cells #[.string x.1, .int .i64 x.2, .slice a (lenF l) c] 26)) (Nat.le_refl _) hT ((Below.refl _ _).alloc (Nat.le_refl _) _) (World.ownsRow_nil _ _ _ _) hbb
  obtain ⟨ss, hss⟩ : ∃ ss, namesN x ++ namesFo l = ss := ⟨_, rfl⟩
  have hsl : ss.length ≤ nodesF l + 1 := by rw [← hss, List.length_append]; omega
  rw [List.nil_append, hss] at hC
  rw [hss]
  clear hss hl1 hl2 hbb
  have hb0 : Hid (Below w.heap.size w (w.alloc (.cells #[.string x.1, .int .i64 x.2, .slice a (lenF l) c] 26))) := (Below.refl _ w).alloc (Nat.le_refl _) _
  go_enter Try.func25, Try.ntmps25
  go_wp2_with fail
  refine hC.mono ?_
  rintro e w1 ⟨v1, rfl, hr, hn⟩
  obtain ⟨a1, c1, rfl, _, _, hT1, _, _⟩ := texts_of_owns hr
  have HN : Hid (Below w.heap.size w w1) := hb0.out.trans hn.low
  have hC2 := Names_any a1 _ c1 _ w1 hT1 (by omega)
  clear hr hn hT1 hC
  go_wp2_with fail
  refine hC2.mono ?_
  rintro e w2 ⟨v2, rfl, hr2, hn2⟩
  have HR2 : Hid (w2.ownsRow w1.heap.size 9 1 v2 (Lib.compact (sortL ss)).length ((Lib.compact (sortL ss)).map encStr)) := hr2
  have HN2 : Hid (Below w1.heap.size w1 w2) := hn2
  clear hr2 hn2 hC2
  go_wp2
  go_ret
  exact ⟨v2, rfl, own_base9 HR2.out HN.out.size, HN.out.trans (HN2.out.mono HN.out.size)⟩
end Go.Proofs.Ytlemkgdbefmeeaa
/- What the document's Size and Has answer of any term. -/
namespace Go.Proofs.Ytlemkgdbefmeeaa
open Go.RowKit Go.Deep

def RSizeOk (k : Nat) : Prop := ∀ (x : ByteArray × Int) (l : Fo) (a : Option Addr) (c : Nat) (w : World), nodesF l ≤ k → TmAt w x a c l → nodesF l + 1 ≤ 4611686018427387904 →
  Calls Try.prog 26 #[.agg #[.string x.1, .int .i64 x.2, .slice a (lenF l) c]] w fun e w' => e = .returned (.int .i64 ((nodesF l + 1 : Nat) : Int)) ∧ Below w.heap.size w w'

set_option maxRecDepth 100000 in
set_option maxHeartbeats 1000000 in
theorem rsize_all : ∀ k, RSizeOk k := by
  intro k
  induction k using Nat.strongRecOn with
  | _ k ih =>
    intro x l a c w hk hT hbig
    have HT : Hid (TmAt w x a c l) := hT
    have IH : Hid (∀ j, j < k → RSizeOk j) := ih
    have O0 : Hid (One w x a (lenF l) c (w.alloc (.cells #[.string x.1, .int .i64 x.2, .slice a (lenF l) c] 26))) := One.new _ _ _ _ _
    have hn := len_nodes l
    clear hT ih
    go_enter Try.func26, Try.ntmps26
    go_wp2
    go_loopw [3, 4] (fun q i wr => ∃ (j m : Nat), j ≤ lenF l ∧ q = .int .i64 (m : Int) ∧ i = .int .i64 j ∧ One w x a (lenF l) c wr ∧ m + nodesF (dropF j l) = nodesF l + 1) (fun _ i _ => lenF l - (intOf i).toNat)
    case atStart => exact ⟨0, 1, Nat.zero_le _, rfl, rfl, O0.out, by rw [drop_zero]; omega⟩
    case round =>
      obtain ⟨j, m, hj, rfl, rfl, hO, hm⟩ := hrel
      have t2 := hO.t.c2
      by_cases hlt : j < lenF l
      · obtain ⟨b1, o1, rfl, hk1⟩ := HT.out.args.get (by omega)
        obtain ⟨z, a1, c1, l1, kd⟩ := hk1.kid (k := j) hlt
        have kd' := kd.below hO.low
        obtain ⟨B1, O1, s1⟩ := kd.split
        rw [s1, nodesF] at hm
        have p0 := kd'.name; have p1 := kd'.sym; have p2 := kd'.list
        have hC := IH.out (nodesF l1) (by have := kd.less; omega) z l1 a1 c1 wr (Nat.le_refl _) kd'.at_ (by have := kd.less; omega)
        have HO : Hid (One w x (some ⟨b1, o1, none⟩) (lenF l) c wr) := hO
        clear kd kd' hk1 s1 hO
        go_wp2_with fail
        refine hC.mono ?_
        rintro e w2 ⟨rfl, hb⟩
        have HO2 : Hid (One w x (some ⟨b1, o1, none⟩) (lenF l) c w2) := HO.out.below hb
        clear hC hb p0 p1 p2 t2
        go_wp2
        go_roundw
        case rel => exact ⟨j + 1, m + (nodesF l1 + 1), by omega, by go_num, by go_num, HO2.out, by omega⟩
        case measure => simp [intOf]; omega
      · have e1 : j = lenF l := by omega
        rw [e1, drop_end, nodesF] at hm
        have hm' : m = nodesF l + 1 := by omega
        subst hm'
        go_wp2
        go_ret
        exact ⟨rfl, hO.low⟩

end Go.Proofs.Ytlemkgdbefmeeaa
namespace Go.Proofs.Ytlemkgdbefmeeaa
open Go.RowKit Go.Deep

theorem names_in : ∀ {F : Fo} {nm : Nm}, nm ∈ namesFo F ↔ inF nm F
  | .nil, nm => by simp [namesFo, inF]
  | .node _ _ x l r, nm => by
    simp only [namesFo, inF, List.mem_append]
    rw [names_in (F := l), names_in (F := r)]
    unfold namesN
    cases h : noName x.1 <;> simp_all
    rw [@eq_comm _ nm]
theorem namesT_in {t : Tn} {nm : Nm} : nm ∈ namesN t.1 ++ namesFo t.2 ↔ inT nm t := by
  rw [List.mem_append, names_in]
  unfold namesN inT
  cases h : noName t.1.1 <;> simp_all
  rw [@eq_comm _ nm]

theorem owns_str {w : World} {base : Nat} {v : Value} {vs : List Nm} (h : w.ownsRow base 9 1 v vs.length (vs.map encStr)) : ∃ a cap, v = .slice a vs.length cap ∧ vs.length ≤ 9223372036854775807 ∧ ∀ W, Below w.heap.size w W → ∀ k (hk : k < vs.length), ∃ g, a = some ⟨g, 0, none⟩ ∧ W.cell? ⟨g, k, none⟩ = some (encStr vs[k]) := by
  rcases h.2 with ⟨rfl, h0⟩ | ⟨g, cap, cur, rfl, h1⟩
  · exact ⟨none, 0, by rw [h0], by omega, fun W _ k hk => by omega⟩
  · refine ⟨_, cap, rfl, Nat.le_trans h1.2.2.1 h1.2.2.2.1, fun W hW k hk => ⟨g, rfl, below_cell hW _ _ ?_⟩⟩
    rw [h.cellAt k (by omega)]
    simp [hk]

set_option maxRecDepth 100000 in
set_option maxHeartbeats 8000000 in
theorem stays_walk : StaysWalk := by
  intro S n cap l A B a b c d f La F lc w hT hcap hsz
  have HT := hid hT
  have hA : nodesF A.2 + 1 ≤ 1048576 := by omega
  have hB : nodesF B.2 ≤ 1048576 := by omega
  clear hT hsz
  have I0 : Hid (InSt w (twoC S n cap A B a b c d f La F lc) (w.alloc (.cells (twoC S n cap A B a b c d f La F lc) 28))) := InSt.new w _
  have HRT := hid (fun W (hW : Below w.heap.size w W) => right_any S n cap l A B a b c d f La F lc W (HT.out.below hW))
  unfold twoC at I0 HRT ⊢
  go_enter Try.func5, Try.ntmps5
  go_wp2_with fail
  refine (head_any _).mono ?_
  rintro e w1 ⟨rfl, hb1⟩
  have I1 := hid (I0.out.below hb1)
  clear I0 hb1
  have i0 := I1.out.box.c 0 rfl; have i1 := I1.out.box.c 1 rfl; have i2 := I1.out.box.c 2 rfl; have i3 := I1.out.box.c 3 rfl; have i4 := I1.out.box.c 4 rfl; have i5 := I1.out.box.c 5 rfl; have i6 := I1.out.box.c 6 rfl; have i7 := I1.out.box.c 7 rfl; have i8 := I1.out.box.c 8 rfl
  go_wp2_with fail
  refine (HRT.out w1 I1.out.low).mono ?_
  rintro e w2 ⟨rfl, hb2⟩
  have I2 := hid (I1.out.below hb2)
  clear I1 hb2 i0 i1 i2 i3 i4 i5 i6 i7 i8 HRT
  cases hrt : (rightB l A && rightB l B && (kidsL F).all (rightB l))
  · go_wp2
    go_ret
    exact ⟨rfl, I2.out.low⟩
  · have hra : rightB l A = true := by simp only [Bool.and_eq_true] at hrt; exact hrt.1.1
    have hrb : rightB l B = true := by simp only [Bool.and_eq_true] at hrt; exact hrt.1.2
    obtain ⟨hOk, hRA⟩ := right_facts hra
    have hRB := (right_facts hrb).2
    obtain ⟨ct, hct⟩ : ∃ ct, canonT (sgOf l) A = ct := ⟨_, rfl⟩
    have hRC : RightT (sgOf l) (arAt l) ct := by rw [← hct]; exact right_of_can (canonT_can hOk hRA)
    have hcc : canonT (sgOf l) ct = ct := by rw [← hct]; exact canonT_twice hOk hRA
    have hszc : nodesF ct.2 + 1 ≤ nodesF A.2 + 1 := by rw [← hct]; exact canonT_size _ _
    have hvars : Lib.compact (sortL (namesN ct.1 ++ namesFo ct.2)) = Lib.compact (sortL (namesN A.1 ++ namesFo A.2)) :=
      vars_unique (vars_ss _).1 (fun x => by rw [(vars_ss _).2, namesT_in, namesT_in, ← hct]; exact canonT_in hOk hRA)
    have HOK := hid hOk
    have HRA := hid hRA
    have HRB := hid hRB
    have HRC := hid hRC
    have HCT := hid hct
    have HCC := hid hcc
    have HVA := hid hvars
    clear hra hrb hOk hRA hRB hRC hct hcc hvars
    have i0 := I2.out.box.c 0 rfl; have i1 := I2.out.box.c 1 rfl; have i2 := I2.out.box.c 2 rfl; have i3 := I2.out.box.c 3 rfl
    go_wp2_with fail
    refine (pcanon_any S n cap l A a c w2 (HT.out.sig.below I2.out.low) (HT.out.a.below I2.out.low) (by omega)).mono ?_
    rintro e w3 ⟨k, rfl, hr3, hE3, hb3⟩
    have hk3 : k.tn = ct := by rw [hr3.2 HOK.out HRA.out, HCT.out]
    obtain ⟨kx, kl, ka, kc⟩ := k
    have ek1 : kx = ct.1 := congrArg Prod.fst hk3
    have ek2 : kl = ct.2 := congrArg Prod.snd hk3
    subst ek1 ek2
    have I3 := hid ((I2.out.below hb3).below (alloc_below w3 (.cells #[.string ct.1.1, .int .i64 ct.1.2, .slice ka (lenF ct.2) kc] 26)))
    have X3 : Hid (XBox (w3.alloc (.cells #[.string ct.1.1, .int .i64 ct.1.2, .slice ka (lenF ct.2) kc] 26)) w3.heap.size ct.1 (.slice ka (lenF ct.2) kc)) := World.alloc_heap_new w3 _
    have T3 := hid ((SepTm.tm hE3.1).below (alloc_below w3 (.cells #[.string ct.1.1, .int .i64 ct.1.2, .slice ka (lenF ct.2) kc] 26)))
    clear hr3 hE3 hb3 hk3 i0 i1 i2 i3 I2
    have i0 := I3.out.box.c 0 rfl
    have x0 := X3.out.c0; have x1 := X3.out.c1; have x2 := X3.out.c2
    go_wp2_with fail
    refine (pcanon_any S n cap l ct ka kc _ (HT.out.sig.below I3.out.low) T3.out (by omega)).mono ?_
    rintro e w4 ⟨k, rfl, hr4, hE4, hb4⟩
    have hk4 : k.tn = ct := by rw [hr4.2 HOK.out HRC.out, HCC.out]
    obtain ⟨kx, kl, da, dc⟩ := k
    have ek1 : kx = ct.1 := congrArg Prod.fst hk4
    have ek2 : kl = ct.2 := congrArg Prod.snd hk4
    subst ek1 ek2
    have hbw := hb4.trans ((alloc_below w4 (.cells #[.string ct.1.1, .int .i64 ct.1.2, .slice da (lenF ct.2) dc] 26)).mono hb4.size)
    have I4 := hid (I3.out.below hbw)
    have X4 := hid (X3.out.below hbw)
    have T4 := hid (T3.out.below hbw)
    have Y4 : Hid (XBox (w4.alloc (.cells #[.string ct.1.1, .int .i64 ct.1.2, .slice da (lenF ct.2) dc] 26)) w4.heap.size ct.1 (.slice da (lenF ct.2) dc)) := World.alloc_heap_new w4 _
    have U4 := hid ((SepTm.tm hE4.1).below (alloc_below w4 (.cells #[.string ct.1.1, .int .i64 ct.1.2, .slice da (lenF ct.2) dc] 26)))
    clear hr4 hE4 hb4 hk4 hbw i0 x0 x1 x2 I3 X3 T3
    have x0 := X4.out.c0; have x1 := X4.out.c1; have x2 := X4.out.c2
    go_wp2_with fail
    clear x0 x1 x2
    generalize w4.alloc (.cells #[.string ct.1.1, .int .i64 ct.1.2, .slice da (lenF ct.2) dc] 26) = W4 at I4 X4 T4 Y4 U4 ⊢
    refine (rvars_any ct.1 ct.2 ka kc W4 T4.out (by omega)).mono ?_
    rintro e w5 ⟨v5, rfl, ho5, hb5⟩
    rw [HVA.out] at ho5
    obtain ⟨vs, hvs⟩ : ∃ vs, Lib.compact (sortL (namesN A.1 ++ namesFo A.2)) = vs := ⟨_, rfl⟩
    rw [hvs] at ho5
    obtain ⟨la, lcap, rfl, hvl, hl5⟩ := owns_str ho5
    have B5 : Hid (Below W4.heap.size W4 w5) := hb5
    have L5 := hid hl5
    clear ho5 hb5 hl5
    have i1 := (I4.out.below B5.out).box.c 1 rfl; have i2 := (I4.out.below B5.out).box.c 2 rfl; have i3 := (I4.out.below B5.out).box.c 3 rfl
    go_wp2_with fail
    refine (rvars_any A.1 A.2 a c w5 (HT.out.a.below (I4.out.below B5.out).low) (by omega)).mono ?_
    rintro e w6 ⟨v6, rfl, ho6, hb6⟩
    rw [hvs] at ho6
    obtain ⟨ma, mcap, rfl, _, hm6⟩ := owns_str ho6
    have B6 : Hid (Below W4.heap.size W4 w6) := B5.out.trans (hb6.mono B5.out.size)
    have M6 := hid hm6
    have N6 : Hid (Below w5.heap.size w5 w6) := hb6
    clear ho6 hb6 hm6 i1 i2 i3 hvs HVA
    go_wp2_with fail
    go_loopw [9] (fun i wr => ∃ k : Nat, k ≤ vs.length ∧ i = .int .i64 k ∧ Below w6.heap.size w6 wr) (fun i _ => vs.length - (intOf i).toNat)
    case atStart => exact ⟨0, Nat.zero_le _, rfl, Below.refl _ _⟩
    case round =>
      obtain ⟨k, hk, rfl, hbr⟩ := hrel
      have HBR := hid hbr
      clear hbr
      by_cases hlt : k < vs.length
      · obtain ⟨g1, rfl, q1⟩ := L5.out wr (N6.out.trans (HBR.out.mono N6.out.size)) k hlt
        obtain ⟨g2, rfl, q2⟩ := M6.out wr HBR.out k hlt
        obtain ⟨s, hs⟩ : ∃ s, vs[k] = s := ⟨_, rfl⟩
        rw [hs] at q1 q2
        unfold encStr at q1 q2
        have hne := later_some wr
        have d1 := later_cell q1
        have d2 := later_cell q2
        have hj0 : (0 : Int) ≤ (k : Int) := by omega
        have hjn : (k : Int) < (vs.length : Int) := by omega
        clear q1 q2 hs
        go_wp2_with fail
        refine wp_region_later (by kernel_rfl) (by kernel_rfl) ?_
        repeat (go_big_quiet_step (fail))
        refine wpQuiet_nil ?_
        intro _ hw'
        obtain ⟨b3, hw''⟩ := hw'
        subst hw''
        clear d1 d2 hne
        go_wp2
        go_roundw
        case rel => exact ⟨k + 1, by omega, by go_num, HBR.out.trans (b3.below.mono HBR.out.size)⟩
        case measure => simp [intOf]; omega
      · have B7 : Hid (Below W4.heap.size W4 wr) := B6.out.trans (HBR.out.mono B6.out.size)
        clear HBR L5 M6 N6 B5 B6
        obtain ⟨ev, hev⟩ : ∃ ev, (cmpN ct (canonT (sgOf l) B) == 0) = ev := ⟨_, rfl⟩
        have hself : (cmpN ct ct == 0) = true := by have := cmpN_anti ct ct; rw [beq_iff_eq]; omega
        have HE1 : Hid (∀ W, Below W4.heap.size W4 W → Calls Try.prog 13 #[.slice S n cap, .agg #[.string A.1.1, .int .i64 A.1.2, .slice a (lenF A.2) c], .agg #[.string B.1.1, .int .i64 B.1.2, .slice b (lenF B.2) d]] W fun e w' => e = .returned (.bool ev) ∧ Below W.heap.size W w') := fun W hW => (pequal_any S n cap l A B a b c d W (HT.out.sig.below (I4.out.below hW).low) (HT.out.a.below (I4.out.below hW).low) (HT.out.b.below (I4.out.below hW).low) (by omega) hB).mono (by
          rintro e w' ⟨r, s, hr, hs, rfl, hb⟩
          rw [hr.2 HOK.out HRA.out, hs.2 HOK.out HRB.out, HCT.out, hev]
          exact ⟨rfl, hb⟩)
        have HE2 : Hid (∀ W, Below W4.heap.size W4 W → Calls Try.prog 13 #[.slice S n cap, .agg #[.string B.1.1, .int .i64 B.1.2, .slice b (lenF B.2) d], .agg #[.string A.1.1, .int .i64 A.1.2, .slice a (lenF A.2) c]] W fun e w' => e = .returned (.bool ev) ∧ Below W.heap.size W w') := fun W hW => (pequal_any S n cap l B A b a d c W (HT.out.sig.below (I4.out.below hW).low) (HT.out.b.below (I4.out.below hW).low) (HT.out.a.below (I4.out.below hW).low) hB (by omega)).mono (by
          rintro e w' ⟨r, s, hr, hs, rfl, hb⟩
          have : (cmpN (canonT (sgOf l) B) ct == 0) = ev := by
            rw [← hev]
            have := cmpN_anti ct (canonT (sgOf l) B)
            rw [Bool.eq_iff_iff, beq_iff_eq, beq_iff_eq]
            omega
          rw [hr.2 HOK.out HRB.out, hs.2 HOK.out HRA.out, HCT.out, this]
          exact ⟨rfl, hb⟩)
        have HE3 : Hid (∀ W, Below W4.heap.size W4 W → Calls Try.prog 13 #[.slice S n cap, .agg #[.string A.1.1, .int .i64 A.1.2, .slice a (lenF A.2) c], .agg #[.string ct.1.1, .int .i64 ct.1.2, .slice ka (lenF ct.2) kc]] W fun e w' => e = .returned (.bool true) ∧ Below W.heap.size W w') := fun W hW => (pequal_any S n cap l A ct a ka c kc W (HT.out.sig.below (I4.out.below hW).low) (HT.out.a.below (I4.out.below hW).low) (T4.out.below hW) (by omega) (by omega)).mono (by
          rintro e w' ⟨r, s, hr, hs, rfl, hb⟩
          rw [hr.2 HOK.out HRA.out, hs.2 HOK.out HRC.out, HCT.out, HCC.out, hself]
          exact ⟨rfl, hb⟩)
        have HE4 : Hid (∀ W, Below W4.heap.size W4 W → Calls Try.prog 13 #[.slice S n cap, .agg #[.string A.1.1, .int .i64 A.1.2, .slice a (lenF A.2) c], .agg #[.string A.1.1, .int .i64 A.1.2, .slice a (lenF A.2) c]] W fun e w' => e = .returned (.bool true) ∧ Below W.heap.size W w') := fun W hW => (pequal_any S n cap l A A a a c c W (HT.out.sig.below (I4.out.below hW).low) (HT.out.a.below (I4.out.below hW).low) (HT.out.a.below (I4.out.below hW).low) (by omega) (by omega)).mono (by
          rintro e w' ⟨r, s, hr, hs, rfl, hb⟩
          rw [hr.2 HOK.out HRA.out, hs.2 HOK.out HRA.out, HCT.out, hself]
          exact ⟨rfl, hb⟩)
        have HEX : Hid (∀ W, Below W4.heap.size W4 W → Calls Try.prog 17 #[.agg #[.string ct.1.1, .int .i64 ct.1.2, .slice ka (lenF ct.2) kc], .agg #[.string ct.1.1, .int .i64 ct.1.2, .slice da (lenF ct.2) dc]] W fun e w' => e = .returned (.bool true) ∧ Below W.heap.size W w') := fun W hW => exact_any ct.1 ct.2 ka da kc dc W (T4.out.below hW) (U4.out.below hW)
        have HZ1 : Hid (∀ W, Below W4.heap.size W4 W → Calls Try.prog 26 #[.agg #[.string ct.1.1, .int .i64 ct.1.2, .slice ka (lenF ct.2) kc]] W fun e w' => e = .returned (.int .i64 ((nodesF ct.2 + 1 : Nat) : Int)) ∧ Below W.heap.size W w') := fun W hW => rsize_all _ ct.1 ct.2 ka kc W (Nat.le_refl _) (T4.out.below hW) (by omega)
        have HZ2 : Hid (∀ W, Below W4.heap.size W4 W → Calls Try.prog 26 #[.agg #[.string A.1.1, .int .i64 A.1.2, .slice a (lenF A.2) c]] W fun e w' => e = .returned (.int .i64 ((nodesF A.2 + 1 : Nat) : Int)) ∧ Below W.heap.size W w') := fun W hW => rsize_all _ A.1 A.2 a c W (Nat.le_refl _) (HT.out.a.below (I4.out.below hW).low) (by omega)
        have HIS : Hid (∀ W, Below W4.heap.size W4 W → Calls Try.prog 12 #[.slice S n cap, .agg #[.string ct.1.1, .int .i64 ct.1.2, .slice ka (lenF ct.2) kc]] W fun e w' => e = .returned (.bool true) ∧ Below W.heap.size W w') := fun W hW => (pis_any S n cap l ct ka kc W (HT.out.sig.below (I4.out.below hW).low) (T4.out.below hW) (by omega)).mono (by
          rintro e w' ⟨r, hr, rfl, hb⟩
          rw [hr.2 HOK.out HRC.out, HCC.out, hself]
          exact ⟨rfl, hb⟩)
        clear hev hself
        have bx := (I4.out.below B7.out).box
        have hne := later_some wr
        have i0 := later_cell (bx.c 0 rfl); have i1 := later_cell (bx.c 1 rfl); have i2 := later_cell (bx.c 2 rfl); have i3 := later_cell (bx.c 3 rfl); have i4 := later_cell (bx.c 4 rfl); have i5 := later_cell (bx.c 5 rfl); have i6 := later_cell (bx.c 6 rfl)
        have hC1 := hid (fun W (hW : Below wr.heap.size wr W) => HE1.out W (B7.out.trans (hW.mono B7.out.size)))
        have hC2 := hid (fun W (hW : Below wr.heap.size wr W) => HE2.out W (B7.out.trans (hW.mono B7.out.size)))
        clear bx
        go_wp2_with fail
        refine wp_region_later (by kernel_rfl) (by kernel_rfl) ?_
        repeat (go_big_quiet_step (first | (go_at_call 13; with_reducible refine calls_later (hC1.out _ ?_); exact Later.below _) | (go_at_call 13; with_reducible refine calls_later (hC2.out _ ?_); exact Later.below _)))
        refine wpQuiet_nil ?_
        intro _ hw'
        obtain ⟨b3, hw''⟩ := hw'
        subst hw''
        have B8 : Hid (Below W4.heap.size W4 b3.now) := B7.out.trans (b3.below.mono B7.out.size)
        generalize b3.now = w8 at B8 ⊢
        clear i0 i1 i2 i3 i4 i5 i6 hne hC1 hC2 HE1 HE2 B7
        have bx := (I4.out.below B8.out).box
        have hne := later_some w8
        have i0 := later_cell (bx.c 0 rfl); have i1 := later_cell (bx.c 1 rfl); have i2 := later_cell (bx.c 2 rfl); have i3 := later_cell (bx.c 3 rfl)
        have x0 := later_cell (X4.out.below B8.out).c0; have x1 := later_cell (X4.out.below B8.out).c1; have x2 := later_cell (X4.out.below B8.out).c2
        have y0 := later_cell (Y4.out.below B8.out).c0; have y1 := later_cell (Y4.out.below B8.out).c1; have y2 := later_cell (Y4.out.below B8.out).c2
        have hC1 := hid (fun W (hW : Below w8.heap.size w8 W) => HEX.out W (B8.out.trans (hW.mono B8.out.size)))
        have hC2 := hid (fun W (hW : Below w8.heap.size w8 W) => HZ1.out W (B8.out.trans (hW.mono B8.out.size)))
        have hC3 := hid (fun W (hW : Below w8.heap.size w8 W) => HZ2.out W (B8.out.trans (hW.mono B8.out.size)))
        have hC4 := hid (fun W (hW : Below w8.heap.size w8 W) => HIS.out W (B8.out.trans (hW.mono B8.out.size)))
        have hC5 := hid (fun W (hW : Below w8.heap.size w8 W) => HE3.out W (B8.out.trans (hW.mono B8.out.size)))
        have hC6 := hid (fun W (hW : Below w8.heap.size w8 W) => HE4.out W (B8.out.trans (hW.mono B8.out.size)))
        have hle : (((nodesF ct.2 + 1 : Nat) : Int) ≤ ((nodesF A.2 + 1 : Nat) : Int)) := by omega
        obtain ⟨z1, hz1⟩ : ∃ z1, ((nodesF ct.2 + 1 : Nat) : Int) = z1 := ⟨_, rfl⟩
        obtain ⟨z2, hz2⟩ : ∃ z2, ((nodesF A.2 + 1 : Nat) : Int) = z2 := ⟨_, rfl⟩
        rw [hz1] at hC2
        rw [hz2] at hC3
        rw [hz1, hz2] at hle
        clear bx hz1 hz2 HEX HZ1 HZ2 HIS HE3 HE4
        go_wp2_with fail
        refine wp_region_later (by kernel_rfl) (by kernel_rfl) ?_
        repeat (go_big_quiet_step (first | (go_at_call 17; refine calls_later (hC1.out _ ?_); exact Later.below _) | (go_at_call 26; with_reducible refine calls_later (hC2.out _ ?_); exact Later.below _) | (go_at_call 26; with_reducible refine calls_later (hC3.out _ ?_); exact Later.below _) | (go_at_call 12; refine calls_later (hC4.out _ ?_); exact Later.below _) | (go_at_call 13; with_reducible refine calls_later (hC5.out _ ?_); exact Later.below _) | (go_at_call 13; with_reducible refine calls_later (hC6.out _ ?_); exact Later.below _)))
        refine wpQuiet_nil ?_
        intro _ hw'
        obtain ⟨b4, hw''⟩ := hw'
        subst hw''
        clear i0 i1 i2 i3 x0 x1 x2 y0 y1 y2 hne hC1 hC2 hC3 hC4 hC5 hC6
        go_wp2
        go_ret
        exact ⟨by simp, (I4.out.below B8.out).low.trans (b4.below.mono (I4.out.below B8.out).low.size)⟩
theorem canonStays : Rows.CanonStaysUptoSaid := canonStays_of stays_walk
end Go.Proofs.Ytlemkgdbefmeeaa
