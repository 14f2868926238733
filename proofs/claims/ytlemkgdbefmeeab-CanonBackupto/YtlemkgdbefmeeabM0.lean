/- Texts laid together: TMem, TBase, TOwn, TLent, Later, TKept, TSep, TRClone, TPath, CanP. -/
import Derived.Deep.Trees
import Derived.Lib.Bytealg
import Derived.Lib.Small
import Derived.WalkKit
import Derived.Test.YtlemkgdbefmeeabRows
import Derived.RangeFuncNested
import Derived.RangeFuncBound
import Derived.RangeFuncCalls
import Derived.RangeFuncLeaves
import Derived.Shelf.Abstract
import Derived.Shelf.RegionOpen
import Derived.OwnWalkIn
import Derived.TacticsInMore
import Derived.LoopNIn
import Derived.LoopIn
import Derived.Deep.AppendLies
import Derived.Deep.AppendSrc
import Derived.Laws.EntriesVeiled
import Derived.Deep.RegionLaw
import Derived.Deep.DeepCutAuto
import Derived.BigQuiet
import Derived.WalkSpells
/- Terms as forests: how many nodes, where they lie in memory, and their order, without any program. -/
namespace Go.Proofs.Ytlemkgdbefmeeab
open Go.RowKit Go.Deep

/-- A list of terms: the first one's name and symbol, its arguments on the left, the terms behind it on the right. -/
abbrev Fo := BT (ByteArray × Int)
def lenF : Fo → Nat
  | .nil => 0
  | .node _ _ _ _ r => lenF r + 1
def nodesF : Fo → Nat
  | .nil => 0
  | .node _ _ _ l r => nodesF l + nodesF r + 1
def dropF : Nat → Fo → Fo
  | 0, F => F
  | _ + 1, .nil => .nil
  | n + 1, .node _ _ _ _ r => dropF n r

theorem len_nodes : ∀ F : Fo, lenF F ≤ nodesF F
  | .nil => Nat.le_refl _
  | .node _ _ _ l r => by have := len_nodes r; simp only [lenF, nodesF]; omega
theorem len_nil {F : Fo} (h : lenF F = 0) : F = .nil := by
  cases F with
  | nil => rfl
  | node => simp [lenF] at h
theorem drop_zero (F : Fo) : dropF 0 F = F := by cases F <;> rfl
theorem len_drop : ∀ (i : Nat) (F : Fo), lenF (dropF i F) = lenF F - i
  | 0, F => by rw [drop_zero]; rfl
  | i + 1, .nil => by simp [dropF, lenF]
  | i + 1, .node _ _ _ _ r => by simp only [dropF, lenF]; rw [len_drop i r]; omega
theorem drop_end (F : Fo) : dropF (lenF F) F = .nil := len_nil (by rw [len_drop]; omega)
theorem nodes_drop : ∀ (i : Nat) (F : Fo), nodesF (dropF i F) ≤ nodesF F
  | 0, F => by rw [drop_zero]; exact Nat.le_refl _
  | i + 1, .nil => by simp [dropF]
  | i + 1, .node _ _ _ l r => by have := nodes_drop i r; simp only [dropF, nodesF]; omega
theorem drop_succ : ∀ (i : Nat) (F : Fo) {b o : Nat} {x : ByteArray × Int} {l r : Fo}, dropF i F = .node b o x l r → dropF (i + 1) F = r
  | 0, F, b, o, x, l, r, h => by rw [drop_zero] at h; subst h; simp only [dropF]
  | _ + 1, .nil, _, _, _, _, _, h => by simp [dropF] at h
  | i + 1, .node _ _ _ _ r', b, o, x, l, r, h => by simp only [dropF] at h ⊢; exact drop_succ i r' h
theorem drop_node (i : Nat) (F : Fo) (h : i < lenF F) : ∃ b o x l r, dropF i F = .node b o x l r := by
  have e := len_drop i F
  cases hd : dropF i F with
  | nil => rw [hd] at e; simp [lenF] at e; omega
  | node b o x l r => exact ⟨b, o, x, l, r, rfl⟩

/-! ### memory -/
/-- How long a name, a list and its room may be. -/
structure Sizes (nm : ByteArray) (n c : Nat) : Prop where
  name : nm.size ≤ maxLen
  len : n ≤ c
  cap : c ≤ maxLen
  few : n * 48 ≤ 140737488351232
/-- From this cell on these terms lie, three cells each. -/
def KidsAt (w : World) : Fo → Nat → Nat → Prop
  | .nil, _, _ => True
  | .node _ _ x l r, b, o => (∃ a c, w.cell? ⟨b, o, none⟩ = some (.string x.1) ∧ w.cell? ⟨b, o + 1, none⟩ = some (.int .i64 x.2) ∧ w.cell? ⟨b, o + 2, none⟩ = some (.slice a (lenF l) c) ∧
      Sizes x.1 (lenF l) c ∧ (l = .nil ∨ ∃ b' o', a = some ⟨b', o', none⟩ ∧ KidsAt w l b' o')) ∧ KidsAt w r b (o + 3)
/-- The slice with this address holds these terms. -/
def ArgsAt (w : World) (a : Option Addr) (F : Fo) : Prop := F = .nil ∨ ∃ b o, a = some ⟨b, o, none⟩ ∧ KidsAt w F b o
/-- A term whose arguments lie in the slice with this address and room. -/
structure TmAt (w : World) (x : ByteArray × Int) (a : Option Addr) (c : Nat) (l : Fo) : Prop where
  sizes : Sizes x.1 (lenF l) c
  args : ArgsAt w a l

theorem KidsAt.kept {w w' : World} (h : ∀ p v, w.cell? p = some v → w'.cell? p = some v) : ∀ {F : Fo} {b o : Nat}, KidsAt w F b o → KidsAt w' F b o
  | .nil, _, _, _ => trivial
  | .node _ _ _ l r, b, o, ⟨⟨a, c, h0, h1, h2, hc, hl⟩, hr⟩ => ⟨⟨a, c, h _ _ h0, h _ _ h1, h _ _ h2, hc, by
      rcases hl with hl | ⟨b', o', ha, hk⟩
      · exact .inl hl
      · exact .inr ⟨b', o', ha, KidsAt.kept h hk⟩⟩, KidsAt.kept h hr⟩
theorem below_cell {w w' : World} (hb : Below w.heap.size w w') : ∀ p v, w.cell? p = some v → w'.cell? p = some v := fun p v h => by
  rw [hb.cell (World.block_lt_of_cell? w p h)]; exact h
theorem KidsAt.below {w w' : World} {F : Fo} {b o : Nat} (h : KidsAt w F b o) (hb : Below w.heap.size w w') : KidsAt w' F b o := h.kept (below_cell hb)
theorem ArgsAt.kept {w w' : World} {a : Option Addr} {F : Fo} (hk : ArgsAt w a F) (h : ∀ p v, w.cell? p = some v → w'.cell? p = some v) : ArgsAt w' a F := by
  rcases hk with h1 | ⟨b, o, ha, hk⟩
  · exact .inl h1
  · exact .inr ⟨b, o, ha, hk.kept h⟩
theorem ArgsAt.below {w w' : World} {a : Option Addr} {F : Fo} (hk : ArgsAt w a F) (hb : Below w.heap.size w w') : ArgsAt w' a F := hk.kept (below_cell hb)
theorem TmAt.kept {w w' : World} {x : ByteArray × Int} {a : Option Addr} {c : Nat} {l : Fo} (h : TmAt w x a c l) (hk : ∀ p v, w.cell? p = some v → w'.cell? p = some v) : TmAt w' x a c l := ⟨h.sizes, h.args.kept hk⟩
theorem TmAt.below {w w' : World} {x : ByteArray × Int} {a : Option Addr} {c : Nat} {l : Fo} (h : TmAt w x a c l) (hb : Below w.heap.size w w') : TmAt w' x a c l := ⟨h.sizes, h.args.below hb⟩
theorem KidsAt.drop {w : World} : ∀ (i : Nat) {F : Fo} {b o : Nat}, KidsAt w F b o → KidsAt w (dropF i F) b (o + i * 3)
  | 0, F, b, o, h => by rw [drop_zero]; simpa using h
  | i + 1, .nil, b, o, _ => by simp [dropF, KidsAt]
  | i + 1, .node _ _ _ _ r, b, o, ⟨_, hr⟩ => by
    have := KidsAt.drop i hr
    rw [show o + 3 + i * 3 = o + (i + 1) * 3 by omega] at this
    exact this
theorem ArgsAt.nil (w : World) (a : Option Addr) : ArgsAt w a .nil := .inl rfl
theorem ArgsAt.get {w : World} {a : Option Addr} {F : Fo} (h : ArgsAt w a F) (hn : 0 < lenF F) : ∃ b o, a = some ⟨b, o, none⟩ ∧ KidsAt w F b o := by
  rcases h with h1 | h2
  · subst h1; simp [lenF] at hn
  · exact h2
/-- The term at a place of a list. -/
structure Kid (w : World) (F : Fo) (b o k : Nat) (x : ByteArray × Int) (a : Option Addr) (c : Nat) (l : Fo) : Prop where
  name : w.cell? ⟨b, o + k * 3, none⟩ = some (.string x.1)
  sym : w.cell? ⟨b, o + k * 3 + 1, none⟩ = some (.int .i64 x.2)
  list : w.cell? ⟨b, o + k * 3 + 2, none⟩ = some (.slice a (lenF l) c)
  at_ : TmAt w x a c l
  split : ∃ B O, dropF k F = .node B O x l (dropF (k + 1) F)
  less : nodesF l < nodesF F
theorem KidsAt.kid {w : World} {F : Fo} {b o k : Nat} (h : KidsAt w F b o) (hk : k < lenF F) : ∃ x a c l, Kid w F b o k x a c l := by
  obtain ⟨B, O, x, l, r, hd⟩ := drop_node k F hk
  have h1 := h.drop k
  have h2 := nodes_drop k F
  rw [hd] at h1 h2
  obtain ⟨⟨a, c, h3, h4, h5, h6, h7⟩, _⟩ := h1
  exact ⟨x, a, c, l, h3, h4, h5, ⟨h6, h7⟩, ⟨B, O, by rw [drop_succ k F hd]; exact hd⟩, by simp only [nodesF] at h2; omega⟩
theorem Kid.below {w w' : World} {F : Fo} {b o k : Nat} {x : ByteArray × Int} {a : Option Addr} {c : Nat} {l : Fo} (h : Kid w F b o k x a c l) (hb : Below w.heap.size w w') : Kid w' F b o k x a c l :=
  ⟨below_cell hb _ _ h.name, below_cell hb _ _ h.sym, below_cell hb _ _ h.list, h.at_.below hb, h.split, h.less⟩

/-! ### the order -/
def thenC (x y : Int) : Int := if x = 0 then y else x
def cmpS (a b : ByteArray) : Int := Lib.compareBytes a.data.toList b.data.toList
def noName (s : ByteArray) : Bool := s.toList.isEmpty
/-- Two nodes, whose arguments compare so. -/
def cmp1 (x y : ByteArray × Int) (n m : Nat) (deep : Int) : Int :=
  if noName x.1 = false then (if noName y.1 = false then cmpS x.1 y.1 else -1)
  else if noName y.1 = false then 1 else if x.2 = y.2 then (if n = m then deep else Lib.compareInt n m) else Lib.compareInt x.2 y.2
def cmpF : Fo → Fo → Int
  | .nil, _ => 0
  | .node _ _ _ _ _, .nil => 0
  | .node _ _ x l r, .node _ _ y m s => thenC (cmp1 x y (lenF l) (lenF m) (cmpF l m)) (cmpF r s)

/-- What a total order says of three. -/
structure Cons (ab bc ac : Int) : Prop where
  l : ab = 0 → ac = bc
  r : bc = 0 → ac = ab
  lt : ab < 0 → bc < 0 → ac < 0
  gt : 0 < ab → 0 < bc → 0 < ac
theorem Cons.zero : Cons 0 0 0 := ⟨fun _ => rfl, fun _ => rfl, fun h => by omega, fun h => by omega⟩
theorem Cons.then {x1 x2 x3 y1 y2 y3 : Int} (h : Cons x1 x2 x3) (k : x1 = 0 → x2 = 0 → Cons y1 y2 y3) : Cons (thenC x1 y1) (thenC x2 y2) (thenC x3 y3) := by
  obtain ⟨h1, h2, h3, h4⟩ := h
  unfold thenC
  by_cases e1 : x1 = 0
  · have e3 := h1 e1
    subst e1 e3
    by_cases e2 : x3 = 0
    · subst e2
      simpa using k rfl rfl
    · simp only [e2, if_true, if_false]
      constructor <;> omega
  · by_cases e2 : x2 = 0
    · have e3 := h2 e2
      subst e2 e3
      simp only [e1, if_true, if_false]
      constructor <;> omega
    · simp only [e1, e2, if_false]
      constructor
      · omega
      · omega
      · intro a b
        have := h3 a b
        rw [if_neg (by omega)]; exact this
      · intro a b
        have := h4 a b
        rw [if_neg (by omega)]; exact this
theorem compareInt_cons (x y z : Int) : Cons (Lib.compareInt x y) (Lib.compareInt y z) (Lib.compareInt x z) := by
  unfold Lib.compareInt
  constructor <;> (repeat' split) <;> omega
theorem compareInt_anti (x y : Int) : Lib.compareInt y x = - Lib.compareInt x y := by
  unfold Lib.compareInt
  (repeat' split) <;> omega
theorem compareInt_zero {x y : Int} (h : Lib.compareInt x y = 0) : x = y := by
  unfold Lib.compareInt at h
  split at h
  · omega
  · split at h
    · omega
    · omega
theorem bytes_cons : ∀ a b c : List UInt8, Cons (Lib.compareBytes a b) (Lib.compareBytes b c) (Lib.compareBytes a c)
  | [], [], [] => Cons.zero
  | [], [], _ :: _ => ⟨fun _ => rfl, fun h => by simp [Lib.compareBytes] at h, fun h => by simp [Lib.compareBytes] at h, fun h => by simp [Lib.compareBytes] at h⟩
  | [], _ :: _, [] => ⟨fun h => by simp [Lib.compareBytes] at h, fun h => by simp [Lib.compareBytes] at h, fun _ h => by simp [Lib.compareBytes] at h, fun h => by simp [Lib.compareBytes] at h⟩
  | [], _ :: _, _ :: _ => ⟨fun h => by simp [Lib.compareBytes] at h, fun h => rfl, fun _ _ => by simp [Lib.compareBytes], fun h => by simp [Lib.compareBytes] at h⟩
  | _ :: _, [], [] => ⟨fun h => by simp [Lib.compareBytes] at h, fun h => rfl, fun h => by simp [Lib.compareBytes] at h, fun _ h => by simp [Lib.compareBytes] at h⟩
  | _ :: _, [], _ :: _ => ⟨fun h => by simp [Lib.compareBytes] at h, fun h => by simp [Lib.compareBytes] at h, fun h => by simp [Lib.compareBytes] at h, fun _ h => by simp [Lib.compareBytes] at h⟩
  | _ :: _, _ :: _, [] => ⟨fun _ => rfl, fun h => by simp [Lib.compareBytes] at h, fun _ h => by simp [Lib.compareBytes] at h, fun _ _ => by simp [Lib.compareBytes]⟩
  | a :: as1, b :: bs, c :: cs => by
    have ih := bytes_cons as1 bs cs
    have e : ∀ (a b : UInt8) (as1 bs : List UInt8), Lib.compareBytes (a :: as1) (b :: bs) = thenC (Lib.compareInt a.toNat b.toNat) (Lib.compareBytes as1 bs) := by
      intro a b as1 bs
      unfold thenC Lib.compareInt
      rw [Lib.compareBytes]
      have h1 : a < b ↔ a.toNat < b.toNat := UInt8.lt_iff_toNat_lt
      have h2 : b < a ↔ b.toNat < a.toNat := UInt8.lt_iff_toNat_lt
      by_cases k1 : a < b
      · have := h1.1 k1
        rw [if_pos k1, if_pos (by omega : (a.toNat : Int) < (b.toNat : Int))]; rfl
      · by_cases k2 : b < a
        · have := h2.1 k2
          rw [if_neg k1, if_pos k2, if_neg (by omega : ¬ (a.toNat : Int) < (b.toNat : Int)), if_pos (by omega : (a.toNat : Int) > (b.toNat : Int))]; rfl
        · have := mt h1.2 k1
          have := mt h2.2 k2
          rw [if_neg k1, if_neg k2, if_neg (by omega : ¬ (a.toNat : Int) < (b.toNat : Int)), if_neg (by omega : ¬ (a.toNat : Int) > (b.toNat : Int))]; rfl
    rw [e, e, e]
    exact (compareInt_cons _ _ _).then (fun _ _ => ih)
theorem bytes_anti : ∀ a b : List UInt8, Lib.compareBytes b a = - Lib.compareBytes a b
  | [], [] => rfl
  | [], _ :: _ => rfl
  | _ :: _, [] => rfl
  | a :: as1, b :: bs => by
    have ih := bytes_anti as1 bs
    rw [Lib.compareBytes, Lib.compareBytes]
    by_cases k1 : a < b
    · have h1 : a.toNat < b.toNat := UInt8.lt_iff_toNat_lt.1 k1
      have h2 : ¬ b < a := fun h => by have := UInt8.lt_iff_toNat_lt.1 h; omega
      rw [if_pos k1, if_neg h2, if_pos k1]; rfl
    · by_cases k2 : b < a
      · rw [if_pos k2, if_neg k1, if_pos k2]
      · rw [if_neg k2, if_neg k1, if_neg k1, if_neg k2, ih]
theorem bytes_zero : ∀ {a b : List UInt8}, Lib.compareBytes a b = 0 → a = b
  | [], [], _ => rfl
  | [], _ :: _, h => by simp [Lib.compareBytes] at h
  | _ :: _, [], h => by simp [Lib.compareBytes] at h
  | a :: as1, b :: bs, h => by
    rw [Lib.compareBytes] at h
    split at h
    · omega
    · rename_i k1
      split at h
      · omega
      · rename_i k2
        have h1 : ¬ a.toNat < b.toNat := fun h => k1 (UInt8.lt_iff_toNat_lt.2 h)
        have h2 : ¬ b.toNat < a.toNat := fun h => k2 (UInt8.lt_iff_toNat_lt.2 h)
        have : a = b := UInt8.toNat_inj.1 (by omega)
        rw [this, bytes_zero h]
theorem bytes_refl (a : List UInt8) : Lib.compareBytes a a = 0 := by
  have := bytes_anti a a
  omega

theorem cmp1_anti (x y : ByteArray × Int) (n m : Nat) (d : Int) : cmp1 y x m n (-d) = - cmp1 x y n m d := by
  unfold cmp1 cmpS
  rw [bytes_anti, compareInt_anti x.2 y.2, compareInt_anti (n : Int) (m : Int)]
  cases hx : noName x.1 <;> cases hy : noName y.1 <;> simp
  by_cases e : x.2 = y.2
  · rw [if_pos e, if_pos e.symm]
    by_cases e2 : n = m
    · rw [if_pos e2, if_pos e2.symm]
    · rw [if_neg e2, if_neg (Ne.symm e2)]
  · rw [if_neg e, if_neg (Ne.symm e)]
theorem cmpF_anti : ∀ F G : Fo, cmpF G F = - cmpF F G
  | .nil, .nil => rfl
  | .nil, .node _ _ _ _ _ => rfl
  | .node _ _ _ _ _, .nil => rfl
  | .node _ _ x l r, .node _ _ y m s => by
    rw [cmpF, cmpF, cmpF_anti l m, cmpF_anti r s, cmp1_anti]
    unfold thenC
    by_cases e : cmp1 x y (lenF l) (lenF m) (cmpF l m) = 0
    · rw [if_pos e, if_pos (by omega)]
    · rw [if_neg e, if_neg (by omega)]
theorem cmp1_cons (x y z : ByteArray × Int) (n m k : Nat) (d1 d2 d3 : Int) (h : n = m → m = k → Cons d1 d2 d3) : Cons (cmp1 x y n m d1) (cmp1 y z m k d2) (cmp1 x z n k d3) := by
  have hI := compareInt_cons x.2 y.2 z.2
  have hN := compareInt_cons (n : Int) m k
  have e : ∀ (x y : ByteArray × Int) (n m : Nat) (d : Int), noName x.1 = true → noName y.1 = true → cmp1 x y n m d = thenC (Lib.compareInt x.2 y.2) (thenC (Lib.compareInt n m) d) := by
    intro x y n m d hx hy
    unfold cmp1 thenC
    rw [if_neg (by simp [hx]), if_neg (by simp [hy])]
    by_cases e : x.2 = y.2
    · have e0 : Lib.compareInt x.2 y.2 = 0 := by unfold Lib.compareInt; rw [if_neg (by omega), if_neg (by omega)]
      rw [if_pos e, if_pos e0]
      by_cases e2 : n = m
      · have e1 : Lib.compareInt (n : Int) m = 0 := by unfold Lib.compareInt; rw [if_neg (by omega), if_neg (by omega)]
        rw [if_pos e2, if_pos e1]
      · have e1 : Lib.compareInt (n : Int) m ≠ 0 := fun h => e2 (by have := compareInt_zero h; omega)
        rw [if_neg e2, if_neg e1]
    · have e0 : Lib.compareInt x.2 y.2 ≠ 0 := fun h => e (compareInt_zero h)
      rw [if_neg e, if_neg e0]
  cases hx : noName x.1 <;> cases hy : noName y.1 <;> cases hz : noName z.1
  · simp only [cmp1, hx, hy, hz, if_true]; exact bytes_cons _ _ _
  · simp [cmp1, hx, hy, hz]; constructor <;> omega
  · simp [cmp1, hx, hy, hz]; constructor <;> omega
  · simp [cmp1, hx, hy, hz]; constructor <;> omega
  · simp [cmp1, hx, hy, hz]; constructor <;> omega
  · simp [cmp1, hx, hy, hz]; constructor <;> omega
  · simp [cmp1, hx, hy, hz]; constructor <;> omega
  · rw [e _ _ _ _ _ hx hy, e _ _ _ _ _ hy hz, e _ _ _ _ _ hx hz]
    refine hI.then fun _ _ => hN.then fun h1 h2 => h ?_ ?_
    · have := compareInt_zero h1; omega
    · have := compareInt_zero h2; omega
theorem cmpF_cons : ∀ F G K : Fo, lenF F = lenF G → lenF G = lenF K → Cons (cmpF F G) (cmpF G K) (cmpF F K)
  | .nil, .nil, .nil, _, _ => Cons.zero
  | .nil, .nil, .node _ _ _ _ _, _, h => by simp [lenF] at h
  | .nil, .node _ _ _ _ _, _, h, _ => by simp [lenF] at h
  | .node _ _ _ _ _, .nil, _, h, _ => by simp [lenF] at h
  | .node _ _ _ _ _, .node _ _ _ _ _, .nil, _, h => by simp [lenF] at h
  | .node _ _ x l r, .node _ _ y m s, .node _ _ z p q, h1, h2 => by
    simp only [lenF] at h1 h2
    rw [cmpF, cmpF, cmpF]
    exact (cmp1_cons x y z _ _ _ _ _ _ (fun a b => cmpF_cons l m p a b)).then (fun _ _ => cmpF_cons r s q (by omega) (by omega))

/-- A term: its name, its symbol, its arguments. -/
structure Tm where
  name : ByteArray
  sym : Int
  args : Fo
def cmpT (x y : Tm) : Int := cmp1 (x.name, x.sym) (y.name, y.sym) (lenF x.args) (lenF y.args) (cmpF x.args y.args)
theorem cmpT_anti (x y : Tm) : cmpT y x = - cmpT x y := by unfold cmpT; rw [cmpF_anti]; exact cmp1_anti _ _ _ _ _
theorem cmpT_self (x : Tm) : cmpT x x = 0 := by have := cmpT_anti x x; omega
theorem cmpT_cons (x y z : Tm) : Cons (cmpT x y) (cmpT y z) (cmpT x z) := cmp1_cons _ _ _ _ _ _ _ _ _ (fun a b => cmpF_cons _ _ _ a b)
end Go.Proofs.Ytlemkgdbefmeeab
/- Boxes and rows in memory, what stays of them. -/
namespace Go.Proofs.Ytlemkgdbefmeeab
open Go.RowKit Go.Shelf Go.Deep

theorem boxed_below {W W' : World} {B : Nat} {t : TypeId} {v : Value} (h : Boxed W B t v) (hb : Below W.heap.size W W') : Boxed W' B t v := (hb.block B h.lt).trans h
theorem grown_of_below {A B : World} (h : Below A.heap.size A B) : A.grownBy B none := ⟨h.os, h.tape, h.output, h.size, fun k hk _ => h.block k hk⟩
theorem owns_below {W W' : World} {base e size k : Nat} {v : Value} {xs : List Value} (h : W.ownsRow base e size v k xs) (hb : Below W.heap.size W W') : W'.ownsRow base e size v k xs :=
  h.kept (grown_of_below hb) (by cases v.ownBlock with
    | none => exact .inl rfl
    | some g => exact .inr (by simp))
theorem Try.info3 : (Try.prog.info? 3).map (fun i => (i.zero, i.size, i.bytes)) = some (some (.int .i64 0), 1, 8) := by kernel_rfl
theorem owns_block {W W' : World} {base e size k : Nat} {v : Value} {xs : List Value} (h : W.ownsRow base e size v k xs) (hb : ∀ g, v.ownBlock = some g → W'.heap[g]? = W.heap[g]?) : W'.ownsRow base e size v k xs := by
  refine ⟨h.1, ?_⟩
  rcases h.2 with h1 | ⟨g, cap, cur, rfl, h2, h3, h4⟩
  · exact .inl h1
  · exact .inr ⟨g, cap, cur, rfl, h2, (hb g rfl).trans h3, h4⟩
theorem owns_cells {W : World} {base e size k g : Nat} {v : Value} {xs : List Value} (h : W.ownsRow base e size v k xs) (hg : v.ownBlock = some g) : base ≤ g ∧ ∃ cur, W.heap[g]? = some (Obj.cells cur e (0, 0)) := by
  rcases h.2 with ⟨rfl, _⟩ | ⟨g', cap, cur, rfl, h2, h3, h4⟩
  · simp [Value.ownBlock] at hg
  · simp only [Value.ownBlock, Option.some.injEq] at hg
    subst hg
    exact ⟨h2, cur, h3⟩
def intsV (l : List Int) : List Value := l.map (Value.int .i64)
def TBox (W : World) (B : Nat) (x : ByteArray × Int) (a : Option Addr) (n c : Nat) : Prop := W.heap[B]? = some (.cells #[.string x.1, .int .i64 x.2, .slice a n c] 26 (0, 0))
theorem TBox.c0 {W : World} {B : Nat} {x : ByteArray × Int} {a : Option Addr} {n c : Nat} (h : TBox W B x a n c) : W.cell? ⟨B, 0, none⟩ = some (.string x.1) := by simp [World.cell?, show W.heap[B]? = _ from h]
theorem TBox.c1 {W : World} {B : Nat} {x : ByteArray × Int} {a : Option Addr} {n c : Nat} (h : TBox W B x a n c) : W.cell? ⟨B, 1, none⟩ = some (.int .i64 x.2) := by simp [World.cell?, show W.heap[B]? = _ from h]
theorem TBox.c2 {W : World} {B : Nat} {x : ByteArray × Int} {a : Option Addr} {n c : Nat} (h : TBox W B x a n c) : W.cell? ⟨B, 2, none⟩ = some (.slice a n c) := by simp [World.cell?, show W.heap[B]? = _ from h]
theorem TBox.new (W : World) (x : ByteArray × Int) (a : Option Addr) (n c : Nat) : TBox (W.alloc (.cells #[.string x.1, .int .i64 x.2, .slice a n c] 26)) W.heap.size x a n c := World.alloc_heap_new W _
theorem TBox.lt {W : World} {B : Nat} {x : ByteArray × Int} {a : Option Addr} {n c : Nat} (h : TBox W B x a n c) : B < W.heap.size := (Array.getElem?_eq_some_iff.1 h).1
theorem TBox.below {W W' : World} {B : Nat} {x : ByteArray × Int} {a : Option Addr} {n c : Nat} (h : TBox W B x a n c) (hb : Below W.heap.size W W') : TBox W' B x a n c := (hb.block B h.lt).trans h
theorem owns_base {W : World} {base base' e size k : Nat} {v : Value} {xs : List Value} (h : W.ownsRow base e size v k xs) (hb : base' ≤ base) : W.ownsRow base' e size v k xs := by
  refine ⟨h.1, ?_⟩
  rcases h.2 with h1 | ⟨g, cap, cur, rfl, h2, h3⟩
  · exact .inl h1
  · exact .inr ⟨g, cap, cur, rfl, by omega, h3⟩
end Go.Proofs.Ytlemkgdbefmeeab
/- Terms in memory that a call has made itself: every list from the head of a block of its own, with a mark behind it or none. -/
namespace Go.Proofs.Ytlemkgdbefmeeab
open Go.RowKit Go.Deep

def markB : ByteArray := ⟨#[77, 97, 114, 107]⟩
/-- The list of these terms, its blocks among those that P lets in. -/
def OwnKids (mk : Bool) (P : Nat → Prop) (w : World) : Fo → Nat → Nat → Prop
  | .nil, _, _ => True
  | .node _ _ x l r, b, o => (∃ a c, w.cell? ⟨b, o, none⟩ = some (.string x.1) ∧ w.cell? ⟨b, o + 1, none⟩ = some (.int .i64 x.2) ∧ w.cell? ⟨b, o + 2, none⟩ = some (.slice a (lenF l) c) ∧ Sizes x.1 (lenF l) c ∧
      ((l = .nil ∧ mk = false) ∨ ∃ g cur, a = some ⟨g, 0, none⟩ ∧ P g ∧ w.heap[g]? = some (Obj.cells cur 26 (0, 0)) ∧ (mk = true → lenF l + 1 ≤ c ∧ w.cell? ⟨g, lenF l * 3, none⟩ = some (.string markB)) ∧ OwnKids mk P w l g 0)) ∧ OwnKids mk P w r b (o + 3)
/-- The same of one term's arguments. -/
structure OwnTm (mk : Bool) (P : Nat → Prop) (w : World) (x : ByteArray × Int) (a : Option Addr) (c : Nat) (l : Fo) : Prop where
  sizes : Sizes x.1 (lenF l) c
  list : (l = .nil ∧ mk = false) ∨ ∃ g cur, a = some ⟨g, 0, none⟩ ∧ P g ∧ w.heap[g]? = some (Obj.cells cur 26 (0, 0)) ∧ (mk = true → lenF l + 1 ≤ c ∧ w.cell? ⟨g, lenF l * 3, none⟩ = some (.string markB)) ∧ OwnKids mk P w l g 0

theorem OwnKids.kids {mk : Bool} {P : Nat → Prop} {w : World} : ∀ {F : Fo} {b o : Nat}, OwnKids mk P w F b o → KidsAt w F b o
  | .nil, _, _, _ => trivial
  | .node _ _ _ l r, b, o, ⟨⟨a, c, h0, h1, h2, hs, hl⟩, hr⟩ => ⟨⟨a, c, h0, h1, h2, hs, by
      rcases hl with ⟨h, _⟩ | ⟨g, cur, ha, _, _, _, hk⟩
      · exact .inl h
      · exact .inr ⟨g, 0, ha, OwnKids.kids hk⟩⟩, OwnKids.kids hr⟩
theorem OwnTm.tm {mk : Bool} {P : Nat → Prop} {w : World} {x : ByteArray × Int} {a : Option Addr} {c : Nat} {l : Fo} (h : OwnTm mk P w x a c l) : TmAt w x a c l :=
  ⟨h.sizes, by
    rcases h.list with ⟨h, _⟩ | ⟨g, cur, ha, _, _, _, hk⟩
    · exact .inl h
    · exact .inr ⟨g, 0, ha, hk.kids⟩⟩
theorem OwnKids.mono {mk : Bool} {P P' : Nat → Prop} {w : World} (hp : ∀ k, k < w.heap.size → P k → P' k) : ∀ {F : Fo} {b o : Nat}, OwnKids mk P w F b o → OwnKids mk P' w F b o
  | .nil, _, _, _ => trivial
  | .node _ _ _ l r, b, o, ⟨⟨a, c, h0, h1, h2, hs, hl⟩, hr⟩ => ⟨⟨a, c, h0, h1, h2, hs, by
      rcases hl with h | ⟨g, cur, ha, hg, hc, hm, hk⟩
      · exact .inl h
      · exact .inr ⟨g, cur, ha, hp g (Array.getElem?_eq_some_iff.1 hc).1 hg, hc, hm, OwnKids.mono hp hk⟩⟩, OwnKids.mono hp hr⟩
theorem OwnTm.mono {mk : Bool} {P P' : Nat → Prop} {w : World} {x : ByteArray × Int} {a : Option Addr} {c : Nat} {l : Fo} (hp : ∀ k, k < w.heap.size → P k → P' k) (h : OwnTm mk P w x a c l) : OwnTm mk P' w x a c l :=
  ⟨h.sizes, by
    rcases h.list with h | ⟨g, cur, ha, hg, hc, hm, hk⟩
    · exact .inl h
    · exact .inr ⟨g, cur, ha, hp g (Array.getElem?_eq_some_iff.1 hc).1 hg, hc, hm, hk.mono hp⟩⟩
theorem OwnKids.keep {mk : Bool} {P : Nat → Prop} {w w' : World} (hp : ∀ k, P k → k < w.heap.size → w'.heap[k]? = w.heap[k]?) : ∀ {F : Fo} {b o : Nat}, w'.heap[b]? = w.heap[b]? → OwnKids mk P w F b o → OwnKids mk P w' F b o
  | .nil, _, _, _, _ => trivial
  | .node _ _ _ l r, b, o, hb, ⟨⟨a, c, h0, h1, h2, hs, hl⟩, hr⟩ => ⟨⟨a, c, (World.cell?_of_block hb).trans h0, (World.cell?_of_block hb).trans h1, (World.cell?_of_block hb).trans h2, hs, by
      rcases hl with h | ⟨g, cur, ha, hg, hc, hm, hk⟩
      · exact .inl h
      · have hgg := hp g hg (Array.getElem?_eq_some_iff.1 hc).1
        exact .inr ⟨g, cur, ha, hg, hgg.trans hc, fun e => ⟨(hm e).1, (World.cell?_of_block hgg).trans (hm e).2⟩, OwnKids.keep hp hgg hk⟩⟩, OwnKids.keep hp hb hr⟩
theorem OwnTm.keep {mk : Bool} {P : Nat → Prop} {w w' : World} {x : ByteArray × Int} {a : Option Addr} {c : Nat} {l : Fo} (hp : ∀ k, P k → k < w.heap.size → w'.heap[k]? = w.heap[k]?) (h : OwnTm mk P w x a c l) : OwnTm mk P w' x a c l :=
  ⟨h.sizes, by
    rcases h.list with h | ⟨g, cur, ha, hg, hc, hm, hk⟩
    · exact .inl h
    · have hgg := hp g hg (Array.getElem?_eq_some_iff.1 hc).1
      exact .inr ⟨g, cur, ha, hg, hgg.trans hc, fun e => ⟨(hm e).1, (World.cell?_of_block hgg).trans (hm e).2⟩, hk.keep hp hgg⟩⟩
theorem OwnTm.below {mk : Bool} {P : Nat → Prop} {w w' : World} {x : ByteArray × Int} {a : Option Addr} {c : Nat} {l : Fo} (h : OwnTm mk P w x a c l) (hb : Below w.heap.size w w') : OwnTm mk P w' x a c l := h.keep fun k _ hk => hb.block k hk

/-! ### lists of terms -/
/-- One term of a list, as its three cells say it. -/
structure Kv where
  x : ByteArray × Int
  l : Fo
  a : Option Addr
  c : Nat
def Kv.cells (k : Kv) : List Value := [.string k.x.1, .int .i64 k.x.2, .slice k.a (lenF k.l) k.c]
def kvCells (ks : List Kv) : List Value := ks.flatMap Kv.cells
def kidsL : Fo → List ((ByteArray × Int) × Fo)
  | .nil => []
  | .node _ _ x l r => (x, l) :: kidsL r
theorem kids_len : ∀ F : Fo, (kidsL F).length = lenF F
  | .nil => rfl
  | .node _ _ _ _ r => by simp [kidsL, lenF, kids_len r]
theorem kids_drop : ∀ (i : Nat) (F : Fo), kidsL (dropF i F) = (kidsL F).drop i
  | 0, F => by rw [drop_zero]; rfl
  | i + 1, .nil => by simp [dropF, kidsL]
  | i + 1, .node _ _ _ _ r => by simp only [dropF, kidsL, List.drop_succ_cons]; exact kids_drop i r
theorem kids_take {F : Fo} {k : Nat} {x : ByteArray × Int} {l : Fo} {B O : Nat} {r : Fo} (h : dropF k F = .node B O x l r) : (kidsL F).take (k + 1) = (kidsL F).take k ++ [(x, l)] := by
  have h1 := kids_drop k F
  rw [h, kidsL] at h1
  have h2 : (kidsL F)[k]? = some (x, l) := by
    have := congrArg (·[0]?) h1
    simpa using this.symm
  rw [List.take_add_one, h2]; rfl
theorem kvCells_len (ks : List Kv) : (kvCells ks).length = ks.length * 3 := by
  induction ks with
  | nil => rfl
  | cons k r ih => simp only [kvCells, List.flatMap_cons, List.length_append, List.length_cons] at ih ⊢; rw [ih]; simp [Kv.cells]; omega
theorem kvCells_snoc (ks : List Kv) (k : Kv) : kvCells (ks ++ [k]) = kvCells ks ++ k.cells := by simp [kvCells]
theorem kv_one (k : Kv) : ∀ u ∈ k.cells, u.oneCell' = true := by
  intro u hu
  simp [Kv.cells] at hu
  rcases hu with rfl | rfl | rfl <;> rfl

/-- A row of cells, and each term's own arguments: the list. -/
theorem ownKids_of {mk : Bool} {P : Nat → Prop} {w : World} {b : Nat} : ∀ (F : Fo) (ks : List Kv) (o : Nat), ks.map (fun k => (k.x, k.l)) = kidsL F → (∀ j u, (kvCells ks)[j]? = some u → w.cell? ⟨b, o + j, none⟩ = some u) → (∀ k ∈ ks, OwnTm mk P w k.x k.a k.c k.l) → OwnKids mk P w F b o
  | .nil, _, _, _, _, _ => trivial
  | .node _ _ x l r, [], o, h, _, _ => by simp [kidsL] at h
  | .node _ _ x l r, k :: ks, o, h, hc, ho => by
    simp only [List.map_cons, kidsL, List.cons.injEq, Prod.mk.injEq] at h
    obtain ⟨⟨rfl, rfl⟩, h⟩ := h
    have e : kvCells (k :: ks) = .string k.x.1 :: .int .i64 k.x.2 :: .slice k.a (lenF k.l) k.c :: kvCells ks := rfl
    rw [e] at hc
    have hk := ho k (by simp)
    refine ⟨⟨k.a, k.c, hc 0 _ rfl, hc 1 _ rfl, hc 2 _ rfl, hk.sizes, hk.list⟩, ownKids_of r ks (o + 3) h (fun j u hu => ?_) (fun k' hk' => ho k' (by simp [hk']))⟩
    have := hc (j + 3) u (by simpa using hu)
    rw [show o + 3 + j = o + (j + 3) by omega]
    exact this
theorem Try.info26 : (Try.prog.info? 26).map (fun i => (i.zero, i.size, i.bytes)) = some (some (.agg #[.string ⟨#[]⟩, .int .i64 0, .slice none 0 0]), 3, 48) := by kernel_rfl
/-- What a row that is owned holds, cell by cell. -/
theorem owns_at {w : World} {base e size g n cap : Nat} {xs : List Value} (h : w.ownsRow base e size (.slice (some ⟨g, 0, none⟩) n cap) n xs) : ∀ j u, xs[j]? = some u → w.cell? ⟨g, 0 + j, none⟩ = some u := by
  intro j u hu
  rcases h.2 with ⟨hv, _⟩ | ⟨g', cap', cur, hv, _, hh, _, _, _, hcur⟩
  · cases hv
  · cases hv
    have hj : j < xs.length := by
      rcases Nat.lt_or_ge j xs.length with h' | h'
      · exact h'
      · rw [List.getElem?_eq_none h'] at hu; cases hu
    rw [Nat.zero_add, cell_of_row w g j cur e (0, 0) hh, ← hu, ← hcur, List.getElem?_take_of_lt (by have := h.1; omega)]
    simp
end Go.Proofs.Ytlemkgdbefmeeab
/- What Lent makes: the term in new memory, a mark behind each list. -/
namespace Go.Proofs.Ytlemkgdbefmeeab
open Go.RowKit Go.Deep

/-- A term in a box, whose list is v. -/
def XBox (W : World) (B : Nat) (x : ByteArray × Int) (v : Value) : Prop := W.heap[B]? = some (.cells #[.string x.1, .int .i64 x.2, v] 26 (0, 0))
theorem XBox.c0 {W : World} {B : Nat} {x : ByteArray × Int} {v : Value} (h : XBox W B x v) : W.cell? ⟨B, 0, none⟩ = some (.string x.1) := by simp [World.cell?, show W.heap[B]? = _ from h]
theorem XBox.c1 {W : World} {B : Nat} {x : ByteArray × Int} {v : Value} (h : XBox W B x v) : W.cell? ⟨B, 1, none⟩ = some (.int .i64 x.2) := by simp [World.cell?, show W.heap[B]? = _ from h]
theorem XBox.c2 {W : World} {B : Nat} {x : ByteArray × Int} {v : Value} (h : XBox W B x v) : W.cell? ⟨B, 2, none⟩ = some v := by simp [World.cell?, show W.heap[B]? = _ from h]
theorem XBox.f {W : World} {B k : Nat} {x : ByteArray × Int} {v : Value} (h : XBox W B x v) : W.frozen? ⟨B, k, none⟩ = false := by simp [World.frozen?, show W.heap[B]? = _ from h]
theorem XBox.lt {W : World} {B : Nat} {x : ByteArray × Int} {v : Value} (h : XBox W B x v) : B < W.heap.size := (Array.getElem?_eq_some_iff.1 h).1
theorem XBox.below {W W' : World} {B : Nat} {x : ByteArray × Int} {v : Value} (h : XBox W B x v) (hb : Below W.heap.size W W') : XBox W' B x v := (hb.block B h.lt).trans h
theorem XBox.kept {W W' : World} {row : Option Nat} {B : Nat} {x : ByteArray × Int} {v : Value} (h : XBox W B x v) (hg : W.grownBy W' row) (hne : some B ≠ row) : XBox W' B x v := (hg.block B h.lt hne).trans h
theorem XBox.set {W : World} {B : Nat} {x : ByteArray × Int} {v : Value} (h : XBox W B x v) (u : Value) : XBox (W.setCell ⟨B, 2, none⟩ u) B x u := by
  obtain ⟨hlt, hk⟩ := Array.getElem?_eq_some_iff.1 h
  show (W.heap.modify B _)[B]? = _
  rw [Array.getElem?_eq_getElem (by rw [Array.size_modify]; exact hlt), Array.getElem_modify_self, hk]
  rfl
theorem XBox.other {W : World} {B : Nat} {x : ByteArray × Int} {v : Value} (h : XBox W B x v) {p : Addr} (hne : B ≠ p.block) (u : Value) : XBox (W.setCell p u) B x v := (Below.heap_setCell W p u B hne).trans h

/-- The boxes of a function that builds a term: of what came in, of the answer, of what is built. -/
structure Three (w : World) (x : ByteArray × Int) (a : Option Addr) (n c : Nat) (W : World) (v : Value) : Prop where
  low : Below w.heap.size w W
  t : TBox W w.heap.size x a n c
  r : W.heap[w.heap.size + 1]? = some (.cells #[.string ⟨#[]⟩, .int .i64 0, .slice none 0 0] 26 (0, 0))
  x : XBox W (w.heap.size + 1 + 1) x v
/-- What has been built of the list: these terms, in a row of the call's own, their own lists elsewhere. -/
structure Built (mk : Bool) (w : World) (W : World) (v : Value) (j : Nat) (ks : List Kv) : Prop where
  row : W.ownsRow (w.heap.size + 3) 26 3 v j (kvCells ks)
  own : ∀ k ∈ ks, OwnTm mk (fun q => w.heap.size + 3 ≤ q ∧ some q ≠ v.ownBlock) W k.x k.a k.c k.l

theorem Three.new (w : World) (x : ByteArray × Int) (a : Option Addr) (n c : Nat) : Three w x a n c (((w.alloc (.cells #[.string x.1, .int .i64 x.2, .slice a n c] 26)).alloc (.cells #[.string ⟨#[]⟩, .int .i64 0, .slice none 0 0] 26)).alloc (.cells #[.string x.1, .int .i64 x.2, .slice none 0 0] 26)) (.slice none 0 0) := by
  refine ⟨(((Below.refl _ w).alloc (Nat.le_refl _) _).alloc (by simp) _).alloc (by simp; omega) _, ?_, ?_, ?_⟩
  · exact ((TBox.new w x a n c).below ((Below.refl _ _).alloc (Nat.le_refl _) _)).below ((Below.refl _ _).alloc (Nat.le_refl _) _)
  · rw [Below.heap_alloc _ _ _ (by simp)]
    have := World.alloc_heap_new (w.alloc (.cells #[.string x.1, .int .i64 x.2, .slice a n c] 26)) (.cells #[.string ⟨#[]⟩, .int .i64 0, .slice none 0 0] 26)
    rwa [World.size_alloc] at this
  · have := World.alloc_heap_new ((w.alloc (.cells #[.string x.1, .int .i64 x.2, .slice a n c] 26)).alloc (.cells #[.string ⟨#[]⟩, .int .i64 0, .slice none 0 0] 26)) (.cells #[.string x.1, .int .i64 x.2, .slice none 0 0] 26)
    rw [World.size_alloc, World.size_alloc] at this
    exact this
/-- One term more: the callee has made it; it is appended; the list is stored. -/
theorem build_step {mk : Bool} {w wr w1 w3 : World} {x : ByteArray × Int} {a : Option Addr} {n c j g cap : Nat} {v : Value} {ks : List Kv} {kv : Kv} {o : Obj} (hT : Three w x a n c wr v) (hB : Built mk w wr v j ks) (hW : Below wr.heap.size wr w1)
    (hk : OwnTm mk (fun k => wr.heap.size ≤ k) w1 kv.x kv.a kv.c kv.l) (hg : (w1.alloc o).grownBy w3 v.ownBlock) (hat : v.ownBlock = some g ∨ g = w1.heap.size + 1)
    (ho : w3.ownsRow (w.heap.size + 3) 26 3 (.slice (some ⟨g, 0, none⟩) (j + 1) cap) (j + 1) (kvCells ks ++ kv.cells)) :
    Three w x a n c (w3.setCell ⟨w.heap.size + 1 + 1, 2, none⟩ (.slice (some ⟨g, 0, none⟩) (j + 1) cap)) (.slice (some ⟨g, 0, none⟩) (j + 1) cap) ∧
    Built mk w (w3.setCell ⟨w.heap.size + 1 + 1, 2, none⟩ (.slice (some ⟨g, 0, none⟩) (j + 1) cap)) (.slice (some ⟨g, 0, none⟩) (j + 1) cap) (j + 1) (ks ++ [kv]) := by
  have hxlt := hT.x.lt
  have hsz := hW.size
  have hWa : Below wr.heap.size wr (w1.alloc o) := hW.alloc hsz _
  have far : ∀ k, k < w.heap.size + 3 → k < wr.heap.size → w3.heap[k]? = wr.heap[k]? := fun k hk hlt => by
    rw [hg.block k (by rw [World.size_alloc]; omega) (fun e => by have := (owns_cells hB.row e.symm).1; omega)]
    exact hWa.block k hlt
  have hlow : Below w.heap.size w w3 := hT.low.trans ((hWa.mono (by have := hT.low.size; omega)).grown hg (by simp; omega) (fun k e => by have := (owns_cells hB.row e).1; omega))
  have hrow : (w3.setCell ⟨w.heap.size + 1 + 1, 2, none⟩ (.slice (some ⟨g, 0, none⟩) (j + 1) cap)).ownsRow (w.heap.size + 3) 26 3 (.slice (some ⟨g, 0, none⟩) (j + 1) cap) (j + 1) (kvCells ks ++ kv.cells) := owns_block ho (fun q hq => by
    have := (owns_cells ho hq).1
    exact Below.heap_setCell w3 _ _ q (by show q ≠ w.heap.size + 1 + 1; omega))
  refine ⟨⟨hlow.setCell (p := ⟨w.heap.size + 1 + 1, 2, none⟩) (by show w.heap.size ≤ w.heap.size + 1 + 1; omega) _, ?_, ?_, ?_⟩, ⟨by rw [kvCells_snoc]; exact hrow, ?_⟩⟩
  · exact ((Below.heap_setCell w3 _ _ _ (by show w.heap.size ≠ w.heap.size + 1 + 1; omega)).trans (far _ (by omega) (by omega))).trans hT.t
  · exact ((Below.heap_setCell w3 _ _ _ (by show w.heap.size + 1 ≠ w.heap.size + 1 + 1; omega)).trans (far _ (by omega) (by omega))).trans hT.r
  · exact XBox.set ((far _ (by omega) (by omega)).trans hT.x) _
  · intro k hkm
    have set : ∀ (q : Nat), (w.heap.size + 3 ≤ q ∧ some q ≠ some g) → q < w3.heap.size → (w3.setCell ⟨w.heap.size + 1 + 1, 2, none⟩ (.slice (some ⟨g, 0, none⟩) (j + 1) cap)).heap[q]? = w3.heap[q]? := fun q hq _ => Below.heap_setCell w3 _ _ q (by show q ≠ w.heap.size + 1 + 1; omega)
    have grow : ∀ (q : Nat), some q ≠ v.ownBlock → q < (w1.alloc o).heap.size → w3.heap[q]? = (w1.alloc o).heap[q]? := fun q hq hlt => hg.block q hlt hq
    rcases List.mem_append.1 hkm with hkm | hkm
    · have h1 := (hB.own k hkm).below hWa
      have h2 : OwnTm mk (fun q => (w.heap.size + 3 ≤ q ∧ some q ≠ some g) ∧ some q ≠ v.ownBlock) (w1.alloc o) k.x k.a k.c k.l := by
        have h0 : OwnTm mk (fun q => (w.heap.size + 3 ≤ q ∧ some q ≠ some g) ∧ some q ≠ v.ownBlock) wr k.x k.a k.c k.l := (hB.own k hkm).mono (fun q hq hp => ⟨⟨hp.1, by
          rcases hat with e | e
          · rw [← e]; exact hp.2
          · intro e'; cases e'; omega⟩, hp.2⟩)
        exact h0.below hWa
      exact ((h2.keep (fun q hq hlt => grow q hq.2 hlt)).mono (fun q _ hq => hq.1)).keep set
    · simp only [List.mem_singleton] at hkm
      subst hkm
      have h2 : OwnTm mk (fun q => (w.heap.size + 3 ≤ q ∧ some q ≠ some g) ∧ some q ≠ v.ownBlock) w1 k.x k.a k.c k.l := hk.mono (fun q hq hp => ⟨⟨by omega, by
        rcases hat with e | e
        · intro e'
          cases e'
          have := (owns_cells hB.row e).2
          obtain ⟨cur, hc⟩ := this
          have := (Array.getElem?_eq_some_iff.1 hc).1
          omega
        · intro e'; cases e'; omega⟩, fun e' => by
          obtain ⟨cur, hc⟩ := (owns_cells hB.row e'.symm).2
          have := (Array.getElem?_eq_some_iff.1 hc).1
          omega⟩)
      exact (((h2.below ((Below.refl _ _).alloc (Nat.le_refl _) o)).keep (fun q hq hlt => grow q hq.2 hlt)).mono (fun q _ hq => hq.1)).keep set

theorem owns_cap {w : World} {base e size g n cap : Nat} {xs : List Value} (h : w.ownsRow base e size (.slice (some ⟨g, 0, none⟩) n cap) n xs) : n ≤ cap ∧ cap ≤ maxLen := by
  rcases h.2 with ⟨hv, _⟩ | ⟨g', cap', cur', hv, _, _, hnc, hcm, _⟩
  · cases hv
  · cases hv; exact ⟨hnc, hcm⟩
theorem block_set {W : World} {B k : Nat} {cs : Array Value} {t : TypeId} {fr : Nat × Nat} (h : W.heap[B]? = some (Obj.cells cs t fr)) (u : Value) : (W.setCell ⟨B, k, none⟩ u).heap[B]? = some (Obj.cells (cs.setIfInBounds k u) t fr) := by
  obtain ⟨hlt, hk⟩ := Array.getElem?_eq_some_iff.1 h
  show (W.heap.modify B _)[B]? = _
  rw [Array.getElem?_eq_getElem (by rw [Array.size_modify]; exact hlt), Array.getElem_modify_self, hk]
  rfl
/-- A term stored over another. -/
theorem XBox.all {W : World} {B : Nat} {x y : ByteArray × Int} {v : Value} (h : XBox W B y v) (u : Value) : XBox (((W.setCell ⟨B, 0, none⟩ (.string x.1)).setCell ⟨B, 1, none⟩ (.int .i64 x.2)).setCell ⟨B, 2, none⟩ u) B x u := by
  have := block_set (k := 2) (block_set (k := 1) (block_set (k := 0) h (.string x.1)) (.int .i64 x.2)) u
  exact this
theorem Try.size26 : (Try.prog.info? 26).map (·.size) = some 3 := by kernel_rfl
/-- The three stores of the answer turn one block. -/
theorem sets_far {W : World} {B q : Nat} (h : q ≠ B) (a b c : Value) : (((W.setCell ⟨B, 0, none⟩ a).setCell ⟨B, 1, none⟩ b).setCell ⟨B, 2, none⟩ c).heap[q]? = W.heap[q]? :=
  ((Below.heap_setCell _ _ _ _ h).trans (Below.heap_setCell _ _ _ _ h)).trans (Below.heap_setCell _ _ _ _ h)
theorem sets_below {n0 : Nat} {w W : World} {B : Nat} (hb : Below n0 w W) (h : n0 ≤ B) (a b c : Value) : Below n0 w (((W.setCell ⟨B, 0, none⟩ a).setCell ⟨B, 1, none⟩ b).setCell ⟨B, 2, none⟩ c) :=
  ((hb.setCell (p := ⟨B, 0, none⟩) h _).setCell (p := ⟨B, 1, none⟩) h _).setCell (p := ⟨B, 2, none⟩) h _
def markK : Kv := ⟨(markB, 0), .nil, none, 0⟩
/-- The list with the mark behind it. -/
theorem lent_done {w wr wd w3 W : World} {x : ByteArray × Int} {l : Fo} {g cap : Nat} {v : Value} {ks : List Kv} (hs : Sizes x.1 (lenF l) cap) (hB : Built true w wr v (lenF l) ks) (hks : ks.map (fun k => (k.x, k.l)) = kidsL l)
    (hd : ∀ q, q < wr.heap.size → wd.heap[q]? = wr.heap[q]?) (hdz : wr.heap.size < wd.heap.size) (hg : wd.grownBy w3 v.ownBlock)
    (ho : w3.ownsRow (w.heap.size + 3) 26 3 (.slice (some ⟨g, 0, none⟩) (lenF l + 1) cap) (lenF l + 1) (kvCells ks ++ markK.cells)) (hW : ∀ q, w.heap.size + 3 ≤ q → W.heap[q]? = w3.heap[q]?) : OwnTm true (fun k => w.heap.size ≤ k) W x (some ⟨g, 0, none⟩) cap l := by
  have hlen : ks.length = lenF l := by have := congrArg List.length hks; rwa [List.length_map, kids_len] at this
  obtain ⟨hge, cur, hcur⟩ := owns_cells ho (g := g) rfl
  have hcap : lenF l + 1 ≤ cap := by
    rcases ho.2 with ⟨hv, _⟩ | ⟨g', cap', cur', hv, _, _, hnc, _⟩
    · cases hv
    · cases hv; exact hnc
  have hWg : W.heap[g]? = w3.heap[g]? := hW g hge
  have hat3 := owns_at ho
  have kids : OwnKids true (fun k => w.heap.size ≤ k) W l g 0 := by
    refine ownKids_of l ks 0 hks (fun j u hu => ?_) (fun k hk => ?_)
    · rw [show W.cell? ⟨g, 0 + j, none⟩ = w3.cell? ⟨g, 0 + j, none⟩ from World.cell?_of_block hWg]
      exact hat3 j u (by rw [List.getElem?_append_left (by
        rcases Nat.lt_or_ge j (kvCells ks).length with h' | h'
        · exact h'
        · rw [List.getElem?_eq_none h'] at hu; cases hu)]; exact hu)
    · have h1 := hB.own k hk
      refine (h1.keep (w' := W) (fun q hq hlt => ?_)).mono (fun q _ hq => by omega)
      rw [hW q hq.1, hg.block q (by omega) hq.2]
      exact hd q hlt
  refine ⟨hs, .inr ⟨g, cur, rfl, by omega, hWg.trans hcur, fun _ => ⟨hcap, ?_⟩, kids⟩⟩
  rw [show W.cell? ⟨g, lenF l * 3, none⟩ = w3.cell? ⟨g, lenF l * 3, none⟩ from World.cell?_of_block hWg]
  have := hat3 (lenF l * 3) (.string markB) (by rw [List.getElem?_append_right (by rw [kvCells_len]; omega), kvCells_len, hlen]; simp [Kv.cells, markK])
  rwa [Nat.zero_add] at this

end Go.Proofs.Ytlemkgdbefmeeab
/- A statement whose order is open, whose calls may make memory but turn nothing that was there: one walk in the text's order serves. -/
namespace Go.Proofs.Ytlemkgdbefmeeab
open Go.RowKit

/-- A world in which all that was there is as it was. -/
structure Later (w : World) where
  now : World
  below : Below w.heap.size w now

theorem later_some (w : World) : Nonempty (Later w) := ⟨⟨w, Below.refl _ _⟩⟩

theorem wp_region_later {P : Program} {id : Nat} {Q : Exit → Act → World → Prop} {a : Act} {w : World} {l : List Oper} (hm : P.follows .mixedOrders = true) (hB : Region.lexB .any l.toArray = true)
    (h : wpQuiet P l.toArray (fun w' => ∃ b : Later w, w' = b.now) (fun a' => ∀ w', (∃ b : Later w, w' = b.now) → Q .normal a' w') l a) : (Code.region id l.toArray true).wp P Q a w :=
  wp_region_quiet (C := fun w' => ∃ b : Later w, w' = b.now) hm hB ⟨⟨w.drew, (Below.refl _ _).drew⟩, rfl⟩ (by simpa using h)

/-- A callee's contract, met in a later world. -/
theorem calls_later {P : Program} {f : FuncId} {args : Array Value} {w : World} {b : Later w} {v : Value}
    (h : Calls P f args b.now fun e w' => e = .returned v ∧ Below b.now.heap.size b.now w') : Calls P f args b.now fun e w'' => e = .returned v ∧ ∃ b' : Later w, w'' = b'.now :=
  h.mono fun _ w' ⟨he, hb⟩ => ⟨he, ⟨w', b.below.trans (hb.mono b.below.size)⟩, rfl⟩
theorem calls_later_same {P : Program} {f : FuncId} {args : Array Value} {w : World} {b : Later w} {v : Value}
    (h : Calls P f args b.now fun e w' => e = .returned v ∧ w' = b.now) : Calls P f args b.now fun e w'' => e = .returned v ∧ ∃ b' : Later w, w'' = b'.now :=
  h.mono fun _ _ ⟨he, hb⟩ => ⟨he, b, hb⟩
theorem later_cell {w : World} {p : Addr} {v : Value} (h : w.cell? p = some v) (b : Later w) : b.now.cell? p = some v := by
  rw [b.below.cell (World.block_lt_of_cell? w p h)]; exact h
end Go.Proofs.Ytlemkgdbefmeeab
/- What Kept answers of a lent term that reads as it did. -/
namespace Go.Proofs.Ytlemkgdbefmeeab
open Go.RowKit Go.Deep

set_option maxRecDepth 100000 in
theorem OwnKids.drop {mk : Bool} {P : Nat → Prop} {w : World} : ∀ (i : Nat) {F : Fo} {b o : Nat}, OwnKids mk P w F b o → OwnKids mk P w (dropF i F) b (o + i * 3)
  | 0, F, b, o, h => by rw [drop_zero]; simpa using h
  | i + 1, .nil, b, o, _ => by simp [dropF, OwnKids]
  | i + 1, .node _ _ _ _ r, b, o, ⟨_, hr⟩ => by
    have := OwnKids.drop i hr
    rw [show o + 3 + i * 3 = o + (i + 1) * 3 by omega] at this
    exact this
set_option maxRecDepth 100000 in
theorem OwnKids.kid {mk : Bool} {P : Nat → Prop} {w : World} {F : Fo} {b o k : Nat} (h : OwnKids mk P w F b o) (hk : k < lenF F) : ∃ x a c l, Kid w F b o k x a c l ∧ OwnTm mk P w x a c l := by
  obtain ⟨B, O, x, l, r, hd⟩ := drop_node k F hk
  have h1 := h.drop k
  have h2 := nodes_drop k F
  rw [hd] at h1 h2
  obtain ⟨⟨a, c, h3, h4, h5, h6, h7⟩, _⟩ := h1
  have ho : OwnTm mk P w x a c l := ⟨h6, h7⟩
  exact ⟨x, a, c, l, ⟨h3, h4, h5, ho.tm, ⟨B, O, by rw [drop_succ k F hd]; exact hd⟩, by simp only [nodesF] at h2; omega⟩, ho⟩
set_option maxRecDepth 100000 in
theorem kid_same {w w' : World} {F : Fo} {b o b' o' k : Nat} {x y : ByteArray × Int} {a a' : Option Addr} {c c' : Nat} {l m : Fo} (h : Kid w F b o k x a c l) (h' : Kid w' F b' o' k y a' c' m) : y = x ∧ m = l := by
  obtain ⟨_, _, e⟩ := h.split
  obtain ⟨_, _, e'⟩ := h'.split
  rw [e] at e'
  cases e'
  exact ⟨rfl, rfl⟩

/-- The two boxes of a function of two terms. -/
structure Pair (w : World) (x : ByteArray × Int) (a : Option Addr) (n c : Nat) (y : ByteArray × Int) (b : Option Addr) (m d : Nat) (W : World) : Prop where
  low : Below w.heap.size w W
  l : TBox W w.heap.size x a n c
  r : TBox W (w.heap.size + 1) y b m d
set_option maxRecDepth 100000 in
theorem Pair.new (w : World) (x : ByteArray × Int) (a : Option Addr) (n c : Nat) (y : ByteArray × Int) (b : Option Addr) (m d : Nat) : Pair w x a n c y b m d ((w.alloc (.cells #[.string x.1, .int .i64 x.2, .slice a n c] 26)).alloc (.cells #[.string y.1, .int .i64 y.2, .slice b m d] 26)) := by
  refine ⟨((Below.refl _ w).alloc (Nat.le_refl _) _).alloc (by simp) _, (TBox.new w x a n c).below ((Below.refl _ _).alloc (Nat.le_refl _) _), ?_⟩
  have := TBox.new (w.alloc (.cells #[.string x.1, .int .i64 x.2, .slice a n c] 26)) y b m d
  rw [World.size_alloc] at this
  exact this
set_option maxRecDepth 100000 in
theorem Pair.below {w : World} {x : ByteArray × Int} {a : Option Addr} {n c : Nat} {y : ByteArray × Int} {b : Option Addr} {m d : Nat} {W W' : World} (h : Pair w x a n c y b m d W) (hb : Below W.heap.size W W') : Pair w x a n c y b m d W' :=
  ⟨h.low.trans (hb.mono h.low.size), h.l.below hb, h.r.below hb⟩

end Go.Proofs.Ytlemkgdbefmeeab
/- Terms in memory no two of whose lists share a block. -/
namespace Go.Proofs.Ytlemkgdbefmeeab
open Go.RowKit Go.Deep

/-- From this cell on these terms lie; their own lists have blocks of A, each another. -/
def SepKids (w : World) : Fo → (Nat → Prop) → Nat → Nat → Prop
  | .nil, _, _, _ => True
  | .node _ _ x l r, A, b, o => ∃ A1 A2 : Nat → Prop, (∀ k, A1 k → A k) ∧ (∀ k, A2 k → A k ∧ ¬ A1 k) ∧
      (∃ a c, w.cell? ⟨b, o, none⟩ = some (.string x.1) ∧ w.cell? ⟨b, o + 1, none⟩ = some (.int .i64 x.2) ∧ w.cell? ⟨b, o + 2, none⟩ = some (.slice a (lenF l) c) ∧ Sizes x.1 (lenF l) c ∧
        (l = .nil ∨ ∃ g cur, a = some ⟨g, 0, none⟩ ∧ A1 g ∧ w.heap[g]? = some (Obj.cells cur 26 (0, 0)) ∧ SepKids w l (fun k => A1 k ∧ k ≠ g) g 0)) ∧ SepKids w r A2 b (o + 3)
structure SepTm (w : World) (A : Nat → Prop) (x : ByteArray × Int) (a : Option Addr) (c : Nat) (l : Fo) : Prop where
  sizes : Sizes x.1 (lenF l) c
  list : l = .nil ∨ ∃ g cur, a = some ⟨g, 0, none⟩ ∧ A g ∧ w.heap[g]? = some (Obj.cells cur 26 (0, 0)) ∧ SepKids w l (fun k => A k ∧ k ≠ g) g 0

theorem SepKids.kids {w : World} : ∀ {F : Fo} {A : Nat → Prop} {b o : Nat}, SepKids w F A b o → KidsAt w F b o
  | .nil, _, _, _, _ => trivial
  | .node _ _ _ l r, A, b, o, ⟨A1, A2, _, _, ⟨a, c, h0, h1, h2, hs, hl⟩, hr⟩ => ⟨⟨a, c, h0, h1, h2, hs, by
      rcases hl with h | ⟨g, cur, ha, _, _, hk⟩
      · exact .inl h
      · exact .inr ⟨g, 0, ha, SepKids.kids hk⟩⟩, SepKids.kids hr⟩
theorem SepTm.tm {w : World} {A : Nat → Prop} {x : ByteArray × Int} {a : Option Addr} {c : Nat} {l : Fo} (h : SepTm w A x a c l) : TmAt w x a c l :=
  ⟨h.sizes, by
    rcases h.list with h | ⟨g, cur, ha, _, _, hk⟩
    · exact .inl h
    · exact .inr ⟨g, 0, ha, hk.kids⟩⟩
theorem SepKids.mono {w : World} : ∀ {F : Fo} {A A' : Nat → Prop} {b o : Nat}, (∀ k, A k → A' k) → SepKids w F A b o → SepKids w F A' b o
  | .nil, _, _, _, _, _, _ => trivial
  | .node _ _ _ _ _, _, _, _, _, hA, ⟨A1, A2, h1, h2, h3, h4⟩ => ⟨A1, A2, fun k hk => hA k (h1 k hk), fun k hk => ⟨hA k (h2 k hk).1, (h2 k hk).2⟩, h3, h4⟩
theorem SepTm.mono {w : World} {A A' : Nat → Prop} {x : ByteArray × Int} {a : Option Addr} {c : Nat} {l : Fo} (hA : ∀ k, A k → A' k) (h : SepTm w A x a c l) : SepTm w A' x a c l :=
  ⟨h.sizes, by
    rcases h.list with h | ⟨g, cur, ha, hg, hc, hk⟩
    · exact .inl h
    · exact .inr ⟨g, cur, ha, hA g hg, hc, hk.mono (fun k hk => ⟨hA k hk.1, hk.2⟩)⟩⟩
/-- The cells of the list itself are as they were from this place on; so are the blocks of A. -/
theorem SepKids.keep {w w' : World} : ∀ {F : Fo} {A : Nat → Prop} {b o : Nat}, (∀ k, A k → k < w.heap.size → w'.heap[k]? = w.heap[k]?) → (∀ i v, o ≤ i → w.cell? ⟨b, i, none⟩ = some v → w'.cell? ⟨b, i, none⟩ = some v) → SepKids w F A b o → SepKids w' F A b o
  | .nil, _, _, _, _, _, _ => trivial
  | .node _ _ _ l r, A, b, o, hp, hb, ⟨A1, A2, h1, h2, ⟨a, c, c0, c1, c2, hs, hl⟩, hr⟩ => ⟨A1, A2, h1, h2, ⟨a, c, hb _ _ (Nat.le_refl _) c0, hb _ _ (by omega) c1, hb _ _ (by omega) c2, hs, by
      rcases hl with h | ⟨g, cur, ha, hg, hc, hk⟩
      · exact .inl h
      · have hgg := hp g (h1 g hg) (Array.getElem?_eq_some_iff.1 hc).1
        exact .inr ⟨g, cur, ha, hg, hgg.trans hc, SepKids.keep (fun k hk hlt => hp k (h1 k hk.1) hlt) (fun i v _ hv => (World.cell?_of_block hgg).trans hv) hk⟩⟩,
    SepKids.keep (fun k hk hlt => hp k (h2 k hk).1 hlt) (fun i v hi hv => hb i v (by omega) hv) hr⟩
theorem SepTm.keep {w w' : World} {A : Nat → Prop} {x : ByteArray × Int} {a : Option Addr} {c : Nat} {l : Fo} (hp : ∀ k, A k → k < w.heap.size → w'.heap[k]? = w.heap[k]?) (h : SepTm w A x a c l) : SepTm w' A x a c l :=
  ⟨h.sizes, by
    rcases h.list with h | ⟨g, cur, ha, hg, hc, hk⟩
    · exact .inl h
    · have hgg := hp g hg (Array.getElem?_eq_some_iff.1 hc).1
      exact .inr ⟨g, cur, ha, hg, hgg.trans hc, hk.keep (fun k hk hlt => hp k hk.1 hlt) (fun i v _ hv => (World.cell?_of_block hgg).trans hv)⟩⟩
theorem SepTm.below {w w' : World} {A : Nat → Prop} {x : ByteArray × Int} {a : Option Addr} {c : Nat} {l : Fo} (h : SepTm w A x a c l) (hb : Below w.heap.size w w') : SepTm w' A x a c l := h.keep fun k _ hk => hb.block k hk
/-- The blocks that there are serve. -/
theorem SepKids.within {w : World} : ∀ {F : Fo} {A : Nat → Prop} {b o : Nat}, SepKids w F A b o → SepKids w F (fun k => A k ∧ k < w.heap.size) b o
  | .nil, _, _, _, _ => trivial
  | .node _ _ _ l r, A, b, o, ⟨A1, A2, h1, h2, ⟨a, c, c0, c1, c2, hs, hl⟩, hr⟩ => ⟨fun k => A1 k ∧ k < w.heap.size, fun k => A2 k ∧ k < w.heap.size, fun k hk => ⟨h1 k hk.1, hk.2⟩, fun k hk => ⟨⟨(h2 k hk.1).1, hk.2⟩, fun h => (h2 k hk.1).2 h.1⟩, ⟨a, c, c0, c1, c2, hs, by
      rcases hl with h | ⟨g, cur, ha, hg, hc, hk⟩
      · exact .inl h
      · exact .inr ⟨g, cur, ha, ⟨hg, (Array.getElem?_eq_some_iff.1 hc).1⟩, hc, (SepKids.within hk).mono (fun k hk => ⟨⟨hk.1.1, hk.2⟩, hk.1.2⟩)⟩⟩, SepKids.within hr⟩
theorem SepTm.within {w : World} {A : Nat → Prop} {x : ByteArray × Int} {a : Option Addr} {c : Nat} {l : Fo} (h : SepTm w A x a c l) : SepTm w (fun k => A k ∧ k < w.heap.size) x a c l :=
  ⟨h.sizes, by
    rcases h.list with h | ⟨g, cur, ha, hg, hc, hk⟩
    · exact .inl h
    · exact .inr ⟨g, cur, ha, ⟨hg, (Array.getElem?_eq_some_iff.1 hc).1⟩, hc, hk.within.mono (fun k hk => ⟨⟨hk.1.1, hk.2⟩, hk.1.2⟩)⟩⟩

/-! ### lists of such terms -/
def SepL (w : World) : List Kv → (Nat → Prop) → Prop
  | [], _ => True
  | k :: r, A => ∃ A1 A2 : Nat → Prop, (∀ q, A1 q → A q) ∧ (∀ q, A2 q → A q ∧ ¬ A1 q) ∧ SepTm w A1 k.x k.a k.c k.l ∧ SepL w r A2
theorem SepL.keep {w w' : World} : ∀ {ks : List Kv} {A : Nat → Prop}, (∀ k, A k → k < w.heap.size → w'.heap[k]? = w.heap[k]?) → SepL w ks A → SepL w' ks A
  | [], _, _, _ => trivial
  | _ :: _, _, hp, ⟨A1, A2, h1, h2, h3, h4⟩ => ⟨A1, A2, h1, h2, h3.keep (fun k hk hlt => hp k (h1 k hk) hlt), SepL.keep (fun k hk hlt => hp k (h2 k hk).1 hlt) h4⟩
theorem SepL.mono {w : World} : ∀ {ks : List Kv} {A A' : Nat → Prop}, (∀ k, A k → A' k) → SepL w ks A → SepL w ks A'
  | [], _, _, _, _ => trivial
  | _ :: _, _, _, hA, ⟨A1, A2, h1, h2, h3, h4⟩ => ⟨A1, A2, fun k hk => hA k (h1 k hk), fun k hk => ⟨hA k (h2 k hk).1, (h2 k hk).2⟩, h3, h4⟩
theorem SepL.snoc {w : World} {kv : Kv} {B : Nat → Prop} (hk : SepTm w B kv.x kv.a kv.c kv.l) : ∀ {ks : List Kv} {A : Nat → Prop}, (∀ q, A q → ¬ B q) → SepL w ks A → SepL w (ks ++ [kv]) (fun q => A q ∨ B q)
  | [], A, _, _ => ⟨B, fun _ => False, fun q hq => .inr hq, fun q hq => hq.elim, hk, trivial⟩
  | k :: r, A, hd, ⟨A1, A2, h1, h2, h3, h4⟩ => ⟨A1, fun q => A2 q ∨ B q, fun q hq => .inl (h1 q hq), fun q hq => by
      rcases hq with hq | hq
      · exact ⟨.inl (h2 q hq).1, (h2 q hq).2⟩
      · exact ⟨.inr hq, fun h => hd q (h1 q h) hq⟩, h3, SepL.snoc hk (fun q hq => hd q (h2 q hq).1) h4⟩
theorem sepKids_of {w : World} {b : Nat} : ∀ (F : Fo) (ks : List Kv) (A : Nat → Prop) (o : Nat), ks.map (fun k => (k.x, k.l)) = kidsL F → (∀ j u, (kvCells ks)[j]? = some u → w.cell? ⟨b, o + j, none⟩ = some u) → SepL w ks A → SepKids w F A b o
  | .nil, _, _, _, _, _, _ => trivial
  | .node _ _ x l r, [], _, o, h, _, _ => by simp [kidsL] at h
  | .node _ _ x l r, k :: ks, A, o, h, hc, ⟨A1, A2, h1, h2, h3, h4⟩ => by
    simp only [List.map_cons, kidsL, List.cons.injEq, Prod.mk.injEq] at h
    obtain ⟨⟨rfl, rfl⟩, h⟩ := h
    have e : kvCells (k :: ks) = .string k.x.1 :: .int .i64 k.x.2 :: .slice k.a (lenF k.l) k.c :: kvCells ks := rfl
    rw [e] at hc
    refine ⟨A1, A2, h1, h2, ⟨k.a, k.c, hc 0 _ rfl, hc 1 _ rfl, hc 2 _ rfl, h3.sizes, h3.list⟩, sepKids_of r ks A2 (o + 3) h (fun j u hu => ?_) h4⟩
    have := hc (j + 3) u (by simpa using hu)
    rw [show o + 3 + j = o + (j + 3) by omega]
    exact this
end Go.Proofs.Ytlemkgdbefmeeab
/- What the document's Clone makes: the term in new memory, its own list in a row of its own. -/
namespace Go.Proofs.Ytlemkgdbefmeeab
open Go.RowKit Go.Deep

/-- A term whose list is a row of a new block, the lists beneath it in other new blocks. -/
structure RowTm (B0 : Nat) (W : World) (x : ByteArray × Int) (a : Option Addr) (c : Nat) (l : Fo) : Prop where
  sizes : Sizes x.1 (lenF l) c
  list : l = .nil ∨ ∃ g cur, a = some ⟨g, 0, none⟩ ∧ B0 ≤ g ∧ W.heap[g]? = some (Obj.cells cur 26 (0, 0)) ∧ OwnKids false (fun q => B0 ≤ q ∧ q ≠ g) W l g 0
set_option maxRecDepth 100000 in
theorem RowTm.own {B0 : Nat} {W : World} {x : ByteArray × Int} {a : Option Addr} {c : Nat} {l : Fo} (h : RowTm B0 W x a c l) : OwnTm false (fun q => B0 ≤ q) W x a c l :=
  ⟨h.sizes, by
    rcases h.list with h | ⟨g, cur, ha, hg, hc, hk⟩
    · exact .inl ⟨h, rfl⟩
    · exact .inr ⟨g, cur, ha, hg, hc, (fun e => by cases e), hk.mono (fun q _ hq => hq.1)⟩⟩
set_option maxRecDepth 100000 in
theorem RowTm.keep {B0 : Nat} {W W' : World} {x : ByteArray × Int} {a : Option Addr} {c : Nat} {l : Fo} (h : RowTm B0 W x a c l) (hp : ∀ k, B0 ≤ k → k < W.heap.size → W'.heap[k]? = W.heap[k]?) : RowTm B0 W' x a c l :=
  ⟨h.sizes, by
    rcases h.list with h | ⟨g, cur, ha, hg, hc, hk⟩
    · exact .inl h
    · have hgg := hp g hg (Array.getElem?_eq_some_iff.1 hc).1
      exact .inr ⟨g, cur, ha, hg, hgg.trans hc, hk.keep (fun k hk hlt => hp k hk.1 hlt) hgg⟩⟩
set_option maxRecDepth 100000 in
theorem RowTm.below {B0 : Nat} {W W' : World} {x : ByteArray × Int} {a : Option Addr} {c : Nat} {l : Fo} (h : RowTm B0 W x a c l) (hb : Below W.heap.size W W') : RowTm B0 W' x a c l := h.keep fun k _ hk => hb.block k hk

set_option maxRecDepth 100000 in
/-- The list when it is built. -/
theorem built_done {w wr : World} {x : ByteArray × Int} {l : Fo} {v : Value} {ks : List Kv} (hB : Built false w wr v (lenF l) ks) (hks : ks.map (fun k => (k.x, k.l)) = kidsL l) (hx : x.1.size ≤ maxLen) (hf : lenF l * 48 ≤ 140737488351232) :
    ∃ a c, v = .slice a (lenF l) c ∧ RowTm (w.heap.size + 3) wr x a c l := by
  rcases hB.row.2 with ⟨hv, h0⟩ | ⟨g, cap, cur, rfl, hb, hg, hnc, hcm, hsz, hcur⟩
  · refine ⟨none, 0, by rw [h0]; exact hv, ⟨hx, by omega, by simp, hf⟩, .inl (len_nil h0)⟩
  · refine ⟨_, cap, rfl, ⟨hx, hnc, hcm, hf⟩, .inr ⟨g, cur, rfl, hb, hg, ownKids_of l ks 0 hks (owns_at hB.row) (fun k hk => ?_)⟩⟩
    exact (hB.own k hk).mono (fun q _ hq => ⟨hq.1, fun e => hq.2 (by rw [e]; rfl)⟩)

def RCloneOk (k : Nat) : Prop := ∀ (x : ByteArray × Int) (l : Fo) (a : Option Addr) (c : Nat) (w : World), nodesF l ≤ k → TmAt w x a c l →
  Calls Try.prog 25 #[.agg #[.string x.1, .int .i64 x.2, .slice a (lenF l) c]] w fun e w' => ∃ a' c', e = .returned (.agg #[.string x.1, .int .i64 x.2, .slice a' (lenF l) c']) ∧ RowTm w.heap.size w' x a' c' l ∧ Below w.heap.size w w'

set_option maxRecDepth 100000 in
set_option maxHeartbeats 4000000 in
theorem rclone_all : ∀ k, RCloneOk k := by
  intro k
  induction k using Nat.strongRecOn with
  | _ k ih =>
    intro x l a c w hk hT
    obtain ⟨i0, hi, hz0, hz1, hz2⟩ := info_parts Try.info26
    have HT : Hid (TmAt w x a c l) := hT
    have IH : Hid (∀ j, j < k → RCloneOk j) := ih
    have hn : lenF l ≤ 9223372036854775807 := by have := hT.sizes.len; have := hT.sizes.cap; unfold maxLen at *; omega
    have hfew := hT.sizes.few
    clear hT ih
    go_enter Try.func25, Try.ntmps25
    go_wp2
    go_loopw [4] (fun i wr => ∃ (j : Nat) (v : Value) (ks : List Kv), j ≤ lenF l ∧ i = .int .i64 j ∧ Three w x a (lenF l) c wr v ∧ Built false w wr v j ks ∧ ks.map (fun k => (k.x, k.l)) = (kidsL l).take j) (fun i _ => lenF l - (intOf i).toNat)
    case atStart => exact ⟨0, _, [], Nat.zero_le _, rfl, Three.new w x a (lenF l) c, ⟨World.ownsRow_nil _ _ _ _, by simp⟩, by simp⟩
    case round =>
      obtain ⟨j, v, ks, hj, rfl, hTh, hBu, hks⟩ := hrel
      have hb := hTh.low
      have bT := hTh.t
      have bX := hTh.x
      have hrow := hBu.row
      have t2 := bT.c2
      by_cases hlt : j < lenF l
      · obtain ⟨bb, oo, rfl, hkk⟩ := HT.out.args.get (by omega)
        obtain ⟨y, a1, c1, l1, kd⟩ := hkk.kid (k := j) hlt
        have kd' := kd.below hb
        have X0 : Hid (XBox wr (w.heap.size + 1 + 1) x v) := bX
        have cX := X0.out.c2
        have hbb : bb < w.heap.size := World.block_lt_of_cell? w _ kd.name
        have p0 := kd'.name; have p1 := kd'.sym; have p2 := kd'.list
        have hIH := IH.out (nodesF l1) (by have := kd.less; omega) y l1 a1 c1 wr.drew (Nat.le_refl _) (kd'.at_.kept (fun _ _ h => h))
        have HIH : Hid (Calls Try.prog 25 #[.agg #[.string y.1, .int .i64 y.2, .slice a1 (lenF l1) c1]] wr.drew fun e w' => ∃ a' c', e = .returned (.agg #[.string y.1, .int .i64 y.2, .slice a' (lenF l1) c']) ∧ RowTm wr.heap.size w' y a' c' l1 ∧ Below wr.heap.size wr.drew w') := hIH
        have HR : Hid (wr.ownsRow (w.heap.size + 3) 26 3 v j (kvCells ks)) := hrow
        have HB : Hid (Below w.heap.size w wr) := hb
        have TH : Hid (Three w x (some ⟨bb, oo, none⟩) (lenF l) c wr v) := hTh
        have BU : Hid (Built false w wr v j ks) := hBu
        have HK : Hid (ks.map (fun k => (k.x, k.l)) = (kidsL l).take j) := hks
        have KD : Hid (Kid w l bb oo j y a1 c1 l1) := kd
        have hmax : maxLen = 9223372036854775807 := rfl
        have hXlt : w.heap.size + 1 + 1 < wr.heap.size := X0.out.lt
        clear hIH kd' hkk kd hrow hb hTh hBu hks bT bX
        go_wp2_with fail
        go_region_law
          ((first
            | (refine step_append_lies _ (by rfl) (.tmp 18) (.tmp 25) 24 (by rfl) (w.heap.size + 3) 26 i0 _ 3 48 Try.underlying24 hi hz0 hz1 hz2 rfl (by decide) v j (kvCells ks) (by rfl) (owns_below (owns_below HR.out HW1.out) ((Below.refl _ _).alloc (Nat.le_refl _) _)) ⟨w1.heap.size, 0, none⟩ 1 1 (Kv.cells ⟨y, l1, a', c'⟩) (by rfl) rfl (World.news_of_block (heap_alloc_new w1 _)) (kv_one _) (by decide) (by omega) (by omega) (by have := HW1.out.size; simp; omega) _ rfl ?_; intro g3 cap3 w3 hown3 hgrow3 hat3 hlt3; have X3 : Hid (XBox w3 (w.heap.size + 1 + 1) x v) := X2.out.kept hgrow3 (fun e => by have := (owns_cells HR.out e.symm).1; omega); have cX3 := X3.out.c2; have fX3 := X3.out.f (k := 2); have HO3 : Hid (w3.ownsRow (w.heap.size + 3) 26 3 (.slice (some ⟨g3, 0, none⟩) (j + 1) cap3) (j + 1) (kvCells ks ++ Kv.cells ⟨y, l1, a', c'⟩)) := hown3; have HG3 : Hid ((w1.alloc (.cells #[.string y.1, .int .i64 y.2, .slice a' (lenF l1) c'] 26)).grownBy w3 v.ownBlock ∧ (v.ownBlock = some g3 ∨ g3 = w1.heap.size + 1)) := ⟨hgrow3, by simpa using hat3⟩; clear hown3 hgrow3 hat3)
            | (go_simp; go_wp2_with (go_at_call 25; refine HIH.out.mono ?_; rintro e w1 ⟨a', c', rfl, ho1, hb1⟩; have HO1 : Hid (OwnTm false (fun k => wr.heap.size ≤ k) w1 y a' c' l1) := ho1.own; have HW1 : Hid (Below wr.heap.size wr w1) := ((Below.refl _ wr).drew).trans hb1; have X1 : Hid (XBox w1 (w.heap.size + 1 + 1) x v) := X0.out.below HW1.out; have cX1 := X1.out.c2; have X2 : Hid (XBox (w1.alloc (.cells #[.string y.1, .int .i64 y.2, .slice a' (lenF l1) c'] 26)) (w.heap.size + 1 + 1) x v) := X1.out.below ((Below.refl _ _).alloc (Nat.le_refl _) _); have cX2 := X2.out.c2; clear ho1 hb1))
            | fail))
        all_goals
          go_wp2
          go_roundw
          case rel =>
            obtain ⟨h1, h2⟩ := build_step (kv := ⟨y, l1, a', c'⟩) TH.out BU.out HW1.out HO1.out HG3.out.1 HG3.out.2 HO3.out
            obtain ⟨B1, O1, sp⟩ := KD.out.split
            exact ⟨j + 1, _, _, by omega, by go_num, h1, h2, by rw [kids_take sp, ← HK.out]; simp⟩
          case measure => simp [intOf]; omega
      · have hjl : j = lenF l := by omega
        subst hjl
        have hks' : ks.map (fun k => (k.x, k.l)) = kidsL l := by rw [hks, ← kids_len, List.take_length]
        obtain ⟨a3, c3, rfl, hrt⟩ := built_done hBu hks' HT.out.sizes.name HT.out.sizes.few
        have x0 := bX.c0; have x1 := bX.c1; have x2 := bX.c2
        have R4 : XBox wr (w.heap.size + 1) (⟨#[]⟩, 0) (.slice none 0 0) := hTh.r
        have r0 := R4.c0
        have r1 := R4.c1
        have r2 := R4.c2
        have f0 := R4.f (k := 0)
        have f1 := R4.f (k := 1)
        have f2 := R4.f (k := 2)
        have HR4 : Hid (XBox wr (w.heap.size + 1) (⟨#[]⟩, 0) (.slice none 0 0)) := R4
        have HL : Hid (Below w.heap.size w wr) := hb
        have HRT : Hid (RowTm (w.heap.size + 3) wr x a3 c3 l) := hrt
        clear R4 hTh hBu hks hks' hb bT bX hrow hrt
        go_wp2
        refine bodyPost_ret (results_cell_row rfl _ _ (w.heap.size + 1) 26 #[.string x.1, .int .i64 x.2, .slice a3 (lenF l) c3] (0, 0) _ rfl (HR4.out.all (x := x) _) Try.underlying26 rfl Try.size26) rfl ?_
        refine ⟨a3, c3, rfl, ?_, sets_below HL.out (by omega) _ _ _⟩
        have h := HRT.out.keep (W' := (((wr.setCell ⟨w.heap.size + 1, 0, none⟩ (.string x.1)).setCell ⟨w.heap.size + 1, 1, none⟩ (.int .i64 x.2)).setCell ⟨w.heap.size + 1, 2, none⟩ (.slice a3 (lenF l) c3))) (fun q hq _ => sets_far (by omega) _ _ _)
        exact ⟨h.sizes, by
          rcases h.list with h | ⟨g, cur, ha, hg, hc, hk⟩
          · exact .inl h
          · exact .inr ⟨g, cur, ha, by omega, hc, hk.mono (fun q _ hq => ⟨by omega, hq.2⟩)⟩⟩
set_option maxRecDepth 100000 in
theorem rclone_any (x : ByteArray × Int) (l : Fo) (a : Option Addr) (c : Nat) (w : World) (hT : TmAt w x a c l) :
    Calls Try.prog 25 #[.agg #[.string x.1, .int .i64 x.2, .slice a (lenF l) c]] w fun e w' => ∃ a' c', e = .returned (.agg #[.string x.1, .int .i64 x.2, .slice a' (lenF l) c']) ∧ RowTm w.heap.size w' x a' c' l ∧ Below w.heap.size w w' :=
  rclone_all _ x l a c w (Nat.le_refl _) hT
end Go.Proofs.Ytlemkgdbefmeeab
/- What stands at a path, and what another term put there makes; where it lies in memory. -/
namespace Go.Proofs.Ytlemkgdbefmeeab
open Go.RowKit Go.Deep

abbrev Tn := (ByteArray × Int) × Fo
def kidT (i : Int) (l : Fo) : Option Tn := if 0 ≤ i ∧ i < lenF l then (kidsL l)[i.toNat]? else none
def setF : Nat → Fo → Tn → Fo
  | _, .nil, _ => .nil
  | 0, .node b o _ _ r, t => .node b o t.1 t.2 r
  | n + 1, .node b o x l r, t => .node b o x l (setF n r t)
def subT : List Int → Tn → Option Tn
  | [], t => some t
  | i :: p, t => match kidT i t.2 with
    | none => none
    | some k => subT p k
def putT (u : Tn) : List Int → Tn → Option Tn
  | [], _ => some u
  | i :: p, t => match kidT i t.2 with
    | none => none
    | some k => match putT u p k with
      | none => none
      | some k' => some (t.1, setF i.toNat t.2 k')
def noT : Tn := ((⟨#[]⟩, 0), .nil)
def ansT (o : Option Tn) : Tn := o.getD noT
def ansE (o : Option Tn) : Int := match o with | none => 35 | some _ => 0

theorem len_set : ∀ (n : Nat) (F : Fo) (t : Tn), lenF (setF n F t) = lenF F
  | n, .nil, _ => by cases n <;> rfl
  | 0, .node _ _ _ _ _, _ => rfl
  | n + 1, .node _ _ _ _ r, t => by simp only [setF, lenF]; rw [len_set n r t]
theorem kids_split {F : Fo} {k : Nat} {x : ByteArray × Int} {l r : Fo} {B O : Nat} (h : dropF k F = .node B O x l r) : (kidsL F)[k]? = some (x, l) := by
  have h1 := kids_drop k F
  rw [h, kidsL] at h1
  have := congrArg (·[0]?) h1
  simpa using this.symm
theorem kidT_bad {i : Int} {l : Fo} (h : ¬ (0 ≤ i ∧ i < lenF l)) : kidT i l = none := if_neg h
theorem kidT_is {k : Nat} {l : Fo} {x : ByteArray × Int} {m : Fo} (hlt : k < lenF l) (h : (kidsL l)[k]? = some (x, m)) : kidT (k : Int) l = some (x, m) := by
  unfold kidT
  rw [if_pos (by omega), Int.toNat_natCast]
  exact h

/-- The path's numbers lie in this slice. -/
structure IntsAt (w : World) (a : Option Addr) (n : Nat) (ps : List Int) : Prop where
  len : n = ps.length
  cells : ∀ i (h : i < ps.length), ∃ b off, a = some ⟨b, off, none⟩ ∧ w.cell? ⟨b, off + i, none⟩ = some (.int .i64 ps[i])
theorem IntsAt.below {w w' : World} {a : Option Addr} {n : Nat} {ps : List Int} (h : IntsAt w a n ps) (hb : Below w.heap.size w w') : IntsAt w' a n ps :=
  ⟨h.len, fun i hi => by obtain ⟨b, off, ha, hc⟩ := h.cells i hi; exact ⟨b, off, ha, below_cell hb _ _ hc⟩⟩

/-- A term's three cells. -/
structure Node (w : World) (b o : Nat) (x : ByteArray × Int) (a : Option Addr) (c : Nat) (l : Fo) : Prop where
  name : w.cell? ⟨b, o, none⟩ = some (.string x.1)
  sym : w.cell? ⟨b, o + 1, none⟩ = some (.int .i64 x.2)
  list : w.cell? ⟨b, o + 2, none⟩ = some (.slice a (lenF l) c)
/-- From the term whose cells lie here the path leads to the one whose cells lie there. -/
def Leads (w : World) : List Int → Nat → Nat → Tn → Nat → Nat → Prop
  | [], b, o, _, b', o' => b' = b ∧ o' = o
  | i :: p, b, o, t, b', o' => ∃ (k g q c : Nat) (u : Tn), i = k ∧ k < lenF t.2 ∧ (kidsL t.2)[k]? = some u ∧ w.cell? ⟨b, o + 2, none⟩ = some (.slice (some ⟨g, q, none⟩) (lenF t.2) c) ∧ Leads w p g (q + k * 3) u b' o'

/-- Where another term is put in place of one of a list. -/
theorem SepKids.replace {W : World} : ∀ {F : Fo} {A : Nat → Prop} {b o : Nat} (i : Nat), SepKids W F A b o → i < lenF F →
    ∃ (t : Tn) (a : Option Addr) (c : Nat) (A1 : Nat → Prop), (∀ k, A1 k → A k) ∧ (kidsL F)[i]? = some t ∧ Node W b (o + i * 3) t.1 a c t.2 ∧ SepTm W A1 t.1 a c t.2 ∧
      ∀ (W' : World) (t' : Tn) (a' : Option Addr) (c' : Nat) (A3 : Nat → Prop), (∀ k, A3 k → ¬ A k) → (∀ k, A k → ¬ A1 k → k < W.heap.size → W'.heap[k]? = W.heap[k]?) →
        (∀ j v, o ≤ j → (j < o + i * 3 ∨ o + i * 3 + 3 ≤ j) → W.cell? ⟨b, j, none⟩ = some v → W'.cell? ⟨b, j, none⟩ = some v) → Node W' b (o + i * 3) t'.1 a' c' t'.2 → SepTm W' (fun k => A1 k ∨ A3 k) t'.1 a' c' t'.2 →
        SepKids W' (setF i F t') (fun k => A k ∨ A3 k) b o
  | .nil, _, _, _, i, _, hi => absurd hi (by simp [lenF])
  | .node _ _ x l r, A, b, o, 0, ⟨A1, A2, h1, h2, ⟨a, c, c0, c1, c2, hs, hl⟩, hr⟩, _ => by
    refine ⟨(x, l), a, c, A1, h1, rfl, ⟨by simpa using c0, by simpa using c1, by simpa using c2⟩, ⟨hs, hl⟩, ?_⟩
    intro W' t' a' c' A3 hd hk hc hn hS
    refine ⟨fun k => A1 k ∨ A3 k, A2, fun k hk => hk.elim (fun h => .inl (h1 k h)) .inr, fun k hk => ⟨.inl (h2 k hk).1, fun h => h.elim (h2 k hk).2 (fun h3 => hd k h3 (h2 k hk).1)⟩, ⟨a', c', by simpa using hn.name, by simpa using hn.sym, by simpa using hn.list, hS.sizes, hS.list⟩, ?_⟩
    exact hr.keep (fun k hk' hlt => hk k (h2 k hk').1 (h2 k hk').2 hlt) (fun j v hj hv => hc j v (by omega) (.inr (by omega)) hv)
  | .node _ _ x l r, A, b, o, i + 1, ⟨A1, A2, h1, h2, ⟨a, c, c0, c1, c2, hs, hl⟩, hr⟩, hi => by
    obtain ⟨t, ta, tc, B1, hB, ht, hn, hS, hrep⟩ := SepKids.replace i hr (by simp only [lenF] at hi; omega)
    have e : o + 3 + i * 3 = o + (i + 1) * 3 := by omega
    rw [e] at hn
    refine ⟨t, ta, tc, B1, fun k hk => (h2 k (hB k hk)).1, by simpa [kidsL] using ht, hn, hS, ?_⟩
    intro W' t' a' c' A3 hd hk hc hn' hS'
    refine ⟨A1, fun k => A2 k ∨ A3 k, fun k hk => .inl (h1 k hk), fun k hk => hk.elim (fun h => ⟨.inl (h2 k h).1, (h2 k h).2⟩) (fun h => ⟨.inr h, fun h' => hd k h (h1 k h')⟩), ⟨a, c, hc _ _ (Nat.le_refl _) (.inl (by omega)) c0, hc _ _ (by omega) (.inl (by omega)) c1, hc _ _ (by omega) (.inl (by omega)) c2, hs, ?_⟩, ?_⟩
    · rcases hl with h | ⟨g, cur, ha, hg, hcur, hkk⟩
      · exact .inl h
      · have same : ∀ k, A1 k → k < W.heap.size → W'.heap[k]? = W.heap[k]? := fun k h hlt => hk k (h1 k h) (fun hb => (h2 k (hB k hb)).2 h) hlt
        have hgg := same g hg (Array.getElem?_eq_some_iff.1 hcur).1
        exact .inr ⟨g, cur, ha, hg, hgg.trans hcur, hkk.keep (fun k h hlt => same k h.1 hlt) (fun j v _ hv => (World.cell?_of_block hgg).trans hv)⟩
    · rw [← e] at hn'
      exact hrep W' t' a' c' A3 (fun k h h' => hd k h (h2 k h').1) (fun k h h' hlt => hk k (h2 k h).1 h' hlt) (fun j v hj hor hv => hc j v (by omega) (by omega) hv) hn' hS'
theorem OwnKids.kids_in {W W' : World} {P Q : Nat → Prop} {b : Nat} (hPQ : ∀ k, P k → Q k) (hk : ∀ k, P k → k < W.heap.size → W'.heap[k]? = W.heap[k]?) : ∀ {F : Fo} {o : Nat}, OwnKids false P W F b o → (∀ j v, o ≤ j → W.cell? ⟨b, j, none⟩ = some v → W'.cell? ⟨b, j, none⟩ = some v) → OwnKids false Q W' F b o
  | .nil, _, _, _ => trivial
  | .node _ _ _ l r, o, ⟨⟨a, c, h0, h1, h2, hs, hl⟩, hr⟩, hc => ⟨⟨a, c, hc _ _ (Nat.le_refl _) h0, hc _ _ (by omega) h1, hc _ _ (by omega) h2, hs, by
      rcases hl with h | ⟨g, cur, ha, hg, hcur, hm, hkk⟩
      · exact .inl h
      · have hgg := hk g hg (Array.getElem?_eq_some_iff.1 hcur).1
        exact .inr ⟨g, cur, ha, hPQ g hg, hgg.trans hcur, (fun e => by cases e), (hkk.keep hk hgg).mono (fun k _ h => hPQ k h)⟩⟩, OwnKids.kids_in hPQ hk hr (fun j v hj hv => hc j v (by omega) hv)⟩
/-- The same where nothing is spoilt afterwards. -/
theorem OwnKids.replace {W W' : World} {P Q : Nat → Prop} {b : Nat} (hPQ : ∀ k, P k → Q k) (hk : ∀ k, P k → k < W.heap.size → W'.heap[k]? = W.heap[k]?) {t' : Tn} {a' : Option Addr} {c' : Nat} (hT : OwnTm false Q W' t'.1 a' c' t'.2) : ∀ {F : Fo} {o : Nat} (i : Nat), OwnKids false P W F b o → i < lenF F →
    (∀ j v, o ≤ j → (j < o + i * 3 ∨ o + i * 3 + 3 ≤ j) → W.cell? ⟨b, j, none⟩ = some v → W'.cell? ⟨b, j, none⟩ = some v) → Node W' b (o + i * 3) t'.1 a' c' t'.2 → OwnKids false Q W' (setF i F t') b o
  | .nil, _, i, _, hi, _, _ => absurd hi (by simp [lenF])
  | .node _ _ x l r, o, 0, ⟨_, hr⟩, _, hc, hn => by
    refine ⟨⟨a', c', by simpa using hn.name, by simpa using hn.sym, by simpa using hn.list, hT.sizes, hT.list⟩, ?_⟩
    exact OwnKids.kids_in hPQ hk hr (fun j v hj hv => hc j v (by omega) (.inr (by omega)) hv)
  | .node _ _ x l r, o, i + 1, ⟨⟨a, c, c0, c1, c2, hs, hl⟩, hr⟩, hi, hc, hn => by
    have e : o + 3 + i * 3 = o + (i + 1) * 3 := by omega
    refine ⟨⟨a, c, hc _ _ (Nat.le_refl _) (.inl (by omega)) c0, hc _ _ (by omega) (.inl (by omega)) c1, hc _ _ (by omega) (.inl (by omega)) c2, hs, ?_⟩, OwnKids.replace hPQ hk hT i hr (by simp only [lenF] at hi; omega) (fun j v hj hor hv => hc j v (by omega) (by omega) hv) (by rw [e]; exact hn)⟩
    rcases hl with h | ⟨g, cur, ha, hg, hcur, hm, hkk⟩
    · exact .inl h
    · have hgg := hk g hg (Array.getElem?_eq_some_iff.1 hcur).1
      exact .inr ⟨g, cur, ha, hPQ g hg, hgg.trans hcur, (fun e => by cases e), (hkk.keep hk hgg).mono (fun k _ h => hPQ k h)⟩

/-- What is stored where a path leads makes the term that the path says. -/
theorem put_stored {W W2 : World} {u : Tn} {ua : Option Addr} {uc : Nat} {A3 : Nat → Prop} : ∀ (ps : List Int) {A : Nat → Prop} {b o : Nat} {t : Tn} {a : Option Addr} {c b' o' : Nat},
    SepTm W A t.1 a c t.2 → Node W b o t.1 a c t.2 → ¬ A b → (∃ cur, W.heap[b]? = some (Obj.cells cur 26 (0, 0))) → Leads W ps b o t b' o' →
    (A b' ∨ (b' = b ∧ o' = o)) ∧ (∃ cur, W.heap[b']? = some (Obj.cells cur 26 (0, 0))) ∧ ((∀ k, (A k ∨ k = b) → k < W.heap.size → k ≠ b' → W2.heap[k]? = W.heap[k]?) → (∀ j v, (j < o' ∨ o' + 3 ≤ j) → W.cell? ⟨b', j, none⟩ = some v → W2.cell? ⟨b', j, none⟩ = some v) →
      (∃ cur, W2.heap[b']? = some (Obj.cells cur 26 (0, 0))) → Node W2 b' o' u.1 ua uc u.2 → SepTm W2 A3 u.1 ua uc u.2 → (∀ k, A3 k → ¬ A k) →
      ∃ t' a' c', putT u ps t = some t' ∧ Node W2 b o t'.1 a' c' t'.2 ∧ SepTm W2 (fun k => A k ∨ A3 k) t'.1 a' c' t'.2)
  | [], A, b, o, t, a, c, b', o', hS, hN, hb, hrow, ⟨h1, h2⟩ => by
    subst h1 h2
    exact ⟨.inr ⟨rfl, rfl⟩, hrow, fun _ _ _ hn hs _ => ⟨u, ua, uc, rfl, hn, hs.mono (fun k hk => .inr hk)⟩⟩
  | i :: ps, A, b, o, t, a, c, b', o', hS, hN, hb, _, ⟨k, g, q, c2, u1, hi, hk, hu, hcell, hL⟩ => by
    have hcell' := hN.list
    rw [hcell] at hcell'
    simp only [Option.some.injEq, Value.slice.injEq, true_and] at hcell'
    obtain ⟨rfl, rfl⟩ := hcell'
    rcases hS.list with hnil | ⟨g', cur, hg', hAg, hcur, hkids⟩
    · rw [hnil] at hk; simp [lenF] at hk
    · cases hg'
      obtain ⟨t1, a1, c1, A1, hA1, ht1, hn1, hs1, hrep⟩ := hkids.replace k hk
      rw [hu] at ht1
      cases ht1
      have hA1g : ¬ A1 g := fun h => (hA1 g h).2 rfl
      obtain ⟨hwhere, hrow', hgo⟩ := put_stored ps hs1 hn1 hA1g ⟨cur, hcur⟩ hL
      have hAb : A b' := hwhere.elim (fun h => (hA1 _ h).1) (fun h => by rw [h.1]; exact hAg)
      refine ⟨.inl hAb, hrow', fun hW hC hblk hn hs hd => ?_⟩
      have hb'b : b ≠ b' := fun e => hb (e ▸ hAb)
      have hblt : b < W.heap.size := World.block_lt_of_cell? W _ hN.name
      have hbb := hW b (.inr rfl) hblt hb'b
      obtain ⟨t1', a1', c1', hp, hn1', hs1'⟩ := hgo (fun k' hk' hlt hne => hW k' (.inl (hk'.elim (fun h => (hA1 _ h).1) (fun h => by rw [h]; exact hAg))) hlt hne) hC hblk hn hs (fun k' h h' => hd k' h (hA1 k' h').1)
      have hsame : ∀ k', (A k' ∧ k' ≠ g) → ¬ A1 k' → k' < W.heap.size → W2.heap[k']? = W.heap[k']? := fun k' h h' hlt => hW k' (.inl h.1) hlt (fun e => by
        rcases hwhere with h2 | h2
        · exact h' (e ▸ h2)
        · exact h.2 (e.trans h2.1))
      have hcells : ∀ j v, 0 ≤ j → (j < 0 + k * 3 ∨ 0 + k * 3 + 3 ≤ j) → W.cell? ⟨g, j, none⟩ = some v → W2.cell? ⟨g, j, none⟩ = some v := fun j v _ hj hv => by
        by_cases e : g = b'
        · rcases hwhere with h2 | h2
          · rw [← e] at h2; exact absurd h2 hA1g
          · have := hC j v (by rw [h2.2]; exact hj)
            rw [← e] at this
            exact this hv
        · exact (World.cell?_of_block (hW g (.inl hAg) (Array.getElem?_eq_some_iff.1 hcur).1 e)).trans hv
      have hnew := hrep W2 t1' a1' c1' A3 (fun k' h h' => hd k' h h'.1) hsame hcells hn1' hs1'
      have hgb : ∃ cur, W2.heap[g]? = some (Obj.cells cur 26 (0, 0)) := by
        by_cases e : g = b'
        · rw [e]; exact hblk
        · exact ⟨cur, (hW g (.inl hAg) (Array.getElem?_eq_some_iff.1 hcur).1 e).trans hcur⟩
      obtain ⟨cur', hcur'⟩ := hgb
      refine ⟨(t.1, setF k t.2 t1'), some ⟨g, 0, none⟩, c2, ?_, ⟨(World.cell?_of_block hbb).trans hN.name, (World.cell?_of_block hbb).trans hN.sym, ?_⟩, ?_, .inr ⟨g, cur', rfl, .inl hAg, hcur', hnew.mono (fun k' h => ?_)⟩⟩
      · rw [putT, hi, kidT_is hk hu]
        simp only [hp, Int.toNat_natCast]
      · simp only [len_set]; exact (World.cell?_of_block hbb).trans hN.list
      · simp only [len_set]; exact hS.sizes
      · rcases h with h | h
        · exact ⟨.inl h.1, h.2⟩
        · exact ⟨.inr h, fun e => hd k' h (e ▸ hAg)⟩
end Go.Proofs.Ytlemkgdbefmeeab
/- Canonical forms, without any program: what Canon, Parts and Join say of a term, and that one is canonical just if it is its own canonical form. -/
namespace Go.Proofs.Ytlemkgdbefmeeab
open Go.RowKit Go.Deep

/-! ### lists of terms and forests -/
def mkF : List Tn → Fo
  | [] => .nil
  | t :: r => .node 0 0 t.1 t.2 (mkF r)
theorem kids_mk : ∀ l : List Tn, kidsL (mkF l) = l
  | [] => rfl
  | t :: r => by simp only [mkF, kidsL]; rw [kids_mk r]
theorem len_mk (l : List Tn) : lenF (mkF l) = l.length := by rw [← kids_len, kids_mk]
def noB : ByteArray := ⟨#[]⟩
theorem bytes_eq {a b : ByteArray} (h : a.data.toList = b.data.toList) : a = b := by
  obtain ⟨⟨l⟩⟩ := a
  obtain ⟨⟨m⟩⟩ := b
  rw [show l = m from h]
theorem noName_eq {s : ByteArray} (h : noName s = true) : s = noB := by
  unfold noName at h
  rw [List.isEmpty_iff, ByteArray.toList_eq] at h
  exact bytes_eq h
theorem noName_noB : noName noB = true := by decide +kernel

/-! ### the order -/
def cmpN (x y : Tn) : Int := cmp1 x.1 y.1 (lenF x.2) (lenF y.2) (cmpF x.2 y.2)
theorem cmpN_anti (x y : Tn) : cmpN y x = - cmpN x y := by unfold cmpN; rw [cmpF_anti]; exact cmp1_anti _ _ _ _ _
theorem cmpN_cons (x y z : Tn) : Cons (cmpN x y) (cmpN y z) (cmpN x z) := cmp1_cons _ _ _ _ _ _ _ _ _ (fun a b => cmpF_cons _ _ _ a b)
def leN (x y : Tn) : Prop := cmpN x y ≤ 0
theorem leN_trans {x y z : Tn} (h : leN x y) (k : leN y z) : leN x z := by
  obtain ⟨c1, c2, c3, _⟩ := cmpN_cons x y z
  unfold leN at *
  by_cases e : cmpN x y = 0
  · rw [c1 e]; exact k
  · by_cases e2 : cmpN y z = 0
    · rw [c2 e2]; exact h
    · exact Int.le_of_lt (c3 (by omega) (by omega))
theorem leN_total (x y : Tn) : leN x y ∨ leN y x := by
  unfold leN
  rw [cmpN_anti x y]
  omega
/-- Behind all that are not greater. -/
def insN (x : Tn) : List Tn → List Tn
  | [] => [x]
  | y :: r => if cmpN y x > 0 then x :: y :: r else y :: insN x r
def sortN : List Tn → List Tn
  | l => l.foldl (fun out x => insN x out) []
abbrev Srt (l : List Tn) : Prop := l.Pairwise leN
theorem insN_perm (x : Tn) : ∀ l : List Tn, List.Perm (insN x l) (x :: l)
  | [] => List.Perm.refl _
  | y :: r => by
    unfold insN
    split
    · exact List.Perm.refl _
    · exact ((insN_perm x r).cons y).trans (List.Perm.swap x y r)
theorem insN_srt (x : Tn) : ∀ {l : List Tn}, Srt l → Srt (insN x l)
  | [], _ => by simp [insN]
  | y :: r, h => by
    unfold insN
    obtain ⟨h1, h2⟩ := List.pairwise_cons.1 h
    split
    · rename_i hgt
      have hxy : leN x y := by unfold leN; rw [cmpN_anti y x]; omega
      refine List.pairwise_cons.2 ⟨fun z hz => ?_, h⟩
      rcases List.mem_cons.1 hz with rfl | hz
      · exact hxy
      · exact leN_trans hxy (h1 z hz)
    · rename_i hgt
      refine List.pairwise_cons.2 ⟨fun z hz => ?_, insN_srt x h2⟩
      rcases List.mem_cons.1 ((insN_perm x r).mem_iff.1 hz) with rfl | hz
      · unfold leN; omega
      · exact h1 z hz
theorem sort_go_perm : ∀ (l out : List Tn), List.Perm (l.foldl (fun out x => insN x out) out) (out ++ l)
  | [], out => by simp
  | x :: l, out => by
    rw [List.foldl_cons]
    refine (sort_go_perm l (insN x out)).trans ?_
    refine ((insN_perm x out).append_right l).trans ?_
    exact List.perm_middle.symm
theorem sortN_perm (l : List Tn) : List.Perm (sortN l) l := by
  have := sort_go_perm l []
  rwa [List.nil_append] at this
theorem sort_go_srt : ∀ (l out : List Tn), Srt out → Srt (l.foldl (fun out x => insN x out) out)
  | [], _, h => h
  | x :: l, out, h => by rw [List.foldl_cons]; exact sort_go_srt l _ (insN_srt x h)
theorem sortN_srt (l : List Tn) : Srt (sortN l) := sort_go_srt l [] List.Pairwise.nil
theorem sortN_len (l : List Tn) : (sortN l).length = l.length := (sortN_perm l).length_eq

/-! ### what Canon says -/
/-- What is asked of a signature: which places join, and which unit they have. -/
structure Sg where
  joins : Int → Bool
  unit : Int → Option Int
def constT (u : Int) : Tn := ((noB, u), .nil)
def isConst (t : Tn) (u : Int) : Bool := noName t.1.1 && t.1.2 == u && lenF t.2 == 0
def isUn (S : Sg) (f : Int) (t : Tn) : Bool := match S.unit f with | some u => isConst t u | none => false
def headed (f : Int) (t : Tn) : Bool := noName t.1.1 && t.1.2 == f
def partsN (S : Sg) (f : Int) (t : Tn) : List Tn := if S.joins f = false then [t] else if isUn S f t then [] else if headed f t then kidsL t.2 else [t]
def joinL (S : Sg) (f : Int) : List Tn → Option Tn
  | [] => (S.unit f).map constT
  | [t] => some t
  | l => some ((noB, f), mkF (sortN l))
/-- Of canonical terms. -/
def joinN (S : Sg) (f : Int) (cs : List Tn) : Option Tn := if S.joins f = false then none else joinL S f (cs.flatMap (partsN S f))
def canon1 (S : Sg) (x : ByteArray × Int) (cs : List Tn) : Tn :=
  if noName x.1 = false then ((x.1, 0), .nil) else if S.joins x.2 then (joinN S x.2 cs).getD (constT x.2) else ((noB, x.2), mkF cs)
def canonL (S : Sg) : Fo → List Tn
  | .nil => []
  | .node _ _ x l r => canon1 S x (canonL S l) :: canonL S r
def canonT (S : Sg) (t : Tn) : Tn := canon1 S t.1 (canonL S t.2)
theorem canonL_map (S : Sg) : ∀ F : Fo, canonL S F = (kidsL F).map (canonT S)
  | .nil => rfl
  | .node _ _ x l r => by simp only [canonL, kidsL, List.map_cons, canonT]; rw [canonL_map S r]

/-! ### what is right -/
/-- What a right signature says of units: they don't join. -/
structure Sg.Ok (S : Sg) (ar : Int → Nat) : Prop where
  free : ∀ f u, S.unit f = some u → S.joins u = false
  none : ∀ f u, S.unit f = some u → ar u = 0
def nodeOk (S : Sg) (ar : Int → Nat) (x : ByteArray × Int) (n : Nat) : Prop := if noName x.1 = false then x.2 = 0 ∧ n = 0 else if S.joins x.2 then 2 ≤ n else n = ar x.2
def RightF (S : Sg) (ar : Int → Nat) : Fo → Prop
  | .nil => True
  | .node _ _ x l r => (nodeOk S ar x (lenF l) ∧ RightF S ar l) ∧ RightF S ar r
def RightT (S : Sg) (ar : Int → Nat) (t : Tn) : Prop := nodeOk S ar t.1 (lenF t.2) ∧ RightF S ar t.2
theorem right_kids {S : Sg} {ar : Int → Nat} : ∀ {F : Fo}, RightF S ar F ↔ ∀ k ∈ kidsL F, RightT S ar k
  | .nil => by simp [RightF, kidsL]
  | .node _ _ x l r => by
    simp only [RightF, kidsL, List.mem_cons]
    rw [right_kids (F := r)]
    constructor
    · rintro ⟨h1, h2⟩ k (rfl | hk)
      · exact h1
      · exact h2 k hk
    · exact fun h => ⟨h (x, l) (.inl rfl), fun k hk => h k (.inr hk)⟩

/-! ### canonical -/
/-- A node that is canonical above what is beneath it. -/
def can1 (S : Sg) (ar : Int → Nat) (x : ByteArray × Int) (ks : List Tn) : Prop :=
  if noName x.1 = false then x.2 = 0 ∧ ks = [] else x.1 = noB ∧ if S.joins x.2 then 2 ≤ ks.length ∧ Srt ks ∧ ∀ k ∈ ks, isUn S x.2 k = false ∧ headed x.2 k = false else ks.length = ar x.2
def CanF (S : Sg) (ar : Int → Nat) : Fo → Prop
  | .nil => True
  | .node b o x l r => (b = 0 ∧ o = 0) ∧ (can1 S ar x (kidsL l) ∧ CanF S ar l) ∧ CanF S ar r
def CanT (S : Sg) (ar : Int → Nat) (t : Tn) : Prop := can1 S ar t.1 (kidsL t.2) ∧ CanF S ar t.2
theorem can_kids {S : Sg} {ar : Int → Nat} : ∀ {F : Fo}, CanF S ar F → ∀ k ∈ kidsL F, CanT S ar k
  | .nil, _, _, h => by simp [kidsL] at h
  | .node _ _ _ _ _, ⟨_, h1, h2⟩, k, hk => by
    rcases List.mem_cons.1 hk with rfl | hk
    · exact h1
    · exact can_kids h2 k hk
theorem can_mk {S : Sg} {ar : Int → Nat} : ∀ {l : List Tn}, (∀ k ∈ l, CanT S ar k) → CanF S ar (mkF l)
  | [], _ => trivial
  | t :: _, h => ⟨⟨rfl, rfl⟩, h t List.mem_cons_self, can_mk (fun k hk => h k (List.mem_cons_of_mem _ hk))⟩
theorem can_mk_kids {S : Sg} {ar : Int → Nat} : ∀ {F : Fo}, CanF S ar F → mkF (kidsL F) = F
  | .nil, _ => rfl
  | .node _ _ _ _ _, ⟨⟨hb, ho⟩, _, h2⟩ => by subst hb ho; simp only [kidsL, mkF]; rw [can_mk_kids h2]

/-- Canonical terms that compare alike are one. -/
theorem canF_zero {S : Sg} {ar : Int → Nat} : ∀ {F G : Fo}, CanF S ar F → CanF S ar G → lenF F = lenF G → cmpF F G = 0 → F = G
  | .nil, .nil, _, _, _, _ => rfl
  | .nil, .node _ _ _ _ _, _, _, h, _ => by simp [lenF] at h
  | .node _ _ _ _ _, .nil, _, _, h, _ => by simp [lenF] at h
  | .node b o x l r, .node b' o' y m s, ⟨⟨hb, ho⟩, ⟨hx, hl⟩, hr⟩, ⟨⟨hb', ho'⟩, ⟨hy, hm⟩, hs⟩, hlen, h => by
    subst hb ho hb' ho'
    simp only [lenF, Nat.add_right_cancel_iff] at hlen
    rw [cmpF, thenC] at h
    split at h
    case isFalse hne => exact absurd h hne
    rename_i h1
    have hrs := canF_zero hr hs hlen h
    unfold cmp1 at h1
    unfold can1 at hx hy
    cases ex : noName x.1 <;> cases ey : noName y.1 <;> simp only [ex, ey, if_true, if_false, Bool.true_eq_false] at h1 hx hy
    · have hn : x.1 = y.1 := bytes_eq (bytes_zero h1)
      have e1 : l = .nil := len_nil (by rw [← kids_len, hx.2]; rfl)
      have e2 : m = .nil := len_nil (by rw [← kids_len, hy.2]; rfl)
      rw [hrs, e1, e2, show x = y from Prod.ext hn (hx.1.trans hy.1.symm)]
    · omega
    · omega
    · split at h1
      case isFalse hne => exact absurd (compareInt_zero h1) hne
      rename_i hs2
      split at h1
      case isFalse hne => exact absurd (by have := compareInt_zero h1; omega) hne
      rename_i hlm
      have hlm2 := canF_zero hl hm hlm h1
      rw [hrs, hlm2, show x = y from Prod.ext (hx.1.trans hy.1.symm) hs2]
theorem canT_zero {S : Sg} {ar : Int → Nat} {x y : Tn} (hx : CanT S ar x) (hy : CanT S ar y) (h : cmpN x y = 0) : x = y := by
  have h2 : BT.node 0 0 x.1 x.2 .nil = BT.node 0 0 y.1 y.2 .nil := canF_zero (F := .node 0 0 x.1 x.2 .nil) (G := .node 0 0 y.1 y.2 .nil) (S := S) (ar := ar) ⟨⟨rfl, rfl⟩, hx, trivial⟩ ⟨⟨rfl, rfl⟩, hy, trivial⟩ rfl (by
    rw [cmpF, thenC]
    have h' : cmp1 x.1 y.1 (lenF x.2) (lenF y.2) (cmpF x.2 y.2) = 0 := h
    rw [if_pos h', cmpF])
  simp only [BT.node.injEq, true_and, and_true] at h2
  exact Prod.ext h2.1 h2.2
/-- Terms in order are told by which they are. -/
theorem srt_eq {S : Sg} {ar : Int → Nat} {l m : List Tn} (hl : ∀ k ∈ l, CanT S ar k) (h1 : Srt l) (h2 : Srt m) (h : List.Perm l m) : l = m :=
  List.Perm.eq_of_pairwise (fun a b ha hb hab hba => canT_zero (hl a ha) (hl b (h.mem_iff.2 hb)) (by
    unfold leN at hab hba
    rw [cmpN_anti a b] at hba
    omega)) h1 h2 h
theorem sort_eq {S : Sg} {ar : Int → Nat} {l m : List Tn} (hl : ∀ k ∈ l, CanT S ar k) (h : List.Perm l m) : sortN l = sortN m :=
  srt_eq (fun k hk => hl k ((sortN_perm l).mem_iff.1 hk)) (sortN_srt l) (sortN_srt m) ((sortN_perm l).trans (h.trans (sortN_perm m).symm))
theorem sort_self {S : Sg} {ar : Int → Nat} {l : List Tn} (hl : ∀ k ∈ l, CanT S ar k) (h : Srt l) : sortN l = l :=
  srt_eq (fun k hk => hl k ((sortN_perm l).mem_iff.1 hk)) (sortN_srt l) h (sortN_perm l)
end Go.Proofs.Ytlemkgdbefmeeab
