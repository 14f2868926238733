/- Texts laid together: TMem, TOpen, MTab, Plain, Leaf, SName, SVar, RVar, SigMem, TBase, TOwn, TLent, Later. -/
import Derived.Deep.Trees
import Derived.Lib.Bytealg
import Derived.Lib.Small
import Derived.WalkKit
import Derived.Test.YtgidgmgpgfonnaaGreatRows
import Derived.Lib.SmallJoins
import Derived.SizedLaws
import Derived.ProofKit
import Derived.OpenShut
import Derived.ShutString
import Derived.ChangeOld
import Derived.SliceStrings
import Derived.ChangeMaps5
import Derived.JoinedCond
import Derived.Maps.Own
import Derived.Maps.Views
import Derived.StringKeys
import Derived.Laws.RangeAny
import Derived.WalkSpells
import Derived.WalkLawsBesides
import Derived.RangeFuncNested
import Derived.RangeFuncBound
import Derived.RangeFuncCalls
import Derived.RangeFuncLeaves
import Derived.Shelf.Abstract
import Derived.Shelf.RegionOpen
import Derived.OwnWalkIn
import Derived.TacticsInMore
import Derived.LoopNIn
import Derived.LoopIn
import Derived.Deep.AppendLies
import Derived.Deep.AppendSrc
import Derived.Laws.EntriesVeiled
import Derived.Deep.RegionLaw
import Derived.Deep.DeepCutAuto
import Derived.BigQuiet
/- Terms as forests: how many nodes, where they lie in memory, and their order, without any program. -/
namespace Go.Proofs.YtgidgmgpgfonnaaGreat
open Go.RowKit Go.Deep

/-- A list of terms: the first one's name and symbol, its arguments on the left, the terms behind it on the right. -/
abbrev Fo := BT (ByteArray × Int)
def lenF : Fo → Nat
  | .nil => 0
  | .node _ _ _ _ r => lenF r + 1
def nodesF : Fo → Nat
  | .nil => 0
  | .node _ _ _ l r => nodesF l + nodesF r + 1
def dropF : Nat → Fo → Fo
  | 0, F => F
  | _ + 1, .nil => .nil
  | n + 1, .node _ _ _ _ r => dropF n r

theorem len_nodes : ∀ F : Fo, lenF F ≤ nodesF F
  | .nil => Nat.le_refl _
  | .node _ _ _ l r => by have := len_nodes r; simp only [lenF, nodesF]; omega
theorem len_nil {F : Fo} (h : lenF F = 0) : F = .nil := by
  cases F with
  | nil => rfl
  | node => simp [lenF] at h
theorem drop_zero (F : Fo) : dropF 0 F = F := by cases F <;> rfl
theorem len_drop : ∀ (i : Nat) (F : Fo), lenF (dropF i F) = lenF F - i
  | 0, F => by rw [drop_zero]; rfl
  | i + 1, .nil => by simp [dropF, lenF]
  | i + 1, .node _ _ _ _ r => by simp only [dropF, lenF]; rw [len_drop i r]; omega
theorem drop_end (F : Fo) : dropF (lenF F) F = .nil := len_nil (by rw [len_drop]; omega)
theorem nodes_drop : ∀ (i : Nat) (F : Fo), nodesF (dropF i F) ≤ nodesF F
  | 0, F => by rw [drop_zero]; exact Nat.le_refl _
  | i + 1, .nil => by simp [dropF]
  | i + 1, .node _ _ _ l r => by have := nodes_drop i r; simp only [dropF, nodesF]; omega
theorem drop_succ : ∀ (i : Nat) (F : Fo) {b o : Nat} {x : ByteArray × Int} {l r : Fo}, dropF i F = .node b o x l r → dropF (i + 1) F = r
  | 0, F, b, o, x, l, r, h => by rw [drop_zero] at h; subst h; simp only [dropF]
  | _ + 1, .nil, _, _, _, _, _, h => by simp [dropF] at h
  | i + 1, .node _ _ _ _ r', b, o, x, l, r, h => by simp only [dropF] at h ⊢; exact drop_succ i r' h
theorem drop_node (i : Nat) (F : Fo) (h : i < lenF F) : ∃ b o x l r, dropF i F = .node b o x l r := by
  have e := len_drop i F
  cases hd : dropF i F with
  | nil => rw [hd] at e; simp [lenF] at e; omega
  | node b o x l r => exact ⟨b, o, x, l, r, rfl⟩

/-! ### memory -/
/-- How long a name, a list and its room may be. -/
structure Sizes (nm : ByteArray) (n c : Nat) : Prop where
  name : nm.size ≤ maxLen
  len : n ≤ c
  cap : c ≤ maxLen
  few : n * 48 ≤ 140737488351232
/-- From this cell on these terms lie, three cells each. -/
def KidsAt (w : World) : Fo → Nat → Nat → Prop
  | .nil, _, _ => True
  | .node _ _ x l r, b, o => (∃ a c, w.cell? ⟨b, o, none⟩ = some (.string x.1) ∧ w.cell? ⟨b, o + 1, none⟩ = some (.int .i64 x.2) ∧ w.cell? ⟨b, o + 2, none⟩ = some (.slice a (lenF l) c) ∧
      Sizes x.1 (lenF l) c ∧ (l = .nil ∨ ∃ b' o', a = some ⟨b', o', none⟩ ∧ KidsAt w l b' o')) ∧ KidsAt w r b (o + 3)
/-- The slice with this address holds these terms. -/
def ArgsAt (w : World) (a : Option Addr) (F : Fo) : Prop := F = .nil ∨ ∃ b o, a = some ⟨b, o, none⟩ ∧ KidsAt w F b o
/-- A term whose arguments lie in the slice with this address and room. -/
structure TmAt (w : World) (x : ByteArray × Int) (a : Option Addr) (c : Nat) (l : Fo) : Prop where
  sizes : Sizes x.1 (lenF l) c
  args : ArgsAt w a l

theorem KidsAt.kept {w w' : World} (h : ∀ p v, w.cell? p = some v → w'.cell? p = some v) : ∀ {F : Fo} {b o : Nat}, KidsAt w F b o → KidsAt w' F b o
  | .nil, _, _, _ => trivial
  | .node _ _ _ l r, b, o, ⟨⟨a, c, h0, h1, h2, hc, hl⟩, hr⟩ => ⟨⟨a, c, h _ _ h0, h _ _ h1, h _ _ h2, hc, by
      rcases hl with hl | ⟨b', o', ha, hk⟩
      · exact .inl hl
      · exact .inr ⟨b', o', ha, KidsAt.kept h hk⟩⟩, KidsAt.kept h hr⟩
theorem below_cell {w w' : World} (hb : Below w.heap.size w w') : ∀ p v, w.cell? p = some v → w'.cell? p = some v := fun p v h => by
  rw [hb.cell (World.block_lt_of_cell? w p h)]; exact h
theorem KidsAt.below {w w' : World} {F : Fo} {b o : Nat} (h : KidsAt w F b o) (hb : Below w.heap.size w w') : KidsAt w' F b o := h.kept (below_cell hb)
theorem ArgsAt.kept {w w' : World} {a : Option Addr} {F : Fo} (hk : ArgsAt w a F) (h : ∀ p v, w.cell? p = some v → w'.cell? p = some v) : ArgsAt w' a F := by
  rcases hk with h1 | ⟨b, o, ha, hk⟩
  · exact .inl h1
  · exact .inr ⟨b, o, ha, hk.kept h⟩
theorem ArgsAt.below {w w' : World} {a : Option Addr} {F : Fo} (hk : ArgsAt w a F) (hb : Below w.heap.size w w') : ArgsAt w' a F := hk.kept (below_cell hb)
theorem TmAt.kept {w w' : World} {x : ByteArray × Int} {a : Option Addr} {c : Nat} {l : Fo} (h : TmAt w x a c l) (hk : ∀ p v, w.cell? p = some v → w'.cell? p = some v) : TmAt w' x a c l := ⟨h.sizes, h.args.kept hk⟩
theorem TmAt.below {w w' : World} {x : ByteArray × Int} {a : Option Addr} {c : Nat} {l : Fo} (h : TmAt w x a c l) (hb : Below w.heap.size w w') : TmAt w' x a c l := ⟨h.sizes, h.args.below hb⟩
theorem KidsAt.drop {w : World} : ∀ (i : Nat) {F : Fo} {b o : Nat}, KidsAt w F b o → KidsAt w (dropF i F) b (o + i * 3)
  | 0, F, b, o, h => by rw [drop_zero]; simpa using h
  | i + 1, .nil, b, o, _ => by simp [dropF, KidsAt]
  | i + 1, .node _ _ _ _ r, b, o, ⟨_, hr⟩ => by
    have := KidsAt.drop i hr
    rw [show o + 3 + i * 3 = o + (i + 1) * 3 by omega] at this
    exact this
theorem ArgsAt.nil (w : World) (a : Option Addr) : ArgsAt w a .nil := .inl rfl
theorem ArgsAt.get {w : World} {a : Option Addr} {F : Fo} (h : ArgsAt w a F) (hn : 0 < lenF F) : ∃ b o, a = some ⟨b, o, none⟩ ∧ KidsAt w F b o := by
  rcases h with h1 | h2
  · subst h1; simp [lenF] at hn
  · exact h2
/-- The term at a place of a list. -/
structure Kid (w : World) (F : Fo) (b o k : Nat) (x : ByteArray × Int) (a : Option Addr) (c : Nat) (l : Fo) : Prop where
  name : w.cell? ⟨b, o + k * 3, none⟩ = some (.string x.1)
  sym : w.cell? ⟨b, o + k * 3 + 1, none⟩ = some (.int .i64 x.2)
  list : w.cell? ⟨b, o + k * 3 + 2, none⟩ = some (.slice a (lenF l) c)
  at_ : TmAt w x a c l
  split : ∃ B O, dropF k F = .node B O x l (dropF (k + 1) F)
  less : nodesF l < nodesF F
theorem KidsAt.kid {w : World} {F : Fo} {b o k : Nat} (h : KidsAt w F b o) (hk : k < lenF F) : ∃ x a c l, Kid w F b o k x a c l := by
  obtain ⟨B, O, x, l, r, hd⟩ := drop_node k F hk
  have h1 := h.drop k
  have h2 := nodes_drop k F
  rw [hd] at h1 h2
  obtain ⟨⟨a, c, h3, h4, h5, h6, h7⟩, _⟩ := h1
  exact ⟨x, a, c, l, h3, h4, h5, ⟨h6, h7⟩, ⟨B, O, by rw [drop_succ k F hd]; exact hd⟩, by simp only [nodesF] at h2; omega⟩
theorem Kid.below {w w' : World} {F : Fo} {b o k : Nat} {x : ByteArray × Int} {a : Option Addr} {c : Nat} {l : Fo} (h : Kid w F b o k x a c l) (hb : Below w.heap.size w w') : Kid w' F b o k x a c l :=
  ⟨below_cell hb _ _ h.name, below_cell hb _ _ h.sym, below_cell hb _ _ h.list, h.at_.below hb, h.split, h.less⟩

/-! ### the order -/
def thenC (x y : Int) : Int := if x = 0 then y else x
def cmpS (a b : ByteArray) : Int := Lib.compareBytes a.data.toList b.data.toList
def noName (s : ByteArray) : Bool := s.toList.isEmpty
/-- Two nodes, whose arguments compare so. -/
def cmp1 (x y : ByteArray × Int) (n m : Nat) (deep : Int) : Int :=
  if noName x.1 = false then (if noName y.1 = false then cmpS x.1 y.1 else -1)
  else if noName y.1 = false then 1 else if x.2 = y.2 then (if n = m then deep else Lib.compareInt n m) else Lib.compareInt x.2 y.2
def cmpF : Fo → Fo → Int
  | .nil, _ => 0
  | .node _ _ _ _ _, .nil => 0
  | .node _ _ x l r, .node _ _ y m s => thenC (cmp1 x y (lenF l) (lenF m) (cmpF l m)) (cmpF r s)

/-- What a total order says of three. -/
structure Cons (ab bc ac : Int) : Prop where
  l : ab = 0 → ac = bc
  r : bc = 0 → ac = ab
  lt : ab < 0 → bc < 0 → ac < 0
  gt : 0 < ab → 0 < bc → 0 < ac
theorem Cons.zero : Cons 0 0 0 := ⟨fun _ => rfl, fun _ => rfl, fun h => by omega, fun h => by omega⟩
theorem Cons.then {x1 x2 x3 y1 y2 y3 : Int} (h : Cons x1 x2 x3) (k : x1 = 0 → x2 = 0 → Cons y1 y2 y3) : Cons (thenC x1 y1) (thenC x2 y2) (thenC x3 y3) := by
  obtain ⟨h1, h2, h3, h4⟩ := h
  unfold thenC
  by_cases e1 : x1 = 0
  · have e3 := h1 e1
    subst e1 e3
    by_cases e2 : x3 = 0
    · subst e2
      simpa using k rfl rfl
    · simp only [e2, if_true, if_false]
      constructor <;> omega
  · by_cases e2 : x2 = 0
    · have e3 := h2 e2
      subst e2 e3
      simp only [e1, if_true, if_false]
      constructor <;> omega
    · simp only [e1, e2, if_false]
      constructor
      · omega
      · omega
      · intro a b
        have := h3 a b
        rw [if_neg (by omega)]; exact this
      · intro a b
        have := h4 a b
        rw [if_neg (by omega)]; exact this
theorem compareInt_cons (x y z : Int) : Cons (Lib.compareInt x y) (Lib.compareInt y z) (Lib.compareInt x z) := by
  unfold Lib.compareInt
  constructor <;> (repeat' split) <;> omega
theorem compareInt_anti (x y : Int) : Lib.compareInt y x = - Lib.compareInt x y := by
  unfold Lib.compareInt
  (repeat' split) <;> omega
theorem compareInt_zero {x y : Int} (h : Lib.compareInt x y = 0) : x = y := by
  unfold Lib.compareInt at h
  split at h
  · omega
  · split at h
    · omega
    · omega
theorem bytes_cons : ∀ a b c : List UInt8, Cons (Lib.compareBytes a b) (Lib.compareBytes b c) (Lib.compareBytes a c)
  | [], [], [] => Cons.zero
  | [], [], _ :: _ => ⟨fun _ => rfl, fun h => by simp [Lib.compareBytes] at h, fun h => by simp [Lib.compareBytes] at h, fun h => by simp [Lib.compareBytes] at h⟩
  | [], _ :: _, [] => ⟨fun h => by simp [Lib.compareBytes] at h, fun h => by simp [Lib.compareBytes] at h, fun _ h => by simp [Lib.compareBytes] at h, fun h => by simp [Lib.compareBytes] at h⟩
  | [], _ :: _, _ :: _ => ⟨fun h => by simp [Lib.compareBytes] at h, fun h => rfl, fun _ _ => by simp [Lib.compareBytes], fun h => by simp [Lib.compareBytes] at h⟩
  | _ :: _, [], [] => ⟨fun h => by simp [Lib.compareBytes] at h, fun h => rfl, fun h => by simp [Lib.compareBytes] at h, fun _ h => by simp [Lib.compareBytes] at h⟩
  | _ :: _, [], _ :: _ => ⟨fun h => by simp [Lib.compareBytes] at h, fun h => by simp [Lib.compareBytes] at h, fun h => by simp [Lib.compareBytes] at h, fun _ h => by simp [Lib.compareBytes] at h⟩
  | _ :: _, _ :: _, [] => ⟨fun _ => rfl, fun h => by simp [Lib.compareBytes] at h, fun _ h => by simp [Lib.compareBytes] at h, fun _ _ => by simp [Lib.compareBytes]⟩
  | a :: as1, b :: bs, c :: cs => by
    have ih := bytes_cons as1 bs cs
    have e : ∀ (a b : UInt8) (as1 bs : List UInt8), Lib.compareBytes (a :: as1) (b :: bs) = thenC (Lib.compareInt a.toNat b.toNat) (Lib.compareBytes as1 bs) := by
      intro a b as1 bs
      unfold thenC Lib.compareInt
      rw [Lib.compareBytes]
      have h1 : a < b ↔ a.toNat < b.toNat := UInt8.lt_iff_toNat_lt
      have h2 : b < a ↔ b.toNat < a.toNat := UInt8.lt_iff_toNat_lt
      by_cases k1 : a < b
      · have := h1.1 k1
        rw [if_pos k1, if_pos (by omega : (a.toNat : Int) < (b.toNat : Int))]; rfl
      · by_cases k2 : b < a
        · have := h2.1 k2
          rw [if_neg k1, if_pos k2, if_neg (by omega : ¬ (a.toNat : Int) < (b.toNat : Int)), if_pos (by omega : (a.toNat : Int) > (b.toNat : Int))]; rfl
        · have := mt h1.2 k1
          have := mt h2.2 k2
          rw [if_neg k1, if_neg k2, if_neg (by omega : ¬ (a.toNat : Int) < (b.toNat : Int)), if_neg (by omega : ¬ (a.toNat : Int) > (b.toNat : Int))]; rfl
    rw [e, e, e]
    exact (compareInt_cons _ _ _).then (fun _ _ => ih)
theorem bytes_anti : ∀ a b : List UInt8, Lib.compareBytes b a = - Lib.compareBytes a b
  | [], [] => rfl
  | [], _ :: _ => rfl
  | _ :: _, [] => rfl
  | a :: as1, b :: bs => by
    have ih := bytes_anti as1 bs
    rw [Lib.compareBytes, Lib.compareBytes]
    by_cases k1 : a < b
    · have h1 : a.toNat < b.toNat := UInt8.lt_iff_toNat_lt.1 k1
      have h2 : ¬ b < a := fun h => by have := UInt8.lt_iff_toNat_lt.1 h; omega
      rw [if_pos k1, if_neg h2, if_pos k1]; rfl
    · by_cases k2 : b < a
      · rw [if_pos k2, if_neg k1, if_pos k2]
      · rw [if_neg k2, if_neg k1, if_neg k1, if_neg k2, ih]
theorem bytes_zero : ∀ {a b : List UInt8}, Lib.compareBytes a b = 0 → a = b
  | [], [], _ => rfl
  | [], _ :: _, h => by simp [Lib.compareBytes] at h
  | _ :: _, [], h => by simp [Lib.compareBytes] at h
  | a :: as1, b :: bs, h => by
    rw [Lib.compareBytes] at h
    split at h
    · omega
    · rename_i k1
      split at h
      · omega
      · rename_i k2
        have h1 : ¬ a.toNat < b.toNat := fun h => k1 (UInt8.lt_iff_toNat_lt.2 h)
        have h2 : ¬ b.toNat < a.toNat := fun h => k2 (UInt8.lt_iff_toNat_lt.2 h)
        have : a = b := UInt8.toNat_inj.1 (by omega)
        rw [this, bytes_zero h]
theorem bytes_refl (a : List UInt8) : Lib.compareBytes a a = 0 := by
  have := bytes_anti a a
  omega

theorem cmp1_anti (x y : ByteArray × Int) (n m : Nat) (d : Int) : cmp1 y x m n (-d) = - cmp1 x y n m d := by
  unfold cmp1 cmpS
  rw [bytes_anti, compareInt_anti x.2 y.2, compareInt_anti (n : Int) (m : Int)]
  cases hx : noName x.1 <;> cases hy : noName y.1 <;> simp
  by_cases e : x.2 = y.2
  · rw [if_pos e, if_pos e.symm]
    by_cases e2 : n = m
    · rw [if_pos e2, if_pos e2.symm]
    · rw [if_neg e2, if_neg (Ne.symm e2)]
  · rw [if_neg e, if_neg (Ne.symm e)]
theorem cmpF_anti : ∀ F G : Fo, cmpF G F = - cmpF F G
  | .nil, .nil => rfl
  | .nil, .node _ _ _ _ _ => rfl
  | .node _ _ _ _ _, .nil => rfl
  | .node _ _ x l r, .node _ _ y m s => by
    rw [cmpF, cmpF, cmpF_anti l m, cmpF_anti r s, cmp1_anti]
    unfold thenC
    by_cases e : cmp1 x y (lenF l) (lenF m) (cmpF l m) = 0
    · rw [if_pos e, if_pos (by omega)]
    · rw [if_neg e, if_neg (by omega)]
theorem cmp1_cons (x y z : ByteArray × Int) (n m k : Nat) (d1 d2 d3 : Int) (h : n = m → m = k → Cons d1 d2 d3) : Cons (cmp1 x y n m d1) (cmp1 y z m k d2) (cmp1 x z n k d3) := by
  have hI := compareInt_cons x.2 y.2 z.2
  have hN := compareInt_cons (n : Int) m k
  have e : ∀ (x y : ByteArray × Int) (n m : Nat) (d : Int), noName x.1 = true → noName y.1 = true → cmp1 x y n m d = thenC (Lib.compareInt x.2 y.2) (thenC (Lib.compareInt n m) d) := by
    intro x y n m d hx hy
    unfold cmp1 thenC
    rw [if_neg (by simp [hx]), if_neg (by simp [hy])]
    by_cases e : x.2 = y.2
    · have e0 : Lib.compareInt x.2 y.2 = 0 := by unfold Lib.compareInt; rw [if_neg (by omega), if_neg (by omega)]
      rw [if_pos e, if_pos e0]
      by_cases e2 : n = m
      · have e1 : Lib.compareInt (n : Int) m = 0 := by unfold Lib.compareInt; rw [if_neg (by omega), if_neg (by omega)]
        rw [if_pos e2, if_pos e1]
      · have e1 : Lib.compareInt (n : Int) m ≠ 0 := fun h => e2 (by have := compareInt_zero h; omega)
        rw [if_neg e2, if_neg e1]
    · have e0 : Lib.compareInt x.2 y.2 ≠ 0 := fun h => e (compareInt_zero h)
      rw [if_neg e, if_neg e0]
  cases hx : noName x.1 <;> cases hy : noName y.1 <;> cases hz : noName z.1
  · simp only [cmp1, hx, hy, hz, if_true]; exact bytes_cons _ _ _
  · simp [cmp1, hx, hy, hz]; constructor <;> omega
  · simp [cmp1, hx, hy, hz]; constructor <;> omega
  · simp [cmp1, hx, hy, hz]; constructor <;> omega
  · simp [cmp1, hx, hy, hz]; constructor <;> omega
  · simp [cmp1, hx, hy, hz]; constructor <;> omega
  · simp [cmp1, hx, hy, hz]; constructor <;> omega
  · rw [e _ _ _ _ _ hx hy, e _ _ _ _ _ hy hz, e _ _ _ _ _ hx hz]
    refine hI.then fun _ _ => hN.then fun h1 h2 => h ?_ ?_
    · have := compareInt_zero h1; omega
    · have := compareInt_zero h2; omega
theorem cmpF_cons : ∀ F G K : Fo, lenF F = lenF G → lenF G = lenF K → Cons (cmpF F G) (cmpF G K) (cmpF F K)
  | .nil, .nil, .nil, _, _ => Cons.zero
  | .nil, .nil, .node _ _ _ _ _, _, h => by simp [lenF] at h
  | .nil, .node _ _ _ _ _, _, h, _ => by simp [lenF] at h
  | .node _ _ _ _ _, .nil, _, h, _ => by simp [lenF] at h
  | .node _ _ _ _ _, .node _ _ _ _ _, .nil, _, h => by simp [lenF] at h
  | .node _ _ x l r, .node _ _ y m s, .node _ _ z p q, h1, h2 => by
    simp only [lenF] at h1 h2
    rw [cmpF, cmpF, cmpF]
    exact (cmp1_cons x y z _ _ _ _ _ _ (fun a b => cmpF_cons l m p a b)).then (fun _ _ => cmpF_cons r s q (by omega) (by omega))

/-- A term: its name, its symbol, its arguments. -/
structure Tm where
  name : ByteArray
  sym : Int
  args : Fo
def cmpT (x y : Tm) : Int := cmp1 (x.name, x.sym) (y.name, y.sym) (lenF x.args) (lenF y.args) (cmpF x.args y.args)
theorem cmpT_anti (x y : Tm) : cmpT y x = - cmpT x y := by unfold cmpT; rw [cmpF_anti]; exact cmp1_anti _ _ _ _ _
theorem cmpT_self (x : Tm) : cmpT x x = 0 := by have := cmpT_anti x x; omega
theorem cmpT_cons (x y z : Tm) : Cons (cmpT x y) (cmpT y z) (cmpT x z) := cmp1_cons _ _ _ _ _ _ _ _ _ (fun a b => cmpF_cons _ _ _ a b)
end Go.Proofs.YtgidgmgpgfonnaaGreat
/- How a term that came in is opened into a forest. -/
namespace Go.Proofs.YtgidgmgpgfonnaaGreat
open Go.ChangeShapes Go.WideShapes Go.ChangeAt Go.RowKit Go.Deep

theorem own : ownKnob Tryz.prog.godebug = none := by kernel_rfl
theorem laidOut : laidOutB Tryz.prog = true := by kernel_rfl
theorem addr_add (b off i : Nat) : (⟨b, off, none⟩ : Addr).add i = ⟨b, off + i, none⟩ := by
  unfold Addr.add
  split
  · rename_i h; subst h; rfl
  · rfl
theorem Tryz.cells27 : Tryz.prog.cellsOf 27 = 3 := by kernel_rfl
theorem Tryz.cells25 : Tryz.prog.cellsOf 25 = 1 := by kernel_rfl
theorem Tryz.cells9 : Tryz.prog.cellsOf 9 = 1 := by kernel_rfl
theorem Tryz.cells3 : Tryz.prog.cellsOf 3 = 1 := by kernel_rfl
theorem Tryz.bytes27 : Tryz.prog.bytesOf 27 = 48 := by kernel_rfl


/-- Small enough, by one of the two forms' bounds. -/
def Sz {H : Type} (d : DataW H) : Prop := (∀ m ∈ d.weights Tryz.prog 27, m ≤ 140737488351232) ∨ Rows.uptoBulk d ≤ 1048576
theorem weights_all {H : Type} {e : TypeId} {m : Nat} : ∀ {ds : List (DataW H)} {d : DataW H}, d ∈ ds → m ∈ d.weights Tryz.prog e → m ∈ DataW.weightsAll Tryz.prog e ds
  | d' :: r, d, hd, hm => by
    simp only [DataW.weightsAll, List.mem_append]
    rcases List.mem_cons.1 hd with rfl | h
    · exact .inl hm
    · exact .inr (weights_all h hm)
theorem bulk_all {H : Type} : ∀ {ds : List (DataW H)} {d : DataW H}, d ∈ ds → Rows.uptoBulk d ≤ Rows.uptoBulkAll ds
  | d' :: r, d, hd => by
    simp only [Rows.uptoBulkAll]
    rcases List.mem_cons.1 hd with rfl | h
    · omega
    · have := bulk_all h; omega
theorem bulk_pos {H : Type} (d : DataW H) : 1 ≤ Rows.uptoBulk d := by
  cases d with
  | lit l => cases l <;> simp [Rows.uptoBulk]
  | _ => simp [Rows.uptoBulk]
theorem bulk_len {H : Type} : ∀ ds : List (DataW H), ds.length ≤ Rows.uptoBulkAll ds
  | [] => Nat.le_refl _
  | d :: r => by
    have := bulk_len r
    have := bulk_pos d
    simp only [Rows.uptoBulkAll, List.length_cons]; omega

/-- Terms side by side make a forest. -/
theorem forest_of {H : Type} {W : World} {b : Nat} : ∀ (ds : List (DataW H × List MemPlace)) (o : Nat),
    (∀ (i : Nat) (h : i < ds.length), ∃ (p : ByteArray × Int) (a : Option Addr) (c : Nat) (l : Fo), (W.cell? ⟨b, o + i * 3, none⟩ = some (.string p.1) ∧ W.cell? ⟨b, o + i * 3 + 1, none⟩ = some (.int .i64 p.2) ∧ W.cell? ⟨b, o + i * 3 + 2, none⟩ = some (.slice a (lenF l) c)) ∧ TmAt W p a c l ∧ nodesF l + 1 ≤ Rows.uptoBulk ds[i].1) →
    ∃ F : Fo, lenF F = ds.length ∧ KidsAt W F b o ∧ nodesF F ≤ Rows.uptoBulkAll (ds.map (·.1))
  | [], o, _ => ⟨.nil, rfl, trivial, Nat.zero_le _⟩
  | d :: r, o, h => by
    obtain ⟨F, hl, hk, hn⟩ := forest_of r (o + 3) (fun i hi => by
      obtain ⟨p, a, c, l, ⟨h0, h1, h2⟩, h3, h4⟩ := h (i + 1) (by simpa using hi)
      rw [show o + (i + 1) * 3 = o + 3 + i * 3 by omega] at h0 h1 h2
      exact ⟨p, a, c, l, ⟨h0, h1, h2⟩, h3, h4⟩)
    obtain ⟨p, a, c, l, ⟨h0, h1, h2⟩, h3, h4⟩ := h 0 (by simp)
    simp only [Nat.zero_mul, Nat.add_zero, List.getElem_cons_zero] at h0 h1 h2 h4
    refine ⟨.node 0 0 p l F, by simp [lenF, hl], ⟨⟨a, c, h0, h1, h2, h3.sizes, h3.args⟩, hk⟩, ?_⟩
    simp only [nodesF, List.map_cons, Rows.uptoBulkAll]
    omega

set_option maxRecDepth 100000 in
theorem term_open {H : Type} {enc : TypeId × Value → H} {W : World} : ∀ (fuel : Nat) (cs : List Value) (x : DataW H × List MemPlace), DataW.trod enc Tryz.prog W 0 (fun _ => true) true fuel 27 cs = some x → Sz x.1 →
    ∃ (p : ByteArray × Int) (a : Option Addr) (c : Nat) (l : Fo), cs = [.string p.1, .int .i64 p.2, .slice a (lenF l) c] ∧ TmAt W p a c l ∧ nodesF l + 1 ≤ Rows.uptoBulk x.1 := by
  intro fuel
  induction fuel using Nat.strongRecOn with
  | _ fuel ih =>
    intro cs x h hz
    obtain ⟨xs, n, hfuel, hx, hl, hlen, hf⟩ := DataW.trod_struct Tryz.underlying27 h
    rw [Tryz.cells27] at hl
    match xs, hlen, cs, hl with
    | [y0, y1, y2], _, [v0, v1, v2], _ =>
      have g0 := hf 0 _ rfl
      have g1 := hf 1 _ rfl
      have g2 := hf 2 _ rfl
      simp [Tryz.cells9, Tryz.cells3, Tryz.cells25] at g0 g1 g2
      obtain ⟨s0, e0, k0, f0⟩ := DataW.trod_string Tryz.underlying9 g0
      obtain ⟨n1, e1, k1, _⟩ := DataW.trod_int Tryz.underlying3 g1
      simp at e0 e1
      subst e0 e1 hx
      rcases DataW.trod_slice Tryz.underlying25 g2 with ⟨hcs, h2⟩ | ⟨ad, len, c, elems, rest, n', hn', hcs, h2, _, hlc, hcm, hlen2, hel, _, _⟩
      · simp at hcs
        subst hcs
        exact ⟨(s0, n1), none, 0, .nil, rfl, ⟨⟨f0, by simp [lenF], by simp, by simp [lenF]⟩, .inl rfl⟩, by simp [nodesF, Rows.uptoBulk, Rows.uptoBulkAll]⟩
      · simp at hcs
        subst hcs
        rw [Tryz.cells27] at hel
        have hb2 : Rows.uptoBulkAll (elems.map (·.1)) + 1 ≤ Rows.uptoBulk (DataW.agg (List.map (·.1) [y0, y1, y2])) := by
          simp only [List.map_cons, List.map_nil, Rows.uptoBulk, Rows.uptoBulkAll, h2]; omega
        have hsub : ∀ d ∈ elems, Sz d.1 := by
          intro d hd
          rcases hz with hz | hz
          · refine .inl fun m hm => hz m ?_
            have : m ∈ DataW.weightsAll Tryz.prog 27 (elems.map (·.1)) := weights_all (List.mem_map_of_mem hd) hm
            simp [DataW.weights, Tryz.underlying27, DataW.weightsEach, h2, Tryz.underlying25, this]
          · refine .inr ?_
            have := bulk_all (List.mem_map_of_mem (f := (·.1)) hd)
            simp only at hz
            omega
        have hfew : len * 48 ≤ 140737488351232 := by
          rcases hz with hz | hz
          · have := hz ((elems.length + rest.length) * 48) (by simp [DataW.weights, Tryz.underlying27, DataW.weightsEach, h2, Tryz.underlying25, Tryz.bytes27])
            rw [hlen2] at this
            omega
          · have := bulk_len (elems.map (·.1))
            rw [List.length_map, hlen2] at this
            simp only at hz
            omega
        have each : ∀ i (hi : i < elems.length), ∃ (p : ByteArray × Int) (a : Option Addr) (c : Nat) (l : Fo), W.cells? 0 (ad.add (i * 3)) 3 = some [.string p.1, .int .i64 p.2, .slice a (lenF l) c] ∧ TmAt W p a c l ∧ nodesF l + 1 ≤ Rows.uptoBulk elems[i].1 := by
          intro i hi
          have h1 := hel i (by omega)
          rw [List.getElem?_eq_getElem hi] at h1
          cases hc : W.cells? 0 (ad.add (i * 3)) 3 with
          | none => rw [hc] at h1; cases h1
          | some cs' =>
            rw [hc] at h1
            obtain ⟨p, a, c, l, rfl, h3, h4⟩ := ih n' (by omega) cs' elems[i] h1 (hsub _ (List.getElem_mem hi))
            exact ⟨p, a, c, l, rfl, h3, h4⟩
        by_cases hz0 : len = 0
        · subst hz0
          exact ⟨(s0, n1), some ad, c, .nil, rfl, ⟨⟨f0, by simp [lenF], hcm, by simp [lenF]⟩, .inl rfl⟩, by simp only [nodesF]; omega⟩
        · obtain ⟨b, off, spot⟩ := ad
          have hspot : spot = none := by
            obtain ⟨p, a, c, l, h3, _⟩ := each 0 (by omega)
            obtain ⟨_, _, h30⟩ := World.cells?_some h3
            have := h30 0 (by omega)
            simpa [Addr.add] using World.cell?_spot this
          subst hspot
          obtain ⟨F, hFl, hFk, hFn⟩ := forest_of (W := W) (b := b) elems off (fun i hi => by
            obtain ⟨p, a, c, l, h3, h4, h5⟩ := each i hi
            rw [addr_add] at h3
            obtain ⟨_, _, h30⟩ := World.cells?_some h3
            have q0 := h30 0 (by omega)
            have q1 := h30 1 (by omega)
            have q2 := h30 2 (by omega)
            rw [addr_add] at q0 q1 q2
            exact ⟨p, a, c, l, ⟨q0, q1, q2⟩, h4, h5⟩)
          have hFl' : lenF F = len := by rw [hFl, hlen2]
          exact ⟨(s0, n1), some ⟨b, off, none⟩, c, F, by rw [hFl'], ⟨⟨f0, by omega, hcm, by rw [hFl']; exact hfew⟩, .inr ⟨b, off, rfl, hFk⟩⟩, Nat.le_trans (Nat.succ_le_succ hFn) hb2⟩

set_option maxRecDepth 100000 in
/-- A term that came in. -/
theorem termv_open {H : Type} {enc : TypeId × Value → H} {W : World} {r : Reach} {b0 : Nat} {v : Value} {d : DataW H} {ps : List MemPlace} (hv : Value.okWide Tryz.prog W r b0 27 v)
    (h : DataW.Trod enc Tryz.prog W 0 (fun _ => true) true 27 v d ps) (hz : Sz d) :
    ∃ (p : ByteArray × Int) (a : Option Addr) (c : Nat) (l : Fo), v = .agg #[.string p.1, .int .i64 p.2, .slice a (lenF l) c] ∧ TmAt W p a c l ∧ nodesF l + 1 ≤ Rows.uptoBulk d := by
  obtain ⟨cs, rfl, hsz⟩ := okWide_struct Tryz.underlying27 hv
  obtain ⟨c0, c1, c2, rfl⟩ := Joins.array3 (hsz.trans Tryz.cells27)
  obtain ⟨fuel, hf⟩ := h
  obtain ⟨p, a, c, l, hcs, h1, h2⟩ := term_open fuel _ _ hf hz
  simp [Value.cells] at hcs
  obtain ⟨rfl, rfl, rfl⟩ := hcs
  exact ⟨p, a, c, l, rfl, h1, h2⟩
/-- Within the first form's reach. -/
theorem sz_of_weights {H : Type} {ts : List TypeId} {ds : List (DataW H)} {j : Nat} {d : DataW H} (h : (DataW.weightsEach Tryz.prog ts ds).all (· ≤ reachBytes) = true) (ht : ts[j]? = some 27) (hd : ds[j]? = some d) : Sz d :=
  .inl fun m hm => by
    have := List.all_eq_true.1 h _ (DataW.weights_mem_each ht hd m hm)
    have e : reachBytes = 140737488351232 := rfl
    rw [e] at this
    simpa using this
end Go.Proofs.YtgidgmgpgfonnaaGreat
/- Maps from names to values of whatever make, as a call makes them, looks them up and fills them. -/
namespace Go.Proofs.YtgidgmgpgfonnaaGreat
open Go.RowKit Go.Maps

theorem law9 : Keyed Tryz.prog 9 := string_keyed Tryz.underlying9
/-- An element is held as it is. -/
def rH (v : Value) : Option (DataW Value × List MemPlace) := some (.held v, [])
abbrev MapAt (W : World) (b n : Nat) (D : DataW Value) : Prop := W.ownsMap Tryz.prog 9 rH b n D
def keyL (s : ByteArray) : Lit := .string s.data.toList
def lookD (D : DataW Value) (s : ByteArray) : Option Value := match D.atKey (keyL s) .nil with
  | .held v => some v
  | _ => none
theorem key_run (s : ByteArray) (hs : s.size ≤ maxLen) : keyOf Tryz.prog 9 (.string s) = some (keyL s) := Go.WideMaps.keyOf_string_mk Tryz.underlying9 hs
def zTm : Value := .agg #[.string ⟨#[]⟩, .int .i64 0, .slice none 0 0]
theorem zero27 (W : World) : (zeroValue 27).run Tryz.prog W = .ok zTm W := by kernel_rfl
theorem look_run {W : World} {b n : Nat} {D : DataW Value} (h : MapAt W b n D) (s : ByteArray) (hs : s.size ≤ maxLen) :
    (Instr.lookup 55 (.map (some b)) (.string s) true).run Tryz.prog W = .ok (.tuple #[(lookD D s).getD zTm, .bool (lookD D s).isSome]) W := by
  obtain ⟨es, clock, hb, F, _, rfl⟩ := h
  unfold lookD
  rcases fit_look true law9 Tryz.underlying55 (zero27 W) hb F (key_run s hs) with ⟨hrun, _, hat⟩ | ⟨e0, y, _, _, hrun, hRv, hat, _⟩
  · rw [hat]
    exact hrun
  · have hy : y.1 = .held e0.val := by
      unfold rH at hRv
      rw [← Option.some.inj hRv]
    rw [hat, hy]
    exact hrun
theorem nil_run (W : World) (s : ByteArray) (hs : s.size ≤ maxLen) :
    (Instr.lookup 55 (.map none) (.string s) true).run Tryz.prog W = .ok (.tuple #[zTm, .bool false]) W := by
  rcases law9.find W (key_run s hs) [] (by simp) with ⟨h1, _⟩ | ⟨j, e0, _, h2, _⟩
  · simp [Instr.lookup, run_underlying Tryz.underlying55, law9.check W _ (key_run s hs), h1, zero27 W, Result.andThen]
  · simp at h2
theorem make_run (W : World) (n : Int) : (Instr.makeMap 55 (some (.int .i64 n))).run Tryz.prog W = .ok (.map (some W.heap.size)) (W.alloc (.map #[] 0)) := by
  simp [Instr.makeMap, run_underlying Tryz.underlying55, asInt, asIntOf, Result.andThen]
theorem map_made (W : World) : MapAt (W.alloc (.map #[] 0)) W.heap.size 0 (.map []) := World.ownsMap_made _ _ _ _
theorem look_none (s : ByteArray) : lookD (.map []) s = none := rfl
theorem keyL_inj {s s' : ByteArray} (h : keyL s = keyL s') : s = s' := by
  have h1 : s.data.toList = s'.data.toList := by injection h
  have h2 : s.data = s'.data := Array.ext' h1
  cases s; cases s'; exact congrArg ByteArray.mk h2
theorem look_put {D : DataW Value} (hD : IsMap D) (s : ByteArray) (v : Value) (s' : ByteArray) : lookD (D.put (keyL s) (.held v)) s' = if s' = s then some v else lookD D s' := by
  unfold lookD
  by_cases h : s' = s
  · subst h
    rw [if_pos rfl, atKey_put_same hD (by constructor)]
  · rw [if_neg h, atKey_put_other (fun e => h (keyL_inj e))]
theorem MapAt.isMap {W : World} {b n : Nat} {D : DataW Value} (h : MapAt W b n D) : IsMap D := by
  obtain ⟨es, clock, _, _, _, rfl⟩ := h
  exact ⟨_, rfl⟩
/-- A store. -/
theorem put_run {W : World} {b n : Nat} {D : DataW Value} (h : MapAt W b n D) (hn : n < maxLen) (s : ByteArray) (hs : s.size ≤ maxLen) (v : Value) :
    ∃ W', (Instr.mapUpdate 55 (.map (some b)) (.string s) v).run Tryz.prog W = .ok () W' ∧ MapAt W' b (n + 1) (D.put (keyL s) (.held v)) ∧ W.grownBy W' (some b) :=
  h.update law9 Tryz.underlying55 hn (key_run s hs) rfl
end Go.Proofs.YtgidgmgpgfonnaaGreat
/- The plain functions of layer 1 (names of symbols and of variables, over bytes), without any program. -/
namespace Go.Proofs.YtgidgmgpgfonnaaGreat

def lowZ (r : Int) : Bool := decide (97 ≤ r) && decide (r ≤ 122)
def upZ (r : Int) : Bool := decide (65 ≤ r) && decide (r ≤ 90)
def digZ (r : Int) : Bool := decide (48 ≤ r) && decide (r ≤ 57)
def fitsB (s : ByteArray) : Bool := decide (1 ≤ s.size) && decide (s.size ≤ 12)
/-- The byte at a place, 0 where there is none. -/
def bt (s : ByteArray) (j : Nat) : Int := if h : j < s.size then ((s[j]'h).toNat : Int) else 0
def okName (j : Nat) (c : Int) : Bool := lowZ c || (decide (1 ≤ j) && digZ c)
def okVar (j : Nat) (c : Int) : Bool := upZ c || (decide (1 ≤ j) && (lowZ c || digZ c))
def okNum (j : Nat) (c : Int) : Bool := (decide (j = 0) && decide (c = 95)) || (decide (j = 1) && digZ c && decide (c ≠ 48)) || (decide (2 ≤ j) && digZ c)
def allB (p : Nat → Int → Bool) (s : ByteArray) (n : Nat) : Bool := (List.range n).all fun j => p j (bt s j)
def nameB (s : ByteArray) : Bool := fitsB s && allB okName s s.size
def writtenB (s : ByteArray) : Bool := allB okVar s s.size
def numberedB (s : ByteArray) : Bool := decide (2 ≤ s.size) && allB okNum s s.size
def varB (s : ByteArray) : Bool := fitsB s && (writtenB s || numberedB s)

theorem bt_of {s : ByteArray} {j : Nat} (h : j < s.size) : bt s j = ((s[j]'h).toNat : Int) := by simp [bt, h]
theorem bt_range (s : ByteArray) (j : Nat) : 0 ≤ bt s j ∧ bt s j ≤ 255 := by
  unfold bt
  split
  · rename_i h; have := (s[j]'h).toNat_lt; omega
  · omega
theorem allB_succ (p : Nat → Int → Bool) (s : ByteArray) (n : Nat) : allB p s (n + 1) = (allB p s n && p n (bt s n)) := by
  simp [allB, List.range_succ]
theorem allB_zero (p : Nat → Int → Bool) (s : ByteArray) : allB p s 0 = true := by simp [allB]
theorem allB_iff (p : Nat → Int → Bool) (s : ByteArray) (n : Nat) : allB p s n = true ↔ ∀ j, j < n → p j (bt s j) = true := by
  simp [allB]
theorem allB_false {p : Nat → Int → Bool} {s : ByteArray} {n k : Nat} (hk : k < n) (h : p k (bt s k) = false) : allB p s n = false := by
  cases e : allB p s n with
  | false => rfl
  | true => rw [(allB_iff p s n).1 e k hk] at h; cases h

end Go.Proofs.YtgidgmgpgfonnaaGreat
/- What the smallest functions of layer 1 answer: letters, digits, lengths. -/
namespace Go.Proofs.YtgidgmgpgfonnaaGreat
open Go.RowKit

theorem rlow_any (r : Int) (w : World) : Calls Tryz.prog 46 #[.int .u8 r] w fun e w' => e = .returned (.bool (lowZ r)) ∧ w' = w := by
  by_cases h : 97 ≤ r
  · go_enter Tryz.func46, Tryz.ntmps46
    go_wp2
    go_ret
    exact ⟨by simp [lowZ, h], rfl⟩
  · go_enter Tryz.func46, Tryz.ntmps46
    go_wp2
    go_ret
    exact ⟨by simp [lowZ]; omega, rfl⟩

theorem rdigit_any (r : Int) (w : World) : Calls Tryz.prog 44 #[.int .u8 r] w fun e w' => e = .returned (.bool (digZ r)) ∧ w' = w := by
  by_cases h : 48 ≤ r
  · go_enter Tryz.func44, Tryz.ntmps44
    go_wp2
    go_ret
    exact ⟨by simp [digZ, h], rfl⟩
  · go_enter Tryz.func44, Tryz.ntmps44
    go_wp2
    go_ret
    exact ⟨by simp [digZ]; omega, rfl⟩

theorem rup_any (r : Int) (w : World) : Calls Tryz.prog 45 #[.int .u8 r] w fun e w' => e = .returned (.bool (upZ r)) ∧ w' = w := by
  by_cases h : 65 ≤ r
  · go_enter Tryz.func45, Tryz.ntmps45
    go_wp2
    go_ret
    exact ⟨by simp [upZ, h], rfl⟩
  · go_enter Tryz.func45, Tryz.ntmps45
    go_wp2
    go_ret
    exact ⟨by simp [upZ]; omega, rfl⟩

theorem fits_hi {s : ByteArray} (h : 1 ≤ (s.size : Int)) : fitsB s = decide ((s.size : Int) ≤ 12) := by
  rw [Bool.eq_iff_iff]; simp [fitsB]; omega
end Go.Proofs.YtgidgmgpgfonnaaGreat
/- What Name of package sig answers of any text: it goes through the runes. -/
namespace Go.Proofs.YtgidgmgpgfonnaaGreat
open Go.RowKit

theorem okName_high {j : Nat} {c : Int} (h : 128 ≤ c) : okName j c = false := by
  simp [okName, lowZ, digZ]; omega
theorem okVar_high {j : Nat} {c : Int} (h : 128 ≤ c) : okVar j c = false := by
  simp [okVar, lowZ, digZ, upZ]; omega
theorem lowZ_high {c : Int} (h : 128 ≤ c) : lowZ c = false := by simp [lowZ]; omega
theorem upZ_high {c : Int} (h : 128 ≤ c) : upZ c = false := by simp [upZ]; omega
theorem digZ_high {c : Int} (h : 128 ≤ c) : digZ c = false := by simp [digZ]; omega
theorem below_iter (w : World) (s : ByteArray) (p : Nat) : Below w.heap.size w (w.iter s p) := (Below.refl _ _).alloc (Nat.le_refl _) _

end Go.Proofs.YtgidgmgpgfonnaaGreat
/- What Var of package sig answers of any text: it goes through the runes. -/
namespace Go.Proofs.YtgidgmgpgfonnaaGreat
open Go.RowKit

theorem ext_size (s : ByteArray) : (s.extract 1 s.size).size = s.size - 1 := by simp
theorem ext_at (s : ByteArray) (j : Nat) (h : j < (s.extract 1 s.size).size) (h' : j + 1 < s.size) : (s.extract 1 s.size)[j]'h = s[j + 1]'h' := by
  rw [ByteArray.getElem_extract]; congr 1; omega
theorem numbered_no {s : ByteArray} (k : Nat) (hk : k < s.size) (h : okNum k ((s[k]'hk).toNat : Int) = false) : numberedB s = false := by
  unfold numberedB; rw [allB_false hk (by rw [bt_of hk]; exact h)]; simp
theorem okNum_high {j : Nat} {c : Int} (h : 128 ≤ c) : okNum j c = false := by
  simp [okNum, digZ]; omega

end Go.Proofs.YtgidgmgpgfonnaaGreat
/- What the document's Var answers of any text. -/
namespace Go.Proofs.YtgidgmgpgfonnaaGreat
open Go.RowKit

theorem var_num {s : ByteArray} (hf : fitsB s = true) (hp : 0 < s.size) (h : ((s[0]'hp).toNat : Int) = 95) : varB s = numberedB s := by
  unfold varB writtenB
  rw [hf, allB_false hp (by rw [bt_of hp, h]; rfl)]; simp
theorem var_writ {s : ByteArray} (hf : fitsB s = true) (hp : 0 < s.size) (h : ((s[0]'hp).toNat : Int) ≠ 95) : varB s = writtenB s := by
  unfold varB
  rw [hf, numbered_no 0 hp (by simp [okNum, h])]; simp
theorem okNum_two {j : Nat} {c : Int} (h : 2 ≤ j) : okNum j c = digZ c := by
  have h0 : ¬ j = 0 := by omega
  have h1 : ¬ j = 1 := by omega
  simp [okNum, h, h0, h1]

set_option maxHeartbeats 800000 in
theorem rvar_any (s : ByteArray) (w : World) (hs : s.size ≤ maxLen) : Calls Tryz.prog 22 #[.string s] w fun e w' => e = .returned (.bool (varB s)) ∧ w' = w := by
  unfold maxLen at hs
  by_cases h0 : (s.size : Int) < 1
  · go_enter Tryz.func22, Tryz.ntmps22
    go_wp2
    go_ret
    exact ⟨by simp [varB, fitsB]; omega, rfl⟩
  · by_cases h1 : 12 < (s.size : Int)
    · go_enter Tryz.func22, Tryz.ntmps22
      go_wp2
      go_ret
      exact ⟨by simp [varB, fitsB]; omega, rfl⟩
    · have hp : 0 < s.size := by omega
      have hfit : Hid (fitsB s = true) := by show fitsB s = true; simp [fitsB]; omega
      cases hu : (((s[0]'hp).toNat : Int) == 95)
      · have hu' : Hid (((s[0]'hp).toNat : Int) ≠ 95) := by show _ ≠ _; simpa using hu
        have hv : Hid (varB s = writtenB s) := var_writ hfit.out hp hu'.out
        cases hl : upZ ((s[0]'hp).toNat : Int)
        · have hbad : Hid (varB s = false) := by
            show varB s = false
            rw [hv.out]; unfold writtenB
            rw [allB_false hp (by rw [bt_of hp]; simp [okVar, hl])]
          go_enter Tryz.func22, Tryz.ntmps22
          go_wp2_with (go_at_call 45; refine (rup_any _ _).mono ?_; rintro e w' ⟨rfl, rfl⟩)
          go_ret
          exact ⟨by rw [hbad.out]; rfl, rfl⟩
        · have h01 : Hid (allB okVar s 1 = true) := by
            show allB okVar s 1 = true
            rw [allB_succ, allB_zero, bt_of hp]; simp [okVar, hl]
          go_enter Tryz.func22, Tryz.ntmps22
          go_wp2_with (go_at_call 45; refine (rup_any _ _).mono ?_; rintro e w' ⟨rfl, rfl⟩)
          go_loop [4] (fun i => ∃ k : Nat, 1 ≤ k ∧ k ≤ s.size ∧ i = .int .i64 k ∧ allB okVar s k = true) (fun i => s.size - (intOf i).toNat)
          case atStart => exact ⟨1, Nat.le_refl _, hp, rfl, h01.out⟩
          case round =>
            obtain ⟨k, hk1, hk, rfl, hall⟩ := hrel
            have HA : Hid (allB okVar s k = true) := hall
            clear hall
            by_cases hlt : k < s.size
            · have hst : Hid (∀ b, okVar k ((s[k]'hlt).toNat : Int) = b → allB okVar s (k + 1) = b) := by
                intro b hb; rw [allB_succ, HA.out, bt_of hlt, hb]; rfl
              have hbad : Hid (okVar k ((s[k]'hlt).toNat : Int) = false → varB s = false) := by
                intro hb; rw [hv.out]; unfold writtenB; rw [allB_false hlt (by rw [bt_of hlt]; exact hb)]
              cases hlk : lowZ ((s[k]'hlt).toNat : Int)
              · cases huk : upZ ((s[k]'hlt).toNat : Int)
                · cases hdk : digZ ((s[k]'hlt).toNat : Int)
                  · go_wp2_with (first | (go_at_call 46; refine (rlow_any _ _).mono ?_; rintro e w' ⟨rfl, rfl⟩) | (go_at_call 44; refine (rdigit_any _ _).mono ?_; rintro e w' ⟨rfl, rfl⟩) | (go_at_call 45; refine (rup_any _ _).mono ?_; rintro e w' ⟨rfl, rfl⟩))
                    go_ret
                    exact ⟨by rw [hbad.out (by simp [okVar, hlk, hdk, huk])]; rfl, rfl⟩
                  · go_wp2_with (first | (go_at_call 46; refine (rlow_any _ _).mono ?_; rintro e w' ⟨rfl, rfl⟩) | (go_at_call 44; refine (rdigit_any _ _).mono ?_; rintro e w' ⟨rfl, rfl⟩) | (go_at_call 45; refine (rup_any _ _).mono ?_; rintro e w' ⟨rfl, rfl⟩))
                    go_round
                    case rel => exact ⟨k + 1, by omega, by omega, by go_num, hst.out _ (by simp [okVar, hdk]; omega)⟩
                    case measure => simp [intOf]; omega
                · go_wp2_with (first | (go_at_call 46; refine (rlow_any _ _).mono ?_; rintro e w' ⟨rfl, rfl⟩) | (go_at_call 44; refine (rdigit_any _ _).mono ?_; rintro e w' ⟨rfl, rfl⟩) | (go_at_call 45; refine (rup_any _ _).mono ?_; rintro e w' ⟨rfl, rfl⟩))
                  go_round
                  case rel => exact ⟨k + 1, by omega, by omega, by go_num, hst.out _ (by simp [okVar, huk])⟩
                  case measure => simp [intOf]; omega
              · go_wp2_with (first | (go_at_call 46; refine (rlow_any _ _).mono ?_; rintro e w' ⟨rfl, rfl⟩) | (go_at_call 44; refine (rdigit_any _ _).mono ?_; rintro e w' ⟨rfl, rfl⟩) | (go_at_call 45; refine (rup_any _ _).mono ?_; rintro e w' ⟨rfl, rfl⟩))
                go_round
                case rel => exact ⟨k + 1, by omega, by omega, by go_num, hst.out _ (by simp [okVar, hlk]; omega)⟩
                case measure => simp [intOf]; omega
            · have hgood : Hid (varB s = true) := by
                have hke : s.size = k := by omega
                show varB s = true; rw [hv.out]; unfold writtenB; rw [hke, HA.out]
              go_wp2
              go_ret
              exact ⟨by rw [hgood.out]; rfl, rfl⟩
      · have hu' : Hid (((s[0]'hp).toNat : Int) = 95) := by show _ = _; simpa using hu
        have hv : Hid (varB s = numberedB s) := var_num hfit.out hp hu'.out
        by_cases h2 : (s.size : Int) < 2
        · have hbad : Hid (varB s = false) := by show varB s = false; rw [hv.out]; simp [numberedB]; omega
          go_enter Tryz.func22, Tryz.ntmps22
          go_wp2
          go_ret
          exact ⟨by rw [hbad.out]; rfl, rfl⟩
        · have hp1 : 1 < s.size := by omega
          cases hz : (((s[1]'hp1).toNat : Int) == 48)
          · have hz' : Hid (((s[1]'hp1).toNat : Int) ≠ 48) := by show _ ≠ _; simpa using hz
            have h01 : Hid (allB okNum s 1 = true) := by
              show allB okNum s 1 = true
              rw [allB_succ, allB_zero, bt_of hp, hu'.out]; rfl
            go_enter Tryz.func22, Tryz.ntmps22
            go_wp2
            go_loop [3] (fun i => ∃ k : Nat, 1 ≤ k ∧ k ≤ s.size ∧ i = .int .i64 k ∧ allB okNum s k = true) (fun i => s.size - (intOf i).toNat)
            case atStart => exact ⟨1, Nat.le_refl _, hp, rfl, h01.out⟩
            case round =>
              obtain ⟨k, hk1, hk, rfl, hall⟩ := hrel
              have HA : Hid (allB okNum s k = true) := hall
              clear hall
              by_cases hlt : k < s.size
              · have hst : Hid (okNum k ((s[k]'hlt).toNat : Int) = true → allB okNum s (k + 1) = true) := by
                  intro hb; rw [allB_succ, HA.out, bt_of hlt, hb]; rfl
                have hbad : Hid (okNum k ((s[k]'hlt).toNat : Int) = false → varB s = false) := by
                  intro hb; rw [hv.out]; exact numbered_no k hlt hb
                cases hdk : digZ ((s[k]'hlt).toNat : Int)
                · go_wp2_with (go_at_call 44; refine (rdigit_any _ _).mono ?_; rintro e w' ⟨rfl, rfl⟩)
                  go_ret
                  exact ⟨by rw [hbad.out (by simp [okNum, hdk]; omega)]; rfl, rfl⟩
                · have hok : Hid (okNum k ((s[k]'hlt).toNat : Int) = true) := by
                    show okNum _ _ = true
                    by_cases hz1 : k = 1
                    · subst hz1; have := hz'.out; simp [okNum, hdk]; omega
                    · rw [okNum_two (by omega)]; exact hdk
                  go_wp2_with (go_at_call 44; refine (rdigit_any _ _).mono ?_; rintro e w' ⟨rfl, rfl⟩)
                  go_round
                  case rel => exact ⟨k + 1, by omega, by omega, by go_num, hst.out hok.out⟩
                  case measure => simp [intOf]; omega
              · have hgood : Hid (varB s = true) := by
                  have hke : s.size = k := by omega
                  show varB s = true; rw [hv.out]; unfold numberedB; rw [hke, HA.out]; simp; omega
                go_wp2
                go_ret
                exact ⟨by rw [hgood.out]; rfl, rfl⟩
          · have hbad : Hid (varB s = false) := by
              show varB s = false; rw [hv.out]
              have : ((s[1]'hp1).toNat : Int) = 48 := by simpa using hz
              exact numbered_no 1 hp1 (by rw [this]; rfl)
            go_enter Tryz.func22, Tryz.ntmps22
            go_wp2
            go_ret
            exact ⟨by rw [hbad.out]; rfl, rfl⟩
end Go.Proofs.YtgidgmgpgfonnaaGreat
/- Signatures as plain lists: what is found, what is right; and where they lie in memory. -/
namespace Go.Proofs.YtgidgmgpgfonnaaGreat
open Go.RowKit

structure Sym where
  name : ByteArray
  kind : Int
  arity : Int
  unit : ByteArray

def Sym.val (x : Sym) : Value := .agg #[.string x.name, .int .i64 x.kind, .int .i64 x.arity, .string x.unit]

/-! ### plain -/
def sameB (a b : ByteArray) : Bool := a.toList == b.toList
def findL (l : List Sym) (nm : ByteArray) : Option Nat := l.findIdx? fun x => sameB x.name nm
def findI (l : List Sym) (nm : ByteArray) : Int := match findL l nm with | some i => i | none => 0
def findB (l : List Sym) (nm : ByteArray) : Bool := (findL l nm).isSome

theorem find_hit {l : List Sym} {nm : ByteArray} {k : Nat} (hk : k < l.length) (h : sameB l[k].name nm = true) (hno : ∀ j (hj : j < l.length), j < k → sameB l[j].name nm = false) : findL l nm = some k := by
  unfold findL
  rw [List.findIdx?_eq_some_iff_getElem]
  exact ⟨hk, h, fun j hj => by rw [hno j (by omega) hj]; simp⟩
theorem find_miss {l : List Sym} {nm : ByteArray} (hno : ∀ j (hj : j < l.length), sameB l[j].name nm = false) : findL l nm = none := by
  unfold findL
  rw [List.findIdx?_eq_none_iff]
  intro x hx
  obtain ⟨j, hj, rfl⟩ := List.getElem_of_mem hx
  exact hno j hj
theorem findI_some {l : List Sym} {nm : ByteArray} {k : Nat} (h : findL l nm = some k) : findI l nm = k := by simp [findI, h]
theorem findB_some {l : List Sym} {nm : ByteArray} {k : Nat} (h : findL l nm = some k) : findB l nm = true := by simp [findB, h]
theorem findI_none {l : List Sym} {nm : ByteArray} (h : findL l nm = none) : findI l nm = 0 := by simp [findI, h]
theorem findB_none {l : List Sym} {nm : ByteArray} (h : findL l nm = none) : findB l nm = false := by simp [findB, h]

def arityB (x : Sym) : Bool := if x.kind = 1 then decide (0 ≤ x.arity) && decide (x.arity ≤ 4) else decide (x.arity = 2)
def emptyB (s : ByteArray) : Bool := s.toList.isEmpty
def isUnit (x y : Sym) : Bool := decide (y.kind = 1) && decide (y.arity = 0) && sameB y.name x.unit
def unitB (l : List Sym) (x : Sym) : Bool := if x.kind = 3 then l.any (isUnit x) else emptyB x.unit
def kindB (x : Sym) : Bool := decide (x.kind = 1) || decide (x.kind = 2) || decide (x.kind = 3)
/-- What is wrong with a symbol behind others. -/
def symErr (l : List Sym) (x : Sym) : Int :=
  if findB l x.name = true ∨ nameB x.name = false then 11 else if kindB x = false then 12 else if arityB x = false then 13 else if unitB l x = false then 14 else 0

/-! ### memory -/
structure SymAt (w : World) (b o : Nat) (x : Sym) : Prop where
  name : w.cell? ⟨b, o, none⟩ = some (.string x.name)
  kind : w.cell? ⟨b, o + 1, none⟩ = some (.int .i64 x.kind)
  arity : w.cell? ⟨b, o + 2, none⟩ = some (.int .i64 x.arity)
  unit : w.cell? ⟨b, o + 3, none⟩ = some (.string x.unit)

theorem SymAt.below {w w' : World} {b o : Nat} {x : Sym} (h : SymAt w b o x) (hb : Below w.heap.size w w') : SymAt w' b o x := by
  have hlt : b < w.heap.size := World.block_lt_of_cell? w _ h.name
  exact ⟨by rw [hb.cell (p := ⟨b, o, none⟩) hlt]; exact h.name, by rw [hb.cell (p := ⟨b, o + 1, none⟩) hlt]; exact h.kind,
    by rw [hb.cell (p := ⟨b, o + 2, none⟩) hlt]; exact h.arity, by rw [hb.cell (p := ⟨b, o + 3, none⟩) hlt]; exact h.unit⟩

/-- Each text is short enough to be one. -/
structure Sym.Fits (x : Sym) : Prop where
  name : x.name.size ≤ maxLen
  unit : x.unit.size ≤ maxLen

/-- The slice with this address and length holds these symbols. -/
structure SigAt (w : World) (a : Option Addr) (n : Nat) (l : List Sym) : Prop where
  len : n = l.length
  small : n ≤ maxLen
  cells : ∀ i (h : i < l.length), ∃ b off, a = some ⟨b, off, none⟩ ∧ SymAt w b (off + i * 4) l[i]
  fits : ∀ x ∈ l, x.Fits

theorem SigAt.below {w w' : World} {a : Option Addr} {n : Nat} {l : List Sym} (h : SigAt w a n l) (hb : Below w.heap.size w w') : SigAt w' a n l :=
  ⟨h.len, h.small, fun i hi => by obtain ⟨b, off, ha, hc⟩ := h.cells i hi; exact ⟨b, off, ha, hc.below hb⟩, h.fits⟩

end Go.Proofs.YtgidgmgpgfonnaaGreat
/- Boxes and rows in memory, what stays of them. -/
namespace Go.Proofs.YtgidgmgpgfonnaaGreat
open Go.RowKit Go.Shelf Go.Deep

theorem boxed_below {W W' : World} {B : Nat} {t : TypeId} {v : Value} (h : Boxed W B t v) (hb : Below W.heap.size W W') : Boxed W' B t v := (hb.block B h.lt).trans h
theorem grown_of_below {A B : World} (h : Below A.heap.size A B) : A.grownBy B none := ⟨h.os, h.tape, h.output, h.size, fun k hk _ => h.block k hk⟩
theorem owns_below {W W' : World} {base e size k : Nat} {v : Value} {xs : List Value} (h : W.ownsRow base e size v k xs) (hb : Below W.heap.size W W') : W'.ownsRow base e size v k xs :=
  h.kept (grown_of_below hb) (by cases v.ownBlock with
    | none => exact .inl rfl
    | some g => exact .inr (by simp))
theorem Tryz.info3 : (Tryz.prog.info? 3).map (fun i => (i.zero, i.size, i.bytes)) = some (some (.int .i64 0), 1, 8) := by kernel_rfl
theorem owns_block {W W' : World} {base e size k : Nat} {v : Value} {xs : List Value} (h : W.ownsRow base e size v k xs) (hb : ∀ g, v.ownBlock = some g → W'.heap[g]? = W.heap[g]?) : W'.ownsRow base e size v k xs := by
  refine ⟨h.1, ?_⟩
  rcases h.2 with h1 | ⟨g, cap, cur, rfl, h2, h3, h4⟩
  · exact .inl h1
  · exact .inr ⟨g, cap, cur, rfl, h2, (hb g rfl).trans h3, h4⟩
theorem owns_cells {W : World} {base e size k g : Nat} {v : Value} {xs : List Value} (h : W.ownsRow base e size v k xs) (hg : v.ownBlock = some g) : base ≤ g ∧ ∃ cur, W.heap[g]? = some (Obj.cells cur e (0, 0)) := by
  rcases h.2 with ⟨rfl, _⟩ | ⟨g', cap, cur, rfl, h2, h3, h4⟩
  · simp [Value.ownBlock] at hg
  · simp only [Value.ownBlock, Option.some.injEq] at hg
    subst hg
    exact ⟨h2, cur, h3⟩
def intsV (l : List Int) : List Value := l.map (Value.int .i64)
def TBox (W : World) (B : Nat) (x : ByteArray × Int) (a : Option Addr) (n c : Nat) : Prop := W.heap[B]? = some (.cells #[.string x.1, .int .i64 x.2, .slice a n c] 27 (0, 0))
theorem TBox.c0 {W : World} {B : Nat} {x : ByteArray × Int} {a : Option Addr} {n c : Nat} (h : TBox W B x a n c) : W.cell? ⟨B, 0, none⟩ = some (.string x.1) := by simp [World.cell?, show W.heap[B]? = _ from h]
theorem TBox.c1 {W : World} {B : Nat} {x : ByteArray × Int} {a : Option Addr} {n c : Nat} (h : TBox W B x a n c) : W.cell? ⟨B, 1, none⟩ = some (.int .i64 x.2) := by simp [World.cell?, show W.heap[B]? = _ from h]
theorem TBox.c2 {W : World} {B : Nat} {x : ByteArray × Int} {a : Option Addr} {n c : Nat} (h : TBox W B x a n c) : W.cell? ⟨B, 2, none⟩ = some (.slice a n c) := by simp [World.cell?, show W.heap[B]? = _ from h]
theorem TBox.new (W : World) (x : ByteArray × Int) (a : Option Addr) (n c : Nat) : TBox (W.alloc (.cells #[.string x.1, .int .i64 x.2, .slice a n c] 27)) W.heap.size x a n c := World.alloc_heap_new W _
theorem TBox.lt {W : World} {B : Nat} {x : ByteArray × Int} {a : Option Addr} {n c : Nat} (h : TBox W B x a n c) : B < W.heap.size := (Array.getElem?_eq_some_iff.1 h).1
theorem TBox.below {W W' : World} {B : Nat} {x : ByteArray × Int} {a : Option Addr} {n c : Nat} (h : TBox W B x a n c) (hb : Below W.heap.size W W') : TBox W' B x a n c := (hb.block B h.lt).trans h
theorem owns_base {W : World} {base base' e size k : Nat} {v : Value} {xs : List Value} (h : W.ownsRow base e size v k xs) (hb : base' ≤ base) : W.ownsRow base' e size v k xs := by
  refine ⟨h.1, ?_⟩
  rcases h.2 with h1 | ⟨g, cap, cur, rfl, h2, h3⟩
  · exact .inl h1
  · exact .inr ⟨g, cap, cur, rfl, by omega, h3⟩
end Go.Proofs.YtgidgmgpgfonnaaGreat
/- Terms in memory that a call has made itself: every list from the head of a block of its own, with a mark behind it or none. -/
namespace Go.Proofs.YtgidgmgpgfonnaaGreat
open Go.RowKit Go.Deep

def markB : ByteArray := ⟨#[77, 97, 114, 107]⟩
/-- The list of these terms, its blocks among those that P lets in. -/
def OwnKids (mk : Bool) (P : Nat → Prop) (w : World) : Fo → Nat → Nat → Prop
  | .nil, _, _ => True
  | .node _ _ x l r, b, o => (∃ a c, w.cell? ⟨b, o, none⟩ = some (.string x.1) ∧ w.cell? ⟨b, o + 1, none⟩ = some (.int .i64 x.2) ∧ w.cell? ⟨b, o + 2, none⟩ = some (.slice a (lenF l) c) ∧ Sizes x.1 (lenF l) c ∧
      ((l = .nil ∧ mk = false) ∨ ∃ g cur, a = some ⟨g, 0, none⟩ ∧ P g ∧ w.heap[g]? = some (Obj.cells cur 27 (0, 0)) ∧ (mk = true → lenF l + 1 ≤ c ∧ w.cell? ⟨g, lenF l * 3, none⟩ = some (.string markB)) ∧ OwnKids mk P w l g 0)) ∧ OwnKids mk P w r b (o + 3)
/-- The same of one term's arguments. -/
structure OwnTm (mk : Bool) (P : Nat → Prop) (w : World) (x : ByteArray × Int) (a : Option Addr) (c : Nat) (l : Fo) : Prop where
  sizes : Sizes x.1 (lenF l) c
  list : (l = .nil ∧ mk = false) ∨ ∃ g cur, a = some ⟨g, 0, none⟩ ∧ P g ∧ w.heap[g]? = some (Obj.cells cur 27 (0, 0)) ∧ (mk = true → lenF l + 1 ≤ c ∧ w.cell? ⟨g, lenF l * 3, none⟩ = some (.string markB)) ∧ OwnKids mk P w l g 0

theorem OwnKids.kids {mk : Bool} {P : Nat → Prop} {w : World} : ∀ {F : Fo} {b o : Nat}, OwnKids mk P w F b o → KidsAt w F b o
  | .nil, _, _, _ => trivial
  | .node _ _ _ l r, b, o, ⟨⟨a, c, h0, h1, h2, hs, hl⟩, hr⟩ => ⟨⟨a, c, h0, h1, h2, hs, by
      rcases hl with ⟨h, _⟩ | ⟨g, cur, ha, _, _, _, hk⟩
      · exact .inl h
      · exact .inr ⟨g, 0, ha, OwnKids.kids hk⟩⟩, OwnKids.kids hr⟩
theorem OwnTm.tm {mk : Bool} {P : Nat → Prop} {w : World} {x : ByteArray × Int} {a : Option Addr} {c : Nat} {l : Fo} (h : OwnTm mk P w x a c l) : TmAt w x a c l :=
  ⟨h.sizes, by
    rcases h.list with ⟨h, _⟩ | ⟨g, cur, ha, _, _, _, hk⟩
    · exact .inl h
    · exact .inr ⟨g, 0, ha, hk.kids⟩⟩
theorem OwnKids.mono {mk : Bool} {P P' : Nat → Prop} {w : World} (hp : ∀ k, k < w.heap.size → P k → P' k) : ∀ {F : Fo} {b o : Nat}, OwnKids mk P w F b o → OwnKids mk P' w F b o
  | .nil, _, _, _ => trivial
  | .node _ _ _ l r, b, o, ⟨⟨a, c, h0, h1, h2, hs, hl⟩, hr⟩ => ⟨⟨a, c, h0, h1, h2, hs, by
      rcases hl with h | ⟨g, cur, ha, hg, hc, hm, hk⟩
      · exact .inl h
      · exact .inr ⟨g, cur, ha, hp g (Array.getElem?_eq_some_iff.1 hc).1 hg, hc, hm, OwnKids.mono hp hk⟩⟩, OwnKids.mono hp hr⟩
theorem OwnTm.mono {mk : Bool} {P P' : Nat → Prop} {w : World} {x : ByteArray × Int} {a : Option Addr} {c : Nat} {l : Fo} (hp : ∀ k, k < w.heap.size → P k → P' k) (h : OwnTm mk P w x a c l) : OwnTm mk P' w x a c l :=
  ⟨h.sizes, by
    rcases h.list with h | ⟨g, cur, ha, hg, hc, hm, hk⟩
    · exact .inl h
    · exact .inr ⟨g, cur, ha, hp g (Array.getElem?_eq_some_iff.1 hc).1 hg, hc, hm, hk.mono hp⟩⟩
theorem OwnKids.keep {mk : Bool} {P : Nat → Prop} {w w' : World} (hp : ∀ k, P k → k < w.heap.size → w'.heap[k]? = w.heap[k]?) : ∀ {F : Fo} {b o : Nat}, w'.heap[b]? = w.heap[b]? → OwnKids mk P w F b o → OwnKids mk P w' F b o
  | .nil, _, _, _, _ => trivial
  | .node _ _ _ l r, b, o, hb, ⟨⟨a, c, h0, h1, h2, hs, hl⟩, hr⟩ => ⟨⟨a, c, (World.cell?_of_block hb).trans h0, (World.cell?_of_block hb).trans h1, (World.cell?_of_block hb).trans h2, hs, by
      rcases hl with h | ⟨g, cur, ha, hg, hc, hm, hk⟩
      · exact .inl h
      · have hgg := hp g hg (Array.getElem?_eq_some_iff.1 hc).1
        exact .inr ⟨g, cur, ha, hg, hgg.trans hc, fun e => ⟨(hm e).1, (World.cell?_of_block hgg).trans (hm e).2⟩, OwnKids.keep hp hgg hk⟩⟩, OwnKids.keep hp hb hr⟩
theorem OwnTm.keep {mk : Bool} {P : Nat → Prop} {w w' : World} {x : ByteArray × Int} {a : Option Addr} {c : Nat} {l : Fo} (hp : ∀ k, P k → k < w.heap.size → w'.heap[k]? = w.heap[k]?) (h : OwnTm mk P w x a c l) : OwnTm mk P w' x a c l :=
  ⟨h.sizes, by
    rcases h.list with h | ⟨g, cur, ha, hg, hc, hm, hk⟩
    · exact .inl h
    · have hgg := hp g hg (Array.getElem?_eq_some_iff.1 hc).1
      exact .inr ⟨g, cur, ha, hg, hgg.trans hc, fun e => ⟨(hm e).1, (World.cell?_of_block hgg).trans (hm e).2⟩, hk.keep hp hgg⟩⟩
theorem OwnTm.below {mk : Bool} {P : Nat → Prop} {w w' : World} {x : ByteArray × Int} {a : Option Addr} {c : Nat} {l : Fo} (h : OwnTm mk P w x a c l) (hb : Below w.heap.size w w') : OwnTm mk P w' x a c l := h.keep fun k _ hk => hb.block k hk

/-! ### lists of terms -/
/-- One term of a list, as its three cells say it. -/
structure Kv where
  x : ByteArray × Int
  l : Fo
  a : Option Addr
  c : Nat
def Kv.cells (k : Kv) : List Value := [.string k.x.1, .int .i64 k.x.2, .slice k.a (lenF k.l) k.c]
def kvCells (ks : List Kv) : List Value := ks.flatMap Kv.cells
def kidsL : Fo → List ((ByteArray × Int) × Fo)
  | .nil => []
  | .node _ _ x l r => (x, l) :: kidsL r
theorem kids_len : ∀ F : Fo, (kidsL F).length = lenF F
  | .nil => rfl
  | .node _ _ _ _ r => by simp [kidsL, lenF, kids_len r]
theorem kids_drop : ∀ (i : Nat) (F : Fo), kidsL (dropF i F) = (kidsL F).drop i
  | 0, F => by rw [drop_zero]; rfl
  | i + 1, .nil => by simp [dropF, kidsL]
  | i + 1, .node _ _ _ _ r => by simp only [dropF, kidsL, List.drop_succ_cons]; exact kids_drop i r
theorem kids_take {F : Fo} {k : Nat} {x : ByteArray × Int} {l : Fo} {B O : Nat} {r : Fo} (h : dropF k F = .node B O x l r) : (kidsL F).take (k + 1) = (kidsL F).take k ++ [(x, l)] := by
  have h1 := kids_drop k F
  rw [h, kidsL] at h1
  have h2 : (kidsL F)[k]? = some (x, l) := by
    have := congrArg (·[0]?) h1
    simpa using this.symm
  rw [List.take_add_one, h2]; rfl
theorem kvCells_len (ks : List Kv) : (kvCells ks).length = ks.length * 3 := by
  induction ks with
  | nil => rfl
  | cons k r ih => simp only [kvCells, List.flatMap_cons, List.length_append, List.length_cons] at ih ⊢; rw [ih]; simp [Kv.cells]; omega
theorem kvCells_snoc (ks : List Kv) (k : Kv) : kvCells (ks ++ [k]) = kvCells ks ++ k.cells := by simp [kvCells]
theorem kv_one (k : Kv) : ∀ u ∈ k.cells, u.oneCell' = true := by
  intro u hu
  simp [Kv.cells] at hu
  rcases hu with rfl | rfl | rfl <;> rfl

/-- A row of cells, and each term's own arguments: the list. -/
theorem ownKids_of {mk : Bool} {P : Nat → Prop} {w : World} {b : Nat} : ∀ (F : Fo) (ks : List Kv) (o : Nat), ks.map (fun k => (k.x, k.l)) = kidsL F → (∀ j u, (kvCells ks)[j]? = some u → w.cell? ⟨b, o + j, none⟩ = some u) → (∀ k ∈ ks, OwnTm mk P w k.x k.a k.c k.l) → OwnKids mk P w F b o
  | .nil, _, _, _, _, _ => trivial
  | .node _ _ x l r, [], o, h, _, _ => by simp [kidsL] at h
  | .node _ _ x l r, k :: ks, o, h, hc, ho => by
    simp only [List.map_cons, kidsL, List.cons.injEq, Prod.mk.injEq] at h
    obtain ⟨⟨rfl, rfl⟩, h⟩ := h
    have e : kvCells (k :: ks) = .string k.x.1 :: .int .i64 k.x.2 :: .slice k.a (lenF k.l) k.c :: kvCells ks := rfl
    rw [e] at hc
    have hk := ho k (by simp)
    refine ⟨⟨k.a, k.c, hc 0 _ rfl, hc 1 _ rfl, hc 2 _ rfl, hk.sizes, hk.list⟩, ownKids_of r ks (o + 3) h (fun j u hu => ?_) (fun k' hk' => ho k' (by simp [hk']))⟩
    have := hc (j + 3) u (by simpa using hu)
    rw [show o + 3 + j = o + (j + 3) by omega]
    exact this
theorem Tryz.info27 : (Tryz.prog.info? 27).map (fun i => (i.zero, i.size, i.bytes)) = some (some (.agg #[.string ⟨#[]⟩, .int .i64 0, .slice none 0 0]), 3, 48) := by kernel_rfl
/-- What a row that is owned holds, cell by cell. -/
theorem owns_at {w : World} {base e size g n cap : Nat} {xs : List Value} (h : w.ownsRow base e size (.slice (some ⟨g, 0, none⟩) n cap) n xs) : ∀ j u, xs[j]? = some u → w.cell? ⟨g, 0 + j, none⟩ = some u := by
  intro j u hu
  rcases h.2 with ⟨hv, _⟩ | ⟨g', cap', cur, hv, _, hh, _, _, _, hcur⟩
  · cases hv
  · cases hv
    have hj : j < xs.length := by
      rcases Nat.lt_or_ge j xs.length with h' | h'
      · exact h'
      · rw [List.getElem?_eq_none h'] at hu; cases hu
    rw [Nat.zero_add, cell_of_row w g j cur e (0, 0) hh, ← hu, ← hcur, List.getElem?_take_of_lt (by have := h.1; omega)]
    simp
end Go.Proofs.YtgidgmgpgfonnaaGreat
/- What Lent makes: the term in new memory, a mark behind each list. -/
namespace Go.Proofs.YtgidgmgpgfonnaaGreat
open Go.RowKit Go.Deep

/-- A term in a box, whose list is v. -/
def XBox (W : World) (B : Nat) (x : ByteArray × Int) (v : Value) : Prop := W.heap[B]? = some (.cells #[.string x.1, .int .i64 x.2, v] 27 (0, 0))
theorem XBox.c0 {W : World} {B : Nat} {x : ByteArray × Int} {v : Value} (h : XBox W B x v) : W.cell? ⟨B, 0, none⟩ = some (.string x.1) := by simp [World.cell?, show W.heap[B]? = _ from h]
theorem XBox.c1 {W : World} {B : Nat} {x : ByteArray × Int} {v : Value} (h : XBox W B x v) : W.cell? ⟨B, 1, none⟩ = some (.int .i64 x.2) := by simp [World.cell?, show W.heap[B]? = _ from h]
theorem XBox.c2 {W : World} {B : Nat} {x : ByteArray × Int} {v : Value} (h : XBox W B x v) : W.cell? ⟨B, 2, none⟩ = some v := by simp [World.cell?, show W.heap[B]? = _ from h]
theorem XBox.f {W : World} {B k : Nat} {x : ByteArray × Int} {v : Value} (h : XBox W B x v) : W.frozen? ⟨B, k, none⟩ = false := by simp [World.frozen?, show W.heap[B]? = _ from h]
theorem XBox.lt {W : World} {B : Nat} {x : ByteArray × Int} {v : Value} (h : XBox W B x v) : B < W.heap.size := (Array.getElem?_eq_some_iff.1 h).1
theorem XBox.below {W W' : World} {B : Nat} {x : ByteArray × Int} {v : Value} (h : XBox W B x v) (hb : Below W.heap.size W W') : XBox W' B x v := (hb.block B h.lt).trans h
theorem XBox.kept {W W' : World} {row : Option Nat} {B : Nat} {x : ByteArray × Int} {v : Value} (h : XBox W B x v) (hg : W.grownBy W' row) (hne : some B ≠ row) : XBox W' B x v := (hg.block B h.lt hne).trans h
theorem XBox.set {W : World} {B : Nat} {x : ByteArray × Int} {v : Value} (h : XBox W B x v) (u : Value) : XBox (W.setCell ⟨B, 2, none⟩ u) B x u := by
  obtain ⟨hlt, hk⟩ := Array.getElem?_eq_some_iff.1 h
  show (W.heap.modify B _)[B]? = _
  rw [Array.getElem?_eq_getElem (by rw [Array.size_modify]; exact hlt), Array.getElem_modify_self, hk]
  rfl
theorem XBox.other {W : World} {B : Nat} {x : ByteArray × Int} {v : Value} (h : XBox W B x v) {p : Addr} (hne : B ≠ p.block) (u : Value) : XBox (W.setCell p u) B x v := (Below.heap_setCell W p u B hne).trans h

/-- The boxes of a function that builds a term: of what came in, of the answer, of what is built. -/
structure Three (w : World) (x : ByteArray × Int) (a : Option Addr) (n c : Nat) (W : World) (v : Value) : Prop where
  low : Below w.heap.size w W
  t : TBox W w.heap.size x a n c
  r : W.heap[w.heap.size + 1]? = some (.cells #[.string ⟨#[]⟩, .int .i64 0, .slice none 0 0] 27 (0, 0))
  x : XBox W (w.heap.size + 1 + 1) x v
/-- What has been built of the list: these terms, in a row of the call's own, their own lists elsewhere. -/
structure Built (mk : Bool) (w : World) (W : World) (v : Value) (j : Nat) (ks : List Kv) : Prop where
  row : W.ownsRow (w.heap.size + 3) 27 3 v j (kvCells ks)
  own : ∀ k ∈ ks, OwnTm mk (fun q => w.heap.size + 3 ≤ q ∧ some q ≠ v.ownBlock) W k.x k.a k.c k.l

theorem Three.new (w : World) (x : ByteArray × Int) (a : Option Addr) (n c : Nat) : Three w x a n c (((w.alloc (.cells #[.string x.1, .int .i64 x.2, .slice a n c] 27)).alloc (.cells #[.string ⟨#[]⟩, .int .i64 0, .slice none 0 0] 27)).alloc (.cells #[.string x.1, .int .i64 x.2, .slice none 0 0] 27)) (.slice none 0 0) := by
  refine ⟨(((Below.refl _ w).alloc (Nat.le_refl _) _).alloc (by simp) _).alloc (by simp; omega) _, ?_, ?_, ?_⟩
  · exact ((TBox.new w x a n c).below ((Below.refl _ _).alloc (Nat.le_refl _) _)).below ((Below.refl _ _).alloc (Nat.le_refl _) _)
  · rw [Below.heap_alloc _ _ _ (by simp)]
    have := World.alloc_heap_new (w.alloc (.cells #[.string x.1, .int .i64 x.2, .slice a n c] 27)) (.cells #[.string ⟨#[]⟩, .int .i64 0, .slice none 0 0] 27)
    rwa [World.size_alloc] at this
  · have := World.alloc_heap_new ((w.alloc (.cells #[.string x.1, .int .i64 x.2, .slice a n c] 27)).alloc (.cells #[.string ⟨#[]⟩, .int .i64 0, .slice none 0 0] 27)) (.cells #[.string x.1, .int .i64 x.2, .slice none 0 0] 27)
    rw [World.size_alloc, World.size_alloc] at this
    exact this
/-- One term more: the callee has made it; it is appended; the list is stored. -/
theorem build_step {mk : Bool} {w wr w1 w3 : World} {x : ByteArray × Int} {a : Option Addr} {n c j g cap : Nat} {v : Value} {ks : List Kv} {kv : Kv} {o : Obj} (hT : Three w x a n c wr v) (hB : Built mk w wr v j ks) (hW : Below wr.heap.size wr w1)
    (hk : OwnTm mk (fun k => wr.heap.size ≤ k) w1 kv.x kv.a kv.c kv.l) (hg : (w1.alloc o).grownBy w3 v.ownBlock) (hat : v.ownBlock = some g ∨ g = w1.heap.size + 1)
    (ho : w3.ownsRow (w.heap.size + 3) 27 3 (.slice (some ⟨g, 0, none⟩) (j + 1) cap) (j + 1) (kvCells ks ++ kv.cells)) :
    Three w x a n c (w3.setCell ⟨w.heap.size + 1 + 1, 2, none⟩ (.slice (some ⟨g, 0, none⟩) (j + 1) cap)) (.slice (some ⟨g, 0, none⟩) (j + 1) cap) ∧
    Built mk w (w3.setCell ⟨w.heap.size + 1 + 1, 2, none⟩ (.slice (some ⟨g, 0, none⟩) (j + 1) cap)) (.slice (some ⟨g, 0, none⟩) (j + 1) cap) (j + 1) (ks ++ [kv]) := by
  have hxlt := hT.x.lt
  have hsz := hW.size
  have hWa : Below wr.heap.size wr (w1.alloc o) := hW.alloc hsz _
  have far : ∀ k, k < w.heap.size + 3 → k < wr.heap.size → w3.heap[k]? = wr.heap[k]? := fun k hk hlt => by
    rw [hg.block k (by rw [World.size_alloc]; omega) (fun e => by have := (owns_cells hB.row e.symm).1; omega)]
    exact hWa.block k hlt
  have hlow : Below w.heap.size w w3 := hT.low.trans ((hWa.mono (by have := hT.low.size; omega)).grown hg (by simp; omega) (fun k e => by have := (owns_cells hB.row e).1; omega))
  have hrow : (w3.setCell ⟨w.heap.size + 1 + 1, 2, none⟩ (.slice (some ⟨g, 0, none⟩) (j + 1) cap)).ownsRow (w.heap.size + 3) 27 3 (.slice (some ⟨g, 0, none⟩) (j + 1) cap) (j + 1) (kvCells ks ++ kv.cells) := owns_block ho (fun q hq => by
    have := (owns_cells ho hq).1
    exact Below.heap_setCell w3 _ _ q (by show q ≠ w.heap.size + 1 + 1; omega))
  refine ⟨⟨hlow.setCell (p := ⟨w.heap.size + 1 + 1, 2, none⟩) (by show w.heap.size ≤ w.heap.size + 1 + 1; omega) _, ?_, ?_, ?_⟩, ⟨by rw [kvCells_snoc]; exact hrow, ?_⟩⟩
  · exact ((Below.heap_setCell w3 _ _ _ (by show w.heap.size ≠ w.heap.size + 1 + 1; omega)).trans (far _ (by omega) (by omega))).trans hT.t
  · exact ((Below.heap_setCell w3 _ _ _ (by show w.heap.size + 1 ≠ w.heap.size + 1 + 1; omega)).trans (far _ (by omega) (by omega))).trans hT.r
  · exact XBox.set ((far _ (by omega) (by omega)).trans hT.x) _
  · intro k hkm
    have set : ∀ (q : Nat), (w.heap.size + 3 ≤ q ∧ some q ≠ some g) → q < w3.heap.size → (w3.setCell ⟨w.heap.size + 1 + 1, 2, none⟩ (.slice (some ⟨g, 0, none⟩) (j + 1) cap)).heap[q]? = w3.heap[q]? := fun q hq _ => Below.heap_setCell w3 _ _ q (by show q ≠ w.heap.size + 1 + 1; omega)
    have grow : ∀ (q : Nat), some q ≠ v.ownBlock → q < (w1.alloc o).heap.size → w3.heap[q]? = (w1.alloc o).heap[q]? := fun q hq hlt => hg.block q hlt hq
    rcases List.mem_append.1 hkm with hkm | hkm
    · have h1 := (hB.own k hkm).below hWa
      have h2 : OwnTm mk (fun q => (w.heap.size + 3 ≤ q ∧ some q ≠ some g) ∧ some q ≠ v.ownBlock) (w1.alloc o) k.x k.a k.c k.l := by
        have h0 : OwnTm mk (fun q => (w.heap.size + 3 ≤ q ∧ some q ≠ some g) ∧ some q ≠ v.ownBlock) wr k.x k.a k.c k.l := (hB.own k hkm).mono (fun q hq hp => ⟨⟨hp.1, by
          rcases hat with e | e
          · rw [← e]; exact hp.2
          · intro e'; cases e'; omega⟩, hp.2⟩)
        exact h0.below hWa
      exact ((h2.keep (fun q hq hlt => grow q hq.2 hlt)).mono (fun q _ hq => hq.1)).keep set
    · simp only [List.mem_singleton] at hkm
      subst hkm
      have h2 : OwnTm mk (fun q => (w.heap.size + 3 ≤ q ∧ some q ≠ some g) ∧ some q ≠ v.ownBlock) w1 k.x k.a k.c k.l := hk.mono (fun q hq hp => ⟨⟨by omega, by
        rcases hat with e | e
        · intro e'
          cases e'
          have := (owns_cells hB.row e).2
          obtain ⟨cur, hc⟩ := this
          have := (Array.getElem?_eq_some_iff.1 hc).1
          omega
        · intro e'; cases e'; omega⟩, fun e' => by
          obtain ⟨cur, hc⟩ := (owns_cells hB.row e'.symm).2
          have := (Array.getElem?_eq_some_iff.1 hc).1
          omega⟩)
      exact (((h2.below ((Below.refl _ _).alloc (Nat.le_refl _) o)).keep (fun q hq hlt => grow q hq.2 hlt)).mono (fun q _ hq => hq.1)).keep set

theorem owns_cap {w : World} {base e size g n cap : Nat} {xs : List Value} (h : w.ownsRow base e size (.slice (some ⟨g, 0, none⟩) n cap) n xs) : n ≤ cap ∧ cap ≤ maxLen := by
  rcases h.2 with ⟨hv, _⟩ | ⟨g', cap', cur', hv, _, _, hnc, hcm, _⟩
  · cases hv
  · cases hv; exact ⟨hnc, hcm⟩
theorem block_set {W : World} {B k : Nat} {cs : Array Value} {t : TypeId} {fr : Nat × Nat} (h : W.heap[B]? = some (Obj.cells cs t fr)) (u : Value) : (W.setCell ⟨B, k, none⟩ u).heap[B]? = some (Obj.cells (cs.setIfInBounds k u) t fr) := by
  obtain ⟨hlt, hk⟩ := Array.getElem?_eq_some_iff.1 h
  show (W.heap.modify B _)[B]? = _
  rw [Array.getElem?_eq_getElem (by rw [Array.size_modify]; exact hlt), Array.getElem_modify_self, hk]
  rfl
/-- A term stored over another. -/
theorem XBox.all {W : World} {B : Nat} {x y : ByteArray × Int} {v : Value} (h : XBox W B y v) (u : Value) : XBox (((W.setCell ⟨B, 0, none⟩ (.string x.1)).setCell ⟨B, 1, none⟩ (.int .i64 x.2)).setCell ⟨B, 2, none⟩ u) B x u := by
  have := block_set (k := 2) (block_set (k := 1) (block_set (k := 0) h (.string x.1)) (.int .i64 x.2)) u
  exact this
theorem Tryz.size27 : (Tryz.prog.info? 27).map (·.size) = some 3 := by kernel_rfl
/-- The three stores of the answer turn one block. -/
theorem sets_far {W : World} {B q : Nat} (h : q ≠ B) (a b c : Value) : (((W.setCell ⟨B, 0, none⟩ a).setCell ⟨B, 1, none⟩ b).setCell ⟨B, 2, none⟩ c).heap[q]? = W.heap[q]? :=
  ((Below.heap_setCell _ _ _ _ h).trans (Below.heap_setCell _ _ _ _ h)).trans (Below.heap_setCell _ _ _ _ h)
theorem sets_below {n0 : Nat} {w W : World} {B : Nat} (hb : Below n0 w W) (h : n0 ≤ B) (a b c : Value) : Below n0 w (((W.setCell ⟨B, 0, none⟩ a).setCell ⟨B, 1, none⟩ b).setCell ⟨B, 2, none⟩ c) :=
  ((hb.setCell (p := ⟨B, 0, none⟩) h _).setCell (p := ⟨B, 1, none⟩) h _).setCell (p := ⟨B, 2, none⟩) h _
def markK : Kv := ⟨(markB, 0), .nil, none, 0⟩
/-- The list with the mark behind it. -/
theorem lent_done {w wr wd w3 W : World} {x : ByteArray × Int} {l : Fo} {g cap : Nat} {v : Value} {ks : List Kv} (hs : Sizes x.1 (lenF l) cap) (hB : Built true w wr v (lenF l) ks) (hks : ks.map (fun k => (k.x, k.l)) = kidsL l)
    (hd : ∀ q, q < wr.heap.size → wd.heap[q]? = wr.heap[q]?) (hdz : wr.heap.size < wd.heap.size) (hg : wd.grownBy w3 v.ownBlock)
    (ho : w3.ownsRow (w.heap.size + 3) 27 3 (.slice (some ⟨g, 0, none⟩) (lenF l + 1) cap) (lenF l + 1) (kvCells ks ++ markK.cells)) (hW : ∀ q, w.heap.size + 3 ≤ q → W.heap[q]? = w3.heap[q]?) : OwnTm true (fun k => w.heap.size ≤ k) W x (some ⟨g, 0, none⟩) cap l := by
  have hlen : ks.length = lenF l := by have := congrArg List.length hks; rwa [List.length_map, kids_len] at this
  obtain ⟨hge, cur, hcur⟩ := owns_cells ho (g := g) rfl
  have hcap : lenF l + 1 ≤ cap := by
    rcases ho.2 with ⟨hv, _⟩ | ⟨g', cap', cur', hv, _, _, hnc, _⟩
    · cases hv
    · cases hv; exact hnc
  have hWg : W.heap[g]? = w3.heap[g]? := hW g hge
  have hat3 := owns_at ho
  have kids : OwnKids true (fun k => w.heap.size ≤ k) W l g 0 := by
    refine ownKids_of l ks 0 hks (fun j u hu => ?_) (fun k hk => ?_)
    · rw [show W.cell? ⟨g, 0 + j, none⟩ = w3.cell? ⟨g, 0 + j, none⟩ from World.cell?_of_block hWg]
      exact hat3 j u (by rw [List.getElem?_append_left (by
        rcases Nat.lt_or_ge j (kvCells ks).length with h' | h'
        · exact h'
        · rw [List.getElem?_eq_none h'] at hu; cases hu)]; exact hu)
    · have h1 := hB.own k hk
      refine (h1.keep (w' := W) (fun q hq hlt => ?_)).mono (fun q _ hq => by omega)
      rw [hW q hq.1, hg.block q (by omega) hq.2]
      exact hd q hlt
  refine ⟨hs, .inr ⟨g, cur, rfl, by omega, hWg.trans hcur, fun _ => ⟨hcap, ?_⟩, kids⟩⟩
  rw [show W.cell? ⟨g, lenF l * 3, none⟩ = w3.cell? ⟨g, lenF l * 3, none⟩ from World.cell?_of_block hWg]
  have := hat3 (lenF l * 3) (.string markB) (by rw [List.getElem?_append_right (by rw [kvCells_len]; omega), kvCells_len, hlen]; simp [Kv.cells, markK])
  rwa [Nat.zero_add] at this

def LentOk (k : Nat) : Prop := ∀ (x : ByteArray × Int) (l : Fo) (a : Option Addr) (c : Nat) (w : World), nodesF l ≤ k → TmAt w x a c l →
  Calls Tryz.prog 18 #[.agg #[.string x.1, .int .i64 x.2, .slice a (lenF l) c]] w fun e w' => ∃ a' c', e = .returned (.agg #[.string x.1, .int .i64 x.2, .slice a' (lenF l) c']) ∧ OwnTm true (fun k => w.heap.size ≤ k) w' x a' c' l ∧ Below w.heap.size w w'

set_option maxRecDepth 100000 in
set_option maxHeartbeats 4000000 in
theorem lent_all : ∀ k, LentOk k := by
  intro k
  induction k using Nat.strongRecOn with
  | _ k ih =>
    intro x l a c w hk hT
    obtain ⟨i0, hi, hz0, hz1, hz2⟩ := info_parts Tryz.info27
    have HT : Hid (TmAt w x a c l) := hT
    have IH : Hid (∀ j, j < k → LentOk j) := ih
    have hn : lenF l ≤ 9223372036854775807 := by have := hT.sizes.len; have := hT.sizes.cap; unfold maxLen at *; omega
    have hfew := hT.sizes.few
    clear hT ih
    go_enter Tryz.func18, Tryz.ntmps18
    go_wp2
    go_loopw [4] (fun i wr => ∃ (j : Nat) (v : Value) (ks : List Kv), j ≤ lenF l ∧ i = .int .i64 j ∧ Three w x a (lenF l) c wr v ∧ Built true w wr v j ks ∧ ks.map (fun k => (k.x, k.l)) = (kidsL l).take j) (fun i _ => lenF l - (intOf i).toNat)
    case atStart => exact ⟨0, _, [], Nat.zero_le _, rfl, Three.new w x a (lenF l) c, ⟨World.ownsRow_nil _ _ _ _, by simp⟩, by simp⟩
    case round =>
      obtain ⟨j, v, ks, hj, rfl, hTh, hBu, hks⟩ := hrel
      have hb := hTh.low
      have bT := hTh.t
      have bX := hTh.x
      have hrow := hBu.row
      have t2 := bT.c2
      by_cases hlt : j < lenF l
      · obtain ⟨bb, oo, rfl, hkk⟩ := HT.out.args.get (by omega)
        obtain ⟨y, a1, c1, l1, kd⟩ := hkk.kid (k := j) hlt
        have kd' := kd.below hb
        have X0 : Hid (XBox wr (w.heap.size + 1 + 1) x v) := bX
        have cX := X0.out.c2
        have hbb : bb < w.heap.size := World.block_lt_of_cell? w _ kd.name
        have p0 := kd'.name; have p1 := kd'.sym; have p2 := kd'.list
        have hIH := IH.out (nodesF l1) (by have := kd.less; omega) y l1 a1 c1 wr.drew (Nat.le_refl _) (kd'.at_.kept (fun _ _ h => h))
        have HIH : Hid (Calls Tryz.prog 18 #[.agg #[.string y.1, .int .i64 y.2, .slice a1 (lenF l1) c1]] wr.drew fun e w' => ∃ a' c', e = .returned (.agg #[.string y.1, .int .i64 y.2, .slice a' (lenF l1) c']) ∧ OwnTm true (fun k => wr.heap.size ≤ k) w' y a' c' l1 ∧ Below wr.heap.size wr.drew w') := hIH
        have HR : Hid (wr.ownsRow (w.heap.size + 3) 27 3 v j (kvCells ks)) := hrow
        have HB : Hid (Below w.heap.size w wr) := hb
        have TH : Hid (Three w x (some ⟨bb, oo, none⟩) (lenF l) c wr v) := hTh
        have BU : Hid (Built true w wr v j ks) := hBu
        have HK : Hid (ks.map (fun k => (k.x, k.l)) = (kidsL l).take j) := hks
        have KD : Hid (Kid w l bb oo j y a1 c1 l1) := kd
        have hmax : maxLen = 9223372036854775807 := rfl
        have hXlt : w.heap.size + 1 + 1 < wr.heap.size := X0.out.lt
        clear hIH kd' hkk kd hrow hb hTh hBu hks bT bX
        go_wp2_with fail
        go_region_law
          ((first
            | (refine step_append_lies _ (by rfl) (.tmp 18) (.tmp 25) 25 (by rfl) (w.heap.size + 3) 27 i0 _ 3 48 Tryz.underlying25 hi hz0 hz1 hz2 rfl (by decide) v j (kvCells ks) (by rfl) (owns_below (owns_below HR.out HW1.out) ((Below.refl _ _).alloc (Nat.le_refl _) _)) ⟨w1.heap.size, 0, none⟩ 1 1 (Kv.cells ⟨y, l1, a', c'⟩) (by rfl) rfl (World.news_of_block (heap_alloc_new w1 _)) (kv_one _) (by decide) (by omega) (by omega) (by have := HW1.out.size; simp; omega) _ rfl ?_; intro g3 cap3 w3 hown3 hgrow3 hat3 hlt3; have X3 : Hid (XBox w3 (w.heap.size + 1 + 1) x v) := X2.out.kept hgrow3 (fun e => by have := (owns_cells HR.out e.symm).1; omega); have cX3 := X3.out.c2; have fX3 := X3.out.f (k := 2); have HO3 : Hid (w3.ownsRow (w.heap.size + 3) 27 3 (.slice (some ⟨g3, 0, none⟩) (j + 1) cap3) (j + 1) (kvCells ks ++ Kv.cells ⟨y, l1, a', c'⟩)) := hown3; have HG3 : Hid ((w1.alloc (.cells #[.string y.1, .int .i64 y.2, .slice a' (lenF l1) c'] 27)).grownBy w3 v.ownBlock ∧ (v.ownBlock = some g3 ∨ g3 = w1.heap.size + 1)) := ⟨hgrow3, by simpa using hat3⟩; clear hown3 hgrow3 hat3)
            | (go_simp; go_wp2_with (go_at_call 18; refine HIH.out.mono ?_; rintro e w1 ⟨a', c', rfl, ho1, hb1⟩; have HO1 : Hid (OwnTm true (fun k => wr.heap.size ≤ k) w1 y a' c' l1) := ho1; have HW1 : Hid (Below wr.heap.size wr w1) := ((Below.refl _ wr).drew).trans hb1; have X1 : Hid (XBox w1 (w.heap.size + 1 + 1) x v) := X0.out.below HW1.out; have cX1 := X1.out.c2; have X2 : Hid (XBox (w1.alloc (.cells #[.string y.1, .int .i64 y.2, .slice a' (lenF l1) c'] 27)) (w.heap.size + 1 + 1) x v) := X1.out.below ((Below.refl _ _).alloc (Nat.le_refl _) _); have cX2 := X2.out.c2; clear ho1 hb1))
            | fail))
        all_goals
          go_wp2
          go_roundw
          case rel =>
            obtain ⟨h1, h2⟩ := build_step (kv := ⟨y, l1, a', c'⟩) TH.out BU.out HW1.out HO1.out HG3.out.1 HG3.out.2 HO3.out
            obtain ⟨B1, O1, sp⟩ := KD.out.split
            exact ⟨j + 1, _, _, by omega, by go_num, h1, h2, by rw [kids_take sp, ← HK.out]; simp⟩
          case measure => simp [intOf]; omega
      · have hjl : j = lenF l := by omega
        subst hjl
        have TH : Hid (Three w x a (lenF l) c wr v) := hTh
        have BU : Hid (Built true w wr v (lenF l) ks) := hBu
        have HK : Hid (ks.map (fun k => (k.x, k.l)) = kidsL l) := by show _ = _; rw [hks, ← kids_len, List.take_length]
        have X0 : Hid (XBox wr (w.heap.size + 1 + 1) x v) := bX
        have HR : Hid (wr.ownsRow (w.heap.size + 3) 27 3 v (lenF l) (kvCells ks)) := hrow
        have cX := X0.out.c2
        have hXlt : w.heap.size + 1 + 1 < wr.heap.size := X0.out.lt
        have hmax : maxLen = 9223372036854775807 := rfl
        have ta : (wr.alloc (.cells #[.string ⟨#[77, 97, 114, 107]⟩, .int .i64 0, .slice none 0 0] 27)).cell? ⟨w.heap.size, 2, none⟩ = some (.slice a (lenF l) c) := TBox.c2 ((Below.heap_alloc wr _ _ (by omega)).trans TH.out.t)
        have cXa : (wr.alloc (.cells #[.string ⟨#[77, 97, 114, 107]⟩, .int .i64 0, .slice none 0 0] 27)).cell? ⟨w.heap.size + 1 + 1, 2, none⟩ = some v := XBox.c2 ((Below.heap_alloc wr _ _ (by omega)).trans X0.out)
        clear hTh hBu hks hb bT bX hrow
        go_wp2_with fail
        go_region_law
          ((first
            | (refine step_append_lies _ (by rfl) (.tmp 29) (.tmp 31) 25 (by rfl) (w.heap.size + 3) 27 i0 _ 3 48 Tryz.underlying25 hi hz0 hz1 hz2 rfl (by decide) v (lenF l) (kvCells ks) (by rfl) (HR.out.alloc _) ⟨wr.heap.size, 0, none⟩ 1 1 markK.cells (by rfl) rfl (World.news_of_block (heap_alloc_new wr _)) (kv_one _) (by decide) (by omega) (by omega) (by simp; omega) _ rfl ?_; intro g3 cap3 w3 hown3 hgrow3 hat3 hlt3; obtain ⟨hcap3, hcm3⟩ := owns_cap hown3; have far : Hid (∀ q, q < w.heap.size + 3 → q < wr.heap.size → w3.heap[q]? = wr.heap[q]?) := fun q hq hlt => (hgrow3.block q (by show q < (wr.alloc _).heap.size; simp; omega) (fun e => by have := (owns_cells HR.out e.symm).1; omega)).trans (Below.heap_alloc wr _ q hlt); have X3 : Hid (XBox w3 (w.heap.size + 1 + 1) x v) := (far.out _ (by omega) (by omega)).trans X0.out; have cX3 := X3.out.c2; have fX3 := X3.out.f (k := 2); have t3 : w3.cell? ⟨w.heap.size, 2, none⟩ = some (.slice a (lenF l) c) := TBox.c2 ((far.out _ (by omega) (by omega)).trans TH.out.t); have HO3 : Hid (w3.ownsRow (w.heap.size + 3) 27 3 (.slice (some ⟨g3, 0, none⟩) (lenF l + 1) cap3) (lenF l + 1) (kvCells ks ++ markK.cells)) := hown3; have HG3 : Hid (World.grownBy (World.drew (World.alloc wr (.cells #[.string ⟨#[77, 97, 114, 107]⟩, .int .i64 0, .slice none 0 0] 27))) w3 v.ownBlock) := hgrow3; have hc3 : lenF l ≤ cap3 := (by omega); have X4 := X3.out.set (.slice (some ⟨g3, 0, none⟩) (lenF l) cap3); have x0 := X4.c0; have x1 := X4.c1; have x2 := X4.c2; clear hown3 hgrow3 hat3 X4)
            | fail))
        all_goals
          have R4 : XBox (w3.setCell ⟨w.heap.size + 1 + 1, 2, none⟩ (.slice (some ⟨g3, 0, none⟩) (lenF l) cap3)) (w.heap.size + 1) (⟨#[]⟩, 0) (.slice none 0 0) := XBox.other ((far.out _ (by omega) (by omega)).trans TH.out.r) (by show w.heap.size + 1 ≠ w.heap.size + 1 + 1; omega) _
          have r0 := R4.c0
          have r1 := R4.c1
          have r2 := R4.c2
          have f0 := R4.f (k := 0)
          have f1 := R4.f (k := 1)
          have f2 := R4.f (k := 2)
          have HR4 : Hid (XBox (w3.setCell ⟨w.heap.size + 1 + 1, 2, none⟩ (.slice (some ⟨g3, 0, none⟩) (lenF l) cap3)) (w.heap.size + 1) (⟨#[]⟩, 0) (.slice none 0 0)) := R4
          clear R4
          go_wp2
          refine bodyPost_ret (results_cell_row rfl _ _ (w.heap.size + 1) 27 #[.string x.1, .int .i64 x.2, .slice (some ⟨g3, 0, none⟩) (lenF l) cap3] (0, 0) _ rfl (HR4.out.all (x := x) _) Tryz.underlying27 rfl Tryz.size27) rfl ?_
          refine ⟨_, cap3, rfl, lent_done (wd := World.drew (World.alloc wr (.cells #[.string ⟨#[77, 97, 114, 107]⟩, .int .i64 0, .slice none 0 0] 27))) ⟨HT.out.sizes.name, hc3, hcm3, HT.out.sizes.few⟩ BU.out HK.out (fun q hq => Below.heap_alloc wr _ q hq) (by show _ < (wr.alloc _).heap.size; simp) HG3.out HO3.out (fun q hq => (sets_far (by omega) _ _ _).trans (Below.heap_setCell w3 _ _ q (by show q ≠ w.heap.size + 1 + 1; omega))), ?_⟩
          exact sets_below (((TH.out.low.alloc TH.out.low.size _).drew.grown HG3.out (by show _ ≤ (wr.alloc _).heap.size; simp; omega) (fun q e => by have := (owns_cells HR.out e).1; omega)).setCell (p := ⟨w.heap.size + 1 + 1, 2, none⟩) (by show w.heap.size ≤ w.heap.size + 1 + 1; omega) _) (by omega) _ _ _

theorem lent_any (x : ByteArray × Int) (l : Fo) (a : Option Addr) (c : Nat) (w : World) (hT : TmAt w x a c l) :
    Calls Tryz.prog 18 #[.agg #[.string x.1, .int .i64 x.2, .slice a (lenF l) c]] w fun e w' => ∃ a' c', e = .returned (.agg #[.string x.1, .int .i64 x.2, .slice a' (lenF l) c']) ∧ OwnTm true (fun k => w.heap.size ≤ k) w' x a' c' l ∧ Below w.heap.size w w' :=
  lent_all _ x l a c w (Nat.le_refl _) hT
end Go.Proofs.YtgidgmgpgfonnaaGreat
/- A statement whose order is open, whose calls may make memory but turn nothing that was there: one walk in the text's order serves. -/
namespace Go.Proofs.YtgidgmgpgfonnaaGreat
open Go.RowKit

/-- A world in which all that was there is as it was. -/
structure Later (w : World) where
  now : World
  below : Below w.heap.size w now

theorem later_some (w : World) : Nonempty (Later w) := ⟨⟨w, Below.refl _ _⟩⟩

theorem wp_region_later {P : Program} {id : Nat} {Q : Exit → Act → World → Prop} {a : Act} {w : World} {l : List Oper} (hm : P.follows .mixedOrders = true) (hB : Region.lexB .any l.toArray = true)
    (h : wpQuiet P l.toArray (fun w' => ∃ b : Later w, w' = b.now) (fun a' => ∀ w', (∃ b : Later w, w' = b.now) → Q .normal a' w') l a) : (Code.region id l.toArray true).wp P Q a w :=
  wp_region_quiet (C := fun w' => ∃ b : Later w, w' = b.now) hm hB ⟨⟨w.drew, (Below.refl _ _).drew⟩, rfl⟩ (by simpa using h)

/-- A callee's contract, met in a later world. -/
theorem calls_later {P : Program} {f : FuncId} {args : Array Value} {w : World} {b : Later w} {v : Value}
    (h : Calls P f args b.now fun e w' => e = .returned v ∧ Below b.now.heap.size b.now w') : Calls P f args b.now fun e w'' => e = .returned v ∧ ∃ b' : Later w, w'' = b'.now :=
  h.mono fun _ w' ⟨he, hb⟩ => ⟨he, ⟨w', b.below.trans (hb.mono b.below.size)⟩, rfl⟩
theorem calls_later_same {P : Program} {f : FuncId} {args : Array Value} {w : World} {b : Later w} {v : Value}
    (h : Calls P f args b.now fun e w' => e = .returned v ∧ w' = b.now) : Calls P f args b.now fun e w'' => e = .returned v ∧ ∃ b' : Later w, w'' = b'.now :=
  h.mono fun _ _ ⟨he, hb⟩ => ⟨he, b, hb⟩
theorem later_cell {w : World} {p : Addr} {v : Value} (h : w.cell? p = some v) (b : Later w) : b.now.cell? p = some v := by
  rw [b.below.cell (World.block_lt_of_cell? w p h)]; exact h
end Go.Proofs.YtgidgmgpgfonnaaGreat
