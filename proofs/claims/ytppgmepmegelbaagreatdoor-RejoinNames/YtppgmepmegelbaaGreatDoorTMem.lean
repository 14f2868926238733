/- Terms as forests: how many nodes, where they lie in memory, and their order, without any program. -/
import Derived.Deep.Trees
import Derived.Lib.Bytealg
import Derived.Lib.Small
import Derived.WalkKit
namespace Go.Proofs.YtppgmepmegelbaaGreatDoor
open Go.RowKit Go.Deep

/-- A list of terms: the first one's name and symbol, its arguments on the left, the terms behind it on the right. -/
abbrev Fo := BT (ByteArray × Int)
def lenF : Fo → Nat
  | .nil => 0
  | .node _ _ _ _ r => lenF r + 1
def nodesF : Fo → Nat
  | .nil => 0
  | .node _ _ _ l r => nodesF l + nodesF r + 1
def dropF : Nat → Fo → Fo
  | 0, F => F
  | _ + 1, .nil => .nil
  | n + 1, .node _ _ _ _ r => dropF n r

theorem len_nodes : ∀ F : Fo, lenF F ≤ nodesF F
  | .nil => Nat.le_refl _
  | .node _ _ _ l r => by have := len_nodes r; simp only [lenF, nodesF]; omega
theorem len_nil {F : Fo} (h : lenF F = 0) : F = .nil := by
  cases F with
  | nil => rfl
  | node => simp [lenF] at h
theorem drop_zero (F : Fo) : dropF 0 F = F := by cases F <;> rfl
theorem len_drop : ∀ (i : Nat) (F : Fo), lenF (dropF i F) = lenF F - i
  | 0, F => by rw [drop_zero]; rfl
  | i + 1, .nil => by simp [dropF, lenF]
  | i + 1, .node _ _ _ _ r => by simp only [dropF, lenF]; rw [len_drop i r]; omega
theorem drop_end (F : Fo) : dropF (lenF F) F = .nil := len_nil (by rw [len_drop]; omega)
theorem nodes_drop : ∀ (i : Nat) (F : Fo), nodesF (dropF i F) ≤ nodesF F
  | 0, F => by rw [drop_zero]; exact Nat.le_refl _
  | i + 1, .nil => by simp [dropF]
  | i + 1, .node _ _ _ l r => by have := nodes_drop i r; simp only [dropF, nodesF]; omega
theorem drop_succ : ∀ (i : Nat) (F : Fo) {b o : Nat} {x : ByteArray × Int} {l r : Fo}, dropF i F = .node b o x l r → dropF (i + 1) F = r
  | 0, F, b, o, x, l, r, h => by rw [drop_zero] at h; subst h; simp only [dropF]
  | _ + 1, .nil, _, _, _, _, _, h => by simp [dropF] at h
  | i + 1, .node _ _ _ _ r', b, o, x, l, r, h => by simp only [dropF] at h ⊢; exact drop_succ i r' h
theorem drop_node (i : Nat) (F : Fo) (h : i < lenF F) : ∃ b o x l r, dropF i F = .node b o x l r := by
  have e := len_drop i F
  cases hd : dropF i F with
  | nil => rw [hd] at e; simp [lenF] at e; omega
  | node b o x l r => exact ⟨b, o, x, l, r, rfl⟩

/-! ### memory -/
/-- How long a name, a list and its room may be. -/
structure Sizes (nm : ByteArray) (n c : Nat) : Prop where
  name : nm.size ≤ maxLen
  len : n ≤ c
  cap : c ≤ maxLen
  few : n * 48 ≤ 140737488351232
/-- From this cell on these terms lie, three cells each. -/
def KidsAt (w : World) : Fo → Nat → Nat → Prop
  | .nil, _, _ => True
  | .node _ _ x l r, b, o => (∃ a c, w.cell? ⟨b, o, none⟩ = some (.string x.1) ∧ w.cell? ⟨b, o + 1, none⟩ = some (.int .i64 x.2) ∧ w.cell? ⟨b, o + 2, none⟩ = some (.slice a (lenF l) c) ∧
      Sizes x.1 (lenF l) c ∧ (l = .nil ∨ ∃ b' o', a = some ⟨b', o', none⟩ ∧ KidsAt w l b' o')) ∧ KidsAt w r b (o + 3)
/-- The slice with this address holds these terms. -/
def ArgsAt (w : World) (a : Option Addr) (F : Fo) : Prop := F = .nil ∨ ∃ b o, a = some ⟨b, o, none⟩ ∧ KidsAt w F b o
/-- A term whose arguments lie in the slice with this address and room. -/
structure TmAt (w : World) (x : ByteArray × Int) (a : Option Addr) (c : Nat) (l : Fo) : Prop where
  sizes : Sizes x.1 (lenF l) c
  args : ArgsAt w a l

theorem KidsAt.kept {w w' : World} (h : ∀ p v, w.cell? p = some v → w'.cell? p = some v) : ∀ {F : Fo} {b o : Nat}, KidsAt w F b o → KidsAt w' F b o
  | .nil, _, _, _ => trivial
  | .node _ _ _ l r, b, o, ⟨⟨a, c, h0, h1, h2, hc, hl⟩, hr⟩ => ⟨⟨a, c, h _ _ h0, h _ _ h1, h _ _ h2, hc, by
      rcases hl with hl | ⟨b', o', ha, hk⟩
      · exact .inl hl
      · exact .inr ⟨b', o', ha, KidsAt.kept h hk⟩⟩, KidsAt.kept h hr⟩
theorem below_cell {w w' : World} (hb : Below w.heap.size w w') : ∀ p v, w.cell? p = some v → w'.cell? p = some v := fun p v h => by
  rw [hb.cell (World.block_lt_of_cell? w p h)]; exact h
theorem KidsAt.below {w w' : World} {F : Fo} {b o : Nat} (h : KidsAt w F b o) (hb : Below w.heap.size w w') : KidsAt w' F b o := h.kept (below_cell hb)
theorem ArgsAt.kept {w w' : World} {a : Option Addr} {F : Fo} (hk : ArgsAt w a F) (h : ∀ p v, w.cell? p = some v → w'.cell? p = some v) : ArgsAt w' a F := by
  rcases hk with h1 | ⟨b, o, ha, hk⟩
  · exact .inl h1
  · exact .inr ⟨b, o, ha, hk.kept h⟩
theorem ArgsAt.below {w w' : World} {a : Option Addr} {F : Fo} (hk : ArgsAt w a F) (hb : Below w.heap.size w w') : ArgsAt w' a F := hk.kept (below_cell hb)
theorem TmAt.kept {w w' : World} {x : ByteArray × Int} {a : Option Addr} {c : Nat} {l : Fo} (h : TmAt w x a c l) (hk : ∀ p v, w.cell? p = some v → w'.cell? p = some v) : TmAt w' x a c l := ⟨h.sizes, h.args.kept hk⟩
theorem TmAt.below {w w' : World} {x : ByteArray × Int} {a : Option Addr} {c : Nat} {l : Fo} (h : TmAt w x a c l) (hb : Below w.heap.size w w') : TmAt w' x a c l := ⟨h.sizes, h.args.below hb⟩
theorem KidsAt.drop {w : World} : ∀ (i : Nat) {F : Fo} {b o : Nat}, KidsAt w F b o → KidsAt w (dropF i F) b (o + i * 3)
  | 0, F, b, o, h => by rw [drop_zero]; simpa using h
  | i + 1, .nil, b, o, _ => by simp [dropF, KidsAt]
  | i + 1, .node _ _ _ _ r, b, o, ⟨_, hr⟩ => by
    have := KidsAt.drop i hr
    rw [show o + 3 + i * 3 = o + (i + 1) * 3 by omega] at this
    exact this
theorem ArgsAt.nil (w : World) (a : Option Addr) : ArgsAt w a .nil := .inl rfl
theorem ArgsAt.get {w : World} {a : Option Addr} {F : Fo} (h : ArgsAt w a F) (hn : 0 < lenF F) : ∃ b o, a = some ⟨b, o, none⟩ ∧ KidsAt w F b o := by
  rcases h with h1 | h2
  · subst h1; simp [lenF] at hn
  · exact h2
/-- The term at a place of a list. -/
structure Kid (w : World) (F : Fo) (b o k : Nat) (x : ByteArray × Int) (a : Option Addr) (c : Nat) (l : Fo) : Prop where
  name : w.cell? ⟨b, o + k * 3, none⟩ = some (.string x.1)
  sym : w.cell? ⟨b, o + k * 3 + 1, none⟩ = some (.int .i64 x.2)
  list : w.cell? ⟨b, o + k * 3 + 2, none⟩ = some (.slice a (lenF l) c)
  at_ : TmAt w x a c l
  split : ∃ B O, dropF k F = .node B O x l (dropF (k + 1) F)
  less : nodesF l < nodesF F
theorem KidsAt.kid {w : World} {F : Fo} {b o k : Nat} (h : KidsAt w F b o) (hk : k < lenF F) : ∃ x a c l, Kid w F b o k x a c l := by
  obtain ⟨B, O, x, l, r, hd⟩ := drop_node k F hk
  have h1 := h.drop k
  have h2 := nodes_drop k F
  rw [hd] at h1 h2
  obtain ⟨⟨a, c, h3, h4, h5, h6, h7⟩, _⟩ := h1
  exact ⟨x, a, c, l, h3, h4, h5, ⟨h6, h7⟩, ⟨B, O, by rw [drop_succ k F hd]; exact hd⟩, by simp only [nodesF] at h2; omega⟩
theorem Kid.below {w w' : World} {F : Fo} {b o k : Nat} {x : ByteArray × Int} {a : Option Addr} {c : Nat} {l : Fo} (h : Kid w F b o k x a c l) (hb : Below w.heap.size w w') : Kid w' F b o k x a c l :=
  ⟨below_cell hb _ _ h.name, below_cell hb _ _ h.sym, below_cell hb _ _ h.list, h.at_.below hb, h.split, h.less⟩

/-! ### the order -/
def thenC (x y : Int) : Int := if x = 0 then y else x
def cmpS (a b : ByteArray) : Int := Lib.compareBytes a.data.toList b.data.toList
def noName (s : ByteArray) : Bool := s.toList.isEmpty
/-- Two nodes, whose arguments compare so. -/
def cmp1 (x y : ByteArray × Int) (n m : Nat) (deep : Int) : Int :=
  if noName x.1 = false then (if noName y.1 = false then cmpS x.1 y.1 else -1)
  else if noName y.1 = false then 1 else if x.2 = y.2 then (if n = m then deep else Lib.compareInt n m) else Lib.compareInt x.2 y.2
def cmpF : Fo → Fo → Int
  | .nil, _ => 0
  | .node _ _ _ _ _, .nil => 0
  | .node _ _ x l r, .node _ _ y m s => thenC (cmp1 x y (lenF l) (lenF m) (cmpF l m)) (cmpF r s)

/-- What a total order says of three. -/
structure Cons (ab bc ac : Int) : Prop where
  l : ab = 0 → ac = bc
  r : bc = 0 → ac = ab
  lt : ab < 0 → bc < 0 → ac < 0
  gt : 0 < ab → 0 < bc → 0 < ac
theorem Cons.zero : Cons 0 0 0 := ⟨fun _ => rfl, fun _ => rfl, fun h => by omega, fun h => by omega⟩
theorem Cons.then {x1 x2 x3 y1 y2 y3 : Int} (h : Cons x1 x2 x3) (k : x1 = 0 → x2 = 0 → Cons y1 y2 y3) : Cons (thenC x1 y1) (thenC x2 y2) (thenC x3 y3) := by
  obtain ⟨h1, h2, h3, h4⟩ := h
  unfold thenC
  by_cases e1 : x1 = 0
  · have e3 := h1 e1
    subst e1 e3
    by_cases e2 : x3 = 0
    · subst e2
      simpa using k rfl rfl
    · simp only [e2, if_true, if_false]
      constructor <;> omega
  · by_cases e2 : x2 = 0
    · have e3 := h2 e2
      subst e2 e3
      simp only [e1, if_true, if_false]
      constructor <;> omega
    · simp only [e1, e2, if_false]
      constructor
      · omega
      · omega
      · intro a b
        have := h3 a b
        rw [if_neg (by omega)]; exact this
      · intro a b
        have := h4 a b
        rw [if_neg (by omega)]; exact this
theorem compareInt_cons (x y z : Int) : Cons (Lib.compareInt x y) (Lib.compareInt y z) (Lib.compareInt x z) := by
  unfold Lib.compareInt
  constructor <;> (repeat' split) <;> omega
theorem compareInt_anti (x y : Int) : Lib.compareInt y x = - Lib.compareInt x y := by
  unfold Lib.compareInt
  (repeat' split) <;> omega
theorem compareInt_zero {x y : Int} (h : Lib.compareInt x y = 0) : x = y := by
  unfold Lib.compareInt at h
  split at h
  · omega
  · split at h
    · omega
    · omega
theorem bytes_cons : ∀ a b c : List UInt8, Cons (Lib.compareBytes a b) (Lib.compareBytes b c) (Lib.compareBytes a c)
  | [], [], [] => Cons.zero
  | [], [], _ :: _ => ⟨fun _ => rfl, fun h => by simp [Lib.compareBytes] at h, fun h => by simp [Lib.compareBytes] at h, fun h => by simp [Lib.compareBytes] at h⟩
  | [], _ :: _, [] => ⟨fun h => by simp [Lib.compareBytes] at h, fun h => by simp [Lib.compareBytes] at h, fun _ h => by simp [Lib.compareBytes] at h, fun h => by simp [Lib.compareBytes] at h⟩
  | [], _ :: _, _ :: _ => ⟨fun h => by simp [Lib.compareBytes] at h, fun h => rfl, fun _ _ => by simp [Lib.compareBytes], fun h => by simp [Lib.compareBytes] at h⟩
  | _ :: _, [], [] => ⟨fun h => by simp [Lib.compareBytes] at h, fun h => rfl, fun h => by simp [Lib.compareBytes] at h, fun _ h => by simp [Lib.compareBytes] at h⟩
  | _ :: _, [], _ :: _ => ⟨fun h => by simp [Lib.compareBytes] at h, fun h => by simp [Lib.compareBytes] at h, fun h => by simp [Lib.compareBytes] at h, fun _ h => by simp [Lib.compareBytes] at h⟩
  | _ :: _, _ :: _, [] => ⟨fun _ => rfl, fun h => by simp [Lib.compareBytes] at h, fun _ h => by simp [Lib.compareBytes] at h, fun _ _ => by simp [Lib.compareBytes]⟩
  | a :: as, b :: bs, c :: cs => by
    have ih := bytes_cons as bs cs
    have e : ∀ (a b : UInt8) (as bs : List UInt8), Lib.compareBytes (a :: as) (b :: bs) = thenC (Lib.compareInt a.toNat b.toNat) (Lib.compareBytes as bs) := by
      intro a b as bs
      unfold thenC Lib.compareInt
      rw [Lib.compareBytes]
      have h1 : a < b ↔ a.toNat < b.toNat := UInt8.lt_iff_toNat_lt
      have h2 : b < a ↔ b.toNat < a.toNat := UInt8.lt_iff_toNat_lt
      by_cases k1 : a < b
      · have := h1.1 k1
        rw [if_pos k1, if_pos (by omega : (a.toNat : Int) < (b.toNat : Int))]; rfl
      · by_cases k2 : b < a
        · have := h2.1 k2
          rw [if_neg k1, if_pos k2, if_neg (by omega : ¬ (a.toNat : Int) < (b.toNat : Int)), if_pos (by omega : (a.toNat : Int) > (b.toNat : Int))]; rfl
        · have := mt h1.2 k1
          have := mt h2.2 k2
          rw [if_neg k1, if_neg k2, if_neg (by omega : ¬ (a.toNat : Int) < (b.toNat : Int)), if_neg (by omega : ¬ (a.toNat : Int) > (b.toNat : Int))]; rfl
    rw [e, e, e]
    exact (compareInt_cons _ _ _).then (fun _ _ => ih)
theorem bytes_anti : ∀ a b : List UInt8, Lib.compareBytes b a = - Lib.compareBytes a b
  | [], [] => rfl
  | [], _ :: _ => rfl
  | _ :: _, [] => rfl
  | a :: as, b :: bs => by
    have ih := bytes_anti as bs
    rw [Lib.compareBytes, Lib.compareBytes]
    by_cases k1 : a < b
    · have h1 : a.toNat < b.toNat := UInt8.lt_iff_toNat_lt.1 k1
      have h2 : ¬ b < a := fun h => by have := UInt8.lt_iff_toNat_lt.1 h; omega
      rw [if_pos k1, if_neg h2, if_pos k1]; rfl
    · by_cases k2 : b < a
      · rw [if_pos k2, if_neg k1, if_pos k2]
      · rw [if_neg k2, if_neg k1, if_neg k1, if_neg k2, ih]
theorem bytes_zero : ∀ {a b : List UInt8}, Lib.compareBytes a b = 0 → a = b
  | [], [], _ => rfl
  | [], _ :: _, h => by simp [Lib.compareBytes] at h
  | _ :: _, [], h => by simp [Lib.compareBytes] at h
  | a :: as, b :: bs, h => by
    rw [Lib.compareBytes] at h
    split at h
    · omega
    · rename_i k1
      split at h
      · omega
      · rename_i k2
        have h1 : ¬ a.toNat < b.toNat := fun h => k1 (UInt8.lt_iff_toNat_lt.2 h)
        have h2 : ¬ b.toNat < a.toNat := fun h => k2 (UInt8.lt_iff_toNat_lt.2 h)
        have : a = b := UInt8.toNat_inj.1 (by omega)
        rw [this, bytes_zero h]
theorem bytes_refl (a : List UInt8) : Lib.compareBytes a a = 0 := by
  have := bytes_anti a a
  omega

theorem cmp1_anti (x y : ByteArray × Int) (n m : Nat) (d : Int) : cmp1 y x m n (-d) = - cmp1 x y n m d := by
  unfold cmp1 cmpS
  rw [bytes_anti, compareInt_anti x.2 y.2, compareInt_anti (n : Int) (m : Int)]
  cases hx : noName x.1 <;> cases hy : noName y.1 <;> simp
  by_cases e : x.2 = y.2
  · rw [if_pos e, if_pos e.symm]
    by_cases e2 : n = m
    · rw [if_pos e2, if_pos e2.symm]
    · rw [if_neg e2, if_neg (Ne.symm e2)]
  · rw [if_neg e, if_neg (Ne.symm e)]
theorem cmpF_anti : ∀ F G : Fo, cmpF G F = - cmpF F G
  | .nil, .nil => rfl
  | .nil, .node _ _ _ _ _ => rfl
  | .node _ _ _ _ _, .nil => rfl
  | .node _ _ x l r, .node _ _ y m s => by
    rw [cmpF, cmpF, cmpF_anti l m, cmpF_anti r s, cmp1_anti]
    unfold thenC
    by_cases e : cmp1 x y (lenF l) (lenF m) (cmpF l m) = 0
    · rw [if_pos e, if_pos (by omega)]
    · rw [if_neg e, if_neg (by omega)]
theorem cmp1_cons (x y z : ByteArray × Int) (n m k : Nat) (d1 d2 d3 : Int) (h : n = m → m = k → Cons d1 d2 d3) : Cons (cmp1 x y n m d1) (cmp1 y z m k d2) (cmp1 x z n k d3) := by
  have hI := compareInt_cons x.2 y.2 z.2
  have hN := compareInt_cons (n : Int) m k
  have e : ∀ (x y : ByteArray × Int) (n m : Nat) (d : Int), noName x.1 = true → noName y.1 = true → cmp1 x y n m d = thenC (Lib.compareInt x.2 y.2) (thenC (Lib.compareInt n m) d) := by
    intro x y n m d hx hy
    unfold cmp1 thenC
    rw [if_neg (by simp [hx]), if_neg (by simp [hy])]
    by_cases e : x.2 = y.2
    · have e0 : Lib.compareInt x.2 y.2 = 0 := by unfold Lib.compareInt; rw [if_neg (by omega), if_neg (by omega)]
      rw [if_pos e, if_pos e0]
      by_cases e2 : n = m
      · have e1 : Lib.compareInt (n : Int) m = 0 := by unfold Lib.compareInt; rw [if_neg (by omega), if_neg (by omega)]
        rw [if_pos e2, if_pos e1]
      · have e1 : Lib.compareInt (n : Int) m ≠ 0 := fun h => e2 (by have := compareInt_zero h; omega)
        rw [if_neg e2, if_neg e1]
    · have e0 : Lib.compareInt x.2 y.2 ≠ 0 := fun h => e (compareInt_zero h)
      rw [if_neg e, if_neg e0]
  cases hx : noName x.1 <;> cases hy : noName y.1 <;> cases hz : noName z.1
  · simp only [cmp1, hx, hy, hz, if_true]; exact bytes_cons _ _ _
  · simp [cmp1, hx, hy, hz]; constructor <;> omega
  · simp [cmp1, hx, hy, hz]; constructor <;> omega
  · simp [cmp1, hx, hy, hz]; constructor <;> omega
  · simp [cmp1, hx, hy, hz]; constructor <;> omega
  · simp [cmp1, hx, hy, hz]; constructor <;> omega
  · simp [cmp1, hx, hy, hz]; constructor <;> omega
  · rw [e _ _ _ _ _ hx hy, e _ _ _ _ _ hy hz, e _ _ _ _ _ hx hz]
    refine hI.then fun _ _ => hN.then fun h1 h2 => h ?_ ?_
    · have := compareInt_zero h1; omega
    · have := compareInt_zero h2; omega
theorem cmpF_cons : ∀ F G K : Fo, lenF F = lenF G → lenF G = lenF K → Cons (cmpF F G) (cmpF G K) (cmpF F K)
  | .nil, .nil, .nil, _, _ => Cons.zero
  | .nil, .nil, .node _ _ _ _ _, _, h => by simp [lenF] at h
  | .nil, .node _ _ _ _ _, _, h, _ => by simp [lenF] at h
  | .node _ _ _ _ _, .nil, _, h, _ => by simp [lenF] at h
  | .node _ _ _ _ _, .node _ _ _ _ _, .nil, _, h => by simp [lenF] at h
  | .node _ _ x l r, .node _ _ y m s, .node _ _ z p q, h1, h2 => by
    simp only [lenF] at h1 h2
    rw [cmpF, cmpF, cmpF]
    exact (cmp1_cons x y z _ _ _ _ _ _ (fun a b => cmpF_cons l m p a b)).then (fun _ _ => cmpF_cons r s q (by omega) (by omega))

/-- A term: its name, its symbol, its arguments. -/
structure Tm where
  name : ByteArray
  sym : Int
  args : Fo
def cmpT (x y : Tm) : Int := cmp1 (x.name, x.sym) (y.name, y.sym) (lenF x.args) (lenF y.args) (cmpF x.args y.args)
theorem cmpT_anti (x y : Tm) : cmpT y x = - cmpT x y := by unfold cmpT; rw [cmpF_anti]; exact cmp1_anti _ _ _ _ _
theorem cmpT_self (x : Tm) : cmpT x x = 0 := by have := cmpT_anti x x; omega
theorem cmpT_cons (x y z : Tm) : Cons (cmpT x y) (cmpT y z) (cmpT x z) := cmp1_cons _ _ _ _ _ _ _ _ _ (fun a b => cmpF_cons _ _ _ a b)
end Go.Proofs.YtppgmepmegelbaaGreatDoor
