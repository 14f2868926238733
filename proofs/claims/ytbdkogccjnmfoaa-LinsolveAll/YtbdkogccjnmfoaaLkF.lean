/- The document's vectors. -/
import Derived.Test.YtbdkogccjnmfoaaLkB
import Derived.Test.YtbdkogccjnmfoaaLiR
import Derived.Test.YtbdkogccjnmfoaaLiX
import Derived.Deep.CutBlock
import Derived.Deep.DeepCutAuto
namespace Go.Proofs.Ytbdkogccjnmfoaa
open Go.RowKit Go.Shelf

def extN (most : Nat) (u : List Nat) : List (List Nat) := (List.range (most + 1 - u.sum)).map (fun x => u ++ [x])
/-- All vectors that come to so much at most. -/
def vecsN (most : Nat) : Nat → List (List Nat)
  | 0 => [[]]
  | n + 1 => (vecsN most n).flatMap (extN most)
theorem vecs_mem (most : Nat) : ∀ (n : Nat) (u : List Nat), u ∈ vecsN most n ↔ u.length = n ∧ u.sum ≤ most := by
  intro n
  induction n with
  | zero =>
    intro u
    rw [vecsN, List.mem_singleton]
    constructor
    · rintro rfl; exact ⟨rfl, Nat.zero_le _⟩
    · rintro ⟨h, _⟩; exact List.eq_nil_of_length_eq_zero h
  | succ n ih =>
    intro u
    rw [vecsN, List.mem_flatMap]
    constructor
    · rintro ⟨v, hv, hu⟩
      unfold extN at hu
      obtain ⟨x, hx, rfl⟩ := List.mem_map.1 hu
      have h1 := (ih v).1 hv
      have h2 := List.mem_range.1 hx
      rw [List.length_append, List.sum_append]
      simp
      omega
    · rintro ⟨h1, h2⟩
      have hne : u ≠ [] := fun e => by rw [e] at h1; simp at h1
      have hd := List.dropLast_concat_getLast hne
      have hs : u.sum = u.dropLast.sum + u.getLast hne := by
        conv => lhs; rw [← hd]
        rw [List.sum_append]
        simp
      refine ⟨u.dropLast, (ih _).2 ⟨by rw [List.length_dropLast]; omega, by omega⟩, ?_⟩
      unfold extN
      exact List.mem_map.2 ⟨u.getLast hne, List.mem_range.2 (by omega), hd⟩
theorem ext_len (most : Nat) (hm : most ≤ 6) (u : List Nat) : (extN most u).length ≤ 7 := by
  unfold extN
  simp
  omega
theorem flat_len {α β : Type} (f : α → List β) (M : Nat) (h : ∀ x, (f x).length ≤ M) : ∀ l : List α, (l.flatMap f).length ≤ l.length * M := by
  intro l
  induction l with
  | nil => simp
  | cons x l ih =>
    rw [List.flatMap_cons, List.length_append, List.length_cons, Nat.add_mul]
    have := h x
    omega
theorem vecs_len (most : Nat) (hm : most ≤ 6) : ∀ n, n ≤ 5 → (vecsN most n).length ≤ 16807 := by
  have key : ∀ n, (vecsN most n).length ≤ 7 ^ n := by
    intro n
    induction n with
    | zero => simp [vecsN]
    | succ n ih =>
      rw [vecsN]
      have h1 := flat_len (extN most) 7 (ext_len most hm) (vecsN most n)
      have h2 := Nat.mul_le_mul_right 7 ih
      rw [Nat.pow_succ]
      omega
  intro n hn
  have h1 : 7 ^ n ≤ 7 ^ 5 := Nat.pow_le_pow_right (by omega) hn
  have := key n
  simp only [Nat.reducePow] at h1
  omega
/-- A vector, copied into new memory. -/
theorem app_new (W : World) (p : Option Addr) (d : Nat) (u : List Int) (hI : IntsAt W p u) (hd : p = none → d = 0) (hu : u.length ≤ 1000) :
    ∃ p1 c1 wA, (Builtin.append_ #[27, 27] 27 #[.slice (some ⟨W.heap.size, 0, none⟩) 0 0, .slice p u.length d]).run Try.prog (W.alloc (.cells #[] 3)) = .ok (.slice p1 u.length c1) wA ∧ wA.ownsRow W.heap.size 3 1 (.slice p1 u.length c1) u.length (cAll u) ∧ Below W.heap.size W wA := by
  have b1 := alloc_below0 W (.cells #[] 3)
  have hE : (W.alloc (.cells #[] 3)).ownsRow W.heap.size 3 1 (.slice (some ⟨W.heap.size, 0, none⟩) 0 0) 0 [] := ⟨rfl, .inr ⟨W.heap.size, 0, #[], rfl, Nat.le_refl _, World.alloc_heap_new W _, Nat.le_refl _, Nat.zero_le _, rfl, rfl⟩⟩
  obtain ⟨p1, c1, w1, hr1, hA1, hG1⟩ := run_appB 27 W.heap.size _ 0 [] _ hE p u.length d (cAll u) (src_i d (hI.below b1) hd) (cAll_one u) (by omega) b1.size
  rw [Nat.zero_add] at hr1 hA1
  rw [List.nil_append] at hA1
  exact ⟨p1, c1, w1, hr1, hA1, b1.trans ((fr_grown hG1).below (fun k hk => by have h7 : some W.heap.size = some k := hk; have := Option.some.inj h7; omega) b1.size)⟩
/-- Numbers more, behind what is one's own. -/
theorem app_more (W0 W : World) (base : Nat) (p1 : Option Addr) (c1 : Nat) (u : List Int) (hO : W.ownsRow base 3 1 (.slice p1 u.length c1) u.length (cAll u)) (hb0 : base ≤ W.heap.size) (hbe : Below base W0 W) (p : Option Addr) (d : Nat) (v : List Int) (hI : IntsAt W p v) (hd : p = none → d = 0) (hu : u.length + v.length ≤ 1000) :
    ∃ p2 c2 wA, (Builtin.append_ #[27, 27] 27 #[.slice p1 u.length c1, .slice p v.length d]).run Try.prog W = .ok (.slice p2 (u.length + v.length) c2) wA ∧ wA.ownsRow base 3 1 (.slice p2 (u.length + v.length) c2) (u.length + v.length) (cAll (u ++ v)) ∧ Below base W0 wA := by
  obtain ⟨p2, c2, w1, hr1, hA1, hG1⟩ := run_appB 27 base _ u.length (cAll u) _ hO p v.length d (cAll v) (src_i d hI hd) (cAll_one v) (by omega) hb0
  have e : cAll u ++ cAll v = cAll (u ++ v) := by unfold cAll; rw [List.map_append]
  rw [e] at hA1
  refine ⟨p2, c2, w1, hr1, hA1, hbe.trans ((fr_grown hG1).below (fun k hk => ?_) hb0)⟩
  rcases hO.2 with ⟨h0, _⟩ | ⟨g, cap, cur, h1, h2, _⟩
  · rw [h0] at hk; cases hk
  · rw [h1] at hk
    have : g = k := Option.some.inj hk
    omega
/-- A new vector. -/
theorem own_vc {W : World} {base : Nat} {p : Option Addr} {c n : Nat} {l : List Nat} (h : W.ownsRow base 3 1 (.slice p n c) n (cAll (toI l))) (hn : l.length = n) (hp : 0 < n) : ∃ g, p = some ⟨g, 0, none⟩ ∧ base ≤ g ∧ VcAt W ⟨g, c, l⟩ := by
  rcases h.2 with ⟨_, h0⟩ | ⟨g, cap, cur, h1, h2, h3⟩
  · omega
  · injection h1 with h1 _ hc
    subst h1 hc hn
    exact ⟨g, rfl, h2, h.1, .inr ⟨g, _, cur, rfl, Nat.zero_le _, h3⟩⟩
/-- A row under way, behind a world. -/
structure Nx (w1 : World) (nv : Value) (ns : List Vc) (W : World) : Prop where
  row : XRow W w1.heap.size nv ns
  low : Below w1.heap.size w1 W
  new : ∀ x ∈ ns, w1.heap.size ≤ x.b
theorem XRow.own_lt {W : World} {base : Nat} {v : Value} {vs : List Vc} (h : XRow W base v vs) {q : Nat} (hq : v.ownBlock = some q) : base ≤ q := by
  rcases h.row.2 with ⟨h0, _⟩ | ⟨g, cap, cur, h1, h2, _⟩
  · rw [h0] at hq; cases hq
  · rw [h1] at hq
    have : g = q := Option.some.inj hq
    omega
/-- One more in the row, whose box has just been made. -/
theorem Nx.app {w1 : World} {nv : Value} {ns : List Vc} {W W' : World} (h : Nx w1 nv ns W) (hb : Below W.heap.size W W') (x : Vc) (hx : VcAt W' x) (hx0 : w1.heap.size ≤ x.b) (hn : ns.length + 1 ≤ 1000000000000) :
    ∃ nv' wC, (Builtin.append_ #[23, 23] 23 #[nv, .slice (some ⟨W'.heap.size, 0, none⟩) 1 1]).run Try.prog (W'.alloc (.cells #[vcV x] 27)) = .ok nv' wC ∧ Nx w1 nv' (ns ++ [x]) wC := by
  have b1 := alloc_below0 W' (.cells #[vcV x] 27)
  have hs1 := h.low.size; have hs2 := hb.size; have hs3 := b1.size
  have hX : XRow (W'.alloc (.cells #[vcV x] 27)) w1.heap.size nv ns := (h.row.below hb).below b1
  obtain ⟨v', w', hr, h2, h3⟩ := run_appX 23 w1.heap.size nv ns x _ hX W'.heap.size (World.alloc_heap_new W' _) (by
    obtain ⟨cur, k1, _⟩ := hx.blk
    exact hx.same (b1.block _ (Array.getElem?_eq_some_iff.1 k1).1)) hn (by omega)
  refine ⟨v', w', hr, h2, ?_, fun y hy => ?_⟩
  · refine (h.low.trans (hb.mono hs1)).trans ((b1.mono (by omega)).trans (h3.below (fun k hk => hX.own_lt hk) (by omega)))
  · rcases List.mem_append.1 hy with hy | hy
    · exact h.new y hy
    · rw [List.mem_singleton.1 hy]; exact hx0
theorem toI_one (l : List Nat) (x : Nat) : toI (l ++ [x]) = toI l ++ [(x : Int)] := by unfold toI; simp
/-- The three appends of the document's vectors. -/
theorem Nx.add {w1 : World} {nv : Value} {ns : List Vc} {W : World} (h : Nx w1 nv ns W) (p : Option Addr) (d : Nat) (l : List Nat) (hI : IntsAt W p (toI l)) (hd : p = none → d = 0) (hl : l.length ≤ 5) (x : Nat) (hn : ns.length + 1 ≤ 1000000000000) :
    ∃ p1 c1 wA g c2 wB nv' wC, (Builtin.append_ #[27, 27] 27 #[.slice (some ⟨W.heap.size, 0, none⟩) 0 0, .slice p l.length d]).run Try.prog (W.alloc (.cells #[] 3)) = .ok (.slice p1 l.length c1) wA ∧
      (Builtin.append_ #[27, 27] 27 #[.slice p1 l.length c1, .slice (some ⟨wA.heap.size, 0, none⟩) 1 1]).run Try.prog (wA.alloc (.cells #[.int .i64 x] 3)) = .ok (.slice (some ⟨g, 0, none⟩) (l.length + 1) c2) wB ∧
      (Builtin.append_ #[23, 23] 23 #[nv, .slice (some ⟨wB.heap.size, 0, none⟩) 1 1]).run Try.prog (wB.alloc (.cells #[.slice (some ⟨g, 0, none⟩) (l.length + 1) c2] 27)) = .ok nv' wC ∧ Nx w1 nv' (ns ++ [⟨g, c2, l ++ [x]⟩]) wC := by
  have hlen : (toI l).length = l.length := toI_len l
  obtain ⟨p1, c1, wA, r1, o1, b1⟩ := app_new W p d (toI l) hI hd (by omega)
  rw [hlen] at r1 o1
  have b2 := alloc_below0 wA (.cells #[.int .i64 (x : Int)] 3)
  have hsz := b2.size; have hsz1 := b1.size
  have o2 : (wA.alloc (.cells #[.int .i64 (x : Int)] 3)).ownsRow W.heap.size 3 1 (.slice p1 (toI l).length c1) (toI l).length (cAll (toI l)) := by
    rw [hlen]
    exact own_same o1 (fun q hq => by obtain ⟨cur, k1, _⟩ := own_blk o1 hq; exact b2.block q (Array.getElem?_eq_some_iff.1 k1).1)
  obtain ⟨p2, c2, wB, r2, o3, b3⟩ := app_more W _ W.heap.size p1 c1 (toI l) o2 (by omega) (b1.trans (b2.mono hsz1)) (some ⟨wA.heap.size, 0, none⟩) 1 [(x : Int)] (ints_one (World.alloc_heap_new wA _)) (fun e => by cases e) (by rw [hlen]; simp; omega)
  rw [hlen] at r2 o3
  rw [← toI_one] at o3
  obtain ⟨g, rfl, hg, hv⟩ := own_vc o3 (by simp) (by simp)
  obtain ⟨nv', wC, r3, hN⟩ := h.app b3 ⟨g, c2, l ++ [x]⟩ hv (Nat.le_trans h.low.size hg) hn
  have e : vcV ⟨g, c2, l ++ [x]⟩ = .slice (some ⟨g, 0, none⟩) (l.length + 1) c2 := by simp [vcV]
  rw [e] at r3
  exact ⟨p1, c1, wA, g, c2, wB, nv', wC, r1, r2, r3, hN⟩
end Go.Proofs.Ytbdkogccjnmfoaa
