/- Rows that a call has made; slices.Clone of numbers. -/
import Derived.Maps.AppendAt
import Derived.Lib.AppendZeros
import Derived.Deep.AppendLies
import Derived.Laws.AppendOwnNone
import Derived.Lib.SmallJoins
import Derived.Test.YtbdkogccjnmfoaaLiD
namespace Go.Proofs.Ytbdkogccjnmfoaa
open Go.RowKit Go.Shelf

/-- Numbers in memory, in blocks of a kind. -/
structure IntsIn (X : Nat → Prop) (w : World) (a : Option Addr) (ns : List Int) : Prop where
  small : ns.length ≤ maxLen
  cells : ∀ i (h : i < ns.length), ∃ b o, a = some ⟨b, o, none⟩ ∧ X b ∧ w.cell? ⟨b, o + i, none⟩ = some (.int .i64 ns[i])
theorem IntsIn.at {X : Nat → Prop} {w : World} {a : Option Addr} {ns : List Int} (h : IntsIn X w a ns) : IntsAt w a ns := ⟨h.small, fun i hi => let ⟨b, o, h1, _, h3⟩ := h.cells i hi; ⟨b, o, h1, h3⟩⟩
theorem IntsIn.same {X : Nat → Prop} {w w' : World} {a : Option Addr} {ns : List Int} (h : IntsIn X w a ns) (hs : ∀ b, X b → w'.heap[b]? = w.heap[b]?) : IntsIn X w' a ns :=
  ⟨h.small, fun i hi => let ⟨b, o, h1, h2, h3⟩ := h.cells i hi; ⟨b, o, h1, h2, (cell_same (a := ⟨b, o + i, none⟩) (hs b h2)).trans h3⟩⟩
theorem IntsIn.mono {X Y : Nat → Prop} {w : World} {a : Option Addr} {ns : List Int} (h : IntsIn X w a ns) (hs : ∀ b, X b → Y b) : IntsIn Y w a ns :=
  ⟨h.small, fun i hi => let ⟨b, o, h1, h2, h3⟩ := h.cells i hi; ⟨b, o, h1, hs b h2, h3⟩⟩
theorem IntsAt.in {w : World} {a : Option Addr} {ns : List Int} (h : IntsAt w a ns) : IntsIn (fun b => b < w.heap.size) w a ns :=
  ⟨h.small, fun i hi => let ⟨b, o, h1, h2⟩ := h.cells i hi; ⟨b, o, h1, World.block_lt_of_cell? w _ h2, h2⟩⟩
theorem IntsIn.fr {X A : Nat → Prop} {w w' : World} {a : Option Addr} {ns : List Int} (h : IntsIn X w a ns) (hf : Fr A w w') (hA : ∀ b, X b → ¬ A b) : IntsIn X w' a ns :=
  ⟨h.small, fun i hi => let ⟨b, o, h1, h2, h3⟩ := h.cells i hi; ⟨b, o, h1, h2, hf.cell h3 (hA b h2)⟩⟩
theorem free_box {W : World} {b i : Nat} {cs : Array Value} {T : TypeId} (h : W.heap[b]? = some (.cells cs T (0, 0))) : W.frozen? ⟨b, i, none⟩ = false := by simp [World.frozen?, h]
theorem below_blk {W W' : World} {b : Nat} {o : Obj} (hb : Below W.heap.size W W') (h : W.heap[b]? = some o) : W'.heap[b]? = some o := (hb.block _ (Array.getElem?_eq_some_iff.1 h).1).trans h
/-- The cells of numbers. -/
def cAll (ns : List Int) : List Value := ns.map (Value.int .i64)
theorem cAll_len (ns : List Int) : (cAll ns).length = ns.length := List.length_map _
theorem cAll_one (ns : List Int) : ∀ u ∈ cAll ns, u.oneCell' = true := fun u hu => by obtain ⟨x, _, rfl⟩ := List.mem_map.1 hu; rfl
theorem fr_grown {w w' : World} {r : Option Nat} (h : w.grownBy w' r) : Fr (fun q => r = some q) w w' := ⟨⟨h.os, h.tape, h.output, h.size, fun k hk => absurd hk (Nat.not_lt_zero k)⟩, fun k hk hA => h.block k hk (fun e => hA e.symm)⟩
theorem src_i {w : World} {a : Option Addr} {ns : List Int} (c : Nat) (h : IntsAt w a ns) (ha : a = none → c = 0) : (a = none ∧ ns.length = 0 ∧ c = 0 ∧ cAll ns = []) ∨ ∃ ad, a = some ad ∧ (cAll ns).length = ns.length * 1 ∧ ∀ j u, (cAll ns)[j]? = some u → w.cell? (ad.add j) = some u := by
  cases a with
  | none =>
    have hl : ns.length = 0 := by
      rcases Nat.eq_zero_or_pos ns.length with h0 | h0
      · exact h0
      · obtain ⟨_, _, h1, _⟩ := h.cells 0 h0
        cases h1
    have hn : ns = [] := List.eq_nil_of_length_eq_zero hl
    subst hn
    exact .inl ⟨rfl, rfl, ha rfl, rfl⟩
  | some ad =>
    refine .inr ⟨ad, rfl, by rw [cAll_len, Nat.mul_one], fun j u hj => ?_⟩
    have hjl : j < ns.length := by have := (List.getElem?_eq_some_iff.1 hj).1; rwa [cAll_len] at this
    obtain ⟨b, o, h1, h2⟩ := h.cells j hjl
    cases h1
    rw [Addr.add_lit, h2]
    unfold cAll at hj
    rw [List.getElem?_map, List.getElem?_eq_getElem hjl] at hj
    exact hj
theorem info3 : (Try.prog.info? 3).map (fun i => (i.zero, i.size, i.bytes)) = some (some (.int .i64 0), 1, 8) := by kernel_rfl
theorem run_appI (ty base : Nat) (v : Value) (n : Nat) (xs : List Value) (w : World) (hown : w.ownsRow base 3 1 v n xs) (px : Option Addr) (m cx : Nat) (news : List Value)
    (hsrc : (px = none ∧ m = 0 ∧ cx = 0 ∧ news = []) ∨ ∃ ad, px = some ad ∧ news.length = m * 1 ∧ ∀ j u, news[j]? = some u → w.cell? (ad.add j) = some u) (h1 : ∀ u ∈ news, u.oneCell' = true) (hb : n + m ≤ 2097153) (hbase : base ≤ w.heap.size) :
    ∃ p' c' w', (Builtin.append_ #[27, 27] ty #[v, .slice px m cx]).run Try.prog w = .ok (.slice p' (n + m) c') w' ∧ w'.ownsRow base 3 1 (.slice p' (n + m) c') (n + m) (xs ++ news) ∧ w.grownBy w' v.ownBlock := by
  obtain ⟨i0, hi0, hz0, hz1, hz2⟩ := info_parts info3
  have form : ∀ {W : World} {v' : Value} {k : Nat} {ys : List Value}, W.ownsRow base 3 1 v' k ys → ∃ p' c', v' = .slice p' k c' := by
    intro W v' k ys h
    rcases h.2 with ⟨h2, h3⟩ | ⟨g, c, _, h2, _⟩
    · exact ⟨none, 0, by rw [h2, h3]⟩
    · exact ⟨_, _, h2⟩
  rcases hsrc with ⟨rfl, rfl, rfl, rfl⟩ | ⟨ad, rfl, hl, hnews⟩
  · obtain ⟨p', c', rfl⟩ := form hown
    refine ⟨p', c', w, run_append_owned_none (P := Try.prog) (w := w) base 27 ty 3 i0 1 Try.underlying27 hi0 _ n xs hown, ?_, World.grownBy.refl _ _⟩
    rw [List.append_nil]
    exact hown
  · obtain ⟨v', w', hr, h2, h3, _, h5⟩ := run_append_own_at (P := Try.prog) w base 27 ty 3 i0 _ 1 8 Try.underlying27 hi0 hz0 hz1 hz2 rfl (by decide) v n xs hown ad m cx news hl hnews h1 (by unfold maxLen; omega) (by omega) hbase
    obtain ⟨p', c', rfl⟩ := form h2
    exact ⟨p', c', w', hr, h2, h3⟩
/-- A row of numbers that a call has made, in a block from base on. -/
def CRow (w : World) (base : Nat) (q : Option Addr) (d : Nat) (ns : List Int) : Prop := w.ownsRow base 3 1 (.slice q ns.length d) ns.length (cAll ns)
theorem CRow.ints {w : World} {base : Nat} {q : Option Addr} {d : Nat} {ns : List Int} (h : CRow w base q d ns) : IntsIn (fun b => base ≤ b ∧ b < w.heap.size) w q ns := by
  rcases h.2 with ⟨h1, h2⟩ | ⟨g, cap, cur, h1, h2, h3, h4, h5, h6, h7⟩
  · have hn : ns = [] := List.eq_nil_of_length_eq_zero h2
    subst hn
    exact ⟨Nat.zero_le _, fun i hi => absurd hi (Nat.not_lt_zero i)⟩
  · cases h1
    refine ⟨Nat.le_trans h4 h5, fun i hi => ⟨g, 0, rfl, ⟨h2, (Array.getElem?_eq_some_iff.1 h3).1⟩, ?_⟩⟩
    rw [cell_of_row w g _ _ 3 (0, 0) h3, Nat.zero_add]
    have e1 : (cur.toList.take (ns.length * 1))[i]? = (cAll ns)[i]? := by rw [h7]
    rw [List.getElem?_take_of_lt (by omega)] at e1
    unfold cAll at e1
    rw [List.getElem?_map, List.getElem?_eq_getElem hi] at e1
    simpa using e1
theorem CRow.same {w w' : World} {base : Nat} {q : Option Addr} {d : Nat} {ns : List Int} (h : CRow w base q d ns) (hs : ∀ b, base ≤ b → b < w.heap.size → w'.heap[b]? = w.heap[b]?) : CRow w' base q d ns :=
  ⟨h.1, by
    rcases h.2 with h0 | ⟨g, cap, cur, h1, h2, h3, h4⟩
    · exact .inl h0
    · exact .inr ⟨g, cap, cur, h1, h2, (hs g h2 (Array.getElem?_eq_some_iff.1 h3).1).trans h3, h4⟩⟩
theorem CRow.below {w w' : World} {base : Nat} {q : Option Addr} {d : Nat} {ns : List Int} (h : CRow w base q d ns) (hb : Below w.heap.size w w') : CRow w' base q d ns := h.same (fun b _ hb' => hb.block b hb')
theorem CRow.mono {w : World} {base base' : Nat} {q : Option Addr} {d : Nat} {ns : List Int} (h : CRow w base q d ns) (hb : base' ≤ base) : CRow w base' q d ns :=
  ⟨h.1, by
    rcases h.2 with h0 | ⟨g, cap, cur, h1, h2, h3⟩
    · exact .inl h0
    · exact .inr ⟨g, cap, cur, h1, Nat.le_trans hb h2, h3⟩⟩
theorem CRow.nil0 {w : World} {base : Nat} {d : Nat} {ns : List Int} (h : CRow w base none d ns) : d = 0 := by
  rcases h.2 with ⟨h1, _⟩ | ⟨g, cap, cur, h1, _⟩
  · injection h1
  · cases h1
set_option maxRecDepth 100000 in
set_option maxHeartbeats 2000000 in
/-- Clone. -/
theorem clone_any (p : Option Addr) (c : Nat) (ns : List Int) (w : World) (hI : IntsAt w p ns) (hn : ns.length ≤ 1048576) :
    Calls Try.prog 32 #[.slice p ns.length c] w fun e w' => ∃ q d, e = .returned (.slice q ns.length d) ∧ CRow w' w.heap.size q d ns ∧ Below w.heap.size w w' := by
  cases p with
  | none =>
    have hn : ns = [] := by
      rcases Nat.eq_zero_or_pos ns.length with h0 | h0
      · exact List.eq_nil_of_length_eq_zero h0
      · obtain ⟨_, _, h1, _⟩ := hI.cells 0 h0
        cases h1
    subst hn
    have h1 : (binOp .eql 27 (.slice none 0 c) (.slice none 0 0)).run Try.prog w = .ok (.bool true) w := rfl
    clear hI
    show Calls Try.prog 32 #[.slice none 0 c] w _
    go_enter Try.func32, Try.ntmps32
    go_wp2_with fail
    go_ret
    exact ⟨none, 0, rfl, World.ownsRow_nil _ _ _ _, Below.refl _ _⟩
  | some a =>
    have h1 : (binOp .eql 27 (.slice (some a) ns.length c) (.slice none 0 0)).run Try.prog w = .ok (.bool false) w := rfl
    have b1 := alloc_below0 w (.cells #[] 3)
    have hE : (w.alloc (.cells #[] 3)).ownsRow w.heap.size 3 1 (.slice (some ⟨w.heap.size, 0, none⟩) 0 0) 0 [] := ⟨rfl, .inr ⟨w.heap.size, 0, #[], rfl, Nat.le_refl _, World.alloc_heap_new w _, Nat.le_refl _, Nat.zero_le _, rfl, rfl⟩⟩
    obtain ⟨p1, c1, w1, hr1, hA1, hG1⟩ := run_appI 27 w.heap.size _ 0 [] _ hE (some a) ns.length c (cAll ns) (src_i c (hI.below b1) (fun h => by cases h)) (cAll_one ns) (by omega) b1.size
    have hb1 : Below w.heap.size w w1 := b1.trans ((fr_grown hG1).below (fun k hk => by have h7 : some w.heap.size = some k := hk; have := Option.some.inj h7; omega) b1.size)
    rw [Nat.zero_add] at hr1 hA1
    rw [List.nil_append] at hA1
    have HA1 := hid hA1; have HB1 := hid hb1
    clear hE hG1 hA1 hb1 b1 hI
    go_enter Try.func32, Try.ntmps32
    go_wp2_with (first
      | (at_builtin; refine Lib.wpList_append_run _ rfl _ _ _ _ rfl _ _ rfl rfl _ _ hr1 ?_; clear hr1)
      | fail)
    go_ret
    exact ⟨_, _, rfl, HA1.out, HB1.out⟩
end Go.Proofs.Ytbdkogccjnmfoaa
