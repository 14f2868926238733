/- Rows of numbers that a call has made; slices.Clone; append of one. -/
import Derived.Test.YtdpdpjfnanjmgaaDoorSpA
import Derived.OwnWalk
import Derived.Laws.OwnMore
import Derived.Maps.AppendAt
import Derived.Lib.AppendZeros
import Derived.Deep.AppendLies
import Derived.Laws.AppendOwnNone
import Derived.Lib.SmallJoins
namespace Go.Proofs.YtdpdpjfnanjmgaaDoor
open Go.RowKit Go.Shelf

theorem Tryd.info3 : (Tryd.prog.info? 3).map (fun i => (i.zero, i.size, i.bytes)) = some (some (.int .i64 0), 1, 8) := by kernel_rfl


/-- The cells of numbers. -/
def cAll (ns : List Int) : List Value := ns.map (Value.int .i64)
theorem cAll_len (ns : List Int) : (cAll ns).length = ns.length := List.length_map _
theorem cAll_one (ns : List Int) : ∀ u ∈ cAll ns, u.oneCell' = true := fun u hu => by obtain ⟨x, _, rfl⟩ := List.mem_map.1 hu; rfl
theorem fr_grown {w w' : World} {r : Option Nat} (h : w.grownBy w' r) : Fr (fun q => r = some q) w w' := ⟨⟨h.os, h.tape, h.output, h.size, fun k hk => absurd hk (Nat.not_lt_zero k)⟩, fun k hk hA => h.block k hk (fun e => hA e.symm)⟩
theorem src_i {w : World} {a : Option Addr} {ns : List Int} (c : Nat) (h : IntsAt w a ns) (ha : a = none → c = 0) : (a = none ∧ ns.length = 0 ∧ c = 0 ∧ cAll ns = []) ∨ ∃ ad, a = some ad ∧ (cAll ns).length = ns.length * 1 ∧ ∀ j u, (cAll ns)[j]? = some u → w.cell? (ad.add j) = some u := by
  cases a with
  | none =>
    have hl : ns.length = 0 := by
      rcases Nat.eq_zero_or_pos ns.length with h0 | h0
      · exact h0
      · obtain ⟨_, _, h1, _⟩ := h.cells 0 h0
        cases h1
    have hn : ns = [] := List.eq_nil_of_length_eq_zero hl
    subst hn
    exact .inl ⟨rfl, rfl, ha rfl, rfl⟩
  | some ad =>
    refine .inr ⟨ad, rfl, by rw [cAll_len, Nat.mul_one], fun j u hj => ?_⟩
    have hjl : j < ns.length := by have := (List.getElem?_eq_some_iff.1 hj).1; rwa [cAll_len] at this
    obtain ⟨b, o, h1, h2⟩ := h.cells j hjl
    cases h1
    rw [Addr.add_lit, h2]
    unfold cAll at hj
    rw [List.getElem?_map, List.getElem?_eq_getElem hjl] at hj
    exact hj
theorem run_appI (ty base : Nat) (v : Value) (n : Nat) (xs : List Value) (w : World) (hown : w.ownsRow base 3 1 v n xs) (px : Option Addr) (m cx : Nat) (news : List Value)
    (hsrc : (px = none ∧ m = 0 ∧ cx = 0 ∧ news = []) ∨ ∃ ad, px = some ad ∧ news.length = m * 1 ∧ ∀ j u, news[j]? = some u → w.cell? (ad.add j) = some u) (h1 : ∀ u ∈ news, u.oneCell' = true) (hb : n + m ≤ 2097153) (hbase : base ≤ w.heap.size) :
    ∃ p' c' w', (Builtin.append_ #[23, 23] ty #[v, .slice px m cx]).run Tryd.prog w = .ok (.slice p' (n + m) c') w' ∧ w'.ownsRow base 3 1 (.slice p' (n + m) c') (n + m) (xs ++ news) ∧ w.grownBy w' v.ownBlock := by
  obtain ⟨i0, hi0, hz0, hz1, hz2⟩ := info_parts Tryd.info3
  have form : ∀ {W : World} {v' : Value} {k : Nat} {ys : List Value}, W.ownsRow base 3 1 v' k ys → ∃ p' c', v' = .slice p' k c' := by
    intro W v' k ys h
    rcases h.2 with ⟨h2, h3⟩ | ⟨g, c, _, h2, _⟩
    · exact ⟨none, 0, by rw [h2, h3]⟩
    · exact ⟨_, _, h2⟩
  rcases hsrc with ⟨rfl, rfl, rfl, rfl⟩ | ⟨ad, rfl, hl, hnews⟩
  · obtain ⟨p', c', rfl⟩ := form hown
    refine ⟨p', c', w, run_append_owned_none (P := Tryd.prog) (w := w) base 23 ty 3 i0 1 Tryd.underlying23 hi0 _ n xs hown, ?_, World.grownBy.refl _ _⟩
    rw [List.append_nil]
    exact hown
  · obtain ⟨v', w', hr, h2, h3, _, h5⟩ := run_append_own_at (P := Tryd.prog) w base 23 ty 3 i0 _ 1 8 Tryd.underlying23 hi0 hz0 hz1 hz2 rfl (by decide) v n xs hown ad m cx news hl hnews h1 (by unfold maxLen; omega) (by omega) hbase
    obtain ⟨p', c', rfl⟩ := form h2
    exact ⟨p', c', w', hr, h2, h3⟩
/-- A row of numbers that a call has made, in a block from base on. -/
def CRow (w : World) (base : Nat) (q : Option Addr) (d : Nat) (ns : List Int) : Prop := w.ownsRow base 3 1 (.slice q ns.length d) ns.length (cAll ns)
theorem CRow.ints {w : World} {base : Nat} {q : Option Addr} {d : Nat} {ns : List Int} (h : CRow w base q d ns) : IntsAt w q ns := by
  rcases h.2 with ⟨h1, h2⟩ | ⟨g, cap, cur, h1, h2, h3, h4, h5, h6, h7⟩
  · have hn : ns = [] := List.eq_nil_of_length_eq_zero h2
    subst hn
    exact ⟨Nat.zero_le _, fun i hi => absurd hi (Nat.not_lt_zero i)⟩
  · cases h1
    refine ⟨Nat.le_trans h4 h5, fun i hi => ⟨g, 0, rfl, ?_⟩⟩
    rw [cell_of_row w g _ _ 3 (0, 0) h3, Nat.zero_add]
    have e1 : (cur.toList.take (ns.length * 1))[i]? = (cAll ns)[i]? := by rw [h7]
    rw [List.getElem?_take_of_lt (by omega)] at e1
    unfold cAll at e1
    rw [List.getElem?_map, List.getElem?_eq_getElem hi] at e1
    simpa using e1
theorem CRow.same {w w' : World} {base : Nat} {q : Option Addr} {d : Nat} {ns : List Int} (h : CRow w base q d ns) (hs : ∀ b, base ≤ b → b < w.heap.size → w'.heap[b]? = w.heap[b]?) : CRow w' base q d ns :=
  ⟨h.1, by
    rcases h.2 with h0 | ⟨g, cap, cur, h1, h2, h3, h4⟩
    · exact .inl h0
    · exact .inr ⟨g, cap, cur, h1, h2, (hs g h2 (Array.getElem?_eq_some_iff.1 h3).1).trans h3, h4⟩⟩
theorem CRow.below {w w' : World} {base : Nat} {q : Option Addr} {d : Nat} {ns : List Int} (h : CRow w base q d ns) (hb : Below w.heap.size w w') : CRow w' base q d ns := h.same (fun b _ hb' => hb.block b hb')
theorem CRow.mono {w : World} {base base' : Nat} {q : Option Addr} {d : Nat} {ns : List Int} (h : CRow w base q d ns) (hb : base' ≤ base) : CRow w base' q d ns :=
  ⟨h.1, by
    rcases h.2 with h0 | ⟨g, cap, cur, h1, h2, h3⟩
    · exact .inl h0
    · exact .inr ⟨g, cap, cur, h1, Nat.le_trans hb h2, h3⟩⟩
theorem CRow.nil0 {w : World} {base : Nat} {d : Nat} {ns : List Int} (h : CRow w base none d ns) : d = 0 := by
  rcases h.2 with ⟨h1, _⟩ | ⟨g, cap, cur, h1, _⟩
  · injection h1
  · cases h1
set_option maxRecDepth 100000 in
set_option maxHeartbeats 2000000 in
/-- Clone. -/
theorem clone_any (p : Option Addr) (c : Nat) (ns : List Int) (w : World) (hI : IntsAt w p ns) (hn : ns.length ≤ 1048576) :
    Calls Tryd.prog 26 #[.slice p ns.length c] w fun e w' => ∃ q d, e = .returned (.slice q ns.length d) ∧ CRow w' w.heap.size q d ns ∧ Below w.heap.size w w' := by
  cases p with
  | none =>
    have hn : ns = [] := by
      rcases Nat.eq_zero_or_pos ns.length with h0 | h0
      · exact List.eq_nil_of_length_eq_zero h0
      · obtain ⟨_, _, h1, _⟩ := hI.cells 0 h0
        cases h1
    subst hn
    have h1 : (binOp .eql 23 (.slice none 0 c) (.slice none 0 0)).run Tryd.prog w = .ok (.bool true) w := rfl
    clear hI
    show Calls Tryd.prog 26 #[.slice none 0 c] w _
    go_enter Tryd.func26, Tryd.ntmps26
    go_wp2_with fail
    go_ret
    exact ⟨none, 0, rfl, World.ownsRow_nil _ _ _ _, Below.refl _ _⟩
  | some a =>
    have h1 : (binOp .eql 23 (.slice (some a) ns.length c) (.slice none 0 0)).run Tryd.prog w = .ok (.bool false) w := rfl
    have b1 := alloc_below0 w (.cells #[] 3)
    have hE : (w.alloc (.cells #[] 3)).ownsRow w.heap.size 3 1 (.slice (some ⟨w.heap.size, 0, none⟩) 0 0) 0 [] := ⟨rfl, .inr ⟨w.heap.size, 0, #[], rfl, Nat.le_refl _, World.alloc_heap_new w _, Nat.le_refl _, Nat.zero_le _, rfl, rfl⟩⟩
    obtain ⟨p1, c1, w1, hr1, hA1, hG1⟩ := run_appI 23 w.heap.size _ 0 [] _ hE (some a) ns.length c (cAll ns) (src_i c (hI.below b1) (fun h => by cases h)) (cAll_one ns) (by omega) b1.size
    have hb1 : Below w.heap.size w w1 := b1.trans ((fr_grown hG1).below (fun k hk => by have h7 : some w.heap.size = some k := hk; have := Option.some.inj h7; omega) b1.size)
    rw [Nat.zero_add] at hr1 hA1
    rw [List.nil_append] at hA1
    have HA1 := hid hA1; have HB1 := hid hb1
    clear hE hG1 hA1 hb1 b1 hI
    go_enter Tryd.func26, Tryd.ntmps26
    go_wp2_with (first
      | (at_builtin; refine Lib.wpList_append_run _ rfl _ _ _ _ rfl _ _ rfl rfl _ _ hr1 ?_; clear hr1)
      | fail)
    go_ret
    exact ⟨_, _, rfl, HA1.out, HB1.out⟩

/-- A row that a call has made: its cells, and zeros behind them. -/
def OwnZ (w : World) (base e : Nat) (z v : Value) (xs : List Value) : Prop :=
  (v = .slice none 0 0 ∧ xs = []) ∨ ∃ g cap, v = .slice (some ⟨g, 0, none⟩) xs.length cap ∧ base ≤ g ∧ xs.length ≤ cap ∧ cap ≤ maxLen ∧ w.heap[g]? = some (.cells (xs ++ List.replicate (cap - xs.length) z).toArray e (0, 0))
theorem OwnZ.nil (w : World) (base e : Nat) (z : Value) : OwnZ w base e z (.slice none 0 0) [] := .inl ⟨rfl, rfl⟩
theorem OwnZ.form {w : World} {base e : Nat} {z v : Value} {xs : List Value} (h : OwnZ w base e z v xs) : ∃ p c, v = .slice p xs.length c := by
  rcases h with ⟨h1, rfl⟩ | ⟨g, cap, h1, _⟩
  · exact ⟨none, 0, h1⟩
  · exact ⟨_, _, h1⟩
theorem OwnZ.same {w w' : World} {base e : Nat} {z v : Value} {xs : List Value} (h : OwnZ w base e z v xs) (hs : ∀ k, v.ownBlock = some k → w'.heap[k]? = w.heap[k]?) : OwnZ w' base e z v xs := by
  rcases h with h | ⟨g, cap, rfl, h2, h3, h4, h5⟩
  · exact .inl h
  · exact .inr ⟨g, cap, rfl, h2, h3, h4, (hs g rfl).trans h5⟩
theorem OwnZ.lt {w : World} {base e : Nat} {z v : Value} {xs : List Value} (h : OwnZ w base e z v xs) {k : Nat} (hk : v.ownBlock = some k) : base ≤ k ∧ k < w.heap.size := by
  rcases h with ⟨rfl, _⟩ | ⟨g, cap, rfl, h2, h3, h4, h5⟩
  · cases hk
  · cases hk
    exact ⟨h2, (Array.getElem?_eq_some_iff.1 h5).1⟩
theorem OwnZ.below {w w' : World} {base e : Nat} {z v : Value} {xs : List Value} (h : OwnZ w base e z v xs) (hb : Below w.heap.size w w') : OwnZ w' base e z v xs := h.same (fun _ hk => hb.block _ (h.lt hk).2)
theorem OwnZ.mono {w : World} {base base' e : Nat} {z v : Value} {xs : List Value} (h : OwnZ w base e z v xs) (hb : base' ≤ base) : OwnZ w base' e z v xs := by
  rcases h with h0 | ⟨g, cap, h1, h2, h3⟩
  · exact .inl h0
  · exact .inr ⟨g, cap, h1, Nat.le_trans hb h2, h3⟩
theorem OwnZ.cell {w : World} {base e : Nat} {z : Value} {xs : List Value} {a : Option Addr} {n c : Nat} (h : OwnZ w base e z (.slice a n c) xs) {i : Nat} (hi : i < xs.length) : ∃ g, a = some ⟨g, 0, none⟩ ∧ base ≤ g ∧ w.cell? ⟨g, 0 + i, none⟩ = some xs[i] := by
  rcases h with ⟨_, rfl⟩ | ⟨g, cap, h1, h2, h3, h4, h5⟩
  · exact absurd hi (Nat.not_lt_zero i)
  · injection h1 with h1 _ _
    refine ⟨g, h1, h2, ?_⟩
    rw [cell_of_row w g _ _ e (0, 0) h5, Nat.zero_add]
    simp [List.getElem?_append_left hi]
theorem zero_cells (z : Value) (hz : z.cells = #[z]) (n : Nat) : (Builtin.zeroCells z.cells n).toList = List.replicate n z := by
  rw [hz]
  refine List.ext_getElem (by simp [Builtin.zeroCells]) (fun i h1 h2 => ?_)
  simp [Builtin.zeroCells, Nat.mod_one]
theorem cell_new (w : World) (x : Value) (e : Nat) : ∀ j u, [x][j]? = some u → (w.alloc (.cells #[x] e)).cell? ((⟨w.heap.size, 0, none⟩ : Addr).add j) = some u := fun j u hj => by
  match j, hj with
  | 0, hj =>
    simp at hj
    subst hj
    rw [Addr.add_lit]
    exact cell_box (World.alloc_heap_new w (.cells #[x] e)) rfl
/-- One more cell. -/
theorem app_one {P : Program} (t ty e : TypeId) (i : TypeInfo) (z : Value) (bytes : Nat) (ht : P.underlying t = some (.slice e)) (hi : P.info? e = some i) (hz : i.zero = some z) (hsize : i.size = 1) (hby : i.bytes = bytes) (hzc : z.cells = #[z])
    (base : Nat) (v : Value) (xs : List Value) (x : Value) (w : World) (hown : OwnZ w base e z v xs) (h1 : x.oneCell' = true) (hb : xs.length + 1 ≤ 2097153) (hbb : (xs.length + 1) * bytes ≤ 140737488355328) (hbase : base ≤ w.heap.size) :
    ∃ g cap w', (Builtin.append_ #[t, t] ty #[v, .slice (some ⟨w.heap.size, 0, none⟩) 1 1]).run P (w.alloc (.cells #[x] e)) = .ok (.slice (some ⟨g, 0, none⟩) (xs ++ [x]).length cap) w' ∧ OwnZ w' base e z (.slice (some ⟨g, 0, none⟩) (xs ++ [x]).length cap) (xs ++ [x]) ∧ Fr (fun q => v.ownBlock = some q) w w' := by
  have hn := cell_new w x e
  have b1 := alloc_below0 w (.cells #[x] e)
  have hlen : (xs ++ [x]).length = xs.length + 1 := by simp
  have hmax : maxLen = 9223372036854775807 := rfl
  have hone : ∀ u ∈ [x], u.oneCell' = true := fun u hu => by rw [List.mem_singleton.1 hu]; exact h1
  rw [hlen]
  generalize hW1 : w.alloc (.cells #[x] e) = W1 at hn b1
  have hs1 : W1.heap.size = w.heap.size + 1 := by rw [← hW1]; exact World.size_alloc _ _
  have fin : ∀ old : Nat, Fr (fun q => v.ownBlock = some q) w (W1.drew.alloc (.cells (xs.toArray ++ [x].toArray ++ Builtin.zeroCells z.cells (grownCap W1 (xs.length + 1) old e - (xs.length + 1))) e)) ∧ OwnZ (W1.drew.alloc (.cells (xs.toArray ++ [x].toArray ++ Builtin.zeroCells z.cells (grownCap W1 (xs.length + 1) old e - (xs.length + 1))) e)) base e z (.slice (some ⟨W1.heap.size, 0, none⟩) (xs.length + 1) (grownCap W1 (xs.length + 1) old e)) (xs ++ [x]) := fun old => by
    refine ⟨Fr.of_below (b1.trans ((Below.refl _ W1).drew.alloc (show w.heap.size ≤ W1.heap.size by omega) _)), .inr ⟨W1.heap.size, _, by rw [hlen], by omega, by rw [hlen]; exact grownCap_ge W1 (xs.length + 1) old e, grownCap_le_maxLen W1 (xs.length + 1) old e (by omega), ?_⟩⟩
    rw [show W1.heap.size = W1.drew.heap.size from rfl, World.alloc_heap_new W1.drew]
    congr 2
    refine Array.toList_inj.1 ?_
    rw [Array.toList_append, zero_cells z hzc, hlen]
    simp
  rcases hown with ⟨rfl, rfl⟩ | ⟨g, cap, rfl, h2, h3, h4, h5⟩
  · have hr := run_append_nil (P := P) W1 t ty e i z ht hi hz ⟨w.heap.size, 0, none⟩ 1 1 [x] (by rw [hsize]; rfl) hn (by omega) (by omega) (by rw [hby]; simp at hbb; omega)
    have h9 := fin 0
    simp only [List.length_nil, Nat.zero_add, List.nil_append, Array.empty_append] at h9 ⊢
    exact ⟨_, _, _, hr, h9.2, h9.1⟩
  · have hg : W1.heap[g]? = some (.cells (xs ++ List.replicate (cap - xs.length) z).toArray e (0, 0)) := (b1.block g (Array.getElem?_eq_some_iff.1 h5).1).trans h5
    by_cases hroom : xs.length + 1 ≤ cap
    · have hr := run_append_room (P := P) W1 t ty e i ht hi g xs.length cap _ hg ⟨w.heap.size, 0, none⟩ 1 1 [x] (by rw [hsize]; rfl) hn hone hroom (by rw [hsize]; simp; omega)
      refine ⟨g, cap, _, hr, .inr ⟨g, cap, by rw [hlen], h2, by omega, h4, ?_⟩, ⟨⟨b1.os, b1.tape, b1.output, by rw [show (W1.setRow g _).heap.size = W1.heap.size by simp [World.setRow]]; omega, fun k hk => absurd hk (Nat.not_lt_zero k)⟩, ?_⟩⟩
      · rw [setRow_heap W1 g _ _ e (0, 0) hg]
        congr 2
        rw [hsize, Nat.mul_one]
        obtain ⟨k, hk⟩ : ∃ k, cap - xs.length = k + 1 := ⟨cap - xs.length - 1, by omega⟩
        rw [hk, hlen, show cap - (xs.length + 1) = k by omega]
        simp
      · intro q hq hA
        rw [setRow_other W1 g q _ (fun e => hA (by rw [e]; rfl))]
        exact b1.block q hq
    · have holds : ∀ j u, xs[j]? = some u → W1.cell? ((⟨g, 0, none⟩ : Addr).add j) = some u := fun j u hj => by
        obtain ⟨hjl, hju⟩ := List.getElem?_eq_some_iff.1 hj
        rw [Addr.add_lit, cell_of_row W1 g _ _ e (0, 0) hg]
        simp only [Nat.zero_add, List.getElem?_toArray, List.getElem?_append_left hjl]
        exact hj
      have hr := run_append_grow (P := P) W1 t ty e i z ht hi hz ⟨g, 0, none⟩ xs.length cap xs (by rw [hsize, Nat.mul_one]) holds ⟨w.heap.size, 0, none⟩ 1 1 [x] (by rw [hsize]; rfl) hn (by omega) (by omega) (growslice_fits (by omega) (by rw [hby]; exact hbb))
      exact ⟨_, _, _, hr, (fin cap).2, (fin cap).1⟩
end Go.Proofs.YtdpdpjfnanjmgaaDoor
