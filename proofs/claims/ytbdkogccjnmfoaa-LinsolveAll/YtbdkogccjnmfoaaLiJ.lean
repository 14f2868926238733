/- Vectors in memory; bounds of the search. -/
import Derived.Test.YtbdkogccjnmfoaaLiH
namespace Go.Proofs.Ytbdkogccjnmfoaa
open Go.RowKit Go.Shelf

theorem kids_len {p : Pb} (h5 : p.n ≤ 5) (h6 : p.q ≤ 5) (t : Tr) : (kids p t).length ≤ 5 := by
  unfold kids
  split <;> simp <;> omega
theorem sum_le {α : Type} (f : α → Nat) (M : Nat) : ∀ l : List α, (∀ x ∈ l, f x ≤ M) → (l.map f).sum ≤ l.length * M := by
  intro l
  induction l with
  | nil => intro _; simp
  | cons x l ih =>
    intro h
    have h1 := ih (fun y hy => h y (List.mem_cons_of_mem _ hy))
    have h2 := h x List.mem_cons_self
    rw [List.map_cons, List.sum_cons, List.length_cons, Nat.add_mul]
    omega
theorem siz_pow {p : Pb} (h5 : p.n ≤ 5) (h6 : p.q ≤ 5) : ∀ (D : Nat) (t : Tr), siz p D t ≤ 6 ^ D := by
  intro D
  induction D with
  | zero => intro t; exact Nat.zero_le _
  | succ D ih =>
    intro t
    have h1 := sum_le (siz p D) (6 ^ D) (kids p t) (fun c _ => ih c)
    have h2 := Nat.mul_le_mul_right (6 ^ D) (kids_len h5 h6 t)
    have h3 : 1 ≤ 6 ^ D := Nat.pow_pos (by omega)
    rw [siz, Nat.pow_succ]
    split <;> omega
theorem siz_pos {p : Pb} {D : Nat} {t : Tr} (h : Deep p D t) : 1 ≤ siz p D t := by
  cases D with
  | zero => exact h.elim
  | succ D => rw [siz]; omega
theorem len_siz {p : Pb} : ∀ st : List Tr, (∀ t ∈ st, Deep p 13 t) → st.length ≤ (st.map (siz p 13)).sum := by
  intro st
  induction st with
  | nil => intro _; exact Nat.zero_le _
  | cons t st ih =>
    intro h
    have h1 := ih (fun y hy => h y (List.mem_cons_of_mem _ hy))
    have h2 := siz_pos (h t List.mem_cons_self)
    rw [List.map_cons, List.sum_cons, List.length_cons]
    omega
theorem res_len (p : Pb) : ∀ (D : Nat) (t : Tr), (res p D t).length ≤ siz p D t := by
  intro D
  induction D with
  | zero => intro t; exact Nat.zero_le _
  | succ D ih =>
    intro t
    rw [res, siz]
    split
    · have : ∀ l : List Tr, (l.flatMap (res p D)).length ≤ (l.map (siz p D)).sum := by
        intro l
        induction l with
        | nil => exact Nat.zero_le _
        | cons c l il =>
          have := ih c
          rw [List.flatMap_cons, List.length_append, List.map_cons, List.sum_cons]
          omega
      have h1 := this (kids p t).reverse
      rw [List.map_reverse, List.sum_reverse] at h1
      omega
    · split <;> simp
/-- What stands in the place of an attempt that is taken from the stack. -/
theorem step_res {p : Pb} {D : Nat} {t : Tr} (h : Deep p (D + 1) t) (hc : com t = 1) : res p (D + 1) t = (kids p t).reverse.flatMap (res p (D + 1)) ∧ siz p (D + 1) t = 1 + ((kids p t).map (siz p (D + 1))).sum ∧ ∀ c ∈ kids p t, Deep p (D + 1) c := by
  have hd : ∀ c ∈ kids p t, Deep p D c := h hc
  refine ⟨?_, ?_, fun c hk => (hd c hk).mono⟩
  · rw [res, if_pos hc]
    have : ∀ l : List Tr, (∀ c ∈ l, Deep p D c) → l.flatMap (res p D) = l.flatMap (res p (D + 1)) := by
      intro l
      induction l with
      | nil => intro _; rfl
      | cons c l il =>
        intro hl
        rw [List.flatMap_cons, List.flatMap_cons, res_more (hl c List.mem_cons_self), il (fun c hc => hl c (List.mem_cons_of_mem _ hc))]
    exact this _ (fun c hk => hd c (List.mem_reverse.1 hk))
  · rw [siz, if_pos hc]
    have : ∀ l : List Tr, (∀ c ∈ l, Deep p D c) → (l.map (siz p D)).sum = (l.map (siz p (D + 1))).sum := by
      intro l
      induction l with
      | nil => intro _; rfl
      | cons c l il =>
        intro hl
        rw [List.map_cons, List.map_cons, List.sum_cons, List.sum_cons, siz_more (hl c List.mem_cons_self), il (fun c hc => hl c (List.mem_cons_of_mem _ hc))]
    rw [this _ hd]
/-- A vector, and where it lies. -/
structure Vc where
  b : Nat
  c : Nat
  l : List Nat
abbrev vcV (v : Vc) : Value := .slice (some ⟨v.b, 0, none⟩) v.l.length v.c
def VcAt (w : World) (v : Vc) : Prop := w.ownsRow 0 3 1 (vcV v) v.l.length (cAll (toI v.l))
theorem VcAt.same {w w' : World} {v : Vc} (h : VcAt w v) (hs : w'.heap[v.b]? = w.heap[v.b]?) : VcAt w' v :=
  ⟨h.1, by
    rcases h.2 with h0 | ⟨g, cap, cur, h1, h2, h3, h4⟩
    · exact .inl h0
    · have e : v.b = g := by injection h1 with h1 _ _; injection h1 with h1; injection h1
      subst e
      exact .inr ⟨v.b, cap, cur, h1, h2, hs.trans h3, h4⟩⟩
theorem VcAt.blk {w : World} {v : Vc} (h : VcAt w v) : ∃ cur, w.heap[v.b]? = some (.cells cur 3 (0, 0)) ∧ v.l.length ≤ v.c ∧ cur.size = v.c ∧ v.c ≤ maxLen := by
  rcases h.2 with ⟨h0, _⟩ | ⟨g, cap, cur, h1, h2, h3, h4, h5, h6, h7⟩
  · cases h0
  · injection h1 with h1 _ hc
    injection h1 with h1
    injection h1 with h1 _ _
    subst h1 hc
    exact ⟨cur, h3, h4, by omega, h5⟩
theorem VcAt.ints {w : World} {v : Vc} (h : VcAt w v) : IntsIn (fun b => b = v.b) w (some ⟨v.b, 0, none⟩) (toI v.l) := by
  rcases h.2 with ⟨h0, _⟩ | ⟨g, cap, cur, h1, h2, h3, h4, h5, h6, h7⟩
  · cases h0
  · injection h1 with h1 _ hc
    injection h1 with h1
    injection h1 with h1 _ _
    subst h1
    refine ⟨by rw [toI_len]; omega, fun i hi => ⟨v.b, 0, rfl, rfl, ?_⟩⟩
    rw [cell_of_row w v.b _ _ 3 (0, 0) h3, Nat.zero_add]
    have hi' : i < v.l.length := by rw [← toI_len]; exact hi
    have e1 : (cur.toList.take (v.l.length * 1))[i]? = (cAll (toI v.l))[i]? := by rw [h7]
    rw [List.getElem?_take_of_lt (by omega)] at e1
    unfold cAll at e1
    rw [List.getElem?_map, List.getElem?_eq_getElem hi] at e1
    simpa using e1
/-- A row of vectors that a call has made. -/
structure VRow (w : World) (base : Nat) (v : Value) (vs : List Vc) : Prop where
  row : w.ownsRow base 52 1 v vs.length (vs.map vcV)
  vec : ∀ x ∈ vs, base ≤ x.b ∧ VcAt w x
  once : (vs.map Vc.b).Nodup
theorem VRow.nil (w : World) (base : Nat) : VRow w base (.slice none 0 0) [] := ⟨World.ownsRow_nil _ _ _ _, by simp, by simp⟩
theorem ne_type {w : World} {a b : Nat} {ca cb : Array Value} {ta tb : TypeId} {fa fb : Nat × Nat} (ha : w.heap[a]? = some (.cells ca ta fa)) (hb : w.heap[b]? = some (.cells cb tb fb)) (h : ta ≠ tb) : a ≠ b := fun e => by
  subst e
  rw [ha] at hb
  injection hb with hb
  injection hb with _ hb _
  exact h hb
theorem own_blk {w : World} {base e size n : Nat} {v : Value} {xs : List Value} (h : w.ownsRow base e size v n xs) {q : Nat} (hq : v.ownBlock = some q) : ∃ cur, w.heap[q]? = some (.cells cur e (0, 0)) ∧ base ≤ q := by
  rcases h.2 with ⟨h0, _⟩ | ⟨g, cap, cur, h1, h2, h3, h4⟩
  · rw [h0] at hq; cases hq
  · rw [h1] at hq
    have : g = q := Option.some.inj hq
    subst this
    exact ⟨cur, h3, h2⟩
theorem own_same {w w' : World} {base e size n : Nat} {v : Value} {xs : List Value} (h : w.ownsRow base e size v n xs) (hs : ∀ q, v.ownBlock = some q → w'.heap[q]? = w.heap[q]?) : w'.ownsRow base e size v n xs :=
  ⟨h.1, by
    rcases h.2 with h0 | ⟨g, cap, cur, h1, h2, h3, h4⟩
    · exact .inl h0
    · exact .inr ⟨g, cap, cur, h1, h2, (hs g (by rw [h1]; rfl)).trans h3, h4⟩⟩
/-- Where only blocks of another type turn, a row of vectors stays. -/
theorem VRow.keep {w w' : World} {base : Nat} {v : Value} {vs : List Vc} (h : VRow w base v vs) (hs : ∀ (q : Nat) (cur : Array Value) (t : TypeId), w.heap[q]? = some (Obj.cells cur t (0, 0)) → (t = 3 ∨ t = 52) → w'.heap[q]? = w.heap[q]?) : VRow w' base v vs :=
  ⟨own_same h.row (fun q hq => by obtain ⟨cur, h1, _⟩ := own_blk h.row hq; exact hs q cur 52 h1 (.inr rfl)), fun x hx => ⟨(h.vec x hx).1, (h.vec x hx).2.same (by obtain ⟨cur, h1, _⟩ := (h.vec x hx).2.blk; exact hs _ cur 3 h1 (.inl rfl))⟩, h.once⟩
theorem VRow.below {w w' : World} {base : Nat} {v : Value} {vs : List Vc} (h : VRow w base v vs) (hb : Below w.heap.size w w') : VRow w' base v vs := h.keep (fun q _ _ h1 _ => hb.block q (Array.getElem?_eq_some_iff.1 h1).1)
theorem info52 : (Try.prog.info? 52).map (fun i => (i.zero, i.size, i.bytes)) = some (some (.slice none 0 0), 1, 24) := by kernel_rfl
/-- A vector more. -/
theorem run_appV (ty base : Nat) (v : Value) (vs : List Vc) (x : Vc) (w : World) (hR : VRow w base v vs) (b : Nat) (hb : w.heap[b]? = some (.cells #[vcV x] 52 (0, 0))) (hx : VcAt w x) (hxb : base ≤ x.b) (hxn : ∀ y ∈ vs, y.b ≠ x.b) (hn : vs.length + 1 ≤ 1000000000000) (hbase : base ≤ w.heap.size) :
    ∃ v' w', (Builtin.append_ #[49, 49] ty #[v, .slice (some ⟨b, 0, none⟩) 1 1]).run Try.prog w = .ok v' w' ∧ VRow w' base v' (vs ++ [x]) ∧ Fr (fun q => v.ownBlock = some q) w w' := by
  obtain ⟨i0, hi0, hz0, hz1, hz2⟩ := info_parts info52
  obtain ⟨v', w', hr, h2, h3, _, h5⟩ := run_append_own_at (P := Try.prog) w base 49 ty 52 i0 _ 1 24 Try.underlying49 hi0 hz0 hz1 hz2 rfl (by decide) v vs.length (vs.map vcV) hR.row ⟨b, 0, none⟩ 1 1 [vcV x] rfl (fun j u hj => by
    match j, hj with
    | 0, hj => cases hj; exact cell_box hb rfl) (fun u hu => by rw [List.mem_singleton.1 hu]; rfl) (by unfold maxLen; omega) (by omega) hbase
  have hf := fr_grown h3
  have keep : ∀ y, VcAt w y → VcAt w' y := fun y hy => hy.same (by
    obtain ⟨cur, h1, _⟩ := hy.blk
    refine hf.same _ (Array.getElem?_eq_some_iff.1 h1).1 (fun e => ?_)
    obtain ⟨cur', h1', _⟩ := own_blk hR.row e
    exact ne_type h1 h1' (by decide) rfl)
  refine ⟨v', w', hr, ⟨by rw [List.length_append, List.map_append]; exact h2, fun y hy => ?_, ?_⟩, hf⟩
  · rcases List.mem_append.1 hy with hy | hy
    · exact ⟨(hR.vec y hy).1, keep y (hR.vec y hy).2⟩
    · rw [List.mem_singleton.1 hy]
      exact ⟨hxb, keep x hx⟩
  · rw [List.map_append, List.nodup_append]
    refine ⟨hR.once, by simp, ?_⟩
    intro a ha c hc
    obtain ⟨y, hy, rfl⟩ := List.mem_map.1 ha
    simp at hc
    rw [hc]
    exact hxn y hy
end Go.Proofs.Ytbdkogccjnmfoaa
