/- Rows of numbers that a call lets grow; two agendas and two rows side by side. -/
import Derived.Test.YtchjdpmgocapjaaAgLv
namespace Go.Proofs.Ytchjdpmgocapjaa
open Go.RowKit Go.Shelf

def iV (x : Int) : Value := .int .i64 x
theorem info3 : (Try.prog.info? 3).map (fun i => (i.zero, i.size, i.bytes)) = some (some (.int .i64 0), 1, 8) := by kernel_rfl
/-- A row of numbers that the call has made. -/
def IOwn (w : World) (v : Value) (xs : List Int) : Prop := w.ownsRow 0 3 1 v xs.length (xs.map iV)
theorem iown_nil (w : World) : IOwn w (.slice none 0 0) [] := ⟨rfl, .inl ⟨rfl, rfl⟩⟩
theorem IOwn.form {w : World} {v : Value} {xs : List Int} (h : IOwn w v xs) : ∃ p c, v = .slice p xs.length c := by
  rcases h.2 with ⟨h1, h2⟩ | ⟨g, cap, cur, h1, _⟩
  · rw [h2]; exact ⟨_, _, h1⟩
  · exact ⟨_, _, h1⟩
theorem IOwn.row {w : World} {v : Value} {xs : List Int} (h : IOwn w v xs) {g : Nat} (hg : v.ownBlock = some g) : g < w.heap.size := by
  rcases h.2 with ⟨rfl, _⟩ | ⟨g', cap, cur, rfl, _, h3, _⟩
  · cases hg
  · cases hg
    exact (Array.getElem?_eq_some_iff.1 h3).1
theorem IOwn.fr {P : Nat → Prop} {w w' : World} {v : Value} {xs : List Int} (h : IOwn w v xs) (hf : Fr P w w') (hv : ∀ g, v.ownBlock = some g → ¬ P g) : IOwn w' v xs := by
  refine ⟨h.1, ?_⟩
  rcases h.2 with h1 | ⟨g, cap, cur, rfl, h2, h3, h4⟩
  · exact .inl h1
  · exact .inr ⟨g, cap, cur, rfl, h2, (hf.same g (Array.getElem?_eq_some_iff.1 h3).1 (hv g rfl)).trans h3, h4⟩
theorem IOwn.cell {w : World} {p : Option Addr} {n c : Nat} {xs : List Int} (h : IOwn w (.slice p n c) xs) (i : Nat) (hi : i < xs.length) : ∃ g, p = some ⟨g, 0, none⟩ ∧ n = xs.length ∧ n ≤ c ∧ c ≤ maxLen ∧ w.cell? ⟨g, i, none⟩ = some (.int .i64 xs[i]) := by
  rcases h.2 with ⟨h1, h2⟩ | ⟨g, cap, cur, h1, h2, h3, h4, h5, h6, h7⟩
  · omega
  · injection h1 with e1 e2 e3
    subst e1 e2 e3
    refine ⟨g, rfl, rfl, h4, h5, ?_⟩
    refine cell_box h3 ?_
    have h8 : (cur.toList.take (xs.length * 1))[i]? = (xs.map iV)[i]? := by rw [h7]
    rw [List.getElem?_take, if_pos (by omega), Array.getElem?_toList, List.getElem?_map, List.getElem?_eq_getElem hi] at h8
    exact h8
/-- One more number. -/
theorem app_int (v : Value) (xs : List Int) (x : Int) (w : World) (h : IOwn w v xs) (hn : xs.length + 1 ≤ 2097153) :
    ∃ v' w', (Builtin.append_ #[52, 52] 52 #[v, .slice (some ⟨w.heap.size, 0, none⟩) 1 1]).run Try.prog (w.alloc (.cells #[.int .i64 x] 3)) = .ok v' w' ∧ IOwn w' v' (xs ++ [x]) ∧ Fr (fun q => v.ownBlock = some q) w w' ∧ ∀ g, v'.ownBlock = some g → v.ownBlock = some g ∨ w.heap.size ≤ g := by
  obtain ⟨i0, hi0, hz0, hz1, hz2⟩ := info_parts info3
  have hb := alloc_below0 w (.cells #[.int .i64 x] 3)
  have h' : IOwn (w.alloc (.cells #[.int .i64 x] 3)) v xs := h.fr (Fr.of_below (A := fun _ => False) hb) (fun _ _ hx => hx)
  obtain ⟨v', w', hr, h2, h3, _, h5⟩ := run_append_own_at (P := Try.prog) (w.alloc (.cells #[.int .i64 x] 3)) 0 52 52 3 i0 _ 1 8 Try.underlying52 hi0 hz0 hz1 hz2 rfl (by decide) v xs.length _ h' ⟨w.heap.size, 0, none⟩ 1 1 [.int .i64 x] rfl (fun j y hj => by
    match j, hj with
    | 0, hj => cases hj; exact cell_box (World.alloc_heap_new w _) rfl) (by simp [Value.oneCell']) (by unfold maxLen; omega) (by omega) (Nat.zero_le _)
  refine ⟨v', w', hr, ?_, (Fr.of_below hb).trans (fr_grown h3), fun g hg => ?_⟩
  · unfold IOwn
    rw [List.map_append, List.length_append]
    exact h2
  · rcases h5 with h5 | h5
    · exact .inl (h5 ▸ hg)
    · rw [h5] at hg
      refine .inr ?_
      rw [← Option.some.inj hg, World.size_alloc]
      omega
/-- Two agendas and two rows of numbers, apart from each other and from all that was there ahead. -/
structure Mem (w0 w : World) (A B : Nat) (mA lA : Int) (LA : List Th) (mB lB : Int) (LB : List Th) (vt : Value) (ts : List Int) (vo : Value) (os : List Int) (Fa Fb : Nat → Prop) : Prop where
  a : AgAt w A mA lA LA Fa
  b : AgAt w B mB lB LB Fb
  t : IOwn w vt ts
  o : IOwn w vo os
  ab : ∀ q, Fa q → ¬ Fb q
  ts : ∀ q, vt.ownBlock = some q → ¬ Fa q ∧ ¬ Fb q ∧ vo.ownBlock ≠ some q ∧ w0.heap.size ≤ q
  os : ∀ q, vo.ownBlock = some q → ¬ Fa q ∧ ¬ Fb q ∧ w0.heap.size ≤ q
  fa : ∀ q, Fa q → w0.heap.size ≤ q
  fb : ∀ q, Fb q → w0.heap.size ≤ q
  low : Below w0.heap.size w0 w
section
variable {w0 w w' : World} {A B : Nat} {mA lA : Int} {LA : List Th} {mB lB : Int} {LB : List Th} {vt : Value} {ts : List Int} {vo : Value} {os : List Int} {Fa Fb : Nat → Prop}
theorem Mem.opA (h : Mem w0 w A B mA lA LA mB lB LB vt ts vo os Fa Fb) {l' : Int} {L' : List Th} (he : AgEnd w w' A mA l' L' Fa) : ∃ Fa', Mem w0 w' A B mA l' L' mB lB LB vt ts vo os Fa' Fb := by
  obtain ⟨F', h1, h2, h3⟩ := he
  have s := h.low.size
  refine ⟨F', h1, h.b.fr h2 (fun b hb ha => h.ab b ha hb), h.t.fr h2 (fun g hg => (h.ts g hg).1), h.o.fr h2 (fun g hg => (h.os g hg).1), fun q hq hb => ?_, fun q hq => ⟨fun hx => ?_, (h.ts q hq).2⟩, fun q hq => ⟨fun hx => ?_, (h.os q hq).2⟩, fun q hq => ?_, h.fb, h.low.trans (h2.below h.fa s)⟩
  · rcases h3 q hq with h4 | h4
    · exact h.ab q h4 hb
    · have := h.b.lt q hb; omega
  · rcases h3 q hx with h4 | h4
    · exact (h.ts q hq).1 h4
    · have := h.t.row hq; omega
  · rcases h3 q hx with h4 | h4
    · exact (h.os q hq).1 h4
    · have := h.o.row hq; omega
  · rcases h3 q hq with h4 | h4
    · exact h.fa q h4
    · omega
theorem Mem.opB (h : Mem w0 w A B mA lA LA mB lB LB vt ts vo os Fa Fb) {l' : Int} {L' : List Th} (he : AgEnd w w' B mB l' L' Fb) : ∃ Fb', Mem w0 w' A B mA lA LA mB l' L' vt ts vo os Fa Fb' := by
  obtain ⟨F', h1, h2, h3⟩ := he
  have s := h.low.size
  refine ⟨F', h.a.fr h2 (fun b hb ha => h.ab b hb ha), h1, h.t.fr h2 (fun g hg => (h.ts g hg).2.1), h.o.fr h2 (fun g hg => (h.os g hg).2.1), fun q hq hb => ?_, fun q hq => ⟨(h.ts q hq).1, fun hx => ?_, (h.ts q hq).2.2⟩, fun q hq => ⟨(h.os q hq).1, fun hx => ?_, (h.os q hq).2.2⟩, h.fa, fun q hq => ?_, h.low.trans (h2.below h.fb s)⟩
  · rcases h3 q hb with h4 | h4
    · exact h.ab q hq h4
    · have := h.a.lt q hq; omega
  · rcases h3 q hx with h4 | h4
    · exact (h.ts q hq).2.1 h4
    · have := h.t.row hq; omega
  · rcases h3 q hx with h4 | h4
    · exact (h.os q hq).2.1 h4
    · have := h.o.row hq; omega
  · rcases h3 q hq with h4 | h4
    · exact h.fb q h4
    · omega
theorem Mem.opT (h : Mem w0 w A B mA lA LA mB lB LB vt ts vo os Fa Fb) {v' : Value} {ts' : List Int} (h1 : IOwn w' v' ts') (h2 : Fr (fun q => vt.ownBlock = some q) w w') (h3 : ∀ g, v'.ownBlock = some g → vt.ownBlock = some g ∨ w.heap.size ≤ g) : Mem w0 w' A B mA lA LA mB lB LB v' ts' vo os Fa Fb := by
  have s := h.low.size
  refine ⟨h.a.fr h2 (fun b hb hx => (h.ts b hx).1 hb), h.b.fr h2 (fun b hb hx => (h.ts b hx).2.1 hb), h1, h.o.fr h2 (fun g hg hx => (h.ts g hx).2.2.1 hg), h.ab, fun q hq => ?_, h.os, h.fa, h.fb, h.low.trans (h2.below (fun q hq => (h.ts q hq).2.2.2) s)⟩
  rcases h3 q hq with h4 | h4
  · exact h.ts q h4
  · exact ⟨fun hx => by have := h.a.lt q hx; omega, fun hx => by have := h.b.lt q hx; omega, fun hx => by have := h.o.row hx; omega, by omega⟩
theorem Mem.opO (h : Mem w0 w A B mA lA LA mB lB LB vt ts vo os Fa Fb) {v' : Value} {os' : List Int} (h1 : IOwn w' v' os') (h2 : Fr (fun q => vo.ownBlock = some q) w w') (h3 : ∀ g, v'.ownBlock = some g → vo.ownBlock = some g ∨ w.heap.size ≤ g) : Mem w0 w' A B mA lA LA mB lB LB vt ts v' os' Fa Fb := by
  have s := h.low.size
  refine ⟨h.a.fr h2 (fun b hb hx => (h.os b hx).1 hb), h.b.fr h2 (fun b hb hx => (h.os b hx).2.1 hb), h.t.fr h2 (fun g hg hx => (h.ts g hg).2.2.1 hx), h1, h.ab, fun q hq => ?_, fun q hq => ?_, h.fa, h.fb, h.low.trans (h2.below (fun q hq => (h.os q hq).2.2) s)⟩
  · refine ⟨(h.ts q hq).1, (h.ts q hq).2.1, fun hx => ?_, (h.ts q hq).2.2.2⟩
    rcases h3 q hx with h4 | h4
    · exact (h.ts q hq).2.2.1 h4
    · have := h.t.row hq; omega
  · rcases h3 q hq with h4 | h4
    · exact h.os q h4
    · exact ⟨fun hx => by have := h.a.lt q hx; omega, fun hx => by have := h.b.lt q hx; omega, by omega⟩
theorem Mem.drew (h : Mem w0 w A B mA lA LA mB lB LB vt ts vo os Fa Fb) : Mem w0 w.drew A B mA lA LA mB lB LB vt ts vo os Fa Fb :=
  ⟨h.a.drew, h.b.drew, h.t, h.o, h.ab, h.ts, h.os, h.fa, h.fb, h.low.drew⟩
end
end Go.Proofs.Ytchjdpmgocapjaa
