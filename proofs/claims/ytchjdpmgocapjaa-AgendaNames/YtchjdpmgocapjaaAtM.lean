/- The heap's Push. -/
import Derived.Maps.AppendAt
import Derived.Lib.AppendZeros
import Derived.Deep.AppendLies
import Derived.Laws.AppendOwnNone
import Derived.Lib.SmallJoins
import Derived.Test.YtchjdpmgocapjaaAtD
import Derived.Test.YtchjdpmgocapjaaAtI
namespace Go.Proofs.Ytchjdpmgocapjaa.S
open Go.RowKit Go.Shelf

theorem info_parts {P : Program} {e : TypeId} {z : Value} {s n : Nat} (h : (P.info? e).map (fun i => (i.zero, i.size, i.bytes)) = some (some z, s, n)) : ∃ i, P.info? e = some i ∧ i.zero = some z ∧ i.size = s ∧ i.bytes = n := by
  cases hi : P.info? e with
  | none => rw [hi] at h; cases h
  | some i =>
    rw [hi] at h
    simp at h
    exact ⟨i, rfl, h.1, h.2.1, h.2.2⟩
theorem info86 : (Try.prog.info? 66).map (fun i => (i.zero, i.size, i.bytes)) = some (some (.pointer none), 1, 8) := by kernel_rfl
theorem run_appP (ty : TypeId) (v : Value) (n : Nat) (xs : List Value) (w : World) (hown : w.ownsRow 0 66 1 v n xs) (b : Nat) (u : Value) (hb : w.heap[b]? = some (.cells #[u] 66 (0, 0))) (hu : u.oneCell' = true) (hn : n + 1 ≤ 2097153) :
    ∃ p' c' w', (Builtin.append_ #[63, 63] ty #[v, .slice (some ⟨b, 0, none⟩) 1 1]).run Try.prog w = .ok (.slice p' (n + 1) c') w' ∧ w'.ownsRow 0 66 1 (.slice p' (n + 1) c') (n + 1) (xs ++ [u]) ∧ w.grownBy w' v.ownBlock := by
  obtain ⟨i0, hi0, hz0, hz1, hz2⟩ := info_parts info86
  obtain ⟨v', w', hr, h2, h3, _, h5⟩ := run_append_own_at (P := Try.prog) w 0 63 ty 66 i0 _ 1 8 Try.underlying63 hi0 hz0 hz1 hz2 rfl (by decide) v n xs hown ⟨b, 0, none⟩ 1 1 [u] rfl (fun j x hj => by
    match j, hj with
    | 0, hj => cases hj; exact cell_box hb rfl) (by simpa using hu) (by unfold maxLen; omega) (by omega) (Nat.zero_le _)
  rcases h2.2 with ⟨e1, e2⟩ | ⟨g, c, cur, e1, _⟩
  · exact absurd e2 (by omega)
  · subst e1
    exact ⟨_, _, w', hr, h2, h3⟩
/-- A row of entries is one that may be appended to. -/
theorem QAt.own {w : World} {g cap : Nat} {es : List En} (h : QAt w g cap es) : w.ownsRow 0 66 1 (.slice (some ⟨g, 0, none⟩) es.length cap) es.length (es.map fun e => .pointer (some ⟨e.b, 0, none⟩)) := by
  obtain ⟨cs, h1, h2, h3⟩ := h.row
  have hf := h.fits
  refine ⟨by simp, .inr ⟨g, cap, cs, rfl, Nat.zero_le _, h1, by omega, h.small, by omega, ?_⟩⟩
  rw [Nat.mul_one]
  refine List.ext_getElem? (fun i => ?_)
  rw [List.getElem?_take, List.getElem?_map]
  by_cases hi : i < es.length
  · rw [if_pos hi, Array.getElem?_toList, h3 i hi, List.getElem?_eq_getElem hi]
    rfl
  · rw [if_neg hi, List.getElem?_eq_none (by omega)]
    rfl
end Go.Proofs.Ytchjdpmgocapjaa.S

namespace Go.Proofs.Ytchjdpmgocapjaa.S
open Go.RowKit Go.Shelf

theorem fr_grown {w w' : World} {r : Option Nat} (h : w.grownBy w' r) : Fr (fun q => r = some q) w w' := ⟨⟨h.os, h.tape, h.output, h.size, fun k hk => absurd hk (Nat.not_lt_zero k)⟩, fun k hk hA => h.block k hk (fun e => hA e.symm)⟩
theorem run_appQ (ty : TypeId) (v : Value) (n : Nat) (xs : List Value) (w : World) (hown : w.ownsRow 0 66 1 v n xs) (b : Nat) (u : Value) (hb : w.heap[b]? = some (.cells #[u] 66 (0, 0))) (hu : u.oneCell' = true) (hn : n + 1 ≤ 2097153) :
    ∃ g' c' cur w', (Builtin.append_ #[63, 63] ty #[v, .slice (some ⟨b, 0, none⟩) 1 1]).run Try.prog w = .ok (.slice (some ⟨g', 0, none⟩) (n + 1) c') w' ∧ w'.heap[g']? = some (.cells cur 66 (0, 0)) ∧ n + 1 ≤ c' ∧ c' ≤ maxLen ∧ cur.size = c' ∧ cur.toList.take (n + 1) = xs ++ [u] ∧ Fr (fun q => v.ownBlock = some q) w w' ∧ (v.ownBlock = some g' ∨ g' = w.heap.size) := by
  obtain ⟨i0, hi0, hz0, hz1, hz2⟩ := info_parts info86
  obtain ⟨v', w', hr, h2, h3, _, h5⟩ := run_append_own_at (P := Try.prog) w 0 63 ty 66 i0 _ 1 8 Try.underlying63 hi0 hz0 hz1 hz2 rfl (by decide) v n xs hown ⟨b, 0, none⟩ 1 1 [u] rfl (fun j x hj => by
    match j, hj with
    | 0, hj => cases hj; exact cell_box hb rfl) (by simpa using hu) (by unfold maxLen; omega) (by omega) (Nat.zero_le _)
  rcases h2.2 with ⟨e1, e2⟩ | ⟨g, c, cur, e1, _, e3, e4, e5, e6, e7⟩
  · exact absurd e2 (by omega)
  · subst e1
    rw [Nat.mul_one] at e7
    refine ⟨g, c, cur, w', hr, e3, by omega, by omega, by omega, e7, fr_grown h3, ?_⟩
    rcases h5 with h | h
    · exact .inl h.symm
    · exact .inr (Option.some.inj h)
/-- A queue's value: nil, or a row of entries. -/
def QZ (w : World) (v : Value) (es : List En) : Prop := (v = .slice none 0 0 ∧ es = []) ∨ ∃ g cap, v = .slice (some ⟨g, 0, none⟩) es.length cap ∧ QAt w g cap es
theorem QZ.own {w : World} {v : Value} {es : List En} (h : QZ w v es) : w.ownsRow 0 66 1 v es.length (es.map fun e => .pointer (some ⟨e.b, 0, none⟩)) := by
  rcases h with ⟨rfl, rfl⟩ | ⟨g, cap, rfl, h⟩
  · exact ⟨rfl, .inl ⟨rfl, rfl⟩⟩
  · exact h.own
theorem QZ.form {w : World} {v : Value} {es : List En} (h : QZ w v es) : ∃ p c, v = .slice p es.length c := by
  rcases h with ⟨rfl, rfl⟩ | ⟨g, cap, rfl, h⟩
  · exact ⟨_, _, rfl⟩
  · exact ⟨_, _, rfl⟩
/-- An entry more, behind all. -/
theorem push_fin {w W2 w3 : World} {v : Value} {es : List En} {A : Nat} {e : En} (hZ : QZ w v es) (hE2 : EnAt W2 e es.length) (hf : Fr (fun b => b = e.b) w W2) (hsz : w.heap.size ≤ W2.heap.size) (hne : ∀ k (h : k < es.length), es[k].b ≠ e.b) (hvb : v.ownBlock ≠ some e.b) (hvA : v.ownBlock ≠ some A) (hAl : A < w.heap.size)
    {g' c' : Nat} {cur : Array Value} (a1 : w3.heap[g']? = some (.cells cur 66 (0, 0))) (a2 : es.length + 1 ≤ c') (a3 : c' ≤ maxLen) (a4 : cur.size = c') (a5 : cur.toList.take (es.length + 1) = (es.map fun e => Value.pointer (some ⟨e.b, 0, none⟩)) ++ [.pointer (some ⟨e.b, 0, none⟩)]) (a6 : Fr (fun q => v.ownBlock = some q) W2 w3) (a7 : v.ownBlock = some g' ∨ g' = W2.heap.size) :
    QAt w3 g' c' (es ++ [e]) ∧ g' ≠ A := by
  have hbE : e.b < W2.heap.size := (Array.getElem?_eq_some_iff.1 hE2).1
  have own : ∀ k (h : k < es.length), v.ownBlock ≠ some es[k].b := fun k h hx => by
    rcases hZ with ⟨rfl, rfl⟩ | ⟨g, cap, rfl, hQ⟩
    · cases hx
    · exact hQ.far k h (Option.some.inj hx).symm
  have ents : ∀ k (h : k < es.length), EnAt w es[k] k := fun k h => by
    rcases hZ with ⟨rfl, rfl⟩ | ⟨g, cap, rfl, hQ⟩
    · exact absurd h (Nat.not_lt_zero _)
    · exact hQ.ents k h
  have once : ∀ i j (hi : i < es.length) (hj : j < es.length), es[i].b = es[j].b → i = j := fun i j hi hj he => by
    rcases hZ with ⟨rfl, rfl⟩ | ⟨g, cap, rfl, hQ⟩
    · exact absurd hi (Nat.not_lt_zero _)
    · exact hQ.once i j hi hj he
  have lts : ∀ k (h : k < es.length), es[k].b < w.heap.size := fun k h => (Array.getElem?_eq_some_iff.1 (ents k h)).1
  have at2 : ∀ i (h : i < (es ++ [e]).length), (i < es.length ∧ ∃ h', (es ++ [e])[i] = es[i]'h') ∨ (i = es.length ∧ (es ++ [e])[i] = e) := fun i h => by
    by_cases hi : i < es.length
    · exact .inl ⟨hi, hi, by rw [List.getElem_append_left hi]⟩
    · have : i = es.length := by simp at h; omega
      subst this
      exact .inr ⟨rfl, by simp⟩
  have gA : g' ≠ A := fun hx => by
    rcases a7 with h | h
    · exact hvA (by rw [h, hx])
    · omega
  have cell : ∀ i (h : i < es.length + 1), cur[i]? = ((es ++ [e])[i]?).map (fun e => Value.pointer (some ⟨e.b, 0, none⟩)) := fun i h => by
    have h1 : (cur.toList.take (es.length + 1))[i]? = cur[i]? := by rw [List.getElem?_take, if_pos h, Array.getElem?_toList]
    rw [← h1, a5, ← List.getElem?_map, List.map_append]
    rfl
  refine ⟨⟨⟨cur, a1, a4, fun i hi => ?_⟩, by simpa using a2, a3, fun i hi => ?_, fun i hi => ?_, fun i j hi hj he => ?_⟩, gA⟩
  · rw [cell i (by simpa using hi), List.getElem?_eq_getElem hi]
    rfl
  · rcases at2 i hi with ⟨h1, h2, h3⟩ | ⟨h1, h2⟩
    · rw [h3]
      have t1 := (hf.same _ (lts i h1) (hne i h1)).trans (ents i h1)
      exact (a6.same _ (by have := lts i h1; omega) (own i h1)).trans t1
    · rw [h2, h1]
      exact (a6.same _ hbE hvb).trans hE2
  · rcases at2 i hi with ⟨h1, h2, h3⟩ | ⟨h1, h2⟩
    · rw [h3]
      intro hx
      rcases a7 with h | h
      · exact own i h1 (by rw [h, hx])
      · have := lts i h1; omega
    · rw [h2]
      intro hx
      rcases a7 with h | h
      · exact hvb (by rw [h, hx])
      · omega
  · rcases at2 i hi with ⟨h1, h2, h3⟩ | ⟨h1, h2⟩ <;> rcases at2 j hj with ⟨k1, k2, k3⟩ | ⟨k1, k2⟩
    · rw [h3, k3] at he; exact once i j h1 k1 he
    · rw [h3, k2] at he; exact absurd he (hne i h1)
    · rw [h2, k3] at he; exact absurd he.symm (hne j k1)
    · omega
end Go.Proofs.Ytchjdpmgocapjaa.S

namespace Go.Proofs.Ytchjdpmgocapjaa.S
open Go.RowKit Go.Shelf

theorem ta_one (w : World) (v : Value) : (Instr.typeAssert (.iface 66 v) 20 66 true).run Try.prog w = .ok (.tuple #[v, .bool true]) w := by
  have e3 : (underlying 66).run Try.prog w = .ok (.pointer 68) w := by simp [underlying, go_sem]
  unfold Instr.typeAssert
  simp only [Sem.run_bind, e3, Result.andThen]
  rfl
set_option maxRecDepth 100000 in
set_option maxHeartbeats 4000000 in
theorem qpush_any (A : Nat) (v : Value) (es : List En) (e : En) (at0 : Int) (w : World) (hA : w.cell? ⟨A, 2, none⟩ = some v) (hfA : w.frozen? ⟨A, 2, none⟩ = false) (hZ : QZ w v es) (hE : EnAt w e at0) (hn : es.length + 1 ≤ 1048576) (hne : ∀ k (h : k < es.length), es[k].b ≠ e.b) (hvb : v.ownBlock ≠ some e.b) (hvA : v.ownBlock ≠ some A) (hAe : A ≠ e.b) (hAs : ∀ k (h : k < es.length), es[k].b ≠ A) :
    Calls Try.prog 103 #[.pointer (some ⟨A, 2, none⟩), .iface 66 (.pointer (some ⟨e.b, 0, none⟩))] w fun r w' => (∃ u, r = .returned u) ∧ ∃ g cap, QAt w' g cap (es ++ [e]) ∧ g ≠ A ∧ (v.ownBlock = some g ∨ w.heap.size ≤ g) ∧ w'.cell? ⟨A, 2, none⟩ = some (.slice (some ⟨g, 0, none⟩) (es.length + 1) cap) ∧ Fr (fun b => b = A ∨ b = e.b ∨ v.ownBlock = some b) w w' ∧ ∀ cs t, w.heap[A]? = some (.cells cs t (0, 0)) → w'.heap[A]? = some (.cells (cs.setIfInBounds 2 (.slice (some ⟨g, 0, none⟩) (es.length + 1) cap)) t (0, 0)) := by
  have hAl := World.block_lt_of_cell? w _ hA
  have c3 : w.cell? ⟨e.b, 3, none⟩ = some (.int .i64 at0) := cell_box hE rfl
  have f3 : w.frozen? ⟨e.b, 3, none⟩ = false := free_box hE
  have hbE : e.b < w.heap.size := (Array.getElem?_eq_some_iff.1 hE).1
  obtain ⟨W1, hW1⟩ : ∃ W1, W1 = w.setCell ⟨e.b, 3, none⟩ (.int .i64 es.length) := ⟨_, rfl⟩
  have fr1 : Fr (fun b => b = e.b) w W1 := by rw [hW1]; exact fr_set _ _ _ _
  have hE1 : EnAt W1 e es.length := by rw [hW1]; exact block_set hE (.int .i64 es.length)
  have hA1 : W1.cell? ⟨A, 2, none⟩ = some v := fr1.cell hA hAe
  have b2 := alloc_below0 W1 (.cells #[.pointer (some ⟨e.b, 0, none⟩)] 66)
  have n2 := World.alloc_heap_new W1 (.cells #[.pointer (some ⟨e.b, 0, none⟩)] 66)
  have fr2 : Fr (fun b => b = e.b) w (W1.alloc (.cells #[.pointer (some ⟨e.b, 0, none⟩)] 66)) := fr1.trans (Fr.of_below b2)
  have hZ2 : QZ (W1.alloc (.cells #[.pointer (some ⟨e.b, 0, none⟩)] 66)) v es := by
    rcases hZ with h | ⟨g, cap, rfl, hQ⟩
    · exact .inl h
    · exact .inr ⟨g, cap, rfl, hQ.fr fr2 (fun hx => hvb (by rw [← hx]; rfl)) (fun k hk hx => hne k hk hx)⟩
  obtain ⟨g', c', cur, w3, hr, a1, a2, a3, a4, a5, a6, a7⟩ := run_appQ 63 v es.length _ _ hZ2.own W1.heap.size _ n2 rfl (by omega)
  have HF := hid (push_fin (A := A) hZ (below_blk b2 hE1) fr2 fr2.low.size hne hvb hvA hAl a1 a2 a3 a4 a5 a6 a7)
  have hA3 : w3.cell? ⟨A, 2, none⟩ = some v := a6.cell (fr2.cell hA hAe) hvA
  have fA1 : W1.frozen? ⟨A, 2, none⟩ = false := frozen_fr fr1 hA hAe hfA
  have fA3 : w3.frozen? ⟨A, 2, none⟩ = false := frozen_fr a6 (fr2.cell hA hAe) hvA (frozen_fr fr2 hA hAe hfA)
  have HG : Hid (v.ownBlock = some g' ∨ w.heap.size ≤ g') := hid (a7.imp id (fun h => by rw [h]; exact fr2.low.size))
  have HFR := hid ((fr2.mono (fun b hb => (.inr (.inl hb) : b = A ∨ b = e.b ∨ v.ownBlock = some b))).trans (a6.mono (fun b hb => .inr (.inr hb))))
  have HNA : Hid (∀ k (hk : k < (es ++ [e]).length), ¬ (es ++ [e])[k].b = A) := hid fun k hk hx => by
    by_cases h : k < es.length
    · rw [List.getElem_append_left h] at hx
      exact hAs k h hx
    · have hk' : k = es.length := by simp at hk; omega
      subst hk'
      simp at hx
      exact hAe hx.symm
  have HBX : Hid (∀ cs t, w.heap[A]? = some (.cells cs t (0, 0)) → w3.heap[A]? = some (.cells cs t (0, 0))) := hid fun cs t h => (a6.same A (Nat.lt_of_lt_of_le hAl fr2.low.size) hvA).trans ((fr2.same A hAl hAe).trans h)
  obtain ⟨p, cp, rfl⟩ := hZ.form
  have HAE := hid hAe
  have hA4 := cell_set (v' := .slice (some ⟨g', 0, none⟩) (es.length + 1) c') hA3
  have HA4 := hid hA4
  have hnb : (es.length : Int) + 1 ≤ 1048576 := by omega
  clear hZ hZ2 hE hE1 b2 n2 fr1 fr2 a1 a2 a3 a4 a5 a6 a7 hne hvb hvA hA4 hn hAs
  have hsz1 : W1.heap.size = w.heap.size := by rw [hW1]; simp
  rw [hsz1] at hr
  clear hsz1
  have HR := hid hr
  have HW1 := hid hW1
  clear hr
  rw [hW1] at HR hA1 fA1
  clear hW1
  have hta : (Instr.typeAssert (.iface 66 (.pointer (some ⟨e.b, 0, none⟩))) 20 66 true).run Try.prog w = .ok (.tuple #[.pointer (some ⟨e.b, 0, none⟩), .bool true]) w := ta_one w _
  go_enter Try.func103, Try.ntmps103
  go_wp2_with (first
    | (at_builtin; refine Lib.wpList_append_run _ rfl _ _ _ _ rfl _ _ rfl rfl _ _ HR.out ?_; clear HR)
    | fail)
  refine bodyPost_end (results_none rfl _ _ _) rfl ?_
  exact ⟨⟨_, rfl⟩, g', c', HF.out.1.fr (fr_set _ A 2 _) HF.out.2 HNA.out, HF.out.2, HG.out, HA4.out, HFR.out.trans ((fr_set _ A 2 _).mono (fun q hq => .inl hq)), fun cs t h => block_set (HBX.out cs t (Array.getElem?_eq_some_iff.2 ⟨_, h⟩)) _⟩
end Go.Proofs.Ytchjdpmgocapjaa.S

namespace Go.Proofs.Ytchjdpmgocapjaa.S
open Go.RowKit Go.Shelf

set_option maxRecDepth 100000 in
set_option maxHeartbeats 4000000 in
theorem hpush_any (A : Nat) (v : Value) (es : List En) (e : En) (at0 : Int) (w : World) (hA : w.cell? ⟨A, 2, none⟩ = some v) (hfA : w.frozen? ⟨A, 2, none⟩ = false) (hZ : QZ w v es) (hE : EnAt w e at0) (hn : es.length + 1 ≤ 1048576) (hne : ∀ k (h : k < es.length), es[k].b ≠ e.b) (hvb : v.ownBlock ≠ some e.b) (hvA : v.ownBlock ≠ some A) (hAe : A ≠ e.b) (hAs : ∀ k (h : k < es.length), es[k].b ≠ A) :
    Calls Try.prog 25 #[.iface 70 (.pointer (some ⟨A, 2, none⟩)), .iface 66 (.pointer (some ⟨e.b, 0, none⟩))] w fun r w' => (∃ u, r = .returned u) ∧ ∃ g cap, QAt w' g cap (upE (es ++ [e]) es.length) ∧ g ≠ A ∧ w'.cell? ⟨A, 2, none⟩ = some (.slice (some ⟨g, 0, none⟩) (es.length + 1) cap) ∧ Fr (fun b => b = A ∨ b = e.b ∨ v.ownBlock = some b ∨ ∃ k, ∃ h : k < es.length, b = es[k].b) w w' ∧ (∀ cs t, w.heap[A]? = some (.cells cs t (0, 0)) → w'.heap[A]? = some (.cells (cs.setIfInBounds 2 (.slice (some ⟨g, 0, none⟩) (es.length + 1) cap)) t (0, 0))) ∧ (v.ownBlock = some g ∨ w.heap.size ≤ g) := by
  have hm := meth_ptr push_row A w
  have HP := hid (qpush_any A v es e at0 w hA hfA hZ hE hn hne hvb hvA hAe hAs)
  have hAl := World.block_lt_of_cell? w _ hA
  have hall : ∀ k (hk : k < (es ++ [e]).length), (es ++ [e])[k].b = e.b ∨ ∃ m, ∃ h : m < es.length, (es ++ [e])[k].b = es[m].b := fun k hk => by
    by_cases h : k < es.length
    · exact .inr ⟨k, h, by rw [List.getElem_append_left h]⟩
    · have hk' : k = es.length := by simp at hk; omega
      subst hk'
      exact .inl (by simp)
  have HALL := hid hall; have HAE := hid hAe; have HAS := hid hAs
  have hlen : (es ++ [e]).length = es.length + 1 := by simp
  have HLEN := hid hlen
  have hnb : (es.length : Int) + 1 ≤ 1048576 := by omega
  clear hA hfA hZ hE hn hne hvb hvA hall hAl hlen hAs hAe
  go_enter Try.func25, Try.ntmps25
  go_wp2_with fail
  refine HP.out.mono ?_
  rintro r w1 ⟨⟨u1, rfl⟩, g, cap, hQ, hgA, hgw, hA1, hf1, hbx⟩
  have hml := meth_val len_row A g (es.length + 1) cap w1 hA1
  have HLN := hid (len_any (some ⟨g, 0, none⟩) (es.length + 1) cap w1)
  have hup := up_any A g cap (es ++ [e]) w1 (by rw [HLEN.out]; exact hA1) hQ es.length (by have := HLEN.out; omega) (fun h => hgA h.symm) (fun k hk hx => by
    rcases HALL.out k hk with h | ⟨m, hm, h⟩
    · exact HAE.out (hx.symm.trans h)
    · exact HAS.out m hm (h.symm.trans hx))
  have HUP := hid hup; have HF1 := hid hf1; have HGA := hid hgA; have HBX := hid hbx
  have HGW := hid hgw
  clear hup hf1 hA1 hQ hm hgw hbx
  go_wp2_with fail
  refine HLN.out.mono ?_
  rintro r w2 ⟨rfl, rfl⟩
  go_wp2_with fail
  refine HUP.out.mono ?_
  rintro r w3 ⟨⟨u3, rfl⟩, hQ3, hA3, hf3⟩
  rw [HLEN.out] at hA3
  have HQ3 := hid hQ3; have HA3 := hid hA3
  have HF3 : Hid (Fr (fun b => b = A ∨ b = e.b ∨ v.ownBlock = some b ∨ ∃ k, ∃ h : k < es.length, b = es[k].b) w w3) := hid ⟨HF1.out.low.trans hf3.low, fun b hb hnb => by
    have h1 := HF1.out.same b hb (fun hx => hnb (hx.elim .inl (fun h => .inr (h.elim .inl (fun h => .inr (.inl h))))))
    refine (hf3.same b (Nat.lt_of_lt_of_le hb HF1.out.low.size) (fun hx => ?_)).trans h1
    rcases hx with hx | ⟨k, hk, hx⟩
    · rcases HGW.out with h | h
      · exact hnb (.inr (.inr (.inl (by rw [hx]; exact h))))
      · omega
    · rcases HALL.out k hk with h | ⟨m, hm, h⟩
      · exact hnb (.inr (.inl (hx.trans h)))
      · exact hnb (.inr (.inr (.inr ⟨m, hm, hx.trans h⟩)))⟩
  have HB3 : Hid (∀ cs t, w.heap[A]? = some (.cells cs t (0, 0)) → w3.heap[A]? = some (.cells (cs.setIfInBounds 2 (.slice (some ⟨g, 0, none⟩) (es.length + 1) cap)) t (0, 0))) := hid fun cs t h => (hf3.same A (Array.getElem?_eq_some_iff.1 (HBX.out cs t h)).1 (fun hx => hx.elim (fun e => HGA.out e.symm) (fun ⟨k, hk, e⟩ => by
    rcases HALL.out k hk with h | ⟨m, hm, h⟩
    · exact HAE.out (e.trans h)
    · exact HAS.out m hm (h.symm.trans e.symm)))).trans (HBX.out cs t h)
  clear hQ3 hA3 hf3 hml
  go_wp2_with fail
  refine bodyPost_end (results_none rfl _ _ _) rfl ?_
  exact ⟨⟨_, rfl⟩, g, cap, HQ3.out, HGA.out, HA3.out, HF3.out, HB3.out, HGW.out⟩
end Go.Proofs.Ytchjdpmgocapjaa.S
