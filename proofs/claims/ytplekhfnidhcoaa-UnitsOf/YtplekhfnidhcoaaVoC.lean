/- A signature in which only some symbols have units. -/
import Derived.Test.YtplekhfnidhcoaaVoB
import Derived.Test.YtplekhfnidhcoaaSigMem
import Derived.Lib.AppendZeros
namespace Go.Proofs.Ytplekhfnidhcoaa
open Go.RowKit Go.Shelf Go.Deep

def symC (s : Sym) : List Value := [.string s.name, .int .i64 s.kind, .int .i64 s.arity, .string s.unit]
/-- The symbol at a place. -/
def sG (l : List Sym) (q : Nat) : Sym := l.getD q ⟨⟨#[]⟩, 0, 0, ⟨#[]⟩⟩
theorem sG_at {l : List Sym} {q : Nat} (h : q < l.length) : sG l q = l[q] := by unfold sG; simp [h]
def onS (b : Bool) (s : Sym) : Sym := if b then s else ⟨s.name, 1, s.arity, s.unit⟩
/-- The signature in which only the marked symbols have their kinds. -/
def onL (F : Nat → Bool) (l : List Sym) : List Sym := (List.range l.length).map (fun q => onS (F q) (sG l q))
theorem onL_len (F : Nat → Bool) (l : List Sym) : (onL F l).length = l.length := by simp [onL]
theorem onL_at (F : Nat → Bool) (l : List Sym) (q : Nat) (h : q < (onL F l).length) : (onL F l)[q] = onS (F q) (sG l q) := by simp [onL]
/-- Symbols in a block of their own. -/
structure SyAt (W : World) (g n : Nat) (S : Nat → Sym) : Prop where
  blk : ∃ cur : Array Value, W.heap[g]? = some (.cells cur 80 (0, 0)) ∧ ∀ i, i < n → cur[i * 4]? = some (.string (S i).name) ∧ cur[i * 4 + 1]? = some (.int .i64 (S i).kind) ∧ cur[i * 4 + 2]? = some (.int .i64 (S i).arity) ∧ cur[i * 4 + 3]? = some (.string (S i).unit)
theorem SyAt.lt {W : World} {g n : Nat} {S : Nat → Sym} (h : SyAt W g n S) : g < W.heap.size := let ⟨_, h1, _⟩ := h.blk; (Array.getElem?_eq_some_iff.1 h1).1
theorem SyAt.kind {W : World} {g n : Nat} {S : Nat → Sym} (h : SyAt W g n S) (i : Nat) (hi : i < n) : W.cell? ⟨g, i * 4 + 1, none⟩ = some (.int .i64 (S i).kind) := let ⟨_, h1, h2⟩ := h.blk; cell_box h1 (h2 i hi).2.1
theorem SyAt.free {W : World} {g n : Nat} {S : Nat → Sym} (h : SyAt W g n S) (i : Nat) : W.frozen? ⟨g, i, none⟩ = false := let ⟨_, h1, _⟩ := h.blk; by simp [World.frozen?, h1]
theorem SyAt.ext {W : World} {g n : Nat} {S S' : Nat → Sym} (h : SyAt W g n S) (hS : ∀ q, q < n → S' q = S q) : SyAt W g n S' := let ⟨cur, h1, h2⟩ := h.blk; ⟨cur, h1, fun i hi => by rw [hS i hi]; exact h2 i hi⟩
theorem SyAt.set {W : World} {g n : Nat} {S : Nat → Sym} (h : SyAt W g n S) (i : Nat) (hi : i < n) {S' : Nat → Sym} (hS : ∀ q, q < n → S' q = if q = i then ⟨(S q).name, 1, (S q).arity, (S q).unit⟩ else S q) : SyAt (W.setCell ⟨g, i * 4 + 1, none⟩ (.int .i64 1)) g n S' := by
  obtain ⟨cur, h1, h2⟩ := h.blk
  refine ⟨_, block_set h1 _, fun j hj => ?_⟩
  obtain ⟨e0, e1, e2, e3⟩ := h2 j hj
  have l1 := (Array.getElem?_eq_some_iff.1 (h2 i hi).2.1).1
  rw [Array.getElem?_setIfInBounds, Array.getElem?_setIfInBounds, Array.getElem?_setIfInBounds, Array.getElem?_setIfInBounds, hS j hj]
  rw [if_neg (by omega), if_neg (by omega : ¬ i * 4 + 1 = j * 4 + 2), if_neg (by omega : ¬ i * 4 + 1 = j * 4 + 3)]
  by_cases e : j = i
  · subst e
    rw [if_pos rfl, if_pos l1, if_pos rfl]
    exact ⟨e0, rfl, e2, e3⟩
  · rw [if_neg e, if_neg (by omega)]
    exact ⟨e0, e1, e2, e3⟩
theorem SyAt.sig {W : World} {g n : Nat} {S : Nat → Sym} (h : SyAt W g n S) {l : List Sym} (hn : n = l.length) (hs : n ≤ maxLen) (hl : ∀ q (h : q < l.length), l[q] = S q) (hf : ∀ x ∈ l, x.Fits) : SigAt W (some ⟨g, 0, none⟩) n l := by
  refine ⟨hn, hs, fun i hi => ⟨g, 0, rfl, ?_⟩, hf⟩
  obtain ⟨cur, h1, h2⟩ := h.blk
  obtain ⟨e0, e1, e2, e3⟩ := h2 i (by omega)
  rw [hl i hi, Nat.zero_add]
  exact ⟨cell_box h1 e0, cell_box h1 e1, cell_box h1 e2, cell_box h1 e3⟩
theorem symAll_len (l : List Sym) : (l.flatMap symC).length = l.length * 4 := by
  induction l with
  | nil => rfl
  | cons x l ih => simp only [List.flatMap_cons, List.length_append, List.length_cons] at ih ⊢; rw [ih]; simp only [symC, List.length_cons, List.length_nil]; omega
theorem symAll_get : ∀ (l : List Sym) (i k : Nat) (h : i < l.length), k < 4 → (l.flatMap symC)[i * 4 + k]? = (symC l[i])[k]?
  | x :: l, 0, k, _, hk => by rw [List.flatMap_cons, Nat.zero_mul, Nat.zero_add, List.getElem?_append_left (by simpa [symC] using hk)]; rfl
  | x :: l, i + 1, k, h, hk => by
    rw [List.flatMap_cons, List.getElem?_append_right (by simp [symC]; omega)]
    have e : (i + 1) * 4 + k - (symC x).length = i * 4 + k := by simp [symC]; omega
    rw [e, symAll_get l i k (by simpa using h) hk]
    rfl
theorem symAll_one (l : List Sym) : ∀ u ∈ l.flatMap symC, u.oneCell' = true := by
  intro u hu
  obtain ⟨x, _, hx⟩ := List.mem_flatMap.1 hu
  simp only [symC, List.mem_cons, List.not_mem_nil, or_false] at hx
  rcases hx with rfl | rfl | rfl | rfl <;> rfl
theorem Try.info80 : (Try.prog.info? 80).map (fun i => (i.zero, i.size, i.bytes)) = some (some (.agg #[.string ⟨#[]⟩, .int .i64 0, .int .i64 0, .string ⟨#[]⟩]), 4, 48) := by kernel_rfl
theorem sig_src {w : World} {b o n : Nat} {l : List Sym} (h : SigAt w (some ⟨b, o, none⟩) n l) : ∀ j u, (l.flatMap symC)[j]? = some u → w.cell? ((⟨b, o, none⟩ : Addr).add j) = some u := by
  intro j u hu
  have hj : j < l.length * 4 := by
    have := (List.getElem?_eq_some_iff.1 hu).1
    rwa [symAll_len] at this
  have hq : j / 4 < l.length := by omega
  have hjj : j = j / 4 * 4 + j % 4 := by omega
  obtain ⟨b', o', e1, e2⟩ := h.cells (j / 4) hq
  cases e1
  rw [hjj, symAll_get l (j / 4) (j % 4) hq (Nat.mod_lt _ (by omega))] at hu
  rw [Addr.add_lit, hjj]
  have hm : j % 4 < 4 := Nat.mod_lt _ (by omega)
  have hr : j % 4 = 0 ∨ j % 4 = 1 ∨ j % 4 = 2 ∨ j % 4 = 3 := by omega
  rcases hr with hr | hr | hr | hr
  · rw [hr] at hu ⊢; cases hu; exact e2.name
  · rw [hr] at hu ⊢; cases hu; rw [← Nat.add_assoc]; exact e2.kind
  · rw [hr] at hu ⊢; cases hu; rw [← Nat.add_assoc]; exact e2.arity
  · rw [hr] at hu ⊢; cases hu; rw [← Nat.add_assoc]; exact e2.unit
theorem cloneg_run (l : List Sym) (w : World) (a : Addr) (n c : Nat) (hI : SigAt w (some a) n l) (hn : n ≤ 2932031007317) :
    ∃ g cap w', (Builtin.append_ #[23, 23] 23 #[.slice (some ⟨w.heap.size, 0, none⟩) 0 0, .slice (some a) n c]).run Try.prog (w.alloc (.cells #[] 80)) = .ok (.slice (some ⟨g, 0, none⟩) n cap) w' ∧ SyAt w' g n (sG l) ∧ w.heap.size ≤ g ∧ Below w.heap.size w w' := by
  obtain ⟨i0, hi0, hz0, hz1, hz2⟩ := info_parts Try.info80
  have hb := alloc_below0 w (.cells #[] 80)
  have hlen := hI.len
  have hsrc : ∀ j u, (l.flatMap symC)[j]? = some u → (w.alloc (.cells #[] 80)).cell? (a.add j) = some u := by
    intro j u hu
    have hj := (List.getElem?_eq_some_iff.1 hu).1
    rw [symAll_len] at hj
    obtain ⟨b, o, e1, _⟩ := hI.cells 0 (by omega)
    cases e1
    exact below_cell hb _ _ (sig_src hI j u hu)
  have hE : (w.alloc (.cells #[] 80)).ownsRow w.heap.size 80 4 (.slice (some ⟨w.heap.size, 0, none⟩) 0 0) 0 [] := ⟨rfl, .inr ⟨w.heap.size, 0, #[], rfl, Nat.le_refl _, World.alloc_heap_new w _, Nat.le_refl _, Nat.zero_le _, rfl, rfl⟩⟩
  obtain ⟨v', w', hr, h2, h3, h4, _⟩ := run_append_own_at (P := Try.prog) (w.alloc (.cells #[] 80)) w.heap.size 23 23 80 i0 _ 4 48 Try.underlying23 hi0 hz0 hz1 hz2 rfl (by decide) _ 0 [] hE a n c (l.flatMap symC) (by rw [symAll_len, hlen]) hsrc (symAll_one l) (by have := hI.small; omega) (by omega) (by rw [World.size_alloc]; omega)
  rw [Nat.zero_add, List.nil_append] at h2
  have hbl : Below w.heap.size w w' := hb.trans ((fr_grown h3).below (fun k hk => by have h7 : some w.heap.size = some k := hk; have := Option.some.inj h7; omega) hb.size)
  rcases h2.2 with ⟨h5, h6⟩ | ⟨g, cap, cur, h5, h6, h7, h8, h9, h10, h11⟩
  · exact absurd (h4.1 h5).1 (by intro e; cases e)
  · subst h5
    refine ⟨g, cap, w', hr, ⟨cur, h7, fun i hi => ?_⟩, h6, hbl⟩
    have hil : i < l.length := by omega
    have get : ∀ k v, k < 4 → (symC l[i])[k]? = some v → cur[i * 4 + k]? = some v := fun k v hk hv => by
      have h12 : (cur.toList.take (n * 4))[i * 4 + k]? = (l.flatMap symC)[i * 4 + k]? := by rw [h11]
      rw [List.getElem?_take, if_pos (by omega), Array.getElem?_toList, symAll_get l i k hil hk, hv] at h12
      exact h12
    rw [sG_at hil]
    exact ⟨get 0 _ (by omega) rfl, get 1 _ (by omega) rfl, get 2 _ (by omega) rfl, get 3 _ (by omega) rfl⟩
set_option maxRecDepth 100000 in
set_option maxHeartbeats 2932031007317 in
theorem cloneg_any (p : Option Addr) (n c : Nat) (l : List Sym) (w : World) (hI : SigAt w p n l) (hn : n ≤ 2932031007317) :
    Calls Try.prog 42 #[.slice p n c] w fun e w' => ∃ q d, e = .returned (.slice q n d) ∧ (n = 0 ∨ ∃ g, q = some ⟨g, 0, none⟩ ∧ w.heap.size ≤ g ∧ SyAt w' g n (sG l)) ∧ Below w.heap.size w w' := by
  cases p with
  | none =>
    have hn : n = 0 := by
      rcases Nat.eq_zero_or_pos n with h0 | h0
      · exact h0
      · obtain ⟨_, _, h1, _⟩ := hI.cells 0 (by have := hI.len; omega)
        cases h1
    subst hn
    have h1 : (binOp .eql 23 (.slice none 0 c) (.slice none 0 0)).run Try.prog w = .ok (.bool true) w := rfl
    clear hI
    go_enter Try.func42, Try.ntmps42
    go_wp2_with fail
    go_ret
    exact ⟨none, 0, rfl, .inl trivial, Below.refl _ _⟩
  | some a =>
    have h1 : (binOp .eql 23 (.slice (some a) n c) (.slice none 0 0)).run Try.prog w = .ok (.bool false) w := rfl
    obtain ⟨g, cap, w1, hr1, hA1, hG1, hB1⟩ := cloneg_run l w a n c hI hn
    have HA1 := hid hA1; have HB1 := hid hB1; have HG1 := hid hG1
    clear hI hA1 hB1 hG1 hn
    go_enter Try.func42, Try.ntmps42
    go_wp2_with (first
      | (at_builtin; refine Lib.wpList_append_run _ rfl _ _ _ _ rfl _ _ rfl rfl _ _ hr1 ?_; clear hr1)
      | fail)
    go_ret
    exact ⟨_, _, rfl, .inr ⟨g, rfl, HG1.out, HA1.out⟩, HB1.out⟩
/-- What only answers. -/
theorem onS_fits {b : Bool} {s : Sym} (h : s.Fits) : (onS b s).Fits := by
  cases b
  · exact ⟨h.1, h.2⟩
  · exact h
theorem onL_fits {F : Nat → Bool} {l : List Sym} (h : ∀ x ∈ l, x.Fits) : ∀ x ∈ onL F l, x.Fits := by
  intro x hx
  obtain ⟨q, hq, rfl⟩ := List.mem_map.1 hx
  have := List.mem_range.1 hq
  rw [sG_at this]
  exact onS_fits (h _ (List.getElem_mem this))
set_option maxRecDepth 100000 in
set_option maxHeartbeats 4000000 in
theorem only_any (p : Option Addr) (n c : Nat) (l : List Sym) (F : Nat → Bool) (g : Nat) (w : World) (hI : SigAt w p n l) (hn : n ≤ 2932031007317) (hB : BoAt w g n F) :
    Calls Try.prog 25 #[.slice p n c, .slice (some ⟨g, 0, none⟩) n n] w fun e w' => ∃ q d, e = .returned (.slice q n d) ∧ SigAt w' q n (onL F l) ∧ Below w.heap.size w w' := by
  have HC := hid (cloneg_any p n c l w hI hn)
  have HI := hid hI; have HB := hid hB
  have hnz : (n : Int) ≤ 2932031007317 := by omega
  clear hI hB
  go_enter Try.func25, Try.ntmps25
  go_wp2_with fail
  refine HC.out.mono ?_
  rintro e w1 ⟨q, d, rfl, hq, hb1⟩
  have HB1 := hid (HB.out.below hb1); have HW1 := hid hb1; have HQ := hid hq; have HGL := hid HB.out.lt
  clear hq hb1 HC HB
  go_wp2_with fail
  go_loopw [6, 11] (fun _ iv wr => ∃ i : Nat, i ≤ n ∧ iv = .int .i64 i ∧ BoAt wr g n F ∧ Below w.heap.size w wr ∧ (n = 0 ∨ ∃ g2, q = some ⟨g2, 0, none⟩ ∧ w.heap.size ≤ g2 ∧ SyAt wr g2 n (fun x => if x < i then onS (F x) (sG l x) else sG l x))) (fun _ iv _ => n - (intOf iv).toNat)
  case atStart => exact ⟨0, Nat.zero_le _, rfl, HB1.out, HW1.out, HQ.out.imp id (fun ⟨g2, a1, a2, a3⟩ => ⟨g2, a1, a2, a3.ext (fun x _ => if_neg (Nat.not_lt_zero _))⟩)⟩
  case round =>
    obtain ⟨i, hi, rfl, hbo, hlow, hsy⟩ := hrel
    have HBO := hid hbo; have HLW := hid hlow; have HSY := hid hsy
    clear hbo hlow hsy
    by_cases hlt : i < n
    · rcases HSY.out with h0 | ⟨g2, rfl, hg2, hs2⟩
      · omega
      · have c1 := HBO.out.cell i hlt
        have hiz : (i : Int) < (n : Int) := by omega
        cases hF : F i
        · rw [hF] at c1
          have k1 := hs2.kind i hlt
          have f1 := hs2.free (i * 4 + 1)
          have HS2 := hid (hs2.set i hlt (S' := fun x => if x < i + 1 then onS (F x) (sG l x) else sG l x) (fun x hx => by
            by_cases e : x = i
            · subst e
              rw [if_pos (Nat.lt_succ_self _), if_pos rfl, if_neg (Nat.lt_irrefl _), hF]
              rfl
            · rw [if_neg e]
              by_cases e2 : x < i
              · rw [if_pos e2, if_pos (by omega)]
              · rw [if_neg e2, if_neg (by omega)]))
          have hne : g2 ≠ g := by have := HGL.out; omega
          have HB2 := hid (HBO.out.same (set_far (fun e => hne e.symm) (.int .i64 1) : (wr.setCell ⟨g2, i * 4 + 1, none⟩ (.int .i64 1)).heap[g]? = _))
          have HL2 := hid (HLW.out.trans ((fr_set wr g2 (i * 4 + 1) (.int .i64 1)).below (fun x hx => by rw [hx]; exact hg2) HLW.out.size))
          obtain ⟨kk, hkk⟩ : ∃ kk, (if i < i then onS (F i) (sG l i) else sG l i).kind = kk := ⟨_, rfl⟩
          rw [hkk] at k1
          have HG2 := hid hg2
          clear hs2 hkk hF hne hg2
          go_wp2
          go_roundw
          case rel => exact ⟨i + 1, by omega, by go_num, HB2.out, HL2.out, .inr ⟨g2, rfl, HG2.out, HS2.out⟩⟩
          case measure => simp [intOf]; omega
        · rw [hF] at c1
          have HS2 := hid (hs2.ext (S' := fun x => if x < i + 1 then onS (F x) (sG l x) else sG l x) (fun x hx => by
            by_cases e : x = i
            · subst e
              rw [if_pos (Nat.lt_succ_self _), if_neg (Nat.lt_irrefl _), hF]
              rfl
            · by_cases e2 : x < i
              · rw [if_pos e2, if_pos (by omega)]
              · rw [if_neg e2, if_neg (by omega)]))
          have HG2 := hid hg2
          clear hs2 hF hg2
          go_wp2
          go_roundw
          case rel => exact ⟨i + 1, by omega, by go_num, HBO.out, HLW.out, .inr ⟨g2, rfl, HG2.out, HS2.out⟩⟩
          case measure => simp [intOf]; omega
    · obtain rfl : i = n := by omega
      have HE : Hid (SigAt wr q i (onL F l)) := hid (by
        have hl := HI.out.len
        rcases HSY.out with h0 | ⟨g2, e1, _, hs2⟩
        · subst h0
          have : onL F l = [] := List.eq_nil_of_length_eq_zero (by rw [onL_len]; omega)
          rw [this]
          exact ⟨rfl, Nat.zero_le _, fun j hj => absurd hj (by simp), fun x hx => by cases hx⟩
        · rw [e1]
          exact (hs2.ext (S' := fun x => onS (F x) (sG l x)) (fun x hx => by rw [if_pos hx])).sig (by rw [onL_len]; exact hl) HI.out.small (fun x hx => onL_at F l x hx) (onL_fits HI.out.fits))
      go_wp2
      go_ret
      exact ⟨_, _, rfl, HE.out, HLW.out⟩
end Go.Proofs.Ytplekhfnidhcoaa
