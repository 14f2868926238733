import Derived.Test.YtfnfbljijkjkjaaGreatKUfS
/- How what a statement of layer 7 is asked about is opened: a signature, two lists of binds, a term, names, a number. -/
namespace Go.Proofs.YtfnfbljijkjkjaaGreat
open Go.ChangeShapes Go.WideShapes Go.ChangeAt Go.RowKit Go.Deep

set_option maxRecDepth 100000 in
theorem Tryz.cells38 : Tryz.prog.cellsOf 38 = 4 := by kernel_rfl
set_option maxRecDepth 100000 in
theorem Tryz.cells29 : Tryz.prog.cellsOf 29 = 1 := by kernel_rfl
set_option maxRecDepth 100000 in
/-- One bind's reading. -/
theorem bind_open {H : Type} {enc : TypeId × Value → H} {W : World} {fuel : Nat} {cs : List Value} {x : DataW H × List MemPlace} (h : DataW.trod enc Tryz.prog W 0 (fun _ => true) true fuel 38 cs = some x) (hz : Rows.uptoBulk x.1 ≤ 1048576) :
    ∃ (v : ByteArray) (p : ByteArray × Int) (a : Option Addr) (c : Nat) (l : Fo), cs = [.string v, .string p.1, .int .i64 p.2, .slice a (lenF l) c] ∧ TmAt W p a c l ∧ nodesF l + 2 ≤ Rows.uptoBulk x.1 ∧ v.size ≤ 1048576 := by
  obtain ⟨xs, n, hfuel, hx, hl, hlen, hf⟩ := DataW.trod_struct Tryz.underlying38 h
  rw [Tryz.cells38] at hl
  match xs, hlen, cs, hl with
  | [y0, y1], _, [v0, v1, v2, v3], _ =>
    have g0 := hf 0 _ rfl
    have g1 := hf 1 _ rfl
    simp [Tryz.cells9, Tryz.cells26] at g0 g1
    obtain ⟨s0, e0, k0, f0⟩ := DataW.trod_string Tryz.underlying9 g0
    simp at e0
    subst e0 hx
    have hd : s0.size + 1 + Rows.uptoBulk y1.1 + 1 ≤ 1048576 ∧ s0.size + 1 + Rows.uptoBulk y1.1 + 1 ≤ Rows.uptoBulk (DataW.agg (List.map (·.1) [y0, y1])) := by
      have e : s0.data.toList.length = s0.size := rfl
      simp only [List.map_cons, List.map_nil, Rows.uptoBulk, Rows.uptoBulkAll, k0] at hz ⊢
      omega
    obtain ⟨p, a, c, l, e1, h3, h4⟩ := term_open n _ _ g1 (.inr (by omega))
    simp at e1
    obtain ⟨rfl, rfl, rfl⟩ := e1
    exact ⟨s0, p, a, c, l, rfl, h3, (show nodesF l + 2 ≤ Rows.uptoBulk (DataW.agg (List.map (·.1) [y0, y1])) by omega), by omega⟩
/-- How much there is of binds. -/
def totB : List Bn → Nat
  | [] => 0
  | x :: r => nodesF x.2.2 + 2 + totB r
theorem totB_len : ∀ l : List Bn, 2 * l.length ≤ totB l
  | [] => Nat.le_refl _
  | x :: r => by have := totB_len r; simp only [totB, List.length_cons]; omega
theorem totB_mem : ∀ {l : List Bn} {b : Bn}, b ∈ l → nodesF b.2.2 + 2 ≤ totB l
  | x :: r, b, h => by
    simp only [totB]
    rcases List.mem_cons.1 h with rfl | h
    · omega
    · have := totB_mem h; omega
theorem binds_of {H : Type} {W : World} {b : Nat} : ∀ (ds : List (DataW H × List MemPlace)) (o : Nat),
    (∀ (i : Nat) (h : i < ds.length), ∃ (x : Bn) (a : Option Addr) (c : Nat), BdAt W b (o + i * 4) x a c ∧ nodesF x.2.2 + 2 ≤ Rows.uptoBulk ds[i].1 ∧ x.1.size ≤ 1048576) →
    ∃ bl : List Bn, bl.length = ds.length ∧ (∀ i (h : i < bl.length), ∃ a c, BdAt W b (o + i * 4) bl[i] a c) ∧ totB bl ≤ Rows.uptoBulkAll (ds.map (·.1)) ∧ ∀ x ∈ bl, x.1.size ≤ 1048576
  | [], o, _ => ⟨[], rfl, fun i h => absurd h (by simp), Nat.zero_le _, fun x hx => by cases hx⟩
  | d :: r, o, h => by
    obtain ⟨bl, hl, hk, hn, hs⟩ := binds_of r (o + 4) (fun i hi => by
      obtain ⟨x, a, c, h1, h2⟩ := h (i + 1) (by simpa using hi)
      rw [show o + (i + 1) * 4 = o + 4 + i * 4 by omega] at h1
      exact ⟨x, a, c, h1, h2⟩)
    obtain ⟨x, a, c, h1, h2, h3⟩ := h 0 (by simp)
    simp only [Nat.zero_mul, Nat.add_zero, List.getElem_cons_zero] at h1 h2
    refine ⟨x :: bl, by simp [hl], fun i hi => ?_, ?_, fun y hy => ?_⟩
    · cases i with
      | zero => exact ⟨a, c, by simpa using h1⟩
      | succ i =>
        obtain ⟨a', c', h4⟩ := hk i (by simpa using hi)
        refine ⟨a', c', ?_⟩
        rw [show o + (i + 1) * 4 = o + 4 + i * 4 by omega]
        simpa using h4
    · simp only [totB, List.map_cons, Rows.uptoBulkAll]
      omega
    · rcases List.mem_cons.1 hy with rfl | hy
      · exact h3
      · exact hs y hy
set_option maxRecDepth 100000 in
/-- Binds that came in. -/
theorem binds_open {H : Type} {enc : TypeId × Value → H} {W : World} {fuel : Nat} {v : Value} {y : DataW H × List MemPlace} (hf : DataW.trod enc Tryz.prog W 0 (fun _ => true) true fuel 29 [v] = some y) (hz : Rows.uptoBulk y.1 ≤ 1048576) :
    ∃ P pc bl, v = .slice P bl.length pc ∧ BindsAt W P bl.length bl ∧ totB bl + 1 ≤ Rows.uptoBulk y.1 := by
  rcases DataW.trod_slice Tryz.underlying29 hf with ⟨hcs, h2⟩ | ⟨ad, len, c, elems, rest, n', hn', hcs, h2, _, hlc, hcm, hlen2, hel, _, _⟩
  · simp at hcs
    subst hcs
    exact ⟨none, 0, [], rfl, ⟨rfl, by simp, fun i h => absurd h (by simp), fun x hx => by cases hx⟩, bulk_pos _⟩
  · simp at hcs
    subst hcs
    rw [Tryz.cells38] at hel
    have hb2 : Rows.uptoBulkAll (elems.map (·.1)) + 1 ≤ Rows.uptoBulk y.1 := by
      simp only [h2, Rows.uptoBulk]; omega
    by_cases hz0 : len = 0
    · subst hz0
      exact ⟨some ad, c, [], rfl, ⟨rfl, by simp, fun i h => absurd h (by simp), fun x hx => by cases hx⟩, bulk_pos _⟩
    · have each : ∀ i (hi : i < elems.length), ∃ (v : ByteArray) (p : ByteArray × Int) (a : Option Addr) (c : Nat) (l : Fo), W.cells? 0 (ad.add (i * 4)) 4 = some [.string v, .string p.1, .int .i64 p.2, .slice a (lenF l) c] ∧ TmAt W p a c l ∧ nodesF l + 2 ≤ Rows.uptoBulk elems[i].1 ∧ v.size ≤ 1048576 := by
        intro i hi
        have h1 := hel i (by omega)
        rw [List.getElem?_eq_getElem hi] at h1
        cases hc : W.cells? 0 (ad.add (i * 4)) 4 with
        | none => rw [hc] at h1; cases h1
        | some cs' =>
          rw [hc] at h1
          have := bulk_all (List.mem_map_of_mem (f := (·.1)) (List.getElem_mem hi))
          obtain ⟨v, p, a, c, l, rfl, h3⟩ := bind_open h1 (by omega)
          exact ⟨v, p, a, c, l, rfl, h3⟩
      obtain ⟨b, off, spot⟩ := ad
      have hspot : spot = none := by
        obtain ⟨v, p, a, c, l, h3, _⟩ := each 0 (by omega)
        obtain ⟨_, _, h30⟩ := World.cells?_some h3
        have := h30 0 (by omega)
        simpa [Addr.add] using World.cell?_spot this
      subst hspot
      obtain ⟨bl, h3, h4, h5, h6⟩ := binds_of (W := W) (b := b) elems off (fun i hi => by
        obtain ⟨v, p, a, c, l, h3, h4, h5, h6⟩ := each i hi
        rw [addr_add] at h3
        obtain ⟨_, _, h30⟩ := World.cells?_some h3
        have q0 := h30 0 (by omega)
        have q1 := h30 1 (by omega)
        have q2 := h30 2 (by omega)
        have q3 := h30 3 (by omega)
        rw [addr_add] at q0 q1 q2 q3
        exact ⟨(v, p, l), a, c, ⟨q0, q1, q2, q3, h4⟩, h5, h6⟩)
      have hbl : bl.length = len := by omega
      subst hbl
      refine ⟨some ⟨b, off, none⟩, c, bl, rfl, ⟨rfl, by omega, fun i hi => ?_, fun x hx => ?_⟩, by omega⟩
      · obtain ⟨a', c', h8⟩ := h4 i hi
        exact ⟨b, off, a', c', rfl, h8⟩
      · have := h6 x hx
        have e : maxLen = 9223372036854775807 := rfl
        omega


set_option maxRecDepth 100000 in
theorem Tryz.cells31 : Tryz.prog.cellsOf 31 = 8 := by kernel_rfl
set_option maxRecDepth 100000 in
theorem Tryz.cells23 : Tryz.prog.cellsOf 23 = 1 := by kernel_rfl
/-- What StepRight is asked about: a signature, an equation, binds. -/
structure Gv where
  S : Option Addr
  n : Nat
  cap : Nat
  sg : List Sym
  A : Tn
  B : Tn
  a : Option Addr
  b : Option Addr
  c : Nat
  d : Nat
  p : Option Addr
  pc : Nat
  bs : List Bn
def Gv.cells (q : Gv) : Array Value := #[.slice q.S q.n q.cap, .string q.A.1.1, .int .i64 q.A.1.2, .slice q.a (lenF q.A.2) q.c, .string q.B.1.1, .int .i64 q.B.1.2, .slice q.b (lenF q.B.2) q.d, .slice q.p q.bs.length q.pc]
structure GvAt (w : World) (q : Gv) : Prop where
  sig : SigAt w q.S q.n q.sg
  left : TmAt w q.A.1 q.a q.c q.A.2
  right : TmAt w q.B.1 q.b q.d q.B.2
  bs : BindsAt w q.p q.bs.length q.bs
theorem GvAt.below {w w' : World} {q : Gv} (h : GvAt w q) (hb : Below w.heap.size w w') : GvAt w' q := ⟨h.sig.below hb, h.left.below hb, h.right.below hb, h.bs.below hb⟩
structure GvSz (q : Gv) : Prop where
  sg : q.n ≤ 1048576
  all : nodesF q.A.2 + nodesF q.B.2 + totB q.bs ≤ 1048576
set_option maxRecDepth 100000 in
theorem sig_few {H : Type} {enc : TypeId × Value → H} {W : World} {fuel : Nat} {v : Value} {y : DataW H × List MemPlace}
    (hf : DataW.trod enc Tryz.prog W 0 (fun _ => true) true fuel 23 [v] = some y) (hz : Rows.uptoBulk y.1 ≤ 1048576) :
    ∃ a len cap l, v = .slice a len cap ∧ SigAt W a len l ∧ len ≤ 1048576 := by
  obtain ⟨a, len, cap, l, rfl, hS, hcap⟩ := sig_open hf
  refine ⟨a, len, cap, l, rfl, hS, ?_⟩
  rcases DataW.trod_slice Tryz.underlying23 hf with ⟨hcs, _⟩ | ⟨x, len2, cap2, elems, rest, n, _, hcs, hx, hb, hl, hm, hlen, hel, _, _⟩
  · simp at hcs
    omega
  · simp at hcs
    obtain ⟨rfl, rfl, rfl⟩ := hcs
    have := congrArg Prod.fst hx
    simp only at this
    rw [this] at hz
    simp only [Rows.uptoBulk] at hz
    have := bulk_len (elems.map (·.1))
    rw [List.length_map] at this
    omega
set_option maxRecDepth 100000 in
theorem given_open {H : Type} {enc : TypeId × Value → H} {W : World} {r : Reach} {b0 : Nat} {v : Value} {dd : DataW H} {ps : List MemPlace} (hv : Value.okWide Tryz.prog W r b0 31 v)
    (h : DataW.Trod enc Tryz.prog W 0 (fun _ => true) true 31 v dd ps) (hz : Rows.uptoBulk dd ≤ 1048576) : ∃ q : Gv, v = .agg q.cells ∧ GvAt W q ∧ GvSz q := by
  obtain ⟨cs, rfl, hsz⟩ := okWide_struct Tryz.underlying31 hv
  obtain ⟨fuel, hf⟩ := h
  obtain ⟨xs, n, hfuel, hx, hl, hlen, hff⟩ := DataW.trod_struct Tryz.underlying31 hf
  rw [Tryz.cells31] at hsz
  simp only [Value.cells] at hff hl
  obtain ⟨cl⟩ := cs
  match xs, hlen, cl, hsz with
  | [y0, y1, y2], _, [v0, v1, v2, v3, v4, v5, v6, v7], _ =>
    have g0 := hff 0 _ rfl
    have g1 := hff 1 _ rfl
    have g2 := hff 2 _ rfl
    simp [Tryz.cells23, Tryz.cells28, Tryz.cells29] at g0 g1 g2
    have hd : Rows.uptoBulk y0.1 + Rows.uptoBulk y1.1 + Rows.uptoBulk y2.1 + 1 ≤ 1048576 := by
      have := congrArg Prod.fst hx
      simp only at this
      rw [this] at hz
      simp only [List.map_cons, List.map_nil, Rows.uptoBulk, Rows.uptoBulkAll] at hz
      omega
    obtain ⟨S, len, cap, l, rfl, hS, hn⟩ := sig_few g0 (by omega)
    obtain ⟨A, B, a, b, c, d, e1, hA, hB, nAB⟩ := eq_trod g1 (by omega)
    obtain ⟨p, pc, bs, rfl, hBs, nB⟩ := binds_open g2 (by omega)
    simp [eqC] at e1
    obtain ⟨rfl, rfl, rfl, rfl, rfl, rfl⟩ := e1
    refine ⟨⟨S, len, cap, l, A, B, a, b, c, d, p, pc, bs⟩, rfl, ⟨hS, hA, hB, hBs⟩, ⟨hn, ?_⟩⟩
    show nodesF A.2 + nodesF B.2 + totB bs ≤ _
    omega
end Go.Proofs.YtfnfbljijkjkjaaGreat
