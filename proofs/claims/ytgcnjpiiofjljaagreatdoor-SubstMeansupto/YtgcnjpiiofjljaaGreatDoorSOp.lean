/- How what a statement of layer 7 is asked about is opened: a signature, two lists of binds, a term, names, a number. -/
import Derived.Test.YtgcnjpiiofjljaaGreatDoorTOpen
import Derived.Test.YtgcnjpiiofjljaaGreatDoorSFits
namespace Go.Proofs.YtgcnjpiiofjljaaGreatDoor
open Go.ChangeShapes Go.WideShapes Go.ChangeAt Go.RowKit Go.Deep

set_option maxRecDepth 100000 in
theorem list_of_each {α : Type} {p : Nat → α → Prop} : ∀ n : Nat, (∀ i, i < n → ∃ x, p i x) → ∃ l : List α, l.length = n ∧ ∀ i (h : i < l.length), p i l[i]
  | 0, _ => ⟨[], rfl, fun i h => absurd h (by simp)⟩
  | n + 1, h => by
    obtain ⟨l, hl, hp⟩ := list_of_each n (fun i hi => h i (by omega))
    obtain ⟨x, hx⟩ := h n (by omega)
    refine ⟨l ++ [x], by simp [hl], fun i hi => ?_⟩
    by_cases hin : i < l.length
    · rw [List.getElem_append_left hin]; exact hp i hin
    · have : i = n := by simp at hi; omega
      subst this
      rw [List.getElem_append_right (by omega)]
      simpa [hl] using hx

set_option maxRecDepth 100000 in
theorem Tryz.cells73 : Tryz.prog.cellsOf 73 = 4 := by kernel_rfl
set_option maxRecDepth 100000 in
theorem Tryz.cells71 : Tryz.prog.cellsOf 71 = 1 := by kernel_rfl
set_option maxRecDepth 100000 in
theorem Tryz.cells42 : Tryz.prog.cellsOf 42 = 4 := by kernel_rfl
set_option maxRecDepth 100000 in
theorem Tryz.cells30 : Tryz.prog.cellsOf 30 = 8 := by kernel_rfl
set_option maxRecDepth 100000 in
theorem Tryz.cells23 : Tryz.prog.cellsOf 23 = 1 := by kernel_rfl
set_option maxRecDepth 100000 in
theorem Tryz.cells24 : Tryz.prog.cellsOf 24 = 1 := by kernel_rfl
set_option maxRecDepth 100000 in
theorem Tryz.cells28 : Tryz.prog.cellsOf 28 = 1 := by kernel_rfl

set_option maxRecDepth 100000 in
/-- One symbol's reading. -/
theorem sym_open {H : Type} {enc : TypeId × Value → H} {W : World} {base : Nat} {spare : Nat → Bool} {held : Bool} {fuel : Nat} {cs : List Value} {x : DataW H × List MemPlace}
    (h : DataW.trod enc Tryz.prog W base spare held fuel 73 cs = some x) : ∃ y : Sym, cs = [.string y.name, .int .i64 y.kind, .int .i64 y.arity, .string y.unit] ∧ y.Fits := by
  obtain ⟨y0, y1, y2, y3, n, _, hl, h0, h1, h2, h3⟩ := Joins.trod_struct4 Tryz.underlying73 h
  rw [Tryz.cells73] at hl
  simp only [Tryz.cells9, Tryz.cells71, Tryz.cells3] at h0 h1 h2 h3
  match cs, hl with
  | [c0, c1, c2, c3], _ =>
    obtain ⟨s0, e0, _, f0⟩ := DataW.trod_string Tryz.underlying9 h0
    obtain ⟨n1, e1, _, _⟩ := DataW.trod_int Tryz.underlying71 h1
    obtain ⟨n2, e2, _, _⟩ := DataW.trod_int Tryz.underlying3 h2
    obtain ⟨s3, e3, _, f3⟩ := DataW.trod_string Tryz.underlying9 h3
    simp at e0 e1 e2 e3
    subst e0 e1 e2 e3
    exact ⟨⟨s0, n1, n2, s3⟩, rfl, f0, f3⟩

set_option maxRecDepth 100000 in
theorem sig_open {H : Type} {enc : TypeId × Value → H} {W : World} {fuel : Nat} {v : Value} {y : DataW H × List MemPlace}
    (hf : DataW.trod enc Tryz.prog W 0 (fun _ => true) true fuel 23 [v] = some y) :
    ∃ a len cap l, v = .slice a len cap ∧ SigAt W a len l := by
  rcases DataW.trod_slice Tryz.underlying23 hf with ⟨hcs, _⟩ | ⟨x, len, cap, elems, rest, n, _, hcs, hx, hb, hl, hm, hlen, hel, _, _⟩
  · simp at hcs
    subst hcs
    exact ⟨none, 0, 0, [], rfl, ⟨rfl, by simp, fun i hi => absurd hi (by simp), fun s hs => absurd hs (by simp)⟩⟩
  · simp at hcs
    subst hcs
    rw [Tryz.cells73] at hel
    have each : ∀ i, i < len → ∃ y : Sym, (∃ cs, W.cells? 0 (x.add (i * 4)) 4 = some cs ∧ cs = [.string y.name, .int .i64 y.kind, .int .i64 y.arity, .string y.unit]) ∧ y.Fits := by
      intro i hi
      have h1 := hel i hi
      rw [List.getElem?_eq_getElem (by omega)] at h1
      cases hc : W.cells? 0 (x.add (i * 4)) 4 with
      | none => rw [hc] at h1; cases h1
      | some cs =>
        rw [hc] at h1
        obtain ⟨y, hy, hyf⟩ := sym_open h1
        exact ⟨y, ⟨cs, rfl, hy⟩, hyf⟩
    obtain ⟨ll, hll, hp⟩ := list_of_each len each
    refine ⟨some x, len, cap, ll, rfl, ⟨hll.symm, by omega, fun i hi => ?_, fun y hy => ?_⟩⟩
    · obtain ⟨⟨cs, h1, h2⟩, _⟩ := hp i hi
      obtain ⟨b, off, spot⟩ := x
      have hspot : spot = none := by
        obtain ⟨⟨cs0, h10, h20⟩, _⟩ := hp 0 (by omega)
        obtain ⟨_, _, h30⟩ := World.cells?_some h10
        have := h30 0 (by omega)
        rw [h20] at this
        simpa [Addr.add] using World.cell?_spot this
      subst hspot
      refine ⟨b, off, rfl, ?_⟩
      rw [addr_add] at h1
      obtain ⟨_, _, h3⟩ := World.cells?_some h1
      subst h2
      have k0 := h3 0 (by omega)
      have k1 := h3 1 (by omega)
      have k2 := h3 2 (by omega)
      have k3 := h3 3 (by omega)
      rw [addr_add] at k0 k1 k2 k3
      exact ⟨k0, k1, k2, k3⟩
    · obtain ⟨i, hi, rfl⟩ := List.getElem_of_mem hy
      exact (hp i hi).2

set_option maxRecDepth 100000 in
/-- One bind's reading. -/
theorem bind_open {H : Type} {enc : TypeId × Value → H} {W : World} {fuel : Nat} {cs : List Value} {x : DataW H × List MemPlace} (h : DataW.trod enc Tryz.prog W 0 (fun _ => true) true fuel 42 cs = some x) (hz : Rows.uptoBulk x.1 ≤ 1048576) :
    ∃ (v : ByteArray) (p : ByteArray × Int) (a : Option Addr) (c : Nat) (l : Fo), cs = [.string v, .string p.1, .int .i64 p.2, .slice a (lenF l) c] ∧ TmAt W p a c l ∧ nodesF l + 2 ≤ Rows.uptoBulk x.1 ∧ v.size ≤ 1048576 := by
  obtain ⟨xs, n, hfuel, hx, hl, hlen, hf⟩ := DataW.trod_struct Tryz.underlying42 h
  rw [Tryz.cells42] at hl
  match xs, hlen, cs, hl with
  | [y0, y1], _, [v0, v1, v2, v3], _ =>
    have g0 := hf 0 _ rfl
    have g1 := hf 1 _ rfl
    simp [Tryz.cells9, Tryz.cells27] at g0 g1
    obtain ⟨s0, e0, k0, f0⟩ := DataW.trod_string Tryz.underlying9 g0
    simp at e0
    subst e0 hx
    have hd : s0.size + 1 + Rows.uptoBulk y1.1 + 1 ≤ 1048576 ∧ s0.size + 1 + Rows.uptoBulk y1.1 + 1 ≤ Rows.uptoBulk (DataW.agg (List.map (·.1) [y0, y1])) := by
      have e : s0.data.toList.length = s0.size := rfl
      simp only [List.map_cons, List.map_nil, Rows.uptoBulk, Rows.uptoBulkAll, k0] at hz ⊢
      omega
    obtain ⟨p, a, c, l, e1, h3, h4⟩ := term_open n _ _ g1 (.inr (by omega))
    simp at e1
    obtain ⟨rfl, rfl, rfl⟩ := e1
    exact ⟨s0, p, a, c, l, rfl, h3, (show nodesF l + 2 ≤ Rows.uptoBulk (DataW.agg (List.map (·.1) [y0, y1])) by omega), by omega⟩
/-- How much there is of binds. -/
def totB : List Bn → Nat
  | [] => 0
  | x :: r => nodesF x.2.2 + 2 + totB r
theorem totB_len : ∀ l : List Bn, 2 * l.length ≤ totB l
  | [] => Nat.le_refl _
  | x :: r => by have := totB_len r; simp only [totB, List.length_cons]; omega
theorem totB_mem : ∀ {l : List Bn} {b : Bn}, b ∈ l → nodesF b.2.2 + 2 ≤ totB l
  | x :: r, b, h => by
    simp only [totB]
    rcases List.mem_cons.1 h with rfl | h
    · omega
    · have := totB_mem h; omega
theorem binds_of {H : Type} {W : World} {b : Nat} : ∀ (ds : List (DataW H × List MemPlace)) (o : Nat),
    (∀ (i : Nat) (h : i < ds.length), ∃ (x : Bn) (a : Option Addr) (c : Nat), BdAt W b (o + i * 4) x a c ∧ nodesF x.2.2 + 2 ≤ Rows.uptoBulk ds[i].1 ∧ x.1.size ≤ 1048576) →
    ∃ bl : List Bn, bl.length = ds.length ∧ (∀ i (h : i < bl.length), ∃ a c, BdAt W b (o + i * 4) bl[i] a c) ∧ totB bl ≤ Rows.uptoBulkAll (ds.map (·.1)) ∧ ∀ x ∈ bl, x.1.size ≤ 1048576
  | [], o, _ => ⟨[], rfl, fun i h => absurd h (by simp), Nat.zero_le _, fun x hx => by cases hx⟩
  | d :: r, o, h => by
    obtain ⟨bl, hl, hk, hn, hs⟩ := binds_of r (o + 4) (fun i hi => by
      obtain ⟨x, a, c, h1, h2⟩ := h (i + 1) (by simpa using hi)
      rw [show o + (i + 1) * 4 = o + 4 + i * 4 by omega] at h1
      exact ⟨x, a, c, h1, h2⟩)
    obtain ⟨x, a, c, h1, h2, h3⟩ := h 0 (by simp)
    simp only [Nat.zero_mul, Nat.add_zero, List.getElem_cons_zero] at h1 h2
    refine ⟨x :: bl, by simp [hl], fun i hi => ?_, ?_, fun y hy => ?_⟩
    · cases i with
      | zero => exact ⟨a, c, by simpa using h1⟩
      | succ i =>
        obtain ⟨a', c', h4⟩ := hk i (by simpa using hi)
        refine ⟨a', c', ?_⟩
        rw [show o + (i + 1) * 4 = o + 4 + i * 4 by omega]
        simpa using h4
    · simp only [totB, List.map_cons, Rows.uptoBulkAll]
      omega
    · rcases List.mem_cons.1 hy with rfl | hy
      · exact h3
      · exact hs y hy
set_option maxRecDepth 100000 in
/-- Binds that came in. -/
theorem binds_open {H : Type} {enc : TypeId × Value → H} {W : World} {fuel : Nat} {v : Value} {y : DataW H × List MemPlace} (hf : DataW.trod enc Tryz.prog W 0 (fun _ => true) true fuel 24 [v] = some y) (hz : Rows.uptoBulk y.1 ≤ 1048576) :
    ∃ P pc bl, v = .slice P bl.length pc ∧ BindsAt W P bl.length bl ∧ totB bl + 1 ≤ Rows.uptoBulk y.1 := by
  rcases DataW.trod_slice Tryz.underlying24 hf with ⟨hcs, h2⟩ | ⟨ad, len, c, elems, rest, n', hn', hcs, h2, _, hlc, hcm, hlen2, hel, _, _⟩
  · simp at hcs
    subst hcs
    exact ⟨none, 0, [], rfl, ⟨rfl, by simp, fun i h => absurd h (by simp), fun x hx => by cases hx⟩, bulk_pos _⟩
  · simp at hcs
    subst hcs
    rw [Tryz.cells42] at hel
    have hb2 : Rows.uptoBulkAll (elems.map (·.1)) + 1 ≤ Rows.uptoBulk y.1 := by
      simp only [h2, Rows.uptoBulk]; omega
    by_cases hz0 : len = 0
    · subst hz0
      exact ⟨some ad, c, [], rfl, ⟨rfl, by simp, fun i h => absurd h (by simp), fun x hx => by cases hx⟩, bulk_pos _⟩
    · have each : ∀ i (hi : i < elems.length), ∃ (v : ByteArray) (p : ByteArray × Int) (a : Option Addr) (c : Nat) (l : Fo), W.cells? 0 (ad.add (i * 4)) 4 = some [.string v, .string p.1, .int .i64 p.2, .slice a (lenF l) c] ∧ TmAt W p a c l ∧ nodesF l + 2 ≤ Rows.uptoBulk elems[i].1 ∧ v.size ≤ 1048576 := by
        intro i hi
        have h1 := hel i (by omega)
        rw [List.getElem?_eq_getElem hi] at h1
        cases hc : W.cells? 0 (ad.add (i * 4)) 4 with
        | none => rw [hc] at h1; cases h1
        | some cs' =>
          rw [hc] at h1
          have := bulk_all (List.mem_map_of_mem (f := (·.1)) (List.getElem_mem hi))
          obtain ⟨v, p, a, c, l, rfl, h3⟩ := bind_open h1 (by omega)
          exact ⟨v, p, a, c, l, rfl, h3⟩
      obtain ⟨b, off, spot⟩ := ad
      have hspot : spot = none := by
        obtain ⟨v, p, a, c, l, h3, _⟩ := each 0 (by omega)
        obtain ⟨_, _, h30⟩ := World.cells?_some h3
        have := h30 0 (by omega)
        simpa [Addr.add] using World.cell?_spot this
      subst hspot
      obtain ⟨bl, h3, h4, h5, h6⟩ := binds_of (W := W) (b := b) elems off (fun i hi => by
        obtain ⟨v, p, a, c, l, h3, h4, h5, h6⟩ := each i hi
        rw [addr_add] at h3
        obtain ⟨_, _, h30⟩ := World.cells?_some h3
        have q0 := h30 0 (by omega)
        have q1 := h30 1 (by omega)
        have q2 := h30 2 (by omega)
        have q3 := h30 3 (by omega)
        rw [addr_add] at q0 q1 q2 q3
        exact ⟨(v, p, l), a, c, ⟨q0, q1, q2, q3, h4⟩, h5, h6⟩)
      have hbl : bl.length = len := by omega
      subst hbl
      refine ⟨some ⟨b, off, none⟩, c, bl, rfl, ⟨rfl, by omega, fun i hi => ?_, fun x hx => ?_⟩, by omega⟩
      · obtain ⟨a', c', h8⟩ := h4 i hi
        exact ⟨b, off, a', c', rfl, h8⟩
      · have := h6 x hx
        have e : maxLen = 9223372036854775807 := rfl
        omega

/-- The slice with this address and length holds these texts. -/
structure StrsAt (w : World) (a : Option Addr) (n : Nat) (ss : List ByteArray) : Prop where
  len : n = ss.length
  small : n ≤ maxLen
  cells : ∀ i (h : i < ss.length), ∃ b off, a = some ⟨b, off, none⟩ ∧ w.cell? ⟨b, off + i, none⟩ = some (.string ss[i])
  fits : ∀ s ∈ ss, s.size ≤ maxLen
theorem StrsAt.below {w w' : World} {a : Option Addr} {n : Nat} {l : List ByteArray} (h : StrsAt w a n l) (hb : Below w.heap.size w w') : StrsAt w' a n l :=
  ⟨h.len, h.small, fun i hi => let ⟨b, off, h1, h2⟩ := h.cells i hi; ⟨b, off, h1, bd_cell hb _ _ h2⟩, h.fits⟩
set_option maxRecDepth 100000 in
theorem strs_open {H : Type} {enc : TypeId × Value → H} {W : World} {fuel : Nat} {v : Value} {y : DataW H × List MemPlace}
    (hf : DataW.trod enc Tryz.prog W 0 (fun _ => true) true fuel 28 [v] = some y) : ∃ a cap ss, v = .slice a ss.length cap ∧ StrsAt W a ss.length ss ∧ ss.length ≤ Rows.uptoBulk y.1 := by
  rcases DataW.trod_slice Tryz.underlying28 hf with ⟨hcs, _⟩ | ⟨x, len, cap, elems, rest, n, _, hcs, hx, hb, hl, hm, hlen, hel, _, _⟩
  · simp at hcs
    subst hcs
    exact ⟨none, 0, [], rfl, ⟨rfl, by simp, fun i hi => absurd hi (by simp), fun s hs => absurd hs (by simp)⟩, Nat.zero_le _⟩
  · simp at hcs
    subst hcs
    rw [Tryz.cells9] at hel
    have hb2 : len ≤ Rows.uptoBulk y.1 := by
      have := bulk_len (elems.map (·.1))
      rw [List.length_map] at this
      simp only [hx, Rows.uptoBulk]
      omega
    have each : ∀ i, i < len → ∃ s : ByteArray, W.cells? 0 (x.add (i * 1)) 1 = some [.string s] ∧ s.size ≤ maxLen := by
      intro i hi
      have h1 := hel i hi
      rw [List.getElem?_eq_getElem (by omega)] at h1
      cases hc : W.cells? 0 (x.add (i * 1)) 1 with
      | none => rw [hc] at h1; cases h1
      | some cs =>
        rw [hc] at h1
        obtain ⟨s, hy, _, hyf⟩ := DataW.trod_string Tryz.underlying9 h1
        subst hy
        exact ⟨s, rfl, hyf⟩
    obtain ⟨ll, hll, hp⟩ := list_of_each len each
    subst hll
    refine ⟨some x, cap, ll, rfl, ⟨rfl, by omega, fun i hi => ?_, fun y hy => ?_⟩, hb2⟩
    · obtain ⟨h1, _⟩ := hp i hi
      obtain ⟨b, off, spot⟩ := x
      have hspot : spot = none := by
        obtain ⟨h10, _⟩ := hp 0 (by omega)
        obtain ⟨_, _, h30⟩ := World.cells?_some h10
        have := h30 0 (by omega)
        simpa [Addr.add] using World.cell?_spot this
      subst hspot
      refine ⟨b, off, rfl, ?_⟩
      rw [addr_add] at h1
      obtain ⟨_, _, h3⟩ := World.cells?_some h1
      have k0 := h3 0 (by omega)
      rw [addr_add] at k0
      simpa using k0
    · obtain ⟨i, hi, rfl⟩ := List.getElem_of_mem hy
      exact (hp i hi).2

/-- What a statement is asked about. -/
structure Sm where
  S : Option Addr
  n : Nat
  cap : Nat
  sg : List Sym
  pa : Option Addr
  ca : Nat
  ls : List Bn
  pb : Option Addr
  cb : Nat
  bs : List Bn
  t : Tn
  a : Option Addr
  c : Nat
  pn : Option Addr
  cn : Nat
  ns : List ByteArray
  f : Int
/-- Its cells. -/
def Sm.cells (q : Sm) : Array Value := #[.slice q.S q.n q.cap, .slice q.pa q.ls.length q.ca, .slice q.pb q.bs.length q.cb, .string q.t.1.1, .int .i64 q.t.1.2, .slice q.a (lenF q.t.2) q.c, .slice q.pn q.ns.length q.cn, .int .i64 q.f]
structure SmAt (w : World) (q : Sm) : Prop where
  sig : SigAt w q.S q.n q.sg
  ls : BindsAt w q.pa q.ls.length q.ls
  bs : BindsAt w q.pb q.bs.length q.bs
  tm : TmAt w q.t.1 q.a q.c q.t.2
  ns : StrsAt w q.pn q.ns.length q.ns
theorem SmAt.below {w w' : World} {q : Sm} (h : SmAt w q) (hb : Below w.heap.size w w') : SmAt w' q := ⟨h.sig.below hb, h.ls.below hb, h.bs.below hb, h.tm.below hb, h.ns.below hb⟩
structure SmSz (q : Sm) : Prop where
  all : totB q.ls + totB q.bs + nodesF q.t.2 + q.ns.length + 4 ≤ 1048576
set_option maxRecDepth 100000 in
theorem some_open {H : Type} {enc : TypeId × Value → H} {W : World} {r : Reach} {b0 : Nat} {v : Value} {dd : DataW H} {ps : List MemPlace} (hv : Value.okWide Tryz.prog W r b0 30 v)
    (h : DataW.Trod enc Tryz.prog W 0 (fun _ => true) true 30 v dd ps) (hz : Rows.uptoBulk dd ≤ 1048576) : ∃ q : Sm, v = .agg q.cells ∧ SmAt W q ∧ SmSz q := by
  obtain ⟨cs, rfl, hsz⟩ := okWide_struct Tryz.underlying30 hv
  obtain ⟨fuel, hf⟩ := h
  obtain ⟨xs, n, hfuel, hx, hl, hlen, hff⟩ := DataW.trod_struct Tryz.underlying30 hf
  rw [Tryz.cells30] at hsz
  simp only [Value.cells] at hff hl
  obtain ⟨cl⟩ := cs
  match xs, hlen, cl, hsz with
  | [y0, y1, y2, y3, y4, y5], _, [v0, v1, v2, v3, v4, v5, v6, v7], _ =>
    have g0 := hff 0 _ rfl
    have g1 := hff 1 _ rfl
    have g2 := hff 2 _ rfl
    have g3 := hff 3 _ rfl
    have g4 := hff 4 _ rfl
    have g5 := hff 5 _ rfl
    simp [Tryz.cells23, Tryz.cells24, Tryz.cells27, Tryz.cells28, Tryz.cells3] at g0 g1 g2 g3 g4 g5
    have hd : Rows.uptoBulk y0.1 + Rows.uptoBulk y1.1 + Rows.uptoBulk y2.1 + Rows.uptoBulk y3.1 + Rows.uptoBulk y4.1 + Rows.uptoBulk y5.1 + 1 ≤ 1048576 := by
      have := congrArg Prod.fst hx
      simp only at this
      rw [this] at hz
      simp only [List.map_cons, List.map_nil, Rows.uptoBulk, Rows.uptoBulkAll] at hz
      omega
    obtain ⟨S, len, cap, l, rfl, hS⟩ := sig_open g0
    obtain ⟨pa, ca, as', rfl, hA, nA⟩ := binds_open g1 (by omega)
    obtain ⟨pb, cb, bs, rfl, hB, nB⟩ := binds_open g2 (by omega)
    obtain ⟨pt, a, c, la, ea, hT, nT⟩ := term_open n _ _ g3 (.inr (by omega))
    obtain ⟨pn, cn, ns, rfl, hN, nN⟩ := strs_open g4
    obtain ⟨f, e5, _, _⟩ := DataW.trod_int Tryz.underlying3 g5
    simp at ea e5
    obtain ⟨rfl, rfl, rfl⟩ := ea
    subst e5
    have := bulk_pos y0.1
    have := bulk_pos y5.1
    refine ⟨⟨S, len, cap, l, pa, ca, as', pb, cb, bs, (pt, la), a, c, pn, cn, ns, f⟩, rfl, ⟨hS, hA, hB, hT, hN⟩, ⟨?_⟩⟩
    show totB as' + totB bs + nodesF la + ns.length + 4 ≤ _
    omega
end Go.Proofs.YtgcnjpiiofjljaaGreatDoor
