/- Texts laid together: SOp, TClone, SCopy, SOnly, SRow, SPut, CanP. -/
import Derived.Test.YtgidgmgpgfonnaaGreatM1
/- How what a statement of layer 7 is asked about is opened: a signature, two lists of binds, a term, names, a number. -/
namespace Go.Proofs.YtgidgmgpgfonnaaGreat
open Go.ChangeShapes Go.WideShapes Go.ChangeAt Go.RowKit Go.Deep

set_option maxRecDepth 100000 in
theorem list_of_each {α : Type} {p : Nat → α → Prop} : ∀ n : Nat, (∀ i, i < n → ∃ x, p i x) → ∃ l : List α, l.length = n ∧ ∀ i (h : i < l.length), p i l[i]
  | 0, _ => ⟨[], rfl, fun i h => absurd h (by simp)⟩
  | n + 1, h => by
    obtain ⟨l, hl, hp⟩ := list_of_each n (fun i hi => h i (by omega))
    obtain ⟨x, hx⟩ := h n (by omega)
    refine ⟨l ++ [x], by simp [hl], fun i hi => ?_⟩
    by_cases hin : i < l.length
    · rw [List.getElem_append_left hin]; exact hp i hin
    · have : i = n := by simp at hi; omega
      subst this
      rw [List.getElem_append_right (by omega)]
      simpa [hl] using hx

set_option maxRecDepth 100000 in
theorem Tryz.cells69 : Tryz.prog.cellsOf 69 = 4 := by kernel_rfl
set_option maxRecDepth 100000 in
theorem Tryz.cells67 : Tryz.prog.cellsOf 67 = 1 := by kernel_rfl
set_option maxRecDepth 100000 in
theorem Tryz.cells43 : Tryz.prog.cellsOf 43 = 4 := by kernel_rfl
set_option maxRecDepth 100000 in
theorem Tryz.cells30 : Tryz.prog.cellsOf 30 = 8 := by kernel_rfl
set_option maxRecDepth 100000 in
theorem Tryz.cells23 : Tryz.prog.cellsOf 23 = 1 := by kernel_rfl
set_option maxRecDepth 100000 in
theorem Tryz.cells24 : Tryz.prog.cellsOf 24 = 1 := by kernel_rfl
set_option maxRecDepth 100000 in
theorem Tryz.cells28 : Tryz.prog.cellsOf 28 = 1 := by kernel_rfl

set_option maxRecDepth 100000 in
/-- One symbol's reading. -/
theorem sym_open {H : Type} {enc : TypeId × Value → H} {W : World} {base : Nat} {spare : Nat → Bool} {held : Bool} {fuel : Nat} {cs : List Value} {x : DataW H × List MemPlace}
    (h : DataW.trod enc Tryz.prog W base spare held fuel 69 cs = some x) : ∃ y : Sym, cs = [.string y.name, .int .i64 y.kind, .int .i64 y.arity, .string y.unit] ∧ y.Fits := by
  obtain ⟨y0, y1, y2, y3, n, _, hl, h0, h1, h2, h3⟩ := Joins.trod_struct4 Tryz.underlying69 h
  rw [Tryz.cells69] at hl
  simp only [Tryz.cells9, Tryz.cells67, Tryz.cells3] at h0 h1 h2 h3
  match cs, hl with
  | [c0, c1, c2, c3], _ =>
    obtain ⟨s0, e0, _, f0⟩ := DataW.trod_string Tryz.underlying9 h0
    obtain ⟨n1, e1, _, _⟩ := DataW.trod_int Tryz.underlying67 h1
    obtain ⟨n2, e2, _, _⟩ := DataW.trod_int Tryz.underlying3 h2
    obtain ⟨s3, e3, _, f3⟩ := DataW.trod_string Tryz.underlying9 h3
    simp at e0 e1 e2 e3
    subst e0 e1 e2 e3
    exact ⟨⟨s0, n1, n2, s3⟩, rfl, f0, f3⟩

set_option maxRecDepth 100000 in
theorem sig_open {H : Type} {enc : TypeId × Value → H} {W : World} {fuel : Nat} {v : Value} {y : DataW H × List MemPlace}
    (hf : DataW.trod enc Tryz.prog W 0 (fun _ => true) true fuel 23 [v] = some y) :
    ∃ a len cap l, v = .slice a len cap ∧ SigAt W a len l := by
  rcases DataW.trod_slice Tryz.underlying23 hf with ⟨hcs, _⟩ | ⟨x, len, cap, elems, rest, n, _, hcs, hx, hb, hl, hm, hlen, hel, _, _⟩
  · simp at hcs
    subst hcs
    exact ⟨none, 0, 0, [], rfl, ⟨rfl, by simp, fun i hi => absurd hi (by simp), fun s hs => absurd hs (by simp)⟩⟩
  · simp at hcs
    subst hcs
    rw [Tryz.cells69] at hel
    have each : ∀ i, i < len → ∃ y : Sym, (∃ cs, W.cells? 0 (x.add (i * 4)) 4 = some cs ∧ cs = [.string y.name, .int .i64 y.kind, .int .i64 y.arity, .string y.unit]) ∧ y.Fits := by
      intro i hi
      have h1 := hel i hi
      rw [List.getElem?_eq_getElem (by omega)] at h1
      cases hc : W.cells? 0 (x.add (i * 4)) 4 with
      | none => rw [hc] at h1; cases h1
      | some cs =>
        rw [hc] at h1
        obtain ⟨y, hy, hyf⟩ := sym_open h1
        exact ⟨y, ⟨cs, rfl, hy⟩, hyf⟩
    obtain ⟨ll, hll, hp⟩ := list_of_each len each
    refine ⟨some x, len, cap, ll, rfl, ⟨hll.symm, by omega, fun i hi => ?_, fun y hy => ?_⟩⟩
    · obtain ⟨⟨cs, h1, h2⟩, _⟩ := hp i hi
      obtain ⟨b, off, spot⟩ := x
      have hspot : spot = none := by
        obtain ⟨⟨cs0, h10, h20⟩, _⟩ := hp 0 (by omega)
        obtain ⟨_, _, h30⟩ := World.cells?_some h10
        have := h30 0 (by omega)
        rw [h20] at this
        simpa [Addr.add] using World.cell?_spot this
      subst hspot
      refine ⟨b, off, rfl, ?_⟩
      rw [addr_add] at h1
      obtain ⟨_, _, h3⟩ := World.cells?_some h1
      subst h2
      have k0 := h3 0 (by omega)
      have k1 := h3 1 (by omega)
      have k2 := h3 2 (by omega)
      have k3 := h3 3 (by omega)
      rw [addr_add] at k0 k1 k2 k3
      exact ⟨k0, k1, k2, k3⟩
    · obtain ⟨i, hi, rfl⟩ := List.getElem_of_mem hy
      exact (hp i hi).2

set_option maxRecDepth 100000 in
/-- One bind's reading. -/
theorem bind_open {H : Type} {enc : TypeId × Value → H} {W : World} {fuel : Nat} {cs : List Value} {x : DataW H × List MemPlace} (h : DataW.trod enc Tryz.prog W 0 (fun _ => true) true fuel 43 cs = some x) (hz : Rows.uptoBulk x.1 ≤ 1048576) :
    ∃ (v : ByteArray) (p : ByteArray × Int) (a : Option Addr) (c : Nat) (l : Fo), cs = [.string v, .string p.1, .int .i64 p.2, .slice a (lenF l) c] ∧ TmAt W p a c l ∧ nodesF l + 2 ≤ Rows.uptoBulk x.1 ∧ v.size ≤ 1048576 := by
  obtain ⟨xs, n, hfuel, hx, hl, hlen, hf⟩ := DataW.trod_struct Tryz.underlying43 h
  rw [Tryz.cells43] at hl
  match xs, hlen, cs, hl with
  | [y0, y1], _, [v0, v1, v2, v3], _ =>
    have g0 := hf 0 _ rfl
    have g1 := hf 1 _ rfl
    simp [Tryz.cells9, Tryz.cells27] at g0 g1
    obtain ⟨s0, e0, k0, f0⟩ := DataW.trod_string Tryz.underlying9 g0
    simp at e0
    subst e0 hx
    have hd : s0.size + 1 + Rows.uptoBulk y1.1 + 1 ≤ 1048576 ∧ s0.size + 1 + Rows.uptoBulk y1.1 + 1 ≤ Rows.uptoBulk (DataW.agg (List.map (·.1) [y0, y1])) := by
      have e : s0.data.toList.length = s0.size := rfl
      simp only [List.map_cons, List.map_nil, Rows.uptoBulk, Rows.uptoBulkAll, k0] at hz ⊢
      omega
    obtain ⟨p, a, c, l, e1, h3, h4⟩ := term_open n _ _ g1 (.inr (by omega))
    simp at e1
    obtain ⟨rfl, rfl, rfl⟩ := e1
    exact ⟨s0, p, a, c, l, rfl, h3, (show nodesF l + 2 ≤ Rows.uptoBulk (DataW.agg (List.map (·.1) [y0, y1])) by omega), by omega⟩
/-- How much there is of binds. -/
def totB : List Bn → Nat
  | [] => 0
  | x :: r => nodesF x.2.2 + 2 + totB r
theorem totB_len : ∀ l : List Bn, 2 * l.length ≤ totB l
  | [] => Nat.le_refl _
  | x :: r => by have := totB_len r; simp only [totB, List.length_cons]; omega
theorem totB_mem : ∀ {l : List Bn} {b : Bn}, b ∈ l → nodesF b.2.2 + 2 ≤ totB l
  | x :: r, b, h => by
    simp only [totB]
    rcases List.mem_cons.1 h with rfl | h
    · omega
    · have := totB_mem h; omega
theorem binds_of {H : Type} {W : World} {b : Nat} : ∀ (ds : List (DataW H × List MemPlace)) (o : Nat),
    (∀ (i : Nat) (h : i < ds.length), ∃ (x : Bn) (a : Option Addr) (c : Nat), BdAt W b (o + i * 4) x a c ∧ nodesF x.2.2 + 2 ≤ Rows.uptoBulk ds[i].1 ∧ x.1.size ≤ 1048576) →
    ∃ bl : List Bn, bl.length = ds.length ∧ (∀ i (h : i < bl.length), ∃ a c, BdAt W b (o + i * 4) bl[i] a c) ∧ totB bl ≤ Rows.uptoBulkAll (ds.map (·.1)) ∧ ∀ x ∈ bl, x.1.size ≤ 1048576
  | [], o, _ => ⟨[], rfl, fun i h => absurd h (by simp), Nat.zero_le _, fun x hx => by cases hx⟩
  | d :: r, o, h => by
    obtain ⟨bl, hl, hk, hn, hs⟩ := binds_of r (o + 4) (fun i hi => by
      obtain ⟨x, a, c, h1, h2⟩ := h (i + 1) (by simpa using hi)
      rw [show o + (i + 1) * 4 = o + 4 + i * 4 by omega] at h1
      exact ⟨x, a, c, h1, h2⟩)
    obtain ⟨x, a, c, h1, h2, h3⟩ := h 0 (by simp)
    simp only [Nat.zero_mul, Nat.add_zero, List.getElem_cons_zero] at h1 h2
    refine ⟨x :: bl, by simp [hl], fun i hi => ?_, ?_, fun y hy => ?_⟩
    · cases i with
      | zero => exact ⟨a, c, by simpa using h1⟩
      | succ i =>
        obtain ⟨a', c', h4⟩ := hk i (by simpa using hi)
        refine ⟨a', c', ?_⟩
        rw [show o + (i + 1) * 4 = o + 4 + i * 4 by omega]
        simpa using h4
    · simp only [totB, List.map_cons, Rows.uptoBulkAll]
      omega
    · rcases List.mem_cons.1 hy with rfl | hy
      · exact h3
      · exact hs y hy
set_option maxRecDepth 100000 in
/-- Binds that came in. -/
theorem binds_open {H : Type} {enc : TypeId × Value → H} {W : World} {fuel : Nat} {v : Value} {y : DataW H × List MemPlace} (hf : DataW.trod enc Tryz.prog W 0 (fun _ => true) true fuel 24 [v] = some y) (hz : Rows.uptoBulk y.1 ≤ 1048576) :
    ∃ P pc bl, v = .slice P bl.length pc ∧ BindsAt W P bl.length bl ∧ totB bl + 1 ≤ Rows.uptoBulk y.1 := by
  rcases DataW.trod_slice Tryz.underlying24 hf with ⟨hcs, h2⟩ | ⟨ad, len, c, elems, rest, n', hn', hcs, h2, _, hlc, hcm, hlen2, hel, _, _⟩
  · simp at hcs
    subst hcs
    exact ⟨none, 0, [], rfl, ⟨rfl, by simp, fun i h => absurd h (by simp), fun x hx => by cases hx⟩, bulk_pos _⟩
  · simp at hcs
    subst hcs
    rw [Tryz.cells43] at hel
    have hb2 : Rows.uptoBulkAll (elems.map (·.1)) + 1 ≤ Rows.uptoBulk y.1 := by
      simp only [h2, Rows.uptoBulk]; omega
    by_cases hz0 : len = 0
    · subst hz0
      exact ⟨some ad, c, [], rfl, ⟨rfl, by simp, fun i h => absurd h (by simp), fun x hx => by cases hx⟩, bulk_pos _⟩
    · have each : ∀ i (hi : i < elems.length), ∃ (v : ByteArray) (p : ByteArray × Int) (a : Option Addr) (c : Nat) (l : Fo), W.cells? 0 (ad.add (i * 4)) 4 = some [.string v, .string p.1, .int .i64 p.2, .slice a (lenF l) c] ∧ TmAt W p a c l ∧ nodesF l + 2 ≤ Rows.uptoBulk elems[i].1 ∧ v.size ≤ 1048576 := by
        intro i hi
        have h1 := hel i (by omega)
        rw [List.getElem?_eq_getElem hi] at h1
        cases hc : W.cells? 0 (ad.add (i * 4)) 4 with
        | none => rw [hc] at h1; cases h1
        | some cs' =>
          rw [hc] at h1
          have := bulk_all (List.mem_map_of_mem (f := (·.1)) (List.getElem_mem hi))
          obtain ⟨v, p, a, c, l, rfl, h3⟩ := bind_open h1 (by omega)
          exact ⟨v, p, a, c, l, rfl, h3⟩
      obtain ⟨b, off, spot⟩ := ad
      have hspot : spot = none := by
        obtain ⟨v, p, a, c, l, h3, _⟩ := each 0 (by omega)
        obtain ⟨_, _, h30⟩ := World.cells?_some h3
        have := h30 0 (by omega)
        simpa [Addr.add] using World.cell?_spot this
      subst hspot
      obtain ⟨bl, h3, h4, h5, h6⟩ := binds_of (W := W) (b := b) elems off (fun i hi => by
        obtain ⟨v, p, a, c, l, h3, h4, h5, h6⟩ := each i hi
        rw [addr_add] at h3
        obtain ⟨_, _, h30⟩ := World.cells?_some h3
        have q0 := h30 0 (by omega)
        have q1 := h30 1 (by omega)
        have q2 := h30 2 (by omega)
        have q3 := h30 3 (by omega)
        rw [addr_add] at q0 q1 q2 q3
        exact ⟨(v, p, l), a, c, ⟨q0, q1, q2, q3, h4⟩, h5, h6⟩)
      have hbl : bl.length = len := by omega
      subst hbl
      refine ⟨some ⟨b, off, none⟩, c, bl, rfl, ⟨rfl, by omega, fun i hi => ?_, fun x hx => ?_⟩, by omega⟩
      · obtain ⟨a', c', h8⟩ := h4 i hi
        exact ⟨b, off, a', c', rfl, h8⟩
      · have := h6 x hx
        have e : maxLen = 9223372036854775807 := rfl
        omega

/-- The slice with this address and length holds these texts. -/
structure StrsAt (w : World) (a : Option Addr) (n : Nat) (ss : List ByteArray) : Prop where
  len : n = ss.length
  small : n ≤ maxLen
  cells : ∀ i (h : i < ss.length), ∃ b off, a = some ⟨b, off, none⟩ ∧ w.cell? ⟨b, off + i, none⟩ = some (.string ss[i])
  fits : ∀ s ∈ ss, s.size ≤ maxLen
theorem StrsAt.below {w w' : World} {a : Option Addr} {n : Nat} {l : List ByteArray} (h : StrsAt w a n l) (hb : Below w.heap.size w w') : StrsAt w' a n l :=
  ⟨h.len, h.small, fun i hi => let ⟨b, off, h1, h2⟩ := h.cells i hi; ⟨b, off, h1, bd_cell hb _ _ h2⟩, h.fits⟩
set_option maxRecDepth 100000 in
theorem strs_open {H : Type} {enc : TypeId × Value → H} {W : World} {fuel : Nat} {v : Value} {y : DataW H × List MemPlace}
    (hf : DataW.trod enc Tryz.prog W 0 (fun _ => true) true fuel 28 [v] = some y) : ∃ a cap ss, v = .slice a ss.length cap ∧ StrsAt W a ss.length ss ∧ ss.length ≤ Rows.uptoBulk y.1 := by
  rcases DataW.trod_slice Tryz.underlying28 hf with ⟨hcs, _⟩ | ⟨x, len, cap, elems, rest, n, _, hcs, hx, hb, hl, hm, hlen, hel, _, _⟩
  · simp at hcs
    subst hcs
    exact ⟨none, 0, [], rfl, ⟨rfl, by simp, fun i hi => absurd hi (by simp), fun s hs => absurd hs (by simp)⟩, Nat.zero_le _⟩
  · simp at hcs
    subst hcs
    rw [Tryz.cells9] at hel
    have hb2 : len ≤ Rows.uptoBulk y.1 := by
      have := bulk_len (elems.map (·.1))
      rw [List.length_map] at this
      simp only [hx, Rows.uptoBulk]
      omega
    have each : ∀ i, i < len → ∃ s : ByteArray, W.cells? 0 (x.add (i * 1)) 1 = some [.string s] ∧ s.size ≤ maxLen := by
      intro i hi
      have h1 := hel i hi
      rw [List.getElem?_eq_getElem (by omega)] at h1
      cases hc : W.cells? 0 (x.add (i * 1)) 1 with
      | none => rw [hc] at h1; cases h1
      | some cs =>
        rw [hc] at h1
        obtain ⟨s, hy, _, hyf⟩ := DataW.trod_string Tryz.underlying9 h1
        subst hy
        exact ⟨s, rfl, hyf⟩
    obtain ⟨ll, hll, hp⟩ := list_of_each len each
    subst hll
    refine ⟨some x, cap, ll, rfl, ⟨rfl, by omega, fun i hi => ?_, fun y hy => ?_⟩, hb2⟩
    · obtain ⟨h1, _⟩ := hp i hi
      obtain ⟨b, off, spot⟩ := x
      have hspot : spot = none := by
        obtain ⟨h10, _⟩ := hp 0 (by omega)
        obtain ⟨_, _, h30⟩ := World.cells?_some h10
        have := h30 0 (by omega)
        simpa [Addr.add] using World.cell?_spot this
      subst hspot
      refine ⟨b, off, rfl, ?_⟩
      rw [addr_add] at h1
      obtain ⟨_, _, h3⟩ := World.cells?_some h1
      have k0 := h3 0 (by omega)
      rw [addr_add] at k0
      simpa using k0
    · obtain ⟨i, hi, rfl⟩ := List.getElem_of_mem hy
      exact (hp i hi).2

/-- What a statement is asked about. -/
structure Sm where
  S : Option Addr
  n : Nat
  cap : Nat
  sg : List Sym
  pa : Option Addr
  ca : Nat
  ls : List Bn
  pb : Option Addr
  cb : Nat
  bs : List Bn
  t : Tn
  a : Option Addr
  c : Nat
  pn : Option Addr
  cn : Nat
  ns : List ByteArray
  f : Int
/-- Its cells. -/
def Sm.cells (q : Sm) : Array Value := #[.slice q.S q.n q.cap, .slice q.pa q.ls.length q.ca, .slice q.pb q.bs.length q.cb, .string q.t.1.1, .int .i64 q.t.1.2, .slice q.a (lenF q.t.2) q.c, .slice q.pn q.ns.length q.cn, .int .i64 q.f]
structure SmAt (w : World) (q : Sm) : Prop where
  sig : SigAt w q.S q.n q.sg
  ls : BindsAt w q.pa q.ls.length q.ls
  bs : BindsAt w q.pb q.bs.length q.bs
  tm : TmAt w q.t.1 q.a q.c q.t.2
  ns : StrsAt w q.pn q.ns.length q.ns
theorem SmAt.below {w w' : World} {q : Sm} (h : SmAt w q) (hb : Below w.heap.size w w') : SmAt w' q := ⟨h.sig.below hb, h.ls.below hb, h.bs.below hb, h.tm.below hb, h.ns.below hb⟩
structure SmSz (q : Sm) : Prop where
  all : totB q.ls + totB q.bs + nodesF q.t.2 + q.ns.length + 4 ≤ 1048576
set_option maxRecDepth 100000 in
theorem some_open {H : Type} {enc : TypeId × Value → H} {W : World} {r : Reach} {b0 : Nat} {v : Value} {dd : DataW H} {ps : List MemPlace} (hv : Value.okWide Tryz.prog W r b0 30 v)
    (h : DataW.Trod enc Tryz.prog W 0 (fun _ => true) true 30 v dd ps) (hz : Rows.uptoBulk dd ≤ 1048576) : ∃ q : Sm, v = .agg q.cells ∧ SmAt W q ∧ SmSz q := by
  obtain ⟨cs, rfl, hsz⟩ := okWide_struct Tryz.underlying30 hv
  obtain ⟨fuel, hf⟩ := h
  obtain ⟨xs, n, hfuel, hx, hl, hlen, hff⟩ := DataW.trod_struct Tryz.underlying30 hf
  rw [Tryz.cells30] at hsz
  simp only [Value.cells] at hff hl
  obtain ⟨cl⟩ := cs
  match xs, hlen, cl, hsz with
  | [y0, y1, y2, y3, y4, y5], _, [v0, v1, v2, v3, v4, v5, v6, v7], _ =>
    have g0 := hff 0 _ rfl
    have g1 := hff 1 _ rfl
    have g2 := hff 2 _ rfl
    have g3 := hff 3 _ rfl
    have g4 := hff 4 _ rfl
    have g5 := hff 5 _ rfl
    simp [Tryz.cells23, Tryz.cells24, Tryz.cells27, Tryz.cells28, Tryz.cells3] at g0 g1 g2 g3 g4 g5
    have hd : Rows.uptoBulk y0.1 + Rows.uptoBulk y1.1 + Rows.uptoBulk y2.1 + Rows.uptoBulk y3.1 + Rows.uptoBulk y4.1 + Rows.uptoBulk y5.1 + 1 ≤ 1048576 := by
      have := congrArg Prod.fst hx
      simp only at this
      rw [this] at hz
      simp only [List.map_cons, List.map_nil, Rows.uptoBulk, Rows.uptoBulkAll] at hz
      omega
    obtain ⟨S, len, cap, l, rfl, hS⟩ := sig_open g0
    obtain ⟨pa, ca, as', rfl, hA, nA⟩ := binds_open g1 (by omega)
    obtain ⟨pb, cb, bs, rfl, hB, nB⟩ := binds_open g2 (by omega)
    obtain ⟨pt, a, c, la, ea, hT, nT⟩ := term_open n _ _ g3 (.inr (by omega))
    obtain ⟨pn, cn, ns, rfl, hN, nN⟩ := strs_open g4
    obtain ⟨f, e5, _, _⟩ := DataW.trod_int Tryz.underlying3 g5
    simp at ea e5
    obtain ⟨rfl, rfl, rfl⟩ := ea
    subst e5
    have := bulk_pos y0.1
    have := bulk_pos y5.1
    refine ⟨⟨S, len, cap, l, pa, ca, as', pb, cb, bs, (pt, la), a, c, pn, cn, ns, f⟩, rfl, ⟨hS, hA, hB, hT, hN⟩, ⟨?_⟩⟩
    show totB as' + totB bs + nodesF la + ns.length + 4 ≤ _
    omega
end Go.Proofs.YtgidgmgpgfonnaaGreat
/- What Clone of package terms makes: the term in new memory. -/
namespace Go.Proofs.YtgidgmgpgfonnaaGreat
open Go.RowKit Go.Deep

def CloneOk (k : Nat) : Prop := ∀ (x : ByteArray × Int) (l : Fo) (a : Option Addr) (c : Nat) (w : World), nodesF l ≤ k → TmAt w x a c l →
  Calls Tryz.prog 53 #[.agg #[.string x.1, .int .i64 x.2, .slice a (lenF l) c]] w fun e w' => ∃ a' c', e = .returned (.agg #[.string x.1, .int .i64 x.2, .slice a' (lenF l) c']) ∧ SepTm w' (fun k => w.heap.size ≤ k) x a' c' l ∧ Below w.heap.size w w' ∧ (lenF l = 0 → a' = none ∧ c' = 0)

/-- A fresh row, some of whose places are filled. -/
structure Fill (w : World) (n : Nat) (W : World) (ks : List Kv) : Prop where
  low : Below w.heap.size w W
  row : ∃ cur, W.heap[w.heap.size]? = some (Obj.cells cur 27 (0, 0)) ∧ cur.size = n * 3 ∧ ∀ (i : Nat) (u : Value), (kvCells ks)[i]? = some u → cur[i]? = some u
  own : SepL W ks (fun q => w.heap.size < q ∧ q < W.heap.size)
theorem Fill.cell {w : World} {n : Nat} {W : World} {ks : List Kv} (h : Fill w n W ks) {i : Nat} (hi : i < n * 3) : ∃ v, W.cell? ⟨w.heap.size, i, none⟩ = some v := by
  obtain ⟨cur, h1, h2, _⟩ := h.row
  exact ⟨cur[i]'(by omega), by rw [cell_of_row W w.heap.size i cur 27 (0, 0) h1]; simp [show i < cur.size by omega]⟩
theorem Fill.frozen {w : World} {n : Nat} {W : World} {ks : List Kv} (h : Fill w n W ks) (i : Nat) : W.frozen? ⟨w.heap.size, i, none⟩ = false := by
  obtain ⟨cur, h1, _⟩ := h.row
  simp [World.frozen?, h1]
/-- What the callee has made is stored at its place. -/
theorem Fill.step {w wr w1 : World} {n : Nat} {ks : List Kv} {kv : Kv} (h : Fill w n wr ks) (hb : Below wr.heap.size wr w1) (hk : SepTm w1 (fun q => wr.heap.size ≤ q) kv.x kv.a kv.c kv.l) (hlt : ks.length < n) :
    Fill w n (((w1.setCell ⟨w.heap.size, ks.length * 3, none⟩ (.string kv.x.1)).setCell ⟨w.heap.size, ks.length * 3 + 1, none⟩ (.int .i64 kv.x.2)).setCell ⟨w.heap.size, ks.length * 3 + 2, none⟩ (.slice kv.a (lenF kv.l) kv.c)) (ks ++ [kv]) := by
  obtain ⟨cur, h1, h2, h3⟩ := h.row
  have hglt : w.heap.size < wr.heap.size := (Array.getElem?_eq_some_iff.1 h1).1
  have h1' : w1.heap[w.heap.size]? = some (Obj.cells cur 27 (0, 0)) := (hb.block _ hglt).trans h1
  have far : ∀ q, w.heap.size < q → (((w1.setCell ⟨w.heap.size, ks.length * 3, none⟩ (.string kv.x.1)).setCell ⟨w.heap.size, ks.length * 3 + 1, none⟩ (.int .i64 kv.x.2)).setCell ⟨w.heap.size, ks.length * 3 + 2, none⟩ (.slice kv.a (lenF kv.l) kv.c)).heap[q]? = w1.heap[q]? := fun q hq => by
    rw [Below.heap_setCell _ _ _ q (by show q ≠ w.heap.size; omega), Below.heap_setCell _ _ _ q (by show q ≠ w.heap.size; omega), Below.heap_setCell _ _ _ q (by show q ≠ w.heap.size; omega)]
  refine ⟨?_, ⟨_, block_set (block_set (block_set h1' _) _) _, by simp [h2], ?_⟩, ?_⟩
  · exact (((h.low.trans (hb.mono h.low.size)).setCell (p := ⟨w.heap.size, ks.length * 3, none⟩) (Nat.le_refl _) _).setCell (p := ⟨w.heap.size, ks.length * 3 + 1, none⟩) (Nat.le_refl _) _).setCell (p := ⟨w.heap.size, ks.length * 3 + 2, none⟩) (Nat.le_refl _) _
  · intro i u hu
    rw [kvCells_snoc] at hu
    have hl := kvCells_len ks
    have hkl : kv.cells.length = 3 := rfl
    have hi : i < ks.length * 3 + 3 := by
      rcases Nat.lt_or_ge i (ks.length * 3 + 3) with h' | h'
      · exact h'
      · rw [List.getElem?_eq_none (by rw [List.length_append]; omega)] at hu; cases hu
    simp only [Array.getElem?_setIfInBounds, Array.size_setIfInBounds]
    by_cases hc : i < ks.length * 3
    · rw [List.getElem?_append_left (by omega)] at hu
      rw [if_neg (by omega), if_neg (by omega), if_neg (by omega)]
      exact h3 i u hu
    · rw [List.getElem?_append_right (by omega), hl] at hu
      have hcase : i = ks.length * 3 ∨ i = ks.length * 3 + 1 ∨ i = ks.length * 3 + 2 := by omega
      rcases hcase with e | e | e
      · subst e
        rw [if_neg (by omega), if_neg (by omega), if_pos rfl, if_pos (by omega)]
        simpa [Kv.cells] using hu
      · subst e
        rw [if_neg (by omega), if_pos rfl, if_pos (by omega)]
        rw [show ks.length * 3 + 1 - ks.length * 3 = 1 by omega] at hu
        simpa [Kv.cells] using hu
      · subst e
        rw [if_pos rfl, if_pos (by omega)]
        rw [show ks.length * 3 + 2 - ks.length * 3 = 2 by omega] at hu
        simpa [Kv.cells] using hu
  · have h5 : SepL w1 ks (fun q => w.heap.size < q ∧ q < wr.heap.size) := h.own.keep (fun q hq hlt => hb.block q hlt)
    have h6 := SepL.snoc hk.within (fun q hq => by intro h'; have := hq.2; have := h'.1; omega) h5
    have hsz : (((w1.setCell ⟨w.heap.size, ks.length * 3, none⟩ (.string kv.x.1)).setCell ⟨w.heap.size, ks.length * 3 + 1, none⟩ (.int .i64 kv.x.2)).setCell ⟨w.heap.size, ks.length * 3 + 2, none⟩ (.slice kv.a (lenF kv.l) kv.c)).heap.size = w1.heap.size := by simp
    rw [hsz]
    have hbs := hb.size
    refine (h6.keep (fun q hq _ => far q ?_)).mono (fun q hq => ?_)
    · rcases hq with hq | hq
      · exact hq.1
      · have := hq.1; omega
    · rcases hq with hq | hq
      · exact ⟨hq.1, by omega⟩
      · exact ⟨by have := hq.1; omega, hq.2⟩
theorem Fill.done {w W : World} {x : ByteArray × Int} {l : Fo} {ks : List Kv} (h : Fill w (lenF l) W ks) (hks : ks.map (fun k => (k.x, k.l)) = kidsL l) (hx : x.1.size ≤ maxLen) (hn : lenF l ≤ maxLen) (hf : lenF l * 48 ≤ 140737488351232) :
    SepTm W (fun q => w.heap.size ≤ q) x (some ⟨w.heap.size, 0, none⟩) (lenF l) l := by
  obtain ⟨cur, h1, h2, h3⟩ := h.row
  refine ⟨⟨hx, Nat.le_refl _, hn, hf⟩, .inr ⟨w.heap.size, cur, rfl, Nat.le_refl _, h1, ?_⟩⟩
  refine sepKids_of l ks _ 0 hks (fun j u hu => ?_) (h.own.mono (fun q hq => ⟨by have := hq.1; omega, by have := hq.1; omega⟩))
  rw [Nat.zero_add, cell_of_row W w.heap.size j cur 27 (0, 0) h1]
  exact h3 j u hu

set_option maxRecDepth 100000 in
set_option maxHeartbeats 2000000 in
theorem cloneList_any (k : Nat) (ih : ∀ j, j < k → CloneOk j) (x : ByteArray × Int) (l : Fo) (a : Option Addr) (c : Nat) (w : World) (hk : nodesF l ≤ k) (hT : TmAt w x a c l) :
    Calls Tryz.prog 75 #[.slice a (lenF l) c] w fun e w' => ∃ a' c', e = .returned (.slice a' (lenF l) c') ∧ SepTm w' (fun k => w.heap.size ≤ k) x a' c' l ∧ Below w.heap.size w w' ∧ (lenF l = 0 → a' = none ∧ c' = 0) := by
  obtain ⟨i0, hi, hz0, hz1, hz2⟩ := info_parts Tryz.info27
  have HT : Hid (TmAt w x a c l) := hT
  have IH : Hid (∀ j, j < k → CloneOk j) := ih
  have hmax : maxLen = 9223372036854775807 := rfl
  have hn1 := hT.sizes.len
  have hn2 := hT.sizes.cap
  have hfew := hT.sizes.few
  clear hT ih
  by_cases h0 : lenF l = 0
  · have hl := len_nil h0
    subst hl
    go_enter Tryz.func75, Tryz.ntmps75
    go_wp2
    go_ret
    exact ⟨none, 0, rfl, ⟨⟨HT.out.sizes.name, by simp [lenF], by simp, by simp [lenF]⟩, .inl rfl⟩, Below.refl _ _, fun _ => ⟨rfl, rfl⟩⟩
  · obtain ⟨bb, oo, rfl, hkk⟩ := HT.out.args.get (by omega)
    have HKK : Hid (KidsAt w l bb oo) := hkk
    clear hkk
    have hne : ((lenF l : Int) == 0) = false := by simp; omega
    go_enter Tryz.func75, Tryz.ntmps75
    go_wp2_with (at_make; refine wpList_make_full _ rfl _ _ 25 rfl w.heap.size 27 i0 (.agg #[.string ⟨#[]⟩, .int .i64 0, .slice none 0 0]) 3 Tryz.underlying25 hi hz0 hz1 .i64 .i64 _ _ (lenF l) rfl rfl rfl rfl (by rw [hz2]; omega) (by omega) (Nat.le_refl _) ?_; intro w0 hown0 hgrow0)
    have F0 : Fill w (lenF l) w0 [] := by
      refine ⟨(Below.refl _ _).grown hgrow0 (Nat.le_refl _) (fun k e => by cases e), ?_, trivial⟩
      rcases hown0.2 with ⟨hv, _⟩ | ⟨g', cap', cur, hv, _, hh, _, _, hcs, _⟩
      · cases hv
      · cases hv
        exact ⟨cur, hh, hcs, fun i u hu => by simp [kvCells] at hu⟩
    clear hown0 hgrow0
    go_loopw [4, 5, 14] (fun _ _ i wr => ∃ (j : Nat) (ks : List Kv), j ≤ lenF l ∧ i = .int .i64 j ∧ ks.length = j ∧ Fill w (lenF l) wr ks ∧ ks.map (fun k => (k.x, k.l)) = (kidsL l).take j) (fun _ _ i _ => lenF l - (intOf i).toNat)
    case atStart => exact ⟨0, [], Nat.zero_le _, rfl, rfl, F0, by simp⟩
    case round =>
      obtain ⟨j, ks, hj, rfl, hkl, hF, hks⟩ := hrel
      have FR : Hid (Fill w (lenF l) wr ks) := hF
      have HKS : Hid (ks.map (fun k => (k.x, k.l)) = (kidsL l).take j) := hks
      clear hks F0
      by_cases hlt : j < lenF l
      · obtain ⟨y, a1, c1, l1, kd⟩ := HKK.out.kid (k := j) hlt
        have kd' := kd.below hF.low
        have p0 := kd'.name; have p1 := kd'.sym; have p2 := kd'.list
        have hb1 : Below wr.heap.size wr (wr.alloc (.cells #[.string y.1, .int .i64 y.2, .slice a1 (lenF l1) c1] 27)) := (Below.refl _ _).alloc (Nat.le_refl _) _
        have hC := IH.out (nodesF l1) (by have := kd.less; omega) y l1 a1 c1 _ (Nat.le_refl _) (kd'.at_.below hb1)
        have KD : Hid (Kid w l bb oo j y a1 c1 l1) := kd
        have HB1 : Hid (Below wr.heap.size wr (wr.alloc (.cells #[.string y.1, .int .i64 y.2, .slice a1 (lenF l1) c1] 27))) := hb1
        have hgl : w.heap.size < wr.heap.size := by obtain ⟨cur, h1, _⟩ := hF.row; exact (Array.getElem?_eq_some_iff.1 h1).1
        clear kd kd' hb1 hF
        go_wp2_with fail
        refine hC.mono ?_
        rintro e w2 ⟨a', c', rfl, ho2, hb2, hz2⟩
        clear hz2
        have HW2 : Hid (Below wr.heap.size wr w2) := HB1.out.trans (hb2.mono HB1.out.size)
        have HO2 : Hid (SepTm w2 (fun q => wr.heap.size ≤ q) y a' c' l1) := ho2.mono (fun q hq => by have := HB1.out.size; simp at hq; omega)
        have F2 : Fill w (lenF l) w2 ks := by
          obtain ⟨cur, h1, h2, h3⟩ := FR.out.row
          exact ⟨FR.out.low.trans (HW2.out.mono FR.out.low.size), ⟨cur, (HW2.out.block _ hgl).trans h1, h2, h3⟩, (FR.out.own.keep (fun q hq hlt => HW2.out.block q hlt)).mono (fun q hq => ⟨hq.1, Nat.lt_of_lt_of_le hq.2 HW2.out.size⟩)⟩
        obtain ⟨u0, v0⟩ := F2.cell (i := j * 3) (by omega)
        obtain ⟨u1, v1⟩ := F2.cell (i := j * 3 + 1) (by omega)
        obtain ⟨u2, v2⟩ := F2.cell (i := j * 3 + 2) (by omega)
        have f0 := F2.frozen (j * 3)
        have f1 := F2.frozen (j * 3 + 1)
        have f2 := F2.frozen (j * 3 + 2)
        clear hC ho2 hb2 F2 p0 p1 p2
        go_wp2
        go_roundw
        case rel =>
          obtain ⟨B1, O1, sp⟩ := KD.out.split
          have hst := FR.out.step (kv := ⟨y, l1, a', c'⟩) HW2.out HO2.out (by omega)
          rw [hkl] at hst
          exact ⟨j + 1, ks ++ [⟨y, l1, a', c'⟩], by omega, by go_num, by simp [hkl], hst, by rw [kids_take sp, ← HKS.out]; simp⟩
        case measure => simp [intOf]; omega
      · have e1 : j = lenF l := by omega
        go_wp2
        go_ret
        refine ⟨_, lenF l, rfl, FR.out.done (by rw [HKS.out, e1, ← kids_len, List.take_length]) HT.out.sizes.name (by omega) hfew, FR.out.low, fun e => absurd e h0⟩

set_option maxRecDepth 100000 in
set_option maxHeartbeats 2000000 in
theorem clone_all : ∀ k, CloneOk k := by
  intro k
  induction k using Nat.strongRecOn with
  | _ k ih =>
    intro x l a c w hk hT
    have HT : Hid (TmAt w x a c l) := hT
    obtain ⟨W0, hW0⟩ : ∃ W0, (w.alloc (.cells #[.string x.1, .int .i64 x.2, .slice a (lenF l) c] 27)).alloc (.cells #[.string ⟨#[]⟩, .int .i64 0, .slice none 0 0] 27) = W0 := ⟨_, rfl⟩
    have hb0 : Below w.heap.size w W0 := by rw [← hW0]; exact ((Below.refl _ w).alloc (Nat.le_refl _) _).alloc (by simp) _
    have b1 : XBox W0 w.heap.size x (.slice a (lenF l) c) := by rw [← hW0]; exact (Below.heap_alloc _ _ _ (by simp)).trans (World.alloc_heap_new w _)
    have b2 : XBox W0 (w.heap.size + 1) (⟨#[]⟩, 0) (.slice none 0 0) := by
      have := World.alloc_heap_new (w.alloc (.cells #[.string x.1, .int .i64 x.2, .slice a (lenF l) c] 27)) (.cells #[.string ⟨#[]⟩, .int .i64 0, .slice none 0 0] 27)
      rw [World.size_alloc] at this
      rw [← hW0]; exact this
    have hsz : W0.heap.size = w.heap.size + 2 := by rw [← hW0]; simp
    have hC := cloneList_any k ih x l a c W0 hk (hT.below hb0)
    clear hT ih
    have z2 := b1.c2
    go_enter Tryz.func53, Tryz.ntmps53
    go_wp2_with fail
    clear hW0 z2
    refine hC.mono ?_
    rintro e w2 ⟨a', c', rfl, ho2, hb2, hzz⟩
    have HZ : Hid (lenF l = 0 → a' = none ∧ c' = 0) := hzz
    clear hzz
    have B1 : XBox w2 w.heap.size x (.slice a (lenF l) c) := b1.below hb2
    have B2 : XBox w2 (w.heap.size + 1) (⟨#[]⟩, 0) (.slice none 0 0) := b2.below hb2
    have c2 := B1.c2
    have f2 := B1.f (k := 2)
    have X1 := B1.set (.slice a' (lenF l) c')
    have x0 := X1.c0; have x1 := X1.c1; have x2 := X1.c2
    have R1 := B2.other (p := ⟨w.heap.size, 2, none⟩) (by show w.heap.size + 1 ≠ w.heap.size; omega) (.slice a' (lenF l) c')
    have r0 := R1.c0; have r1 := R1.c1; have r2 := R1.c2
    have g0 := R1.f (k := 0); have g1 := R1.f (k := 1); have g2 := R1.f (k := 2)
    have HR1 : Hid (XBox (w2.setCell ⟨w.heap.size, 2, none⟩ (.slice a' (lenF l) c')) (w.heap.size + 1) (⟨#[]⟩, 0) (.slice none 0 0)) := R1
    have HO2 : Hid (SepTm w2 (fun k => W0.heap.size ≤ k) x a' c' l) := ho2
    have HB2 : Hid (Below w.heap.size w w2) := hb0.trans (hb2.mono hb0.size)
    have HSZ : Hid (W0.heap.size = w.heap.size + 2) := hsz
    clear hC ho2 hb2 B1 B2 b1 b2 X1 R1 hb0 hsz
    go_wp2
    refine bodyPost_ret (results_cell_row rfl _ _ (w.heap.size + 1) 27 #[.string x.1, .int .i64 x.2, .slice a' (lenF l) c'] (0, 0) _ rfl (HR1.out.all (x := x) _) Tryz.underlying27 rfl Tryz.size27) rfl ?_
    refine ⟨a', c', rfl, ?_, ?_, HZ.out⟩
    · refine (HO2.out.keep (fun q hq _ => ?_)).mono (fun q hq => by have := HSZ.out; omega)
      have := HSZ.out
      exact (sets_far (by omega) _ _ _).trans (Below.heap_setCell w2 _ _ q (by show q ≠ w.heap.size; omega))
    · exact sets_below (HB2.out.setCell (p := ⟨w.heap.size, 2, none⟩) (Nat.le_refl _) _) (by omega) _ _ _

theorem clone_any (x : ByteArray × Int) (l : Fo) (a : Option Addr) (c : Nat) (w : World) (hT : TmAt w x a c l) :
    Calls Tryz.prog 53 #[.agg #[.string x.1, .int .i64 x.2, .slice a (lenF l) c]] w fun e w' => ∃ a' c', e = .returned (.agg #[.string x.1, .int .i64 x.2, .slice a' (lenF l) c']) ∧ SepTm w' (fun k => w.heap.size ≤ k) x a' c' l ∧ Below w.heap.size w w' ∧ (lenF l = 0 → a' = none ∧ c' = 0) :=
  clone_all _ x l a c w (Nat.le_refl _) hT
end Go.Proofs.YtgidgmgpgfonnaaGreat
/- A copy of terms into a fresh row. -/
namespace Go.Proofs.YtgidgmgpgfonnaaGreat
open Go.RowKit Go.Deep Go.Shelf

/-- The cells of terms that lie side by side. -/
theorem kids_cells {w : World} : ∀ {F : Fo} {b o : Nat}, KidsAt w F b o → ∃ cs : List Value, cs.length = lenF F * 3 ∧ (∀ j v, cs[j]? = some v → w.cell? ⟨b, o + j, none⟩ = some v) ∧ ∀ v ∈ cs, v.oneCell' = true
  | .nil, _, _, _ => ⟨[], rfl, fun _ _ h => by simp at h, fun _ h => by simp at h⟩
  | .node _ _ x l r, b, o, h => by
    obtain ⟨⟨a, c, h0, h1, h2, _⟩, hr⟩ := h
    obtain ⟨cs, hl, hc, ho⟩ := kids_cells hr
    refine ⟨.string x.1 :: .int .i64 x.2 :: .slice a (lenF l) c :: cs, by simp [lenF, hl]; omega, fun j v hj => ?_, fun v hv => ?_⟩
    · match j with
      | 0 => simp at hj; subst hj; exact h0
      | 1 => simp at hj; subst hj; exact h1
      | 2 => simp at hj; subst hj; exact h2
      | j + 3 =>
        simp at hj
        have := hc j v hj
        rw [show o + (j + 3) = o + 3 + j by omega]
        exact this
    · simp only [List.mem_cons] at hv
      rcases hv with rfl | rfl | rfl | hv
      · rfl
      · rfl
      · rfl
      · exact ho v hv
theorem run_copyT (w : World) (ty : TypeId) (b o dLen dCap : Nat) (a : Addr) (sLen sCap : Nat) (cs : List Value) (hn : cs.length = (Nat.min sLen dLen) * 3) (hsrc : ∀ j v, cs[j]? = some v → w.cell? (a.add j) = some v)
    (hc : ∀ j, j < cs.length → (w.cell? ⟨b, o + j, none⟩).isSome = true) (hf : ∀ j, j < cs.length → w.frozen? ⟨b, o + j, none⟩ = false) (h1 : ∀ v ∈ cs, v.oneCell' = true) :
    (Builtin.copy_ #[25, 25] ty #[.slice (some ⟨b, o, none⟩) dLen dCap, .slice (some a) sLen sCap]).run Tryz.prog w = .ok (goInt (Nat.min sLen dLen)) (w.setCells b o cs) := by
  obtain ⟨i0, hi0, hz0, hz1, hz2⟩ := info_parts Tryz.info27
  have hl := run_loadCells_list (P := Tryz.prog) w a cs hsrc
  have hst := run_storeCells_cells (P := Tryz.prog) b o cs 0 w hc hf h1
  simp only [Nat.add_zero] at hst
  simp [Builtin.copy_, run_underlying Tryz.underlying25, Builtin.lenOf, Builtin.firstCells, sizeOf, typeInfo, hi0, hz1, ← hn, hl, hst]
/-- Terms in which others stand for variables. -/
def putF (lk : ByteArray → Option Tn) : Fo → Fo
  | .nil => .nil
  | .node B O x l r => match lkN lk x.1 with
    | some t => .node B O t.1 t.2 (putF lk r)
    | none => .node B O x (putF lk l) (putF lk r)
def putN (lk : ByteArray → Option Tn) (x : ByteArray × Int) (l : Fo) : Tn := match lkN lk x.1 with | some t => t | none => (x, putF lk l)
theorem putF_len (lk : ByteArray → Option Tn) : ∀ F : Fo, lenF (putF lk F) = lenF F
  | .nil => rfl
  | .node _ _ x l r => by
    unfold putF
    cases lkN lk x.1 with
    | none => simp only [lenF]; rw [putF_len lk r]
    | some t => simp only [lenF]; rw [putF_len lk r]
theorem putF_kids (lk : ByteArray → Option Tn) : ∀ F : Fo, kidsL (putF lk F) = (kidsL F).map fun y => putN lk y.1 y.2
  | .nil => rfl
  | .node _ _ x l r => by
    unfold putF putN
    cases h : lkN lk x.1 with
    | none => simp only [kidsL, List.map_cons, h]; rw [putF_kids lk r]; rfl
    | some t => simp only [kidsL, List.map_cons, h]; rw [putF_kids lk r]; rfl
end Go.Proofs.YtgidgmgpgfonnaaGreat
/- Terms that are read in some blocks alone; put of a table. -/
namespace Go.Proofs.YtgidgmgpgfonnaaGreat
open Go.RowKit Go.Deep Go.Shelf

/-- The maps of a world lie in another one. -/
def MapsIn (u w : World) : Prop := ∀ (b : Nat) es cl, u.heap[b]? = some (Obj.map es cl) → w.heap[b]? = some (Obj.map es cl)
theorem MapsIn.refl (w : World) : MapsIn w w := fun _ _ _ h => h
theorem MapsIn.below {u w w' : World} (h : MapsIn u w) (hb : Below w.heap.size w w') : MapsIn u w' := fun b es cl hh => by
  have h1 := h b es cl hh
  exact (hb.block b (Array.getElem?_eq_some_iff.1 h1).1).trans h1
theorem MapAt.inn {u w : World} {b n : Nat} {D : DataW Value} (h : MapAt u b n D) (hu : MapsIn u w) : MapAt w b n D := by
  obtain ⟨es, cl, h1, h2, h3, h4⟩ := h
  exact ⟨es, cl, hu b es cl h1, h2, h3, h4⟩
theorem tab_gen {u : World} {mv : Value} {lk : ByteArray → Option Tn} (h : TabV u mv lk) (s : ByteArray) (hs : s.size ≤ maxLen) :
    (lk s = none ∧ ∀ W, MapsIn u W → (Instr.lookup 55 mv (.string s) true).run Tryz.prog W = .ok (.tuple #[.agg #[.string ⟨#[]⟩, .int .i64 0, .slice none 0 0], .bool false]) W) ∨
    ∃ t a c, lk s = some t ∧ TmAt u t.1 a c t.2 ∧ ∀ W, MapsIn u W → (Instr.lookup 55 mv (.string s) true).run Tryz.prog W = .ok (.tuple #[.agg #[.string t.1.1, .int .i64 t.1.2, .slice a (lenF t.2) c], .bool true]) W := by
  rcases h with ⟨rfl, hn⟩ | ⟨b, n, rfl, ⟨D, hD, hl⟩⟩
  · exact .inl ⟨hn s, fun W _ => nil_run W s hs⟩
  · have h1 := hl s
    cases hk : lk s with
    | none =>
      rw [hk] at h1
      refine .inl ⟨rfl, fun W hb => ?_⟩
      have := look_run (hD.inn hb) s hs
      rw [show lookD D s = Option.none from h1] at this
      exact this
    | some t =>
      rw [hk] at h1
      obtain ⟨a, c, h2, h3⟩ := h1
      refine .inr ⟨t, a, c, rfl, h3, fun W hb => ?_⟩
      have := look_run (hD.inn hb) s hs
      rw [h2] at this
      exact this
set_option maxRecDepth 100000 in
set_option maxHeartbeats 1000000 in
theorem look_gen (mv : Value) (lk : ByteArray → Option Tn) (x : ByteArray × Int) (a : Option Addr) (n c : Nat) (u w : World) (hT : TabV u mv lk) (hu : MapsIn u w) (hs : x.1.size ≤ maxLen) :
    Calls Tryz.prog 74 #[mv, .agg #[.string x.1, .int .i64 x.2, .slice a n c]] w fun e w' => Below w.heap.size w w' ∧
      ((lkN lk x.1 = none ∧ e = .returned (.tuple #[.agg #[.string ⟨#[]⟩, .int .i64 0, .slice none 0 0], .bool false])) ∨ ∃ t a' c', lkN lk x.1 = some t ∧ TmAt u t.1 a' c' t.2 ∧ e = .returned (.tuple #[.agg #[.string t.1.1, .int .i64 t.1.2, .slice a' (lenF t.2) c'], .bool true])) := by
  have b1 := alloc_below0 w (.cells #[.string x.1, .int .i64 x.2, .slice a n c] 27)
  have b2 := alloc_below0 (w.alloc (.cells #[.string x.1, .int .i64 x.2, .slice a n c] 27)) (.cells #[.string ⟨#[]⟩, .int .i64 0, .slice none 0 0] 27)
  have n2 := World.alloc_heap_new (w.alloc (.cells #[.string x.1, .int .i64 x.2, .slice a n c] 27)) (.cells #[.string ⟨#[]⟩, .int .i64 0, .slice none 0 0] 27)
  have hB := b1.trans (b2.mono b1.size)
  rw [World.size_alloc] at n2
  have HB := hid hB; have HN2 := hid n2
  unfold lkN
  cases hnm : noName x.1 with
  | true =>
    have hnm' : x.1.toList.isEmpty = true := hnm
    clear b1 b2 hB n2
    go_enter Tryz.func74, Tryz.ntmps74
    go_wp2_with fail
    exact bodyPost_ret (results_ct rfl rfl (load27 (x := (⟨#[]⟩, 0)) HN2.out)) rfl ⟨HB.out, rfl⟩
  | false =>
    have hnm' : x.1.toList.isEmpty = false := hnm
    rcases tab_gen hT x.1 hs with ⟨hk, hr⟩ | ⟨t, a', c', hk, ht, hr⟩
    · have hrun := hr _ (hu.below hB)
      clear b1 b2 hB n2 hr
      go_enter Tryz.func74, Tryz.ntmps74
      go_wp2_with fail
      exact bodyPost_ret (results_ct rfl rfl (load27 (box2 w _ _ (⟨#[]⟩, 0) none 0 0))) rfl ⟨below3 _ _ _ _, rfl⟩
    · have hrun := hr _ (hu.below hB)
      clear b1 b2 hB n2 hr
      go_enter Tryz.func74, Tryz.ntmps74
      go_wp2_with fail
      exact bodyPost_ret (results_ct rfl rfl (load27 (box2 w _ _ t.1 a' (lenF t.2) c'))) rfl ⟨below3 _ _ _ _, a', c', ht, rfl⟩
/-- A world of which only some blocks can be read. -/
def onlyW (P : Nat → Prop) [DecidablePred P] (w : World) : World := { w with heap := w.heap.mapIdx fun i o => if P i then o else .cells #[] 0 }
theorem only_in {P : Nat → Prop} [DecidablePred P] {w : World} {b : Nat} (h : P b) : (onlyW P w).heap[b]? = w.heap[b]? := by
  unfold onlyW
  simp only [Array.getElem?_mapIdx]
  cases w.heap[b]? with
  | none => rfl
  | some o => simp [h]
theorem only_cell {P : Nat → Prop} [DecidablePred P] {w : World} {p : Addr} {v : Value} (h : (onlyW P w).cell? p = some v) : P p.block ∧ w.cell? p = some v := by
  by_cases hp : P p.block
  · refine ⟨hp, ?_⟩
    have e := only_in (w := w) hp
    simp only [World.cell?, e] at h ⊢
    exact h
  · have e : (onlyW P w).heap[p.block]? = (w.heap[p.block]?).map fun _ => Obj.cells #[] 0 := by
      unfold onlyW
      simp only [Array.getElem?_mapIdx]
      cases w.heap[p.block]? with
      | none => rfl
      | some o => simp [hp]
    simp only [World.cell?, e] at h
    cases hb : w.heap[p.block]? with
    | none => rw [hb] at h; simp at h
    | some o => rw [hb] at h; simp at h
theorem cell_only {P : Nat → Prop} [DecidablePred P] {w : World} {p : Addr} {v : Value} (hp : P p.block) (h : w.cell? p = some v) : (onlyW P w).cell? p = some v := by
  have e := only_in (w := w) hp
  simp only [World.cell?, e] at h ⊢
  exact h
theorem tm_only {P Q : Nat → Prop} [DecidablePred P] [DecidablePred Q] {w w' : World} {x : ByteArray × Int} {a : Option Addr} {c : Nat} {l : Fo} (h : TmAt (onlyW P w) x a c l) (hq : ∀ b, b < w.heap.size → P b → Q b ∧ w'.heap[b]? = w.heap[b]?) : TmAt (onlyW Q w') x a c l :=
  h.kept fun p v hv => by
    obtain ⟨h1, h2⟩ := only_cell hv
    obtain ⟨h3, h4⟩ := hq p.block (World.block_lt_of_cell? w p h2) h1
    refine cell_only h3 ?_
    simp only [World.cell?, h4] at h2 ⊢
    exact h2
theorem tm_whole {P : Nat → Prop} [DecidablePred P] {w : World} {x : ByteArray × Int} {a : Option Addr} {c : Nat} {l : Fo} (h : TmAt (onlyW P w) x a c l) : TmAt w x a c l := h.kept fun _ _ hv => (only_cell hv).2
theorem tm_in {w : World} {x : ByteArray × Int} {a : Option Addr} {c : Nat} {l : Fo} (h : TmAt w x a c l) : TmAt (onlyW (fun b => b < w.heap.size) w) x a c l := h.kept fun p _ hv => cell_only (World.block_lt_of_cell? w p hv) hv
theorem maps_only (P : Nat → Prop) [DecidablePred P] (w : World) : MapsIn (onlyW P w) w := fun b es cl h => by
  by_cases hp : P b
  · rw [only_in hp] at h; exact h
  · have e : (onlyW P w).heap[b]? = (w.heap[b]?).map fun _ => Obj.cells #[] 0 := by
      unfold onlyW
      simp only [Array.getElem?_mapIdx]
      cases w.heap[b]? with
      | none => rfl
      | some o => simp [hp]
    rw [e] at h
    cases hb : w.heap[b]? with
    | none => rw [hb] at h; cases h
    | some o => rw [hb] at h; simp at h
end Go.Proofs.YtgidgmgpgfonnaaGreat
/- A row of terms, copied first, then filled one by one with others. -/
namespace Go.Proofs.YtgidgmgpgfonnaaGreat
open Go.RowKit Go.Deep Go.Shelf

/-- A row, written over from a place on. -/
def ovr (cur : List Value) (o : Nat) (vs : List Value) : List Value := cur.take o ++ vs ++ cur.drop (o + vs.length)
theorem setCells_row {g : Nat} {t : TypeId} {fr : Nat × Nat} : ∀ (vs : List Value) (o : Nat) (W : World) (cur : Array Value), W.heap[g]? = some (.cells cur t fr) → o + vs.length ≤ cur.size → (W.setCells g o vs).heap[g]? = some (.cells (ovr cur.toList o vs).toArray t fr)
  | [], o, W, cur, h, _ => by
    show W.heap[g]? = _
    rw [h]
    unfold ovr
    simp
  | v :: r, o, W, cur, h, hl => by
    have h1 := block_set (k := o) h v
    have h2 := setCells_row r (o + 1) (W.setCell ⟨g, o, none⟩ v) _ h1 (by simp at hl ⊢; omega)
    rw [World.setCells]
    rw [h2]
    congr 3
    have hl' : o < cur.toList.length := by simp at hl ⊢; omega
    unfold ovr
    rw [Array.toList_setIfInBounds]
    have e1 : (cur.toList.set o v).take (o + 1) = cur.toList.take o ++ [v] := by
      rw [List.take_add_one, List.getElem?_set_self hl', List.take_set_of_le (Nat.le_refl _)]
      rfl
    have e2 : (cur.toList.set o v).drop (o + 1 + r.length) = cur.toList.drop (o + (v :: r).length) := by
      rw [List.drop_set_of_lt (by omega)]
      congr 1
      simp only [List.length_cons]
      omega
    rw [e1, e2]
    simp
theorem setCells_far {g q : Nat} (hq : q ≠ g) : ∀ (vs : List Value) (o : Nat) (W : World), (W.setCells g o vs).heap[q]? = W.heap[q]?
  | [], _, _ => rfl
  | v :: r, o, W => by
    rw [World.setCells, setCells_far hq r]
    exact Below.heap_setCell W _ _ q hq
theorem setCells_low {n0 : Nat} {w : World} {g : Nat} (hg : n0 ≤ g) : ∀ (vs : List Value) (o : Nat) (W : World), Below n0 w W → Below n0 w (W.setCells g o vs)
  | [], _, _, h => h
  | v :: r, o, W, h => by
    rw [World.setCells]
    exact setCells_low hg r (o + 1) _ (h.setCell (p := ⟨g, o, none⟩) hg v)
structure PRow (u : World) (M g n bb oo : Nat) (ks : List Kv) (W : World) : Prop where
  row : ∃ cur, W.heap[g]? = some (Obj.cells cur 27 (0, 0)) ∧ cur.size = n * 3 ∧ (∀ (i : Nat) (v : Value), (kvCells ks)[i]? = some v → cur[i]? = some v) ∧ ∀ (i : Nat) (v : Value), ks.length * 3 ≤ i → i < n * 3 → u.cell? ⟨bb, oo + i, none⟩ = some v → cur[i]? = some v
  tms : ∀ q ∈ ks, TmAt (onlyW (fun b => b < M ∨ g < b) W) q.x q.a q.c q.l
theorem PRow.cell {u : World} {M g n bb oo : Nat} {ks : List Kv} {W : World} (h : PRow u M g n bb oo ks W) {i : Nat} (hi : i < n * 3) : ∃ v, W.cell? ⟨g, i, none⟩ = some v := by
  obtain ⟨cur, h1, h2, _⟩ := h.row
  exact ⟨cur[i]'(by omega), by rw [cell_of_row W g i cur 27 (0, 0) h1]; simp [show i < cur.size by omega]⟩
theorem PRow.frozen {u : World} {M g n bb oo : Nat} {ks : List Kv} {W : World} (h : PRow u M g n bb oo ks W) (i : Nat) : W.frozen? ⟨g, i, none⟩ = false := by
  obtain ⟨cur, h1, _⟩ := h.row
  simp [World.frozen?, h1]
theorem PRow.rest {u : World} {M g n bb oo : Nat} {ks : List Kv} {W : World} (h : PRow u M g n bb oo ks W) {i : Nat} {v : Value} (h1 : ks.length * 3 ≤ i) (h2 : i < n * 3) (hv : u.cell? ⟨bb, oo + i, none⟩ = some v) : W.cell? ⟨g, i, none⟩ = some v := by
  obtain ⟨cur, e1, _, _, e4⟩ := h.row
  rw [cell_of_row W g i cur 27 (0, 0) e1]
  exact e4 i v h1 h2 hv
theorem PRow.lt {u : World} {M g n bb oo : Nat} {ks : List Kv} {W : World} (h : PRow u M g n bb oo ks W) : g < W.heap.size := by
  obtain ⟨cur, h1, _⟩ := h.row
  exact (Array.getElem?_eq_some_iff.1 h1).1
theorem PRow.below {u : World} {M g n bb oo : Nat} {ks : List Kv} {W W' : World} (h : PRow u M g n bb oo ks W) (hb : Below W.heap.size W W') : PRow u M g n bb oo ks W' := by
  obtain ⟨cur, h1, h2⟩ := h.row
  exact ⟨⟨cur, (hb.block _ h.lt).trans h1, h2⟩, fun q hq => tm_only (h.tms q hq) fun b hb' hP => ⟨hP, hb.block b hb'⟩⟩
theorem PRow.store {u : World} {M g n bb oo : Nat} {ks : List Kv} {kv : Kv} {W : World} (h : PRow u M g n bb oo ks W) (hk : TmAt (onlyW (fun b => b < M ∨ g < b) W) kv.x kv.a kv.c kv.l) (hlt : ks.length < n) (hM : M ≤ g) :
    PRow u M g n bb oo (ks ++ [kv]) (((W.setCell ⟨g, ks.length * 3, none⟩ (.string kv.x.1)).setCell ⟨g, ks.length * 3 + 1, none⟩ (.int .i64 kv.x.2)).setCell ⟨g, ks.length * 3 + 2, none⟩ (.slice kv.a (lenF kv.l) kv.c)) := by
  obtain ⟨cur, h1, h2, h3, h4⟩ := h.row
  have far : ∀ q, q ≠ g → (((W.setCell ⟨g, ks.length * 3, none⟩ (.string kv.x.1)).setCell ⟨g, ks.length * 3 + 1, none⟩ (.int .i64 kv.x.2)).setCell ⟨g, ks.length * 3 + 2, none⟩ (.slice kv.a (lenF kv.l) kv.c)).heap[q]? = W.heap[q]? := fun q hq => by
    rw [Below.heap_setCell _ _ _ q hq, Below.heap_setCell _ _ _ q hq, Below.heap_setCell _ _ _ q hq]
  refine ⟨⟨_, block_set (block_set (block_set h1 _) _) _, by simp [h2], ?_, ?_⟩, fun q hq => ?_⟩
  · intro i v hu
    rw [kvCells_snoc] at hu
    have hl := kvCells_len ks
    have hkl : kv.cells.length = 3 := rfl
    have hi : i < ks.length * 3 + 3 := by
      rcases Nat.lt_or_ge i (ks.length * 3 + 3) with h' | h'
      · exact h'
      · rw [List.getElem?_eq_none (by rw [List.length_append]; omega)] at hu; cases hu
    simp only [Array.getElem?_setIfInBounds, Array.size_setIfInBounds]
    by_cases hc : i < ks.length * 3
    · rw [List.getElem?_append_left (by omega)] at hu
      rw [if_neg (by omega), if_neg (by omega), if_neg (by omega)]
      exact h3 i v hu
    · rw [List.getElem?_append_right (by omega), hl] at hu
      have hcase : i = ks.length * 3 ∨ i = ks.length * 3 + 1 ∨ i = ks.length * 3 + 2 := by omega
      rcases hcase with e | e | e
      · subst e
        rw [if_neg (by omega), if_neg (by omega), if_pos rfl, if_pos (by omega)]
        simpa [Kv.cells] using hu
      · subst e
        rw [if_neg (by omega), if_pos rfl, if_pos (by omega)]
        rw [show ks.length * 3 + 1 - ks.length * 3 = 1 by omega] at hu
        simpa [Kv.cells] using hu
      · subst e
        rw [if_pos rfl, if_pos (by omega)]
        rw [show ks.length * 3 + 2 - ks.length * 3 = 2 by omega] at hu
        simpa [Kv.cells] using hu
  · intro i v hi hn hv
    simp only [List.length_append, List.length_cons, List.length_nil] at hi
    simp only [Array.getElem?_setIfInBounds, Array.size_setIfInBounds]
    rw [if_neg (by omega), if_neg (by omega), if_neg (by omega)]
    exact h4 i v (by omega) hn hv
  · have hq' : TmAt (onlyW (fun b => b < M ∨ g < b) W) q.x q.a q.c q.l := by
      rcases List.mem_append.1 hq with hq | hq
      · exact h.tms q hq
      · rw [List.mem_singleton.1 hq]; exact hk
    exact tm_only hq' fun b _ hP => ⟨hP, far b (by omega)⟩
theorem kidsAt_of {w : World} {b : Nat} : ∀ (F : Fo) (ks : List Kv) (o : Nat), ks.map (fun k => (k.x, k.l)) = kidsL F → (∀ j u, (kvCells ks)[j]? = some u → w.cell? ⟨b, o + j, none⟩ = some u) → (∀ k ∈ ks, TmAt w k.x k.a k.c k.l) → KidsAt w F b o
  | .nil, _, _, _, _, _ => trivial
  | .node _ _ x l r, [], o, h, _, _ => by simp [kidsL] at h
  | .node _ _ x l r, k :: ks, o, h, hc, ho => by
    simp only [List.map_cons, kidsL, List.cons.injEq, Prod.mk.injEq] at h
    obtain ⟨⟨rfl, rfl⟩, h⟩ := h
    have e : kvCells (k :: ks) = .string k.x.1 :: .int .i64 k.x.2 :: .slice k.a (lenF k.l) k.c :: kvCells ks := rfl
    rw [e] at hc
    have hk := ho k (by simp)
    refine ⟨⟨k.a, k.c, hc 0 _ rfl, hc 1 _ rfl, hc 2 _ rfl, hk.sizes, hk.args⟩, kidsAt_of r ks (o + 3) h (fun j u hu => ?_) (fun k' hk' => ho k' (by simp [hk']))⟩
    have := hc (j + 3) u (by simpa using hu)
    rw [show o + 3 + j = o + (j + 3) by omega]
    exact this
/-- The row is full. -/
theorem PRow.done {u : World} {M g n bb oo : Nat} {ks : List Kv} {W : World} (h : PRow u M g n bb oo ks W) {F : Fo} (hk : ks.map (fun k => (k.x, k.l)) = kidsL F) {Q : Nat → Prop} [DecidablePred Q] (hQ : ∀ b, (b < M ∨ g ≤ b) → Q b) : KidsAt (onlyW Q W) F g 0 := by
  obtain ⟨cur, h1, h2, h3, _⟩ := h.row
  refine kidsAt_of F ks 0 hk (fun j v hj => ?_) (fun q hq => tm_only (h.tms q hq) fun b _ hP => ⟨hQ b (by omega), rfl⟩)
  refine cell_only (hQ g (.inr (Nat.le_refl _))) ?_
  rw [Nat.zero_add, cell_of_row W g j cur 27 (0, 0) h1]
  exact h3 j v hj
end Go.Proofs.YtgidgmgpgfonnaaGreat
/- put of a table. -/
namespace Go.Proofs.YtgidgmgpgfonnaaGreat
open Go.RowKit Go.Deep Go.Shelf

theorem tab_only {P : Nat → Prop} [DecidablePred P] {w w' : World} {mv : Value} {lk : ByteArray → Option Tn} (h : TabV (onlyW P w) mv lk) (hq : ∀ b, b < w.heap.size → P b → w'.heap[b]? = w.heap[b]?) : TabV (onlyW P w') mv lk := by
  refine h.imp id fun ⟨b, n, h1, ⟨D, hD, hl⟩⟩ => ⟨b, n, h1, ⟨D, hD.inn fun b' es cl hh => ?_, fun s => ?_⟩⟩
  · have h2 := maps_only P w b' es cl hh
    have hP : P b' := Classical.byContradiction fun hp => by
      have e : (onlyW P w).heap[b']? = (w.heap[b']?).map fun _ => Obj.cells #[] 0 := by
        unfold onlyW
        simp only [Array.getElem?_mapIdx]
        cases w.heap[b']? with
        | none => rfl
        | some o => simp [hp]
      rw [e, h2] at hh
      simp at hh
    rw [only_in hP]
    exact (hq b' (Array.getElem?_eq_some_iff.1 h2).1 hP).trans h2
  · have h2 := hl s
    cases hs : lk s with
    | none => rw [hs] at h2; exact h2
    | some t =>
      rw [hs] at h2
      obtain ⟨a, c, h3, h4⟩ := h2
      exact ⟨a, c, h3, tm_only h4 fun b hb hP => ⟨hP, hq b hb hP⟩⟩
theorem far3 {W : World} {g q i : Nat} (h : q ≠ g) (a b c : Value) : (((W.setCell ⟨g, i, none⟩ a).setCell ⟨g, i + 1, none⟩ b).setCell ⟨g, i + 2, none⟩ c).heap[q]? = W.heap[q]? := by
  rw [Below.heap_setCell _ _ _ q h, Below.heap_setCell _ _ _ q h, Below.heap_setCell _ _ _ q h]
theorem run_copy0 (w : World) (ty : TypeId) (g c : Nat) (a : Option Addr) : (Builtin.copy_ #[25, 25] ty #[.slice (some ⟨g, 0, none⟩) 0 0, .slice a 0 c]).run Tryz.prog w = .ok (goInt 0) w := by
  obtain ⟨i0, hi0, _, _, _⟩ := info_parts Tryz.info27
  have hst : (storeCells ⟨g, 0, none⟩ []).run Tryz.prog w = .ok () w := run_storeCells_cells (P := Tryz.prog) g 0 [] 0 w (by simp) (by simp) (by simp)
  cases a with
  | none => simp [Builtin.copy_, run_underlying Tryz.underlying25, Builtin.lenOf, Builtin.firstCells, sizeOf, typeInfo, hi0, hst]
  | some p =>
    have hl : (loadCells p 0).run Tryz.prog w = .ok #[] w := run_loadCells_list (P := Tryz.prog) w p [] (by simp)
    simp [Builtin.copy_, run_underlying Tryz.underlying25, Builtin.lenOf, Builtin.firstCells, sizeOf, typeInfo, hi0, hl, hst]
def PutOk (lk : ByteArray → Option Tn) (k : Nat) : Prop := ∀ (x : ByteArray × Int) (l : Fo) (a : Option Addr) (c : Nat) (mv : Value) (M : Nat) (w : World), nodesF l ≤ k → M ≤ w.heap.size → TmAt (onlyW (fun b => b < M) w) x a c l → TabV (onlyW (fun b => b < M) w) mv lk →
  Calls Tryz.prog 52 #[mv, .agg #[.string x.1, .int .i64 x.2, .slice a (lenF l) c]] w fun e w' => ∃ a' c', e = .returned (.agg #[.string (putN lk x l).1.1, .int .i64 (putN lk x l).1.2, .slice a' (lenF (putN lk x l).2) c']) ∧ TmAt (onlyW (fun b => b < M ∨ w.heap.size ≤ b) w') (putN lk x l).1 a' c' (putN lk x l).2 ∧ Below w.heap.size w w'
set_option maxRecDepth 100000 in
set_option maxHeartbeats 2000000 in
theorem put_all (lk : ByteArray → Option Tn) : ∀ k, PutOk lk k := by
  intro k
  induction k using Nat.strongRecOn with
  | _ k ih =>
    intro x l a c mv M w hk hMw hT hM
    have HT := hid hT; have HM := hid hM
    have IH : Hid (∀ j, j < k → PutOk lk j) := ih
    obtain ⟨W0, hW0⟩ : ∃ W0, (w.alloc (.cells #[.string x.1, .int .i64 x.2, .slice a (lenF l) c] 27)).alloc (.cells #[.string ⟨#[]⟩, .int .i64 0, .slice none 0 0] 27) = W0 := ⟨_, rfl⟩
    have hb0 : Below w.heap.size w W0 := by rw [← hW0]; exact ((Below.refl _ w).alloc (Nat.le_refl _) _).alloc (by simp) _
    have b1 : XBox W0 w.heap.size x (.slice a (lenF l) c) := by rw [← hW0]; exact (Below.heap_alloc _ _ _ (by simp)).trans (World.alloc_heap_new w _)
    have b2 : XBox W0 (w.heap.size + 1) (⟨#[]⟩, 0) (.slice none 0 0) := by
      have := World.alloc_heap_new (w.alloc (.cells #[.string x.1, .int .i64 x.2, .slice a (lenF l) c] 27)) (.cells #[.string ⟨#[]⟩, .int .i64 0, .slice none 0 0] 27)
      rw [World.size_alloc] at this
      rw [← hW0]; exact this
    have hsz : W0.heap.size = w.heap.size + 2 := by rw [← hW0]; simp
    have HLK := hid (look_gen mv lk x a (lenF l) c (onlyW (fun b => b < M) w) W0 hM ((maps_only _ w).below hb0) hT.sizes.name)
    clear hT hM ih
    have z0 := b1.c0; have z1 := b1.c1; have z2 := b1.c2
    go_enter Tryz.func52, Tryz.ntmps52
    go_wp2_with fail
    clear hW0 z0 z1 z2
    refine HLK.out.mono ?_
    rintro e w1 ⟨hb1, hres⟩
    have HW1 := hid (hb0.trans (hb1.mono hb0.size))
    rcases hres with ⟨hk0, rfl⟩ | ⟨t, a', c', hk1, hT1, rfl⟩
    · have hp : putN lk x l = (x, putF lk l) := by unfold putN; rw [hk0]
      have HP := hid hp
      obtain ⟨i0, hi, hz0, hz1, hz2⟩ := info_parts Tryz.info27
      have bx := alloc_below0 w1 (.cells #[.string ⟨#[]⟩, .int .i64 0, .slice none 0 0] 27)
      have hVs : w1.heap.size < (w1.alloc (.cells #[.string ⟨#[]⟩, .int .i64 0, .slice none 0 0] 27)).heap.size := by simp
      have B1 := (b1.below hb1).below bx
      have B2 := (b2.below hb1).below bx
      have HL := hid (HW1.out.trans (bx.mono HW1.out.size))
      have HB1 := hid B1; have HB2 := hid B2
      have hfew := HT.out.sizes.few
      have hn1 := HT.out.sizes.len; have hn2 := HT.out.sizes.cap
      have hmax : maxLen = 9223372036854775807 := rfl
      have c2 := B1.c2
      clear HLK b1 b2 bx hb1 hb0 B1 B2 hp
      go_upto_region 4 with fail
      generalize w1.alloc (.cells #[.string ⟨#[]⟩, .int .i64 0, .slice none 0 0] 27) = V at HL HB1 HB2 c2 hVs ⊢
      by_cases h0 : lenF l = 0
      · have hl := len_nil h0
        subst hl
        have hcp := run_copy0 (ty := 3) (c := c) (a := a)
        go_upto_region 5 with (at_make; refine wpList_make_full _ rfl _ _ 25 rfl V.heap.size 27 i0 (.agg #[.string ⟨#[]⟩, .int .i64 0, .slice none 0 0]) 3 Tryz.underlying25 hi hz0 hz1 .i64 .i64 _ _ 0 rfl rfl rfl rfl (by rw [hz2]; omega) (by omega) (Nat.le_refl _) ?_; intro w0 hown0 hgrow0)
        have hbm : Below V.heap.size V w0 := (Below.refl _ _).grown hgrow0 (Nat.le_refl _) (fun k e => by cases e)
        have hc0 := hcp w0 V.heap.size
        have FX := hid (HB1.out.below hbm); have FY := hid (HB2.out.below hbm)
        have FL := hid (HL.out.trans (hbm.mono HL.out.size))
        have c2' := FX.out.c2
        have f2 := FX.out.f (k := 2)
        have X1 := FX.out.set (.slice (some ⟨V.heap.size, 0, none⟩) 0 0)
        have x0 := X1.c0; have x1 := X1.c1; have x2 := X1.c2
        have R1 := FY.out.other (p := ⟨w.heap.size, 2, none⟩) (by show w.heap.size + 1 ≠ w.heap.size; omega) (.slice (some ⟨V.heap.size, 0, none⟩) 0 0)
        have r0 := R1.c0; have r1 := R1.c1; have r2 := R1.c2
        have g0 := R1.f (k := 0); have g1 := R1.f (k := 1); have g2 := R1.f (k := 2)
        have HR1 := hid R1
        clear X1 R1 hcp hown0 hgrow0 hbm c2
        go_wp2_with fail
        go_loopw [28] (fun iv wr => iv = .int .i64 0 ∧ wr = w0) (fun _ _ => 0)
        case atStart => exact ⟨rfl, rfl⟩
        case round =>
          obtain ⟨rfl, rfl⟩ := hrel
          go_wp2_with fail
          refine bodyPost_ret (results_cell_row rfl _ _ (w.heap.size + 1) 27 #[.string x.1, .int .i64 x.2, .slice (some ⟨V.heap.size, 0, none⟩) 0 0] (0, 0) _ rfl (HR1.out.all (x := x) _) Tryz.underlying27 rfl Tryz.size27) rfl ?_
          rw [HP.out]
          exact ⟨some ⟨V.heap.size, 0, none⟩, 0, rfl, ⟨⟨HT.out.sizes.name, Nat.le_refl _, by omega, by simp [putF, lenF]⟩, .inl rfl⟩, sets_below (FL.out.setCell (p := ⟨w.heap.size, 2, none⟩) (Nat.le_refl _) _) (by omega) _ _ _⟩
      · obtain ⟨bb, oo, rfl, hkk⟩ := HT.out.args.get (by omega)
        have HKK := hid hkk
        go_upto_region 5 with (at_make; refine wpList_make_full _ rfl _ _ 25 rfl V.heap.size 27 i0 (.agg #[.string ⟨#[]⟩, .int .i64 0, .slice none 0 0]) 3 Tryz.underlying25 hi hz0 hz1 .i64 .i64 _ _ (lenF l) rfl rfl rfl rfl (by rw [hz2]; omega) (by omega) (Nat.le_refl _) ?_; intro w0 hown0 hgrow0)
        have hbm : Below V.heap.size V w0 := (Below.refl _ _).grown hgrow0 (Nat.le_refl _) (fun k e => by cases e)
        obtain ⟨cur, hcur, hcs⟩ : ∃ cur, w0.heap[V.heap.size]? = some (.cells cur 27 (0, 0)) ∧ cur.size = lenF l * 3 := by
          rcases hown0.2 with ⟨hv, _⟩ | ⟨g', cap', cur, hv, _, hh, _, _, hcs, _⟩
          · cases hv
          · cases hv
            exact ⟨cur, hh, hcs⟩
        have hL0 := HL.out.trans (hbm.mono HL.out.size)
        obtain ⟨cs, hcl, hcc, hco⟩ := kids_cells hkk
        have hcc0 : ∀ j v, cs[j]? = some v → w0.cell? ⟨bb, oo + j, none⟩ = some v := fun j v hj => bd_cell hL0 _ _ (only_cell (hcc j v hj)).2
        have hcp := run_copyT w0 3 V.heap.size 0 (lenF l) (lenF l) ⟨bb, oo, none⟩ (lenF l) c cs (by rw [hcl]; simp) (fun j v hj => by rw [Addr.add_lit]; exact hcc0 j v hj) (fun j hj => by rw [Nat.zero_add, cell_of_row w0 V.heap.size j cur 27 (0, 0) hcur]; simp; omega) (fun j hj => by simp [World.frozen?, hcur]) hco
        have c2' := (HB1.out.below hbm).c2
        have hrow := setCells_row cs 0 w0 cur hcur (by omega)
        have hov : ovr cur.toList 0 cs = cs := by
          unfold ovr
          rw [List.take_zero, List.nil_append, List.drop_eq_nil_of_le (by rw [Array.length_toList]; omega), List.append_nil]
        rw [hov] at hrow
        have P0 : PRow w M V.heap.size (lenF l) bb oo [] (w0.setCells V.heap.size 0 cs) := by
          refine ⟨⟨_, hrow, by simp [hcl], fun i v h => by simp [kvCells] at h, fun i v _ hi hv => ?_⟩, fun q hq => by simp at hq⟩
          have h1 : cs[i]? = some cs[i] := List.getElem?_eq_getElem (by omega)
          have h2 := (only_cell (hcc i _ h1)).2
          rw [h2] at hv
          simp only [List.getElem?_toArray]
          rw [h1]
          exact hv
        have hfar : ∀ q, q ≠ V.heap.size → (w0.setCells V.heap.size 0 cs).heap[q]? = w0.heap[q]? := fun q hq => setCells_far hq cs 0 w0
        have hwV : w.heap.size + 1 < V.heap.size := by
          have := (Array.getElem?_eq_some_iff.1 HB2.out).1
          exact this
        have X0 : XBox (w0.setCells V.heap.size 0 cs) w.heap.size x (.slice (some ⟨bb, oo, none⟩) (lenF l) c) := (hfar _ (by omega)).trans (HB1.out.below hbm)
        have Y0 : XBox (w0.setCells V.heap.size 0 cs) (w.heap.size + 1) (⟨#[]⟩, 0) (.slice none 0 0) := (hfar _ (by omega)).trans (HB2.out.below hbm)
        have L0 := setCells_low (g := V.heap.size) (by omega) cs 0 w0 hL0
        have HP0 := hid P0; have HX0 := hid X0; have HY0 := hid Y0; have HL0 := hid L0
        clear P0 X0 Y0 L0 hrow hov hfar hcc hcc0 hco hcl hcur hcs hbm hown0 hgrow0 hL0 hkk c2
        go_upto_region 6 with fail
        generalize w0.setCells V.heap.size 0 cs = W2 at HP0 HX0 HY0 HL0 ⊢
        clear hcp c2'
        generalize V.heap.size = g at HP0 hwV ⊢
        go_wp2_with fail
        go_loopw [28] (fun iv wr => ∃ (j : Nat) (ks : List Kv), j ≤ lenF l ∧ iv = .int .i64 j ∧ ks.length = j ∧ PRow w M g (lenF l) bb oo ks wr ∧ ks.map (fun q => (q.x, q.l)) = ((kidsL l).take j).map (fun y => putN lk y.1 y.2) ∧ XBox wr w.heap.size x (.slice (some ⟨bb, oo, none⟩) (lenF l) c) ∧ XBox wr (w.heap.size + 1) (⟨#[]⟩, 0) (.slice none 0 0) ∧ Below w.heap.size w wr) (fun iv _ => lenF l - (intOf iv).toNat)
        case atStart => exact ⟨0, [], Nat.zero_le _, rfl, rfl, HP0.out, by simp, HX0.out, HY0.out, HL0.out⟩
        case round =>
          obtain ⟨j, ks, hj, rfl, hkl, hP, hks, hX, hY, hlow⟩ := hrel
          have FP := hid hP; have FX := hid hX; have FY := hid hY; have FL := hid hlow; have FK := hid hks
          clear hP hX hY hlow hks
          by_cases hlt : j < lenF l
          · obtain ⟨y, a1, c1, l1, kd⟩ := HKK.out.kid (k := j) hlt
            have p0 := FP.out.rest (i := j * 3) (by omega) (by omega) (only_cell kd.name).2
            have p1 := FP.out.rest (i := j * 3 + 1) (by omega) (by omega) (only_cell kd.sym).2
            have p2 := FP.out.rest (i := j * 3 + 2) (by omega) (by omega) (only_cell kd.list).2
            have bx := alloc_below0 wr (.cells #[.string y.1, .int .i64 y.2, .slice a1 (lenF l1) c1] 27)
            have hsm : ∀ b, b < w.heap.size → (wr.alloc (.cells #[.string y.1, .int .i64 y.2, .slice a1 (lenF l1) c1] 27)).heap[b]? = w.heap[b]? := fun b hb => (bx.block b (Nat.lt_of_lt_of_le hb FL.out.size)).trans (FL.out.block b hb)
            have HC := hid (IH.out (nodesF l1) (by have := kd.less; omega) y l1 a1 c1 mv M (wr.alloc (.cells #[.string y.1, .int .i64 y.2, .slice a1 (lenF l1) c1] 27)) (Nat.le_refl _) (by have := FL.out.size; simp; omega) (tm_only kd.at_ fun b hb hP => ⟨hP, hsm b hb⟩) (tab_only HM.out fun b hb _ => hsm b hb))
            have KD := hid kd
            have BX := hid bx
            have hgl := FP.out.lt
            clear kd bx hsm
            go_wp2_with fail
            refine HC.out.mono ?_
            rintro e w2 ⟨a', c', rfl, hT2, hb2⟩
            have HW2 := hid (BX.out.trans (hb2.mono BX.out.size))
            have P2 := FP.out.below HW2.out
            have HP2 := hid P2
            obtain ⟨u0, v0⟩ := P2.cell (i := j * 3) (by omega)
            obtain ⟨u1, v1⟩ := P2.cell (i := j * 3 + 1) (by omega)
            obtain ⟨u2, v2⟩ := P2.cell (i := j * 3 + 2) (by omega)
            have f0 := P2.frozen (j * 3); have f1 := P2.frozen (j * 3 + 1); have f2 := P2.frozen (j * 3 + 2)
            have HT2 := hid (tm_only (Q := fun b => b < M ∨ g < b) (w' := w2) hT2 fun b _ hP => ⟨by simp only [World.size_alloc] at hP; omega, rfl⟩)
            clear P2 hb2 hT2 p0 p1 p2 HC
            go_wp2_with fail
            obtain ⟨B1', O1', sp⟩ := KD.out.split
            have hst := HP2.out.store (kv := ⟨(putN lk y l1).1, (putN lk y l1).2, a', c'⟩) HT2.out (by omega) (by omega)
            rw [hkl] at hst
            have hl2 := FL.out.trans (HW2.out.mono FL.out.size)
            refine ⟨⟨j + 1, ks ++ [⟨(putN lk y l1).1, (putN lk y l1).2, a', c'⟩], by omega, rfl, by simp [hkl], hst, ?_, (far3 (by omega) _ _ _).trans (FX.out.below HW2.out), (far3 (by omega) _ _ _).trans (FY.out.below HW2.out), ?_⟩, by simp [intOf]; omega⟩
            · rw [kids_take sp, List.map_append, List.map_append, FK.out]
              rfl
            · exact ((hl2.setCell (p := ⟨g, j * 3, none⟩) (by show w.heap.size ≤ g; omega) _).setCell (p := ⟨g, j * 3 + 1, none⟩) (by show w.heap.size ≤ g; omega) _).setCell (p := ⟨g, j * 3 + 2, none⟩) (by show w.heap.size ≤ g; omega) _
          · have e1 : j = lenF l := by omega
            have c2 := FX.out.c2
            have f2 := FX.out.f (k := 2)
            have X1 := FX.out.set (.slice (some ⟨g, 0, none⟩) (lenF l) (lenF l))
            have x0 := X1.c0; have x1 := X1.c1; have x2 := X1.c2
            have R1 := FY.out.other (p := ⟨w.heap.size, 2, none⟩) (by show w.heap.size + 1 ≠ w.heap.size; omega) (.slice (some ⟨g, 0, none⟩) (lenF l) (lenF l))
            have r0 := R1.c0; have r1 := R1.c1; have r2 := R1.c2
            have g0 := R1.f (k := 0); have g1 := R1.f (k := 1); have g2 := R1.f (k := 2)
            have HR1 := hid R1
            have hfull : ks.map (fun q => (q.x, q.l)) = kidsL (putF lk l) := by
              rw [FK.out, putF_kids, List.take_of_length_le (by rw [kids_len]; omega)]
            have HF := hid (FP.out.done (F := putF lk l) hfull (Q := fun b => b < M ∨ g ≤ b) (fun b h => h))
            clear X1 R1 hfull
            go_wp2_with fail
            refine bodyPost_ret (results_cell_row rfl _ _ (w.heap.size + 1) 27 #[.string x.1, .int .i64 x.2, .slice (some ⟨g, 0, none⟩) (lenF l) (lenF l)] (0, 0) _ rfl (HR1.out.all (x := x) _) Tryz.underlying27 rfl Tryz.size27) rfl ?_
            rw [HP.out]
            refine ⟨some ⟨g, 0, none⟩, lenF l, by rw [putF_len], ⟨⟨HT.out.sizes.name, by rw [putF_len]; exact Nat.le_refl _, by omega, by rw [putF_len]; exact hfew⟩, .inr ⟨g, 0, rfl, ?_⟩⟩, sets_below (FL.out.setCell (p := ⟨w.heap.size, 2, none⟩) (Nat.le_refl _) _) (by omega) _ _ _⟩
            refine HF.out.kept fun p v hv => ?_
            obtain ⟨q1, q2⟩ := only_cell hv
            have hsame := (sets_far (W := wr.setCell ⟨w.heap.size, 2, none⟩ (.slice (some ⟨g, 0, none⟩) (lenF l) (lenF l))) (B := w.heap.size + 1) (q := p.block) (by omega) (.string x.1) (.int .i64 x.2) (.slice (some ⟨g, 0, none⟩) (lenF l) (lenF l))).trans (Below.heap_setCell wr _ _ p.block (by show p.block ≠ w.heap.size; omega))
            refine cell_only (by omega) ?_
            simp only [World.cell?, hsame] at q2 ⊢
            exact q2
    · have hp : putN lk x l = t := by unfold putN; rw [hk1]
      have HP := hid hp
      have bx := alloc_below0 w1 (.cells #[.string t.1.1, .int .i64 t.1.2, .slice a' (lenF t.2) c'] 27)
      have R1 := (b2.below hb1).below bx
      have HL := hid (HW1.out.trans (bx.mono HW1.out.size))
      have HR1 := hid R1
      have r0 := R1.c0; have r1 := R1.c1; have r2 := R1.c2
      have g0 := R1.f (k := 0); have g1 := R1.f (k := 1); have g2 := R1.f (k := 2)
      have HT1 := hid hT1
      clear HLK b1 b2 R1 bx hb1 hb0 hsz hT1 hp
      go_wp2_with fail
      refine bodyPost_ret (results_cell_row rfl _ _ (w.heap.size + 1) 27 #[.string t.1.1, .int .i64 t.1.2, .slice a' (lenF t.2) c'] (0, 0) _ rfl (HR1.out.all (x := t.1) _) Tryz.underlying27 rfl Tryz.size27) rfl ?_
      rw [HP.out]
      refine ⟨a', c', rfl, tm_only HT1.out fun b hb hbM => ⟨.inl hbM, ?_⟩, sets_below HL.out (by omega) _ _ _⟩
      exact (sets_far (by omega) _ _ _).trans (HL.out.block b hb)
end Go.Proofs.YtgidgmgpgfonnaaGreat
/- Canonical forms, without any program: what Canon, Parts and Join say of a term, and that one is canonical just if it is its own canonical form. -/
namespace Go.Proofs.YtgidgmgpgfonnaaGreat
open Go.RowKit Go.Deep

/-! ### lists of terms and forests -/
def mkF : List Tn → Fo
  | [] => .nil
  | t :: r => .node 0 0 t.1 t.2 (mkF r)
theorem kids_mk : ∀ l : List Tn, kidsL (mkF l) = l
  | [] => rfl
  | t :: r => by simp only [mkF, kidsL]; rw [kids_mk r]
theorem len_mk (l : List Tn) : lenF (mkF l) = l.length := by rw [← kids_len, kids_mk]
def noB : ByteArray := ⟨#[]⟩
theorem bytes_eq {a b : ByteArray} (h : a.data.toList = b.data.toList) : a = b := by
  obtain ⟨⟨l⟩⟩ := a
  obtain ⟨⟨m⟩⟩ := b
  rw [show l = m from h]
theorem noName_eq {s : ByteArray} (h : noName s = true) : s = noB := by
  unfold noName at h
  rw [List.isEmpty_iff, ByteArray.toList_eq] at h
  exact bytes_eq h
theorem noName_noB : noName noB = true := by decide +kernel

/-! ### the order -/
def cmpN (x y : Tn) : Int := cmp1 x.1 y.1 (lenF x.2) (lenF y.2) (cmpF x.2 y.2)
theorem cmpN_anti (x y : Tn) : cmpN y x = - cmpN x y := by unfold cmpN; rw [cmpF_anti]; exact cmp1_anti _ _ _ _ _
theorem cmpN_cons (x y z : Tn) : Cons (cmpN x y) (cmpN y z) (cmpN x z) := cmp1_cons _ _ _ _ _ _ _ _ _ (fun a b => cmpF_cons _ _ _ a b)
def leN (x y : Tn) : Prop := cmpN x y ≤ 0
theorem leN_trans {x y z : Tn} (h : leN x y) (k : leN y z) : leN x z := by
  obtain ⟨c1, c2, c3, _⟩ := cmpN_cons x y z
  unfold leN at *
  by_cases e : cmpN x y = 0
  · rw [c1 e]; exact k
  · by_cases e2 : cmpN y z = 0
    · rw [c2 e2]; exact h
    · exact Int.le_of_lt (c3 (by omega) (by omega))
theorem leN_total (x y : Tn) : leN x y ∨ leN y x := by
  unfold leN
  rw [cmpN_anti x y]
  omega
/-- Behind all that are not greater. -/
def insN (x : Tn) : List Tn → List Tn
  | [] => [x]
  | y :: r => if cmpN y x > 0 then x :: y :: r else y :: insN x r
def sortN : List Tn → List Tn
  | l => l.foldl (fun out x => insN x out) []
abbrev Srt (l : List Tn) : Prop := l.Pairwise leN
theorem insN_perm (x : Tn) : ∀ l : List Tn, List.Perm (insN x l) (x :: l)
  | [] => List.Perm.refl _
  | y :: r => by
    unfold insN
    split
    · exact List.Perm.refl _
    · exact ((insN_perm x r).cons y).trans (List.Perm.swap x y r)
theorem insN_srt (x : Tn) : ∀ {l : List Tn}, Srt l → Srt (insN x l)
  | [], _ => by simp [insN]
  | y :: r, h => by
    unfold insN
    obtain ⟨h1, h2⟩ := List.pairwise_cons.1 h
    split
    · rename_i hgt
      have hxy : leN x y := by unfold leN; rw [cmpN_anti y x]; omega
      refine List.pairwise_cons.2 ⟨fun z hz => ?_, h⟩
      rcases List.mem_cons.1 hz with rfl | hz
      · exact hxy
      · exact leN_trans hxy (h1 z hz)
    · rename_i hgt
      refine List.pairwise_cons.2 ⟨fun z hz => ?_, insN_srt x h2⟩
      rcases List.mem_cons.1 ((insN_perm x r).mem_iff.1 hz) with rfl | hz
      · unfold leN; omega
      · exact h1 z hz
theorem sort_go_perm : ∀ (l out : List Tn), List.Perm (l.foldl (fun out x => insN x out) out) (out ++ l)
  | [], out => by simp
  | x :: l, out => by
    rw [List.foldl_cons]
    refine (sort_go_perm l (insN x out)).trans ?_
    refine ((insN_perm x out).append_right l).trans ?_
    exact List.perm_middle.symm
theorem sortN_perm (l : List Tn) : List.Perm (sortN l) l := by
  have := sort_go_perm l []
  rwa [List.nil_append] at this
theorem sort_go_srt : ∀ (l out : List Tn), Srt out → Srt (l.foldl (fun out x => insN x out) out)
  | [], _, h => h
  | x :: l, out, h => by rw [List.foldl_cons]; exact sort_go_srt l _ (insN_srt x h)
theorem sortN_srt (l : List Tn) : Srt (sortN l) := sort_go_srt l [] List.Pairwise.nil
theorem sortN_len (l : List Tn) : (sortN l).length = l.length := (sortN_perm l).length_eq

/-! ### what Canon says -/
/-- What is asked of a signature: which places join, and which unit they have. -/
structure Sg where
  joins : Int → Bool
  unit : Int → Option Int
def constT (u : Int) : Tn := ((noB, u), .nil)
def isConst (t : Tn) (u : Int) : Bool := noName t.1.1 && t.1.2 == u && lenF t.2 == 0
def isUn (S : Sg) (f : Int) (t : Tn) : Bool := match S.unit f with | some u => isConst t u | none => false
def headed (f : Int) (t : Tn) : Bool := noName t.1.1 && t.1.2 == f
def partsN (S : Sg) (f : Int) (t : Tn) : List Tn := if S.joins f = false then [t] else if isUn S f t then [] else if headed f t then kidsL t.2 else [t]
def joinL (S : Sg) (f : Int) : List Tn → Option Tn
  | [] => (S.unit f).map constT
  | [t] => some t
  | l => some ((noB, f), mkF (sortN l))
/-- Of canonical terms. -/
def joinN (S : Sg) (f : Int) (cs : List Tn) : Option Tn := if S.joins f = false then none else joinL S f (cs.flatMap (partsN S f))
def canon1 (S : Sg) (x : ByteArray × Int) (cs : List Tn) : Tn :=
  if noName x.1 = false then ((x.1, 0), .nil) else if S.joins x.2 then (joinN S x.2 cs).getD (constT x.2) else ((noB, x.2), mkF cs)
def canonL (S : Sg) : Fo → List Tn
  | .nil => []
  | .node _ _ x l r => canon1 S x (canonL S l) :: canonL S r
def canonT (S : Sg) (t : Tn) : Tn := canon1 S t.1 (canonL S t.2)
theorem canonL_map (S : Sg) : ∀ F : Fo, canonL S F = (kidsL F).map (canonT S)
  | .nil => rfl
  | .node _ _ x l r => by simp only [canonL, kidsL, List.map_cons, canonT]; rw [canonL_map S r]

/-! ### what is right -/
/-- What a right signature says of units: they don't join. -/
structure Sg.Ok (S : Sg) (ar : Int → Nat) : Prop where
  free : ∀ f u, S.unit f = some u → S.joins u = false
  none : ∀ f u, S.unit f = some u → ar u = 0
def nodeOk (S : Sg) (ar : Int → Nat) (x : ByteArray × Int) (n : Nat) : Prop := if noName x.1 = false then x.2 = 0 ∧ n = 0 else if S.joins x.2 then 2 ≤ n else n = ar x.2
def RightF (S : Sg) (ar : Int → Nat) : Fo → Prop
  | .nil => True
  | .node _ _ x l r => (nodeOk S ar x (lenF l) ∧ RightF S ar l) ∧ RightF S ar r
def RightT (S : Sg) (ar : Int → Nat) (t : Tn) : Prop := nodeOk S ar t.1 (lenF t.2) ∧ RightF S ar t.2
theorem right_kids {S : Sg} {ar : Int → Nat} : ∀ {F : Fo}, RightF S ar F ↔ ∀ k ∈ kidsL F, RightT S ar k
  | .nil => by simp [RightF, kidsL]
  | .node _ _ x l r => by
    simp only [RightF, kidsL, List.mem_cons]
    rw [right_kids (F := r)]
    constructor
    · rintro ⟨h1, h2⟩ k (rfl | hk)
      · exact h1
      · exact h2 k hk
    · exact fun h => ⟨h (x, l) (.inl rfl), fun k hk => h k (.inr hk)⟩

/-! ### canonical -/
/-- A node that is canonical above what is beneath it. -/
def can1 (S : Sg) (ar : Int → Nat) (x : ByteArray × Int) (ks : List Tn) : Prop :=
  if noName x.1 = false then x.2 = 0 ∧ ks = [] else x.1 = noB ∧ if S.joins x.2 then 2 ≤ ks.length ∧ Srt ks ∧ ∀ k ∈ ks, isUn S x.2 k = false ∧ headed x.2 k = false else ks.length = ar x.2
def CanF (S : Sg) (ar : Int → Nat) : Fo → Prop
  | .nil => True
  | .node b o x l r => (b = 0 ∧ o = 0) ∧ (can1 S ar x (kidsL l) ∧ CanF S ar l) ∧ CanF S ar r
def CanT (S : Sg) (ar : Int → Nat) (t : Tn) : Prop := can1 S ar t.1 (kidsL t.2) ∧ CanF S ar t.2
theorem can_kids {S : Sg} {ar : Int → Nat} : ∀ {F : Fo}, CanF S ar F → ∀ k ∈ kidsL F, CanT S ar k
  | .nil, _, _, h => by simp [kidsL] at h
  | .node _ _ _ _ _, ⟨_, h1, h2⟩, k, hk => by
    rcases List.mem_cons.1 hk with rfl | hk
    · exact h1
    · exact can_kids h2 k hk
theorem can_mk {S : Sg} {ar : Int → Nat} : ∀ {l : List Tn}, (∀ k ∈ l, CanT S ar k) → CanF S ar (mkF l)
  | [], _ => trivial
  | t :: _, h => ⟨⟨rfl, rfl⟩, h t List.mem_cons_self, can_mk (fun k hk => h k (List.mem_cons_of_mem _ hk))⟩
theorem can_mk_kids {S : Sg} {ar : Int → Nat} : ∀ {F : Fo}, CanF S ar F → mkF (kidsL F) = F
  | .nil, _ => rfl
  | .node _ _ _ _ _, ⟨⟨hb, ho⟩, _, h2⟩ => by subst hb ho; simp only [kidsL, mkF]; rw [can_mk_kids h2]

/-- Canonical terms that compare alike are one. -/
theorem canF_zero {S : Sg} {ar : Int → Nat} : ∀ {F G : Fo}, CanF S ar F → CanF S ar G → lenF F = lenF G → cmpF F G = 0 → F = G
  | .nil, .nil, _, _, _, _ => rfl
  | .nil, .node _ _ _ _ _, _, _, h, _ => by simp [lenF] at h
  | .node _ _ _ _ _, .nil, _, _, h, _ => by simp [lenF] at h
  | .node b o x l r, .node b' o' y m s, ⟨⟨hb, ho⟩, ⟨hx, hl⟩, hr⟩, ⟨⟨hb', ho'⟩, ⟨hy, hm⟩, hs⟩, hlen, h => by
    subst hb ho hb' ho'
    simp only [lenF, Nat.add_right_cancel_iff] at hlen
    rw [cmpF, thenC] at h
    split at h
    case isFalse hne => exact absurd h hne
    rename_i h1
    have hrs := canF_zero hr hs hlen h
    unfold cmp1 at h1
    unfold can1 at hx hy
    cases ex : noName x.1 <;> cases ey : noName y.1 <;> simp only [ex, ey, if_true, if_false, Bool.true_eq_false] at h1 hx hy
    · have hn : x.1 = y.1 := bytes_eq (bytes_zero h1)
      have e1 : l = .nil := len_nil (by rw [← kids_len, hx.2]; rfl)
      have e2 : m = .nil := len_nil (by rw [← kids_len, hy.2]; rfl)
      rw [hrs, e1, e2, show x = y from Prod.ext hn (hx.1.trans hy.1.symm)]
    · omega
    · omega
    · split at h1
      case isFalse hne => exact absurd (compareInt_zero h1) hne
      rename_i hs2
      split at h1
      case isFalse hne => exact absurd (by have := compareInt_zero h1; omega) hne
      rename_i hlm
      have hlm2 := canF_zero hl hm hlm h1
      rw [hrs, hlm2, show x = y from Prod.ext (hx.1.trans hy.1.symm) hs2]
theorem canT_zero {S : Sg} {ar : Int → Nat} {x y : Tn} (hx : CanT S ar x) (hy : CanT S ar y) (h : cmpN x y = 0) : x = y := by
  have h2 : BT.node 0 0 x.1 x.2 .nil = BT.node 0 0 y.1 y.2 .nil := canF_zero (F := .node 0 0 x.1 x.2 .nil) (G := .node 0 0 y.1 y.2 .nil) (S := S) (ar := ar) ⟨⟨rfl, rfl⟩, hx, trivial⟩ ⟨⟨rfl, rfl⟩, hy, trivial⟩ rfl (by
    rw [cmpF, thenC]
    have h' : cmp1 x.1 y.1 (lenF x.2) (lenF y.2) (cmpF x.2 y.2) = 0 := h
    rw [if_pos h', cmpF])
  simp only [BT.node.injEq, true_and, and_true] at h2
  exact Prod.ext h2.1 h2.2
/-- Terms in order are told by which they are. -/
theorem srt_eq {S : Sg} {ar : Int → Nat} {l m : List Tn} (hl : ∀ k ∈ l, CanT S ar k) (h1 : Srt l) (h2 : Srt m) (h : List.Perm l m) : l = m :=
  List.Perm.eq_of_pairwise (fun a b ha hb hab hba => canT_zero (hl a ha) (hl b (h.mem_iff.2 hb)) (by
    unfold leN at hab hba
    rw [cmpN_anti a b] at hba
    omega)) h1 h2 h
theorem sort_eq {S : Sg} {ar : Int → Nat} {l m : List Tn} (hl : ∀ k ∈ l, CanT S ar k) (h : List.Perm l m) : sortN l = sortN m :=
  srt_eq (fun k hk => hl k ((sortN_perm l).mem_iff.1 hk)) (sortN_srt l) (sortN_srt m) ((sortN_perm l).trans (h.trans (sortN_perm m).symm))
theorem sort_self {S : Sg} {ar : Int → Nat} {l : List Tn} (hl : ∀ k ∈ l, CanT S ar k) (h : Srt l) : sortN l = l :=
  srt_eq (fun k hk => hl k ((sortN_perm l).mem_iff.1 hk)) (sortN_srt l) h (sortN_perm l)
end Go.Proofs.YtgidgmgpgfonnaaGreat
