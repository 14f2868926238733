/- SplitGoes' two turns: what they keep. -/
import Derived.Test.YtdpdpjfnanjmgaaDoorSpAv
import Derived.Test.YtdpdpjfnanjmgaaDoorSpAu
import Derived.Test.YtdpdpjfnanjmgaaDoorSpAc
namespace Go.Proofs.YtdpdpjfnanjmgaaDoor
open Go.RowKit Go.Shelf

theorem blk_below {W W' : World} {b : Nat} {o : Obj} (hb : Below W.heap.size W W') (h : W.heap[b]? = some o) : W'.heap[b]? = some o := (hb.block _ (Array.getElem?_eq_some_iff.1 h).1).trans h
theorem box_free {W : World} {b i : Nat} {cs : Array Value} {t : TypeId} (h : W.heap[b]? = some (.cells cs t (0, 0))) : W.frozen? ⟨b, i, none⟩ = false := by simp [World.frozen?, h]
theorem box_set {W : World} {b : Nat} {x v : Value} {t : TypeId} (h : W.heap[b]? = some (.cells #[x] t (0, 0))) : (W.setCell ⟨b, 0, none⟩ v).heap[b]? = some (.cells #[v] t (0, 0)) := block_set h v
def rt : Code → Code
  | .seq _ b => b
  | c => c
theorem want_at {W : World} {base : Nat} {po : Option Addr} {oc : Nat} {WS : List (List (List Nat))} (h : WaysZ W base (.slice po WS.length oc) WS) {k : Nat} (hk : k < WS.length) : ∃ g p c, po = some ⟨g, 0, none⟩ ∧ W.cell? ⟨g, k, none⟩ = some (.slice p WS[k].length c) ∧ RowsAt W p (WS[k].map up) := by
  obtain ⟨xs, h1, h2⟩ := h
  have hl : xs.length = WS.length := by have := h1.1; omega
  obtain ⟨g, rfl, hg⟩ := own_cell h1 (i := k) (by omega)
  obtain ⟨x, k1, k2⟩ := h2 k hk
  obtain ⟨p, c, rfl⟩ := k2.one
  obtain ⟨_, e1⟩ := List.getElem?_eq_some_iff.1 k1
  rw [e1] at hg
  exact ⟨g, p, c, rfl, hg, k2.rows⟩
theorem ways_small {W : World} {base : Nat} {v : Value} {WS : List (List (List Nat))} (h : WaysZ W base v WS) : WS.length ≤ maxLen := by
  obtain ⟨xs, h1, _⟩ := h
  exact own_small h1
/-- What may be gone through, what is wanted, and what they need. -/
structure Ready (w : World) (Y S9 S15 M : Nat) (B : Nat → Prop) (Keep : World → Prop) (K Tk : Nat) (L : List (List Nat)) (gf : Nat) (lb : Array Value) (po : Option Addr) (oc : Nat) (WS : List (List (List Nat))) (W : World) : Prop where
  y1 : W.heap[Y + 1]? = some (.cells #[.int .i64 (M : Int)] 3 (0, 0))
  y2 : W.heap[Y + 2]? = some (.cells #[.bool false] 4 (0, 0))
  s9 : W.heap[S9]? = some (.cells #[.slice po WS.length oc] 30 (0, 0))
  s15 : W.heap[S15]? = some (.cells #[.func (.func gf) #[] lb] 33 (0, 0))
  ws : ∃ base, WaysZ W base (.slice po WS.length oc) WS
  seq : SeqOk B K Tk Keep L gf lb
  keep : Keep W
  xs : ∀ b, B b → b < W.heap.size
  low : Below Y w W
  wy : w.heap.size = Y
theorem Ready.below {w : World} {Y S9 S15 M : Nat} {B : Nat → Prop} {Keep : World → Prop} {K Tk : Nat} {L : List (List Nat)} {gf : Nat} {lb : Array Value} {po : Option Addr} {oc : Nat} {WS : List (List (List Nat))} {W W' : World} (h : Ready w Y S9 S15 M B Keep K Tk L gf lb po oc WS W) (hb : Below W.heap.size W W') : Ready w Y S9 S15 M B Keep K Tk L gf lb po oc WS W' :=
  ⟨blk_below hb h.y1, blk_below hb h.y2, blk_below hb h.s9, blk_below hb h.s15, h.ws.imp fun _ h => h.below hb, h.seq, h.seq.same _ _ h.keep (fun b hx => hb.block b (h.xs b hx)), fun b hx => Nat.lt_of_lt_of_le (h.xs b hx) hb.size, h.low.trans (hb.mono (by have h1 := h.low.size; have h2 := h.wy; omega)), h.wy⟩
/-- The slots that a turn needs. -/
structure GSlots (Y S9 S15 : Nat) (v19 : Value) (tm : Array Value) : Prop where
  size : tm.size = 176
  s3 : tm.getD 3 undef = .pointer (some ⟨Y + 1, 0, none⟩)
  s4 : tm.getD 4 undef = .pointer (some ⟨Y + 2, 0, none⟩)
  s9 : tm.getD 9 undef = .pointer (some ⟨S9, 0, none⟩)
  s15 : tm.getD 15 undef = .pointer (some ⟨S15, 0, none⟩)
  s19 : tm.getD 19 undef = v19
theorem garr_lit (tm : Array Value) (h : tm.size = 176) : tm = ((List.range 176).map (fun i => tm.getD i undef)).toArray := by
  refine Array.ext (by simp [h]) (fun i h1 h2 => ?_)
  simp [h1]
set_option maxRecDepth 100000 in
theorem gslots_lit {Y S9 S15 : Nat} {v19 : Value} {tm : Array Value} (h : GSlots Y S9 S15 v19 tm) : ∃ u : Nat → Value, tm = #[u 0, u 1, u 2, .pointer (some ⟨Y + 1, 0, none⟩), .pointer (some ⟨Y + 2, 0, none⟩), u 5, u 6, u 7, u 8, .pointer (some ⟨S9, 0, none⟩), u 10, u 11, u 12, u 13, u 14, .pointer (some ⟨S15, 0, none⟩), u 16, u 17, u 18, v19, u 20, u 21, u 22, u 23, u 24, u 25, u 26, u 27, u 28, u 29, u 30, u 31, u 32, u 33, u 34, u 35, u 36, u 37, u 38, u 39, u 40, u 41, u 42, u 43, u 44, u 45, u 46, u 47, u 48, u 49, u 50, u 51, u 52, u 53, u 54, u 55, u 56, u 57, u 58, u 59, u 60, u 61, u 62, u 63, u 64, u 65, u 66, u 67, u 68, u 69, u 70, u 71, u 72, u 73, u 74, u 75, u 76, u 77, u 78, u 79, u 80, u 81, u 82, u 83, u 84, u 85, u 86, u 87, u 88, u 89, u 90, u 91, u 92, u 93, u 94, u 95, u 96, u 97, u 98, u 99, u 100, u 101, u 102, u 103, u 104, u 105, u 106, u 107, u 108, u 109, u 110, u 111, u 112, u 113, u 114, u 115, u 116, u 117, u 118, u 119, u 120, u 121, u 122, u 123, u 124, u 125, u 126, u 127, u 128, u 129, u 130, u 131, u 132, u 133, u 134, u 135, u 136, u 137, u 138, u 139, u 140, u 141, u 142, u 143, u 144, u 145, u 146, u 147, u 148, u 149, u 150, u 151, u 152, u 153, u 154, u 155, u 156, u 157, u 158, u 159, u 160, u 161, u 162, u 163, u 164, u 165, u 166, u 167, u 168, u 169, u 170, u 171, u 172, u 173, u 174, u 175] := by
  refine ⟨fun i => tm.getD i undef, ?_⟩
  have e1 : (List.range 176).map (fun i => tm.getD i undef) = [tm.getD 0 undef, tm.getD 1 undef, tm.getD 2 undef, tm.getD 3 undef, tm.getD 4 undef, tm.getD 5 undef, tm.getD 6 undef, tm.getD 7 undef, tm.getD 8 undef, tm.getD 9 undef, tm.getD 10 undef, tm.getD 11 undef, tm.getD 12 undef, tm.getD 13 undef, tm.getD 14 undef, tm.getD 15 undef, tm.getD 16 undef, tm.getD 17 undef, tm.getD 18 undef, tm.getD 19 undef, tm.getD 20 undef, tm.getD 21 undef, tm.getD 22 undef, tm.getD 23 undef, tm.getD 24 undef, tm.getD 25 undef, tm.getD 26 undef, tm.getD 27 undef, tm.getD 28 undef, tm.getD 29 undef, tm.getD 30 undef, tm.getD 31 undef, tm.getD 32 undef, tm.getD 33 undef, tm.getD 34 undef, tm.getD 35 undef, tm.getD 36 undef, tm.getD 37 undef, tm.getD 38 undef, tm.getD 39 undef, tm.getD 40 undef, tm.getD 41 undef, tm.getD 42 undef, tm.getD 43 undef, tm.getD 44 undef, tm.getD 45 undef, tm.getD 46 undef, tm.getD 47 undef, tm.getD 48 undef, tm.getD 49 undef, tm.getD 50 undef, tm.getD 51 undef, tm.getD 52 undef, tm.getD 53 undef, tm.getD 54 undef, tm.getD 55 undef, tm.getD 56 undef, tm.getD 57 undef, tm.getD 58 undef, tm.getD 59 undef, tm.getD 60 undef, tm.getD 61 undef, tm.getD 62 undef, tm.getD 63 undef, tm.getD 64 undef, tm.getD 65 undef, tm.getD 66 undef, tm.getD 67 undef, tm.getD 68 undef, tm.getD 69 undef, tm.getD 70 undef, tm.getD 71 undef, tm.getD 72 undef, tm.getD 73 undef, tm.getD 74 undef, tm.getD 75 undef, tm.getD 76 undef, tm.getD 77 undef, tm.getD 78 undef, tm.getD 79 undef, tm.getD 80 undef, tm.getD 81 undef, tm.getD 82 undef, tm.getD 83 undef, tm.getD 84 undef, tm.getD 85 undef, tm.getD 86 undef, tm.getD 87 undef, tm.getD 88 undef, tm.getD 89 undef, tm.getD 90 undef, tm.getD 91 undef, tm.getD 92 undef, tm.getD 93 undef, tm.getD 94 undef, tm.getD 95 undef, tm.getD 96 undef, tm.getD 97 undef, tm.getD 98 undef, tm.getD 99 undef, tm.getD 100 undef, tm.getD 101 undef, tm.getD 102 undef, tm.getD 103 undef, tm.getD 104 undef, tm.getD 105 undef, tm.getD 106 undef, tm.getD 107 undef, tm.getD 108 undef, tm.getD 109 undef, tm.getD 110 undef, tm.getD 111 undef, tm.getD 112 undef, tm.getD 113 undef, tm.getD 114 undef, tm.getD 115 undef, tm.getD 116 undef, tm.getD 117 undef, tm.getD 118 undef, tm.getD 119 undef, tm.getD 120 undef, tm.getD 121 undef, tm.getD 122 undef, tm.getD 123 undef, tm.getD 124 undef, tm.getD 125 undef, tm.getD 126 undef, tm.getD 127 undef, tm.getD 128 undef, tm.getD 129 undef, tm.getD 130 undef, tm.getD 131 undef, tm.getD 132 undef, tm.getD 133 undef, tm.getD 134 undef, tm.getD 135 undef, tm.getD 136 undef, tm.getD 137 undef, tm.getD 138 undef, tm.getD 139 undef, tm.getD 140 undef, tm.getD 141 undef, tm.getD 142 undef, tm.getD 143 undef, tm.getD 144 undef, tm.getD 145 undef, tm.getD 146 undef, tm.getD 147 undef, tm.getD 148 undef, tm.getD 149 undef, tm.getD 150 undef, tm.getD 151 undef, tm.getD 152 undef, tm.getD 153 undef, tm.getD 154 undef, tm.getD 155 undef, tm.getD 156 undef, tm.getD 157 undef, tm.getD 158 undef, tm.getD 159 undef, tm.getD 160 undef, tm.getD 161 undef, tm.getD 162 undef, tm.getD 163 undef, tm.getD 164 undef, tm.getD 165 undef, tm.getD 166 undef, tm.getD 167 undef, tm.getD 168 undef, tm.getD 169 undef, tm.getD 170 undef, tm.getD 171 undef, tm.getD 172 undef, tm.getD 173 undef, tm.getD 174 undef, tm.getD 175 undef] := rfl
  have e2 := garr_lit tm h.size
  rw [e1, h.s3, h.s4, h.s9, h.s15, h.s19] at e2
  exact e2
/-- The blocks for deferred calls, as the turns go. -/
def DSt (lo t : Nat) (ds : List Deferred) (T : Nat) (W : World) : Prop := (t = 0 ∧ ds = []) ∨ (t = 1 ∧ ∃ D1, lo ≤ D1 ∧ D1 < T ∧ ds = [{ target := .collected D1, args := #[] }] ∧ W.heap[D1]? = some (.deferred (some []))) ∨
  (t = 2 ∧ ∃ D1 D2, lo ≤ D1 ∧ D1 < D2 ∧ D2 < T ∧ ds = [{ target := .collected D2, args := #[] }, { target := .collected D1, args := #[] }] ∧ W.heap[D1]? = some (.deferred (some [])) ∧ W.heap[D2]? = some (.deferred (some [])))
theorem DSt.map {lo t : Nat} {ds : List Deferred} {T : Nat} {W W' : World} (h : DSt lo t ds T W) (hk : ∀ (b : Nat) (o : Obj), b < T → o = .deferred (some []) → W.heap[b]? = some o → W'.heap[b]? = some o) : DSt lo t ds T W' := by
  rcases h with h | ⟨h1, D1, h0, h2, h3, h4⟩ | ⟨h1, D1, D2, h0, h2, h3, h4, h5, h6⟩
  · exact .inl h
  · exact .inr (.inl ⟨h1, D1, h0, h2, h3, hk _ _ h2 rfl h4⟩)
  · exact .inr (.inr ⟨h1, D1, D2, h0, h2, h3, h4, hk _ _ (by omega) rfl h5, hk _ _ h3 rfl h6⟩)
theorem DSt.below {lo t : Nat} {ds : List Deferred} {T : Nat} {W W' : World} (h : DSt lo t ds T W) (hb : Below W.heap.size W W') : DSt lo t ds T W' := h.map (fun _ _ _ _ hh => blk_below hb hh)
/-- A turn more. -/
theorem DSt.next {lo t : Nat} {ds : List Deferred} {T D T' : Nat} {W : World} (h : DSt lo t ds T W) (ht : t < 2) (hlo : lo ≤ D) (hT : T < D) (hD : D < T') (hw : W.heap[D]? = some (.deferred (some []))) : DSt lo (t + 1) ({ target := .collected D, args := #[] } :: ds) T' W := by
  rcases h with ⟨rfl, rfl⟩ | ⟨rfl, D1, h0, h2, rfl, h4⟩ | ⟨rfl, _⟩
  · exact .inr (.inl ⟨rfl, D, hlo, hD, rfl, hw⟩)
  · exact .inr (.inr ⟨rfl, D1, D, h0, by omega, hD, rfl, h4, hw⟩)
  · omega
/-- What a turn keeps, round by round: the box of n and all that stands ahead of the range's record. -/
structure TK (W13 : World) (T Nn D t : Nat) (ds : List Deferred) (kz : Int) (W : World) : Prop where
  low : Below W13.heap.size W13 W
  tb : W.heap[T]? = some (.cells #[.int .i64 (t : Int)] 3 (0, 0))
  nb : W.heap[Nn]? = some (.cells #[.int .i64 kz] 3 (0, 0))
  db : W.heap[D]? = some (.deferred (some []))
  ds : DSt W13.heap.size t ds T W
  sz : D + 1 < W.heap.size
  o1 : W13.heap.size ≤ T
  o2 : T < Nn
  o3 : Nn < D
theorem TK.fr {W13 : World} {T Nn D t : Nat} {ds : List Deferred} {kz : Int} {W W' : World} {A : Nat → Prop} (h : TK W13 T Nn D t ds kz W) (hf : Fr A W W') (hA : ∀ b, A b → D < b) : TK W13 T Nn D t ds kz W' := by
  have h1 := h.o1; have h2 := h.o2; have h3 := h.o3; have h4 := h.sz; have h5 := hf.low.size
  have kk : ∀ (bb : Nat) (o : Obj), bb ≤ D → W.heap[bb]? = some o → W'.heap[bb]? = some o := fun bb o hle hb => (hf.same _ (Array.getElem?_eq_some_iff.1 hb).1 (fun hx => by have := hA _ hx; omega)).trans hb
  exact ⟨h.low.trans (hf.below (n := W13.heap.size) (fun bb hb => by have := hA _ hb; omega) (by omega)), kk _ _ (by omega) h.tb, kk _ _ (by omega) h.nb, kk _ _ (by omega) h.db, h.ds.map (fun b o hb _ ho => kk b o (by omega) ho), by omega, h1, h2, h3⟩
theorem TK.set {W13 : World} {T Nn D t : Nat} {ds : List Deferred} {kz : Int} {W : World} (h : TK W13 T Nn D t ds kz W) (y : Int) : TK W13 T Nn D t ds y (W.setCell ⟨Nn, 0, none⟩ (.int .i64 y)) := by
  have h1 := h.o1; have h2 := h.o2; have h3 := h.o3; have h4 := h.sz
  have hf := fr_set W Nn 0 (.int .i64 y)
  have h5 := hf.low.size
  have kk : ∀ (bb : Nat) (o : Obj), bb ≠ Nn → W.heap[bb]? = some o → (W.setCell ⟨Nn, 0, none⟩ (.int .i64 y)).heap[bb]? = some o := fun bb o hle hb => (set_far hle _).trans hb
  exact ⟨h.low.trans (hf.below (n := W13.heap.size) (fun bb hb => by omega) (by omega)), kk _ _ (by omega) h.tb, box_set h.nb, kk _ _ (by omega) h.db, h.ds.map (fun b o hb _ ho => kk b o (by omega) ho), by omega, h1, h2, h3⟩
/-- A round's end: at has grown, the record is laid back. -/
theorem TK.ends {W13 : World} {T Nn D t : Nat} {ds : List Deferred} {kz : Int} {W W5 : World} {o1 : Obj} {bs : Nat} (h : TK W13 T Nn D t ds kz W5) (hl : W5.heap[D + 1]? = some o1) (hs : ∀ b, D + 2 ≤ b → b < bs → W5.heap[b]? = W.heap[b]?) (hz : W.heap.size ≤ W5.heap.size) (y : Int) (W6 : World) (h6 : W6 = W5.setCell ⟨Nn, 0, none⟩ (.int .i64 y)) (o : Obj) :
    W6.heap[D + 1]? = some o1 ∧ (∀ b, D + 2 ≤ b → b < bs → (W6.putObj (D + 1) o).heap[b]? = W.heap[b]?) ∧ W.heap.size ≤ (W6.putObj (D + 1) o).heap.size ∧ TK W13 T Nn D t ds y (W6.putObj (D + 1) o) ∧ (W6.putObj (D + 1) o).heap[D + 1]? = some o := by
  have hk := h.set y
  rw [← h6] at hk
  have h3 := h.o3
  have far : ∀ b, b ≠ Nn → W6.heap[b]? = W5.heap[b]? := fun b hb => by rw [h6]; exact set_far hb _
  have hz6 : W5.heap.size ≤ W6.heap.size := by rw [h6]; exact (fr_set W5 Nn 0 _).low.size
  exact ⟨(far _ (by omega)).trans hl, fun b hb1 hb2 => (World.putObj_heap_other (by omega)).trans ((far _ (by omega)).trans (hs b hb1 hb2)), Nat.le_trans hz (Nat.le_trans hz6 (fr_one (D + 1) o).low.size), hk.fr (fr_one (D + 1) o) (fun b e => by omega), World.putObj_heap_same hk.sz⟩
/-- A turn's end. -/
theorem TK.turn {W13 : World} {T Nn D t : Nat} {ds : List Deferred} {kz : Int} {W : World} (h : TK W13 T Nn D t ds kz W) (ht : t < 2) (W' : World) (hW : W' = W.alloc (.cells #[.int .i64 ((t : Int) + 1)] 3)) :
    Below W13.heap.size W13 W' ∧ W'.heap[W.heap.size]? = some (.cells #[.int .i64 ((t + 1 : Nat) : Int)] 3 (0, 0)) ∧ DSt W13.heap.size (t + 1) ({ target := .collected D, args := #[] } :: ds) W.heap.size W' := by
  have hb := alloc_below0 W (.cells #[.int .i64 ((t : Int) + 1)] 3)
  have hn := World.alloc_heap_new W (.cells #[.int .i64 ((t : Int) + 1)] 3)
  rw [← hW] at hb hn
  have h1 := h.o1; have h2 := h.o2; have h3 := h.o3; have h4 := h.sz
  refine ⟨h.low.trans (hb.mono (by omega)), ?_, (h.ds.below hb).next ht (by omega) (by omega) (by omega) (blk_below hb h.db)⟩
  rw [show ((t + 1 : Nat) : Int) = (t : Int) + 1 by omega]
  exact hn
end Go.Proofs.YtdpdpjfnanjmgaaDoor
