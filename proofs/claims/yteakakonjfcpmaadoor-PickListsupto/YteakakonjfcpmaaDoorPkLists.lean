/- The walk of PickLists. -/
import Derived.Test.YteakakonjfcpmaaDoorPkSeq
import Derived.Test.YteakakonjfcpmaaDoorPkNames
namespace Go.Proofs.YteakakonjfcpmaaDoor
open Go.RowKit Go.Shelf

attribute [local go_sem] Oper.semAt_some

/-- What List answers, as a list. -/
def listL (rs : List (List Int)) (ws : List Int) (most : Int) : List Nat := if listE rs ws most = 0 then fitL rs ws else []
theorem list_form {rs : List (List Int)} {ws : List Int} {most : Int} {w : World} {e : Ending} {w' : World} (h : ListEnd rs ws most w e w') :
    ∃ p c, e = .returned (.tuple #[.slice p (listL rs ws most).length c, .int .i64 (listE rs ws most)]) ∧ MsAt w' p (mInt (listL rs ws most)) ∧ Below w.heap.size w w' := by
  obtain ⟨hb, ⟨h2, rfl⟩ | ⟨h2, v, rfl, hz⟩⟩ := h
  · have e1 : listL rs ws most = [] := by unfold listL; rw [if_neg h2]
    rw [e1]
    exact ⟨none, 0, rfl, ⟨Nat.zero_le _, fun i hi => absurd hi (Nat.not_lt_zero i)⟩, hb⟩
  · have e1 : listL rs ws most = fitL rs ws := by unfold listL; rw [if_pos h2]
    obtain ⟨p, c, rfl⟩ := hz.form
    rw [e1, h2]
    refine ⟨p, c, by rw [mAll_len], hz.masks ?_, hb⟩
    rcases hz with ⟨_, h9⟩ | ⟨g, cap, h1, _, h3, h4, _⟩
    · have : (fitL rs ws).length = 0 := by rw [← mAll_len, h9]; rfl
      omega
    · rw [mAll_len] at h3; omega
/-- What may be gone through, masks, and what they need. -/
structure Ready (w : World) (Y S15 S17 : Nat) (most : Int) (X : Nat → Prop) (Keep : World → Prop) (L : List Nat) (gf : Nat) (lb : Array Value) (pm : Option Addr) (cm : Nat) (W : World) : Prop where
  y0 : W.heap[Y]? = some (.cells #[.int .i64 most] 3 (0, 0))
  y1 : W.heap[Y + 1]? = some (.cells #[.bool false] 4 (0, 0))
  s15 : W.heap[S15]? = some (.cells #[.func (.func gf) #[] lb] 44 (0, 0))
  s17 : W.heap[S17]? = some (.cells #[.slice pm L.length cm] 23 (0, 0))
  ms : MsAt W pm (mInt L)
  seq : SeqOk X Keep L gf lb
  keep : Keep W
  xs : ∀ b, X b → b < W.heap.size
  low : Below Y w W
  wy : w.heap.size = Y
theorem Ready.below {w : World} {Y S15 S17 : Nat} {most : Int} {X : Nat → Prop} {Keep : World → Prop} {L : List Nat} {gf : Nat} {lb : Array Value} {pm : Option Addr} {cm : Nat} {W W' : World} (h : Ready w Y S15 S17 most X Keep L gf lb pm cm W) (hb : Below W.heap.size W W') : Ready w Y S15 S17 most X Keep L gf lb pm cm W' :=
  ⟨below_blk hb h.y0, below_blk hb h.y1, below_blk hb h.s15, below_blk hb h.s17, h.ms.below hb, h.seq, h.seq.same _ _ h.keep (fun b hx => hb.block b (h.xs b hx)), fun b hx => Nat.lt_of_lt_of_le (h.xs b hx) hb.size, h.low.trans (hb.mono (by have h1 := h.low.size; have h2 := h.wy; omega)), h.wy⟩
theorem lists_start (w : World) (most : Int) (A : World) (hA : A = (w.alloc (.cells #[.int .i64 most] 3)).alloc (.cells #[.bool false] 4)) :
    Below w.heap.size w A ∧ A.heap[w.heap.size]? = some (.cells #[.int .i64 most] 3 (0, 0)) ∧ A.heap[w.heap.size + 1]? = some (.cells #[.bool false] 4 (0, 0)) ∧ A.heap.size = w.heap.size + 2 := by
  have b1 := alloc_below0 w (.cells #[.int .i64 most] 3)
  have n1 := World.alloc_heap_new w (.cells #[.int .i64 most] 3)
  have s1 := World.size_alloc w (.cells #[.int .i64 most] 3)
  generalize w.alloc (.cells #[.int .i64 most] 3) = A1 at b1 n1 s1 hA
  have b2 := alloc_below0 A1 (.cells #[.bool false] 4)
  have n2 := World.alloc_heap_new A1 (.cells #[.bool false] 4)
  have s2 := World.size_alloc A1 (.cells #[.bool false] 4)
  rw [← hA] at b2 n2 s2
  refine ⟨b1.trans (b2.mono (by omega)), (b2.block _ (by omega)).trans n1, by rw [← s1]; exact n2, by omega⟩
/-- All's function value, whichever it is. -/
theorem all_seq {rs : List (List Int)} {ws : List Int} {w : World} {e : Ending} {w' : World} (h : AllEnd rs ws w e w') (hT : Tab w') : ∃ gf lb X Keep, e = .returned (.func (.func gf) #[] lb) ∧ SeqOk X Keep (if pkE rs ws = 0 then fitL rs ws else []) gf lb ∧ Keep w' ∧ (∀ b, X b → b = 0 ∨ (w.heap.size ≤ b ∧ b < w'.heap.size)) ∧ Below w.heap.size w w' := by
  obtain ⟨hb, ⟨h0, rfl⟩ | ⟨h0, rfl, pr, cr, pw, cw, hat⟩⟩ := h
  · rw [if_neg h0]
    exact ⟨37, #[], _, _, rfl, seq_none, trivial, fun b hb => hb.elim, hb⟩
  · rw [if_pos h0]
    exact ⟨38, _, _, _, rfl, seq_all (pkE_ok h0), ⟨hat, hT⟩, fun b hb => hb, hb⟩
theorem CRow.set {W : World} {base g : Nat} {d : Nat} {ns : List Int} (h : CRow W base (some ⟨g, 0, none⟩) d ns) (i : Nat) (y : Int) : CRow (W.setCell ⟨g, i, none⟩ (.int .i64 y)) base (some ⟨g, 0, none⟩) d (ns.set i y) := by
  rcases h.2 with ⟨h1, _⟩ | ⟨g', cap, cur, h1, h2, h3, h4, h5, h6, h7⟩
  · cases h1
  · injection h1 with e1 e2 e3
    injection e1 with e1
    injection e1 with e1
    subst e1 e3
    refine ⟨by simp [cAll], .inr ⟨g, d, _, by simp, h2, block_set h3 _, by simpa using h4, h5, by simpa using h6, ?_⟩⟩
    rw [List.length_set]
    have h8 : cur.toList.take (ns.length * 1) = cAll ns := h7
    rw [Array.toList_setIfInBounds]
    unfold cAll at h8 ⊢
    rw [List.map_set, ← h8, List.take_set]
theorem CRow.free {W : World} {base g : Nat} {d : Nat} {ns : List Int} (h : CRow W base (some ⟨g, 0, none⟩) d ns) (i : Nat) : W.frozen? ⟨g, i, none⟩ = false ∧ base ≤ g ∧ g < W.heap.size := by
  rcases h.2 with ⟨h1, _⟩ | ⟨g', cap, cur, h1, h2, h3, _⟩
  · cases h1
  · injection h1 with e1 e2 e3
    injection e1 with e1
    injection e1 with e1
    subst e1
    exact ⟨free_box h3, h2, (Array.getElem?_eq_some_iff.1 h3).1⟩
/-- The slots that a turn needs. -/
structure Slots (Y S15 S17 T : Nat) (tm : Array Value) : Prop where
  size : tm.size = 140
  s5 : tm.getD 5 undef = .pointer (some ⟨Y, 0, none⟩)
  s6 : tm.getD 6 undef = .pointer (some ⟨Y + 1, 0, none⟩)
  s15 : tm.getD 15 undef = .pointer (some ⟨S15, 0, none⟩)
  s17 : tm.getD 17 undef = .pointer (some ⟨S17, 0, none⟩)
  s18 : tm.getD 18 undef = .pointer (some ⟨T, 0, none⟩)
theorem arr_lit (tm : Array Value) (h : tm.size = 140) : tm = ((List.range 140).map (fun i => tm.getD i undef)).toArray := by
  refine Array.ext (by simp [h]) (fun i h1 h2 => ?_)
  simp [h1]
set_option maxRecDepth 100000 in
theorem slots_lit {Y S15 S17 T : Nat} {tm : Array Value} (h : Slots Y S15 S17 T tm) : ∃ u : Nat → Value, tm = #[u 0, u 1, u 2, u 3, u 4, .pointer (some ⟨Y, 0, none⟩), .pointer (some ⟨Y + 1, 0, none⟩), u 7, u 8, u 9, u 10, u 11, u 12, u 13, u 14, .pointer (some ⟨S15, 0, none⟩), u 16, .pointer (some ⟨S17, 0, none⟩), .pointer (some ⟨T, 0, none⟩), u 19, u 20, u 21, u 22, u 23, u 24, u 25, u 26, u 27, u 28, u 29, u 30, u 31, u 32, u 33, u 34, u 35, u 36, u 37, u 38, u 39, u 40, u 41, u 42, u 43, u 44, u 45, u 46, u 47, u 48, u 49, u 50, u 51, u 52, u 53, u 54, u 55, u 56, u 57, u 58, u 59, u 60, u 61, u 62, u 63, u 64, u 65, u 66, u 67, u 68, u 69, u 70, u 71, u 72, u 73, u 74, u 75, u 76, u 77, u 78, u 79, u 80, u 81, u 82, u 83, u 84, u 85, u 86, u 87, u 88, u 89, u 90, u 91, u 92, u 93, u 94, u 95, u 96, u 97, u 98, u 99, u 100, u 101, u 102, u 103, u 104, u 105, u 106, u 107, u 108, u 109, u 110, u 111, u 112, u 113, u 114, u 115, u 116, u 117, u 118, u 119, u 120, u 121, u 122, u 123, u 124, u 125, u 126, u 127, u 128, u 129, u 130, u 131, u 132, u 133, u 134, u 135, u 136, u 137, u 138, u 139] := by
  refine ⟨fun i => tm.getD i undef, ?_⟩
  have e1 : (List.range 140).map (fun i => tm.getD i undef) = [tm.getD 0 undef, tm.getD 1 undef, tm.getD 2 undef, tm.getD 3 undef, tm.getD 4 undef, tm.getD 5 undef, tm.getD 6 undef, tm.getD 7 undef, tm.getD 8 undef, tm.getD 9 undef, tm.getD 10 undef, tm.getD 11 undef, tm.getD 12 undef, tm.getD 13 undef, tm.getD 14 undef, tm.getD 15 undef, tm.getD 16 undef, tm.getD 17 undef, tm.getD 18 undef, tm.getD 19 undef, tm.getD 20 undef, tm.getD 21 undef, tm.getD 22 undef, tm.getD 23 undef, tm.getD 24 undef, tm.getD 25 undef, tm.getD 26 undef, tm.getD 27 undef, tm.getD 28 undef, tm.getD 29 undef, tm.getD 30 undef, tm.getD 31 undef, tm.getD 32 undef, tm.getD 33 undef, tm.getD 34 undef, tm.getD 35 undef, tm.getD 36 undef, tm.getD 37 undef, tm.getD 38 undef, tm.getD 39 undef, tm.getD 40 undef, tm.getD 41 undef, tm.getD 42 undef, tm.getD 43 undef, tm.getD 44 undef, tm.getD 45 undef, tm.getD 46 undef, tm.getD 47 undef, tm.getD 48 undef, tm.getD 49 undef, tm.getD 50 undef, tm.getD 51 undef, tm.getD 52 undef, tm.getD 53 undef, tm.getD 54 undef, tm.getD 55 undef, tm.getD 56 undef, tm.getD 57 undef, tm.getD 58 undef, tm.getD 59 undef, tm.getD 60 undef, tm.getD 61 undef, tm.getD 62 undef, tm.getD 63 undef, tm.getD 64 undef, tm.getD 65 undef, tm.getD 66 undef, tm.getD 67 undef, tm.getD 68 undef, tm.getD 69 undef, tm.getD 70 undef, tm.getD 71 undef, tm.getD 72 undef, tm.getD 73 undef, tm.getD 74 undef, tm.getD 75 undef, tm.getD 76 undef, tm.getD 77 undef, tm.getD 78 undef, tm.getD 79 undef, tm.getD 80 undef, tm.getD 81 undef, tm.getD 82 undef, tm.getD 83 undef, tm.getD 84 undef, tm.getD 85 undef, tm.getD 86 undef, tm.getD 87 undef, tm.getD 88 undef, tm.getD 89 undef, tm.getD 90 undef, tm.getD 91 undef, tm.getD 92 undef, tm.getD 93 undef, tm.getD 94 undef, tm.getD 95 undef, tm.getD 96 undef, tm.getD 97 undef, tm.getD 98 undef, tm.getD 99 undef, tm.getD 100 undef, tm.getD 101 undef, tm.getD 102 undef, tm.getD 103 undef, tm.getD 104 undef, tm.getD 105 undef, tm.getD 106 undef, tm.getD 107 undef, tm.getD 108 undef, tm.getD 109 undef, tm.getD 110 undef, tm.getD 111 undef, tm.getD 112 undef, tm.getD 113 undef, tm.getD 114 undef, tm.getD 115 undef, tm.getD 116 undef, tm.getD 117 undef, tm.getD 118 undef, tm.getD 119 undef, tm.getD 120 undef, tm.getD 121 undef, tm.getD 122 undef, tm.getD 123 undef, tm.getD 124 undef, tm.getD 125 undef, tm.getD 126 undef, tm.getD 127 undef, tm.getD 128 undef, tm.getD 129 undef, tm.getD 130 undef, tm.getD 131 undef, tm.getD 132 undef, tm.getD 133 undef, tm.getD 134 undef, tm.getD 135 undef, tm.getD 136 undef, tm.getD 137 undef, tm.getD 138 undef, tm.getD 139 undef] := rfl
  have e2 := arr_lit tm h.size
  rw [e1, h.s5, h.s6, h.s15, h.s17, h.s18] at e2
  exact e2
/-- The blocks for deferred calls, as the turns go. -/
def DSt (lo t : Nat) (ds : List Deferred) (T : Nat) (W : World) : Prop := (t = 0 ∧ ds = []) ∨ (t = 1 ∧ ∃ D1, lo ≤ D1 ∧ D1 < T ∧ ds = [{ target := .collected D1, args := #[] }] ∧ W.heap[D1]? = some (.deferred (some []))) ∨
  (t = 2 ∧ ∃ D1 D2, lo ≤ D1 ∧ D1 < D2 ∧ D2 < T ∧ ds = [{ target := .collected D2, args := #[] }, { target := .collected D1, args := #[] }] ∧ W.heap[D1]? = some (.deferred (some [])) ∧ W.heap[D2]? = some (.deferred (some [])))
theorem DSt.map {lo t : Nat} {ds : List Deferred} {T : Nat} {W W' : World} (h : DSt lo t ds T W) (hk : ∀ (b : Nat) (o : Obj), b < T → o = .deferred (some []) → W.heap[b]? = some o → W'.heap[b]? = some o) : DSt lo t ds T W' := by
  rcases h with h | ⟨h1, D1, h0, h2, h3, h4⟩ | ⟨h1, D1, D2, h0, h2, h3, h4, h5, h6⟩
  · exact .inl h
  · exact .inr (.inl ⟨h1, D1, h0, h2, h3, hk _ _ h2 rfl h4⟩)
  · exact .inr (.inr ⟨h1, D1, D2, h0, h2, h3, h4, hk _ _ (by omega) rfl h5, hk _ _ h3 rfl h6⟩)
theorem DSt.below {lo t : Nat} {ds : List Deferred} {T : Nat} {W W' : World} (h : DSt lo t ds T W) (hb : Below W.heap.size W W') : DSt lo t ds T W' := h.map (fun _ _ _ _ hh => below_blk hb hh)
/-- A turn more. -/
theorem DSt.next {lo t : Nat} {ds : List Deferred} {T D T' : Nat} {W : World} (h : DSt lo t ds T W) (ht : t < 2) (hlo : lo ≤ D) (hT : T < D) (hD : D < T') (hw : W.heap[D]? = some (.deferred (some []))) : DSt lo (t + 1) ({ target := .collected D, args := #[] } :: ds) T' W := by
  rcases h with ⟨rfl, rfl⟩ | ⟨rfl, D1, h0, h2, rfl, h4⟩ | ⟨rfl, _⟩
  · exact .inr (.inl ⟨rfl, D, hlo, hD, rfl, hw⟩)
  · exact .inr (.inr ⟨rfl, D1, D, h0, by omega, hD, rfl, h4, hw⟩)
  · omega
/-- What a turn keeps, round by round: the box of n and all that stands ahead of the range's record. -/
structure TK (W13 : World) (T Nn D t : Nat) (ds : List Deferred) (kz : Int) (W : World) : Prop where
  low : Below W13.heap.size W13 W
  tb : W.heap[T]? = some (.cells #[.int .i64 (t : Int)] 3 (0, 0))
  nb : W.heap[Nn]? = some (.cells #[.int .i64 kz] 3 (0, 0))
  db : W.heap[D]? = some (.deferred (some []))
  ds : DSt W13.heap.size t ds T W
  sz : D + 1 < W.heap.size
  o1 : W13.heap.size ≤ T
  o2 : T < Nn
  o3 : Nn < D
theorem TK.fr {W13 : World} {T Nn D t : Nat} {ds : List Deferred} {kz : Int} {W W' : World} {A : Nat → Prop} (h : TK W13 T Nn D t ds kz W) (hf : Fr A W W') (hA : ∀ b, A b → D < b) : TK W13 T Nn D t ds kz W' := by
  have h1 := h.o1; have h2 := h.o2; have h3 := h.o3; have h4 := h.sz; have h5 := hf.low.size
  have kk : ∀ (bb : Nat) (o : Obj), bb ≤ D → W.heap[bb]? = some o → W'.heap[bb]? = some o := fun bb o hle hb => (hf.same _ (Array.getElem?_eq_some_iff.1 hb).1 (fun hx => by have := hA _ hx; omega)).trans hb
  exact ⟨h.low.trans (hf.below (n := W13.heap.size) (fun bb hb => by have := hA _ hb; omega) (by omega)), kk _ _ (by omega) h.tb, kk _ _ (by omega) h.nb, kk _ _ (by omega) h.db, h.ds.map (fun b o hb _ ho => kk b o (by omega) ho), by omega, h1, h2, h3⟩
theorem TK.set {W13 : World} {T Nn D t : Nat} {ds : List Deferred} {kz : Int} {W : World} (h : TK W13 T Nn D t ds kz W) (y : Int) : TK W13 T Nn D t ds y (W.setCell ⟨Nn, 0, none⟩ (.int .i64 y)) := by
  have h1 := h.o1; have h2 := h.o2; have h3 := h.o3; have h4 := h.sz
  have hf := fr_set W Nn 0 (.int .i64 y)
  have h5 := hf.low.size
  have kk : ∀ (bb : Nat) (o : Obj), bb ≠ Nn → W.heap[bb]? = some o → (W.setCell ⟨Nn, 0, none⟩ (.int .i64 y)).heap[bb]? = some o := fun bb o hle hb => (set_far hle _).trans hb
  exact ⟨h.low.trans (hf.below (n := W13.heap.size) (fun bb hb => by omega) (by omega)), kk _ _ (by omega) h.tb, set_box h.nb, kk _ _ (by omega) h.db, h.ds.map (fun b o hb _ ho => kk b o (by omega) ho), by omega, h1, h2, h3⟩
/-- A round's end: n has grown, the record is laid back. -/
theorem TK.ends {W13 : World} {T Nn D t : Nat} {ds : List Deferred} {kz : Int} {W W5 : World} {o1 : Obj} (h : TK W13 T Nn D t ds kz W5) (hl : W5.heap[D + 1]? = some o1) (hs : ∀ b, D + 2 ≤ b → b < D + 6 → W5.heap[b]? = W.heap[b]?) (y : Int) (W6 : World) (h6 : W6 = W5.setCell ⟨Nn, 0, none⟩ (.int .i64 y)) (o : Obj) :
    W6.heap[D + 1]? = some o1 ∧ (∀ b, D + 2 ≤ b → b < D + 6 → (W6.putObj (D + 1) o).heap[b]? = W.heap[b]?) ∧ TK W13 T Nn D t ds y (W6.putObj (D + 1) o) ∧ (W6.putObj (D + 1) o).heap[D + 1]? = some o := by
  have hk := h.set y
  rw [← h6] at hk
  have h3 := h.o3
  have far : ∀ b, b ≠ Nn → W6.heap[b]? = W5.heap[b]? := fun b hb => by rw [h6]; exact set_far hb _
  exact ⟨(far _ (by omega)).trans hl, fun b hb1 hb2 => (World.putObj_heap_other (by omega)).trans ((far _ (by omega)).trans (hs b hb1 hb2)), hk.fr (fr_one (D + 1) o) (fun b e => by omega), World.putObj_heap_same hk.sz⟩
/-- A turn's end. -/
theorem TK.turn {W13 : World} {T Nn D t : Nat} {ds : List Deferred} {kz : Int} {W : World} (h : TK W13 T Nn D t ds kz W) (ht : t < 2) (W' : World) (hW : W' = W.alloc (.cells #[.int .i64 ((t : Int) + 1)] 3)) :
    Below W13.heap.size W13 W' ∧ W'.heap[W.heap.size]? = some (.cells #[.int .i64 ((t + 1 : Nat) : Int)] 3 (0, 0)) ∧ DSt W13.heap.size (t + 1) ({ target := .collected D, args := #[] } :: ds) W.heap.size W' := by
  have hb := alloc_below0 W (.cells #[.int .i64 ((t : Int) + 1)] 3)
  have hn := World.alloc_heap_new W (.cells #[.int .i64 ((t : Int) + 1)] 3)
  rw [← hW] at hb hn
  have h1 := h.o1; have h2 := h.o2; have h3 := h.o3; have h4 := h.sz
  refine ⟨h.low.trans (hb.mono (by omega)), ?_, (h.ds.below hb).next ht (by omega) (by omega) (by omega) (below_blk hb h.db)⟩
  rw [show ((t + 1 : Nat) : Int) = (t : Int) + 1 by omega]
  exact hn
theorem load_bool {W : World} {B : Nat} {v : Bool} {t : TypeId} (h : W.heap[B]? = some (.cells #[.bool v] t (0, 0))) : (loadVar 4 ⟨B, 0, none⟩).run Tryd.prog W = .ok (.bool v) W := by
  have c0 : W.cell? ⟨B, 0, none⟩ = some (.bool v) := cell_box h rfl
  simp [go_sem, loadVar, c0]
theorem results_c1 {fn : Func} {tmps : Array Value} {W : World} {a : Addr} {x : Value} (h : fn.results = #[.cell 6 4]) (ha : tmps.getD 6 undef = .pointer (some a)) (la : (loadVar 4 a).run Tryd.prog W = .ok x W) : (results fn tmps).run Tryd.prog W = .ok x W := by
  have ha' : tmps[6]?.getD undef = .pointer (some a) := by simpa using ha
  simp [results, h, ha', asAddr, la]
set_option maxRecDepth 100000 in
set_option maxHeartbeats 16000000 in
theorem pickLists_walk (a : Option Addr) (c : Nat) (rs : List (List Int)) (b : Option Addr) (d : Nat) (ws : List Int) (most : Int) (w : World) (hR : RowsAt w a rs) (hN : ∀ i (hi : i < rs.length), ∃ b o q c, a = some ⟨b, o, none⟩ ∧ w.cell? ⟨b, o + i, none⟩ = some (.slice q rs[i].length c) ∧ IntsAt w q rs[i] ∧ (q = none → c = 0)) (hn : rs.length ≤ 1048576) (hr : ∀ r ∈ rs, r.length ≤ 1048576) (hW : IntsAt w b ws) (hWn : ws.length ≤ 1048576) (hbd : b = none → d = 0) (hT : Tab w) :
    Calls Tryd.prog 5 #[.slice a rs.length c, .slice b ws.length d, .int .i64 most] w fun e w' => e = .returned (.bool true) ∧ Below w.heap.size w w' := by
  refine (callsIn_wide (n := 20)).1 ?_
  have hmax : maxLen = 9223372036854775807 := rfl
  have HR := hid hR; have HN := hid hN; have HRR := hid hr; have HW := hid hW; have HT := hid hT; have HBD := hid hbd
  have NNb : ∀ W, Below w.heap.size w W → ∀ i (hi : i < rs.length), ∃ b o q c, a = some ⟨b, o, none⟩ ∧ W.cell? ⟨b, o + i, none⟩ = some (.slice q rs[i].length c) ∧ IntsAt W q rs[i] ∧ (q = none → c = 0) := fun W hb i hi => by
    obtain ⟨b, o, q, c, e1, e2, e3, e4⟩ := hN i hi
    exact ⟨b, o, q, c, e1, below_cell hb _ _ e2, e3.below hb, e4⟩
  have HNB := hid NNb
  have HST := hid (lists_start w most _ rfl)
  clear hR hN hr hW hT NNb hbd
  refine callsIn_of_wp_marks Tryd.func5 rfl trivial ?_ rfl
  simp only [Tryd.ntmps5, List.size_toArray, List.length_cons, List.length_nil, Nat.reduceAdd, Nat.reduceSub, Array.replicate_succ, Array.replicate_zero, List.push_toArray, List.append_toArray, List.nil_append, List.cons_append]
  gi_wp2_with fail
  generalize (w.alloc (.cells #[.int .i64 most] 3)).alloc (.cells #[.bool false] 4) = A at HST ⊢
  obtain ⟨bA, nA0, nA1, sA⟩ := HST.out
  have HBA := hid bA; have HA0 := hid nA0; have HA1 := hid nA1; have HSA := hid sA
  clear bA nA0 nA1 sA HST
  refine ⟨trivial, ?_⟩
  refine (callsIn_wide.2 (lives_any A (HT.out.below HBA.out))).mono ?_
  rintro e w1 ⟨rfl, hb1⟩
  have HB1 := hid (HBA.out.trans (hb1.mono HBA.out.size)); have HX1 := hid hb1
  clear hb1
  gi_wp2_with fail
  refine ⟨trivial, ?_⟩
  refine (callsIn_wide.2 (lent_any a c rs w1 (HNB.out w1 HB1.out) hn HRR.out)).mono ?_
  rintro e w2 ⟨g, rfl, hl2, hb2⟩
  have HB2 := hid (HB1.out.trans (hb2.mono HB1.out.size)); have HX2 := hid (HX1.out.trans (hb2.mono HX1.out.size)); have HL2 := hid hl2
  have HS12 : Hid (w1.heap.size ≤ w2.heap.size ∧ A.heap.size ≤ w1.heap.size) := hid ⟨hb2.size, HX1.out.size⟩
  clear hl2 hb2 HB1 HX1
  have q5 := cell_box (below_blk HX2.out HA0.out) (i := 0) rfl
  gi_wp2_with fail
  refine ⟨trivial, ?_⟩
  refine (callsIn_wide.2 (list_any (some ⟨g, 0, none⟩) (rs.length + 1) rs b d ws most w2 HL2.out.rows (HW.out.below HB2.out) (HT.out.below HB2.out))).mono ?_
  intro e w3 hend
  obtain ⟨p3, c3, rfl, hm3, hb3⟩ := list_form hend
  have HB3 := hid (HB2.out.trans (hb3.mono HB2.out.size)); have HX3 := hid (HX2.out.trans (hb3.mono HX2.out.size)); have HM3 := hid hm3; have HZ3 := hid hb3
  clear hend hm3 hb3 q5
  have q5 := cell_box (below_blk HX3.out HA0.out) (i := 0) rfl
  gi_wp2_with fail
  refine ⟨trivial, ?_⟩
  refine (callsIn_wide.2 (rlist_any a c rs b d ws most w3 (HR.out.below HB3.out) (HW.out.below HB3.out))).mono ?_
  intro e w4 hend
  obtain ⟨p4, c4, rfl, hm4, hb4⟩ := list_form hend
  have HX4 := hid (HX3.out.trans (hb4.mono HX3.out.size)); have HZ4 := hid (HZ3.out.trans (hb4.mono HZ3.out.size))
  have HSM := hid (samem_any p3 c3 (mInt (listL rs ws most)) p4 c4 (mInt (listL rs ws most)) w4 (HM3.out.below hb4) hm4)
  rw [decide_eq_true rfl, show (mInt (listL rs ws most)).length = (listL rs ws most).length by simp [mInt]] at HSM
  clear hend hm4 hb4 q5 HM3 HX3 HZ3
  gi_wp2_with fail
  refine ⟨trivial, ?_⟩
  refine (callsIn_wide.2 HSM.out).mono ?_
  rintro e w5 ⟨rfl, hb5⟩
  have HX5 := hid (HX4.out.trans (hb5.mono HX4.out.size)); have HZ5 := hid (HZ4.out.trans (hb5.mono HZ4.out.size))
  clear hb5 HSM HX4 HZ4
  gi_wp2_with fail
  refine ⟨trivial, ?_⟩
  refine (callsIn_wide.2 (kept_any w1.heap.size g rs a c w5 (HL2.out.below HZ5.out) (HR.out.below (HBA.out.trans (HX5.out.mono HBA.out.size))))).mono ?_
  rintro e w6 ⟨rfl, hb6⟩
  have HX6 := hid (HX5.out.trans (hb6.mono HX5.out.size)); have HZ6 := hid (HZ5.out.trans (hb6.mono HZ5.out.size))
  clear hb6 HX5 HZ5
  have HW6 := hid (HBA.out.trans (HX6.out.mono HBA.out.size))
  obtain ⟨E, hE⟩ : ∃ E, listE rs ws most = E := ⟨_, rfl⟩
  rw [hE]
  have hne : (E != E) = false := by simp
  clear hE
  -- wants of the law's own
  have bE := alloc_below0 w6 (.cells #[] 3)
  have hEr : (w6.alloc (.cells #[] 3)).ownsRow w6.heap.size 3 1 (.slice (some ⟨w6.heap.size, 0, none⟩) 0 0) 0 [] := ⟨rfl, .inr ⟨w6.heap.size, 0, #[], rfl, Nat.le_refl _, World.alloc_heap_new w6 _, Nat.le_refl _, Nat.zero_le _, rfl, rfl⟩⟩
  obtain ⟨qw, dw, w7, hr7, hA7, hG7⟩ := run_appI 29 w6.heap.size _ 0 [] _ hEr b ws.length d (cAll ws) (src_i d ((HW.out.below HW6.out).below bE) HBD.out) (cAll_one ws) (by omega) bE.size
  have hb7 : Below w6.heap.size w6 w7 := bE.trans ((fr_grown hG7).below (fun k hk => by have h7 : some w6.heap.size = some k := hk; have := Option.some.inj h7; omega) bE.size)
  rw [Nat.zero_add] at hr7 hA7
  rw [List.nil_append] at hA7
  have hC7 : CRow w7 w6.heap.size qw dw ws := hA7
  have HC7 := hid hC7; have HZ7 := hid (HZ6.out.trans (hb7.mono HZ6.out.size)); have HX7 := hid (HX6.out.trans (hb7.mono HX6.out.size))
  have HS67 := hid hb7.size
  clear hEr hG7 hA7 hC7 hb7 bE
  gi_wp2_with (first
    | (gi_at_builtin; refine wpListIn_append_run _ rfl _ _ _ rfl _ _ rfl rfl _ _ hr7 ?_; clear hr7)
    | fail)
  refine ⟨trivial, ?_⟩
  refine (callsIn_wide.2 (all_any (some ⟨g, 0, none⟩) (rs.length + 1) rs qw dw ws w7 (HL2.out.below HZ7.out).rows HC7.out.ints.at)).mono ?_
  intro e w8 hend
  obtain ⟨gf, lb, X, Keep, rfl, hseq, hkeep, hXb, hb8⟩ := all_seq hend (HT.out.below (HBA.out.trans ((HX7.out.trans (hend.1.mono HX7.out.size)).mono HBA.out.size)))
  have b9 := alloc_below0 w8 (.cells #[.func (.func gf) #[] lb] 44)
  have n9 := World.alloc_heap_new w8 (.cells #[.func (.func gf) #[] lb] 44)
  have s9 := World.size_alloc w8 (.cells #[.func (.func gf) #[] lb] 44)
  have HB9 := hid (And.intro b9 (And.intro n9 s9))
  have HSEQ := hid hseq; have HKE := hid hkeep; have HXB := hid hXb; have HB8 := hid hb8
  clear b9 n9 s9 hend hseq hkeep hXb hb8
  gi_wp2_with fail
  generalize w8.alloc (.cells #[.func (.func gf) #[] lb] 44) = w9 at HB9 ⊢
  obtain ⟨b9, n9, s9⟩ := HB9.out
  have HZ9 := hid (HZ7.out.trans ((HB8.out.trans (b9.mono HB8.out.size)).mono HZ7.out.size))
  have h78 := HB8.out.size; have h27 := HZ7.out.size; have h26 := HZ6.out.size; have h67 := HS67.out; have h12 := HS12.out
  refine ⟨trivial, ?_⟩
  refine (callsIn_wide.2 (spoilX_any (fun b => w1.heap.size ≤ b ∧ b < w2.heap.size) _ w9 (HL2.out.spoilX.mono HZ9.out))).mono ?_
  rintro e w10 ⟨⟨u10, rfl⟩, hf10⟩
  have B810 := HB8.out.trans (b9.mono HB8.out.size)
  -- what stands behind spoil
  have HC10 : Hid (CRow w10 w6.heap.size qw dw ws) := hid (CRow.same (HC7.out.below B810) (fun b h1 h2 => hf10.same b h2 (by omega)))
  have HF10 : Hid (∀ b, b < w9.heap.size → ¬ (w1.heap.size ≤ b ∧ b < w2.heap.size) → w10.heap[b]? = w9.heap[b]?) := hid fun b hb hnb => hf10.same b hb hnb
  have HS10 : Hid (w9.heap.size ≤ w10.heap.size) := hid hf10.low.size
  have HLW : Hid (Below w.heap.size w w10) := hid ((HB2.out.trans (HZ9.out.mono HB2.out.size)).trans (hf10.below (n := w.heap.size) (fun b hb => by have := HBA.out.size; omega) (by have := HB2.out.size; have := HZ9.out.size; omega)))
  clear hf10
  gi_wp2_with fail
  gi_loopw [16] (fun iv wr => ∃ (i : Nat) (ns : List Int), i ≤ ws.length ∧ iv = .int .i64 i ∧ ns.length = ws.length ∧ CRow wr w6.heap.size qw dw ns ∧ Fr (fun b => w6.heap.size ≤ b ∧ b < w7.heap.size) w10 wr) (fun iv _ => ws.length - (intOf iv).toNat)
  case atStart => exact ⟨0, ws, Nat.zero_le _, rfl, rfl, HC10.out, Fr.refl _ _⟩
  case round =>
    obtain ⟨i, ns, hi, rfl, hns, hC, hf⟩ := hrel
    have HC := hid hC; have HF := hid hf; have HNS := hid hns
    by_cases hlt : i < ws.length
    · obtain ⟨gw, ow, rfl, ⟨hg1, hg2⟩, hcw⟩ := hC.ints.cells i (by omega)
      have how : ow = 0 := by
        rcases hC.2 with ⟨h1, _⟩ | ⟨_, _, _, h1, _⟩
        · cases h1
        · injection h1 with e1 _ _
          injection e1 with e1
          injection e1 with _ e2
      subst how
      rw [Nat.zero_add] at hcw
      obtain ⟨f1, f2, _⟩ := hC.free i
      obtain ⟨x, hx⟩ : ∃ x, ns[i]'(by omega) = x := ⟨_, rfl⟩
      rw [hx] at hcw
      obtain ⟨y, hy⟩ : ∃ y, IntKind.i64.wrap (2 - x) = y := ⟨_, rfl⟩
      have HST := hid (hC.set i y)
      have hgw7 : gw < w7.heap.size := by
        rcases HC7.out.2 with ⟨h1, _⟩ | ⟨g', _, _, h1, _, h3, _⟩
        · cases h1
        · injection h1 with e1 _ _
          injection e1 with e1
          injection e1 with e1 _
          subst e1
          exact (Array.getElem?_eq_some_iff.1 h3).1
      have HFS := hid (hf.trans ((fr_set wr gw i (.int .i64 y)).mono (fun q hq => by rw [hq]; exact ⟨f2, hgw7⟩)))
      have hiz : (i : Int) < (ws.length : Int) := by omega
      clear hC hf hx hg1 hg2 f2 hgw7 hns
      gi_wp2_with fail
      go_roundw
      case rel => exact ⟨i + 1, ns.set i y, by omega, by go_num, by rw [List.length_set]; exact HNS.out, HST.out, HFS.out⟩
      case measure => simp [intOf]; omega
    · have HFF := hid hf
      clear hC hf
      gi_wp2_with fail
      have HLW2 := hid (HLW.out.trans (HFF.out.below (n := w.heap.size) (fun b hb => by have := HBA.out.size; omega) HLW.out.size))
      refine ⟨trivial, ?_⟩
      refine (callsIn_wide.2 (rall_any a c rs b d ws wr (HR.out.below HLW2.out) (HW.out.below HLW2.out))).mono ?_
      rintro e w12 ⟨v12, rfl, hz12, hb12⟩
      obtain ⟨L, hL⟩ : ∃ L, (if pkE rs ws = 0 then fitL rs ws else []) = L := ⟨_, rfl⟩
      rw [hL] at hz12 HSEQ
      clear hL
      obtain ⟨pm, cm, rfl⟩ := hz12.form
      rw [mAll_len] at hz12 ⊢
      have hLs : L.length ≤ maxLen := by
        rcases hz12 with ⟨_, h9⟩ | ⟨_, cap, h1, _, h3, h4, _⟩
        · have : L.length = 0 := by rw [← mAll_len, h9]; rfl
          omega
        · rw [mAll_len] at h3; omega
      have hm12 := hz12.masks hLs
      have b13 := alloc_below0 w12 (.cells #[.slice pm L.length cm] 23)
      have n13 := World.alloc_heap_new w12 (.cells #[.slice pm L.length cm] 23)
      have s13 := World.size_alloc w12 (.cells #[.slice pm L.length cm] 23)
      have hfr := HFF.out
      have keep : ∀ (bb : Nat), bb < w9.heap.size → ¬ (w1.heap.size ≤ bb ∧ bb < w2.heap.size) → ¬ (w6.heap.size ≤ bb ∧ bb < w7.heap.size) → w12.heap[bb]? = w9.heap[bb]? := fun bb h1 h2 h3 =>
        (hb12.block bb (by have := HS10.out; have := hfr.low.size; omega)).trans ((hfr.same bb (by have := HS10.out; omega) h3).trans (HF10.out bb h1 h2))
      have hA2 := HX2.out.size; have hsA := HSA.out
      have hbAY := HBA.out.size
      have hZ9s := HZ9.out.size
      have kY : ∀ (bb : Nat) (o : Obj), A.heap[bb]? = some o → w12.heap[bb]? = some o := fun bb o hb => by
        have hlt := (Array.getElem?_eq_some_iff.1 hb).1
        exact (keep bb (by omega) (by omega) (by omega)).trans ((HZ9.out.block bb (by omega)).trans ((HX2.out.block bb hlt).trans hb))
      have HRD : Hid (Ready w w.heap.size w8.heap.size w12.heap.size most X Keep L gf lb pm cm (w12.alloc (.cells #[.slice pm L.length cm] 23))) := hid (by
        have h0 : Ready w w.heap.size w8.heap.size w12.heap.size most X Keep L gf lb pm cm (w12.alloc (.cells #[.slice pm L.length cm] 23)) := ⟨below_blk b13 (kY _ _ HA0.out), below_blk b13 (kY _ _ HA1.out), below_blk b13 ((keep _ (by omega) (by omega) (by omega)).trans n9), n13, hm12.below b13, HSEQ.out, ?_, ?_, HLW2.out.trans ((hb12.mono HLW2.out.size).trans (b13.mono (Nat.le_trans HLW2.out.size hb12.size))), rfl⟩
        exact h0
        · refine HSEQ.out.same w8 _ HKE.out (fun bb hx => ?_)
          have hbb := HXB.out bb hx
          have hb8 : bb < w8.heap.size := by omega
          exact (b13.block bb (by have := HS10.out; have := hfr.low.size; have := hb12.size; omega)).trans ((keep bb (by omega) (by have := HBA.out.size; have := World.block_lt_of_cell? w ⟨0, 0, none⟩ (HT.out 0 (by omega)); simp at this; omega) (by have := World.block_lt_of_cell? w ⟨0, 0, none⟩ (HT.out 0 (by omega)); simp at this; omega)).trans (b9.block bb hb8))
        · intro bb hx
          have hbb := HXB.out bb hx
          have := HS10.out; have := hfr.low.size; have := hb12.size
          omega)
      have HS13 : Hid ((w12.alloc (.cells #[.slice pm L.length cm] 23)).heap.size = w12.heap.size + 1) := hid s13
      have HB13 : Hid (w.heap.size + 2 ≤ w8.heap.size ∧ w8.heap.size < w12.heap.size) := hid ⟨by omega, by have := HS10.out; have := hfr.low.size; have := hb12.size; omega⟩
      clear b13 n13 s13 hfr keep kY hm12 hz12 hb12 hLs b9 n9 s9 HFF HLW HLW2 HS10 HF10 HC10 B810 HZ9 HSEQ HKE HXB HB8 HB9 HC7 HZ7 HX7 HZ6 HX6 HW6 HL2 HX2 HB2 HS12 HS67 HBA HA0 HA1 HSA HC HF HNS hA2 hsA hbAY hZ9s h78 h27 h26 h67 h12 HR HN HRR HW HT HBD HNB hne
      have q15 := cell_box HRD.out.s15 (i := 0) rfl
      have heq : (binOp .eql 44 (.func (.func gf) #[] lb) .nilFunc).run Tryd.prog (w12.alloc (.cells #[.slice pm L.length cm] 23)) = .ok (.bool false) (w12.alloc (.cells #[.slice pm L.length cm] 23)) := rfl
      generalize w8.heap.size = S15 at *
      generalize hYY : w.heap.size = Y at *
      gi_wp2_with fail
      generalize w12.alloc (.cells #[.slice pm L.length cm] 23) = W13 at HRD q15 heq HS13 ⊢
      generalize w12.heap.size = S17 at *
      have b14 := alloc_below0 W13 (.cells #[.int .i64 0] 3)
      have n14 := World.alloc_heap_new W13 (.cells #[.int .i64 0] 3)
      have hS13 : W13.heap.size = S17 + 1 := by
        exact HS13.out
      rw [hS13] at n14
      have HB14 := hid b14; have HN14 := hid n14
      clear q15 heq b14 n14
      generalize W13.alloc (.cells #[.int .i64 0] 3) = W14 at *
      refine loop_fuel (fun f a0 wr => ∃ (t T : Nat) (ds : List Deferred) (tm : Array Value), a0 = { tmps := tm, defers := ds } ∧ Slots Y S15 S17 T tm ∧ f = 2 - t ∧ t ≤ 2 ∧ S17 < T ∧ Below W13.heap.size W13 wr ∧ wr.heap[T]? = some (.cells #[.int .i64 (t : Int)] 3 (0, 0)) ∧ DSt W13.heap.size t ds T wr) 2 ?_ ?_
      · exact ⟨0, S17 + 1, [], _, rfl, ⟨rfl, rfl, rfl, rfl, rfl, rfl⟩, rfl, by omega, by omega, HB14.out, HN14.out, .inl ⟨rfl, rfl⟩⟩
      · rintro f a0 wr ⟨t, T, ds, tm, rfl, hsl, rfl, ht2, hT, hB, hTb, hDS⟩
        obtain ⟨u, rfl⟩ := slots_lit hsl
        clear hsl
        have hRD := HRD.out.below hB
        have q18 := cell_box hTb (i := 0) rfl
        have q6 := cell_box hRD.y1 (i := 0) rfl
        have f6 := free_box (i := 0) hRD.y1
        have HRDr := hid hRD; have HB := hid hB; have HTb := hid hTb; have HDS := hid hDS
        have hY1 : Y + 1 < S15 := by have := HB13.out; omega
        have hY2 : S15 < S17 := HB13.out.2
        clear hRD hB hTb hDS
        by_cases ht : t < 2
        · have htz : (t : Int) < 2 := by omega
          have q15 := cell_box HRDr.out.s15 (i := 0) rfl
          have bV := alloc_below0 wr (.cells #[.int .i64 0] 3)
          have nV := World.alloc_heap_new wr (.cells #[.int .i64 0] 3)
          have sV := World.size_alloc wr (.cells #[.int .i64 0] 3)
          have q15V := below_cell bV _ _ q15
          have HV := hid (And.intro bV (And.intro nV sV))
          clear bV nV sV q15 q6 f6
          gi_wp2_with fail
          generalize wr.alloc (.cells #[.int .i64 0] 3) = V at HV ⊢
          obtain ⟨bV, nV, sV⟩ := HV.out
          have hBw := HB.out.size
          have hTw : T < wr.heap.size := (Array.getElem?_eq_some_iff.1 HTb.out).1
          have hBV := HB.out.trans (bV.mono hBw)
          have hTV := below_blk bV HTb.out
          have hDV := HDS.out.below bV
          generalize wr.heap.size = Nn at *
          clear q15V q18 HV
          refine range_law rfl (by omega) (gf := gf) (lb := lb) rfl trivial HRD.out.seq.en ?_
          intro r hr1 hr2 hr3 hr4 hr5 hr6 hr7
          have bD := alloc_below0 V (.deferred (some []))
          have nD := World.alloc_heap_new V (.deferred (some []))
          have sD := World.size_alloc V (.deferred (some []))
          generalize V.alloc (.deferred (some [])) = VD at *
          have bL := alloc_below0 VD (.loop r)
          have nL := World.alloc_heap_new VD (.loop r)
          have sL := World.size_alloc VD (.loop r)
          generalize VD.alloc (.loop r) = W0 at *
          rw [sD] at bL nL sL
          have bW0 : Below V.heap.size V W0 := bD.trans (bL.mono (by omega))
          have nD0 : W0.heap[V.heap.size]? = some (.deferred (some [])) := (bL.block _ (by omega)).trans nD
          have hBW := hBV.trans (bW0.mono (by omega))
          have hTW := below_blk bW0 hTV
          have hNW := below_blk bW0 nV
          have hDW := hDV.below bW0
          obtain ⟨D, hD⟩ : ∃ D, V.heap.size = D := ⟨_, rfl⟩
          rw [hD] at sV nD0 nL sL bL ⊢
          have hB17 : W13.heap.size = S17 + 1 := HS13.out
          clear bD nD sD bL bW0 hBV hTV hDV bV nV
          have hK0 : TK W13 T Nn D t ds ((0 : Nat) : Int) W0 := ⟨hBW, hTW, hNW, nD0, hDW, by omega, by omega, by omega, by omega⟩
          clear hBW hTW hNW nD0 hDW
          refine (HRD.out.seq.go 15 (D + 1) (fun k W => TK W13 T Nn D t ds (k : Int) W ∧ W.heap[D + 1]? = some (.loop r)) (fun W => t = 0 ∧ TK W13 T Nn D t ds most W ∧ W.heap[D + 1]? = some (.loop { r with state := .done, pending := some (.exit 4) })) W0 ?_ ?_ ?_ ?_ ⟨hK0, nL⟩).mono ?_
          · rintro k W W' ⟨h1, h2⟩ hf
            exact ⟨h1.fr hf (fun b hb => by omega), (hf.same _ h1.sz (by omega)).trans h2⟩
          · rintro k W ⟨h1, _⟩
            exact (HRD.out.below h1.low).keep
          · intro bb hx
            have := HRD.out.xs bb hx
            omega
          · rintro mm k W M hMk hsz ⟨hK, hLp⟩
            have key : ∀ R : Ending → World → Prop, (∀ W' : World, (∀ b, D + 2 ≤ b → b < D + 6 → W'.heap[b]? = W.heap[b]?) → TK W13 T Nn D t ds ((k : Int) + 1) W' → W'.heap[D + 1]? = some (.loop r) → R (.returned (.bool true)) W') →
                (t = 0 → (k : Int) + 1 = most → ∀ W' : World, (∀ b, D + 2 ≤ b → b < D + 6 → W'.heap[b]? = W.heap[b]?) → TK W13 T Nn D t ds ((k : Int) + 1) W' → W'.heap[D + 1]? = some (.loop { r with state := .done, pending := some (.exit 4) }) → R (.returned (.bool false)) W') → YieldAt Fence.wide mm Tryd.prog (D + 1) #[.int .u32 (M : Int)] W R := by
              intro R hX hYes
              refine yield_by hr5 hr6 hr3 hr4 hLp hr1 rfl hr7 ?_
              have HK := hid hK; have HLP := hid hLp; have HMK := hid hMk; have HX := hid hX; have HYY := hid hYes
              have HSZ : Hid (D + 6 ≤ W.heap.size ∧ W0.heap.size = D + 2) := hid ⟨by omega, by omega⟩
              have HRA := hid (And.intro hr1 (And.intro hr2 hr7))
              have HSV := hid sV
              clear hX hYes hK hLp hMk hsz hr3 hr4 hr5 hr6 hK0 nL hr1 hr2 hr7 sV sL hD
              simp only [List.zip_toArray, List.zip_cons_cons, List.zip_nil_right, List.foldl_toArray, List.foldl_cons, List.foldl_nil, List.setIfInBounds_toArray, List.set_cons_succ, List.set_cons_zero]
              gi_wp2
              refine ⟨HLP.out, ?_⟩
              have hlt := HK.out.sz
              have hK2 := HK.out.fr (fr_one (W := W) (D + 1) (.loop { r with state := .busy })) (fun b e => by omega)
              have hL2 := World.putObj_heap_same (w := W) (o := .loop { r with state := .busy }) hlt
              have hsm2 : ∀ b, b ≠ D + 1 → (W.putObj (D + 1) (.loop { r with state := .busy })).heap[b]? = W.heap[b]? := fun b hb => World.putObj_heap_other hb
              have hs2 : (W.putObj (D + 1) (.loop { r with state := .busy })).heap.size = W.heap.size := by simp [World.putObj]
              generalize W.putObj (D + 1) (.loop { r with state := .busy }) = W2 at hK2 hL2 hsm2 hs2 ⊢
              have hRD2 := HRD.out.below hK2.low
              have hkl : k < L.length := (List.getElem?_eq_some_iff.1 HMK.out).1
              obtain ⟨gm, om, rfl, hcm⟩ := hRD2.ms.cells k (by simp [mInt]; omega)
              rw [show (mInt L)[k]'(by simp [mInt]; omega) = (M : Int) by
                have := (List.getElem?_eq_some_iff.1 HMK.out).2
                simp [mInt, this]] at hcm
              have x19 := cell_box hK2.nb (i := 0) rfl
              have x18 := cell_box hK2.tb (i := 0) rfl
              have x17 := cell_box hRD2.s17 (i := 0) rfl
              have x15 := cell_box hRD2.s15 (i := 0) rfl
              have x5 := cell_box hRD2.y0 (i := 0) rfl
              have f19 := free_box (i := 0) hK2.nb
              have hkz : (k : Int) < (L.length : Int) := by omega
              have hLs : L.length ≤ maxLen := by have := hRD2.ms.small; simpa [mInt] using this
              have hge : ¬ (L.length : Int) ≤ (k : Int) := by omega
              have HK2 := hid hK2; have HL2 := hid hL2; have HSM := hid hsm2; have HS2 := hid hs2; have HR2 := hid hRD2
              clear hK2 hL2 hsm2 hs2 hRD2 hlt
              by_cases ht0 : t = 0
              · have hq1 : ((t : Int) == 0) = true := by simp [ht0]
                have HT0 := hid ht0
                clear ht0
                by_cases hk0 : k = 0
                · have hq0 : ((k : Int) == 0) = true := by simp [hk0]
                  clear hk0
                  have bV2 := alloc_below0 W2 (.cells #[.int .i64 0] 3)
                  have nV2 := World.alloc_heap_new W2 (.cells #[.int .i64 0] 3)
                  have sV2 := World.size_alloc W2 (.cells #[.int .i64 0] 3)
                  have q15V := below_cell bV2 _ _ x15
                  have HV2 := hid (And.intro bV2 (And.intro nV2 sV2))
                  clear bV2 nV2 sV2
                  gi_wp2_with fail
                  generalize W2.alloc (.cells #[.int .i64 0] 3) = V2 at HV2 ⊢
                  obtain ⟨bV2, nV2, sV2⟩ := HV2.out
                  obtain ⟨I0, hI0⟩ : ∃ I0, W2.heap.size = I0 := ⟨_, rfl⟩
                  rw [hI0] at bV2 nV2 sV2 ⊢
                  have hI1 : D + 6 ≤ I0 := by have := HSZ.out; have := HS2.out; omega
                  refine range_inner rfl (below_blk (hI0 ▸ bV2) HL2.out) (fun h => by cases h) (gf := gf) (lb := lb) rfl trivial HRD.out.seq.en ?_
                  intro r2 k1 k2 k3 k4 k5 k6 k7
                  have bL3 := alloc_below0 V2 (.loop r2)
                  have nL3 := World.alloc_heap_new V2 (.loop r2)
                  have sL3 := World.size_alloc V2 (.loop r2)
                  generalize V2.alloc (.loop r2) = V3 at *
                  rw [sV2] at bL3 nL3 sL3 ⊢
                  refine CallsIn.mono (CallsIn.inRound _ (callsIn_wide.2 (callsIn_wide.1 (HRD.out.seq.go 0 (I0 + 1) (fun i W' => Below W2.heap.size W2 W' ∧ W'.heap[I0]? = some (.cells #[.int .i64 (i : Int)] 3 (0, 0)) ∧ W'.heap[I0 + 1]? = some (.loop r2) ∧ I0 + 1 < W'.heap.size) (fun _ => False) V3 ?_ ?_ ?_ ?_ ⟨by rw [hI0]; exact bV2.trans (bL3.mono (by omega)), (bL3.block _ (by omega)).trans nV2, nL3, by omega⟩)))) ?_
                  · rintro i W' W'' ⟨j1, j2, j3, j4⟩ hf
                    exact ⟨j1.trans (hf.below (n := W2.heap.size) (fun b hb => by omega) (by omega)), (hf.same _ (by omega) (by omega)).trans j2, (hf.same _ j4 (by omega)).trans j3, by have := hf.low.size; omega⟩
                  · rintro i W' ⟨j1, _⟩
                    exact (HRD.out.below (HK2.out.low.trans (j1.mono HK2.out.low.size))).keep
                  · intro bb hx
                    have := HRD.out.xs bb hx
                    have := HK2.out.low.size
                    omega
                  · rintro m2 i W' M2 hMi hsz2 ⟨j1, j2, j3, j4⟩
                    have key2 : ∀ R : Ending → World → Prop, (∀ Z : World, (∀ b, I0 + 2 ≤ b → Z.heap[b]? = W'.heap[b]?) → (Below W2.heap.size W2 Z ∧ Z.heap[I0]? = some (.cells #[.int .i64 ((i : Int) + 1)] 3 (0, 0)) ∧ Z.heap[I0 + 1]? = some (.loop r2) ∧ I0 + 1 < Z.heap.size) → R (.returned (.bool true)) Z) → YieldAt Fence.wide m2 Tryd.prog (I0 + 1) #[.int .u32 (M2 : Int)] W' R := by
                      intro R hX
                      refine yield_by k5 k6 k3 k4 j3 k1 rfl k7 ?_
                      have hil : i < L.length := (List.getElem?_eq_some_iff.1 hMi).1
                      have HX2 := hid hX; have HJ := hid (And.intro j1 (And.intro j2 (And.intro j3 j4))); have HRB := hid (And.intro k1 k2)
                      have hiz : (i : Int) < (L.length : Int) := by omega
                      have HI := hid hI0; have HJ1 := hid hI1
                      clear hX j1 j2 j3 j4 k1 k2 k3 k4 k5 k6 k7 hsz2 hMi bL3 nL3 sL3 bV2 nV2 sV2 hI0 hI1 HV2
                      simp only [List.zip_toArray, List.zip_cons_cons, List.zip_nil_right, List.foldl_toArray, List.foldl_cons, List.foldl_nil, List.setIfInBounds_toArray, List.set_cons_succ, List.set_cons_zero]
                      gi_wp2
                      refine ⟨HJ.out.2.2.1, ?_⟩
                      obtain ⟨j1, j2, j3, j4⟩ := HJ.out
                      have y21 := cell_box ((World.putObj_heap_other (w := W') (o := .loop { r2 with state := .busy }) (show I0 ≠ I0 + 1 by omega)).trans j2) (i := 0) rfl
                      have g21 := free_box (i := 0) ((World.putObj_heap_other (w := W') (o := .loop { r2 with state := .busy }) (show I0 ≠ I0 + 1 by omega)).trans j2)
                      clear j1 j2 j3 j4
                      gi_wp2_with fail
                      obtain ⟨j1, j2, j3, j4⟩ := HJ.out
                      have hI0 := HI.out
                      have e1 := fr_one (W := W') (I0 + 1) (.loop { r2 with state := .busy })
                      have e2 : (W'.putObj (I0 + 1) (.loop { r2 with state := .busy })).heap[I0]? = _ := (World.putObj_heap_other (by omega)).trans j2
                      have e3 := World.putObj_heap_same (w := W') (o := .loop { r2 with state := .busy }) j4
                      have e4 : ∀ b, b ≠ I0 + 1 → (W'.putObj (I0 + 1) (.loop { r2 with state := .busy })).heap[b]? = W'.heap[b]? := fun b hb => World.putObj_heap_other hb
                      generalize W'.putObj (I0 + 1) (.loop { r2 with state := .busy }) = Z1 at e1 e2 e3 e4 ⊢
                      have e5 := fr_set Z1 I0 0 (.int .i64 ((i : Int) + 1))
                      have e6 := set_box (v := .int .i64 ((i : Int) + 1)) e2
                      have e7 : ∀ b, b ≠ I0 → (Z1.setCell ⟨I0, 0, none⟩ (.int .i64 ((i : Int) + 1))).heap[b]? = Z1.heap[b]? := fun b hb => set_far hb _
                      generalize Z1.setCell ⟨I0, 0, none⟩ (.int .i64 ((i : Int) + 1)) = Z2 at e5 e6 e7 ⊢
                      have e8 : Z2.heap[I0 + 1]? = some (.loop { r2 with state := .busy }) := (e7 _ (by omega)).trans e3
                      have e9 := (Array.getElem?_eq_some_iff.1 e8).1
                      refine ⟨e8, HX2.out _ (fun b hb => (World.putObj_heap_other (by omega)).trans ((e7 _ (by omega)).trans (e4 _ (by omega)))) ⟨j1.trans ((e1.below (n := W2.heap.size) (fun b e => by omega) (by omega)).trans ((e5.below (n := W2.heap.size) (fun b e => by omega) (by have := e1.low.size; omega)).trans ((fr_one (I0 + 1) _).below (n := W2.heap.size) (fun b e => by omega) (by omega)))), (World.putObj_heap_other (by omega)).trans e6, ?_, by simp [World.putObj]; exact e9⟩⟩
                      rw [loop_again HRB.out.1 HRB.out.2]
                      exact World.putObj_heap_same e9
                    refine key2 _ (fun Z z1 z2 => ⟨fun b hb1 hb2 => z1 b (by omega), .inl ⟨rfl, ?_⟩⟩)
                    rw [show (((i + 1 : Nat)) : Int) = (i : Int) + 1 by omega]
                    exact z2
                  · rintro e2 W' ⟨⟨v2, rfl⟩, (⟨j1, j2, j3, j4⟩ | hfa)⟩
                    · refine ⟨⟨v2, rfl⟩, .inl ⟨j3, ?_⟩⟩
                      have B5 := j1.trans ((fr_one (W := W') (I0 + 1) (.loop { r2 with state := .exhausted })).below (n := W2.heap.size) (fun b e => by omega) (by omega))
                      have n5 : (W'.putObj (I0 + 1) (.loop { r2 with state := .exhausted })).heap[I0]? = _ := (World.putObj_heap_other (by omega)).trans j2
                      generalize W'.putObj (I0 + 1) (.loop { r2 with state := .exhausted }) = W5 at B5 n5 ⊢
                      have HK5 := hid (HK2.out.fr (A := fun _ => False) (Fr.of_below B5) (fun b hb => hb.elim))
                      have HL5 := hid (below_blk B5 HL2.out)
                      have HSM5 : Hid (∀ b, D + 2 ≤ b → b < D + 6 → W5.heap[b]? = W.heap[b]?) := hid fun b h1 h2 => (B5.block b (by omega)).trans (HSM.out b (by omega))
                      have z21 := cell_box n5 (i := 0) rfl
                      have z19 := below_cell B5 _ _ x19
                      have z18 := below_cell B5 _ _ x18
                      have z17 := below_cell B5 _ _ x17
                      have z5 := below_cell B5 _ _ x5
                      have h19 := free_box (i := 0) HK5.out.nb
                      have hnn : ((L.length : Int) != (L.length : Int)) = false := by simp
                      have HI := hid hI0
                      clear j1 j2 j3 j4 k1 k2 k3 k4 k5 k6 k7 bL3 nL3 sL3 bV2 nV2 sV2 hI0 hI1 HV2 B5 n5 x19 x18 x17 x15 x5 f19 hcm q15V
                      by_cases hmo : (k : Int) + 1 = most
                      · have hq2 : ((k : Int) + 1 == most) = true := by simpa using hmo
                        have HMO := hid hmo
                        clear hmo
                        gi_wp2_with fail
                        have hmo := HMO.out; have ht0 := HT0.out
                        obtain ⟨g1, g2, g3, g4⟩ := HK5.out.ends (W := W) HL5.out HSM5.out ((k : Int) + 1) _ rfl (.loop { r with state := .done, pending := some (.exit 4) })
                        exact ⟨g1, HYY.out ht0 hmo _ g2 g3 g4⟩
                      · have hq2 : ((k : Int) + 1 == most) = false := by simpa using hmo
                        clear hmo
                        gi_wp2_with fail
                        obtain ⟨g1, g2, g3, g4⟩ := HK5.out.ends (W := W) HL5.out HSM5.out ((k : Int) + 1) _ rfl (.loop { r with state := .ready, pending := none })
                        refine ⟨g1, HX.out _ g2 g3 ?_⟩
                        rw [loop_again HRA.out.1 HRA.out.2.1] at g4 ⊢
                        exact g4
                    · exact hfa.elim
                · have hq0 : ((k : Int) == 0) = false := by simpa using hk0
                  clear hk0
                  by_cases hmo : (k : Int) + 1 = most
                  · have hq2 : ((k : Int) + 1 == most) = true := by simpa using hmo
                    have HMO := hid hmo
                    clear hmo
                    gi_wp2_with fail
                    have hmo := HMO.out; have ht0 := HT0.out
                    obtain ⟨g1, g2, g3, g4⟩ := HK2.out.ends (W := W) HL2.out (fun b h1 h2 => HSM.out b (by omega)) ((k : Int) + 1) _ rfl (.loop { r with state := .done, pending := some (.exit 4) })
                    exact ⟨g1, HYY.out ht0 hmo _ g2 g3 g4⟩
                  · have hq2 : ((k : Int) + 1 == most) = false := by simpa using hmo
                    clear hmo
                    gi_wp2_with fail
                    obtain ⟨g1, g2, g3, g4⟩ := HK2.out.ends (W := W) HL2.out (fun b h1 h2 => HSM.out b (by omega)) ((k : Int) + 1) _ rfl (.loop { r with state := .ready, pending := none })
                    refine ⟨g1, HX.out _ g2 g3 ?_⟩
                    rw [loop_again HRA.out.1 HRA.out.2.1] at g4 ⊢
                    exact g4
              · have hq1 : ((t : Int) == 0) = false := by simpa using ht0
                clear ht0
                by_cases hk0 : k = 0
                · have hq0 : ((k : Int) == 0) = true := by simp [hk0]
                  clear hk0
                  gi_wp2_with fail
                  obtain ⟨g1, g2, g3, g4⟩ := HK2.out.ends (W := W) HL2.out (fun b h1 h2 => HSM.out b (by omega)) ((k : Int) + 1) _ rfl (.loop { r with state := .ready, pending := none })
                  refine ⟨g1, HX.out _ g2 g3 ?_⟩
                  rw [loop_again HRA.out.1 HRA.out.2.1] at g4 ⊢
                  exact g4
                · have hq0 : ((k : Int) == 0) = false := by simpa using hk0
                  clear hk0
                  gi_wp2_with fail
                  obtain ⟨g1, g2, g3, g4⟩ := HK2.out.ends (W := W) HL2.out (fun b h1 h2 => HSM.out b (by omega)) ((k : Int) + 1) _ rfl (.loop { r with state := .ready, pending := none })
                  refine ⟨g1, HX.out _ g2 g3 ?_⟩
                  rw [loop_again HRA.out.1 HRA.out.2.1] at g4 ⊢
                  exact g4
            refine key _ (fun W' h1 h2 h3 => ⟨fun b hb1 hb2 => h1 b (by omega) (by omega), .inl ⟨rfl, ?_, h3⟩⟩) (fun h0 hm W' h1 h2 h3 => ⟨fun b hb1 hb2 => h1 b (by omega) (by omega), .inr ⟨rfl, h0, hm ▸ h2, h3⟩⟩)
            rw [show (((k + 1 : Nat)) : Int) = (k : Int) + 1 by omega]
            exact h2
          · rintro e W ⟨⟨v, rfl⟩, (⟨hK, hLp⟩ | ⟨ht0, hK, hLp⟩)⟩
            · refine ⟨⟨v, rfl⟩, hK.db, .inl ⟨hLp, ?_⟩⟩
              have hK3 := hK.fr (fr_one (W := W) (D + 1) (.loop { r with state := .exhausted })) (fun b e => by omega)
              generalize W.putObj (D + 1) (.loop { r with state := .exhausted }) = W3 at hK3 ⊢
              have hRD3 := HRD.out.below hK3.low
              have x19 := cell_box hK3.nb (i := 0) rfl
              have x18 := cell_box hK3.tb (i := 0) rfl
              have x17 := cell_box hRD3.s17 (i := 0) rfl
              have x5 := cell_box hRD3.y0 (i := 0) rfl
              have hnn : ((L.length : Int) != (L.length : Int)) = false := by simp
              have hLs : L.length ≤ maxLen := by have := hRD3.ms.small; simpa [mInt] using this
              have HK3 := hid hK3; have HR3 := hid hRD3
              clear hK hLp hK0 nL hK3 hRD3 hr1 hr2 hr3 hr4 hr5 hr6 hr7
              have HSV := hid sV
              clear sV sL hD
              gi_wp2_with fail
              obtain ⟨g1, g2, g3⟩ := HK3.out.turn ht _ rfl
              exact ⟨2 - (t + 1), by omega, t + 1, W3.heap.size, _, _, rfl, ⟨rfl, rfl, rfl, rfl, rfl, rfl⟩, rfl, by omega, (by have := HK3.out.o1; have := HK3.out.o2; have := HK3.out.o3; have := HK3.out.sz; omega), g1, g2, g3⟩
            · refine ⟨⟨v, rfl⟩, hK.db, .inr ⟨_, hLp, ?_⟩⟩
              have hK3 := hK.fr (fr_one (W := W) (D + 1) (.loop { r with state := .exhausted, pending := some (.exit 4) })) (fun b e => by omega)
              generalize W.putObj (D + 1) (.loop { r with state := .exhausted, pending := some (.exit 4) }) = W3 at hK3 ⊢
              have hRD3 := HRD.out.below hK3.low
              have x19 := cell_box hK3.nb (i := 0) rfl
              have x18 := cell_box hK3.tb (i := 0) rfl
              have x17 := cell_box hRD3.s17 (i := 0) rfl
              have x5 := cell_box hRD3.y0 (i := 0) rfl
              have hnn : (most != most) = false := by simp
              have hLs : L.length ≤ maxLen := by have := hRD3.ms.small; simpa [mInt] using this
              have ht1 : ((t : Int) == 1) = false := by simp [ht0]
              have HK3 := hid hK3; have HR3 := hid hRD3; have HT0 := hid ht0
              have HSV := hid sV
              clear hK hLp hK0 nL hK3 hRD3 hr1 hr2 hr3 hr4 hr5 hr6 hr7 ht0 sV sL hD
              by_cases hml : most = (L.length : Int)
              · have hnl : (most != (L.length : Int)) = false := by simpa using hml
                clear hml
                gi_wp2_with fail
                obtain ⟨g1, g2, g3⟩ := HK3.out.turn ht _ rfl
                exact ⟨2 - (t + 1), by omega, t + 1, W3.heap.size, _, _, rfl, ⟨rfl, rfl, rfl, rfl, rfl, rfl⟩, rfl, by omega, (by have := HK3.out.o1; have := HK3.out.o2; have := HK3.out.o3; have := HK3.out.sz; omega), g1, g2, g3⟩
              · have hnl : (most != (L.length : Int)) = true := by simpa using hml
                clear hml
                gi_wp2_with fail
                obtain ⟨g1, g2, g3⟩ := HK3.out.turn ht _ rfl
                exact ⟨2 - (t + 1), by omega, t + 1, W3.heap.size, _, _, rfl, ⟨rfl, rfl, rfl, rfl, rfl, rfl⟩, rfl, by omega, (by have := HK3.out.o1; have := HK3.out.o2; have := HK3.out.o3; have := HK3.out.sz; omega), g1, g2, g3⟩
        · have htz : ¬ (t : Int) < 2 := by omega
          have e2 : t = 2 := by omega
          subst e2
          rcases HDS.out with ⟨h, _⟩ | ⟨h, _⟩ | ⟨_, D1, D2, hd0, hd1, hd2, rfl, hd3, hd4⟩
          · omega
          · omega
          have HD3 := hid hd3; have HD4 := hid hd4; have HD1 := hid (And.intro hd0 (And.intro hd1 hd2))
          have HF6 := hid (set_box (v := .bool true) HRDr.out.y1)
          clear hd0 hd1 hd2 hd3 hd4 ht2 ht
          gi_wp2_with fail
          have hY9 := HRDr.out.y1
          have hlow := HRDr.out.low
          have hwy := HRDr.out.wy
          have hlo2 := (fr_set wr (Y + 1) 0 (.bool true)).below (n := Y) (fun b e => by omega) (by have := (Array.getElem?_eq_some_iff.1 hY9).1; omega)
          have f1 := HF6.out
          have hbb := HB.out.size
          have hs13 := HS13.out
          obtain ⟨hd0, hd1, hd2⟩ := HD1.out
          have e1 : (wr.setCell ⟨Y + 1, 0, none⟩ (.bool true)).heap[D1]? = some (.deferred (some [])) := (set_far (by omega) _).trans HD3.out
          have e2 : (wr.setCell ⟨Y + 1, 0, none⟩ (.bool true)).heap[D2]? = some (.deferred (some [])) := (set_far (by omega) _).trans HD4.out
          generalize wr.setCell ⟨Y + 1, 0, none⟩ (.bool true) = Z at f1 e1 e2 hlo2 ⊢
          refine ⟨by simp, .inl ⟨_, _, rfl, run_takeDeferred e2, ?_⟩⟩
          have e3 : (Z.putObj D2 (.deferred none)).heap[D1]? = some (.deferred (some [])) := (World.putObj_heap_other (by omega)).trans e1
          refine ⟨by simp, .inl ⟨_, _, rfl, run_takeDeferred e3, ?_⟩⟩
          refine ⟨_, results_c1 rfl rfl (load_bool ((World.putObj_heap_other (by omega)).trans ((World.putObj_heap_other (by omega)).trans f1))), rfl, ?_⟩
          have sZ1 := (Array.getElem?_eq_some_iff.1 e2).1
          have sZ2 := (Array.getElem?_eq_some_iff.1 e3).1
          exact hlow.trans (hlo2.trans (((fr_one D2 _).below (n := Y) (fun b e => by omega) (by omega)).trans ((fr_one D1 _).below (n := Y) (fun b e => by omega) (by omega))))
end Go.Proofs.YteakakonjfcpmaaDoor
