/- Of of the program. -/
import Derived.Test.YtplekhfnidhcoaaVoC
import Derived.Test.YtplekhfnidhcoaaUnits
import Derived.Test.YtplekhfnidhcoaaUnJ
namespace Go.Proofs.Ytplekhfnidhcoaa
open Go.RowKit Go.Shelf Go.Deep

theorem findL_on (F : Nat → Bool) (l : List Sym) (nm : ByteArray) : findL (onL F l) nm = findL l nm := by
  unfold findL
  have hn : (onL F l).map Sym.name = l.map Sym.name := by
    refine List.ext_getElem (by simp [onL_len]) (fun i h1 h2 => ?_)
    have hi : i < l.length := by simpa [onL_len] using h1
    rw [List.getElem_map, List.getElem_map, onL_at, sG_at hi]
    unfold onS
    split <;> rfl
  have key : ∀ (a b : List Sym), a.map Sym.name = b.map Sym.name → a.findIdx? (fun x => sameB x.name nm) = b.findIdx? (fun x => sameB x.name nm) := by
    intro a
    induction a with
    | nil => intro b h; cases b with
      | nil => rfl
      | cons y b => simp at h
    | cons x a ih => intro b h; cases b with
      | nil => simp at h
      | cons y b =>
        simp only [List.map_cons, List.cons.injEq] at h
        rw [List.findIdx?_cons, List.findIdx?_cons, h.1, ih b h.2]
  exact key _ _ hn
/-- The unit of a symbol that is marked, or none. -/
theorem unitAt_on {F : Nat → Bool} {l : List Sym} {k : Nat} (hk : k < l.length) : unitAt (onL F l) (k : Int) = if F k then unitAt l (k : Int) else none := by
  have hk2 : k < (onL F l).length := by rw [onL_len]; exact hk
  cases hF : F k
  · rw [if_neg (by simp)]
    refine unit_not hk2 ?_
    rw [onL_at, hF]
    show (1 : Int) ≠ 3
    decide
  · rw [if_pos rfl]
    have he : (onL F l)[k] = l[k] := by rw [onL_at, hF, sG_at hk]; rfl
    by_cases h3 : l[k].kind = 3
    · rw [unit_is hk2 (by rw [he]; exact h3), unit_is hk h3, he, findL_on]
    · rw [unit_not hk2 (by rw [he]; exact h3), unit_not hk h3]
theorem Try.info4 : (Try.prog.info? 4).map (fun i => (i.zero, i.size, i.bytes)) = some (some (.bool false), 1, 1) := by kernel_rfl
theorem make_bools (n : Nat) (hn : n ≤ 2932031007317) (w : World) : (Instr.makeSlice 56 (.int .i64 (n : Int)) (.int .i64 (n : Int))).run Try.prog w = .ok (.slice (some ⟨w.heap.size, 0, none⟩) n n) (w.alloc (.cells (madeCells #[.bool false] n) 4)) :=
  run_make_row' (P := Try.prog) 56 4 (.bool false) 1 Try.underlying56 Try.info4 rfl .i64 .i64 n (by omega) (by omega) w
theorem bo_new (w : World) (n : Nat) : BoAt (w.alloc (.cells (madeCells #[.bool false] n) 4)) w.heap.size n (fun _ => false) := by
  refine ⟨_, World.alloc_heap_new w _, fun i hi => ?_⟩
  have hs : i < (madeCells #[Value.bool false] n).size := by simp [madeCells]; exact hi
  rw [Array.getElem?_eq_getElem hs]
  simp [madeCells, Nat.mod_one]
/-- Does a symbol stand in one of the two? -/
def stB (x1 : ByteArray × Int) (l1 : Fo) (x2 : ByteArray × Int) (l2 : Fo) (q : Nat) : Bool := stR (q : Int) x1 l1 || stR (q : Int) x2 l2
theorem ints_rd {w : World} {base : Nat} {a : Option Addr} {n : Nat} {zs : List Int} (h : IntsZ w base a n zs) : IntsAt w a zs := ⟨by have := h.len; have := h.small; omega, fun i hi => let ⟨b, e1, _, e2, _⟩ := h.cells i hi; ⟨b, 0, e1, by rw [Nat.zero_add]; exact e2⟩⟩
set_option maxRecDepth 100000 in
set_option maxHeartbeats 4000000 in
theorem of_any (p : Option Addr) (n c : Nat) (l : List Sym) (x1 : ByteArray × Int) (l1 : Fo) (a1 : Option Addr) (c1 : Nat) (x2 : ByteArray × Int) (l2 : Fo) (a2 : Option Addr) (c2 : Nat) (w : World) (hI : SigAt w p n l) (hn : n ≤ 2932031007317) (h1 : TmAt w x1 a1 c1 l1) (h2 : TmAt w x2 a2 c2 l2) :
    Calls Try.prog 10 #[.slice p n c, .agg #[.string x1.1, .int .i64 x1.2, .slice a1 (lenF l1) c1], .agg #[.string x2.1, .int .i64 x2.2, .slice a2 (lenF l2) c2]] w fun e w' => ∃ q d, e = .returned (.slice q (refTo (onL (stB x1 l1 x2 l2) l) n).length d) ∧ IntsAt w' q (refTo (onL (stB x1 l1 x2 l2) l) n) ∧ Below w.heap.size w w' := by
  have HI := hid hI; have H1 := hid h1; have H2 := hid h2
  have tb1 := (TBox.new w x1 a1 (lenF l1) c1)
  have b1 : Box ((w.alloc (.cells #[.string x1.1, .int .i64 x1.2, .slice a1 (lenF l1) c1] 26)).alloc (.cells #[.string x2.1, .int .i64 x2.2, .slice a2 (lenF l2) c2] 26)) w.heap.size 26 #[.string x1.1, .int .i64 x1.2, .slice a1 (lenF l1) c1] := (Box.new w 26 _).over _
  have b2 := Box.new (w.alloc (.cells #[.string x1.1, .int .i64 x1.2, .slice a1 (lenF l1) c1] 26)) 26 #[.string x2.1, .int .i64 x2.2, .slice a2 (lenF l2) c2]
  rw [World.size_alloc] at b2
  have hlow : Below w.heap.size w ((w.alloc (.cells #[.string x1.1, .int .i64 x1.2, .slice a1 (lenF l1) c1] 26)).alloc (.cells #[.string x2.1, .int .i64 x2.2, .slice a2 (lenF l2) c2] 26)) := ((Below.refl _ w).alloc (Nat.le_refl _) _).alloc (by simp) _
  have hsz : ((w.alloc (.cells #[.string x1.1, .int .i64 x1.2, .slice a1 (lenF l1) c1] 26)).alloc (.cells #[.string x2.1, .int .i64 x2.2, .slice a2 (lenF l2) c2] 26)).heap.size = w.heap.size + 1 + 1 := by simp only [World.size_alloc]
  have hmk := make_bools n hn ((w.alloc (.cells #[.string x1.1, .int .i64 x1.2, .slice a1 (lenF l1) c1] 26)).alloc (.cells #[.string x2.1, .int .i64 x2.2, .slice a2 (lenF l2) c2] 26))
  have hbo := bo_new ((w.alloc (.cells #[.string x1.1, .int .i64 x1.2, .slice a1 (lenF l1) c1] 26)).alloc (.cells #[.string x2.1, .int .i64 x2.2, .slice a2 (lenF l2) c2] 26)) n
  have bm := alloc_below0 ((w.alloc (.cells #[.string x1.1, .int .i64 x1.2, .slice a1 (lenF l1) c1] 26)).alloc (.cells #[.string x2.1, .int .i64 x2.2, .slice a2 (lenF l2) c2] 26)) (.cells (madeCells #[.bool false] n) 4)
  rw [hsz] at hmk hbo bm
  have HX1 := hid (b1.over (.cells (madeCells #[.bool false] n) 4)); have HX2 := hid (b2.over (.cells (madeCells #[.bool false] n) 4)); have HBO := hid hbo
  have HLW := hid (hlow.trans (bm.mono (by omega)))
  clear hI h1 h2 tb1 b1 b2 hlow hsz hbo bm
  go_enter Try.func10, Try.ntmps10
  go_upto_region 1 with fail
  generalize (w.alloc (.cells #[.string x1.1, .int .i64 x1.2, .slice a1 (lenF l1) c1] 26)).alloc (.cells #[.string x2.1, .int .i64 x2.2, .slice a2 (lenF l2) c2] 26) = W0 at hmk HX1 HX2 HBO HLW ⊢
  go_upto_region 2 with fail
  clear hmk
  generalize W0.alloc (.cells (madeCells #[.bool false] n) 4) = W1 at HX1 HX2 HBO HLW ⊢
  have t0 : W1.cell? ⟨w.heap.size, 0, none⟩ = some (.string x1.1) := HX1.out.c 0
  have t1 : W1.cell? ⟨w.heap.size, 1, none⟩ = some (.int .i64 x1.2) := HX1.out.c 1
  have t2 : W1.cell? ⟨w.heap.size, 2, none⟩ = some (.slice a1 (lenF l1) c1) := HX1.out.c 2
  go_wp2_with fail
  refine (mark_all (nodesF l1) _ n w _ x1 l1 a1 c1 W1 (Nat.le_refl _) H1.out HLW.out (by omega) (by omega) HBO.out).mono ?_
  rintro e w2 ⟨⟨v9, rfl⟩, hb2, hf2⟩
  have HX2b := hid (HX2.out.fr hf2 (by omega))
  have HL2 := hid (HLW.out.trans (hf2.below (fun q hq => by omega) HLW.out.size))
  have HB2 := hid hb2
  clear hb2 hf2 t0 t1 t2 HX1 HX2 HBO
  have t0 : w2.cell? ⟨w.heap.size + 1, 0, none⟩ = some (.string x2.1) := HX2b.out.c 0
  have t1 : w2.cell? ⟨w.heap.size + 1, 1, none⟩ = some (.int .i64 x2.2) := HX2b.out.c 1
  have t2 : w2.cell? ⟨w.heap.size + 1, 2, none⟩ = some (.slice a2 (lenF l2) c2) := HX2b.out.c 2
  go_wp2_with fail
  refine (mark_all (nodesF l2) _ n w _ x2 l2 a2 c2 w2 (Nat.le_refl _) H2.out HL2.out (by omega) (by omega) HB2.out).mono ?_
  rintro e w3 ⟨⟨v8, rfl⟩, hb3, hf3⟩
  have HL3 := hid (HL2.out.trans (hf3.below (fun q hq => by omega) HL2.out.size))
  have HB3 : Hid (BoAt w3 (w.heap.size + 1 + 1) n (stB x1 l1 x2 l2)) := hid (hb3.ext (fun q hq => by unfold stB; rw [Bool.false_or]))
  clear hb3 hf3 t0 t1 t2 HX2b HB2
  go_wp2_with fail
  refine (only_any p n c l (stB x1 l1 x2 l2) _ w3 (HI.out.below HL3.out) hn HB3.out).mono ?_
  rintro e w4 ⟨q4, d4, rfl, hs4, hb4⟩
  have HS4 := hid hs4; have HL4 := hid (HL3.out.trans (hb4.mono HL3.out.size))
  clear hs4 hb4
  go_wp2_with fail
  refine (sunits_any q4 n d4 (onL (stB x1 l1 x2 l2) l) w4 HS4.out (by omega)).mono ?_
  rintro e w5 ⟨a', m, cap', rfl, hz5, hb5⟩
  obtain rfl := hz5.len
  have HZ5 := hid (ints_rd hz5); have HL5 := hid (HL4.out.trans (hb5.mono HL4.out.size))
  clear hz5 hb5
  go_wp2
  go_ret
  exact ⟨_, _, rfl, HZ5.out, HL5.out⟩
end Go.Proofs.Ytplekhfnidhcoaa
