/- lent: rows in memory of their own, with marks behind. -/
import Derived.Test.YteakakonjfcpmaaDoorPkLnA
namespace Go.Proofs.YteakakonjfcpmaaDoor
open Go.RowKit Go.Shelf

theorem made_z (z : Value) (hz : z.cells = #[z]) (n : Nat) : madeCells z.cells (n * 1) = (List.replicate n z).toArray := Array.toList_inj.1 (by
  rw [Nat.mul_one, hz]
  exact toList_madeCells_one _ _)
theorem mk_g {P : Program} (t e : TypeId) (i : TypeInfo) (z : Value) (bytes : Nat) (ht : P.underlying t = some (.slice e)) (hi : P.info? e = some i) (hz : i.zero = some z) (hsize : i.size = 1) (hby : i.bytes = bytes) (hzc : z.cells = #[z]) (W : World) (n : Nat) (hb : (n + 1) * bytes ≤ 140737488355328) (hn : n ≤ 1048576) :
    (Instr.makeSlice t (.int .i64 0) (.int .i64 ((n : Int) + 1))).run P W = .ok (.slice (some ⟨W.heap.size, 0, none⟩) 0 (n + 1)) (W.alloc (.cells (List.replicate (n + 1) z).toArray e)) := by
  have hb3 : (bytes : Int) * ((n : Int) + 1) = (((n + 1) * bytes : Nat) : Int) := by rw [Int.natCast_mul, Int.natCast_add, Int.mul_comm]; rfl
  have hmk := run_make (P := P) W t e i z ht hi hz .i64 .i64 (0 : Int) ((n : Int) + 1) (by omega) (by omega) (by rw [hby, hb3]; omega) (by omega)
  rw [hsize, show ((n : Int) + 1).toNat = n + 1 by omega, made_z z hzc] at hmk
  exact hmk
theorem rowg_new (W : World) (n e : Nat) (z : Value) : RowG (W.alloc (.cells (List.replicate n z).toArray e)) W.heap.size n e z [] := ⟨Nat.zero_le _, by
  rw [World.alloc_heap_new]
  simp⟩
set_option maxRecDepth 100000 in
set_option maxHeartbeats 8000000 in
theorem lent_any (a : Option Addr) (c : Nat) (rs : List (List Int)) (w : World) (hN : ∀ i (hi : i < rs.length), ∃ b o q c, a = some ⟨b, o, none⟩ ∧ w.cell? ⟨b, o + i, none⟩ = some (.slice q rs[i].length c) ∧ IntsAt w q rs[i] ∧ (q = none → c = 0)) (hn : rs.length ≤ 1048576) (hr : ∀ r ∈ rs, r.length ≤ 1048576) :
    Calls Tryd.prog 15 #[.slice a rs.length c] w fun e w' => ∃ g, e = .returned (.slice (some ⟨g, 0, none⟩) rs.length (rs.length + 1)) ∧ LentAt w' w.heap.size g rs ∧ Below w.heap.size w w' := by
  obtain ⟨i3, hi3, hy0, hy1, hy2⟩ := info_parts Tryd.info3
  obtain ⟨i9, hi9, hz0, hz1, hz2⟩ := info_parts Tryd.info29
  have hmax : maxLen = 9223372036854775807 := rfl
  have HN := hid hN; have HRR := hid hr
  clear hN hr
  have hmk := mk_g 27 29 i9 _ 24 Tryd.underlying27 hi9 hz0 hz1 hz2 rfl w rs.length (by omega) hn
  have HG1 := hid (rowg_new w (rs.length + 1) 29 (.slice none 0 0))
  have HB1 := hid (alloc_below0 w (.cells (List.replicate (rs.length + 1) (Value.slice none 0 0)).toArray 29))
  generalize w.alloc (.cells (List.replicate (rs.length + 1) (Value.slice none 0 0)).toArray 29) = w1 at hmk HG1 HB1
  go_enter Tryd.func15, Tryd.ntmps15
  go_wp2_with fail
  clear hmk
  go_loopw [3, 4] (fun lv iv wr => ∃ (j : Nat) (vs : List Value), j ≤ rs.length ∧ iv = .int .i64 j ∧ vs.length = j ∧ lv = .slice (some ⟨w.heap.size, 0, none⟩) j (rs.length + 1) ∧ RowG wr w.heap.size (rs.length + 1) 29 (.slice none 0 0) vs ∧ Below w.heap.size w wr ∧
      ∀ i (h : i < rs.length), i < j → ∃ gi, vs[i]? = some (.slice (some ⟨gi, 0, none⟩) rs[i].length (rs[i].length + 1)) ∧ w.heap.size < gi ∧ wr.heap[gi]? = some (.cells (cAll rs[i] ++ [Value.int .i64 77]).toArray 3 (0, 0))) (fun _ iv _ => rs.length - (intOf iv).toNat)
  case atStart => exact ⟨0, [], Nat.zero_le _, rfl, rfl, rfl, HG1.out, HB1.out, fun i _ h => absurd h (Nat.not_lt_zero i)⟩
  case round =>
    obtain ⟨j, vs, hj, rfl, hvj, rfl, hG, hb, hrows⟩ := hrel
    have HG := hid hG; have HB := hid hb; have HRW := hid hrows; have HVJ := hid hvj
    have hHs : w.heap.size < wr.heap.size := hG.lt
    by_cases hlt : j < rs.length
    · obtain ⟨b1, o1, p1, c1, rfl, hc0, hrow0, hnil⟩ := HN.out j hlt
      have hrl := HRR.out rs[j] (List.getElem_mem hlt)
      have HRJ : Hid (∀ r, rs[j] = r → ∀ gi, (w.heap.size < gi) → ∀ W : World, W.heap[gi]? = some (.cells (cAll r ++ [Value.int .i64 77]).toArray 3 (0, 0)) → ∃ gj, (vs ++ [Value.slice (some ⟨gi, 0, none⟩) r.length (r.length + 1)])[j]? = some (.slice (some ⟨gj, 0, none⟩) rs[j].length (rs[j].length + 1)) ∧ w.heap.size < gj ∧ W.heap[gj]? = some (.cells (cAll rs[j] ++ [Value.int .i64 77]).toArray 3 (0, 0))) := hid (by
        rintro r rfl gi hgi W hW
        exact ⟨gi, by rw [List.getElem?_append_right (by omega), hvj, Nat.sub_self]; rfl, hgi, hW⟩)
      obtain ⟨r, hr⟩ : ∃ r, rs[j] = r := ⟨_, rfl⟩
      rw [hr] at hc0 hrow0 hrl
      have HRJ2 := hid (HRJ.out r hr)
      clear HRJ
      have hbd : Below w.heap.size w wr.drew := hb.drew
      have q0 := below_cell hbd _ _ hc0
      have hsrc0 := hrow0.below hbd
      have hsD : wr.drew.heap.size = wr.heap.size := rfl
      -- the two worlds in which the row may be made
      have m1 := mk_g 29 3 i3 _ 8 Tryd.underlying29 hi3 hy0 hy1 hy2 rfl wr.drew r.length (by omega) hrl
      have m2 := mk_g 29 3 i3 _ 8 Tryd.underlying29 hi3 hy0 hy1 hy2 rfl (wr.drew.alloc (.cells #[.int .i64 77] 3)) r.length (by omega) hrl
      rw [World.size_alloc] at m2
      have R1 := rowg_new wr.drew (r.length + 1) 3 (.int .i64 0)
      have R3 := rowg_new (wr.drew.alloc (.cells #[.int .i64 77] 3)) (r.length + 1) 3 (.int .i64 0)
      rw [World.size_alloc] at R3
      rw [hsD] at m1 m2 R1 R3
      have bM := alloc_below0 wr.drew (.cells #[.int .i64 77] 3)
      have nM := World.alloc_heap_new wr.drew (.cells #[.int .i64 77] 3)
      have sM := World.size_alloc wr.drew (.cells #[.int .i64 77] 3)
      have bA := alloc_below0 wr.drew (.cells (List.replicate (r.length + 1) (Value.int .i64 0)).toArray 3)
      have sA := World.size_alloc wr.drew (.cells (List.replicate (r.length + 1) (Value.int .i64 0)).toArray 3)
      have bC := alloc_below0 (wr.drew.alloc (.cells #[.int .i64 77] 3)) (.cells (List.replicate (r.length + 1) (Value.int .i64 0)).toArray 3)
      have sC := World.size_alloc (wr.drew.alloc (.cells #[.int .i64 77] 3)) (.cells (List.replicate (r.length + 1) (Value.int .i64 0)).toArray 3)
      generalize (wr.drew.alloc (.cells #[.int .i64 77] 3)).alloc (.cells (List.replicate (r.length + 1) (Value.int .i64 0)).toArray 3) = WC at m2 R3 bC sC
      generalize wr.drew.alloc (.cells (List.replicate (r.length + 1) (Value.int .i64 0)).toArray 3) = WA at m1 R1 bA sA
      rw [hsD] at bM nM sM bA sA
      rw [sM] at bC sC
      have BC : Below wr.heap.size wr.drew WC := bM.trans (bC.mono (by omega))
      have bB := alloc_below0 WA (.cells #[.int .i64 77] 3)
      have nB := World.alloc_heap_new WA (.cells #[.int .i64 77] 3)
      have sB := World.size_alloc WA (.cells #[.int .i64 77] 3)
      rw [sA] at bB nB sB
      have BB : Below wr.heap.size wr.drew (WA.alloc (.cells #[.int .i64 77] 3)) := bA.trans (bB.mono (by omega))
      have R2 : RowG (WA.alloc (.cells #[.int .i64 77] 3)) wr.heap.size (r.length + 1) 3 (.int .i64 0) [] := R1.same (bB.block _ (by omega))
      have src : ∀ X : World, Below wr.heap.size wr.drew X → (p1 = none ∧ r.length = 0 ∧ c1 = 0 ∧ cAll r = []) ∨ ∃ ad, p1 = some ad ∧ (cAll r).length = r.length ∧ ∀ j u, (cAll r)[j]? = some u → X.cell? (ad.add j) = some u := fun X hX => by
        have h9 := src_i c1 (hsrc0.below (w' := X) hX) hnil
        rw [Nat.mul_one] at h9
        exact h9
      have cel : ∀ X : World, Below wr.heap.size wr.drew X → X.cell? ⟨b1, o1 + j, none⟩ = some (.slice p1 r.length c1) := fun X hX => below_cell (w := wr.drew) hX _ _ q0
      -- the row's numbers
      obtain ⟨xA, eA, gA, fA, zA⟩ := run_room 29 29 3 i3 _ Tryd.underlying29 hi3 hy1 WA wr.heap.size (r.length + 1) [] R1 p1 r.length c1 (cAll r) (src WA bA) (cAll_one r) (by simp)
      obtain ⟨xB, eB, gB, fB, zB⟩ := run_room 29 29 3 i3 _ Tryd.underlying29 hi3 hy1 _ wr.heap.size (r.length + 1) [] R2 p1 r.length c1 (cAll r) (src _ BB) (cAll_one r) (by simp)
      obtain ⟨xC, eC, gC, fC, zC⟩ := run_room 29 29 3 i3 _ Tryd.underlying29 hi3 hy1 WC (wr.heap.size + 1) (r.length + 1) [] R3 p1 r.length c1 (cAll r) (src WC BC) (cAll_one r) (by simp)
      rw [List.nil_append] at gA gB gC
      simp only [List.length_nil, Nat.zero_add] at eA eB eC
      have BxA : Below wr.heap.size wr.drew xA := bA.trans (fA.below (fun b e => by omega) (by omega))
      have BxB : Below wr.heap.size wr.drew xB := BB.trans (fB.below (fun b e => by omega) (by omega))
      have BxC : Below wr.heap.size wr.drew xC := BC.trans (fC.below (fun b e => by omega) (by omega))
      have bY := alloc_below0 xA (.cells #[.int .i64 77] 3)
      have nY := World.alloc_heap_new xA (.cells #[.int .i64 77] 3)
      have sY := World.size_alloc xA (.cells #[.int .i64 77] 3)
      rw [zA, sA] at bY nY sY
      have gY : RowG (xA.alloc (.cells #[.int .i64 77] 3)) wr.heap.size (r.length + 1) 3 (.int .i64 0) (cAll r) := gA.same (bY.block _ (by omega))
      have BY : Below wr.heap.size wr.drew (xA.alloc (.cells #[.int .i64 77] 3)) := BxA.trans (bY.mono (by omega))
      have nxB : xB.heap[wr.heap.size + 1]? = some (.cells #[.int .i64 77] 3 (0, 0)) := (fB.same _ (by omega) (by omega)).trans nB
      have nxC : xC.heap[wr.heap.size]? = some (.cells #[.int .i64 77] 3 (0, 0)) := (fC.same _ (by omega) (by omega)).trans ((bC.block _ (by omega)).trans nM)
      have one : ∀ (X : World) (h : Nat), X.heap[h]? = some (.cells #[.int .i64 77] 3 (0, 0)) → ((some (⟨h, 0, none⟩ : Addr) = none ∧ 1 = 0 ∧ 1 = 0 ∧ [Value.int .i64 77] = []) ∨ ∃ ad, some (⟨h, 0, none⟩ : Addr) = some ad ∧ [Value.int .i64 77].length = 1 ∧ ∀ j u, [Value.int .i64 77][j]? = some u → X.cell? (ad.add j) = some u) := fun X h hX => .inr ⟨_, rfl, rfl, fun j u hj => by
        match j, hj with
        | 0, hj =>
          simp at hj
          subst hj
          rw [Addr.add_lit]
          exact cell_box hX rfl⟩
      have onec : ∀ u ∈ [Value.int .i64 77], u.oneCell' = true := fun u hu => by rw [List.mem_singleton.1 hu]; rfl
      have hcl := cAll_len r
      obtain ⟨yA, e4A, g4A, f4A, z4A⟩ := run_room 29 29 3 i3 _ Tryd.underlying29 hi3 hy1 _ wr.heap.size (r.length + 1) (cAll r) gY (some ⟨wr.heap.size + 1, 0, none⟩) 1 1 [.int .i64 77] (one _ _ nY) onec (by rw [hcl]; omega)
      obtain ⟨yB, e4B, g4B, f4B, z4B⟩ := run_room 29 29 3 i3 _ Tryd.underlying29 hi3 hy1 xB wr.heap.size (r.length + 1) (cAll r) gB (some ⟨wr.heap.size + 1, 0, none⟩) 1 1 [.int .i64 77] (one _ _ nxB) onec (by rw [hcl]; omega)
      obtain ⟨yC, e4C, g4C, f4C, z4C⟩ := run_room 29 29 3 i3 _ Tryd.underlying29 hi3 hy1 xC (wr.heap.size + 1) (r.length + 1) (cAll r) gC (some ⟨wr.heap.size, 0, none⟩) 1 1 [.int .i64 77] (one _ _ nxC) onec (by rw [hcl]; omega)
      rw [hcl] at e4A e4B e4C
      have ByA : Below wr.heap.size wr.drew yA := BY.trans (f4A.below (fun b e => by omega) (by omega))
      have ByB : Below wr.heap.size wr.drew yB := BxB.trans (f4B.below (fun b e => by omega) (by omega))
      have ByC : Below wr.heap.size wr.drew yC := BxC.trans (f4C.below (fun b e => by omega) (by omega))
      have cD := q0
      have cM := cel _ bM
      have cA := cel _ bA
      have cB := cel _ BB
      have cC := cel _ BC
      have cxA := cel _ BxA
      have cxB := cel _ BxB
      have cxC := cel _ BxC
      have cY := cel _ BY
      have cyA := cel _ ByA
      have cyB := cel _ ByB
      have cyC := cel _ ByC
      have fin : ∀ (y : World) (g : Nat), Below wr.heap.size wr.drew y → wr.heap.size ≤ g → RowG y g (r.length + 1) 3 (.int .i64 0) (cAll r ++ [.int .i64 77]) → ∃ t, (Builtin.append_ #[27, 27] 27 #[.slice (some ⟨w.heap.size, 0, none⟩) j (rs.length + 1), .slice (some ⟨y.heap.size, 0, none⟩) 1 1]).run Tryd.prog (y.alloc (.cells #[.slice (some ⟨g, 0, none⟩) r.length (r.length + 1)] 29)) = .ok (.slice (some ⟨w.heap.size, 0, none⟩) (j + 1) (rs.length + 1)) t ∧
          (RowG t w.heap.size (rs.length + 1) 29 (.slice none 0 0) (vs ++ [Value.slice (some ⟨g, 0, none⟩) r.length (r.length + 1)]) ∧ Below w.heap.size w t ∧ ∀ i (h : i < rs.length), i < j + 1 → ∃ gi, (vs ++ [Value.slice (some ⟨g, 0, none⟩) r.length (r.length + 1)])[i]? = some (.slice (some ⟨gi, 0, none⟩) rs[i].length (rs[i].length + 1)) ∧ w.heap.size < gi ∧ t.heap[gi]? = some (.cells (cAll rs[i] ++ [Value.int .i64 77]).toArray 3 (0, 0))) := fun y g hy hg hrow => by
        have b7 := alloc_below0 y (.cells #[.slice (some ⟨g, 0, none⟩) r.length (r.length + 1)] 29)
        have n7 := World.alloc_heap_new y (.cells #[.slice (some ⟨g, 0, none⟩) r.length (r.length + 1)] 29)
        generalize y.alloc (.cells #[.slice (some ⟨g, 0, none⟩) r.length (r.length + 1)] 29) = y7 at b7 n7
        have hys := hy.size
        rw [hsD] at hys
        have B7 : Below wr.heap.size wr.drew y7 := hy.trans (b7.mono hys)
        have G7 : RowG y7 w.heap.size (rs.length + 1) 29 (.slice none 0 0) vs := HG.out.same ((B7.block _ hHs).trans rfl)
        obtain ⟨t, e1, e2, e3, e4⟩ := run_room (P := Tryd.prog) 27 27 29 i9 _ Tryd.underlying27 hi9 hz1 y7 w.heap.size (rs.length + 1) vs G7 (some ⟨y.heap.size, 0, none⟩) 1 1 [.slice (some ⟨g, 0, none⟩) r.length (r.length + 1)] (.inr ⟨_, rfl, rfl, fun k u hk => by
          match k, hk with
          | 0, hk =>
            simp at hk
            subst hk
            rw [Addr.add_lit]
            exact cell_box n7 rfl⟩) (fun u hu => by rw [List.mem_singleton.1 hu]; rfl) (by rw [HVJ.out]; omega)
        rw [HVJ.out] at e1
        have hB : Below w.heap.size w t := (HB.out.drew.trans (B7.mono (by omega))).trans (e3.below (fun b e => by omega) (by have := B7.size; rw [hsD] at this; omega))
        have hrw : t.heap[g]? = some (.cells (cAll r ++ [Value.int .i64 77]).toArray 3 (0, 0)) := by
          have h9 := hrow.2
          rw [List.length_append, cAll_len, show r.length + 1 - (r.length + [Value.int .i64 77].length) = 0 by simp, List.replicate_zero, List.append_nil] at h9
          have hgl := hrow.lt
          exact (e3.same g (Nat.lt_of_lt_of_le hgl b7.size) (by omega)).trans ((b7.block g hgl).trans h9)
        refine ⟨t, e1, e2, hB, fun i hi hij => ?_⟩
        by_cases hji : i = j
        · subst hji
          exact HRJ2.out g (by omega) t hrw
        · obtain ⟨gi, k1, k2, k3⟩ := HRW.out i hi (by omega)
          have hgi := (Array.getElem?_eq_some_iff.1 k3).1
          exact ⟨gi, by rw [List.getElem?_append_left (by rw [HVJ.out]; omega)]; exact k1, k2, (e3.same gi (Nat.lt_of_lt_of_le (by rw [← hsD] at hgi; exact hgi) (Nat.le_trans B7.size (Nat.le_refl _))) (by omega)).trans ((B7.block gi (by rw [← hsD]; exact hgi)).trans k3)⟩
      obtain ⟨tA, e7A, i7A⟩ := fin yA wr.heap.size ByA (Nat.le_refl _) g4A
      obtain ⟨tB, e7B, i7B⟩ := fin yB wr.heap.size ByB (Nat.le_refl _) g4B
      obtain ⟨tC, e7C, i7C⟩ := fin yC (wr.heap.size + 1) ByC (by omega) g4C
      have czA := below_cell (alloc_below0 yA (.cells #[.slice (some ⟨wr.heap.size, 0, none⟩) r.length (r.length + 1)] 29)) _ _ cyA
      have czB := below_cell (alloc_below0 yB (.cells #[.slice (some ⟨wr.heap.size, 0, none⟩) r.length (r.length + 1)] 29)) _ _ cyB
      have czC := below_cell (alloc_below0 yC (.cells #[.slice (some ⟨wr.heap.size + 1, 0, none⟩) r.length (r.length + 1)] 29)) _ _ cyC
      have ctA := below_cell i7A.2.1 _ _ hc0
      have ctB := below_cell i7B.2.1 _ _ hc0
      have ctC := below_cell i7C.2.1 _ _ hc0
      have I7A := hid i7A; have I7B := hid i7B; have I7C := hid i7C
      have SA : xA.heap.size = wr.heap.size + 1 := by omega
      clear fin src cel one onec i7A i7B i7C g4A g4B g4C f4A f4B f4C z4A z4B z4C ByA ByB ByC gA gB gC gY fA fB fC zA zB zC BxA BxB BxC bY nY sY BY nxB nxC bM nM sM bA bC sC BC bB nB sB BB R1 R2 R3 hsrc0 hrow0 hnil hcl hG hb hrows hbd hsD hc0 HRJ2
      have m2' : (Instr.makeSlice 29 (.int .i64 0) (.int .i64 ((r.length : Int) + 1))).run Tryd.prog (wr.alloc (.cells #[.int .i64 77] 3)).drew = .ok (.slice (some ⟨wr.heap.size + 1, 0, none⟩) 0 (r.length + 1)) WC := m2
      have cM' : (wr.alloc (.cells #[.int .i64 77] 3)).drew.cell? ⟨b1, o1 + j, none⟩ = some (.slice p1 r.length c1) := cM
      clear m2 cM
      have hwr1 : IntKind.i64.wrap ((r.length : Int) + 1) = (r.length : Int) + 1 := IntWalk.i64_in _ (by constructor <;> omega)
      obtain ⟨n1, hn1⟩ : ∃ n1, r.length + 1 = n1 := ⟨_, rfl⟩
      have hn1z : (r.length : Int) + 1 = (n1 : Int) := by omega
      simp only [hn1] at m1 m2' eA eB eC e4A e4B e4C e7A e7B e7C czA czB czC I7A I7B I7C
      rw [hn1z] at m1 m2'
      have hwr2 := hwr1.trans hn1z
      clear hwr1
      have hle1 : (r.length : Int) ≤ (n1 : Int) := by omega
      have hle2 : r.length ≤ n1 := by omega
      have hle0 : (0 : Int) ≤ (r.length : Int) := by omega
      clear hn1 hn1z
      go_wp2_with fail
      go_region_held3 (fun w' => w'.cell? ⟨b1, o1 + j, none⟩ = some (.slice p1 r.length c1)) ((first
        | exact cD | exact cM' | exact cA | exact cB | exact cC | exact cxA | exact cxB | exact cxC | exact cY | exact cyA | exact cyB | exact cyC | exact czA | exact czB | exact czC | exact ctA | exact ctB | exact ctC | fail)) ((first
        | ((with_reducible refine step_append_run ?_ (.tmp 22) (.tmp 26) 29 ?_ _ _ ?_ ?_ _ _ eA ?_); (solve | rfl); (solve | rfl); (solve | rfl); (solve | rfl))
        | ((with_reducible refine step_append_run ?_ (.tmp 22) (.tmp 26) 29 ?_ _ _ ?_ ?_ _ _ eB ?_); (solve | rfl); (solve | rfl); (solve | rfl); (solve | rfl))
        | ((with_reducible refine step_append_run ?_ (.tmp 22) (.tmp 26) 29 ?_ _ _ ?_ ?_ _ _ eC ?_); (solve | rfl); (solve | rfl); (solve | rfl); (solve | rfl))
        | ((with_reducible refine step_append_run ?_ (.tmp 27) (.tmp 28) 29 ?_ _ _ ?_ ?_ _ _ e4A ?_); (solve | rfl); (solve | rfl); (solve | rfl); (solve | rfl))
        | ((with_reducible refine step_append_run ?_ (.tmp 27) (.tmp 28) 29 ?_ _ _ ?_ ?_ _ _ e4B ?_); (solve | rfl); (solve | rfl); (solve | rfl); (solve | rfl))
        | ((with_reducible refine step_append_run ?_ (.tmp 27) (.tmp 28) 29 ?_ _ _ ?_ ?_ _ _ e4C ?_); (solve | rfl); (solve | rfl); (solve | rfl); (solve | rfl))
        | ((with_reducible refine step_append_run ?_ (.tmp 15) (.tmp 36) 27 ?_ _ _ ?_ ?_ _ _ e7A ?_); (solve | rfl); (solve | rfl); (solve | rfl); (solve | rfl))
        | ((with_reducible refine step_append_run ?_ (.tmp 15) (.tmp 36) 27 ?_ _ _ ?_ ?_ _ _ e7B ?_); (solve | rfl); (solve | rfl); (solve | rfl); (solve | rfl))
        | ((with_reducible refine step_append_run ?_ (.tmp 15) (.tmp 36) 27 ?_ _ _ ?_ ?_ _ _ e7C ?_); (solve | rfl); (solve | rfl); (solve | rfl); (solve | rfl))
        | fail))
      all_goals
        go_wp2_with fail
        go_roundw
        case rel => first
          | exact ⟨j + 1, _, by omega, by go_num, by simp [HVJ.out], rfl, I7A.out.1, I7A.out.2.1, I7A.out.2.2⟩
          | exact ⟨j + 1, _, by omega, by go_num, by simp [HVJ.out], rfl, I7B.out.1, I7B.out.2.1, I7B.out.2.2⟩
          | exact ⟨j + 1, _, by omega, by go_num, by simp [HVJ.out], rfl, I7C.out.1, I7C.out.2.1, I7C.out.2.2⟩
        case measure => simp [intOf]; omega
    · have e1 : j = rs.length := by omega
      subst e1
      have b5 := alloc_below0 wr (.cells #[.int .i64 77] 3)
      have n5 := World.alloc_heap_new wr (.cells #[.int .i64 77] 3)
      have s5 := World.size_alloc wr (.cells #[.int .i64 77] 3)
      have b6 := alloc_below0 (wr.alloc (.cells #[.int .i64 77] 3)) (.cells #[.slice (some ⟨wr.heap.size, 0, none⟩) 1 1] 29)
      have n6 := World.alloc_heap_new (wr.alloc (.cells #[.int .i64 77] 3)) (.cells #[.slice (some ⟨wr.heap.size, 0, none⟩) 1 1] 29)
      rw [s5] at b6 n6
      have B6 := b5.trans (b6.mono (by omega))
      have N5 := (b6.block _ (by omega)).trans n5
      have G6 := HG.out.same (B6.block _ hHs)
      obtain ⟨t, e1, e2, e3, e4⟩ := run_room (P := Tryd.prog) 27 27 29 i9 _ Tryd.underlying27 hi9 hz1 _ w.heap.size (rs.length + 1) vs G6 (some ⟨wr.heap.size + 1, 0, none⟩) 1 1 [.slice (some ⟨wr.heap.size, 0, none⟩) 1 1] (.inr ⟨_, rfl, rfl, fun k u hk => by
          match k, hk with
          | 0, hk =>
            simp at hk
            subst hk
            rw [Addr.add_lit]
            exact cell_box n6 rfl⟩) (fun u hu => by rw [List.mem_singleton.1 hu]; rfl) (by rw [HVJ.out]; omega)
      rw [HVJ.out] at e1
      have hz6 := B6.size
      have hB : Below w.heap.size w t := (HB.out.trans (B6.mono (by omega))).trans (e3.below (fun b e => by omega) (by omega))
      have h9 := e2.2
      rw [List.length_append, HVJ.out, show rs.length + 1 - (rs.length + [Value.slice (some ⟨wr.heap.size, 0, none⟩) 1 1].length) = 0 by simp, List.replicate_zero, List.append_nil] at h9
      have HLE : Hid (LentAt t w.heap.size w.heap.size rs) := hid ⟨hn, HRR.out, Nat.le_refl _, vs, wr.heap.size, HVJ.out, h9, by omega, (e3.same _ (Array.getElem?_eq_some_iff.1 N5).1 (by omega)).trans N5, fun i hi => by
        obtain ⟨gi, k1, k2, k3⟩ := HRW.out i hi hi
        have hgi := (Array.getElem?_eq_some_iff.1 k3).1
        exact ⟨gi, k1, by omega, (e3.same gi (by omega) (by omega)).trans ((B6.block gi hgi).trans k3)⟩⟩
      have HBT := hid hB
      clear b5 n5 s5 b6 n6 B6 N5 G6 e2 e3 e4 hz6 hB h9 hG hb hrows
      go_wp2_with (first
        | (at_builtin; refine Lib.wpList_append_run _ rfl _ _ _ _ rfl _ _ rfl rfl _ _ e1 ?_; clear e1)
        | fail)
      go_ret
      exact ⟨_, rfl, HLE.out, HBT.out⟩
end Go.Proofs.YteakakonjfcpmaaDoor
