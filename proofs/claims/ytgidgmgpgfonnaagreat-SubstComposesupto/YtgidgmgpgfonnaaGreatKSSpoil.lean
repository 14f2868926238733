import Derived.Test.YtgidgmgpgfonnaaGreatKSRSame
/- What spoil of binds does. -/
namespace Go.Proofs.YtgidgmgpgfonnaaGreat
open Go.RowKit Go.Deep

/-- What spoil has come to: the binds from this place on lie as they lay. -/
structure SpSt (B : Nat) (w : World) (g : Nat) (ks : List Bk) (j : Nat) (W : World) : Prop where
  fr : Fr (fun q => B ≤ q) w W
  cells : ∀ m u, j * 4 ≤ m → (bkAll ks)[m]? = some u → W.cell? ⟨g, m, none⟩ = some u
  row : ∃ cur, W.heap[g]? = some (.cells cur 43 (0, 0))
  gl : GL SepE W ((ks.drop j).map (·.2)) (fun q => B ≤ q ∧ q ≠ g)
theorem set_row {W : World} {g i : Nat} {v : Value} (h : ∃ cur, W.heap[g]? = some (.cells cur 43 (0, 0))) : ∃ cur, (W.setCell ⟨g, i, none⟩ v).heap[g]? = some (.cells cur 43 (0, 0)) := by
  obtain ⟨cur, h⟩ := h
  exact ⟨_, block_set h v⟩
theorem set_cell_other {W : World} {g i m : Nat} {v u : Value} (hne : i ≠ m) (h : W.cell? ⟨g, m, none⟩ = some u) : (W.setCell ⟨g, i, none⟩ v).cell? ⟨g, m, none⟩ = some u := by
  have hlt := World.block_lt_of_cell? W _ h
  cases ho : W.heap[g]? with
  | none => simp [World.cell?, ho] at h
  | some o =>
    cases o with
    | cells cs t fr =>
      have := block_set (k := i) ho v
      simp only [World.cell?, this]
      simp only [World.cell?, ho] at h
      simp at h ⊢
      rw [Array.getElem?_setIfInBounds_ne hne]
      exact h
    | map es c => simp [World.cell?, ho] at h
    | _ => simp [World.cell?, ho] at h
theorem SpSt.step {B : Nat} {w : World} {g : Nat} {ks : List Bk} {j : Nat} {W W1 : World} {A1 A2 : Bl} (h : SpSt B w g ks j W) (h1 : ∀ q, A1 q → B ≤ q ∧ q ≠ g) (h2 : ∀ q, A2 q → (B ≤ q ∧ q ≠ g) ∧ ¬ A1 q) (hgl : GL SepE W ((ks.drop (j + 1)).map (·.2)) A2) (hf : Fr A1 W W1) (hB : B ≤ g) (v : Value) :
    SpSt B w g ks (j + 1) (W1.setCell ⟨g, j * 4, none⟩ v) := by
  obtain ⟨cur, hrow⟩ := h.row
  have hlt := (Array.getElem?_eq_some_iff.1 hrow).1
  have hg1 : W1.heap[g]? = W.heap[g]? := hf.same g hlt (fun ha => (h1 g ha).2 rfl)
  refine ⟨?_, fun m u hm hu => ?_, set_row ⟨cur, hg1.trans hrow⟩, ?_⟩
  · refine h.fr.trans ((hf.mono (fun q hq => (h1 q hq).1)).trans ?_)
    exact ⟨(Below.refl _ W1).setCell (p := ⟨g, j * 4, none⟩) (Nat.zero_le _) v, fun q _ hq => Below.heap_setCell W1 _ _ q (fun e => hq (by rw [e]; exact hB))⟩
  · have hc := h.cells m u (by omega) hu
    refine set_cell_other (by omega) ?_
    rw [World.cell?_of_block (w := W) (a := ⟨g, m, none⟩) hg1]
    exact hc
  · have k1 : GL SepE W1 ((ks.drop (j + 1)).map (·.2)) A2 := hgl.keep sepE (fun q hq hlt => hf.same q hlt (h2 q hq).2)
    have k2 : GL SepE (W1.setCell ⟨g, j * 4, none⟩ v) ((ks.drop (j + 1)).map (·.2)) A2 := k1.keep sepE (fun q hq _ => Below.heap_setCell W1 _ _ q (h2 q hq).1.2)
    exact k2.mono (fun q hq => (h2 q hq).1)
set_option maxRecDepth 100000 in
set_option maxHeartbeats 4000000 in
theorem spoilb_any (B : Nat) (v : Value) (ks : List Bk) (w : World) (hS : SepB B w v ks) : Calls Tryz.prog 15 #[v] w fun e w' => (∃ u, e = .returned u) ∧ Fr (fun q => B ≤ q) w w' := by
  rcases hS.slice with ⟨rfl, rfl⟩ | ⟨g, cap, rfl⟩
  · go_enter Tryz.func15, Tryz.ntmps15
    go_wp2_with fail
    go_loopw [2] (fun iv wr => iv = .int .i64 0 ∧ wr = w) (fun _ _ => 0)
    case atStart => exact ⟨rfl, rfl⟩
    case round =>
      obtain ⟨rfl, rfl⟩ := hrel
      go_wp2
      go_end0
      exact ⟨⟨_, rfl⟩, Fr.refl _ _⟩
  · have hcap := owns_cap hS.row
    have hBg : B ≤ g := (owns_cells hS.row rfl).1
    have hat := owns_at hS.row
    have S0 : Hid (SpSt B w g ks 0 w) := hid ⟨Fr.refl _ _, fun m u _ hu => by have := hat m u hu; rwa [Nat.zero_add] at this, (owns_cells hS.row rfl).2, hS.gl.mono (fun q hq => ⟨hq.1, fun e => hq.2 (by rw [e]; rfl)⟩)⟩
    have hmax : maxLen = 9223372036854775807 := rfl
    have hn : ks.length ≤ 9223372036854775807 := by omega
    clear hS hat
    go_enter Tryz.func15, Tryz.ntmps15
    go_wp2_with fail
    go_loopw [2] (fun iv wr => ∃ j : Nat, j ≤ ks.length ∧ iv = .int .i64 j ∧ SpSt B w g ks j wr) (fun iv _ => ks.length - (intOf iv).toNat)
    case atStart => exact ⟨0, Nat.zero_le _, rfl, S0.out⟩
    case round =>
      obtain ⟨j, hj, rfl, hst⟩ := hrel
      have HST := hid hst
      by_cases hlt : j < ks.length
      · have hgl := hst.gl
        rw [List.drop_eq_getElem_cons hlt] at hgl
        obtain ⟨A1, A2, h1, h2, hE, hr⟩ := hgl
        have c1 := hst.cells (j * 4 + 1) _ (by omega) (by rw [bkAll_at ks j hlt 1 (by decide)]; rfl)
        have c2 := hst.cells (j * 4 + 2) _ (by omega) (by rw [bkAll_at ks j hlt 2 (by decide)]; rfl)
        have c3 := hst.cells (j * 4 + 3) _ (by omega) (by rw [bkAll_at ks j hlt 3 (by decide)]; rfl)
        have c0 := hst.cells (j * 4) _ (by omega) (by rw [show j * 4 = j * 4 + 0 from rfl, bkAll_at ks j hlt 0 (by decide)]; rfl)
        obtain ⟨cur, hrow⟩ := hst.row
        have hglt := (Array.getElem?_eq_some_iff.1 hrow).1
        obtain ⟨⟨vn, ⟨x, l, a, c⟩⟩, hy⟩ : ∃ y, ks[j] = y := ⟨_, rfl⟩
        rw [hy] at c0 c1 c2 c3 hE
        have HC := hid (spoil_any A1 x l a c wr hE)
        have H1 := hid h1; have H2 := hid h2; have HR := hid hr
        dsimp only at c0 c1 c2 c3
        have hj0 : (0 : Int) ≤ (j : Int) := by omega
        have hjn : (j : Int) < (ks.length : Int) := by omega
        have HROW := hid hrow
        have C0 := hid c0
        clear hst hE hr h1 h2 hy hrow c0
        go_wp2_with fail
        refine HC.out.mono ?_
        rintro e w1 ⟨⟨u, rfl⟩, hf⟩
        have hg1 : w1.heap[g]? = wr.heap[g]? := hf.same g hglt (fun ha => (H1.out g ha).2 rfl)
        have d0 : w1.cell? ⟨g, j * 4, none⟩ = some (.string vn) := by rw [World.cell?_of_block (w := wr) (a := ⟨g, j * 4, none⟩) hg1]; exact C0.out
        have f0 : w1.frozen? ⟨g, j * 4, none⟩ = false := row_frozen (hg1.trans HROW.out)
        have HF := hid hf
        clear hf hg1 HC c1 c2 c3
        go_wp2_with fail
        go_roundw
        case rel => exact ⟨j + 1, by omega, by go_num, HST.out.step H1.out H2.out HR.out HF.out hBg _⟩
        case measure => simp [intOf]; omega
      · clear hst
        go_wp2
        go_end0
        exact ⟨⟨_, rfl⟩, HST.out.fr⟩
end Go.Proofs.YtgidgmgpgfonnaaGreat
