import Derived.Test.YtgidgmgpgfonnaaGreatKSSepB
/- The library's stable sort of binds, and binds under way. -/
namespace Go.Proofs.YtgidgmgpgfonnaaGreat
open Go.RowKit Go.Deep

set_option maxRecDepth 100000 in
set_option maxHeartbeats 2000000 in
theorem ins_none (a : Option Addr) (c : Nat) (cmp : Value) (w : World) :
    Calls Tryz.prog 76 #[.slice a 0 c, .int .i64 0, .int .i64 0, cmp] w fun e w' => e = .returned (.tuple #[]) ∧ w' = w := by
  go_enter Tryz.func76, Tryz.ntmps76
  go_wp2_with fail
  go_loopw [8] (fun iv wr => iv = .int .i64 1 ∧ wr = w) (fun _ _ => 0)
  case atStart => exact ⟨rfl, rfl⟩
  case round =>
    obtain ⟨rfl, rfl⟩ := hrel
    go_wp2
    go_end0
    exact ⟨rfl, rfl⟩
set_option maxRecDepth 100000 in
set_option maxHeartbeats 2000000 in
theorem stable_none (a : Option Addr) (c : Nat) (cmp : Value) (w : World) :
    Calls Tryz.prog 54 #[.slice a 0 c, .int .i64 0, cmp] w fun e w' => e = .returned (.tuple #[]) ∧ w' = w := by
  go_enter Tryz.func54, Tryz.ntmps54
  go_wp2_with fail
  go_loopw [7, 8] (fun av ov wr => av = .int .i64 0 ∧ ov = .int .i64 20 ∧ wr = w) (fun _ _ _ => 0)
  case atStart => exact ⟨rfl, rfl, rfl⟩
  case round =>
    obtain ⟨rfl, rfl, rfl⟩ := hrel
    go_wp2_with fail
    refine (ins_none a c cmp _).mono ?_
    rintro e w1 ⟨rfl, rfl⟩
    go_wp2_with fail
    go_loopw [6] (fun ov wr => ov = .int .i64 20 ∧ wr = w1) (fun _ _ => 0)
    case atStart => exact ⟨rfl, rfl⟩
    case round =>
      obtain ⟨rfl, rfl⟩ := hrel
      go_wp2
      go_end0
      exact ⟨rfl, rfl⟩
set_option maxRecDepth 100000 in
theorem sort_none (a : Option Addr) (c : Nat) (cmp : Value) (w : World) :
    Calls Tryz.prog 29 #[.slice a 0 c, cmp] w fun e w' => e = .returned (.tuple #[]) ∧ w' = w := by
  go_enter Tryz.func29, Tryz.ntmps29
  go_wp2_with fail
  refine (stable_none a c cmp w).mono ?_
  rintro e w1 ⟨rfl, rfl⟩
  go_wp2
  go_end0
  exact ⟨rfl, rfl⟩
set_option maxRecDepth 100000 in
theorem sort_some (g cap gb : Nat) (l : List Bk) (w : World) (hg : Gb w g gb) (hR : Rw bkCells w g cap l) (hn : l.length ≤ 2097152) :
    Calls Tryz.prog 29 #[.slice (some ⟨g, 0, none⟩) l.length cap, cmpV gb] w fun e w' => e = .returned (.tuple #[]) ∧ ∃ R, Sd ltI R ∧ Stb ltI l R ∧ So bkCells w g cap R w' := by
  have HC := hid (stable_any g cap gb l w hg hR hn)
  clear hg hR
  go_enter Tryz.func29, Tryz.ntmps29
  go_wp2_with fail
  refine HC.out.mono ?_
  rintro e w1 ⟨rfl, h⟩
  have H := hid h
  clear h
  go_wp2
  go_end0
  exact ⟨rfl, H.out⟩
theorem SepB.rw {B : Nat} {W : World} {ks : List Bk} {g cap : Nat} (h : SepB B W (.slice (some ⟨g, 0, none⟩) ks.length cap) ks) : Rw bkCells W g cap ks := by
  rcases h.row.2 with ⟨hv, _⟩ | ⟨g', cap', cur, hv, _, hc, hn, hm, hs, ht⟩
  · cases hv
  · cases hv
    exact ⟨⟨cur, hc, hs, ht⟩, hn, hm⟩
/-- Sorted: the row anew, the terms where they lay. -/
theorem SepB.sorted {B : Nat} {w W : World} {ks R : List Bk} {g cap : Nat} (h : SepB B w (.slice (some ⟨g, 0, none⟩) ks.length cap) ks) (hp : ks.Perm R) (hs : So bkCells w g cap R W) : SepB B W (.slice (some ⟨g, 0, none⟩) R.length cap) R := by
  obtain ⟨⟨cur, h1, h2, h3⟩, h4, h5⟩ := hs.row
  refine ⟨⟨bkAll_len R, .inr ⟨g, cap, cur, rfl, (owns_cells h.row rfl).1, h1, h4, h5, h2, h3⟩⟩, ?_⟩
  have hgl := h.gl.perm (hp.map (·.2))
  exact (hgl.keep sepE (fun q hq hlt => hs.fr.same q hlt (fun e => hq.2 (by rw [e]; rfl)))).mono (fun q hq => hq)
/-- SortStableFunc of binds under way. -/
theorem sort_any (B : Nat) (v : Value) (ks : List Bk) (w : World) (hS : SepB B w v ks) (hn : ks.length ≤ 2097152) :
    Calls Tryz.prog 29 #[v, .func (.func 30) #[] #[]] w fun e w' => e = .returned (.tuple #[]) ∧ ∃ R, Sd ltI R ∧ Stb ltI ks R ∧ SepB B w' v R ∧ Fr (fun q => B ≤ q) w w' := by
  rcases hS.slice with ⟨rfl, rfl⟩ | ⟨g, cap, rfl⟩
  · refine (sort_none none 0 _ w).mono ?_
    rintro e w1 ⟨rfl, rfl⟩
    exact ⟨rfl, [], List.Pairwise.nil, Stb.refl _, hS, Fr.refl _ _⟩
  · refine (sort_some g cap 0 ks w ⟨rfl, rfl, rfl⟩ hS.rw hn).mono ?_
    rintro e w1 ⟨rfl, R, h1, h2, h3⟩
    have h4 := hS.sorted h2.1 h3
    rw [← h2.1.length_eq] at h4
    exact ⟨rfl, R, h1, h2, h4, h3.fr.mono (fun q hq => by rw [hq]; exact (owns_cells hS.row rfl).1)⟩
end Go.Proofs.YtgidgmgpgfonnaaGreat
