/- The document's All. -/
import Derived.Test.YtchjdpmgocapjaaAgRf
namespace Go.Proofs.Ytchjdpmgocapjaa
open Go.RowKit Go.Shelf

def lenOf : Value → Nat
  | .slice _ n _ => n
  | _ => 0
/-- The walk's memory: what is told, what is left. -/
structure AR (w : World) (vo vl : Value) (X M : List Th) (wr : World) : Prop where
  o : TOwn wr vo X
  l : TOwn wr vl M
  far : ∀ g, vo.ownBlock = some g → vl.ownBlock ≠ some g ∧ w.heap.size ≤ g
  low : Below w.heap.size w wr
set_option maxRecDepth 100000 in
set_option maxHeartbeats 4000000 in
theorem rall_any {w : World} {B : Nat} {most last : Int} {L : List Th} {G : Nat → Prop} (h : RAt w B most last L G) (hR : Rise L) : Calls Try.prog 37 #[.pointer (some ⟨B, 0, none⟩)] w fun e w' => ∃ p c, e = .returned (.slice p L.length c) ∧ TOwn w' (.slice p L.length c) (allL L) ∧ Below w.heap.size w w' ∧ ∀ g, (Value.slice p L.length c).ownBlock = some g → w.heap.size ≤ g := by
  obtain ⟨v, g1, g2, g3, g4, g5, g6, g7⟩ := h
  obtain ⟨p0, c0, rfl⟩ := g2.form
  have c2 : w.cell? ⟨B, 2, none⟩ = some (.slice p0 L.length c0) := cell_box g1 rfl
  have HLL := hid (all_len L hR)
  have HAR : Hid (AR w (.slice none 0 0) (.slice p0 L.length c0) [] L w) := hid ⟨town_nil _, g2, fun g hg => (by cases hg), Below.refl _ _⟩
  have hLb : L.length ≤ 65536 := by omega
  clear g1 g2 g6 g7
  go_enter Try.func37, Try.ntmps37
  go_wp2_with fail
  go_loopw [3, 4] (fun vo vl wr => ∃ X M, AR w vo vl X M wr ∧ X ++ allL M = allL L ∧ Rise M ∧ X.length + M.length = L.length) (fun _ vl _ => lenOf vl)
  case atStart => exact ⟨[], L, HAR.out, rfl, hR, by simp⟩
  case round =>
    obtain ⟨X, M, hA, hX, hRM, hlen⟩ := hrel
    obtain ⟨po, co, rfl⟩ := hA.o.form
    obtain ⟨pl, cl, rfl⟩ := hA.l.form
    by_cases hM : M = []
    · subst hM
      have hz : decide ((0 : Int) < (([] : List Th).length : Int)) = false := rfl
      have hXL : X = allL L := by rw [← hX]; simp [allL, allN]
      have hl2 : X.length = L.length := by simpa using hlen
      subst hXL
      have HA := hid hA; have HL2 := hid hl2
      clear hA hX hRM hlen hl2 hz
      rw [show ([] : List Th).length = 0 from rfl]
      go_wp2_with fail
      go_ret
      rw [HL2.out]
      have h9 := HA.out
      rw [HL2.out] at h9
      exact ⟨_, _, rfl, h9.o, h9.low, fun g hg => (h9.far g hg).2⟩
    · have hn := nx_lt hM
      obtain ⟨g, cur, rfl, _, hc1, hc2, hg, hcs, hat⟩ := hA.l.some (by omega)
      have hpos : decide ((0 : Int) < (M.length : Int)) = true := decide_eq_true (by omega)
      have hv : nxV M = (nxI M : Int) := by unfold nxV; rw [if_neg hM]
      have HN := hid (next_any _ cl M wr hA.l (by omega))
      rw [hv] at HN
      have hst := all_step hn
      have hX2 : (X ++ [M[nxI M]]) ++ allL (M.eraseIdx (nxI M)) = allL L := by rw [← hX, hst]; simp
      have hel : (M.eraseIdx (nxI M)).length = M.length - 1 := by rw [List.length_eraseIdx, if_pos hn]
      have HX2 := hid hX2; have HRM := hid (rise_erase hRM (nxI M)); have HEL := hid hel
      have HG := hid hg; have HAT := hid (hat (nxI M) hn); have HA := hid hA; have HLEN := hid hlen
      generalize M[nxI M] = t at *
      generalize nxI M = k at *
      have hkz : (k : Int) < (M.length : Int) := by omega
      clear hA hX hRM hv hst hX2 hel hg hat hlen
      go_wp2_with fail
      refine HN.out.mono ?_
      rintro e w1 ⟨rfl, hb⟩
      have hg1 := below_blk hb HG.out
      have x0 : w1.cell? ⟨g, k * 3, none⟩ = some (.int .i64 t.x) := cell_box hg1 (HAT.out 0 (by omega))
      have x1 : w1.cell? ⟨g, k * 3 + 1, none⟩ = some (.int .i64 t.wt) := cell_box hg1 (HAT.out 1 (by omega))
      have x2 : w1.cell? ⟨g, k * 3 + 2, none⟩ = some (.int .i64 t.tk) := cell_box hg1 (HAT.out 2 (by omega))
      have ba := alloc_below0 w1 (.cells #[.int .i64 t.x, .int .i64 t.wt, .int .i64 t.tk] 85)
      have na := World.alloc_heap_new w1 (.cells #[.int .i64 t.x, .int .i64 t.wt, .int .i64 t.tk] 85)
      have za := World.size_alloc w1 (.cells #[.int .i64 t.x, .int .i64 t.wt, .int .i64 t.tk] 85)
      have ba2 : Below wr.heap.size wr (w1.alloc (.cells #[.int .i64 t.x, .int .i64 t.wt, .int .i64 t.tk] 85)) := hb.trans (ba.mono hb.size)
      have o2 : TOwn (w1.alloc (.cells #[.int .i64 t.x, .int .i64 t.wt, .int .i64 t.tk] 85)) (.slice po X.length co) X := HA.out.o.fr (Fr.of_below (A := fun _ => False) ba2) (fun _ _ hx => hx)
      obtain ⟨v', w3, hr3, hT3, hf3, hv3⟩ := app_th _ X [t] _ o2 ⟨w1.heap.size, 0, none⟩ 1 1 rfl (fun j u hj => by
        rw [Addr.add_lit, Nat.zero_add]
        refine cell_box na ?_
        simpa [thAll, thC] using hj) (by have := HLEN.out; simp; omega)
      have l2 : TOwn (w1.alloc (.cells #[.int .i64 t.x, .int .i64 t.wt, .int .i64 t.tk] 85)) (.slice (some ⟨g, 0, none⟩) M.length cl) M := HA.out.l.fr (Fr.of_below (A := fun _ => False) ba2) (fun _ _ hx => hx)
      have l3 : TOwn w3 (.slice (some ⟨g, 0, none⟩) M.length cl) M := l2.fr hf3 (fun q hq hx => (HA.out.far q hx).1 hq)
      have hgs := hb.size
      have low2 := HA.out.low.trans (ba2.mono HA.out.low.size)
      have low3 : Below w.heap.size w w3 := low2.trans (hf3.below (fun q hq => (HA.out.far q hq).2) low2.size)
      have hv3w : ∀ q, v'.ownBlock = some q → w.heap.size ≤ q ∧ q < w3.heap.size := fun q hq => by
        refine ⟨?_, ?_⟩
        · rcases hv3 q hq with h9 | h9
          · exact (HA.out.far q h9).2
          · rw [za] at h9
            have := HA.out.low.size
            omega
        · obtain ⟨cur9, h9⟩ := hT3.row hq
          exact (Array.getElem?_eq_some_iff.1 h9).1
      have HCUT := hid (cut_any g cl M k (by omega) w3 l3 (by have := HLEN.out; omega))
      obtain ⟨p', n', c', rfl⟩ : ∃ p n c, v' = .slice p n c := by obtain ⟨p, c, h⟩ := hT3.form; exact ⟨p, _, c, h⟩
      have HT3 := hid hT3; have HL3 := hid low3; have HV3 := hid hv3w
      clear hb hg1 ba na za ba2 o2 hT3 hf3 hv3 l2 l3 hgs low2 low3 hv3w
      go_wp2_with (first
        | (at_builtin; refine Lib.wpList_append_run _ rfl _ _ _ _ rfl _ _ rfl rfl _ _ hr3 ?_; clear hr3)
        | fail)
      refine HCUT.out.mono ?_
      rintro e w4 ⟨v4, rfl, hT4, hb4, hv4⟩
      have HT4 := hid hT4; have HB4 := hid hb4; have HV4 := hid hv4
      obtain ⟨p4, c4, hf4⟩ := hT4.form
      have HF4 := hid hf4
      clear hT4 hb4 hv4 hf4
      go_wp2_with fail
      go_roundw
      case rel =>
        refine ⟨X ++ [t], M.eraseIdx k, ⟨HT3.out.fr (Fr.of_below (A := fun _ => False) HB4.out) (fun _ _ hx => hx), HT4.out, fun q hq => ⟨fun hx => ?_, (HV3.out q hq).1⟩, HL3.out.trans (HB4.out.mono HL3.out.size)⟩, HX2.out, HRM.out, ?_⟩
        · have := HV4.out q hx; have := (HV3.out q hq).2; omega
        · have := HLEN.out; have := HEL.out; rw [List.length_append, List.length_singleton]; omega
      case measure =>
        rw [HF4.out]
        have := HEL.out
        simp [lenOf]
        omega
end Go.Proofs.Ytchjdpmgocapjaa
