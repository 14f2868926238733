/- What Next of package words answers of any text, at any place. -/
import Derived.Test.YtkcbhbkldcebiaaWFault
import Derived.Test.YtkcbhbkldcebiaaShelf
import Derived.Handy
namespace Go.Proofs.Ytkcbhbkldcebiaa
open Go.RowKit

def Wd.val (x : Wd) : Value := .agg #[.int .i64 x.kind, .string x.text, .int .i64 x.place]
def Nx.val (r : Nx) : Value := .tuple #[r.word.val, .int .i64 r.to, .int .i64 r.err]

theorem clone_any (s : ByteArray) (w : World) (hs : s.size ≤ 281474976710656) : Calls Try.prog 88 #[.string s] w fun e w' => e = .returned (.string s) ∧ Below w.heap.size w w' := by
  go_enter Try.func88, Try.ntmps88
  go_wp2_with (go_at_call 99; refine (Try.stringslite_Clone _ _ hs).mono ?_; rintro e w' ⟨rfl, hb⟩)
  go_ret
  exact ⟨rfl, hb⟩

/-- A block that holds one word. -/
def WdBox (w : World) (B : Nat) (x : Wd) : Prop := w.heap[B]? = some (.cells #[.int .i64 x.kind, .string x.text, .int .i64 x.place] 71 (0, 0))
theorem WdBox.new (w : World) (x : Wd) : WdBox (w.alloc (.cells #[.int .i64 x.kind, .string x.text, .int .i64 x.place] 71)) w.heap.size x := heap_alloc_new w _
theorem WdBox.lt {w : World} {B : Nat} {x : Wd} (h : WdBox w B x) : B < w.heap.size := (Array.getElem?_eq_some_iff.1 h).1
theorem WdBox.below {w w' : World} {B : Nat} {x : Wd} (h : WdBox w B x) (hb : Below w.heap.size w w') : WdBox w' B x := (hb.block B h.lt).trans h
theorem WdBox.c0 {w : World} {B : Nat} {x : Wd} (h : WdBox w B x) : w.cell? ⟨B, 0, none⟩ = some (.int .i64 x.kind) := by simp [World.cell?, show w.heap[B]? = _ from h]
theorem WdBox.c1 {w : World} {B : Nat} {x : Wd} (h : WdBox w B x) : w.cell? ⟨B, 1, none⟩ = some (.string x.text) := by simp [World.cell?, show w.heap[B]? = _ from h]
theorem WdBox.c2 {w : World} {B : Nat} {x : Wd} (h : WdBox w B x) : w.cell? ⟨B, 2, none⟩ = some (.int .i64 x.place) := by simp [World.cell?, show w.heap[B]? = _ from h]
theorem WdBox.fr {w : World} {B : Nat} {x : Wd} (h : WdBox w B x) (i : Nat) : w.frozen? ⟨B, i, none⟩ = false := by simp [World.frozen?, show w.heap[B]? = _ from h]

theorem heap_set_cells {w : World} {B i : Nat} {cs : Array Value} {t : TypeId} {fr : Nat × Nat} (v : Value) (h : w.heap[B]? = some (.cells cs t fr)) : (w.setCell ⟨B, i, none⟩ v).heap[B]? = some (.cells (cs.setIfInBounds i v) t fr) := by
  obtain ⟨hlt, hk⟩ := Array.getElem?_eq_some_iff.1 h
  show (w.heap.modify B _)[B]? = _
  rw [Array.getElem?_eq_getElem (by rw [Array.size_modify]; exact hlt), Array.getElem_modify_self, hk]
  rfl
theorem WdBox.set {w : World} {B : Nat} {x : Wd} (h : WdBox w B x) (y : Wd) : WdBox (((w.setCell ⟨B, 0, none⟩ (.int .i64 y.kind)).setCell ⟨B, 1, none⟩ (.string y.text)).setCell ⟨B, 2, none⟩ (.int .i64 y.place)) B y :=
  heap_set_cells _ (heap_set_cells _ (heap_set_cells _ h))

theorem results_cell2 {fn : Func} {p u v : Tmp} {ty : TypeId} (h : fn.results = #[.cell p ty, .tmp u, .tmp v]) (tmps : Array Value) (P : Program) (w : World) :
    (results fn tmps).run P w =
      ((asAddr (tmps.getD p undef)).run P w).andThen fun a w₁ => ((loadVar ty a).run P w₁).andThen fun x w₂ => .ok (.tuple #[x, tmps.getD u undef, tmps.getD v undef]) w₂ := by
  simp only [results, h]
  simp [Sem.run_bind, Result.andThen]
theorem load_word {w : World} {B : Nat} {x : Wd} (h : WdBox w B x) : (loadVar 71 ⟨B, 0, none⟩).run Try.prog w = .ok x.val w := by
  have c0 := h.c0
  have c1 := h.c1
  have c2 := h.c2
  simp [go_sem, loadVar, c0, c1, c2, Wd.val]
theorem ret_word {fn : Func} {R : Ending → World → Prop} {a : Act} {w : World} {B : Nat} {x : Wd} (h : fn.results = #[.cell 4 71, .tmp 5, .tmp 6]) (h4 : a.tmps.getD 4 undef = .pointer (some ⟨B, 0, none⟩))
    (hx : WdBox w B x) (hd : a.defers = []) (hR : R (.returned (.tuple #[x.val, a.tmps.getD 5 undef, a.tmps.getD 6 undef])) w) : bodyPost Try.prog fn R .ret a w := by
  refine bodyPost_ret ?_ hd hR
  rw [results_cell2 h, h4]
  rw [show (asAddr (.pointer (some ⟨B, 0, none⟩))).run Try.prog w = .ok ⟨B, 0, none⟩ w from rfl]
  simp only [Result.andThen_ok, load_word hx]

set_option maxHeartbeats 1000000 in
theorem next_out (s : ByteArray) (k : Int) (w : World) (hk : k < 0 ∨ (s.size : Int) < k) : Calls Try.prog 76 #[.string s, .int .i64 k] w fun e w' => e = .returned (Nx.val ⟨noWd, 0, 1⟩) ∧ Below w.heap.size w w' := by
  by_cases h0 : k < 0
  · go_enter Try.func76, Try.ntmps76
    go_wp2
    go_returns
    exact ⟨rfl, (Below.refl _ _).alloc (Nat.le_refl _) _⟩
  · have h1 : (s.size : Int) < k := by omega
    go_enter Try.func76, Try.ntmps76
    go_wp2
    go_returns
    exact ⟨rfl, (Below.refl _ _).alloc (Nat.le_refl _) _⟩

theorem kindOf_tail (s : ByteArray) (b : Nat) (w : World) (hs : s.size ≤ maxLen) (hb : b < s.size) : Calls Try.prog 85 #[.string (s.extract b s.size)] w fun e w' => e = .returned (.int .i64 (kindP s b)) ∧ w' = w := by
  rw [← kindP_tail]
  exact kindOf_any _ w (by simp; omega) (by simp; omega)

set_option maxHeartbeats 1000000 in
theorem next_any (s : ByteArray) (k : Nat) (w : World) (hs : s.size ≤ maxLen) (hk : k ≤ s.size) : Calls Try.prog 76 #[.string s, .int .i64 k] w fun e w' => e = .returned (Nx.val (nx s k)) ∧ Below w.heap.size w w' := by
  have HB : Hid (∀ w, Calls Try.prog 84 #[.string s, .int .i64 k] w fun e w' => e = .returned (.int .i64 (runTo blank s k)) ∧ w' = w) := fun w => passBlanks_any s k w hs hk
  have hnx : Hid (nx s k = if s.size ≤ runTo blank s k then ⟨noWd, runTo blank s k, 0⟩ else if errP s (runTo blank s k) = 0 then ⟨⟨kindP s (runTo blank s k), s.extract (runTo blank s k) (endP s (runTo blank s k)), runTo blank s k⟩, endP s (runTo blank s k), 0⟩ else ⟨noWd, runTo blank s k, errP s (runTo blank s k)⟩) := rfl
  have hbs : runTo blank s k ≤ s.size := runTo_le hk
  obtain ⟨b, hb⟩ : ∃ b, b = runTo blank s k := ⟨_, rfl⟩
  rw [← hb] at HB hnx hbs
  clear hb
  have hk0 : ¬ (k : Int) < 0 := by omega
  have hks : ¬ (s.size : Int) < (k : Int) := by omega
  by_cases hbe : s.size ≤ b
  · have hnx' : Hid (nx s k = ⟨noWd, b, 0⟩) := by rw [hnx.out]; exact if_pos hbe
    obtain rfl : b = s.size := by omega
    clear hnx
    go_enter Try.func76, Try.ntmps76
    go_wp2_with (go_at_call 84; refine (HB.out _).mono ?_; rintro e w1 ⟨rfl, rfl⟩)
    go_returns
    exact ⟨by rw [hnx'.out]; rfl, (Below.refl _ _).alloc (Nat.le_refl _) _⟩
  · have hbe' : b < s.size := by omega
    have hbz : ((b : Int) == (s.size : Int)) = false := beq_eq_false_iff_ne.2 (by omega)
    have hb0 : (0 : Int) ≤ (b : Int) := by omega
    have hb1 : (b : Int) ≤ (s.size : Int) := by omega
    have HK : Hid (∀ w, Calls Try.prog 85 #[.string (s.extract b s.size)] w fun e w' => e = .returned (.int .i64 (kindP s b)) ∧ w' = w) := fun w => kindOf_tail s b w hs hbe'
    have HL : Hid (∀ w, Calls Try.prog 86 #[.int .i64 (kindP s b), .string (s.extract b s.size)] w fun e w' => e = .returned (.int .i64 (lenK (kindP s b) (s.extract b s.size) 0)) ∧ w' = w) := fun w => length_any _ _ w (by simp; omega) (by simp; omega)
    have hsum : b + lenK (kindP s b) (s.extract b s.size) 0 = endP s b := lenK_tail _ s b hbe'
    have hge := endP_gt s b
    have hle := endP_le hbe'
    obtain ⟨L, hL⟩ : ∃ L, L = lenK (kindP s b) (s.extract b s.size) 0 := ⟨_, rfl⟩
    rw [← hL] at HL hsum
    clear hL
    have HF : Hid (∀ w, Calls Try.prog 87 #[.int .i64 (kindP s b), .string (s.extract b (endP s b))] w fun e w' => e = .returned (.int .i64 (errP s b)) ∧ Below w.heap.size w w') := fun w => by
      have := fault_any (kindP s b) (s.extract b (endP s b)) w (by simp; omega)
      rwa [fault_is hbe'] at this
    have hnx2 := hnx.out
    rw [if_neg hbe] at hnx2
    have HN : Hid (nx s k = if errP s b = 0 then ⟨⟨kindP s b, s.extract b (endP s b), b⟩, endP s b, 0⟩ else ⟨noWd, b, errP s b⟩) := hnx2
    clear hnx hnx2
    have hlong : Hid (errP s b = 0 → endP s b ≤ b + 12) := by
      intro h; unfold errP at h; split at h
      · omega
      · split at h <;> omega
    obtain ⟨E, hE⟩ : ∃ E, E = endP s b := ⟨_, rfl⟩
    obtain ⟨er, her⟩ : ∃ er, er = errP s b := ⟨_, rfl⟩
    obtain ⟨kd, hkd⟩ : ∃ kd, kd = kindP s b := ⟨_, rfl⟩
    rw [← hE] at hsum hge hle HF HN hlong
    rw [← her] at HF HN hlong
    rw [← hkd] at HK HL HF HN
    clear hE her hkd
    unfold maxLen at hs
    go_enter Try.func76, Try.ntmps76
    go_wp2_with (first | (go_at_call 84; refine (HB.out _).mono ?_; rintro e w1 ⟨rfl, rfl⟩) | (go_at_call 85; refine (HK.out _).mono ?_; rintro e w1 ⟨rfl, rfl⟩) | (go_at_call 86; refine (HL.out _).mono ?_; rintro e w1 ⟨rfl, rfl⟩))
    refine (HF.out _).mono ?_
    rintro e w1 ⟨rfl, hb2⟩
    have hx1 : WdBox w1 w.heap.size noWd := (WdBox.new w noWd).below hb2
    have T1 : Hid (Below w.heap.size w w1) := ((Below.refl _ w).alloc (Nat.le_refl _) _).trans (hb2.mono (by simp))
    clear hb2
    cases her : (er != 0)
    · have her' : er = 0 := by simpa using her
      have HN' : Hid (nx s k = ⟨⟨kd, s.extract b E, b⟩, E, 0⟩) := by
        show nx s k = _; rw [HN.out, if_pos her']
      have h12 := hlong.out her'
      subst her'
      clear HN hlong her
      go_wp2_with fail
      refine (clone_any _ _ (by simp; omega)).mono ?_
      rintro e w2 ⟨rfl, hb3⟩
      have hx2 : WdBox w2 w.heap.size noWd := hx1.below hb3
      have T2 : Hid (Below w.heap.size w w2) := T1.out.trans (hb3.mono T1.out.size)
      clear hb3 hx1
      have c0 := hx2.c0
      have c1 := hx2.c1
      have c2 := hx2.c2
      have f0 := hx2.fr 0
      have f1 := hx2.fr 1
      have f2 := hx2.fr 2
      go_wp2
      refine ret_word rfl rfl (hx2.set ⟨kd, s.extract b E, b⟩) rfl ?_
      have hE : (E : Int) = b + L := by omega
      exact ⟨by rw [HN'.out]; simp only [Nx.val, hE]; rfl, ((T2.out.setCell (p := ⟨w.heap.size, 0, none⟩) (Nat.le_refl _) _).setCell (p := ⟨w.heap.size, 1, none⟩) (Nat.le_refl _) _).setCell (p := ⟨w.heap.size, 2, none⟩) (Nat.le_refl _) _⟩
    · have her' : er ≠ 0 := by simpa using her
      have HN' : Hid (nx s k = ⟨noWd, b, er⟩) := by
        show nx s k = _; rw [HN.out, if_neg her']
      clear HN hlong her'
      have c0 := hx1.c0
      have c1 := hx1.c1
      have c2 := hx1.c2
      have f0 := hx1.fr 0
      have f1 := hx1.fr 1
      have f2 := hx1.fr 2
      go_wp2
      refine ret_word rfl rfl (hx1.set noWd) rfl ?_
      exact ⟨by rw [HN'.out]; rfl, ((T1.out.setCell (p := ⟨w.heap.size, 0, none⟩) (Nat.le_refl _) _).setCell (p := ⟨w.heap.size, 1, none⟩) (Nat.le_refl _) _).setCell (p := ⟨w.heap.size, 2, none⟩) (Nat.le_refl _) _⟩
end Go.Proofs.Ytkcbhbkldcebiaa
