/- What left and fits of a table answer. -/
import Derived.Test.YtgcnjpiiofjljaaGreatDoorSTab
namespace Go.Proofs.YtgcnjpiiofjljaaGreatDoor
open Go.RowKit Go.Deep

def left0F : Fo → Int → Int
  | .nil, r => r
  | .node _ _ _ l s, r => if r < 0 then r else left0F s (left0F l (r - 1))
/-- What is left of the room for nodes behind these terms, in which others stand for variables. -/
def leftF (lk : ByteArray → Option Tn) : Fo → Int → Int
  | .nil, r => r
  | .node _ _ x l s, r => if r < 0 then r else leftF lk s (match lkN lk x.1 with | some t => left0F t.2 (r - 1) | none => leftF lk l (r - 1))
def leftN (lk : ByteArray → Option Tn) (x : ByteArray × Int) (l : Fo) (r : Int) : Int := match lkN lk x.1 with | some t => left0F t.2 (r - 1) | none => leftF lk l (r - 1)
theorem lkN_none (s : ByteArray) : lkN (fun _ => none) s = none := by unfold lkN; split <;> rfl
theorem leftF_none : ∀ (F : Fo) (r : Int), leftF (fun _ => none) F r = left0F F r
  | .nil, _ => rfl
  | .node _ _ x l s, r => by
    unfold leftF left0F
    rw [lkN_none]
    simp only [leftF_none l, leftF_none s]
theorem left0F_bd : ∀ (F : Fo) (r : Int), -1 ≤ r → -1 ≤ left0F F r ∧ left0F F r ≤ r
  | .nil, r, h => ⟨h, Int.le_refl _⟩
  | .node _ _ x l s, r, h => by
    unfold left0F
    split
    · omega
    · have h1 := left0F_bd l (r - 1) (by omega)
      have h2 := left0F_bd s (left0F l (r - 1)) h1.1
      omega
theorem leftF_bd (lk : ByteArray → Option Tn) : ∀ (F : Fo) (r : Int), -1 ≤ r → -1 ≤ leftF lk F r ∧ leftF lk F r ≤ r
  | .nil, r, h => ⟨h, Int.le_refl _⟩
  | .node _ _ x l s, r, h => by
    unfold leftF
    split
    · omega
    · have h1 : -1 ≤ (match lkN lk x.1 with | some t => left0F t.2 (r - 1) | none => leftF lk l (r - 1)) ∧ (match lkN lk x.1 with | some t => left0F t.2 (r - 1) | none => leftF lk l (r - 1)) ≤ r - 1 := by
        cases lkN lk x.1 with
        | none => exact leftF_bd lk l (r - 1) (by omega)
        | some t => exact left0F_bd t.2 (r - 1) (by omega)
      have h2 := leftF_bd lk s _ h1.1
      omega
theorem leftF_neg (lk : ByteArray → Option Tn) (F : Fo) (r : Int) (h : r < 0) : leftF lk F r = r := by
  cases F with
  | nil => rfl
  | node => unfold leftF; rw [if_pos h]
def LeftOk (lk : ByteArray → Option Tn) (k : Nat) : Prop := ∀ (x : ByteArray × Int) (l : Fo) (a : Option Addr) (c : Nat) (mv : Value) (room : Int) (w : World), nodesF l ≤ k → TmAt w x a c l → TabV w mv lk → 0 ≤ room → room ≤ 400 →
  Calls Tryz.prog 72 #[mv, .agg #[.string x.1, .int .i64 x.2, .slice a (lenF l) c], .int .i64 room] w fun e w' => e = .returned (.int .i64 (leftN lk x l room)) ∧ Below w.heap.size w w'

set_option maxRecDepth 100000 in
set_option maxHeartbeats 1000000 in
theorem left_step (lk : ByteArray → Option Tn) (h0 : ∀ s t, lk s = some t → ∀ k, LeftOk (fun _ => none) k) : ∀ k, LeftOk lk k := by
  intro k
  induction k using Nat.strongRecOn with
  | _ k ih =>
    intro x l a c mv room w hk hT hM hr0 hr4
    have HT := hid hT
    have HM := hid hM
    have IH : Hid (∀ j, j < k → LeftOk lk j) := ih
    have O0 := hid (One.new w x a (lenF l) c)
    have HLK := hid (look_any mv lk x a (lenF l) c (w.alloc (.cells #[.string x.1, .int .i64 x.2, .slice a (lenF l) c] 27)) (hM.below (alloc_below0 _ _)) hT.sizes.name)
    have H0 := hid h0
    have hn := len_nodes l
    have hln : lenF l ≤ 2932031007402 := by have := hT.sizes.few; omega
    clear hT hM ih h0
    have t0 := O0.out.t.c0; have t1 := O0.out.t.c1; have t2 := O0.out.t.c2
    go_enter Tryz.func72, Tryz.ntmps72
    go_wp2_with fail
    refine HLK.out.mono ?_
    rintro e w1 ⟨hb1, hres⟩
    have O1 := hid (O0.out.below hb1)
    rcases hres with ⟨hk0, rfl⟩ | ⟨t, a', c', hk1, hT1, rfl⟩
    · have hN : leftN lk x l room = leftF lk l (room - 1) := by unfold leftN; rw [hk0]
      have HN := hid hN
      clear t0 t1 t2 HLK hk0 hN
      have O2 := hid (O1.out.below (alloc_below0 w1 (.cells #[.string ⟨#[]⟩, .int .i64 0, .slice none 0 0] 27)))
      have t2 := O2.out.t.c2
      go_wp2_with fail
      generalize w1.alloc (.cells #[.string ⟨#[]⟩, .int .i64 0, .slice none 0 0] 27) = V at O2 t2 ⊢
      go_loopw [2, 26] (fun rv iv wr => ∃ (j : Nat) (r : Int), j ≤ lenF l ∧ rv = .int .i64 r ∧ iv = .int .i64 j ∧ -1 ≤ r ∧ r ≤ 400 ∧ One w x a (lenF l) c wr ∧ leftF lk (dropF j l) r = leftF lk l (room - 1)) (fun _ iv _ => lenF l - (intOf iv).toNat)
      case atStart => exact ⟨0, room - 1, Nat.zero_le _, rfl, rfl, by omega, by omega, O2.out, by rw [drop_zero]⟩
      case round =>
        obtain ⟨j, r, hj, rfl, rfl, hr1, hr2, hO, hm⟩ := hrel
        by_cases hlt : j < lenF l
        · obtain ⟨b1, o1, rfl, hk1⟩ := HT.out.args.get (by omega)
          obtain ⟨z, a1, c1, l1, kd⟩ := hk1.kid (k := j) hlt
          have kd' := kd.below hO.low
          obtain ⟨B1, O1', s1⟩ := kd.split
          rw [s1] at hm
          have p0 := kd'.name; have p1 := kd'.sym; have p2 := kd'.list
          by_cases hr : r < 0
          · rw [leftF_neg lk _ r hr] at hm
            clear t2 kd kd' s1 hk1
            have HO := hid hO
            clear hO
            go_wp2_with fail
            go_ret
            exact ⟨by rw [HN.out, ← hm] <;> rfl, HO.out.low.trans ((alloc_below0 _ _).mono HO.out.low.size)⟩
          · have hC := hid (IH.out (nodesF l1) (by have := kd.less; omega) z l1 a1 c1 mv r)
            have HO := hid hO
            have HZ := hid kd'.at_
            have HBZ := hid (HM.out.below hO.low)
            have b3 := alloc_below0 wr (.cells #[.string z.1, .int .i64 z.2, .slice a1 (lenF l1) c1] 27)
            have HC := hid (hC.out _ (Nat.le_refl _) (HZ.out.below b3) (HBZ.out.below b3) (by omega) hr2)
            have HO3 := hid (HO.out.below b3)
            have hstep : leftF lk (dropF (j + 1) l) (leftN lk z l1 r) = leftF lk l (room - 1) := by
              rw [← hm]
              conv => rhs; unfold leftF
              rw [if_neg hr]
              rfl
            have HS := hid hstep
            have hbd : -1 ≤ leftN lk z l1 r ∧ leftN lk z l1 r ≤ 400 := by
              unfold leftN
              cases lkN lk z.1 with
              | none => exact ⟨(leftF_bd lk l1 (r - 1) (by omega)).1, Int.le_trans (leftF_bd lk l1 (r - 1) (by omega)).2 (by omega)⟩
              | some t => exact ⟨(left0F_bd t.2 (r - 1) (by omega)).1, Int.le_trans (left0F_bd t.2 (r - 1) (by omega)).2 (by omega)⟩
            clear t2 kd kd' s1 hk1 hO hC b3 hstep
            go_wp2_with fail
            refine HC.out.mono ?_
            rintro e w3 ⟨rfl, hb3⟩
            have HO4 := hid (HO3.out.below hb3)
            clear hb3 p0 p1 p2
            go_wp2_with fail
            go_roundw
            case rel => exact ⟨j + 1, leftN lk z l1 r, by omega, rfl, by go_num, hbd.1, hbd.2, HO4.out, HS.out⟩
            case measure => simp [intOf]; omega
        · have e1 : j = lenF l := by omega
          rw [e1, drop_end] at hm
          have hm' : r = leftF lk l (room - 1) := hm
          clear t2
          go_wp2
          go_ret
          exact ⟨by rw [HN.out, hm'] <;> rfl, hO.low⟩
    · have hC := hid (H0.out x.1 t (by unfold lkN at hk1; split at hk1; cases hk1; exact hk1) (nodesF t.2))
      have b3 := alloc_below0 w1 (.cells #[.string t.1.1, .int .i64 t.1.2, .slice a' (lenF t.2) c'] 27)
      have hl1 := O1.out.low
      have HC := hid (hC.out t.1 t.2 a' c' (.map none) room _ (Nat.le_refl _) ((hT1.below hb1).below b3) (TabV.none _) hr0 hr4)
      have HL := hid (hl1.trans (b3.mono hl1.size))
      have hN : leftN lk x l room = leftN (fun _ => none) t.1 t.2 room := by
        unfold leftN
        rw [hk1, lkN_none]
        exact (leftF_none _ _).symm
      have HN := hid hN
      clear t0 t1 t2 HLK hC b3 hl1 hN
      go_wp2_with fail
      refine HC.out.mono ?_
      rintro e w3 ⟨rfl, hb3⟩
      have HL3 := hid (HL.out.trans (hb3.mono HL.out.size))
      clear hb3
      go_wp2_with fail
      go_ret
      exact ⟨by rw [HN.out] <;> rfl, HL3.out⟩
theorem left_none (k : Nat) : LeftOk (fun _ => none) k := left_step _ (fun _ _ h => by cases h) k
theorem left_any (lk : ByteArray → Option Tn) (k : Nat) : LeftOk lk k := left_step lk (fun _ _ _ => left_none) k
end Go.Proofs.YtgcnjpiiofjljaaGreatDoor
