/- What the reader's check answers: the first term that may not be. -/
import Derived.Test.YtkcbhbkldcebiaaZWhole
import Derived.Test.YtkcbhbkldcebiaaTChk
namespace Go.Proofs.Ytkcbhbkldcebiaa
open Go.RowKit Go.Deep

/-- The first thing that is wrong with one of these terms. -/
def firstE (S : List Sym) : List Kv → Int
  | [] => 0
  | k :: ks => if chk S k.x k.l = 0 then firstE S ks else chk S k.x k.l
theorem firstE_take {S : List Sym} : ∀ {ks : List Kv} {i : Nat} {k : Kv}, ks[i]? = some k → firstE S (ks.take i) = 0 → chk S k.x k.l = 0 → firstE S (ks.take (i + 1)) = 0
  | [], i, k, h, _, _ => by simp at h
  | j :: ks, 0, k, h, _, hc => by
    simp at h
    subst h
    simp [firstE, hc]
  | j :: ks, i + 1, k, h, h0, hc => by
    simp only [List.take_succ_cons, firstE] at h0 ⊢
    by_cases hj : chk S j.x j.l = 0
    · rw [if_pos hj] at h0 ⊢
      exact firstE_take (by simpa using h) h0 hc
    · rw [if_neg hj] at h0
      exact absurd h0 hj
theorem firstE_at {S : List Sym} : ∀ {ks : List Kv} {i : Nat} {k : Kv}, ks[i]? = some k → firstE S (ks.take i) = 0 → chk S k.x k.l ≠ 0 → firstE S ks = chk S k.x k.l
  | [], i, k, h, _, _ => by simp at h
  | j :: ks, 0, k, h, _, hc => by
    simp at h
    subst h
    simp [firstE, hc]
  | j :: ks, i + 1, k, h, h0, hc => by
    simp only [List.take_succ_cons, firstE] at h0 ⊢
    by_cases hj : chk S j.x j.l = 0
    · rw [if_pos hj] at h0 ⊢
      exact firstE_at (by simpa using h) h0 hc
    · rw [if_neg hj] at h0
      exact absurd h0 hj

set_option maxRecDepth 100000 in
set_option maxHeartbeats 4000000 in
theorem check_rd (B : Nat) (S : Option Addr) (n cap : Nat) (l : List Sym) (s : ByteArray) (k : Nat) (ks : List Kv) (a : Option Addr) (c : Nat) (w : World) (hB : RdBox w B (.slice S n cap) s k (.slice a ks.length c)) (hS : SigAt w S n l) (hR : RowAt w a ks.length ks) (hm : ks.length ≤ 1000) (hT : ∀ k ∈ ks, TmAt w k.x k.a k.c k.l) :
    Calls Try.prog 56 #[.pointer (some ⟨B, 0, none⟩)] w fun e w' => (if firstE l ks = 0 then e = .returned (.tuple #[]) else e = faultP (firstE l ks) 0) ∧ Below w.heap.size w w' := by
  have HB := hid hB; have HS := hid hS; have HR := hid hR; have HT := hid hT
  have c3 := hB.c3
  clear hB hS hR hT
  obtain ⟨fe, hfe⟩ : ∃ fe, firstE l ks = fe := ⟨_, rfl⟩
  have HF := hid hfe
  rw [hfe]
  clear hfe
  go_enter Try.func56, Try.ntmps56
  go_wp2_with fail
  go_loopw [3, 4, 10] (fun _ _ ov wr => ∃ i : Nat, ov = .int .i64 i ∧ i ≤ ks.length ∧ Below w.heap.size w wr ∧ firstE l (ks.take i) = 0) (fun _ _ ov _ => ks.length - (intOf ov).toNat)
  case atStart => exact ⟨0, rfl, Nat.zero_le _, Below.refl _ _, rfl⟩
  case round =>
    obtain ⟨i, rfl, hi, hb, hz⟩ := hrel
    have HBL := hid hb; have HZ := hid hz
    clear hb hz
    by_cases hlt : i < ks.length
    · obtain ⟨kv, hkv⟩ : ∃ kv, ks[i]? = some kv := ⟨_, List.getElem?_eq_getElem hlt⟩
      obtain ⟨bb, off, rfl, p0, p1, p2⟩ := HR.out.get hkv
      have q0 := below_cell HBL.out _ _ p0; have q1 := below_cell HBL.out _ _ p1; have q2 := below_cell HBL.out _ _ p2
      have B1 := alloc_below0 wr (.cells #[.string kv.x.1, .int .i64 kv.x.2, .slice kv.a (lenF kv.l) kv.c] 28)
      have LW := hid (HBL.out.trans (B1.mono HBL.out.size))
      have X1 : Hid (XBox (wr.alloc (.cells #[.string kv.x.1, .int .i64 kv.x.2, .slice kv.a (lenF kv.l) kv.c] 28)) wr.heap.size kv.x (.slice kv.a (lenF kv.l) kv.c)) := World.alloc_heap_new wr _
      have hmem : kv ∈ ks := List.mem_of_getElem? hkv
      have HN : Hid (∀ W, Below (wr.alloc (.cells #[.string kv.x.1, .int .i64 kv.x.2, .slice kv.a (lenF kv.l) kv.c] 28)).heap.size (wr.alloc (.cells #[.string kv.x.1, .int .i64 kv.x.2, .slice kv.a (lenF kv.l) kv.c] 28)) W → Calls Try.prog 72 #[.slice S n cap, .agg #[.string kv.x.1, .int .i64 kv.x.2, .slice kv.a (lenF kv.l) kv.c]] W fun e w' => e = .returned (.int .i64 (chk l kv.x kv.l)) ∧ Below W.heap.size W w') := hid fun W hW => check_any l S n cap kv.x kv.l kv.a kv.c W ((HS.out.below LW.out).below hW) (((HT.out kv hmem).below LW.out).below hW)
      have RW := hid (HB.out.below LW.out)
      have HKV := hid hkv
      obtain ⟨ce, hce⟩ : ∃ ce, chk l kv.x kv.l = ce := ⟨_, rfl⟩
      have HCE := hid hce
      rw [hce] at HN
      clear B1 hce hmem hkv HS HT HB HR p0 p1 p2
      go_wp2_with fail
      clear q0 q1 q2
      generalize wr.alloc (.cells #[.string kv.x.1, .int .i64 kv.x.2, .slice kv.a (lenF kv.l) kv.c] 28) = V0 at RW LW X1 HN ⊢
      have hne := later_some V0
      have d0 := later_cell RW.out.c0
      have d1 := later_cell X1.out.c0
      have d2 := later_cell X1.out.c1
      have d3 := later_cell X1.out.c2
      refine wp_region_later (by kernel_rfl) (by kernel_rfl) ?_
      repeat (go_big_quiet_step (first | (go_at_call 72; with_reducible refine calls_later (HN.out _ ?_); exact Later.below _) | fail))
      refine wpQuiet_nil ?_
      intro _ hw'
      obtain ⟨b3, hw''⟩ := hw'
      subst hw''
      clear d0 d1 d2 d3 hne
      by_cases hc0 : ce = 0
      · subst hc0
        go_wp2
        go_roundw
        case rel => exact ⟨i + 1, by go_num, by omega, LW.out.trans (b3.below.mono LW.out.size), firstE_take HKV.out HZ.out HCE.out⟩
        case measure => simp [intOf]; omega
      · have hcb : (ce != 0) = true := by simpa using hc0
        have hfe : ce = fe := by rw [← HF.out, firstE_at HKV.out HZ.out (by rw [HCE.out]; exact hc0), HCE.out]
        subst hfe
        go_wp2
        refine ⟨rfl, ?_⟩
        exact ⟨rfl, LW.out.trans (b3.below.mono LW.out.size)⟩
    · have hil : i = ks.length := by omega
      have hfe : fe = 0 := by have h := HZ.out; rw [hil, List.take_length] at h; rw [← HF.out]; exact h
      subst hfe
      go_wp2
      go_end0
      exact ⟨rfl, HBL.out⟩
end Go.Proofs.Ytkcbhbkldcebiaa
