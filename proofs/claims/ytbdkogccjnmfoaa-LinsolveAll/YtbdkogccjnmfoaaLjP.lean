/- product and Solves. -/
import Derived.Test.YtbdkogccjnmfoaaLjM
import Derived.Test.YtbdkogccjnmfoaaLiW
import Derived.Deep.QuietTactic
import Derived.BigQuiet
namespace Go.Proofs.Ytbdkogccjnmfoaa
open Go.RowKit Go.Shelf

def prodI : List Int → List Int → Int
  | k :: ks, n :: ns => k * n + prodI ks ns
  | _, _ => 0
theorem prodI_nil (ns : List Int) : prodI [] ns = 0 := by cases ns <;> rfl
def Coe (l : List Int) : Prop := ∀ x ∈ l, 1 ≤ x ∧ x ≤ 6
theorem Coe.get {l : List Int} (h : Coe l) (i : Nat) (hi : i < l.length) : 1 ≤ l[i] ∧ l[i] ≤ 6 := h _ (List.getElem_mem hi)
set_option maxRecDepth 100000 in
set_option maxHeartbeats 2000000 in
theorem product_any (p : Option Addr) (c : Nat) (ks : List Int) (q : Option Addr) (d : Nat) (ns : List Int) (w : World) (hK : IntsAt w p ks) (hN : IntsAt w q ns) (hk : Coe ks) (hn : Cnt ns) (h5 : ks.length ≤ 5) (hle : ks.length ≤ ns.length) :
    Calls Try.prog 46 #[.slice p ks.length c, .slice q ns.length d] w fun e w' => e = .returned (.int .i64 (prodI ks ns)) ∧ w' = w := by
  have HK := hid hK; have HN := hid hN; have HCK := hid hk; have HCN := hid hn
  have hmax : maxLen = 9223372036854775807 := rfl
  have hs1 := hK.small; have hs2 := hN.small
  obtain ⟨T, hT⟩ : ∃ T, prodI ks ns = T := ⟨_, rfl⟩
  rw [hT]
  have HT := hid hT
  clear hK hN hk hn hT
  go_enter Try.func46, Try.ntmps46
  go_wp2_with fail
  go_loopw [5, 10] (fun sv iv wr => ∃ (j : Nat) (acc : Int), j ≤ ks.length ∧ iv = .int .i64 j ∧ sv = .int .i64 acc ∧ acc + prodI (ks.drop j) (ns.drop j) = T ∧ 0 ≤ acc ∧ acc ≤ j * 6291456 ∧ wr = w) (fun _ iv _ => ks.length - (intOf iv).toNat)
  case atStart => exact ⟨0, 0, Nat.zero_le _, rfl, rfl, by rw [← HT.out]; simp, by omega, by omega, rfl⟩
  case round =>
    obtain ⟨j, acc, hj, rfl, rfl, hf, ha0, ha1, hwr⟩ := hrel
    subst hwr
    rename World => w
    by_cases hlt : j < ks.length
    · have hlt2 : j < ns.length := by omega
      obtain ⟨b, o, rfl, hc⟩ := HK.out.cells j hlt
      obtain ⟨b2, o2, rfl, hc2⟩ := HN.out.cells j hlt2
      rw [List.drop_eq_getElem_cons hlt, List.drop_eq_getElem_cons hlt2, prodI] at hf
      have g1 := HCK.out.get j hlt
      have g2 := HCN.out.get j hlt2
      obtain ⟨k, hk⟩ : ∃ k, ks[j] = k := ⟨_, rfl⟩
      obtain ⟨n, hn⟩ : ∃ n, ns[j] = n := ⟨_, rfl⟩
      rw [hk, hn] at hf
      rw [hk] at hc g1
      rw [hn] at hc2 g2
      have h0 : 0 ≤ k * n := Int.mul_nonneg (by omega) g2.1
      have h1 : k * n ≤ 6 * 1048576 := Int.mul_le_mul g1.2 g2.2 g2.1 (by decide)
      obtain ⟨m, hm⟩ : ∃ m, k * n = m := ⟨_, rfl⟩
      rw [hm] at hf h0 h1
      have e1 : IntKind.i64.wrap (k * n) = m := by rw [hm]; exact IntWalk.i64_in _ (by constructor <;> omega)
      have e2 : IntKind.i64.wrap (acc + m) = acc + m := IntWalk.i64_in _ (by constructor <;> omega)
      have HF : Hid (acc + m + prodI (ks.drop (j + 1)) (ns.drop (j + 1)) = T ∧ 0 ≤ acc + m ∧ acc + m ≤ ((j + 1 : Nat) : Int) * 6291456) := hid ⟨by omega, by omega, by omega⟩
      clear hf hk hn hm
      go_wp2_with fail
      go_roundw
      case rel => exact ⟨j + 1, acc + m, by omega, by go_num, rfl, HF.out.1, HF.out.2.1, HF.out.2.2, trivial⟩
      case measure => simp [intOf]; omega
    · have e1 : j = ks.length := by omega
      rw [List.drop_eq_nil_of_le (by omega : ks.length ≤ j), prodI_nil] at hf
      have HF : Hid (acc = T) := hid (by omega)
      clear hf
      go_wp2_with fail
      go_ret
      exact ⟨by rw [HF.out]; rfl, rfl⟩
/-- Is it a solution? -/
def solB (a b v : List Int) : Bool := decide (chkE a b = 0) && (decide (v.length = a.length + b.length) && (!v.any badC && decide (prodI a v = prodI b (v.drop a.length))))
theorem slice_from (b n c k : Nat) (hk : k ≤ n) (hn : n ≤ c) (hc : c ≠ k) (w : World) : (Instr.sliceAt 27 (.slice (some ⟨b, 0, none⟩) n c) (some (.int .i64 (k : Int))) none none).run Try.prog w = .ok (.slice (some ⟨b, k, none⟩) (n - k) (c - k)) w := by
  have e1 : Try.prog.elem 27 = 3 := by kernel_rfl
  have hs : (sizeOf 3).run Try.prog w = .ok 1 w := Try.sizeOf3 w
  rw [run_sliceAt_slice w 27 _ _ _ _ (by rw [e1]; exact Try.underlying27)]
  have h0 : (0 : Int) ≤ (k : Int) := by omega
  have h1 : (k : Int) ≤ (n : Int) := by omega
  have h2 : (n : Int) ≤ (c : Int) := by omega
  go_simp
theorem slice_end (b k : Nat) (w : World) : (Instr.sliceAt 27 (.slice (some ⟨b, 0, none⟩) k k) (some (.int .i64 (k : Int))) none none).run Try.prog w = .ok (.slice (some ⟨b, 0, none⟩) 0 0) w := by
  have e1 : Try.prog.elem 27 = 3 := by kernel_rfl
  have hs : (sizeOf 3).run Try.prog w = .ok 1 w := Try.sizeOf3 w
  rw [run_sliceAt_slice w 27 _ _ _ _ (by rw [e1]; exact Try.underlying27)]
  have h0 : (0 : Int) ≤ (k : Int) := by omega
  have h1 : (k : Int) ≤ (k : Int) := by omega
  go_simp
theorem slice_to (b n c k : Nat) (hk : k ≤ n) (hn : n ≤ c) (w : World) : (Instr.sliceAt 27 (.slice (some ⟨b, 0, none⟩) n c) none (some (.int .i64 (k : Int))) none).run Try.prog w = .ok (.slice (some ⟨b, 0, none⟩) k c) w := by
  have e1 : Try.prog.elem 27 = 3 := by kernel_rfl
  have hs : (sizeOf 3).run Try.prog w = .ok 1 w := Try.sizeOf3 w
  rw [run_sliceAt_slice w 27 _ _ _ _ (by rw [e1]; exact Try.underlying27)]
  have h0 : (0 : Int) ≤ (k : Int) := by omega
  have h1 : (k : Int) ≤ (c : Int) := by omega
  go_simp
theorem Bl.drop {W : World} {g : Nat} {l : List Int} (h : Bl W g l) (hl : l.length ≤ maxLen) (k : Nat) : IntsAt W (some ⟨g, k, none⟩) (l.drop k) := ⟨by rw [List.length_drop]; omega, fun i hi => ⟨g, k, rfl, by
  rw [List.length_drop] at hi
  rw [List.getElem_drop]
  exact h.cell (k + i) (by omega)⟩⟩
theorem Bl.take {W : World} {g : Nat} {l : List Int} (h : Bl W g l) (hl : l.length ≤ maxLen) (k : Nat) : IntsAt W (some ⟨g, 0, none⟩) (l.take k) := ⟨by rw [List.length_take]; omega, fun i hi => ⟨g, 0, rfl, by
  rw [List.length_take] at hi
  rw [List.getElem_take, Nat.zero_add]
  exact h.cell i (by omega)⟩⟩
theorem nil_ints (W : World) (q : Option Addr) : IntsAt W q [] := ⟨Nat.zero_le _, fun i hi => absurd hi (Nat.not_lt_zero i)⟩
theorem prodI_take : ∀ (ks ns : List Int), prodI ks (ns.take ks.length) = prodI ks ns := by
  intro ks
  induction ks with
  | nil => intro ns; rw [prodI_nil, prodI_nil]
  | cons k ks ih =>
    intro ns
    cases ns with
    | nil => rfl
    | cons n ns => rw [List.length_cons, List.take_succ_cons, prodI, prodI, ih]
theorem coe_of {a : List Int} (h : a.any badK = false) : Coe a := fun x hx => by
  have h1 := List.any_eq_false.1 h x hx
  unfold badK at h1
  simp at h1
  omega
theorem heap_drewN (w : World) : ∀ n, (w.drewN n).heap = w.heap := fun n => by
  induction n with
  | zero => rfl
  | succ n ih => first | exact ih | (rw [← ih]; rfl)
set_option maxRecDepth 100000 in
set_option maxHeartbeats 4000000 in
theorem solves_any (p : Option Addr) (c : Nat) (a : List Int) (q : Option Addr) (d : Nat) (b : List Int) (g m : Nat) (v : List Int) (w : World) (hA : IntsAt w p a) (hB : IntsAt w q b) (hV : Bl w g v) (hvm : v.length ≤ m) (hm : m ≤ 1152921504606846976) :
    Calls Try.prog 24 #[.slice p a.length c, .slice q b.length d, .slice (some ⟨g, 0, none⟩) v.length m] w fun e w' => e = .returned (.bool (solB a b v)) ∧ Below w.heap.size w w' := by
  have hmax : maxLen = 9223372036854775807 := rfl
  have hsa := hA.small; have hsb := hB.small
  have HA := hid hA; have HB := hid hB; have HV := hid hV
  have HC := hid (check_any p c a q d b w hA hB)
  have HN := hid (containsC_any (some ⟨g, 0, none⟩) m v w (hV.ints (by omega)))
  clear hA hB hV
  by_cases h0 : chkE a b = 0
  · obtain ⟨l5, l6, k1, k2⟩ := chk_zero h0
    have HK1 := hid (coe_of k1); have HK2 := hid (coe_of k2)
    rw [h0] at HC
    have hsum : IntKind.i64.wrap ((a.length : Int) + (b.length : Int)) = (a.length : Int) + (b.length : Int) := IntWalk.i64_in _ (by constructor <;> omega)
    clear k1 k2
    by_cases hl : v.length = a.length + b.length
    · have hne : ((v.length : Int) != (a.length : Int) + (b.length : Int)) = false := by simp; omega
      cases hbc : v.any badC with
      | true =>
        have HR : Hid (solB a b v = false) := hid (by unfold solB; rw [hbc]; simp)
        rw [hbc] at HN
        clear h0 hl hbc
        go_enter Try.func24, Try.ntmps24
        go_wp2_with fail
        refine HC.out.mono ?_
        rintro e w1 ⟨rfl, hw1⟩
        subst hw1
        rename World => w
        go_wp2_with fail
        refine HN.out.mono ?_
        rintro e w1 ⟨rfl, hw1⟩
        subst hw1
        go_wp2_with fail
        go_ret
        exact ⟨by rw [HR.out]; rfl, Below.refl _ _⟩
      | false =>
        have HCV := hid ((cnt_iff v).1 hbc)
        have HR : Hid (solB a b v = decide (prodI a v = prodI b (v.drop a.length))) := hid (by unfold solB; rw [hbc]; simp [h0, hl])
        rw [hbc] at HN
        have hP1 : ∀ W, W.heap = w.heap → Calls Try.prog 46 #[.slice p a.length c, .slice (some ⟨g, 0, none⟩) a.length m] W fun e w' => e = .returned (.int .i64 (prodI a v)) ∧ w' = W := fun W hW => by
          have hb : Below w.heap.size w w := Below.refl _ _
          have h1 := product_any p c a (some ⟨g, 0, none⟩) m (v.take a.length) W ⟨HA.out.small, fun i hi => let ⟨x, o, e1, e2⟩ := HA.out.cells i hi; ⟨x, o, e1, by simp only [World.cell?, hW] at e2 ⊢; exact e2⟩⟩ ((HV.out.same (by rw [hW])).take (by omega) _) HK1.out (fun x hx => HCV.out x (List.mem_of_mem_take hx)) l5 (by rw [List.length_take]; omega)
          rw [prodI_take, List.length_take, Nat.min_eq_left (by omega)] at h1
          exact h1
        have hP2 : ∀ W, W.heap = w.heap → ∀ q2 d2, (q2 = some ⟨g, a.length, none⟩ ∨ b.length = 0) → Calls Try.prog 46 #[.slice q b.length d, .slice q2 b.length d2] W fun e w' => e = .returned (.int .i64 (prodI b (v.drop a.length))) ∧ w' = W := fun W hW q2 d2 hq2 => by
          have hd : (v.drop a.length).length = b.length := by rw [List.length_drop]; omega
          have hI : IntsAt W q2 (v.drop a.length) := by
            rcases hq2 with rfl | h
            · exact (HV.out.same (by rw [hW])).drop (by omega) _
            · rw [List.eq_nil_of_length_eq_zero (hd.trans h)]; exact nil_ints _ _
          have h1 := product_any q d b q2 d2 (v.drop a.length) W ⟨HB.out.small, fun i hi => let ⟨x, o, e1, e2⟩ := HB.out.cells i hi; ⟨x, o, e1, by simp only [World.cell?, hW] at e2 ⊢; exact e2⟩⟩ hI HK2.out (fun x hx => HCV.out x (List.mem_of_mem_drop hx)) l6 (by omega)
          rw [hd] at h1
          exact h1
        have HP1 := hid hP1; have HP2 := hid hP2
        obtain ⟨s1, hs1⟩ : ∃ s, prodI a v = s := ⟨_, rfl⟩
        obtain ⟨s2, hs2⟩ : ∃ s, prodI b (v.drop a.length) = s := ⟨_, rfl⟩
        rw [hs1] at HP1 HR
        rw [hs2] at HP2 HR
        have HLV := hid hl
        clear h0 hl hbc hP1 hP2 hs1 hs2
        go_enter Try.func24, Try.ntmps24
        go_wp2_with fail
        refine HC.out.mono ?_
        rintro e w1 ⟨rfl, hw1⟩
        subst hw1
        rename World => w
        go_wp2_with fail
        refine HN.out.mono ?_
        rintro e w1 ⟨rfl, hw1⟩
        subst hw1
        rename World => w
        clear HN HC
        go_wp2_with fail
        have hi0 : (0 : Int) ≤ (a.length : Int) := by omega
        have hi1 : (a.length : Int) ≤ (v.length : Int) := by have := HLV.out; omega
        have hi2 : (a.length : Int) ≤ (m : Int) := by omega
        have hi3 : (v.length : Int) ≤ (m : Int) := by omega
        have hbl : v.length - a.length = b.length := by have := HLV.out; omega
        have HQ1 : Hid (∀ n, Calls Try.prog 46 #[.slice p a.length c, .slice (some ⟨g, 0, none⟩) a.length m] (w.drewN n) fun e w' => e = .returned (.int .i64 s1) ∧ w' = w.drewN n) := hid (fun n => HP1.out _ (heap_drewN w n))
        by_cases hma : m = a.length
        · have hb0 : b.length = 0 := by have := HLV.out; omega
          have hv0 : v.length = m := by omega
          have HQ2 : Hid (∀ n q2 d2, Calls Try.prog 46 #[.slice q b.length d, .slice q2 0 d2] (w.drewN n) fun e w' => e = .returned (.int .i64 s2) ∧ w' = w.drewN n) := hid (fun n q2 d2 => by have := HP2.out _ (heap_drewN w n) q2 d2 (.inr hb0); rw [hb0] at this ⊢; exact this)
          have sE : ∀ n, (Instr.sliceAt 27 (.slice (some ⟨g, 0, none⟩) a.length a.length) (some (.int .i64 (a.length : Int))) none none).run Try.prog (w.drewN n) = .ok (.slice (some ⟨g, 0, none⟩) 0 0) (w.drewN n) := fun n => slice_end g a.length (w.drewN n)
          have sT : ∀ n, (Instr.sliceAt 27 (.slice (some ⟨g, 0, none⟩) a.length a.length) none (some (.int .i64 (a.length : Int))) none).run Try.prog (w.drewN n) = .ok (.slice (some ⟨g, 0, none⟩) a.length a.length) (w.drewN n) := fun n => slice_to g a.length a.length a.length (by omega) (by omega) (w.drewN n)
          rw [hv0, hma]
          rw [hma] at HQ1
          clear hi0 hi1 hi2 hi3 hbl hb0 HP1 HP2
          go_big_quiet ((first
            | (go_at_call 46; with_reducible exact Calls.quiet_of_same (HQ1.out _))
            | (go_at_call 46; with_reducible exact Calls.quiet_of_same (HQ2.out _ _ _))))
          go_wp2_with fail
          go_ret
          exact ⟨by rw [HR.out]; rfl, below_drewN (Below.refl _ _) _⟩
        · have HQ2 : Hid (∀ n, Calls Try.prog 46 #[.slice q b.length d, .slice (some ⟨g, a.length, none⟩) b.length (m - a.length)] (w.drewN n) fun e w' => e = .returned (.int .i64 s2) ∧ w' = w.drewN n) := hid (fun n => HP2.out _ (heap_drewN w n) _ _ (.inl rfl))
          have sF : ∀ n, (Instr.sliceAt 27 (.slice (some ⟨g, 0, none⟩) v.length m) (some (.int .i64 (a.length : Int))) none none).run Try.prog (w.drewN n) = .ok (.slice (some ⟨g, a.length, none⟩) b.length (m - a.length)) (w.drewN n) := fun n => by rw [← hbl]; exact slice_from g v.length m a.length (by omega) hvm hma (w.drewN n)
          have sT : ∀ n, (Instr.sliceAt 27 (.slice (some ⟨g, 0, none⟩) v.length m) none (some (.int .i64 (a.length : Int))) none).run Try.prog (w.drewN n) = .ok (.slice (some ⟨g, 0, none⟩) a.length m) (w.drewN n) := fun n => slice_to g v.length m a.length (by omega) hvm (w.drewN n)
          have hi4 : ((m - a.length : Nat) : Int) ≠ 0 := by omega
          clear HP1 HP2
          go_big_quiet ((first
            | (go_at_call 46; with_reducible exact Calls.quiet_of_same (HQ1.out _))
            | (go_at_call 46; with_reducible exact Calls.quiet_of_same (HQ2.out _))))
          go_wp2_with fail
          go_ret
          exact ⟨by rw [HR.out]; rfl, below_drewN (Below.refl _ _) _⟩
    · have HR : Hid (solB a b v = false) := hid (by unfold solB; simp [hl])
      have hne : ((v.length : Int) != (a.length : Int) + (b.length : Int)) = true := by simp; omega
      clear h0 hl
      go_enter Try.func24, Try.ntmps24
      go_wp2_with fail
      refine HC.out.mono ?_
      rintro e w1 ⟨rfl, hw1⟩
      subst hw1
      go_wp2_with fail
      go_ret
      exact ⟨by rw [HR.out]; rfl, Below.refl _ _⟩
  · have HR : Hid (solB a b v = false) := hid (by unfold solB; simp [h0])
    obtain ⟨z, hz⟩ : ∃ z, chkE a b = z := ⟨_, rfl⟩
    have hz0 : (z != 0) = true := by rw [hz] at h0; simpa using h0
    rw [hz] at HC
    clear h0 hz
    go_enter Try.func24, Try.ntmps24
    go_wp2_with fail
    refine HC.out.mono ?_
    rintro e w1 ⟨rfl, hw1⟩
    subst hw1
    go_wp2_with fail
    go_ret
    exact ⟨by rw [HR.out]; rfl, Below.refl _ _⟩
end Go.Proofs.Ytbdkogccjnmfoaa
