/- The program's marks. -/
import Derived.Test.YtplekhfnidhcoaaVoA
namespace Go.Proofs.Ytplekhfnidhcoaa
open Go.RowKit Go.Shelf Go.Deep

def MarkOk (k : Nat) : Prop := ∀ (g n : Nat) (w0 : World) (F : Nat → Bool) (x : ByteArray × Int) (l : Fo) (a : Option Addr) (c : Nat) (w : World), nodesF l ≤ k → TmAt w0 x a c l → Below w0.heap.size w0 w → w0.heap.size ≤ g → n ≤ 9223372036854775807 → BoAt w g n F →
  Calls Try.prog 23 #[.slice (some ⟨g, 0, none⟩) n n, .agg #[.string x.1, .int .i64 x.2, .slice a (lenF l) c]] w fun e w' => (∃ v, e = .returned v) ∧ BoAt w' g n (fun i => F i || stR (i : Int) x l) ∧ Fr (fun q => q = g) w w'
theorem fr_keep {A : Nat → Prop} {w w' : World} {B : Nat} {x : ByteArray × Int} {a : Option Addr} {n c : Nat} (h : TBox w B x a n c) (hf : Fr A w w') (hA : ¬ A B) : TBox w' B x a n c := (hf.same B h.lt hA).trans h
set_option maxRecDepth 100000 in
set_option maxHeartbeats 4000000 in
theorem mark_all : ∀ k, MarkOk k := by
  intro k
  induction k using Nat.strongRecOn with
  | _ k ih =>
    intro g n w0 F x l a c w hk hT hlow hg hn hB
    have HT : Hid (TmAt w0 x a c l) := hT
    have IH : Hid (∀ j, j < k → MarkOk j) := ih
    have bA := alloc_below0 w (.cells #[.string x.1, .int .i64 x.2, .slice a (lenF l) c] 26)
    have tb := TBox.new w x a (lenF l) c
    have HB : Hid (BoAt (w.alloc (.cells #[.string x.1, .int .i64 x.2, .slice a (lenF l) c] 26)) g n F) := hid (hB.below bA)
    have hln : lenF l ≤ 9223372036854775807 := by have := hT.sizes.len; have := hT.sizes.cap; unfold maxLen at *; omega
    have HLT := hid hB.lt
    have HLO := hid hlow; have HGG := hid hg
    have HTB := hid tb; have HBA := hid bA
    clear hT ih bA hB hlow hg tb
    have t0 := HTB.out.c0; have t1 := HTB.out.c1
    obtain ⟨mk, hmk⟩ : ∃ b : Bool, (x.1.toList.isEmpty && (decide (0 ≤ x.2) && decide (x.2 < (n : Int)))) = b := ⟨_, rfl⟩
    have HMK := hid hmk
    have hnz : (n : Int) ≤ 9223372036854775807 := by omega
    clear hmk
    go_enter Try.func23, Try.ntmps23
    go_upto_region 1 with fail
    obtain ⟨W1, hW1⟩ : ∃ W1, w.alloc (.cells #[.string x.1, .int .i64 x.2, .slice a (lenF l) c] 26) = W1 := ⟨_, rfl⟩
    rw [hW1] at HB HTB HBA t0 t1 ⊢
    clear hW1
    go_cut [20] (fun cv wc => cv = .bool mk ∧ wc = W1)
    case first =>
      have hm2 := HMK.out
      cases hx : x.1.toList.isEmpty
      · rw [hx, Bool.false_and] at hm2
        subst hm2
        go_wp2_with fail
        go_meet
        exact ⟨rfl, rfl⟩
      · rw [hx, Bool.true_and] at hm2
        by_cases h0 : 0 ≤ x.2
        · rw [decide_eq_true h0, Bool.true_and] at hm2
          by_cases h3 : x.2 < (n : Int)
          · rw [decide_eq_true h3] at hm2
            subst hm2
            go_wp2_with fail
            go_meet
            exact ⟨rfl, rfl⟩
          · rw [decide_eq_false h3] at hm2
            subst hm2
            go_wp2_with fail
            go_meet
            exact ⟨rfl, rfl⟩
        · rw [decide_eq_false h0, Bool.false_and] at hm2
          subst hm2
          go_wp2_with fail
          go_meet
          exact ⟨rfl, rfl⟩
    case rest =>
    obtain ⟨rfl, rfl⟩ := hcut
    go_upto_if 20 with fail
    go_cut [7] (fun _ w5 => BoAt w5 g n (fun i => F i || stN (i : Int) x) ∧ TBox w5 w.heap.size x a (lenF l) c ∧ Fr (fun q => q = g) w w5)
    case first =>
      have hm2 := HMK.out
      cases mk with
      | true =>
        rw [Bool.and_eq_true, Bool.and_eq_true] at hm2
        obtain ⟨e1, e2, e3⟩ := hm2
        have e2 := of_decide_eq_true e2
        have e3 := of_decide_eq_true e3
        obtain ⟨i, hi⟩ : ∃ i : Nat, x.2 = (i : Int) := ⟨x.2.toNat, by omega⟩
        have hin : i < n := by omega
        have c1 := HB.out.cell i hin
        have f1 := HB.out.free i
        have hgw : g ≠ w.heap.size := by have := HLT.out; omega
        have HS : Hid (BoAt (wc.setCell ⟨g, i, none⟩ (.bool true)) g n (fun q => F q || stN (q : Int) x) ∧ TBox (wc.setCell ⟨g, i, none⟩ (.bool true)) w.heap.size x a (lenF l) c ∧ Fr (fun q => q = g) w (wc.setCell ⟨g, i, none⟩ (.bool true))) := hid ⟨HB.out.set i true (fun q hq => by
            unfold stN
            rw [e1, Bool.true_and, hi]
            by_cases e : q = i
            · subst e; simp
            · have h7 : ¬ ((i : Int) = (q : Int)) := by omega
              rw [if_neg e, decide_eq_false h7, Bool.or_false]), (set_far (fun e => hgw e.symm) _).trans HTB.out, (Fr.of_below HBA.out).trans (fr_set wc g i _)⟩
        rw [hi] at t1
        have hin2 : (i : Int) < (n : Int) := by omega
        clear e1 e2 e3
        go_wp2_with fail
        go_meet
        exact HS.out
      | false =>
        have HS : Hid (BoAt wc g n (fun q => F q || stN (q : Int) x)) := hid (HB.out.ext (fun q hq => by
          unfold stN
          cases hx : x.1.toList.isEmpty
          · rw [Bool.false_and, Bool.or_false]
          · rw [hx, Bool.true_and] at hm2
            have h7 : ¬ (x.2 = (q : Int)) := fun e => by
              rw [e, decide_eq_true (by omega), decide_eq_true (by omega)] at hm2
              cases hm2
            rw [decide_eq_false h7, Bool.and_false, Bool.or_false]))
        clear hm2
        go_wp2_with fail
        go_meet
        exact ⟨HS.out, HTB.out, Fr.of_below HBA.out⟩
    case rest =>
    clear t0 t1 HB HTB HBA
    obtain ⟨hb5, ht5, hf5⟩ := hcut
    have t2 := ht5.c2
    have HB5 := hid hb5; have HF5 := hid hf5
    clear hb5 ht5 hf5
    go_wp2_with fail
    go_loopw [28, 5] (fun iv _ wr => ∃ j : Nat, ∃ G : Nat → Bool, j ≤ lenF l ∧ iv = .int .i64 j ∧ BoAt wr g n G ∧ (∀ q : Nat, (F q || stR (q : Int) x l) = (G q || stF (q : Int) (dropF j l))) ∧ Fr (fun q => q = g) w wr) (fun iv _ _ => lenF l - (intOf iv).toNat)
    case atStart => exact ⟨0, _, Nat.zero_le _, rfl, HB5.out, fun q => by rw [drop_zero]; unfold stR; rw [Bool.or_assoc], HF5.out⟩
    case round =>
      obtain ⟨j, G, hj, rfl, hbo, heq, hfr⟩ := hrel
      have HBO := hid hbo; have HEQ := hid heq; have HFR := hid hfr
      clear hbo heq hfr
      have hB0 : Below w0.heap.size w0 wr := HLO.out.trans (HFR.out.below (fun q hq => by rw [hq]; exact HGG.out) HLO.out.size)
      by_cases hlt : j < lenF l
      · obtain ⟨b1, o1, rfl, hk1⟩ := HT.out.args.get (by omega)
        obtain ⟨z, a1, c1, l1, kd⟩ := hk1.kid (k := j) hlt
        have kd' := kd.below hB0
        obtain ⟨B1, O1, s1⟩ := kd.split
        have p0 := kd'.name; have p1 := kd'.sym; have p2 := kd'.list
        have bA2 := alloc_below0 wr (.cells #[.string z.1, .int .i64 z.2, .slice a1 (lenF l1) c1] 26)
        have HC := hid (IH.out (nodesF l1) (by have := kd.less; omega) g n w0 G z l1 a1 c1 _ (Nat.le_refl _) kd.at_ (hB0.trans (bA2.mono hB0.size)) HGG.out hn (HBO.out.below bA2))
        have HS1 : Hid (∀ q : Nat, stF (q : Int) (dropF j l) = (stR (q : Int) z l1 || stF (q : Int) (dropF (j + 1) l))) := hid (fun q => by rw [s1]; rfl)
        have HBA2 := hid bA2
        have tb2 := TBox.new wr z a1 (lenF l1) c1
        have u0 := tb2.c0; have u1 := tb2.c1; have u2 := tb2.c2
        have hj0 : (j : Int) < (lenF l : Int) := by omega
        clear kd kd' hk1 s1 bA2 hB0 tb2
        go_wp2_with fail
        refine HC.out.mono ?_
        rintro e w2 ⟨⟨v9, rfl⟩, hb9, hf9⟩
        have HB9 := hid hb9; have HF9 := hid hf9
        clear hb9 hf9 HC u0 u1 u2 p0 p1 p2
        go_wp2
        go_roundw
        case rel => exact ⟨j + 1, _, by omega, by go_num, HB9.out, fun q => by rw [HEQ.out q, HS1.out q, Bool.or_assoc], HFR.out.trans ((Fr.of_below HBA2.out).trans HF9.out)⟩
        case measure => simp [intOf]; omega
      · have e1 : j = lenF l := by omega
        have HBE : Hid (BoAt wr g n (fun q => F q || stR (q : Int) x l)) := hid (HBO.out.ext (fun q _ => by rw [HEQ.out q, e1, drop_end]; exact Bool.or_false _))
        clear hB0
        go_wp2
        refine bodyPost_end (results_none rfl _ _ _) rfl ?_
        exact ⟨⟨_, rfl⟩, HBE.out, HFR.out⟩
end Go.Proofs.Ytplekhfnidhcoaa
