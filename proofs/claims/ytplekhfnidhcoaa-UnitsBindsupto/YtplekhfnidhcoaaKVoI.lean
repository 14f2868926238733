import Derived.Test.YtplekhfnidhcoaaVoH
import Derived.Test.YtplekhfnidhcoaaTRVars
import Derived.Test.YtplekhfnidhcoaaTKept
import Derived.Test.YtplekhfnidhcoaaSigMem
import Derived.Lib.AppendZeros
import Derived.Shelf.Sort.Plain
import Derived.Shelf.Slices.CompactI
import Derived.Shelf.Slices.In.SortNone
import Derived.Test.YtplekhfnidhcoaaProg
import Derived.Deep.AppendLies
import Derived.Deep.AppendSrc
import Derived.Maps.OwnSet
import Derived.Test.YtplekhfnidhcoaaUnit
import Derived.Lib.SlicesCompact
/- Is of binds to constants; Vars of a term. -/
namespace Go.Proofs.Ytplekhfnidhcoaa
open Go.RowKit Go.Shelf Go.Deep

set_option maxRecDepth 100000 in
set_option maxHeartbeats 1000000 in
theorem risb_any (p : Option Addr) (n c : Nat) (l : List Sym) (q : Option Addr) (d : Nat) (xs : List Bl) (w : World) (hS : SigAt w p n l) (hB : BlAt w q xs) (hG : GoodB l xs) :
    Calls Try.prog 22 #[.slice p n c, .slice q xs.length d] w fun e w' => e = .returned (.bool true) ∧ Below w.heap.size w w' := by
  have HC := hid (rchkb_any p n c l q d xs w hS hB hG)
  obtain ⟨m, hm⟩ : ∃ m, xs.length = m := ⟨_, rfl⟩
  rw [hm] at HC ⊢
  clear hS hB hG hm
  go_enter Try.func22, Try.ntmps22
  go_wp2_with fail
  refine HC.out.mono ?_
  rintro e w1 ⟨rfl, hb⟩
  have HL := hid hb
  clear hb HC
  go_wp2
  go_ret
  exact ⟨rfl, HL.out⟩
/-- The names of a term's variables. -/
def namesT (x : ByteArray × Int) (l : Fo) : List Nm := namesN x ++ namesFo l
set_option maxRecDepth 100000 in
set_option maxHeartbeats 1000000 in
theorem rvars_any (x : ByteArray × Int) (l : Fo) (a : Option Addr) (c : Nat) (w : World) (hT : TmAt w x a c l) (hk : nodesF l + 1 ≤ 1048576) :
    Calls Try.prog 21 #[.agg #[.string x.1, .int .i64 x.2, .slice a (lenF l) c]] w fun e w' => ∃ v, e = .returned v ∧ w'.ownsRow w.heap.size 9 1 v (Lib.compact (sortL (namesT x l))).length ((Lib.compact (sortL (namesT x l))).map encStr) ∧ Below w.heap.size w w' := by
  have tb := TBox.new w x a (lenF l) c
  have t0 := tb.c0; have t1 := tb.c1; have t2 := tb.c2
  have HB := hid (alloc_below0 w (.cells #[.string x.1, .int .i64 x.2, .slice a (lenF l) c] 26))
  have HT := hid hT
  clear hT tb
  go_enter Try.func21, Try.ntmps21
  go_wp2_with fail
  refine (names_all (nodesF l) w x l a c (.slice none 0 0) [] _ (Nat.le_refl _) HT.out HB.out (World.ownsRow_nil _ _ _ _) (by simp only [List.length_nil]; omega)).mono ?_
  rintro e w1 ⟨v1, rfl, hown, hnv⟩
  rw [List.nil_append] at hown
  have hlen : (namesN x ++ namesFo l).length ≤ nodesF l + 1 := by rw [List.length_append]; have := namesN_len x; have := namesFo_len l; omega
  obtain ⟨a1, cap1, rfl, _, _, hTx, _⟩ := texts_of_owns hown
  have HTX := hid hTx; have HLW := hid (HB.out.trans (hnv.low.mono (Nat.le_refl _)))
  have HC := hid (Names_any a1 _ cap1 (namesN x ++ namesFo l) w1 hTx (by omega))
  clear hown hnv hTx t0 t1 t2
  obtain ⟨m, hm⟩ : ∃ m, (namesN x ++ namesFo l).length = m := ⟨_, rfl⟩
  rw [hm] at HC ⊢
  clear hm hlen
  go_wp2_with fail
  refine HC.out.mono ?_
  rintro e w2 ⟨v2, rfl, hown2, hb2⟩
  have HO := hid (own_base9 hown2 HLW.out.size); have HL2 := hid (HLW.out.trans (hb2.mono HLW.out.size))
  obtain ⟨a2, cap2, rfl, _, _, _, _⟩ := texts_of_owns hown2
  clear hown2 hb2 HC
  go_wp2
  go_ret
  exact ⟨_, rfl, HO.out, HL2.out⟩
end Go.Proofs.Ytplekhfnidhcoaa
/- Which symbols stand in a term: the document's look, the program's marks. -/
namespace Go.Proofs.Ytplekhfnidhcoaa
open Go.RowKit Go.Shelf Go.Deep

structure One (w : World) (x : ByteArray × Int) (a : Option Addr) (n c : Nat) (W : World) : Prop where
  low : Below w.heap.size w W
  t : TBox W w.heap.size x a n c
theorem One.new (w : World) (x : ByteArray × Int) (a : Option Addr) (n c : Nat) : One w x a n c (w.alloc (.cells #[.string x.1, .int .i64 x.2, .slice a n c] 26)) := ⟨(Below.refl _ w).alloc (Nat.le_refl _) _, TBox.new _ _ _ _ _⟩
theorem One.below {w : World} {x : ByteArray × Int} {a : Option Addr} {n c : Nat} {W W' : World} (h : One w x a n c W) (hb : Below W.heap.size W W') : One w x a n c W' := ⟨h.low.trans (hb.mono h.low.size), h.t.below hb⟩
def stN (s : Int) (x : ByteArray × Int) : Bool := x.1.toList.isEmpty && decide (x.2 = s)
def stF (s : Int) : Fo → Bool
  | .nil => false
  | .node _ _ x l r => (stN s x || stF s l) || stF s r
/-- Does a symbol stand in a term? -/
def stR (s : Int) (x : ByteArray × Int) (l : Fo) : Bool := stN s x || stF s l
def RStOk (k : Nat) : Prop := ∀ (s : Int) (x : ByteArray × Int) (l : Fo) (a : Option Addr) (c : Nat) (w : World), nodesF l ≤ k → TmAt w x a c l →
  Calls Try.prog 27 #[.agg #[.string x.1, .int .i64 x.2, .slice a (lenF l) c], .int .i64 s] w fun e w' => e = .returned (.bool (stR s x l)) ∧ Below w.heap.size w w'
set_option maxRecDepth 100000 in
set_option maxHeartbeats 2000000 in
theorem rst_all : ∀ k, RStOk k := by
  intro k
  induction k using Nat.strongRecOn with
  | _ k ih =>
    intro s x l a c w hk hT
    have HT : Hid (TmAt w x a c l) := hT
    have IH : Hid (∀ j, j < k → RStOk j) := ih
    have O0 : Hid (One w x a (lenF l) c (w.alloc (.cells #[.string x.1, .int .i64 x.2, .slice a (lenF l) c] 26))) := One.new _ _ _ _ _
    have hn : lenF l ≤ 9223372036854775807 := by have := hT.sizes.len; have := hT.sizes.cap; unfold maxLen at *; omega
    have t0 := O0.out.t.c0; have t1 := O0.out.t.c1; have t2' := O0.out.t.c2
    clear hT ih
    cases h1 : stN s x
    · have HD : Hid (stR s x l = stF s l) := hid (by unfold stR; rw [h1, Bool.false_or])
      have h2 : x.1.toList.isEmpty = true → ¬ (x.2 = s) := fun h e => by unfold stN at h1; rw [h, decide_eq_true e] at h1; cases h1
      clear h1
      cases hx : x.1.toList.isEmpty
      all_goals
        first | (have h3 := h2 hx; have h4 : (x.2 == s) = false := beq_eq_false_iff_ne.2 h3) | skip
        clear h2
        go_enter Try.func27, Try.ntmps27
        go_wp2
        clear t0 t1 t2'
        go_loopw [5, 6] (fun i _ wr => ∃ j : Nat, j ≤ lenF l ∧ i = .int .i64 j ∧ One w x a (lenF l) c wr ∧ stF s l = stF s (dropF j l)) (fun i _ _ => lenF l - (intOf i).toNat)
        case atStart => exact ⟨0, Nat.zero_le _, rfl, O0.out, by rw [drop_zero]⟩
        case round =>
          obtain ⟨j, hj, rfl, hO, hf⟩ := hrel
          have t2 := hO.t.c2
          by_cases hlt : j < lenF l
          · obtain ⟨b1, o1, rfl, hk1⟩ := HT.out.args.get (by omega)
            obtain ⟨z, a1, c1, l1, kd⟩ := hk1.kid (k := j) hlt
            have kd' := kd.below hO.low
            obtain ⟨B1, O1, s1⟩ := kd.split
            rw [s1, stF] at hf
            have HF : Hid (stF s l = (stR s z l1 || stF s (dropF (j + 1) l))) := hf
            have p0 := kd'.name; have p1 := kd'.sym; have p2 := kd'.list
            have hC := IH.out (nodesF l1) (by have := kd.less; omega) s z l1 a1 c1 wr (Nat.le_refl _) kd'.at_
            have HO : Hid (One w x (some ⟨b1, o1, none⟩) (lenF l) c wr) := hO
            clear kd kd' hk1 s1 hO hf
            go_wp2_with fail
            refine hC.mono ?_
            rintro e w2 ⟨rfl, hb⟩
            have HO2 : Hid (One w x (some ⟨b1, o1, none⟩) (lenF l) c w2) := HO.out.below hb
            clear hC hb p0 p1 p2 t2
            cases hr : stR s z l1
            · rw [hr, Bool.false_or] at HF
              go_wp2
              go_roundw
              case rel => exact ⟨j + 1, by omega, by go_num, HO2.out, HF.out⟩
              case measure => simp [intOf]; omega
            · rw [hr, Bool.true_or] at HF
              go_wp2
              go_ret
              exact ⟨by rw [HD.out, HF.out]; rfl, HO2.out.low⟩
          · have e1 : j = lenF l := by omega
            rw [e1, drop_end, stF] at hf
            have HF : Hid (stF s l = false) := hf
            clear hf
            go_wp2
            go_ret
            exact ⟨by rw [HD.out, HF.out]; rfl, hO.low⟩
    · have HD : Hid (stR s x l = true) := hid (by unfold stR; rw [h1, Bool.true_or])
      have h2 : x.1.toList.isEmpty = true ∧ x.2 = s := by unfold stN at h1; simpa using h1
      obtain ⟨h2, h3⟩ := h2
      have h4 : (x.2 == s) = true := by simp [h3]
      clear h1
      go_enter Try.func27, Try.ntmps27
      go_wp2
      go_ret
      exact ⟨by rw [HD.out]; rfl, alloc_below0 _ _⟩
/-- A row of marks. -/
structure BoAt (W : World) (g n : Nat) (F : Nat → Bool) : Prop where
  blk : ∃ cur : Array Value, W.heap[g]? = some (.cells cur 4 (0, 0)) ∧ ∀ i, i < n → cur[i]? = some (.bool (F i))
theorem BoAt.same {W W' : World} {g n : Nat} {F : Nat → Bool} (h : BoAt W g n F) (hs : W'.heap[g]? = W.heap[g]?) : BoAt W' g n F := let ⟨cur, h1, h2⟩ := h.blk; ⟨cur, hs.trans h1, h2⟩
theorem BoAt.cell {W : World} {g n : Nat} {F : Nat → Bool} (h : BoAt W g n F) (i : Nat) (hi : i < n) : W.cell? ⟨g, i, none⟩ = some (.bool (F i)) := let ⟨_, h1, h2⟩ := h.blk; cell_box h1 (h2 i hi)
theorem BoAt.free {W : World} {g n : Nat} {F : Nat → Bool} (h : BoAt W g n F) (i : Nat) : W.frozen? ⟨g, i, none⟩ = false := let ⟨_, h1, _⟩ := h.blk; by simp [World.frozen?, h1]
theorem BoAt.lt {W : World} {g n : Nat} {F : Nat → Bool} (h : BoAt W g n F) : g < W.heap.size := let ⟨_, h1, _⟩ := h.blk; (Array.getElem?_eq_some_iff.1 h1).1
theorem BoAt.below {W W' : World} {g n : Nat} {F : Nat → Bool} (h : BoAt W g n F) (hb : Below W.heap.size W W') : BoAt W' g n F := h.same (hb.block g h.lt)
theorem BoAt.ext {W : World} {g n : Nat} {F F' : Nat → Bool} (h : BoAt W g n F) (hF : ∀ q, q < n → F' q = F q) : BoAt W g n F' := let ⟨cur, h1, h2⟩ := h.blk; ⟨cur, h1, fun i hi => by rw [hF i hi]; exact h2 i hi⟩
theorem BoAt.set {W : World} {g n : Nat} {F : Nat → Bool} (h : BoAt W g n F) (i : Nat) (x : Bool) {F' : Nat → Bool} (hF : ∀ q, q < n → F' q = if q = i then x else F q) : BoAt (W.setCell ⟨g, i, none⟩ (.bool x)) g n F' := by
  obtain ⟨cur, h1, h2⟩ := h.blk
  refine ⟨_, block_set h1 _, fun j hj => ?_⟩
  have h3 := h2 j hj
  have h4 := (Array.getElem?_eq_some_iff.1 h3).1
  rw [Array.getElem?_setIfInBounds, hF j hj]
  by_cases e : i = j
  · subst e; rw [if_pos rfl, if_pos h4, if_pos rfl]
  · rw [if_neg e, if_neg (fun h => e h.symm)]; exact h3
end Go.Proofs.Ytplekhfnidhcoaa
/- The program's marks. -/
namespace Go.Proofs.Ytplekhfnidhcoaa
open Go.RowKit Go.Shelf Go.Deep

def MarkOk (k : Nat) : Prop := ∀ (g n : Nat) (w0 : World) (F : Nat → Bool) (x : ByteArray × Int) (l : Fo) (a : Option Addr) (c : Nat) (w : World), nodesF l ≤ k → TmAt w0 x a c l → Below w0.heap.size w0 w → w0.heap.size ≤ g → n ≤ 9223372036854775807 → BoAt w g n F →
  Calls Try.prog 23 #[.slice (some ⟨g, 0, none⟩) n n, .agg #[.string x.1, .int .i64 x.2, .slice a (lenF l) c]] w fun e w' => (∃ v, e = .returned v) ∧ BoAt w' g n (fun i => F i || stR (i : Int) x l) ∧ Fr (fun q => q = g) w w'
theorem fr_keep {A : Nat → Prop} {w w' : World} {B : Nat} {x : ByteArray × Int} {a : Option Addr} {n c : Nat} (h : TBox w B x a n c) (hf : Fr A w w') (hA : ¬ A B) : TBox w' B x a n c := (hf.same B h.lt hA).trans h
set_option maxRecDepth 100000 in
set_option maxHeartbeats 4000000 in
theorem mark_all : ∀ k, MarkOk k := by
  intro k
  induction k using Nat.strongRecOn with
  | _ k ih =>
    intro g n w0 F x l a c w hk hT hlow hg hn hB
    have HT : Hid (TmAt w0 x a c l) := hT
    have IH : Hid (∀ j, j < k → MarkOk j) := ih
    have bA := alloc_below0 w (.cells #[.string x.1, .int .i64 x.2, .slice a (lenF l) c] 26)
    have tb := TBox.new w x a (lenF l) c
    have HB : Hid (BoAt (w.alloc (.cells #[.string x.1, .int .i64 x.2, .slice a (lenF l) c] 26)) g n F) := hid (hB.below bA)
    have hln : lenF l ≤ 9223372036854775807 := by have := hT.sizes.len; have := hT.sizes.cap; unfold maxLen at *; omega
    have HLT := hid hB.lt
    have HLO := hid hlow; have HGG := hid hg
    have HTB := hid tb; have HBA := hid bA
    clear hT ih bA hB hlow hg tb
    have t0 := HTB.out.c0; have t1 := HTB.out.c1
    obtain ⟨mk, hmk⟩ : ∃ b : Bool, (x.1.toList.isEmpty && (decide (0 ≤ x.2) && decide (x.2 < (n : Int)))) = b := ⟨_, rfl⟩
    have HMK := hid hmk
    have hnz : (n : Int) ≤ 9223372036854775807 := by omega
    clear hmk
    go_enter Try.func23, Try.ntmps23
    go_upto_region 1 with fail
    obtain ⟨W1, hW1⟩ : ∃ W1, w.alloc (.cells #[.string x.1, .int .i64 x.2, .slice a (lenF l) c] 26) = W1 := ⟨_, rfl⟩
    rw [hW1] at HB HTB HBA t0 t1 ⊢
    clear hW1
    go_cut [20] (fun cv wc => cv = .bool mk ∧ wc = W1)
    case first =>
      have hm2 := HMK.out
      cases hx : x.1.toList.isEmpty
      · rw [hx, Bool.false_and] at hm2
        subst hm2
        go_wp2_with fail
        go_meet
        exact ⟨rfl, rfl⟩
      · rw [hx, Bool.true_and] at hm2
        by_cases h0 : 0 ≤ x.2
        · rw [decide_eq_true h0, Bool.true_and] at hm2
          by_cases h3 : x.2 < (n : Int)
          · rw [decide_eq_true h3] at hm2
            subst hm2
            go_wp2_with fail
            go_meet
            exact ⟨rfl, rfl⟩
          · rw [decide_eq_false h3] at hm2
            subst hm2
            go_wp2_with fail
            go_meet
            exact ⟨rfl, rfl⟩
        · rw [decide_eq_false h0, Bool.false_and] at hm2
          subst hm2
          go_wp2_with fail
          go_meet
          exact ⟨rfl, rfl⟩
    case rest =>
    obtain ⟨rfl, rfl⟩ := hcut
    go_upto_if 20 with fail
    go_cut [7] (fun _ w5 => BoAt w5 g n (fun i => F i || stN (i : Int) x) ∧ TBox w5 w.heap.size x a (lenF l) c ∧ Fr (fun q => q = g) w w5)
    case first =>
      have hm2 := HMK.out
      cases mk with
      | true =>
        rw [Bool.and_eq_true, Bool.and_eq_true] at hm2
        obtain ⟨e1, e2, e3⟩ := hm2
        have e2 := of_decide_eq_true e2
        have e3 := of_decide_eq_true e3
        obtain ⟨i, hi⟩ : ∃ i : Nat, x.2 = (i : Int) := ⟨x.2.toNat, by omega⟩
        have hin : i < n := by omega
        have c1 := HB.out.cell i hin
        have f1 := HB.out.free i
        have hgw : g ≠ w.heap.size := by have := HLT.out; omega
        have HS : Hid (BoAt (wc.setCell ⟨g, i, none⟩ (.bool true)) g n (fun q => F q || stN (q : Int) x) ∧ TBox (wc.setCell ⟨g, i, none⟩ (.bool true)) w.heap.size x a (lenF l) c ∧ Fr (fun q => q = g) w (wc.setCell ⟨g, i, none⟩ (.bool true))) := hid ⟨HB.out.set i true (fun q hq => by
            unfold stN
            rw [e1, Bool.true_and, hi]
            by_cases e : q = i
            · subst e; simp
            · have h7 : ¬ ((i : Int) = (q : Int)) := by omega
              rw [if_neg e, decide_eq_false h7, Bool.or_false]), (set_far (fun e => hgw e.symm) _).trans HTB.out, (Fr.of_below HBA.out).trans (fr_set wc g i _)⟩
        rw [hi] at t1
        have hin2 : (i : Int) < (n : Int) := by omega
        clear e1 e2 e3
        go_wp2_with fail
        go_meet
        exact HS.out
      | false =>
        have HS : Hid (BoAt wc g n (fun q => F q || stN (q : Int) x)) := hid (HB.out.ext (fun q hq => by
          unfold stN
          cases hx : x.1.toList.isEmpty
          · rw [Bool.false_and, Bool.or_false]
          · rw [hx, Bool.true_and] at hm2
            have h7 : ¬ (x.2 = (q : Int)) := fun e => by
              rw [e, decide_eq_true (by omega), decide_eq_true (by omega)] at hm2
              cases hm2
            rw [decide_eq_false h7, Bool.and_false, Bool.or_false]))
        clear hm2
        go_wp2_with fail
        go_meet
        exact ⟨HS.out, HTB.out, Fr.of_below HBA.out⟩
    case rest =>
    clear t0 t1 HB HTB HBA
    obtain ⟨hb5, ht5, hf5⟩ := hcut
    have t2 := ht5.c2
    have HB5 := hid hb5; have HF5 := hid hf5
    clear hb5 ht5 hf5
    go_wp2_with fail
    go_loopw [28, 5] (fun iv _ wr => ∃ j : Nat, ∃ G : Nat → Bool, j ≤ lenF l ∧ iv = .int .i64 j ∧ BoAt wr g n G ∧ (∀ q : Nat, (F q || stR (q : Int) x l) = (G q || stF (q : Int) (dropF j l))) ∧ Fr (fun q => q = g) w wr) (fun iv _ _ => lenF l - (intOf iv).toNat)
    case atStart => exact ⟨0, _, Nat.zero_le _, rfl, HB5.out, fun q => by rw [drop_zero]; unfold stR; rw [Bool.or_assoc], HF5.out⟩
    case round =>
      obtain ⟨j, G, hj, rfl, hbo, heq, hfr⟩ := hrel
      have HBO := hid hbo; have HEQ := hid heq; have HFR := hid hfr
      clear hbo heq hfr
      have hB0 : Below w0.heap.size w0 wr := HLO.out.trans (HFR.out.below (fun q hq => by rw [hq]; exact HGG.out) HLO.out.size)
      by_cases hlt : j < lenF l
      · obtain ⟨b1, o1, rfl, hk1⟩ := HT.out.args.get (by omega)
        obtain ⟨z, a1, c1, l1, kd⟩ := hk1.kid (k := j) hlt
        have kd' := kd.below hB0
        obtain ⟨B1, O1, s1⟩ := kd.split
        have p0 := kd'.name; have p1 := kd'.sym; have p2 := kd'.list
        have bA2 := alloc_below0 wr (.cells #[.string z.1, .int .i64 z.2, .slice a1 (lenF l1) c1] 26)
        have HC := hid (IH.out (nodesF l1) (by have := kd.less; omega) g n w0 G z l1 a1 c1 _ (Nat.le_refl _) kd.at_ (hB0.trans (bA2.mono hB0.size)) HGG.out hn (HBO.out.below bA2))
        have HS1 : Hid (∀ q : Nat, stF (q : Int) (dropF j l) = (stR (q : Int) z l1 || stF (q : Int) (dropF (j + 1) l))) := hid (fun q => by rw [s1]; rfl)
        have HBA2 := hid bA2
        have tb2 := TBox.new wr z a1 (lenF l1) c1
        have u0 := tb2.c0; have u1 := tb2.c1; have u2 := tb2.c2
        have hj0 : (j : Int) < (lenF l : Int) := by omega
        clear kd kd' hk1 s1 bA2 hB0 tb2
        go_wp2_with fail
        refine HC.out.mono ?_
        rintro e w2 ⟨⟨v9, rfl⟩, hb9, hf9⟩
        have HB9 := hid hb9; have HF9 := hid hf9
        clear hb9 hf9 HC u0 u1 u2 p0 p1 p2
        go_wp2
        go_roundw
        case rel => exact ⟨j + 1, _, by omega, by go_num, HB9.out, fun q => by rw [HEQ.out q, HS1.out q, Bool.or_assoc], HFR.out.trans ((Fr.of_below HBA2.out).trans HF9.out)⟩
        case measure => simp [intOf]; omega
      · have e1 : j = lenF l := by omega
        have HBE : Hid (BoAt wr g n (fun q => F q || stR (q : Int) x l)) := hid (HBO.out.ext (fun q _ => by rw [HEQ.out q, e1, drop_end]; exact Bool.or_false _))
        clear hB0
        go_wp2
        refine bodyPost_end (results_none rfl _ _ _) rfl ?_
        exact ⟨⟨_, rfl⟩, HBE.out, HFR.out⟩
end Go.Proofs.Ytplekhfnidhcoaa
/- A signature in which only some symbols have units. -/
namespace Go.Proofs.Ytplekhfnidhcoaa
open Go.RowKit Go.Shelf Go.Deep

def symC (s : Sym) : List Value := [.string s.name, .int .i64 s.kind, .int .i64 s.arity, .string s.unit]
/-- The symbol at a place. -/
def sG (l : List Sym) (q : Nat) : Sym := l.getD q ⟨⟨#[]⟩, 0, 0, ⟨#[]⟩⟩
theorem sG_at {l : List Sym} {q : Nat} (h : q < l.length) : sG l q = l[q] := by unfold sG; simp [h]
def onS (b : Bool) (s : Sym) : Sym := if b then s else ⟨s.name, 1, s.arity, s.unit⟩
/-- The signature in which only the marked symbols have their kinds. -/
def onL (F : Nat → Bool) (l : List Sym) : List Sym := (List.range l.length).map (fun q => onS (F q) (sG l q))
theorem onL_len (F : Nat → Bool) (l : List Sym) : (onL F l).length = l.length := by simp [onL]
theorem onL_at (F : Nat → Bool) (l : List Sym) (q : Nat) (h : q < (onL F l).length) : (onL F l)[q] = onS (F q) (sG l q) := by simp [onL]
/-- Symbols in a block of their own. -/
structure SyAt (W : World) (g n : Nat) (S : Nat → Sym) : Prop where
  blk : ∃ cur : Array Value, W.heap[g]? = some (.cells cur 80 (0, 0)) ∧ ∀ i, i < n → cur[i * 4]? = some (.string (S i).name) ∧ cur[i * 4 + 1]? = some (.int .i64 (S i).kind) ∧ cur[i * 4 + 2]? = some (.int .i64 (S i).arity) ∧ cur[i * 4 + 3]? = some (.string (S i).unit)
theorem SyAt.lt {W : World} {g n : Nat} {S : Nat → Sym} (h : SyAt W g n S) : g < W.heap.size := let ⟨_, h1, _⟩ := h.blk; (Array.getElem?_eq_some_iff.1 h1).1
theorem SyAt.kind {W : World} {g n : Nat} {S : Nat → Sym} (h : SyAt W g n S) (i : Nat) (hi : i < n) : W.cell? ⟨g, i * 4 + 1, none⟩ = some (.int .i64 (S i).kind) := let ⟨_, h1, h2⟩ := h.blk; cell_box h1 (h2 i hi).2.1
theorem SyAt.free {W : World} {g n : Nat} {S : Nat → Sym} (h : SyAt W g n S) (i : Nat) : W.frozen? ⟨g, i, none⟩ = false := let ⟨_, h1, _⟩ := h.blk; by simp [World.frozen?, h1]
theorem SyAt.ext {W : World} {g n : Nat} {S S' : Nat → Sym} (h : SyAt W g n S) (hS : ∀ q, q < n → S' q = S q) : SyAt W g n S' := let ⟨cur, h1, h2⟩ := h.blk; ⟨cur, h1, fun i hi => by rw [hS i hi]; exact h2 i hi⟩
theorem SyAt.set {W : World} {g n : Nat} {S : Nat → Sym} (h : SyAt W g n S) (i : Nat) (hi : i < n) {S' : Nat → Sym} (hS : ∀ q, q < n → S' q = if q = i then ⟨(S q).name, 1, (S q).arity, (S q).unit⟩ else S q) : SyAt (W.setCell ⟨g, i * 4 + 1, none⟩ (.int .i64 1)) g n S' := by
  obtain ⟨cur, h1, h2⟩ := h.blk
  refine ⟨_, block_set h1 _, fun j hj => ?_⟩
  obtain ⟨e0, e1, e2, e3⟩ := h2 j hj
  have l1 := (Array.getElem?_eq_some_iff.1 (h2 i hi).2.1).1
  rw [Array.getElem?_setIfInBounds, Array.getElem?_setIfInBounds, Array.getElem?_setIfInBounds, Array.getElem?_setIfInBounds, hS j hj]
  rw [if_neg (by omega), if_neg (by omega : ¬ i * 4 + 1 = j * 4 + 2), if_neg (by omega : ¬ i * 4 + 1 = j * 4 + 3)]
  by_cases e : j = i
  · subst e
    rw [if_pos rfl, if_pos l1, if_pos rfl]
    exact ⟨e0, rfl, e2, e3⟩
  · rw [if_neg e, if_neg (by omega)]
    exact ⟨e0, e1, e2, e3⟩
theorem SyAt.sig {W : World} {g n : Nat} {S : Nat → Sym} (h : SyAt W g n S) {l : List Sym} (hn : n = l.length) (hs : n ≤ maxLen) (hl : ∀ q (h : q < l.length), l[q] = S q) (hf : ∀ x ∈ l, x.Fits) : SigAt W (some ⟨g, 0, none⟩) n l := by
  refine ⟨hn, hs, fun i hi => ⟨g, 0, rfl, ?_⟩, hf⟩
  obtain ⟨cur, h1, h2⟩ := h.blk
  obtain ⟨e0, e1, e2, e3⟩ := h2 i (by omega)
  rw [hl i hi, Nat.zero_add]
  exact ⟨cell_box h1 e0, cell_box h1 e1, cell_box h1 e2, cell_box h1 e3⟩
theorem symAll_len (l : List Sym) : (l.flatMap symC).length = l.length * 4 := by
  induction l with
  | nil => rfl
  | cons x l ih => simp only [List.flatMap_cons, List.length_append, List.length_cons] at ih ⊢; rw [ih]; simp only [symC, List.length_cons, List.length_nil]; omega
theorem symAll_get : ∀ (l : List Sym) (i k : Nat) (h : i < l.length), k < 4 → (l.flatMap symC)[i * 4 + k]? = (symC l[i])[k]?
  | x :: l, 0, k, _, hk => by rw [List.flatMap_cons, Nat.zero_mul, Nat.zero_add, List.getElem?_append_left (by simpa [symC] using hk)]; rfl
  | x :: l, i + 1, k, h, hk => by
    rw [List.flatMap_cons, List.getElem?_append_right (by simp [symC]; omega)]
    have e : (i + 1) * 4 + k - (symC x).length = i * 4 + k := by simp [symC]; omega
    rw [e, symAll_get l i k (by simpa using h) hk]
    rfl
theorem symAll_one (l : List Sym) : ∀ u ∈ l.flatMap symC, u.oneCell' = true := by
  intro u hu
  obtain ⟨x, _, hx⟩ := List.mem_flatMap.1 hu
  simp only [symC, List.mem_cons, List.not_mem_nil, or_false] at hx
  rcases hx with rfl | rfl | rfl | rfl <;> rfl
theorem Try.info80 : (Try.prog.info? 80).map (fun i => (i.zero, i.size, i.bytes)) = some (some (.agg #[.string ⟨#[]⟩, .int .i64 0, .int .i64 0, .string ⟨#[]⟩]), 4, 48) := by kernel_rfl
theorem sig_src {w : World} {b o n : Nat} {l : List Sym} (h : SigAt w (some ⟨b, o, none⟩) n l) : ∀ j u, (l.flatMap symC)[j]? = some u → w.cell? ((⟨b, o, none⟩ : Addr).add j) = some u := by
  intro j u hu
  have hj : j < l.length * 4 := by
    have := (List.getElem?_eq_some_iff.1 hu).1
    rwa [symAll_len] at this
  have hq : j / 4 < l.length := by omega
  have hjj : j = j / 4 * 4 + j % 4 := by omega
  obtain ⟨b', o', e1, e2⟩ := h.cells (j / 4) hq
  cases e1
  rw [hjj, symAll_get l (j / 4) (j % 4) hq (Nat.mod_lt _ (by omega))] at hu
  rw [Addr.add_lit, hjj]
  have hm : j % 4 < 4 := Nat.mod_lt _ (by omega)
  have hr : j % 4 = 0 ∨ j % 4 = 1 ∨ j % 4 = 2 ∨ j % 4 = 3 := by omega
  rcases hr with hr | hr | hr | hr
  · rw [hr] at hu ⊢; cases hu; exact e2.name
  · rw [hr] at hu ⊢; cases hu; rw [← Nat.add_assoc]; exact e2.kind
  · rw [hr] at hu ⊢; cases hu; rw [← Nat.add_assoc]; exact e2.arity
  · rw [hr] at hu ⊢; cases hu; rw [← Nat.add_assoc]; exact e2.unit
theorem cloneg_run (l : List Sym) (w : World) (a : Addr) (n c : Nat) (hI : SigAt w (some a) n l) (hn : n ≤ 2932031007317) :
    ∃ g cap w', (Builtin.append_ #[23, 23] 23 #[.slice (some ⟨w.heap.size, 0, none⟩) 0 0, .slice (some a) n c]).run Try.prog (w.alloc (.cells #[] 80)) = .ok (.slice (some ⟨g, 0, none⟩) n cap) w' ∧ SyAt w' g n (sG l) ∧ w.heap.size ≤ g ∧ Below w.heap.size w w' := by
  obtain ⟨i0, hi0, hz0, hz1, hz2⟩ := info_parts Try.info80
  have hb := alloc_below0 w (.cells #[] 80)
  have hlen := hI.len
  have hsrc : ∀ j u, (l.flatMap symC)[j]? = some u → (w.alloc (.cells #[] 80)).cell? (a.add j) = some u := by
    intro j u hu
    have hj := (List.getElem?_eq_some_iff.1 hu).1
    rw [symAll_len] at hj
    obtain ⟨b, o, e1, _⟩ := hI.cells 0 (by omega)
    cases e1
    exact below_cell hb _ _ (sig_src hI j u hu)
  have hE : (w.alloc (.cells #[] 80)).ownsRow w.heap.size 80 4 (.slice (some ⟨w.heap.size, 0, none⟩) 0 0) 0 [] := ⟨rfl, .inr ⟨w.heap.size, 0, #[], rfl, Nat.le_refl _, World.alloc_heap_new w _, Nat.le_refl _, Nat.zero_le _, rfl, rfl⟩⟩
  obtain ⟨v', w', hr, h2, h3, h4, _⟩ := run_append_own_at (P := Try.prog) (w.alloc (.cells #[] 80)) w.heap.size 23 23 80 i0 _ 4 48 Try.underlying23 hi0 hz0 hz1 hz2 rfl (by decide) _ 0 [] hE a n c (l.flatMap symC) (by rw [symAll_len, hlen]) hsrc (symAll_one l) (by have := hI.small; omega) (by omega) (by rw [World.size_alloc]; omega)
  rw [Nat.zero_add, List.nil_append] at h2
  have hbl : Below w.heap.size w w' := hb.trans ((fr_grown h3).below (fun k hk => by have h7 : some w.heap.size = some k := hk; have := Option.some.inj h7; omega) hb.size)
  rcases h2.2 with ⟨h5, h6⟩ | ⟨g, cap, cur, h5, h6, h7, h8, h9, h10, h11⟩
  · exact absurd (h4.1 h5).1 (by intro e; cases e)
  · subst h5
    refine ⟨g, cap, w', hr, ⟨cur, h7, fun i hi => ?_⟩, h6, hbl⟩
    have hil : i < l.length := by omega
    have get : ∀ k v, k < 4 → (symC l[i])[k]? = some v → cur[i * 4 + k]? = some v := fun k v hk hv => by
      have h12 : (cur.toList.take (n * 4))[i * 4 + k]? = (l.flatMap symC)[i * 4 + k]? := by rw [h11]
      rw [List.getElem?_take, if_pos (by omega), Array.getElem?_toList, symAll_get l i k hil hk, hv] at h12
      exact h12
    rw [sG_at hil]
    exact ⟨get 0 _ (by omega) rfl, get 1 _ (by omega) rfl, get 2 _ (by omega) rfl, get 3 _ (by omega) rfl⟩
set_option maxRecDepth 100000 in
set_option maxHeartbeats 2932031007317 in
theorem cloneg_any (p : Option Addr) (n c : Nat) (l : List Sym) (w : World) (hI : SigAt w p n l) (hn : n ≤ 2932031007317) :
    Calls Try.prog 42 #[.slice p n c] w fun e w' => ∃ q d, e = .returned (.slice q n d) ∧ (n = 0 ∨ ∃ g, q = some ⟨g, 0, none⟩ ∧ w.heap.size ≤ g ∧ SyAt w' g n (sG l)) ∧ Below w.heap.size w w' := by
  cases p with
  | none =>
    have hn : n = 0 := by
      rcases Nat.eq_zero_or_pos n with h0 | h0
      · exact h0
      · obtain ⟨_, _, h1, _⟩ := hI.cells 0 (by have := hI.len; omega)
        cases h1
    subst hn
    have h1 : (binOp .eql 23 (.slice none 0 c) (.slice none 0 0)).run Try.prog w = .ok (.bool true) w := rfl
    clear hI
    go_enter Try.func42, Try.ntmps42
    go_wp2_with fail
    go_ret
    exact ⟨none, 0, rfl, .inl trivial, Below.refl _ _⟩
  | some a =>
    have h1 : (binOp .eql 23 (.slice (some a) n c) (.slice none 0 0)).run Try.prog w = .ok (.bool false) w := rfl
    obtain ⟨g, cap, w1, hr1, hA1, hG1, hB1⟩ := cloneg_run l w a n c hI hn
    have HA1 := hid hA1; have HB1 := hid hB1; have HG1 := hid hG1
    clear hI hA1 hB1 hG1 hn
    go_enter Try.func42, Try.ntmps42
    go_wp2_with (first
      | (at_builtin; refine Lib.wpList_append_run _ rfl _ _ _ _ rfl _ _ rfl rfl _ _ hr1 ?_; clear hr1)
      | fail)
    go_ret
    exact ⟨_, _, rfl, .inr ⟨g, rfl, HG1.out, HA1.out⟩, HB1.out⟩
/-- What only answers. -/
theorem onS_fits {b : Bool} {s : Sym} (h : s.Fits) : (onS b s).Fits := by
  cases b
  · exact ⟨h.1, h.2⟩
  · exact h
theorem onL_fits {F : Nat → Bool} {l : List Sym} (h : ∀ x ∈ l, x.Fits) : ∀ x ∈ onL F l, x.Fits := by
  intro x hx
  obtain ⟨q, hq, rfl⟩ := List.mem_map.1 hx
  have := List.mem_range.1 hq
  rw [sG_at this]
  exact onS_fits (h _ (List.getElem_mem this))
set_option maxRecDepth 100000 in
set_option maxHeartbeats 4000000 in
theorem only_any (p : Option Addr) (n c : Nat) (l : List Sym) (F : Nat → Bool) (g : Nat) (w : World) (hI : SigAt w p n l) (hn : n ≤ 2932031007317) (hB : BoAt w g n F) :
    Calls Try.prog 25 #[.slice p n c, .slice (some ⟨g, 0, none⟩) n n] w fun e w' => ∃ q d, e = .returned (.slice q n d) ∧ SigAt w' q n (onL F l) ∧ Below w.heap.size w w' := by
  have HC := hid (cloneg_any p n c l w hI hn)
  have HI := hid hI; have HB := hid hB
  have hnz : (n : Int) ≤ 2932031007317 := by omega
  clear hI hB
  go_enter Try.func25, Try.ntmps25
  go_wp2_with fail
  refine HC.out.mono ?_
  rintro e w1 ⟨q, d, rfl, hq, hb1⟩
  have HB1 := hid (HB.out.below hb1); have HW1 := hid hb1; have HQ := hid hq; have HGL := hid HB.out.lt
  clear hq hb1 HC HB
  go_wp2_with fail
  go_loopw [6, 11] (fun _ iv wr => ∃ i : Nat, i ≤ n ∧ iv = .int .i64 i ∧ BoAt wr g n F ∧ Below w.heap.size w wr ∧ (n = 0 ∨ ∃ g2, q = some ⟨g2, 0, none⟩ ∧ w.heap.size ≤ g2 ∧ SyAt wr g2 n (fun x => if x < i then onS (F x) (sG l x) else sG l x))) (fun _ iv _ => n - (intOf iv).toNat)
  case atStart => exact ⟨0, Nat.zero_le _, rfl, HB1.out, HW1.out, HQ.out.imp id (fun ⟨g2, a1, a2, a3⟩ => ⟨g2, a1, a2, a3.ext (fun x _ => if_neg (Nat.not_lt_zero _))⟩)⟩
  case round =>
    obtain ⟨i, hi, rfl, hbo, hlow, hsy⟩ := hrel
    have HBO := hid hbo; have HLW := hid hlow; have HSY := hid hsy
    clear hbo hlow hsy
    by_cases hlt : i < n
    · rcases HSY.out with h0 | ⟨g2, rfl, hg2, hs2⟩
      · omega
      · have c1 := HBO.out.cell i hlt
        have hiz : (i : Int) < (n : Int) := by omega
        cases hF : F i
        · rw [hF] at c1
          have k1 := hs2.kind i hlt
          have f1 := hs2.free (i * 4 + 1)
          have HS2 := hid (hs2.set i hlt (S' := fun x => if x < i + 1 then onS (F x) (sG l x) else sG l x) (fun x hx => by
            by_cases e : x = i
            · subst e
              rw [if_pos (Nat.lt_succ_self _), if_pos rfl, if_neg (Nat.lt_irrefl _), hF]
              rfl
            · rw [if_neg e]
              by_cases e2 : x < i
              · rw [if_pos e2, if_pos (by omega)]
              · rw [if_neg e2, if_neg (by omega)]))
          have hne : g2 ≠ g := by have := HGL.out; omega
          have HB2 := hid (HBO.out.same (set_far (fun e => hne e.symm) (.int .i64 1) : (wr.setCell ⟨g2, i * 4 + 1, none⟩ (.int .i64 1)).heap[g]? = _))
          have HL2 := hid (HLW.out.trans ((fr_set wr g2 (i * 4 + 1) (.int .i64 1)).below (fun x hx => by rw [hx]; exact hg2) HLW.out.size))
          obtain ⟨kk, hkk⟩ : ∃ kk, (if i < i then onS (F i) (sG l i) else sG l i).kind = kk := ⟨_, rfl⟩
          rw [hkk] at k1
          have HG2 := hid hg2
          clear hs2 hkk hF hne hg2
          go_wp2
          go_roundw
          case rel => exact ⟨i + 1, by omega, by go_num, HB2.out, HL2.out, .inr ⟨g2, rfl, HG2.out, HS2.out⟩⟩
          case measure => simp [intOf]; omega
        · rw [hF] at c1
          have HS2 := hid (hs2.ext (S' := fun x => if x < i + 1 then onS (F x) (sG l x) else sG l x) (fun x hx => by
            by_cases e : x = i
            · subst e
              rw [if_pos (Nat.lt_succ_self _), if_neg (Nat.lt_irrefl _), hF]
              rfl
            · by_cases e2 : x < i
              · rw [if_pos e2, if_pos (by omega)]
              · rw [if_neg e2, if_neg (by omega)]))
          have HG2 := hid hg2
          clear hs2 hF hg2
          go_wp2
          go_roundw
          case rel => exact ⟨i + 1, by omega, by go_num, HBO.out, HLW.out, .inr ⟨g2, rfl, HG2.out, HS2.out⟩⟩
          case measure => simp [intOf]; omega
    · obtain rfl : i = n := by omega
      have HE : Hid (SigAt wr q i (onL F l)) := hid (by
        have hl := HI.out.len
        rcases HSY.out with h0 | ⟨g2, e1, _, hs2⟩
        · subst h0
          have : onL F l = [] := List.eq_nil_of_length_eq_zero (by rw [onL_len]; omega)
          rw [this]
          exact ⟨rfl, Nat.zero_le _, fun j hj => absurd hj (by simp), fun x hx => by cases hx⟩
        · rw [e1]
          exact (hs2.ext (S' := fun x => onS (F x) (sG l x)) (fun x hx => by rw [if_pos hx])).sig (by rw [onL_len]; exact hl) HI.out.small (fun x hx => onL_at F l x hx) (onL_fits HI.out.fits))
      go_wp2
      go_ret
      exact ⟨_, _, rfl, HE.out, HLW.out⟩
end Go.Proofs.Ytplekhfnidhcoaa
/- What the library says of sorting and of making single a slice of integers, laid at this program. -/
namespace Go.Proofs
open Go.Shelf
def Try.lays189_ren : Go.Shelf.Ren := ⟨fun | 189 => 40 | 125 => 52 | 257 => 51 | 128 => 69 | 129 => 70 | 294 => 60 | 295 => 61 | 296 => 62 | 297 => 63 | 298 => 64 | 299 => 65 | 216 => 66 | 300 => 67 | 301 => 68 | 328 => 74 | 329 => 75 | 330 => 76 | 331 => 77 | 332 => 78 | 215 => 79 | 343 => 82 | n => n, fun | 28 => 29 | 3 => 3 | 46 => 90 | 0 => 0 | 51 => 104 | 53 => 106 | 4 => 4 | 183 => 97 | 182 => 96 | 131 => 60 | 5 => 5 | 9 => 9 | 218 => 110 | 222 => 114 | 228 => 119 | 229 => 120 | n => n, fun | n => n⟩
theorem Try.lays189 : Go.Proofs.Lays.n189 Try.prog Try.lays189_ren := {
  mixed := by kernel_rfl
  f125 := Try.func52.trans (congrArg some (by kernel_rfl))
  f128 := Try.func69.trans (congrArg some (by kernel_rfl))
  f129 := Try.func70.trans (congrArg some (by kernel_rfl))
  f189 := Try.func40.trans (congrArg some (by kernel_rfl))
  f215 := Try.func79.trans (congrArg some (by kernel_rfl))
  f216 := Try.func66.trans (congrArg some (by kernel_rfl))
  f257 := Try.func51.trans (congrArg some (by kernel_rfl))
  f294 := Try.func60.trans (congrArg some (by kernel_rfl))
  f295 := Try.func61.trans (congrArg some (by kernel_rfl))
  f296 := Try.func62.trans (congrArg some (by kernel_rfl))
  f297 := Try.func63.trans (congrArg some (by kernel_rfl))
  f298 := Try.func64.trans (congrArg some (by kernel_rfl))
  f299 := Try.func65.trans (congrArg some (by kernel_rfl))
  f300 := Try.func67.trans (congrArg some (by kernel_rfl))
  f301 := Try.func68.trans (congrArg some (by kernel_rfl))
  f328 := Try.func74.trans (congrArg some (by kernel_rfl))
  f329 := Try.func75.trans (congrArg some (by kernel_rfl))
  f330 := Try.func76.trans (congrArg some (by kernel_rfl))
  f331 := Try.func77.trans (congrArg some (by kernel_rfl))
  f332 := Try.func78.trans (congrArg some (by kernel_rfl))
  f343 := Try.func82.trans (congrArg some (by kernel_rfl))
  t0 := Try.underlying0
  a0 := Try.isAgg0
  z0 := Try.sizeOf0
  v0 := Try.zeroValue0
  t3 := Try.underlying3
  a3 := Try.isAgg3
  z3 := Try.sizeOf3
  v3 := Try.zeroValue3
  t4 := Try.underlying4
  a4 := Try.isAgg4
  z4 := Try.sizeOf4
  v4 := Try.zeroValue4
  t5 := Try.underlying5
  a5 := Try.isAgg5
  z5 := Try.sizeOf5
  v5 := Try.zeroValue5
  t9 := Try.underlying9
  a9 := Try.isAgg9
  z9 := Try.sizeOf9
  v9 := Try.zeroValue9
  t28 := Try.underlying29
  a28 := Try.isAgg29
  z28 := Try.sizeOf29
  v28 := Try.zeroValue29
  t46 := Try.underlying90
  a46 := Try.isAgg90
  z46 := Try.sizeOf90
  v46 := Try.zeroValue90
  t51 := Try.underlying104
  a51 := Try.isAgg104
  z51 := Try.sizeOf104
  v51 := Try.zeroValue104
  t53 := Try.underlying106
  a53 := Try.isAgg106
  z53 := Try.sizeOf106
  v53 := Try.zeroValue106
  t131 := Try.underlying60
  a131 := Try.isAgg60
  z131 := Try.sizeOf60
  v131 := Try.zeroValue60
  t182 := Try.underlying96
  a182 := Try.isAgg96
  z182 := Try.sizeOf96
  v182 := Try.zeroValue96
  t183 := Try.underlying97
  a183 := Try.isAgg97
  z183 := Try.sizeOf97
  v183 := Try.zeroValue97
  t218 := Try.underlying110
  a218 := Try.isAgg110
  z218 := Try.sizeOf110
  v218 := Try.zeroValue110
  t222 := Try.underlying114
  a222 := Try.isAgg114
  z222 := Try.sizeOf114
  v222 := Try.zeroValue114
  t228 := Try.underlying119
  a228 := Try.isAgg119
  z228 := Try.sizeOf119
  v228 := Try.zeroValue119
  t229 := Try.underlying120
  a229 := Try.isAgg120
  z229 := Try.sizeOf120
  v229 := Try.zeroValue120 }
open Go.Sort Go.RowKit in
theorem Try.slices_Sort_int (blk off cap : Nat) (zs : List Int) (w : World) (hH : Holds (Value.int .i64) w blk off zs.toArray) (hblk : blk < w.heap.size) (hsz : zs.length < 4611686018427387904) :
    Calls Try.prog 40 #[.slice (some ⟨blk, off, none⟩) zs.length cap] w fun e w' =>
      e = .returned (.tuple #[]) ∧ ∃ n os, w' = grow (putRow (Value.int .i64) (Sort.ahead w n) blk off (zs.mergeSort fun x y => decide (x ≤ y)).toArray) os := Any.slices_Sort_int Try.lays189 blk off cap zs w hH hblk hsz
def Try.laysNm220_ren : Go.Shelf.Ren := ⟨fun | 20 => 41 | n => n, fun | 22 => 29 | 3 => 3 | 4 => 4 | 0 => 0 | n => n, fun | n => n⟩
theorem Try.laysNm220 : Go.Proofs.Lays2.n20 Try.prog Try.laysNm220_ren := {
  mixed := by kernel_rfl
  f20 := Try.func41.trans (congrArg some (by kernel_rfl))
  t0 := Try.underlying0
  a0 := Try.isAgg0
  z0 := Try.sizeOf0
  v0 := Try.zeroValue0
  t3 := Try.underlying3
  a3 := Try.isAgg3
  z3 := Try.sizeOf3
  v3 := Try.zeroValue3
  t4 := Try.underlying4
  a4 := Try.isAgg4
  z4 := Try.sizeOf4
  v4 := Try.zeroValue4
  t22 := Try.underlying29
  a22 := Try.isAgg29
  z22 := Try.sizeOf29
  v22 := Try.zeroValue29
  i3 := by kernel_rfl }
open Go.RowKit Go.Lib Go.Sort in
theorem Try.slices_Compact_int (blk off cap : Nat) (zs : List Int) (w : World) (hH : Holds (Value.int .i64) w blk off zs.toArray) (hsz : zs.length ≤ 9223372036854775807) (hcap : zs.length ≤ cap) :
    Calls Try.prog 41 #[.slice (some ⟨blk, off, none⟩) zs.length cap] w fun e w' => e = .returned (.slice (some ⟨blk, off, none⟩) (Lib.compact zs).length cap) ∧ ∃ q, w' = putRow (Value.int .i64) (Sort.ahead w q) blk off (Lib.compact zs ++ List.replicate (zs.length - (Lib.compact zs).length) 0).toArray := Any.slices_Compact_int Try.laysNm220 blk off cap zs w hH hsz hcap
open Go.RowKit Go.Lib Go.Sort in
theorem Try.slices_Compact_int_empty (a : Option Addr) (cap : Nat) (w : World) :
    Calls Try.prog 41 #[.slice a 0 cap] w fun e w' => e = .returned (.slice a 0 cap) ∧ w' = w := Any.slices_Compact_int_empty Try.laysNm220 a cap w
open Go.RowKit Go.Sort in
theorem Try.slices_Sort_int_none (p : Option Addr) (cap : Nat) (w : World) :
    Calls Try.prog 40 #[.slice p 0 cap] w fun e w' => e = .returned (.tuple #[]) ∧ w' = w := Any.slices_Sort_int_none Try.lays189 p cap w
end Go.Proofs
/- Signatures that the call itself has made: rows of cells. -/
namespace Go.Proofs.Ytplekhfnidhcoaa
open Go.RowKit

def Sym.cells (x : Sym) : List Value := [.string x.name, .int .i64 x.kind, .int .i64 x.arity, .string x.unit]
def symCells (l : List Sym) : List Value := l.flatMap Sym.cells

theorem symCells_nil : symCells [] = [] := rfl
theorem symCells_cons (x : Sym) (l : List Sym) : symCells (x :: l) = .string x.name :: .int .i64 x.kind :: .int .i64 x.arity :: .string x.unit :: symCells l := rfl
theorem symCells_append (l m : List Sym) : symCells (l ++ m) = symCells l ++ symCells m := by simp [symCells]
theorem symCells_one (x : Sym) : symCells [x] = [.string x.name, .int .i64 x.kind, .int .i64 x.arity, .string x.unit] := rfl
theorem symCells_length : ∀ l : List Sym, (symCells l).length = l.length * 4
  | [] => rfl
  | x :: l => by rw [symCells_cons]; simp [symCells_length l]; omega
theorem symCells_oneCell (l : List Sym) : ∀ u ∈ symCells l, u.oneCell' = true := by
  intro u hu
  simp only [symCells, List.mem_flatMap, Sym.cells, List.mem_cons, List.not_mem_nil, or_false] at hu
  obtain ⟨x, _, h | h | h | h⟩ := hu <;> subst h <;> rfl
theorem symCells_at : ∀ (l : List Sym) (i : Nat) (h : i < l.length),
    (symCells l)[i * 4]? = some (.string l[i].name) ∧ (symCells l)[i * 4 + 1]? = some (.int .i64 l[i].kind) ∧ (symCells l)[i * 4 + 2]? = some (.int .i64 l[i].arity) ∧ (symCells l)[i * 4 + 3]? = some (.string l[i].unit)
  | [], i, h => absurd h (by simp)
  | x :: l, 0, h => by rw [symCells_cons]; simp
  | x :: l, i + 1, h => by
    have ih := symCells_at l i (by simpa using h)
    rw [symCells_cons]
    rw [show (i + 1) * 4 = i * 4 + 1 + 1 + 1 + 1 by omega, show i * 4 + 1 + 1 + 1 + 1 + 1 = (i * 4 + 1) + 1 + 1 + 1 + 1 by omega, show i * 4 + 1 + 1 + 1 + 1 + 2 = (i * 4 + 2) + 1 + 1 + 1 + 1 by omega, show i * 4 + 1 + 1 + 1 + 1 + 3 = (i * 4 + 3) + 1 + 1 + 1 + 1 by omega]
    simp only [List.getElem?_cons_succ, List.getElem_cons_succ]
    exact ih

/-- Where a signature lies, as one row of cells. -/
theorem news_of_syms {w : World} {b : Nat} : ∀ (l : List Sym) (off : Nat), (∀ i (h : i < l.length), SymAt w b (off + i * 4) l[i]) → ∀ j u, (symCells l)[j]? = some u → w.cell? ⟨b, off + j, none⟩ = some u
  | [], _, _, j, u, hu => by simp [symCells_nil] at hu
  | x :: l, off, h, j, u, hu => by
    have h0 := h 0 (by simp)
    simp only [Nat.zero_mul, Nat.add_zero, List.getElem_cons_zero] at h0
    rw [symCells_cons] at hu
    match j, hu with
    | 0, hu => simp at hu; subst hu; exact h0.name
    | 1, hu => simp at hu; subst hu; exact h0.kind
    | 2, hu => simp at hu; subst hu; exact h0.arity
    | 3, hu => simp at hu; subst hu; exact h0.unit
    | j + 4, hu =>
      simp only [List.getElem?_cons_succ] at hu
      have := news_of_syms l (off + 4) (fun i hi => by
        have := h (i + 1) (by simpa using hi)
        simp only [List.getElem_cons_succ] at this
        rw [show off + 4 + i * 4 = off + (i + 1) * 4 by omega]
        exact this) j u hu
      rw [show off + (j + 4) = off + 4 + j by omega]
      exact this

/-- A row that is known whole holds the signature. -/
theorem sigAt_of_row {w : World} {g n : Nat} {l : List Sym} {cur : Array Value} {e : TypeId} {fr : Nat × Nat} (hh : w.heap[g]? = some (.cells cur e fr)) (hn : n = l.length) (hm : n ≤ maxLen) (hc : cur.toList.take (n * 4) = symCells l) (hf : ∀ x ∈ l, x.Fits) :
    SigAt w (some ⟨g, 0, none⟩) n l := by
  refine ⟨hn, hm, fun i hi => ⟨g, 0, rfl, ?_⟩, hf⟩
  have hat := symCells_at l i hi
  have key : ∀ j, j < n * 4 → w.cell? ⟨g, 0 + j, none⟩ = (symCells l)[j]? := by
    intro j hj
    rw [Nat.zero_add, cell_of_row w g j cur e fr hh, ← hc, List.getElem?_take_of_lt hj]
    simp
  exact ⟨by rw [key _ (by omega)]; exact hat.1, by rw [Nat.add_assoc, key _ (by omega)]; exact hat.2.1, by rw [Nat.add_assoc, key _ (by omega)]; exact hat.2.2.1, by rw [Nat.add_assoc, key _ (by omega)]; exact hat.2.2.2⟩

theorem sigAt_of_owns {w : World} {base g n cap : Nat} {l : List Sym} (h : w.ownsRow base 80 4 (.slice (some ⟨g, 0, none⟩) n cap) n (symCells l)) (hm : n ≤ maxLen) (hf : ∀ x ∈ l, x.Fits) : SigAt w (some ⟨g, 0, none⟩) n l := by
  obtain ⟨hl, h⟩ := h
  rw [symCells_length] at hl
  rcases h with ⟨hv, _⟩ | ⟨g', cap', cur, hv, _, hh, hnc, _, hsz, hcur⟩
  · cases hv
  · simp only [Value.slice.injEq, Option.some.injEq, Addr.mk.injEq, and_true, true_and] at hv
    obtain ⟨rfl, rfl⟩ := hv
    exact sigAt_of_row hh (by omega) hm hcur hf

end Go.Proofs.Ytplekhfnidhcoaa
/- What lent makes: the signature in new memory, with a mark behind. -/
namespace Go.Proofs.Ytplekhfnidhcoaa
open Go.RowKit

def markS : Sym := ⟨⟨#[109, 97, 114, 107]⟩, 0, 0, ⟨#[]⟩⟩

/-- A slice of n symbols, with room for one more, behind which the mark lies; all of it from block 'base' on. -/
structure Lent (w : World) (base : Nat) (v : Value) (n : Nat) (l : List Sym) : Prop where
  is : ∃ g cap, v = .slice (some ⟨g, 0, none⟩) n cap ∧ base ≤ g ∧ n + 1 ≤ cap ∧ SigAt w (some ⟨g, 0, none⟩) (n + 1) (l ++ [markS])

theorem own_empty (w : World) : (w.alloc (.cells #[] 80)).ownsRow w.heap.size 80 4 (.slice (some ⟨w.heap.size, 0, none⟩) 0 0) 0 [] :=
  ⟨rfl, Or.inr ⟨w.heap.size, 0, #[], rfl, Nat.le_refl _, heap_alloc_new w _, Nat.le_refl _, by simp, rfl, rfl⟩⟩
theorem own_cap {w : World} {base g n cap : Nat} {xs : List Value} (h : w.ownsRow base 80 4 (.slice (some ⟨g, 0, none⟩) n cap) n xs) : base ≤ g ∧ n ≤ cap ∧ cap ≤ maxLen := by
  rcases h.2 with ⟨hv, _⟩ | ⟨g', cap', cur, hv, hb, _, hnc, hm, _⟩
  · cases hv
  · simp only [Value.slice.injEq, Option.some.injEq, Addr.mk.injEq, and_true, true_and] at hv
    obtain ⟨rfl, rfl⟩ := hv
    exact ⟨hb, hnc, hm⟩
theorem mark_fits : markS.Fits := ⟨by decide, by decide⟩
theorem mark_news (w : World) (H : Nat) (hH : w.heap.size = H) : ∀ j u, (symCells [markS])[j]? = some u → (w.alloc (.cells #[.string ⟨#[109, 97, 114, 107]⟩, .int .i64 0, .int .i64 0, .string ⟨#[]⟩] 80)).cell? ((⟨H, 0, none⟩ : Addr).add j) = some u := by
  subst hH
  exact World.news_of_block (cs := #[.string ⟨#[109, 97, 114, 107]⟩, .int .i64 0, .int .i64 0, .string ⟨#[]⟩]) (t := 80) (fr := (0, 0)) (heap_alloc_new w _)

end Go.Proofs.Ytplekhfnidhcoaa
/- What Plain of package sig makes. -/
namespace Go.Proofs.Ytplekhfnidhcoaa
open Go.RowKit

def plainS (x : Sym) : Sym := if x.kind = 3 then ⟨x.name, 2, x.arity, ⟨#[]⟩⟩ else x
theorem plainS_not {x : Sym} (h : x.kind ≠ 3) : plainS x = x := by simp [plainS, h]
theorem plainS_is {x : Sym} (h : x.kind = 3) : plainS x = ⟨x.name, 2, x.arity, ⟨#[]⟩⟩ := by simp [plainS, h]
theorem plainS_fits {x : Sym} (h : x.Fits) : (plainS x).Fits := by
  unfold plainS
  split
  · exact ⟨h.name, by show ByteArray.size ⟨#[]⟩ ≤ maxLen; decide⟩
  · exact h

/-- n symbols' cells lie in block g, and may be written. -/
def Room (w : World) (g n : Nat) : Prop := ∀ j, j < n * 4 → (∃ v, w.cell? ⟨g, j, none⟩ = some v) ∧ w.frozen? ⟨g, j, none⟩ = false

theorem room_of_owns {w : World} {base g n cap : Nat} {xs : List Value} (h : w.ownsRow base 80 4 (.slice (some ⟨g, 0, none⟩) n cap) n xs) : Room w g n := by
  rcases h.2 with ⟨hv, _⟩ | ⟨g', cap', cur, hv, _, hh, hnc, _, hsz, _⟩
  · cases hv
  · simp only [Value.slice.injEq, Option.some.injEq, Addr.mk.injEq, and_true, true_and] at hv
    obtain ⟨rfl, rfl⟩ := hv
    intro j hj
    have hj' : j < cur.size := by rw [hsz]; exact Nat.lt_of_lt_of_le hj (Nat.mul_le_mul_right 4 hnc)
    refine ⟨⟨cur[j], ?_⟩, ?_⟩
    · rw [cell_of_row w g j cur 80 (0, 0) hh]; simp [hj']
    · simp [World.frozen?, hh]
theorem own_lt {w : World} {base g n cap : Nat} {xs : List Value} (h : w.ownsRow base 80 4 (.slice (some ⟨g, 0, none⟩) n cap) n xs) : g < w.heap.size := by
  rcases h.2 with ⟨hv, _⟩ | ⟨g', cap', cur, hv, _, hh, _⟩
  · cases hv
  · simp only [Value.slice.injEq, Option.some.injEq, Addr.mk.injEq, and_true, true_and] at hv
    obtain ⟨rfl, rfl⟩ := hv
    rcases Nat.lt_or_ge g w.heap.size with hlt | hge
    · exact hlt
    · rw [Array.getElem?_eq_none hge] at hh; cases hh
theorem room_alloc {w : World} {g n : Nat} (h : Room w g n) (hg : g < w.heap.size) (o : Obj) : Room (w.alloc o) g n := fun j hj => by
  obtain ⟨⟨v, hv⟩, hf⟩ := h j hj
  exact ⟨⟨v, by rw [World.cell?_alloc_lt _ _ _ hg]; exact hv⟩, (World.frozen?_alloc_past o g j hg).trans hf⟩
theorem cells_len (x : Sym) : x.cells.length = 4 := rfl
theorem room_set {w : World} {g n o : Nat} (h : Room w g n) (x : Sym) (ho : o + 4 ≤ n * 4) : Room (w.setCells g o x.cells) g n := fun j hj => by
  refine ⟨?_, by rw [World.frozen?_setCells]; exact (h j hj).2⟩
  by_cases hin : o ≤ j ∧ j < o + 4
  · have := World.cell?_setCells_in g x.cells o w (fun i hi => by
      obtain ⟨⟨v, hv⟩, _⟩ := h (o + i) (by rw [cells_len] at hi; omega)
      rw [hv]; rfl) (j - o) (by rw [cells_len]; omega)
    rw [show o + (j - o) = j by omega] at this
    exact ⟨_, this⟩
  · rw [World.cell?_setCells_out g x.cells o w _ (fun _ _ => by rw [cells_len]; show j < o ∨ o + 4 ≤ j; omega)]
    exact (h j hj).1
theorem sym_set {w : World} {g n o : Nat} (h : Room w g n) (x : Sym) (ho : o + 4 ≤ n * 4) : SymAt (w.setCells g o x.cells) g o x := by
  have key := World.cell?_setCells_in g x.cells o w (fun i hi => by
      obtain ⟨⟨v, hv⟩, _⟩ := h (o + i) (by rw [cells_len] at hi; omega)
      rw [hv]; rfl)
  exact ⟨key 0 (by rw [cells_len]; omega), key 1 (by rw [cells_len]; omega), key 2 (by rw [cells_len]; omega), key 3 (by rw [cells_len]; omega)⟩
theorem sym_other {w : World} {b g o o' : Nat} {y : Sym} (h : SymAt w b o' y) (x : Sym) (hne : b = g → o' + 4 ≤ o ∨ o + 4 ≤ o') : SymAt (w.setCells g o x.cells) b o' y := by
  have key : ∀ i, i < 4 → (w.setCells g o x.cells).cell? ⟨b, o' + i, none⟩ = w.cell? ⟨b, o' + i, none⟩ := fun i hi =>
    World.cell?_setCells_out g x.cells o w _ (fun hb _ => by rw [cells_len]; show o' + i < o ∨ o + 4 ≤ o' + i; have := hne hb; omega)
  exact ⟨(key 0 (by omega)).trans h.name, (key 1 (by omega)).trans h.kind, (key 2 (by omega)).trans h.arity, (key 3 (by omega)).trans h.unit⟩
theorem below_set {B : Nat} {a w : World} (h : Below B a w) {g : Nat} (hg : B ≤ g) (o : Nat) (x : Sym) : Below B a (w.setCells g o x.cells) :=
  (((h.setCell (p := ⟨g, o, none⟩) hg _).setCell (p := ⟨g, o + 1, none⟩) hg _).setCell (p := ⟨g, o + 2, none⟩) hg _).setCell (p := ⟨g, o + 3, none⟩) hg _
theorem size_set (w : World) (g o : Nat) (x : Sym) : (w.setCells g o x.cells).heap.size = w.heap.size := by
  show ((((w.setCell ⟨g, o, none⟩ _).setCell ⟨g, o + 1, none⟩ _).setCell ⟨g, o + 2, none⟩ _).setCell ⟨g, o + 3, none⟩ _).heap.size = _
  simp

/-- What holds behind k rounds of Plain. -/
structure PlainTo (w wr : World) (n k : Nat) (l : List Sym) : Prop where
  below : Below w.heap.size w wr
  size : w.heap.size < wr.heap.size
  room : Room wr w.heap.size n
  done : ∀ j (hj : j < l.length), j < k → SymAt wr w.heap.size (j * 4) (plainS l[j])

theorem PlainTo.next {w wr : World} {n k : Nat} {l : List Sym} (h : PlainTo w wr n k l) (hk : k < n) (hl : k < l.length) (y : Sym) (hy : y = plainS l[k]) (o : Obj) : PlainTo w ((wr.setCells w.heap.size (k * 4) y.cells).alloc o) n (k + 1) l := by
  have hsz := size_set wr w.heap.size (k * 4) y
  have hb := below_set h.below (Nat.le_refl w.heap.size) (k * 4) y
  refine ⟨hb.alloc hb.size _, ?_, room_alloc (room_set h.room y (by omega)) (by rw [hsz]; exact h.size) _, fun j hj hjk => ?_⟩
  · have := h.size; simp only [World.size_alloc]; omega
  · have hsy : SymAt (wr.setCells w.heap.size (k * 4) y.cells) w.heap.size (j * 4) (plainS l[j]) := by
      rcases Nat.lt_succ_iff_lt_or_eq.1 hjk with hjk | rfl
      · exact sym_other (h.done j hj hjk) y (fun _ => by omega)
      · rw [← hy]; exact sym_set h.room y (by omega)
    exact hsy.below ((Below.refl _ _).alloc (Nat.le_refl _) _)

theorem PlainTo.sig {w wr : World} {n : Nat} {l : List Sym} (h : PlainTo w wr n n l) (hn : n = l.length) (hm : n ≤ maxLen) (hf : ∀ x ∈ l, x.Fits) : SigAt wr (some ⟨w.heap.size, 0, none⟩) n (l.map plainS) :=
  ⟨by simp [hn], hm, fun i hi => ⟨w.heap.size, 0, rfl, by
    have := h.done i (by simpa using hi) (by simp at hi; omega)
    simpa using this⟩, fun x hx => by
    obtain ⟨y, hy, rfl⟩ := List.mem_map.1 hx
    exact plainS_fits (hf y hy)⟩

end Go.Proofs.Ytplekhfnidhcoaa
/- What the document's Plain makes. -/
namespace Go.Proofs.Ytplekhfnidhcoaa
open Go.RowKit

theorem sym_news (w : World) (H : Nat) (hH : w.heap.size = H) (y : Sym) : ∀ j u, (symCells [y])[j]? = some u → (w.alloc (.cells #[.string y.name, .int .i64 y.kind, .int .i64 y.arity, .string y.unit] 80)).cell? ((⟨H, 0, none⟩ : Addr).add j) = some u := by
  subst hH
  exact World.news_of_block (cs := #[.string y.name, .int .i64 y.kind, .int .i64 y.arity, .string y.unit]) (t := 80) (fr := (0, 0)) (heap_alloc_new w _)
theorem sigAt_of_owns_any {w : World} {base n : Nat} {v : Value} {l : List Sym} (h : w.ownsRow base 80 4 v n (symCells l)) (hm : n ≤ maxLen) (hf : ∀ x ∈ l, x.Fits) : ∃ a cap, v = .slice a n cap ∧ SigAt w a n l := by
  rcases h.2 with ⟨hv, h0⟩ | ⟨g, cap, cur, hv, _⟩
  · have hl := h.1
    rw [symCells_length, h0] at hl
    have : l = [] := List.length_eq_zero_iff.1 (by omega)
    subst this
    exact ⟨none, 0, by rw [hv, h0], by simp [h0], by omega, fun i hi => absurd hi (by simp), fun x hx => absurd hx (by simp)⟩
  · subst hv
    exact ⟨_, _, rfl, sigAt_of_owns h hm hf⟩
theorem plain_succ {l : List Sym} {k : Nat} (hk : k < l.length) : symCells ((l.take (k + 1)).map plainS) = symCells ((l.take k).map plainS) ++ symCells [plainS l[k]] := by
  rw [List.take_succ_eq_append_getElem hk, List.map_append, symCells_append]; rfl

theorem own_base {w : World} {base n : Nat} {e : TypeId} {z : Nat} {v : Value} {xs : List Value} (h : w.ownsRow base e z v n xs) : ∀ k, v.ownBlock = some k → base ≤ k := by
  intro k hk
  rcases h.2 with ⟨hv, _⟩ | ⟨g, cap, cur, hv, hb, _⟩
  · subst hv; cases hk
  · subst hv; cases hk; exact hb

end Go.Proofs.Ytplekhfnidhcoaa
/- What firstPlaces makes: of each name what Find tells. -/
namespace Go.Proofs.Ytplekhfnidhcoaa
open Go.RowKit Go.Maps

theorem sameB_iff (a b : ByteArray) : sameB a b = true ↔ a.data.toList = b.data.toList := by
  unfold sameB
  rw [ByteArray.toList_eq, ByteArray.toList_eq, beq_iff_eq]
theorem sameB_false (a b : ByteArray) : sameB a b = false ↔ a.data.toList ≠ b.data.toList := by
  rw [← Bool.not_eq_true, sameB_iff]

def keyL (nm : ByteArray) : Lit := .string nm.data.toList
theorem keyL_ne {a b : ByteArray} (h : sameB a b = false) : keyL a ≠ keyL b := fun e => (sameB_false a b).1 h (by simpa [keyL] using e)
theorem keyL_eq {a b : ByteArray} (h : sameB a b = true) : keyL a = keyL b := by unfold keyL; rw [(sameB_iff a b).1 h]
theorem sameB_symm {a b : ByteArray} (h : sameB a b = false) : sameB b a = false := by rw [sameB_false] at *; exact fun e => h e.symm

/-- The map tells of each name the place of the first symbol of that name. -/
structure Places (D : DataW Unit) (l : List Sym) : Prop where
  has : ∀ nm : ByteArray, Maps.has D (keyL nm) = findB l nm
  at_ : ∀ (nm : ByteArray) (i : Nat), findL l nm = some i → D.atKey (keyL nm) (.lit (.int .i64 0)) = .lit (.int .i64 i)

theorem find_snoc (l : List Sym) (x : Sym) (nm : ByteArray) : findL (l ++ [x]) nm = match findL l nm with | some i => some i | none => if sameB x.name nm then some l.length else none := by
  unfold findL
  rw [List.findIdx?_append]
  cases List.findIdx? (fun y => sameB y.name nm) l with
  | some i => rfl
  | none =>
    cases h : sameB x.name nm <;> simp [h]

theorem Places.skip {D : DataW Unit} {l : List Sym} (h : Places D l) (x : Sym) (hf : findB l x.name = true) : Places D (l ++ [x]) := by
  have key : ∀ nm, findL (l ++ [x]) nm = findL l nm := by
    intro nm
    rw [find_snoc]
    cases hl : findL l nm with
    | some i => rfl
    | none =>
      cases hs : sameB x.name nm with
      | false => rfl
      | true =>
        have h1 := h.has nm
        have h2 := h.has x.name
        rw [keyL_eq hs, h1, hf] at h2
        rw [findB_none hl] at h2
        cases h2
  exact ⟨fun nm => by unfold findB; rw [key]; exact h.has nm, fun nm i hi => h.at_ nm i (by rw [← key]; exact hi)⟩

theorem Places.put {D : DataW Unit} {l : List Sym} (h : Places D l) (hD : IsMap D) (x : Sym) (hf : findB l x.name = false) : Places (D.put (keyL x.name) (.lit (.int .i64 l.length))) (l ++ [x]) := by
  have hk : WideAt.IsKeyLit (keyL x.name) := by simp [WideAt.IsKeyLit, keyL]
  refine ⟨fun nm => ?_, fun nm i hi => ?_⟩
  · unfold findB
    rw [find_snoc]
    cases hs : sameB x.name nm with
    | true =>
      rw [← keyL_eq hs, has_put_same hD hk]
      cases findL l nm <;> simp
    | false =>
      rw [has_put_other (fun e => keyL_ne hs e.symm), h.has nm]
      unfold findB
      cases findL l nm <;> simp
  · rw [find_snoc] at hi
    cases hs : sameB x.name nm with
    | true =>
      have hn : findL l nm = none := by
        cases hl : findL l nm with
        | none => rfl
        | some j =>
          have h1 := h.has nm
          have h2 := h.has x.name
          rw [keyL_eq hs, h1, hf, findB_some hl] at h2
          cases h2
      rw [hn, hs] at hi
      simp at hi
      rw [← keyL_eq hs, atKey_put_same hD hk, hi]
    | false =>
      rw [atKey_put_other (fun e => keyL_ne hs e.symm)]
      refine h.at_ nm i ?_
      cases hl : findL l nm with
      | some j => rw [hl] at hi; exact hi
      | none => rw [hl, hs] at hi; simp at hi

theorem law9 : Keyed Try.prog 9 := string_keyed Try.underlying9
theorem zero3 (w : World) : (zeroValue 3).run Try.prog w = .ok (.int .i64 0) w := by kernel_rfl
theorem make49 (w : World) (n : Int) : (Instr.makeMap 76 (some (.int .i64 n))).run Try.prog w = .ok (.map (some w.heap.size)) (w.alloc (.map #[] 0)) := by
  simp [Instr.makeMap, run_underlying Try.underlying76, asInt, go_sem]

set_option maxHeartbeats 400000 in
theorem places_any (a : Option Addr) (n cap : Nat) (l : List Sym) (w : World) (h : SigAt w a n l) (hr : n * 48 ≤ 140737488351232) :
    Calls Try.prog 39 #[.slice a n cap] w fun e w' => ∃ D : DataW Unit, e = .returned (.map (some w.heap.size)) ∧ w'.ownsMap Try.prog 9 (plainElem Try.prog 3) w.heap.size n D ∧ Places D l ∧ Below w.heap.size w w' := by
  have HS : Hid (SigAt w a n l) := h
  have hlen : Hid (n = l.length) := h.len
  clear h
  have hmm := make49
  have H0 : Hid (Places (.map [] : DataW Unit) (l.take 0)) := ⟨fun nm => by simp [Maps.has, findB, findL], fun nm i hi => by simp [findL] at hi⟩
  go_enter Try.func39, Try.ntmps39
  go_wp2
  go_loopw [4, 5, 6, 7, 13] (fun _ _ _ _ i w' => ∃ (k : Nat) (D : DataW Unit), k ≤ n ∧ i = .int .i64 k ∧ w'.ownsMap Try.prog 9 (plainElem Try.prog 3) w.heap.size k D ∧ Places D (l.take k) ∧ Below w.heap.size w w') (fun _ _ _ _ i _ => n - (intOf i).toNat)
  case atStart => exact ⟨0, .map [], Nat.zero_le _, rfl, World.ownsMap_made _ _ _ _, H0.out, (Below.refl _ _).alloc (Nat.le_refl _) _⟩
  case round =>
    obtain ⟨k, D, hk, rfl, hown, hpl, hb⟩ := hrel
    have HB : Hid (Below w.heap.size w wr) := hb
    have HP : Hid (Places D (l.take k)) := hpl
    clear hpl
    by_cases hlt : k < n
    · have hlk : k < l.length := by have := hlen.out; omega
      obtain ⟨b, off, rfl, hsym⟩ := HS.out.cells k hlk
      have hw := hsym.below hb
      have c0 := hw.name
      have c1 := hw.kind
      have c2 := hw.arity
      have c3 := hw.unit
      clear hw hsym hb
      have hkey : keyOf Try.prog 9 (.string l[k].name) = some (keyL l[k].name) := Go.WideMaps.keyOf_string_mk Try.underlying9 (HS.out.fits _ (List.getElem_mem hlk)).name
      have htk : Hid (l.take (k + 1) = l.take k ++ [l[k]]) := List.take_succ_eq_append_getElem hlk
      have hhas := HP.out.has l[k].name
      cases hf : findB (l.take k) l[k].name
      · rw [hf] at hhas
        have hnew : Hid (Places (D.put (keyL l[k].name) (.lit (.int .i64 k))) (l.take (k + 1))) := by
          have := HP.out.put hown.isMap l[k] hf
          rw [show (l.take k).length = k by simp; omega] at this
          show Places _ _
          rw [htk.out]; exact this
        go_wp2_with (first | (at_lookup; refine wpList_lookup_own_ok_int _ rfl _ _ 76 rfl 9 3 .i64 law9 Try.underlying76 Try.underlying3 (zero3 _) w.heap.size k D rfl (hown.alloc _) _ _ rfl hkey ?_; intro c hat hwc) | (at_mapUpdate; refine wpList_mapUpdate_own _ rfl _ _ _ 76 rfl 9 3 law9 Try.underlying76 _ w.heap.size k D rfl (hown.alloc _) (by unfold maxLen; omega) _ _ _ rfl rfl hkey _ [] (plainElem_int Try.underlying3 (WalkArith.wf_i64 (by omega))) ?_; intro w1 hown1 hgrow1))
        have HB2 : Hid (Below w.heap.size w w1) := (HB.out.alloc HB.out.size _).grown hgrow1 (by have := HB.out.size; simp; omega) (fun j hj => by cases hj; exact Nat.le_refl _)
        clear hgrow1
        go_wp2
        go_roundw
        case rel => exact ⟨k + 1, _, by omega, by go_num, hown1, hnew.out, HB2.out⟩
        case measure => simp [intOf]; omega
      · rw [hf] at hhas
        have hnew : Hid (Places D (l.take (k + 1))) := by
          show Places _ _
          rw [htk.out]; exact HP.out.skip l[k] hf
        go_wp2_with (first | (at_lookup; refine wpList_lookup_own_ok_int _ rfl _ _ 76 rfl 9 3 .i64 law9 Try.underlying76 Try.underlying3 (zero3 _) w.heap.size k D rfl (hown.alloc _) _ _ rfl hkey ?_; intro c hat hwc))
        go_roundw
        case rel => exact ⟨k + 1, D, by omega, by go_num, (hown.alloc _).mono (by omega), hnew.out, HB.out.alloc HB.out.size _⟩
        case measure => simp [intOf]; omega
    · have hkn : Hid (k = n) := by show k = n; omega
      have hown' : Hid (wr.ownsMap Try.prog 9 (plainElem Try.prog 3) w.heap.size n D) := hown.mono (by omega)
      have hpl : Hid (Places D l) := by
        have := HP.out
        rw [hkn.out, List.take_of_length_le (by have := hlen.out; omega)] at this
        exact this
      clear hown hb
      go_wp2
      go_ret
      exact ⟨D, rfl, hown'.out, hpl.out, HB.out⟩
end Go.Proofs.Ytplekhfnidhcoaa
/- What the document's Units makes. -/
namespace Go.Proofs.Ytplekhfnidhcoaa
open Go.RowKit

/-- Is this place told by Unit of some symbol? -/
def isU (l : List Sym) (i : Nat) : Bool := (List.range l.length).any fun k => unitAt l k == some i
/-- The places below i that are. -/
def refTo (l : List Sym) (i : Nat) : List Int := ((List.range i).filter (isU l)).map fun (k : Nat) => (k : Int)
theorem refTo_zero (l : List Sym) : refTo l 0 = [] := rfl
theorem refTo_yes {l : List Sym} {i : Nat} (h : isU l i = true) : refTo l (i + 1) = refTo l i ++ [(i : Int)] := by
  simp [refTo, List.range_succ, List.filter_append, h]
theorem refTo_no {l : List Sym} {i : Nat} (h : isU l i = false) : refTo l (i + 1) = refTo l i := by
  simp [refTo, List.range_succ, List.filter_append, h]
theorem refTo_le (l : List Sym) (i : Nat) : (refTo l i).length ≤ i := by
  unfold refTo
  rw [List.length_map]
  exact Nat.le_trans (List.length_filter_le _ _) (by simp)
theorem isU_hit {l : List Sym} {i k : Nat} (hk : k < l.length) (h : unitAt l k = some i) : isU l i = true := by
  unfold isU
  rw [List.any_eq_true]
  exact ⟨k, by simpa using hk, by simp [h]⟩
theorem isU_miss {l : List Sym} {i : Nat} (h : ∀ k, k < l.length → unitAt l k ≠ some i) : isU l i = false := by
  unfold isU
  rw [List.any_eq_false]
  intro k hk
  simp at hk
  simp [h k hk]
theorem unit_yes {l : List Sym} {k i : Nat} (h1 : unitOk l k = true) (h2 : (unitI l k == (i : Int)) = true) : unitAt l k = some i := by
  unfold unitOk at h1
  obtain ⟨j, hj⟩ := Option.isSome_iff_exists.1 h1
  simp [unitI, hj] at h2
  rw [hj]; congr; omega
theorem unit_no1 {l : List Sym} {k i : Nat} (h1 : unitOk l k = false) : unitAt l k ≠ some i := fun e => by simp [unitOk, e] at h1
theorem unit_no2 {l : List Sym} {k i : Nat} (h2 : (unitI l k == (i : Int)) = false) : unitAt l k ≠ some i := fun e => by simp [unitI, e] at h2

def ints (zs : List Int) : List Value := zs.map (Value.int .i64)
theorem ints_one (zs : List Int) : ∀ u ∈ ints zs, u.oneCell' = true := by
  intro u hu
  obtain ⟨z, _, rfl⟩ := List.mem_map.1 hu
  rfl
theorem int_news (w : World) (H : Nat) (hH : w.heap.size = H) (z : Int) : ∀ j u, (ints [z])[j]? = some u → (w.alloc (.cells #[.int .i64 z] 3)).cell? ((⟨H, 0, none⟩ : Addr).add j) = some u := by
  subst hH
  exact World.news_of_block (cs := #[.int .i64 z]) (t := 3) (fr := (0, 0)) (heap_alloc_new w _)
theorem Try.info3s : (Try.prog.info? 3).map (fun i => (i.zero, i.size, i.bytes)) = some (some (.int .i64 0), 1, 8) := by kernel_rfl

end Go.Proofs.Ytplekhfnidhcoaa
/- The units of a signature, plainly: those that are gathered, sorted and made single are those below the length that some symbol tells. -/
namespace Go.Proofs.Ytplekhfnidhcoaa
open Go.RowKit

def unitOf (l : List Sym) (x : Sym) : Option Int := if x.kind = 3 then (findL l x.unit).map (fun (i : Nat) => (i : Int)) else none
/-- What the program gathers of the first k symbols. -/
def rawTo (l : List Sym) (k : Nat) : List Int := (l.take k).filterMap (unitOf l)
theorem rawTo_zero (l : List Sym) : rawTo l 0 = [] := by simp [rawTo]
theorem rawTo_some {l : List Sym} {k : Nat} (hk : k < l.length) {z : Int} (h : unitOf l l[k] = some z) : rawTo l (k + 1) = rawTo l k ++ [z] := by
  unfold rawTo; rw [List.take_succ_eq_append_getElem hk, List.filterMap_append]; simp [h]
theorem rawTo_none {l : List Sym} {k : Nat} (hk : k < l.length) (h : unitOf l l[k] = none) : rawTo l (k + 1) = rawTo l k := by
  unfold rawTo; rw [List.take_succ_eq_append_getElem hk, List.filterMap_append]; simp [h]
theorem rawTo_le (l : List Sym) (k : Nat) : (rawTo l k).length ≤ k := by
  unfold rawTo
  exact Nat.le_trans (List.length_filterMap_le _ _) (by simp; omega)
theorem unitOf_at {l : List Sym} {k : Nat} (hk : k < l.length) : unitOf l l[k] = (unitAt l k).map (fun (i : Nat) => (i : Int)) := by
  unfold unitOf
  by_cases h : l[k].kind = 3
  · rw [if_pos h, unit_is hk h]
  · rw [if_neg h, unit_not hk h]; rfl
theorem mem_raw {l : List Sym} (x : Int) : x ∈ rawTo l l.length ↔ ∃ k i : Nat, k < l.length ∧ unitAt l k = some i ∧ x = i := by
  unfold rawTo
  rw [List.take_length, List.mem_filterMap]
  constructor
  · rintro ⟨y, hy, h⟩
    obtain ⟨k, hk, rfl⟩ := List.getElem_of_mem hy
    rw [unitOf_at hk] at h
    cases hu : unitAt l k with
    | none => rw [hu] at h; cases h
    | some i => rw [hu] at h; simp at h; exact ⟨k, i, hk, hu, h.symm⟩
  · rintro ⟨k, i, hk, hu, rfl⟩
    exact ⟨l[k], List.getElem_mem hk, by rw [unitOf_at hk, hu]; rfl⟩
theorem unit_lt {l : List Sym} {k i : Nat} (h : unitAt l k = some i) : i < l.length := by
  unfold unitAt at h
  split at h
  · split at h
    · unfold findL at h
      rw [List.findIdx?_eq_some_iff_getElem] at h
      exact h.1
    · cases h
  · cases h
theorem mem_ref {l : List Sym} (x : Int) : x ∈ refTo l l.length ↔ ∃ k i : Nat, k < l.length ∧ unitAt l k = some i ∧ x = i := by
  unfold refTo isU
  simp only [List.mem_map, List.mem_filter, List.mem_range, List.any_eq_true, beq_iff_eq]
  constructor
  · rintro ⟨i, ⟨_, k, hk, hu⟩, rfl⟩; exact ⟨k, i, hk, hu, rfl⟩
  · rintro ⟨k, i, hk, hu, rfl⟩; exact ⟨i, ⟨unit_lt hu, k, hk, hu⟩, rfl⟩
theorem ref_rises (l : List Sym) (n : Nat) : (refTo l n).Pairwise (· < ·) := by
  unfold refTo
  rw [List.pairwise_map]
  refine List.Pairwise.filter _ ?_
  exact List.pairwise_lt_range.imp (fun h => by omega)

theorem strict_eq : ∀ (a b : List Int), a.Pairwise (· < ·) → b.Pairwise (· < ·) → (∀ x, x ∈ a ↔ x ∈ b) → a = b
  | [], [], _, _, _ => rfl
  | [], y :: b, _, _, h => absurd ((h y).2 (List.mem_cons_self)) (by simp)
  | x :: a, [], _, _, h => absurd ((h x).1 (List.mem_cons_self)) (by simp)
  | x :: a, y :: b, ha, hb, h => by
    rw [List.pairwise_cons] at ha hb
    have hxy : x = y := by
      have h1 := (h x).1 List.mem_cons_self
      have h2 := (h y).2 List.mem_cons_self
      rcases List.mem_cons.1 h1 with e | h1
      · exact e
      · rcases List.mem_cons.1 h2 with e | h2
        · exact e.symm
        · have := hb.1 x h1; have := ha.1 y h2; omega
    subst hxy
    rw [strict_eq a b ha.2 hb.2 (fun z => ?_)]
    constructor
    · intro hz
      rcases List.mem_cons.1 ((h z).1 (List.mem_cons_of_mem _ hz)) with e | hz'
      · subst e; have := ha.1 z hz; omega
      · exact hz'
    · intro hz
      rcases List.mem_cons.1 ((h z).2 (List.mem_cons_of_mem _ hz)) with e | hz'
      · subst e; have := hb.1 z hz; omega
      · exact hz'

theorem comp_inv (d : Array Int) (hs : ∀ i j, i ≤ j → j < d.size → d[i]! ≤ d[j]!) : ∀ m, m ≤ d.size → (Lib.compactUpTo d m).Pairwise (· < ·) ∧ ∀ x, x ∈ Lib.compactUpTo d m ↔ ∃ j, j < m ∧ d[j]! = x
  | 0, _ => ⟨by simp [Lib.compactUpTo], fun x => by simp [Lib.compactUpTo]⟩
  | m + 1, hm => by
    obtain ⟨h1, h2⟩ := comp_inv d hs m (by omega)
    rw [Lib.compactUpTo_succ]
    cases hk : Lib.keeps d m with
    | true =>
      rw [if_pos rfl]
      refine ⟨?_, fun x => ?_⟩
      · rw [List.pairwise_append]
        refine ⟨h1, by simp, fun x hx y hy => ?_⟩
        simp at hy
        subst hy
        obtain ⟨j, hj, rfl⟩ := (h2 x).1 hx
        have hne : d[m]! ≠ d[m - 1]! := by
          simp only [Lib.keeps, decide_eq_true_eq] at hk
          rcases hk with e | e
          · omega
          · exact e
        have a1 := hs j (m - 1) (by omega) (by omega)
        have a2 := hs (m - 1) m (by omega) (by omega)
        omega
      · rw [List.mem_append, h2]
        constructor
        · rintro (⟨j, hj, rfl⟩ | hx)
          · exact ⟨j, by omega, rfl⟩
          · simp at hx; exact ⟨m, by omega, hx.symm⟩
        · rintro ⟨j, hj, rfl⟩
          rcases Nat.lt_succ_iff_lt_or_eq.1 hj with hj | rfl
          · exact Or.inl ⟨j, hj, rfl⟩
          · right; simp
    | false =>
      have hk' : ¬ (m = 0 ∨ d[m]! ≠ d[m - 1]!) := by simpa [Lib.keeps] using hk
      simp only [not_or, ne_eq, Decidable.not_not] at hk'
      rw [if_neg (by simp), List.append_nil]
      refine ⟨h1, fun x => ?_⟩
      rw [h2]
      constructor
      · rintro ⟨j, hj, rfl⟩; exact ⟨j, by omega, rfl⟩
      · rintro ⟨j, hj, rfl⟩
        rcases Nat.lt_succ_iff_lt_or_eq.1 hj with hj | rfl
        · exact ⟨j, hj, rfl⟩
        · exact ⟨j - 1, by omega, hk'.2.symm⟩

def sortedI (zs : List Int) : List Int := zs.mergeSort fun x y => decide (x ≤ y)
theorem sorted_rises (zs : List Int) : (sortedI zs).Pairwise (· ≤ ·) := by
  have := List.pairwise_mergeSort (le := fun x y : Int => decide (x ≤ y)) (fun a b c h1 h2 => by simp at *; omega) (fun a b => by simp; omega) zs
  exact this.imp (fun h => by simpa using h)
theorem compact_sorted (zs : List Int) : (Lib.compact (sortedI zs)).Pairwise (· < ·) ∧ ∀ x, x ∈ Lib.compact (sortedI zs) ↔ x ∈ zs := by
  have hp := sorted_rises zs
  have hs : ∀ i j, i ≤ j → j < (sortedI zs).toArray.size → (sortedI zs).toArray[i]! ≤ (sortedI zs).toArray[j]! := by
    intro i j hij hj
    have hj' : j < (sortedI zs).length := by simpa using hj
    rw [getElem!_pos _ i (by simp; omega), getElem!_pos _ j hj]
    simp only [List.getElem_toArray]
    rcases Nat.lt_or_eq_of_le hij with h | rfl
    · exact List.pairwise_iff_getElem.1 hp i j (by omega) hj' h
    · omega
  obtain ⟨h1, h2⟩ := comp_inv (sortedI zs).toArray hs (sortedI zs).length (by simp)
  refine ⟨h1, fun x => ?_⟩
  have e : x ∈ zs ↔ x ∈ sortedI zs := by unfold sortedI; rw [List.mem_mergeSort]
  rw [e]
  unfold Lib.compact
  rw [h2]
  constructor
  · rintro ⟨j, hj, rfl⟩
    rw [getElem!_pos _ j (by simpa using hj)]
    simp
  · intro hx
    obtain ⟨j, hj, rfl⟩ := List.getElem_of_mem hx
    exact ⟨j, hj, by rw [getElem!_pos _ j (by simpa using hj)]; simp⟩
/-- THE TWO ARE ONE. -/
theorem units_eq (l : List Sym) : Lib.compact (sortedI (rawTo l l.length)) = refTo l l.length := by
  obtain ⟨h1, h2⟩ := compact_sorted (rawTo l l.length)
  exact strict_eq _ _ h1 (ref_rises l l.length) (fun x => by rw [h2, mem_raw, mem_ref])
end Go.Proofs.Ytplekhfnidhcoaa
