/- Texts laid together: RAppB, PHead, TOpen, TwoOpen, LPl, LIn, LBase. -/
import Derived.Deep.RegionHeld3
import Derived.Deep.DeepCutAuto
import Derived.Test.YtlemkgdbefmeeabRows
import Derived.Lib.SmallJoins
import Derived.SizedLaws
import Derived.ProofKit
import Derived.OpenShut
import Derived.ShutString
import Derived.ChangeOld
import Derived.SliceStrings
import Derived.ChangeMaps5
import Derived.JoinedCond
import Derived.Test.YtlemkgdbefmeeabM5
/- An AC or ACU symbol's term of two right terms or more is right; the unit's constant is. -/
namespace Go.Proofs.Ytlemkgdbefmeeab
open Go.RowKit Go.Deep

set_option maxRecDepth 100000 in
theorem errF_mk {S : List Sym} : ∀ {l : List Tn}, (∀ t ∈ l, errT S t.1 t.2 = 0) → errF S (mkF l) = 0
  | [], _ => rfl
  | t :: r, h => by
    rw [mkF, errF, show thenC (nodeErr S t.1 (lenF t.2)) (errF S t.2) = 0 from h t List.mem_cons_self, errF_mk (fun k hk => h k (List.mem_cons_of_mem _ hk))]
    rfl
set_option maxRecDepth 100000 in
theorem rightB_app {S : List Sym} {k : Nat} (hk : k < S.length) (hj : S[k].kind ≠ 1) {l : List Tn} (h2 : 2 ≤ l.length) (hc : checkE S = 0) (h : ∀ t ∈ l, rightB S t = true) : rightB S (appT (k : Int) l) = true := by
  have he : ∀ t ∈ l, errT S t.1 t.2 = 0 := fun t ht => by
    have := h t ht
    unfold rightB at this
    simp only [Bool.and_eq_true, beq_iff_eq] at this
    exact this.2
  have hn : nodeErr S (noB, (k : Int)) (lenF (mkF l)) = 0 := by
    rw [nodeErr_in noName_noB (by show (0 : Int) ≤ (k : Int); omega) (by show (k : Int).toNat < S.length; omega)]
    rw [if_pos]
    unfold takesB
    rw [if_neg (by simpa using hj), len_mk]
    simpa using h2
  unfold rightB appT errT
  dsimp only
  rw [hn, errF_mk he, hc]
  rfl
set_option maxRecDepth 100000 in
/-- The place of an AC or ACU symbol of a right signature joins. -/
theorem joins_of {S : List Sym} (hc : checkE S = 0) {k : Nat} (hk : k < S.length) (hj : S[k].kind ≠ 1) : (sgOf S).joins (k : Int) = true := by
  show joinsAt S (k : Int) = true
  unfold joinsAt
  rw [symAt_in hk]
  have := (symErr_zero (right_each hc hk)).2.1
  unfold kindB at this
  simpa [hj] using this
set_option maxRecDepth 100000 in
theorem rightB_const {S : List Sym} (hc : checkE S = 0) {f : Int} {i : Nat} (hu : unitAt S f = some i) : rightB S (constT (i : Int)) = true := by
  obtain ⟨hi, hk, ha⟩ := unit_facts hc hu
  have hn : nodeErr S (noB, (i : Int)) 0 = 0 := by
    rw [nodeErr_in noName_noB (by show (0 : Int) ≤ (i : Int); omega) (by show (i : Int).toNat < S.length; omega)]
    rw [if_pos]
    unfold takesB
    have e : S[(noB, (i : Int)).2.toNat]'(by show (i : Int).toNat < S.length; omega) = S[i] := by simp
    rw [e, if_pos hk, ha]
    rfl
  unfold rightB constT errT
  dsimp only
  rw [show lenF (BT.nil : Fo) = 0 from rfl, hn, hc]
  rfl
end Go.Proofs.Ytlemkgdbefmeeab
/- What Head of the statements answers: true. -/
namespace Go.Proofs.Ytlemkgdbefmeeab
open Go.RowKit Go.Deep

def bA : ByteArray := ⟨#[97]⟩
def bOne : ByteArray := ⟨#[111, 110, 101]⟩
def bF : ByteArray := ⟨#[102]⟩
def bPlus : ByteArray := ⟨#[112, 108, 117, 115]⟩
def bTimes : ByteArray := ⟨#[116, 105, 109, 101, 115]⟩
def bX : ByteArray := ⟨#[88]⟩
def someL : List Sym := [⟨bA, 1, 0, ⟨#[]⟩⟩, ⟨bOne, 1, 0, ⟨#[]⟩⟩, ⟨bF, 1, 2, ⟨#[]⟩⟩, ⟨bPlus, 2, 2, ⟨#[]⟩⟩, ⟨bTimes, 3, 2, bOne⟩]

def headX : Tn := ((⟨#[]⟩, 4), .node 0 0 (⟨#[]⟩, 0) .nil (.node 0 0 (⟨#[]⟩, 4) (.node 0 0 (bX, 0) .nil (.node 0 0 (⟨#[]⟩, 1) .nil .nil)) .nil))
def headYF : Fo := .node 0 0 (bX, 0) .nil (.node 0 0 (⟨#[]⟩, 0) .nil .nil)
def headY : Tn := ((⟨#[]⟩, 4), headYF)
theorem some_ok : (sgOf someL).Ok (arAt someL) := sg_ok (by decide +kernel)
theorem head_right : RightT (sgOf someL) (arAt someL) headX := errT_right (x := (⟨#[]⟩, 4)) (by decide +kernel) (by decide +kernel)
theorem head_canon : canonT (sgOf someL) headX = headY := by kernel_rfl
theorem headY_canon : canonT (sgOf someL) headY = headY := by rw [← head_canon]; exact canonT_twice some_ok head_right
theorem headY_right : RightT (sgOf someL) (arAt someL) headY := by rw [← head_canon]; exact right_of_can (canonT_can some_ok head_right)

set_option maxRecDepth 100000 in
theorem some_any (w : World) : Calls Try.prog 15 #[] w fun e w' => ∃ g, e = .returned (.slice (some ⟨g, 0, none⟩) 5 5) ∧ SigAt w' (some ⟨g, 0, none⟩) 5 someL ∧ Below w.heap.size w w' := by
  go_enter Try.func15, Try.ntmps15
  go_wp2
  go_ret
  refine ⟨w.heap.size, rfl, ⟨rfl, by decide, fun i hi => ⟨w.heap.size, 0, rfl, ?_⟩, ?_⟩, (Below.refl _ w).alloc (Nat.le_refl _) _⟩
  · have hb := Box.new w 36 #[.string bA, .int .i64 1, .int .i64 0, .string ⟨#[]⟩, .string bOne, .int .i64 1, .int .i64 0, .string ⟨#[]⟩, .string bF, .int .i64 1, .int .i64 2, .string ⟨#[]⟩, .string bPlus, .int .i64 2, .int .i64 2, .string ⟨#[]⟩, .string bTimes, .int .i64 3, .int .i64 2, .string bOne]
    have hi : i < 5 := hi
    match i, hi with
    | 0, _ => exact ⟨hb.c 0, hb.c 1, hb.c 2, hb.c 3⟩
    | 1, _ => exact ⟨hb.c 4, hb.c 5, hb.c 6, hb.c 7⟩
    | 2, _ => exact ⟨hb.c 8, hb.c 9, hb.c 10, hb.c 11⟩
    | 3, _ => exact ⟨hb.c 12, hb.c 13, hb.c 14, hb.c 15⟩
    | 4, _ => exact ⟨hb.c 16, hb.c 17, hb.c 18, hb.c 19⟩
  · intro x hx
    simp only [someL, List.mem_cons, List.not_mem_nil, or_false] at hx
    rcases hx with rfl | rfl | rfl | rfl | rfl <;> exact ⟨by decide, by decide⟩

set_option maxRecDepth 100000 in
set_option maxHeartbeats 8000000 in
theorem head_any (w : World) : Calls Try.prog 5 #[] w fun e w' => e = .returned (.bool true) ∧ Below w.heap.size w w' := by
  go_enter Try.func5, Try.ntmps5
  go_upto_region 2 with fail
  have HB0 : Hid (Below w.heap.size w (((w.alloc (.cells #[.string ⟨#[88]⟩, .int .i64 0, .slice none 0 0, .string ⟨#[]⟩, .int .i64 1, .slice none 0 0] 26)).alloc (.cells #[.string ⟨#[]⟩, .int .i64 0, .slice none 0 0, .string ⟨#[]⟩, .int .i64 4, .slice (some ⟨w.heap.size, 0, none⟩) 2 2] 26)).alloc (.cells #[.string ⟨#[]⟩, .int .i64 4, .slice (some ⟨w.heap.size + 1, 0, none⟩) 2 2] 26))) := (((Below.refl _ w).alloc (Nat.le_refl _) _).alloc (by simp) _).alloc (by simp; omega) _
  have B0 : Hid (Box (((w.alloc (.cells #[.string ⟨#[88]⟩, .int .i64 0, .slice none 0 0, .string ⟨#[]⟩, .int .i64 1, .slice none 0 0] 26)).alloc (.cells #[.string ⟨#[]⟩, .int .i64 0, .slice none 0 0, .string ⟨#[]⟩, .int .i64 4, .slice (some ⟨w.heap.size, 0, none⟩) 2 2] 26)).alloc (.cells #[.string ⟨#[]⟩, .int .i64 4, .slice (some ⟨w.heap.size + 1, 0, none⟩) 2 2] 26)) w.heap.size 26 #[.string ⟨#[88]⟩, .int .i64 0, .slice none 0 0, .string ⟨#[]⟩, .int .i64 1, .slice none 0 0]) := ((Box.new w 26 _).below ((Below.refl _ _).alloc (Nat.le_refl _) _)).below ((Below.refl _ _).alloc (Nat.le_refl _) _)
  have B1 : Hid (Box (((w.alloc (.cells #[.string ⟨#[88]⟩, .int .i64 0, .slice none 0 0, .string ⟨#[]⟩, .int .i64 1, .slice none 0 0] 26)).alloc (.cells #[.string ⟨#[]⟩, .int .i64 0, .slice none 0 0, .string ⟨#[]⟩, .int .i64 4, .slice (some ⟨w.heap.size, 0, none⟩) 2 2] 26)).alloc (.cells #[.string ⟨#[]⟩, .int .i64 4, .slice (some ⟨w.heap.size + 1, 0, none⟩) 2 2] 26)) (w.heap.size + 1) 26 #[.string ⟨#[]⟩, .int .i64 0, .slice none 0 0, .string ⟨#[]⟩, .int .i64 4, .slice (some ⟨w.heap.size, 0, none⟩) 2 2]) := by
    have := (Box.new (w.alloc (.cells #[.string ⟨#[88]⟩, .int .i64 0, .slice none 0 0, .string ⟨#[]⟩, .int .i64 1, .slice none 0 0] 26)) 26 #[.string ⟨#[]⟩, .int .i64 0, .slice none 0 0, .string ⟨#[]⟩, .int .i64 4, .slice (some ⟨w.heap.size, 0, none⟩) 2 2]).below ((Below.refl _ _).alloc (Nat.le_refl _) (.cells #[.string ⟨#[]⟩, .int .i64 4, .slice (some ⟨w.heap.size + 1, 0, none⟩) 2 2] 26))
    rw [World.size_alloc] at this
    exact this
  have B2 : Hid (Box (((w.alloc (.cells #[.string ⟨#[88]⟩, .int .i64 0, .slice none 0 0, .string ⟨#[]⟩, .int .i64 1, .slice none 0 0] 26)).alloc (.cells #[.string ⟨#[]⟩, .int .i64 0, .slice none 0 0, .string ⟨#[]⟩, .int .i64 4, .slice (some ⟨w.heap.size, 0, none⟩) 2 2] 26)).alloc (.cells #[.string ⟨#[]⟩, .int .i64 4, .slice (some ⟨w.heap.size + 1, 0, none⟩) 2 2] 26)) (w.heap.size + 1 + 1) 26 #[.string ⟨#[]⟩, .int .i64 4, .slice (some ⟨w.heap.size + 1, 0, none⟩) 2 2]) := by
    have := Box.new ((w.alloc (.cells #[.string ⟨#[88]⟩, .int .i64 0, .slice none 0 0, .string ⟨#[]⟩, .int .i64 1, .slice none 0 0] 26)).alloc (.cells #[.string ⟨#[]⟩, .int .i64 0, .slice none 0 0, .string ⟨#[]⟩, .int .i64 4, .slice (some ⟨w.heap.size, 0, none⟩) 2 2] 26)) 26 #[.string ⟨#[]⟩, .int .i64 4, .slice (some ⟨w.heap.size + 1, 0, none⟩) 2 2]
    rw [World.size_alloc, World.size_alloc] at this
    exact this
  generalize ((w.alloc (.cells #[.string ⟨#[88]⟩, .int .i64 0, .slice none 0 0, .string ⟨#[]⟩, .int .i64 1, .slice none 0 0] 26)).alloc (.cells #[.string ⟨#[]⟩, .int .i64 0, .slice none 0 0, .string ⟨#[]⟩, .int .i64 4, .slice (some ⟨w.heap.size, 0, none⟩) 2 2] 26)).alloc (.cells #[.string ⟨#[]⟩, .int .i64 4, .slice (some ⟨w.heap.size + 1, 0, none⟩) 2 2] 26) = W0 at HB0 B0 B1 B2 ⊢
  have HX : TmAt W0 (⟨#[]⟩, 4) (some ⟨w.heap.size + 1, 0, none⟩) 2 headX.2 := by
    refine ⟨⟨by decide, by decide, by decide, by decide⟩, .inr ⟨_, _, rfl, ⟨none, 0, B1.out.c 0, B1.out.c 1, B1.out.c 2, ⟨by decide, by decide, by decide, by decide⟩, .inl rfl⟩, ⟨some ⟨w.heap.size, 0, none⟩, 2, B1.out.c 3, B1.out.c 4, B1.out.c 5, ⟨by decide, by decide, by decide, by decide⟩, .inr ⟨_, _, rfl, ⟨none, 0, B0.out.c 0, B0.out.c 1, B0.out.c 2, ⟨by decide, by decide, by decide, by decide⟩, .inl rfl⟩, ⟨none, 0, B0.out.c 3, B0.out.c 4, B0.out.c 5, ⟨by decide, by decide, by decide, by decide⟩, .inl rfl⟩, trivial⟩⟩, trivial⟩⟩
  have HC : Hid (∀ W g, SigAt W (some ⟨g, 0, none⟩) 5 someL → Below W0.heap.size W0 W → Calls Try.prog 7 #[.slice (some ⟨g, 0, none⟩) 5 5, .agg #[.string ⟨#[]⟩, .int .i64 4, .slice (some ⟨w.heap.size + 1, 0, none⟩) 2 2]] W fun e w' => ∃ a c, e = .returned (.agg #[.string ⟨#[]⟩, .int .i64 4, .slice a 2 c]) ∧ SepTm w' (fun q => W.heap.size ≤ q) (⟨#[]⟩, 4) a c headYF ∧ Below W.heap.size W w') := fun W g hS hb => by
    refine (pcanon_any (some ⟨g, 0, none⟩) 5 5 someL headX (some ⟨w.heap.size + 1, 0, none⟩) 2 W hS (HX.below hb) (by decide)).mono ?_
    rintro e w' ⟨k, rfl, hr, hE, hbb⟩
    have hk : k.tn = headY := by rw [hr.2 some_ok head_right, head_canon]
    obtain ⟨kx, kl, ka, kc⟩ := k
    have e1 : kx = (⟨#[]⟩, 4) := congrArg Prod.fst hk
    have e2 : kl = headYF := congrArg Prod.snd hk
    subst e1 e2
    exact ⟨ka, kc, rfl, hE.1, hbb⟩
  have c0 : W0.cell? ⟨w.heap.size + 1 + 1, 0, none⟩ = some (.string ⟨#[]⟩) := B2.out.c 0
  have c1 : W0.cell? ⟨w.heap.size + 1 + 1, 1, none⟩ = some (.int .i64 4) := B2.out.c 1
  have c2 : W0.cell? ⟨w.heap.size + 1 + 1, 2, none⟩ = some (.slice (some ⟨w.heap.size + 1, 0, none⟩) 2 2) := B2.out.c 2
  clear HX B0 B1 B2
  go_cut [2] (fun v wc => ∃ By a c, v = .pointer (some ⟨By, 0, none⟩) ∧ XBox wc By (⟨#[]⟩, 4) (.slice a 2 c) ∧ TmAt wc (⟨#[]⟩, 4) a c headYF ∧ Below W0.heap.size W0 wc)
  case first =>
    go_region_held3 (fun w' => w'.cell? ⟨w.heap.size + 1 + 1, 0, none⟩ = some (.string ⟨#[]⟩) ∧ w'.cell? ⟨w.heap.size + 1 + 1, 1, none⟩ = some (.int .i64 4) ∧ w'.cell? ⟨w.heap.size + 1 + 1, 2, none⟩ = some (.slice (some ⟨w.heap.size + 1, 0, none⟩) 2 2)) ((first
      | (go_split_ands; refine ⟨?_, ?_, ?_⟩ <;> (with_reducible refine below_cell HB2.out _ _ ?_; assumption))
      | (go_split_ands; refine ⟨?_, ?_, ?_⟩ <;> (with_reducible refine below_cell (HB2.out.alloc HB2.out.size _) _ _ ?_; assumption))
      | (go_split_ands; refine ⟨?_, ?_, ?_⟩ <;> (with_reducible refine below_cell HB1.out _ _ ?_; assumption))
      | (go_split_ands; refine ⟨?_, ?_, ?_⟩ <;> (with_reducible refine below_cell (HB1.out.alloc HB1.out.size _) _ _ ?_; assumption))
      | (go_split_ands; refine ⟨?_, ?_, ?_⟩ <;> (with_reducible refine below_cell ((Below.refl _ W0).alloc (Nat.le_refl _) _) _ _ ?_; assumption))
      | (go_split_ands; refine ⟨?_, ?_, ?_⟩ <;> (with_reducible refine below_cell (sets_below HB2.out (Nat.le_refl _) _ _ _) _ _ ?_; assumption))
      | (go_split_ands; refine ⟨?_, ?_, ?_⟩ <;> (with_reducible refine below_cell (sets_below HB2.out HB1.out.size _ _ _) _ _ ?_; assumption))
      | go_keep | fail)) ((first
      | (go_at_call 15; refine Calls.mono (some_any _) ?_; rintro e w1 ⟨g1, rfl, hs1, hb1⟩; have HS1 := hid hs1; first | (have HB1 : Hid (Below W0.heap.size W0 w1) := ((Below.refl _ W0).drew).trans hb1; clear hs1 hb1) | (have HB1 : Hid (Below W0.heap.size W0 w1) := (((Below.refl _ W0).alloc (Nat.le_refl _) _).drew).trans (hb1.mono (by show _ ≤ (W0.alloc _).heap.size; rw [World.size_alloc]; omega)); have HY1 : Hid (XBox w1 W0.heap.size (⟨#[]⟩, 0) (.slice none 0 0)) := XBox.below (W := World.drew (World.alloc W0 (.cells #[.string ⟨#[]⟩, .int .i64 0, .slice none 0 0] 26))) (heap_alloc_new W0 _) hb1; clear hs1 hb1))
      | (go_at_call 7; refine Calls.mono (HC.out _ g1 (by first | exact HS1.out | exact HS1.out.below ((Below.refl _ w1).alloc (Nat.le_refl _) _)) (by first | exact HB1.out | exact HB1.out.alloc HB1.out.size _)) ?_; rintro e w2 ⟨a2, c2', rfl, ht2, hb2⟩; first | (have HT2 : Hid (SepTm w2 (fun q => q ≠ W0.heap.size) (⟨#[]⟩, 4) a2 c2' headYF) := SepTm.mono (fun q hq => by have := HY1.out.lt; omega) ht2; have HB2 : Hid (Below W0.heap.size W0 w2) := HB1.out.trans (hb2.mono HB1.out.size); have HY2 := hid (HY1.out.below hb2); have y0 := HY2.out.c0; have y1 := HY2.out.c1; have y2 := HY2.out.c2; have z0 := HY2.out.f (k := 0); have z1 := HY2.out.f (k := 1); have z2 := HY2.out.f (k := 2); clear ht2 hb2) | (have HB2 : Hid (Below W0.heap.size W0 w2) := HB1.out.trans (hb2.mono HB1.out.size); have HT2 : Hid (SepTm w2 (fun _ => True) (⟨#[]⟩, 4) a2 c2' headYF) := SepTm.mono (fun _ _ => trivial) ht2; clear ht2 hb2) | (have HT2 : Hid (SepTm w2 (fun q => q ≠ w1.heap.size) (⟨#[]⟩, 4) a2 c2' headYF) := SepTm.mono (fun q hq => by rw [World.size_alloc] at hq; omega) ht2; have HB2 : Hid (Below W0.heap.size W0 w2) := (HB1.out.alloc HB1.out.size _).trans (hb2.mono (by rw [World.size_alloc]; have := HB1.out.size; omega)); have HY2 : Hid (XBox w2 w1.heap.size (⟨#[]⟩, 0) (.slice none 0 0)) := XBox.below (W := World.alloc w1 (.cells #[.string ⟨#[]⟩, .int .i64 0, .slice none 0 0] 26)) (heap_alloc_new w1 _) hb2; have y0 := HY2.out.c0; have y1 := HY2.out.c1; have y2 := HY2.out.c2; have z0 := HY2.out.f (k := 0); have z1 := HY2.out.f (k := 1); have z2 := HY2.out.f (k := 2); clear ht2 hb2))
      | fail))
    all_goals (go_wp2_with fail; go_meet)
    all_goals first
      | exact ⟨w2.heap.size, a2, c2', rfl, World.alloc_heap_new w2 _, (SepTm.tm HT2.out).below ((Below.refl _ _).alloc (Nat.le_refl _) _), HB2.out.alloc HB2.out.size _⟩
      | exact ⟨W0.heap.size, a2, c2', rfl, HY2.out.all (x := (⟨#[]⟩, 4)) _, SepTm.tm (HT2.out.keep (fun q hq _ => sets_far hq _ _ _)), sets_below HB2.out (Nat.le_refl _) _ _ _⟩
      | exact ⟨w1.heap.size, a2, c2', rfl, HY2.out.all (x := (⟨#[]⟩, 4)) _, SepTm.tm (HT2.out.keep (fun q hq _ => sets_far hq _ _ _)), sets_below HB2.out HB1.out.size _ _ _⟩
  case rest =>
    obtain ⟨By, ya, yc, rfl, hy, hty, hby⟩ := hcut
    have HBY := hid hby
    obtain ⟨yb, yo, rfl, hk⟩ := hty.args.get (by decide)
    have HI : Hid (∀ W g, SigAt W (some ⟨g, 0, none⟩) 5 someL → Below wc.heap.size wc W → Calls Try.prog 16 #[.slice (some ⟨g, 0, none⟩) 5 5, .agg #[.string ⟨#[]⟩, .int .i64 4, .slice (some ⟨yb, yo, none⟩) 2 yc]] W fun e w' => e = .returned (.bool true) ∧ Below W.heap.size W w') := fun W g hS hb => by
      refine (pis_any (some ⟨g, 0, none⟩) 5 5 someL headY (some ⟨yb, yo, none⟩) yc W hS (hty.below hb) (by decide)).mono ?_
      rintro e w' ⟨r, hr, rfl, hbb⟩
      have : r = headY := by rw [hr.2 some_ok headY_right, headY_canon]
      rw [this, show (cmpN headY headY == 0) = true by decide +kernel]
      exact ⟨rfl, hbb⟩
    have y0 := hy.c0; have y1 := hy.c1; have y2 := hy.c2
    obtain ⟨⟨ka, kc, k0, _, _, _, _⟩, ⟨kb, kd, _, k4, _, _, _⟩, _⟩ := hk
    have k0' : wc.cell? ⟨yb, yo, none⟩ = some (.string ⟨#[88]⟩) := k0
    have k4' : wc.cell? ⟨yb, yo + 3 + 1, none⟩ = some (.int .i64 0) := k4
    have hyc : 2 ≤ yc := hty.sizes.len
    have hyc2 : yc ≤ 9223372036854775807 := hty.sizes.cap
    clear k0 k4 hy hty hby
    go_upto_region 3 with fail
    go_region_held3 (fun w' => w'.cell? ⟨By, 0, none⟩ = some (.string ⟨#[]⟩) ∧ w'.cell? ⟨By, 1, none⟩ = some (.int .i64 4) ∧ w'.cell? ⟨By, 2, none⟩ = some (.slice (some ⟨yb, yo, none⟩) 2 yc) ∧ w'.cell? ⟨yb, yo, none⟩ = some (.string ⟨#[88]⟩) ∧ w'.cell? ⟨yb, yo + 3 + 1, none⟩ = some (.int .i64 0)) ((first
      | (go_split_ands; refine ⟨?_, ?_, ?_, ?_, ?_⟩ <;> (with_reducible refine below_cell HB2.out _ _ ?_; assumption))
      | (go_split_ands; refine ⟨?_, ?_, ?_, ?_, ?_⟩ <;> (with_reducible refine below_cell HB1.out _ _ ?_; assumption))
      | go_keep | fail)) ((first
      | (go_at_call 15; refine Calls.mono (some_any _) ?_; rintro e w1 ⟨g1, rfl, hs1, hb1⟩; have HS1 := hid hs1; have HB1 : Hid (Below wc.heap.size wc w1) := ((Below.refl _ wc).drew).trans hb1; clear hs1 hb1)
      | (go_at_call 16; refine Calls.mono (HI.out _ g1 HS1.out HB1.out) ?_; rintro e w2 ⟨rfl, hb2⟩; have HB2 : Hid (Below wc.heap.size wc w2) := HB1.out.trans (hb2.mono HB1.out.size); clear hb2)
      | fail))
    all_goals go_wp2_with fail
    all_goals go_ret
    all_goals exact ⟨rfl, HB0.out.trans ((HBY.out.mono HB0.out.size).trans (HB2.out.mono (Nat.le_trans HB0.out.size HBY.out.size)))⟩
end Go.Proofs.Ytlemkgdbefmeeab
/- How a term that came in is opened into a forest. -/
namespace Go.Proofs.Ytlemkgdbefmeeab
open Go.ChangeShapes Go.WideShapes Go.ChangeAt Go.RowKit Go.Deep

theorem own : ownKnob Try.prog.godebug = none := by kernel_rfl
theorem laidOut : laidOutB Try.prog = true := by kernel_rfl
theorem addr_add (b off i : Nat) : (⟨b, off, none⟩ : Addr).add i = ⟨b, off + i, none⟩ := by
  unfold Addr.add
  split
  · rename_i h; subst h; rfl
  · rfl
theorem Try.cells26 : Try.prog.cellsOf 26 = 3 := by kernel_rfl
theorem Try.cells24 : Try.prog.cellsOf 24 = 1 := by kernel_rfl
theorem Try.cells9 : Try.prog.cellsOf 9 = 1 := by kernel_rfl
theorem Try.cells3 : Try.prog.cellsOf 3 = 1 := by kernel_rfl
theorem Try.bytes26 : Try.prog.bytesOf 26 = 48 := by kernel_rfl


/-- Small enough, by one of the two forms' bounds. -/
def Sz {H : Type} (d : DataW H) : Prop := (∀ m ∈ d.weights Try.prog 26, m ≤ 140737488351232) ∨ Rows.uptoBulk d ≤ 1048576
theorem weights_all {H : Type} {e : TypeId} {m : Nat} : ∀ {ds : List (DataW H)} {d : DataW H}, d ∈ ds → m ∈ d.weights Try.prog e → m ∈ DataW.weightsAll Try.prog e ds
  | d' :: r, d, hd, hm => by
    simp only [DataW.weightsAll, List.mem_append]
    rcases List.mem_cons.1 hd with rfl | h
    · exact .inl hm
    · exact .inr (weights_all h hm)
theorem bulk_all {H : Type} : ∀ {ds : List (DataW H)} {d : DataW H}, d ∈ ds → Rows.uptoBulk d ≤ Rows.uptoBulkAll ds
  | d' :: r, d, hd => by
    simp only [Rows.uptoBulkAll]
    rcases List.mem_cons.1 hd with rfl | h
    · omega
    · have := bulk_all h; omega
theorem bulk_pos {H : Type} (d : DataW H) : 1 ≤ Rows.uptoBulk d := by
  cases d with
  | lit l => cases l <;> simp [Rows.uptoBulk]
  | _ => simp [Rows.uptoBulk]
theorem bulk_len {H : Type} : ∀ ds : List (DataW H), ds.length ≤ Rows.uptoBulkAll ds
  | [] => Nat.le_refl _
  | d :: r => by
    have := bulk_len r
    have := bulk_pos d
    simp only [Rows.uptoBulkAll, List.length_cons]; omega

/-- Terms side by side make a forest. -/
theorem forest_of {H : Type} {W : World} {b : Nat} : ∀ (ds : List (DataW H × List MemPlace)) (o : Nat),
    (∀ (i : Nat) (h : i < ds.length), ∃ (p : ByteArray × Int) (a : Option Addr) (c : Nat) (l : Fo), (W.cell? ⟨b, o + i * 3, none⟩ = some (.string p.1) ∧ W.cell? ⟨b, o + i * 3 + 1, none⟩ = some (.int .i64 p.2) ∧ W.cell? ⟨b, o + i * 3 + 2, none⟩ = some (.slice a (lenF l) c)) ∧ TmAt W p a c l ∧ nodesF l + 1 ≤ Rows.uptoBulk ds[i].1) →
    ∃ F : Fo, lenF F = ds.length ∧ KidsAt W F b o ∧ nodesF F ≤ Rows.uptoBulkAll (ds.map (·.1))
  | [], o, _ => ⟨.nil, rfl, trivial, Nat.zero_le _⟩
  | d :: r, o, h => by
    obtain ⟨F, hl, hk, hn⟩ := forest_of r (o + 3) (fun i hi => by
      obtain ⟨p, a, c, l, ⟨h0, h1, h2⟩, h3, h4⟩ := h (i + 1) (by simpa using hi)
      rw [show o + (i + 1) * 3 = o + 3 + i * 3 by omega] at h0 h1 h2
      exact ⟨p, a, c, l, ⟨h0, h1, h2⟩, h3, h4⟩)
    obtain ⟨p, a, c, l, ⟨h0, h1, h2⟩, h3, h4⟩ := h 0 (by simp)
    simp only [Nat.zero_mul, Nat.add_zero, List.getElem_cons_zero] at h0 h1 h2 h4
    refine ⟨.node 0 0 p l F, by simp [lenF, hl], ⟨⟨a, c, h0, h1, h2, h3.sizes, h3.args⟩, hk⟩, ?_⟩
    simp only [nodesF, List.map_cons, Rows.uptoBulkAll]
    omega

set_option maxRecDepth 100000 in
theorem term_open {H : Type} {enc : TypeId × Value → H} {W : World} : ∀ (fuel : Nat) (cs : List Value) (x : DataW H × List MemPlace), DataW.trod enc Try.prog W 0 (fun _ => true) true fuel 26 cs = some x → Sz x.1 →
    ∃ (p : ByteArray × Int) (a : Option Addr) (c : Nat) (l : Fo), cs = [.string p.1, .int .i64 p.2, .slice a (lenF l) c] ∧ TmAt W p a c l ∧ nodesF l + 1 ≤ Rows.uptoBulk x.1 := by
  intro fuel
  induction fuel using Nat.strongRecOn with
  | _ fuel ih =>
    intro cs x h hz
    obtain ⟨xs, n, hfuel, hx, hl, hlen, hf⟩ := DataW.trod_struct Try.underlying26 h
    rw [Try.cells26] at hl
    match xs, hlen, cs, hl with
    | [y0, y1, y2], _, [v0, v1, v2], _ =>
      have g0 := hf 0 _ rfl
      have g1 := hf 1 _ rfl
      have g2 := hf 2 _ rfl
      simp [Try.cells9, Try.cells3, Try.cells24] at g0 g1 g2
      obtain ⟨s0, e0, k0, f0⟩ := DataW.trod_string Try.underlying9 g0
      obtain ⟨n1, e1, k1, _⟩ := DataW.trod_int Try.underlying3 g1
      simp at e0 e1
      subst e0 e1 hx
      rcases DataW.trod_slice Try.underlying24 g2 with ⟨hcs, h2⟩ | ⟨ad, len, c, elems, rest, n', hn', hcs, h2, _, hlc, hcm, hlen2, hel, _, _⟩
      · simp at hcs
        subst hcs
        exact ⟨(s0, n1), none, 0, .nil, rfl, ⟨⟨f0, by simp [lenF], by simp, by simp [lenF]⟩, .inl rfl⟩, by simp [nodesF, Rows.uptoBulk, Rows.uptoBulkAll]⟩
      · simp at hcs
        subst hcs
        rw [Try.cells26] at hel
        have hb2 : Rows.uptoBulkAll (elems.map (·.1)) + 1 ≤ Rows.uptoBulk (DataW.agg (List.map (·.1) [y0, y1, y2])) := by
          simp only [List.map_cons, List.map_nil, Rows.uptoBulk, Rows.uptoBulkAll, h2]; omega
        have hsub : ∀ d ∈ elems, Sz d.1 := by
          intro d hd
          rcases hz with hz | hz
          · refine .inl fun m hm => hz m ?_
            have : m ∈ DataW.weightsAll Try.prog 26 (elems.map (·.1)) := weights_all (List.mem_map_of_mem hd) hm
            simp [DataW.weights, Try.underlying26, DataW.weightsEach, h2, Try.underlying24, this]
          · refine .inr ?_
            have := bulk_all (List.mem_map_of_mem (f := (·.1)) hd)
            simp only at hz
            omega
        have hfew : len * 48 ≤ 140737488351232 := by
          rcases hz with hz | hz
          · have := hz ((elems.length + rest.length) * 48) (by simp [DataW.weights, Try.underlying26, DataW.weightsEach, h2, Try.underlying24, Try.bytes26])
            rw [hlen2] at this
            omega
          · have := bulk_len (elems.map (·.1))
            rw [List.length_map, hlen2] at this
            simp only at hz
            omega
        have each : ∀ i (hi : i < elems.length), ∃ (p : ByteArray × Int) (a : Option Addr) (c : Nat) (l : Fo), W.cells? 0 (ad.add (i * 3)) 3 = some [.string p.1, .int .i64 p.2, .slice a (lenF l) c] ∧ TmAt W p a c l ∧ nodesF l + 1 ≤ Rows.uptoBulk elems[i].1 := by
          intro i hi
          have h1 := hel i (by omega)
          rw [List.getElem?_eq_getElem hi] at h1
          cases hc : W.cells? 0 (ad.add (i * 3)) 3 with
          | none => rw [hc] at h1; cases h1
          | some cs' =>
            rw [hc] at h1
            obtain ⟨p, a, c, l, rfl, h3, h4⟩ := ih n' (by omega) cs' elems[i] h1 (hsub _ (List.getElem_mem hi))
            exact ⟨p, a, c, l, rfl, h3, h4⟩
        by_cases hz0 : len = 0
        · subst hz0
          exact ⟨(s0, n1), some ad, c, .nil, rfl, ⟨⟨f0, by simp [lenF], hcm, by simp [lenF]⟩, .inl rfl⟩, by simp only [nodesF]; omega⟩
        · obtain ⟨b, off, spot⟩ := ad
          have hspot : spot = none := by
            obtain ⟨p, a, c, l, h3, _⟩ := each 0 (by omega)
            obtain ⟨_, _, h30⟩ := World.cells?_some h3
            have := h30 0 (by omega)
            simpa [Addr.add] using World.cell?_spot this
          subst hspot
          obtain ⟨F, hFl, hFk, hFn⟩ := forest_of (W := W) (b := b) elems off (fun i hi => by
            obtain ⟨p, a, c, l, h3, h4, h5⟩ := each i hi
            rw [addr_add] at h3
            obtain ⟨_, _, h30⟩ := World.cells?_some h3
            have q0 := h30 0 (by omega)
            have q1 := h30 1 (by omega)
            have q2 := h30 2 (by omega)
            rw [addr_add] at q0 q1 q2
            exact ⟨p, a, c, l, ⟨q0, q1, q2⟩, h4, h5⟩)
          have hFl' : lenF F = len := by rw [hFl, hlen2]
          exact ⟨(s0, n1), some ⟨b, off, none⟩, c, F, by rw [hFl'], ⟨⟨f0, by omega, hcm, by rw [hFl']; exact hfew⟩, .inr ⟨b, off, rfl, hFk⟩⟩, Nat.le_trans (Nat.succ_le_succ hFn) hb2⟩

set_option maxRecDepth 100000 in
/-- A term that came in. -/
theorem termv_open {H : Type} {enc : TypeId × Value → H} {W : World} {r : Reach} {b0 : Nat} {v : Value} {d : DataW H} {ps : List MemPlace} (hv : Value.okWide Try.prog W r b0 26 v)
    (h : DataW.Trod enc Try.prog W 0 (fun _ => true) true 26 v d ps) (hz : Sz d) :
    ∃ (p : ByteArray × Int) (a : Option Addr) (c : Nat) (l : Fo), v = .agg #[.string p.1, .int .i64 p.2, .slice a (lenF l) c] ∧ TmAt W p a c l ∧ nodesF l + 1 ≤ Rows.uptoBulk d := by
  obtain ⟨cs, rfl, hsz⟩ := okWide_struct Try.underlying26 hv
  obtain ⟨c0, c1, c2, rfl⟩ := Joins.array3 (hsz.trans Try.cells26)
  obtain ⟨fuel, hf⟩ := h
  obtain ⟨p, a, c, l, hcs, h1, h2⟩ := term_open fuel _ _ hf hz
  simp [Value.cells] at hcs
  obtain ⟨rfl, rfl, rfl⟩ := hcs
  exact ⟨p, a, c, l, rfl, h1, h2⟩
/-- Within the first form's reach. -/
theorem sz_of_weights {H : Type} {ts : List TypeId} {ds : List (DataW H)} {j : Nat} {d : DataW H} (h : (DataW.weightsEach Try.prog ts ds).all (· ≤ reachBytes) = true) (ht : ts[j]? = some 26) (hd : ds[j]? = some d) : Sz d :=
  .inl fun m hm => by
    have := List.all_eq_true.1 h _ (DataW.weights_mem_each ht hd m hm)
    have e : reachBytes = 140737488351232 := rfl
    rw [e] at this
    simpa using this
end Go.Proofs.Ytlemkgdbefmeeab
/- How what a statement of layer 4 is asked about is opened: a signature, two terms, a symbol's place, a list of terms. -/
namespace Go.Proofs.Ytlemkgdbefmeeab
open Go.ChangeShapes Go.WideShapes Go.ChangeAt Go.RowKit Go.Deep

set_option maxRecDepth 100000 in
theorem list_of_each {α : Type} {p : Nat → α → Prop} : ∀ n : Nat, (∀ i, i < n → ∃ x, p i x) → ∃ l : List α, l.length = n ∧ ∀ i (h : i < l.length), p i l[i]
  | 0, _ => ⟨[], rfl, fun i h => absurd h (by simp)⟩
  | n + 1, h => by
    obtain ⟨l, hl, hp⟩ := list_of_each n (fun i hi => h i (by omega))
    obtain ⟨x, hx⟩ := h n (by omega)
    refine ⟨l ++ [x], by simp [hl], fun i hi => ?_⟩
    by_cases hin : i < l.length
    · rw [List.getElem_append_left hin]; exact hp i hin
    · have : i = n := by simp at hi; omega
      subst this
      rw [List.getElem_append_right (by omega)]
      simpa [hl] using hx

set_option maxRecDepth 100000 in
theorem Try.cells36 : Try.prog.cellsOf 36 = 4 := by kernel_rfl
set_option maxRecDepth 100000 in
theorem Try.cells34 : Try.prog.cellsOf 34 = 1 := by kernel_rfl
set_option maxRecDepth 100000 in
theorem Try.bytes36 : Try.prog.bytesOf 36 = 48 := by kernel_rfl

set_option maxRecDepth 100000 in
/-- One symbol's reading. -/
theorem sym_open {H : Type} {enc : TypeId × Value → H} {W : World} {base : Nat} {spare : Nat → Bool} {held : Bool} {fuel : Nat} {cs : List Value} {x : DataW H × List MemPlace}
    (h : DataW.trod enc Try.prog W base spare held fuel 36 cs = some x) : ∃ y : Sym, cs = [.string y.name, .int .i64 y.kind, .int .i64 y.arity, .string y.unit] ∧ y.Fits := by
  obtain ⟨y0, y1, y2, y3, n, _, hl, h0, h1, h2, h3⟩ := Joins.trod_struct4 Try.underlying36 h
  rw [Try.cells36] at hl
  simp only [Try.cells9, Try.cells34, Try.cells3] at h0 h1 h2 h3
  match cs, hl with
  | [c0, c1, c2, c3], _ =>
    obtain ⟨s0, e0, _, f0⟩ := DataW.trod_string Try.underlying9 h0
    obtain ⟨n1, e1, _, _⟩ := DataW.trod_int Try.underlying34 h1
    obtain ⟨n2, e2, _, _⟩ := DataW.trod_int Try.underlying3 h2
    obtain ⟨s3, e3, _, f3⟩ := DataW.trod_string Try.underlying9 h3
    simp at e0 e1 e2 e3
    subst e0 e1 e2 e3
    exact ⟨⟨s0, n1, n2, s3⟩, rfl, f0, f3⟩

set_option maxRecDepth 100000 in
theorem sig_open {H : Type} {enc : TypeId × Value → H} {W : World} {fuel : Nat} {v : Value} {y : DataW H × List MemPlace}
    (hf : DataW.trod enc Try.prog W 0 (fun _ => true) true fuel 23 [v] = some y) :
    ∃ a len cap l, v = .slice a len cap ∧ SigAt W a len l ∧ len ≤ cap := by
  rcases DataW.trod_slice Try.underlying23 hf with ⟨hcs, _⟩ | ⟨x, len, cap, elems, rest, n, _, hcs, hx, hb, hl, hm, hlen, hel, _, _⟩
  · simp at hcs
    subst hcs
    exact ⟨none, 0, 0, [], rfl, ⟨rfl, by simp, fun i hi => absurd hi (by simp), fun s hs => absurd hs (by simp)⟩, Nat.le_refl _⟩
  · simp at hcs
    subst hcs
    rw [Try.cells36] at hel
    have each : ∀ i, i < len → ∃ y : Sym, (∃ cs, W.cells? 0 (x.add (i * 4)) 4 = some cs ∧ cs = [.string y.name, .int .i64 y.kind, .int .i64 y.arity, .string y.unit]) ∧ y.Fits := by
      intro i hi
      have h1 := hel i hi
      rw [List.getElem?_eq_getElem (by omega)] at h1
      cases hc : W.cells? 0 (x.add (i * 4)) 4 with
      | none => rw [hc] at h1; cases h1
      | some cs =>
        rw [hc] at h1
        obtain ⟨y, hy, hyf⟩ := sym_open h1
        exact ⟨y, ⟨cs, rfl, hy⟩, hyf⟩
    obtain ⟨ll, hll, hp⟩ := list_of_each len each
    refine ⟨some x, len, cap, ll, rfl, ⟨hll.symm, by omega, fun i hi => ?_, fun y hy => ?_⟩, hl⟩
    · obtain ⟨⟨cs, h1, h2⟩, _⟩ := hp i hi
      obtain ⟨b, off, spot⟩ := x
      have hspot : spot = none := by
        obtain ⟨⟨cs0, h10, h20⟩, _⟩ := hp 0 (by omega)
        obtain ⟨_, _, h30⟩ := World.cells?_some h10
        have := h30 0 (by omega)
        rw [h20] at this
        simpa [Addr.add] using World.cell?_spot this
      subst hspot
      refine ⟨b, off, rfl, ?_⟩
      rw [addr_add] at h1
      obtain ⟨_, _, h3⟩ := World.cells?_some h1
      subst h2
      have k0 := h3 0 (by omega)
      have k1 := h3 1 (by omega)
      have k2 := h3 2 (by omega)
      have k3 := h3 3 (by omega)
      rw [addr_add] at k0 k1 k2 k3
      exact ⟨k0, k1, k2, k3⟩
    · obtain ⟨i, hi, rfl⟩ := List.getElem_of_mem hy
      exact (hp i hi).2


set_option maxRecDepth 100000 in
theorem Try.cells28 : Try.prog.cellsOf 28 = 9 := by kernel_rfl
set_option maxRecDepth 100000 in
theorem Try.cells23 : Try.prog.cellsOf 23 = 1 := by kernel_rfl
set_option maxRecDepth 100000 in
/-- A list of terms that came in. -/
theorem args_open {H : Type} {enc : TypeId × Value → H} {W : World} {fuel : Nat} {v : Value} {y : DataW H × List MemPlace} (hf : DataW.trod enc Try.prog W 0 (fun _ => true) true fuel 24 [v] = some y) (hz : Rows.uptoBulk y.1 ≤ 1048576) :
    ∃ a cap F, v = .slice a (lenF F) cap ∧ ArgsAt W a F ∧ nodesF F + 1 ≤ Rows.uptoBulk y.1 := by
  rcases DataW.trod_slice Try.underlying24 hf with ⟨hcs, h2⟩ | ⟨ad, len, c, elems, rest, n', hn', hcs, h2, _, hlc, hcm, hlen2, hel, _, _⟩
  · simp at hcs
    subst hcs
    exact ⟨none, 0, .nil, rfl, .inl rfl, bulk_pos _⟩
  · simp at hcs
    subst hcs
    rw [Try.cells26] at hel
    have hb2 : Rows.uptoBulkAll (elems.map (·.1)) + 1 ≤ Rows.uptoBulk y.1 := by
      simp only [h2, Rows.uptoBulk]; omega
    have hsub : ∀ d ∈ elems, Sz d.1 := by
      intro d hd
      refine .inr ?_
      have := bulk_all (List.mem_map_of_mem (f := (·.1)) hd)
      omega
    have each : ∀ i (hi : i < elems.length), ∃ (p : ByteArray × Int) (a : Option Addr) (c : Nat) (l : Fo), W.cells? 0 (ad.add (i * 3)) 3 = some [.string p.1, .int .i64 p.2, .slice a (lenF l) c] ∧ TmAt W p a c l ∧ nodesF l + 1 ≤ Rows.uptoBulk elems[i].1 := by
      intro i hi
      have h1 := hel i (by omega)
      rw [List.getElem?_eq_getElem hi] at h1
      cases hc : W.cells? 0 (ad.add (i * 3)) 3 with
      | none => rw [hc] at h1; cases h1
      | some cs' =>
        rw [hc] at h1
        obtain ⟨p, a, c, l, rfl, h3, h4⟩ := term_open n' cs' elems[i] h1 (hsub _ (List.getElem_mem hi))
        exact ⟨p, a, c, l, rfl, h3, h4⟩
    by_cases hz0 : len = 0
    · subst hz0
      exact ⟨some ad, c, .nil, rfl, .inl rfl, bulk_pos _⟩
    · obtain ⟨b, off, spot⟩ := ad
      have hspot : spot = none := by
        obtain ⟨p, a, c, l, h3, _⟩ := each 0 (by omega)
        obtain ⟨_, _, h30⟩ := World.cells?_some h3
        have := h30 0 (by omega)
        simpa [Addr.add] using World.cell?_spot this
      subst hspot
      obtain ⟨F, hFl, hFk, hFn⟩ := forest_of (W := W) (b := b) elems off (fun i hi => by
        obtain ⟨p, a, c, l, h3, h4, h5⟩ := each i hi
        rw [addr_add] at h3
        obtain ⟨_, _, h30⟩ := World.cells?_some h3
        have q0 := h30 0 (by omega)
        have q1 := h30 1 (by omega)
        have q2 := h30 2 (by omega)
        rw [addr_add] at q0 q1 q2
        exact ⟨p, a, c, l, ⟨q0, q1, q2⟩, h4, h5⟩)
      have hFl' : lenF F = len := by rw [hFl, hlen2]
      exact ⟨some ⟨b, off, none⟩, c, F, by rw [hFl'], .inr ⟨b, off, rfl, hFk⟩, by omega⟩
set_option maxRecDepth 100000 in
theorem two_open {H : Type} {enc : TypeId × Value → H} {W : World} {r : Reach} {b0 : Nat} {v : Value} {dd : DataW H} {ps : List MemPlace} (hv : Value.okWide Try.prog W r b0 28 v)
    (h : DataW.Trod enc Try.prog W 0 (fun _ => true) true 28 v dd ps) (hz : Rows.uptoBulk dd ≤ 1048576) :
    ∃ (S : Option Addr) (n cap : Nat) (l : List Sym) (A B : Tn) (a b : Option Addr) (c d : Nat) (f : Int) (La : Option Addr) (F : Fo) (lc : Nat), v = .agg (twoC S n cap A B a b c d f La F lc) ∧ TwoAt W S n l A B a b c d La F ∧ n ≤ cap ∧ nodesF A.2 + nodesF B.2 + nodesF F + 4 ≤ 1048576 := by
  obtain ⟨cs, rfl, hsz⟩ := okWide_struct Try.underlying28 hv
  obtain ⟨fuel, hf⟩ := h
  obtain ⟨xs, n, hfuel, hx, hl, hlen, hff⟩ := DataW.trod_struct Try.underlying28 hf
  rw [Try.cells28] at hsz
  simp only [Value.cells] at hff hl
  obtain ⟨cl⟩ := cs
  match xs, hlen, cl, hsz with
  | [y0, y1, y2, y3, y4], _, [v0, v1, v2, v3, v4, v5, v6, v7, v8], _ =>
    have g0 := hff 0 _ rfl
    have g1 := hff 1 _ rfl
    have g2 := hff 2 _ rfl
    have g3 := hff 3 _ rfl
    have g4 := hff 4 _ rfl
    simp [Try.cells23, Try.cells26, Try.cells3, Try.cells24] at g0 g1 g2 g3 g4
    have hd : Rows.uptoBulk y0.1 + Rows.uptoBulk y1.1 + Rows.uptoBulk y2.1 + Rows.uptoBulk y3.1 + Rows.uptoBulk y4.1 + 1 ≤ 1048576 := by
      have := congrArg Prod.fst hx
      simp only at this
      rw [this] at hz
      simp only [List.map_cons, List.map_nil, Rows.uptoBulk, Rows.uptoBulkAll] at hz
      omega
    obtain ⟨S, len, cap, l, rfl, hS, hcap⟩ := sig_open g0
    obtain ⟨pa, a, c, la, ea, hA, na⟩ := term_open n _ _ g1 (.inr (by omega))
    obtain ⟨pb, b, d, lb, eb, hB, nb⟩ := term_open n _ _ g2 (.inr (by omega))
    obtain ⟨f, e3, _, _⟩ := DataW.trod_int Try.underlying3 g3
    obtain ⟨La, lc, F, rfl, hF, nf⟩ := args_open g4 (by omega)
    simp at ea eb e3
    obtain ⟨rfl, rfl, rfl⟩ := ea
    obtain ⟨rfl, rfl, rfl⟩ := eb
    subst e3
    have := bulk_pos y0.1
    have := bulk_pos y3.1
    have hlF := len_nodes F
    exact ⟨S, len, cap, l, (pa, la), (pb, lb), a, b, c, d, f, La, F, lc, rfl, ⟨hS, hA, hB, hF, by omega⟩, hcap, by show nodesF la + nodesF lb + nodesF F + 4 ≤ _; omega⟩
end Go.Proofs.Ytlemkgdbefmeeab
/- Of right terms: the order's nought is to be alike in every field. -/
namespace Go.Proofs.Ytlemkgdbefmeeab
open Go.RowKit Go.Deep

theorem names_iff (a b : ByteArray) : a.toList = b.toList ↔ a = b := by
  constructor
  · intro h
    rw [ByteArray.toList_eq, ByteArray.toList_eq] at h
    exact bytes_eq h
  · rintro rfl; rfl
theorem cmpS_self {a : ByteArray} (h : noName a = false) : cmpS a a = 0 := by
  have := cmpN_anti ((a, 0), .nil) ((a, 0), .nil)
  have e : cmpN ((a, 0), .nil) ((a, 0), .nil) = cmpS a a := by unfold cmpN cmp1; rw [if_pos h, if_pos h]
  rw [e] at this
  omega
theorem right1_ex {S : Sg} {ar : Int → Nat} {x y : ByteArray × Int} {n m : Nat} {deep : Int} {ex : Bool} (hx : nodeOk S ar x n) (hy : nodeOk S ar y m) (hz : n = 0 → ex = true) (hd : n = m → (deep = 0 ↔ ex = true)) :
    cmp1 x y n m deep = 0 ↔ (((x.1.toList == y.1.toList) && (x.2 == y.2) && (n == m) && ex) = true) := by
  simp only [Bool.and_eq_true, beq_iff_eq, names_iff]
  unfold nodeOk at hx hy
  unfold cmp1
  cases e1 : noName x.1 <;> cases e2 : noName y.1 <;> simp only [e1, e2, if_true, if_false, Bool.true_eq_false] at hx hy ⊢
  · constructor
    · intro h
      exact ⟨⟨⟨bytes_eq (bytes_zero h), hx.1.trans hy.1.symm⟩, hx.2.trans hy.2.symm⟩, hz hx.2⟩
    · rintro ⟨⟨⟨h, _⟩, _⟩, _⟩
      rw [h]
      exact cmpS_self e2
  · constructor
    · intro h; omega
    · rintro ⟨⟨⟨h, _⟩, _⟩, _⟩
      rw [h, e2] at e1
      cases e1
  · constructor
    · intro h; omega
    · rintro ⟨⟨⟨h, _⟩, _⟩, _⟩
      rw [h, e2] at e1
      cases e1
  · have hn : x.1 = y.1 := (noName_eq e1).trans (noName_eq e2).symm
    by_cases h1 : x.2 = y.2
    · rw [if_pos h1]
      by_cases h2 : n = m
      · rw [if_pos h2, hd h2]
        simp [hn, h1, h2]
      · rw [if_neg h2]
        constructor
        · intro h; exact absurd (by have := compareInt_zero h; omega) h2
        · rintro ⟨⟨_, h⟩, _⟩; exact absurd h h2
    · rw [if_neg h1]
      constructor
      · intro h; exact absurd (compareInt_zero h) h1
      · rintro ⟨⟨⟨_, h⟩, _⟩, _⟩; exact absurd h h1
theorem exF_nil {F G : Fo} (h : lenF F = 0) : exF F G = true := by rw [len_nil h]; cases G <;> rfl
theorem rightF_ex {S : Sg} {ar : Int → Nat} : ∀ {F G : Fo}, RightF S ar F → RightF S ar G → lenF F = lenF G → (cmpF F G = 0 ↔ exF F G = true)
  | .nil, _, _, _, _ => by simp [cmpF, exF]
  | .node _ _ _ _ _, .nil, _, _, h => by simp [lenF] at h
  | .node _ _ x l r, .node _ _ y m s, hF, hG, h => by
    simp only [lenF, Nat.add_right_cancel_iff] at h
    obtain ⟨⟨h1, h2⟩, h3⟩ := hF
    obtain ⟨⟨k1, k2⟩, k3⟩ := hG
    have i1 := right1_ex (deep := cmpF l m) (ex := exF l m) h1 k1 (fun e => exF_nil e) (fun e => rightF_ex h2 k2 e)
    have i2 := rightF_ex h3 k3 h
    rw [cmpF, thenC, exF, Bool.and_eq_true, ← i1, ← i2]
    by_cases hz : cmp1 x y (lenF l) (lenF m) (cmpF l m) = 0
    · simp [hz]
    · simp [hz]
theorem right_ex {S : Sg} {ar : Int → Nat} {x y : Tn} (hx : RightT S ar x) (hy : RightT S ar y) : (cmpN x y == 0) = exN x.1 y.1 x.2 y.2 := by
  have := right1_ex (deep := cmpF x.2 y.2) (ex := exF x.2 y.2) hx.1 hy.1 (fun e => exF_nil e) (fun e => rightF_ex hx.2 hy.2 e)
  unfold cmpN exN
  rw [Bool.eq_iff_iff, beq_iff_eq]
  exact this
theorem is_same {l : List Sym} {t r : Tn} (h : rightB l t = true) (hr : CanR l t r) : (cmpN t r == 0) = exN (canonT (sgOf l) t).1 t.1 (canonT (sgOf l) t).2 t.2 := by
  obtain ⟨h1, h2⟩ := right_facts h
  rw [hr.2 h1 h2, ← right_ex (right_of_can (canonT_can h1 h2)) h2]
  have := cmpN_anti t (canonT (sgOf l) t)
  rw [Bool.eq_iff_iff, beq_iff_eq, beq_iff_eq]
  omega
theorem exN_self (x : Tn) : exN x.1 x.1 x.2 x.2 = true := by
  have go : ∀ F : Fo, exF F F = true := by
    intro F
    induction F with
    | nil => rfl
    | node _ _ x l r ihl ihr => simp [exF, ihl, ihr]
  unfold exN
  simp [go]
end Go.Proofs.Ytlemkgdbefmeeab
/- What the statements of layer 4 hold in their boxes. -/
namespace Go.Proofs.Ytlemkgdbefmeeab
open Go.RowKit Go.Deep

/-- What was handed in, and its box. -/
structure InSt (w : World) (cs : Array Value) (W : World) : Prop where
  low : Below w.heap.size w W
  box : WBox W w.heap.size cs
theorem InSt.below {w W W' : World} {cs : Array Value} (h : InSt w cs W) (hb : Below W.heap.size W W') : InSt w cs W' := ⟨h.low.trans (hb.mono h.low.size), h.box.below hb⟩
theorem InSt.new (w : World) (cs : Array Value) : InSt w cs (w.alloc (.cells cs 28)) := ⟨(Below.refl _ w).alloc (Nat.le_refl _) _, World.alloc_heap_new w _⟩
/-- A term that was lent, in a box. -/
structure LentAt (t : Tn) (g : Nat) (a : Option Addr) (c : Nat) (W : World) : Prop where
  box : XBox W g t.1 (.slice a (lenF t.2) c)
  own : OwnTm true (fun _ => True) W t.1 a c t.2
theorem LentAt.below {t : Tn} {g : Nat} {a : Option Addr} {c : Nat} {W W' : World} (h : LentAt t g a c W) (hb : Below W.heap.size W W') : LentAt t g a c W' := ⟨h.box.below hb, h.own.below hb⟩
theorem LentAt.new {t : Tn} {a : Option Addr} {c : Nat} {W : World} {P : Nat → Prop} (h : OwnTm true P W t.1 a c t.2) : LentAt t W.heap.size a c (W.alloc (.cells #[.string t.1.1, .int .i64 t.1.2, .slice a (lenF t.2) c] 26)) :=
  ⟨World.alloc_heap_new W _, (h.mono (fun _ _ _ => trivial)).below ((Below.refl _ _).alloc (Nat.le_refl _) _)⟩
theorem LentAt.tm {t : Tn} {g : Nat} {a : Option Addr} {c : Nat} {W : World} (h : LentAt t g a c W) : TmAt W t.1 a c t.2 := h.own.tm
theorem alloc_below (W : World) (o : Obj) : Below W.heap.size W (W.alloc o) := (Below.refl _ _).alloc (Nat.le_refl _) _

end Go.Proofs.Ytlemkgdbefmeeab
/- What all proofs of layer 4 rest on. -/
namespace Go.Proofs.Ytlemkgdbefmeeab
end Go.Proofs.Ytlemkgdbefmeeab
