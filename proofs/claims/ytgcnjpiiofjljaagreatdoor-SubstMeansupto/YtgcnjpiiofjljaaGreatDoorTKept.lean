/- What Kept answers of a lent term that reads as it did. -/
import Derived.Test.YtgcnjpiiofjljaaGreatDoorTLent
import Derived.Test.YtgcnjpiiofjljaaGreatDoorLater
namespace Go.Proofs.YtgcnjpiiofjljaaGreatDoor
open Go.RowKit Go.Deep

set_option maxRecDepth 100000 in
theorem OwnKids.drop {mk : Bool} {P : Nat → Prop} {w : World} : ∀ (i : Nat) {F : Fo} {b o : Nat}, OwnKids mk P w F b o → OwnKids mk P w (dropF i F) b (o + i * 3)
  | 0, F, b, o, h => by rw [drop_zero]; simpa using h
  | i + 1, .nil, b, o, _ => by simp [dropF, OwnKids]
  | i + 1, .node _ _ _ _ r, b, o, ⟨_, hr⟩ => by
    have := OwnKids.drop i hr
    rw [show o + 3 + i * 3 = o + (i + 1) * 3 by omega] at this
    exact this
set_option maxRecDepth 100000 in
theorem OwnKids.kid {mk : Bool} {P : Nat → Prop} {w : World} {F : Fo} {b o k : Nat} (h : OwnKids mk P w F b o) (hk : k < lenF F) : ∃ x a c l, Kid w F b o k x a c l ∧ OwnTm mk P w x a c l := by
  obtain ⟨B, O, x, l, r, hd⟩ := drop_node k F hk
  have h1 := h.drop k
  have h2 := nodes_drop k F
  rw [hd] at h1 h2
  obtain ⟨⟨a, c, h3, h4, h5, h6, h7⟩, _⟩ := h1
  have ho : OwnTm mk P w x a c l := ⟨h6, h7⟩
  exact ⟨x, a, c, l, ⟨h3, h4, h5, ho.tm, ⟨B, O, by rw [drop_succ k F hd]; exact hd⟩, by simp only [nodesF] at h2; omega⟩, ho⟩
set_option maxRecDepth 100000 in
theorem kid_same {w w' : World} {F : Fo} {b o b' o' k : Nat} {x y : ByteArray × Int} {a a' : Option Addr} {c c' : Nat} {l m : Fo} (h : Kid w F b o k x a c l) (h' : Kid w' F b' o' k y a' c' m) : y = x ∧ m = l := by
  obtain ⟨_, _, e⟩ := h.split
  obtain ⟨_, _, e'⟩ := h'.split
  rw [e] at e'
  cases e'
  exact ⟨rfl, rfl⟩

/-- The two boxes of a function of two terms. -/
structure Pair (w : World) (x : ByteArray × Int) (a : Option Addr) (n c : Nat) (y : ByteArray × Int) (b : Option Addr) (m d : Nat) (W : World) : Prop where
  low : Below w.heap.size w W
  l : TBox W w.heap.size x a n c
  r : TBox W (w.heap.size + 1) y b m d
set_option maxRecDepth 100000 in
theorem Pair.new (w : World) (x : ByteArray × Int) (a : Option Addr) (n c : Nat) (y : ByteArray × Int) (b : Option Addr) (m d : Nat) : Pair w x a n c y b m d ((w.alloc (.cells #[.string x.1, .int .i64 x.2, .slice a n c] 27)).alloc (.cells #[.string y.1, .int .i64 y.2, .slice b m d] 27)) := by
  refine ⟨((Below.refl _ w).alloc (Nat.le_refl _) _).alloc (by simp) _, (TBox.new w x a n c).below ((Below.refl _ _).alloc (Nat.le_refl _) _), ?_⟩
  have := TBox.new (w.alloc (.cells #[.string x.1, .int .i64 x.2, .slice a n c] 27)) y b m d
  rw [World.size_alloc] at this
  exact this
set_option maxRecDepth 100000 in
theorem Pair.below {w : World} {x : ByteArray × Int} {a : Option Addr} {n c : Nat} {y : ByteArray × Int} {b : Option Addr} {m d : Nat} {W W' : World} (h : Pair w x a n c y b m d W) (hb : Below W.heap.size W W') : Pair w x a n c y b m d W' :=
  ⟨h.low.trans (hb.mono h.low.size), h.l.below hb, h.r.below hb⟩

def KeptOk (k : Nat) : Prop := ∀ (P : Nat → Prop) (x : ByteArray × Int) (l : Fo) (a b : Option Addr) (c d : Nat) (w : World), nodesF l ≤ k → OwnTm true P w x a c l → TmAt w x b d l →
  Calls Tryz.prog 25 #[.agg #[.string x.1, .int .i64 x.2, .slice a (lenF l) c], .agg #[.string x.1, .int .i64 x.2, .slice b (lenF l) d]] w fun e w' => e = .returned (.bool true) ∧ Below w.heap.size w w'

set_option maxRecDepth 100000 in
set_option maxHeartbeats 2000000 in
theorem kept_all : ∀ k, KeptOk k := by
  intro k
  induction k using Nat.strongRecOn with
  | _ k ih =>
    intro P x l a b c d w hk hO hT
    have HO : Hid (OwnTm true P w x a c l) := hO
    have HT : Hid (TmAt w x b d l) := hT
    have IH : Hid (∀ j, j < k → KeptOk j) := ih
    rcases hO.list with ⟨_, h⟩ | ⟨g, cur, rfl, _, _, hm, hok⟩
    · cases h
    obtain ⟨hcap, hmark⟩ := hm rfl
    have hcm := hO.sizes.cap
    have HK : Hid (OwnKids true P w l g 0) := hok
    have PA : Hid (Pair w x (some ⟨g, 0, none⟩) (lenF l) c x b (lenF l) d ((w.alloc (.cells #[.string x.1, .int .i64 x.2, .slice (some ⟨g, 0, none⟩) (lenF l) c] 27)).alloc (.cells #[.string x.1, .int .i64 x.2, .slice b (lenF l) d] 27))) := Pair.new _ _ _ _ _ _ _ _ _
    have mk2 := below_cell PA.out.low _ _ hmark
    have hmax : maxLen = 9223372036854775807 := rfl
    unfold markB at mk2
    clear hO hT ih hok hm hmark
    go_enter Tryz.func25, Tryz.ntmps25
    go_wp2
    go_loopw [6, 7] (fun i _ wr => ∃ j : Nat, j ≤ lenF l ∧ i = .int .i64 j ∧ Pair w x (some ⟨g, 0, none⟩) (lenF l) c x b (lenF l) d wr) (fun i _ _ => lenF l - (intOf i).toNat)
    case atStart => exact ⟨0, Nat.zero_le _, rfl, PA.out⟩
    case round =>
      obtain ⟨j, hj, rfl, hP⟩ := hrel
      have t2 := hP.r.c2
      by_cases hlt : j < lenF l
      · obtain ⟨bb, oo, rfl, hkk⟩ := HT.out.args.get (by omega)
        obtain ⟨y, a1, c1, l1, kd, ko⟩ := HK.out.kid (k := j) hlt
        obtain ⟨y', a2, c2, l2, kd2⟩ := hkk.kid (k := j) hlt
        obtain ⟨rfl, rfl⟩ := kid_same kd kd2
        have KO : Hid (OwnTm true P wr y' a1 c1 l2) := ko.below hP.low
        have K2 : Hid (TmAt wr y' a2 c2 l2) := kd2.at_.below hP.low
        have kd' := kd.below hP.low
        have kd2' := kd2.below hP.low
        have n0 := kd'.name; have n1 := kd'.sym; have n2 := kd'.list
        simp only [Nat.zero_add] at n0 n1 n2
        have HP : Hid (Pair w x (some ⟨g, 0, none⟩) (lenF l) c x (some ⟨bb, oo, none⟩) (lenF l) d wr) := hP
        have hC : Hid (∀ w', Below wr.heap.size wr w' → Calls Tryz.prog 25 #[.agg #[.string y'.1, .int .i64 y'.2, .slice a1 (lenF l2) c1], .agg #[.string y'.1, .int .i64 y'.2, .slice a2 (lenF l2) c2]] w' fun e w'' => e = .returned (.bool true) ∧ Below w'.heap.size w' w'') := fun w' hb =>
          IH.out (nodesF l2) (by have := kd.less; omega) P y' l2 a1 a2 c1 c2 w' (Nat.le_refl _) (KO.out.below hb) (K2.out.below hb)
        have hne := later_some wr
        have d0 := later_cell hP.l.c2
        have d1 := later_cell hP.r.c2
        have p0 := later_cell n0; have p1 := later_cell n1; have p2 := later_cell n2
        have q0 := later_cell kd2'.name; have q1 := later_cell kd2'.sym; have q2 := later_cell kd2'.list
        have hk0 : (0 : Int) ≤ (j : Int) := by omega
        have hkn : (j : Int) < (lenF l : Int) := by omega
        clear kd kd2 kd' kd2' ko hkk hP n0 n1 n2
        go_wp2_with fail
        refine wp_region_later (by kernel_rfl) (by kernel_rfl) ?_
        repeat (go_big_quiet_step ((refine calls_later (hC.out _ ?_); exact Later.below _)))
        refine wpQuiet_nil ?_
        intro _ hw'
        obtain ⟨b2, hw''⟩ := hw'
        subst hw''
        have HP2 : Hid (Pair w x (some ⟨g, 0, none⟩) (lenF l) c x (some ⟨bb, oo, none⟩) (lenF l) d b2.now) := HP.out.below b2.below
        clear d0 d1 p0 p1 p2 q0 q1 q2 t2
        go_wp2
        go_roundw
        case rel => exact ⟨j + 1, by omega, by go_num, HP2.out⟩
        case measure => simp [intOf]; omega
      · go_wp2
        go_ret
        exact ⟨rfl, hP.low⟩

set_option maxRecDepth 100000 in
theorem kept_any (P : Nat → Prop) (x : ByteArray × Int) (l : Fo) (a b : Option Addr) (c d : Nat) (w : World) (hO : OwnTm true P w x a c l) (hT : TmAt w x b d l) :
    Calls Tryz.prog 25 #[.agg #[.string x.1, .int .i64 x.2, .slice a (lenF l) c], .agg #[.string x.1, .int .i64 x.2, .slice b (lenF l) d]] w fun e w' => e = .returned (.bool true) ∧ Below w.heap.size w w' :=
  kept_all _ P x l a b c d w (Nat.le_refl _) hO hT
end Go.Proofs.YtgcnjpiiofjljaaGreatDoor
