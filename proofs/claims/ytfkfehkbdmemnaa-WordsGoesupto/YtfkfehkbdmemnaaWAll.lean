/- What All of package words hands out, to any loop. -/
import Derived.RangeFuncNested
import Derived.RangeFuncBound
import Derived.RangeFuncCalls
import Derived.RangeFuncLeaves
import Derived.Shelf.Abstract
import Derived.Shelf.RegionOpen
import Derived.OwnWalkIn
import Derived.TacticsInMore
import Derived.LoopNIn
import Derived.LoopIn
import Derived.Test.YtfkfehkbdmemnaaWNext
import Derived.Test.YtfkfehkbdmemnaaWLst
namespace Go.Proofs.Ytfkfehkbdmemnaa
open Go.RowKit Go.Shelf

attribute [local go_sem] Oper.semAt_some

/-- A word whose bytes end where numbers still reach. -/
abbrev GWd := { x : Wd // x.place + x.text.size ≤ maxLen }
/-- What a round keeps: the box of the text. -/
def KpBox (B : Nat) (s : ByteArray) (W W' : World) : Prop := Boxed W B 9 (.string s) → Boxed W' B 9 (.string s)

theorem grown_of_below {A B : World} (h : Below A.heap.size A B) : A.grownBy B none := ⟨h.os, h.tape, h.output, h.size, fun k hk _ => h.block k hk⟩
theorem boxed_below {W W' : World} {B : Nat} {t : TypeId} {v : Value} (h : Boxed W B t v) (hb : Below W.heap.size W W') : Boxed W' B t v := (hb.block B h.lt).trans h

set_option maxRecDepth 100000 in
set_option maxHeartbeats 2000000 in
theorem all1_in (n : Nat) (hn : 1 ≤ n) (l Bn : Nat) (s : ByteArray) (hs : s.size ≤ maxLen) (J Jx : List GWd → World → Prop) (W0 : Nat) (hJ : AbidesFrom W0 J)
    (hY : ∀ pre x W, J pre W → pre.length < (wordsFrom s 0).length → YieldAt Fence.wide (n - 1) Try.prog l #[.agg #[.int .i64 x.1.kind, .string x.1.text, .int .i64 x.1.place]] W fun e W' =>
      (e = .returned (.bool true) ∧ J (pre ++ [x]) W' ∧ KpBox Bn s W W') ∨ (e = .returned (.bool false) ∧ Jx (pre ++ [x]) W'))
    (W : World) (hBn : Boxed W Bn 9 (.string s)) (h0 : J [] W) :
    CallsIn Fence.wide n Try.prog 24 #[.func (.yield l) #[] #[], .pointer (some ⟨Bn, 0, none⟩)] W fun e W' => (∃ v, e = .returned v) ∧
      ((∃ ys, ys.map (·.1) = wordsFrom s 0 ∧ J ys W') ∨ (∃ pre, pre.map (·.1) <+: wordsFrom s 0 ∧ Jx pre W')) := by
  refine callsIn_of_wp Try.func24 rfl trivial ?_ rfl
  simp only [Try.ntmps24, List.size_toArray, List.length_cons, List.length_nil, Nat.reduceAdd, Nat.reduceSub, Array.replicate_succ, Array.replicate_zero, List.push_toArray, List.append_toArray, List.nil_append, List.cons_append]
  gi_wp2
  gi_loopw [3] (fun p wr => ∃ (pre : List GWd) (k : Nat), p = .int .i64 k ∧ k ≤ s.size ∧ wordsFrom s 0 = pre.map (·.1) ++ wordsFrom s k ∧ J pre wr ∧ Boxed wr Bn 9 (.string s))
    (fun p _ => s.size - (intOf p).toNat)
  case atStart =>
    exact ⟨[], 0, rfl, Nat.zero_le _, rfl, h0, hBn⟩
  case round =>
    obtain ⟨pre, k, rfl, hk, hw, hj, hbx⟩ := hrel
    have hc := hbx.cell
    have h1 : 1 ≤ n := hn
    cases hst : nxStop (nx s k)
    · obtain ⟨hwd, herr⟩ := nx_word hst
      have hgo := words_go hk hst
      have hto := hwd.le
      have hgt := hwd.gt
      have hfr := hwd.from'
      have hsz := hwd.size
      have hk0 := hwd.kind0
      have HN : ∀ w, CallsIn Fence.wide (n - 1) Try.prog 9 #[.string s, .int .i64 k] w fun e w' => e = .returned (Nx.val (nx s k)) ∧ Below w.heap.size w w' := fun w => callsIn_wide.2 (next_any s k w hs hk)
      clear hwd hst
      rcases hnx : nx s k with ⟨⟨kd, tx, pl⟩, to, er⟩
      rw [hnx] at herr hgo hto hgt hfr hsz hk0 HN
      simp only at herr hgo hto hgt hfr hsz hk0
      subst herr
      have HN' : Hid (∀ w, CallsIn Fence.wide (n - 1) Try.prog 9 #[.string s, .int .i64 k] w fun e w' => e = .returned (.tuple #[.agg #[.int .i64 kd, .string tx, .int .i64 pl], .int .i64 to, .int .i64 0]) ∧ Below w.heap.size w w') := HN
      clear HN hnx
      have hgood : pl + tx.size ≤ maxLen := by omega
      have hkt : k < to := by omega
      have hlen : Hid (pre.length < (wordsFrom s 0).length) := by show _ < _; rw [hw, hgo]; simp
      have hkb : (kd == 0) = false := by simpa using hk0
      have hJa : Hid (∀ w1, Below wr.heap.size wr w1 → J pre (w1.alloc (.cells #[.int .i64 kd, .string tx, .int .i64 pl] 26))) := fun w1 hb1 =>
        hJ pre w1 _ none (hJ pre wr w1 none hj (grown_of_below hb1) (fun _ e => by cases e)) (World.grownBy_alloc w1 _ none) (fun _ e => by cases e)
      have hWK : Hid (wordsFrom s 0 = (pre ++ [⟨⟨kd, tx, pl⟩, hgood⟩] : List GWd).map (·.1) ++ wordsFrom s to) := by
        show _ = _; rw [hw, hgo]; simp
      have hBX : Hid (Boxed wr Bn 9 (.string s)) := hbx
      clear hw hgo hj hbx hJ hfr hsz hk0
      gi_wp2_with fail
      refine ⟨trivial, ?_⟩
      refine (HN'.out _).mono ?_
      rintro e w1 ⟨rfl, hb1⟩
      obtain ⟨fn, tmps, assign, body, hy, hR⟩ := hY pre ⟨⟨kd, tx, pl⟩, hgood⟩ _ (hJa.out w1 hb1) hlen.out
      dsimp only at hy
      gi_wp2
      refine hR.mono ?_
      have hB2 : Hid (Boxed (w1.alloc (.cells #[.int .i64 kd, .string tx, .int .i64 pl] 26)) Bn 9 (.string s)) := (boxed_below hBX.out hb1).alloc _
      rintro e W3 (⟨rfl, hJ3, hk3⟩ | ⟨rfl, hJx3⟩)
      · gi_wp2
        go_roundw
        case rel => exact ⟨pre ++ [⟨⟨kd, tx, pl⟩, hgood⟩], to, rfl, hto, hWK.out, hJ3, hk3 hB2.out⟩
        case measure => simp [intOf]; omega
      · gi_wp2
        refine bodyPost_ret (results_none rfl _ _ _) rfl ?_
        exact ⟨⟨_, rfl⟩, .inr ⟨pre ++ [⟨⟨kd, tx, pl⟩, hgood⟩], ⟨wordsFrom s to, hWK.out.symm⟩, hJx3⟩⟩
    · have hwd := nx_stop hst
      have hend := words_stop hk hst
      have HN : ∀ w, CallsIn Fence.wide (n - 1) Try.prog 9 #[.string s, .int .i64 k] w fun e w' => e = .returned (Nx.val (nx s k)) ∧ Below w.heap.size w w' := fun w => callsIn_wide.2 (next_any s k w hs hk)
      rcases hnx : nx s k with ⟨wd, to, er⟩
      rw [hnx] at hwd HN
      simp only at hwd
      subst hwd
      have HN' : Hid (∀ w, CallsIn Fence.wide (n - 1) Try.prog 9 #[.string s, .int .i64 k] w fun e w' => e = .returned (.tuple #[.agg #[.int .i64 0, .string ⟨#[]⟩, .int .i64 0], .int .i64 to, .int .i64 er]) ∧ Below w.heap.size w w') := HN
      clear HN hnx hst
      have hJa : Hid (∀ w1, Below wr.heap.size wr w1 → J pre (w1.alloc (.cells #[.int .i64 0, .string ⟨#[]⟩, .int .i64 0] 26))) := fun w1 hb1 =>
        hJ pre w1 _ none (hJ pre wr w1 none hj (grown_of_below hb1) (fun _ e => by cases e)) (World.grownBy_alloc w1 _ none) (fun _ e => by cases e)
      have hWK : Hid (pre.map (·.1) = wordsFrom s 0) := by
        show _ = _; rw [hw, hend]; simp
      clear hw hend hj hbx hJ hY
      cases her : (er != 0)
      · gi_wp2_with fail
        refine ⟨trivial, ?_⟩
        refine (HN'.out _).mono ?_
        rintro e w1 ⟨rfl, hb1⟩
        gi_wp2
        refine ⟨fun _ h => (by cases h), ?_⟩
        gi_wp2
        refine bodyPost_ret (results_none rfl _ _ _) rfl ?_
        exact ⟨⟨_, rfl⟩, .inl ⟨pre, hWK.out, hJa.out w1 hb1⟩⟩
      · gi_wp2_with fail
        refine ⟨trivial, ?_⟩
        refine (HN'.out _).mono ?_
        rintro e w1 ⟨rfl, hb1⟩
        gi_wp2
        refine ⟨fun _ h => (by cases h), ?_⟩
        gi_wp2
        refine bodyPost_ret (results_none rfl _ _ _) rfl ?_
        exact ⟨⟨_, rfl⟩, .inl ⟨pre, hWK.out, hJa.out w1 hb1⟩⟩

/-- All hands back a value that goes through the words: all of them, or those up to the one at which a round said no more. -/
theorem all_stops (n : Nat) (hn : 1 ≤ n) (Bn : Nat) (s : ByteArray) (hs : s.size ≤ maxLen) (w : World) (hBn : Boxed w Bn 9 (.string s)) :
    SeqStopsK Fence.wide n Try.prog 24 #[.pointer (some ⟨Bn, 0, none⟩)] (fun x : GWd => #[.agg #[.int .i64 x.1.kind, .string x.1.text, .int .i64 x.1.place]]) (KpBox Bn s) (fun ys => ys.map (·.1) = wordsFrom s 0) (fun pre => pre.map (·.1) <+: wordsFrom s 0) (wordsFrom s 0).length w := fun l J Jx W hW hJ _ hY h0 =>
  all1_in n hn l Bn s hs J Jx W.heap.size hJ hY W (boxed_below hBn hW) h0

set_option maxHeartbeats 1000000 in
theorem all_any (s : ByteArray) (w : World) : Calls Try.prog 15 #[.string s] w fun e w' => e = .returned (.func (.func 24) #[] #[.pointer (some ⟨w.heap.size, 0, none⟩)]) ∧ w' = w.alloc (.cells #[.string s] 9) := by
  go_enter Try.func15, Try.ntmps15
  go_wp2
  go_ret
  exact ⟨rfl, rfl⟩
theorem kpBox_t {B : Nat} {s : ByteArray} {X Y Z : World} (h : KpBox B s X Y) (k : KpBox B s Y Z) : KpBox B s X Z := fun hb => k (h hb)
theorem kpBox_b {B : Nat} {s : ByteArray} (W : World) (l : Nat) (o o' : Obj) (h : W.heap[l]? = some o) (hc : o.isCells = false) : KpBox B s W (W.putObj l o') := fun hb =>
  hb.kept (grownBy_putObj' W l o') (fun e => by
    cases e
    rw [show W.heap[B]? = _ from hb] at h
    cases h; cases hc)
end Go.Proofs.Ytfkfehkbdmemnaa
