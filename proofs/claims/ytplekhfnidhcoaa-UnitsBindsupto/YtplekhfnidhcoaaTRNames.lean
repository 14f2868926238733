/- What the document's names gathers. -/
import Derived.Test.YtplekhfnidhcoaaTVPlain
import Derived.Test.YtplekhfnidhcoaaTRChkB
namespace Go.Proofs.Ytplekhfnidhcoaa
open Go.RowKit Go.Deep

def namesN (x : ByteArray × Int) : List Nm := if noName x.1 then [] else [x.1.data.toList]
def namesFo : Fo → List Nm
  | .nil => []
  | .node _ _ x l r => (namesN x ++ namesFo l) ++ namesFo r
set_option maxRecDepth 100000 in
theorem namesN_len (x : ByteArray × Int) : (namesN x).length ≤ 1 := by unfold namesN; split <;> simp
set_option maxRecDepth 100000 in
theorem namesFo_len : ∀ F : Fo, (namesFo F).length ≤ nodesF F
  | .nil => Nat.le_refl _
  | .node _ _ x l r => by
    have := namesN_len x
    have := namesFo_len l
    have := namesFo_len r
    simp only [namesFo, List.length_append, nodesF]; omega

/-- Below nothing has turned, beyond no cells but rows of texts. -/
structure Nv (B : Nat) (W W' : World) : Prop where
  low : Below B W W'
  cells : ∀ (k : Nat) (cs : Array Value) (t : TypeId) (fr : Nat × Nat), W.heap[k]? = some (Obj.cells cs t fr) → t ≠ 9 → W'.heap[k]? = some (Obj.cells cs t fr)
set_option maxRecDepth 100000 in
theorem Nv.refl (B : Nat) (W : World) : Nv B W W := ⟨Below.refl _ _, fun _ _ _ _ h _ => h⟩
set_option maxRecDepth 100000 in
theorem Nv.trans {B : Nat} {X Y Z : World} (h : Nv B X Y) (k : Nv B Y Z) : Nv B X Z := ⟨h.low.trans k.low, fun i cs t fr hi ht => k.cells i cs t fr (h.cells i cs t fr hi ht) ht⟩
set_option maxRecDepth 100000 in
theorem Nv.of_below {B : Nat} {X Y : World} (h : Below X.heap.size X Y) (hB : B ≤ X.heap.size) : Nv B X Y := ⟨h.mono hB, fun k _ _ _ hk _ => (h.block k (Array.getElem?_eq_some_iff.1 hk).1).trans hk⟩
set_option maxRecDepth 100000 in
theorem Nv.grown {B : Nat} {X Y : World} {row : Option Nat} (hg : X.grownBy Y row) (hB : B ≤ X.heap.size) (hr : ∀ r, row = some r → B ≤ r ∧ ∃ cs fr, X.heap[r]? = some (Obj.cells cs 9 fr)) : Nv B X Y :=
  ⟨(Below.refl B X).grown hg hB (fun k e => (hr k e).1), fun k cs t fr hk h9 => by
    refine (hg.block k (Array.getElem?_eq_some_iff.1 hk).1 (fun e => ?_)).trans hk
    obtain ⟨_, cs', fr', h'⟩ := hr k e.symm
    rw [hk] at h'
    cases h'
    exact h9 rfl⟩
set_option maxRecDepth 100000 in
theorem Nv.append {B k : Nat} {X Y : World} {v : Value} {xs : List Value} {o : Obj} (hr : X.ownsRow B 9 1 v k xs) (hg : (X.alloc o).grownBy Y v.ownBlock) (hB : B ≤ X.heap.size) : Nv B X Y :=
  (Nv.of_below ((Below.refl _ X).alloc (Nat.le_refl _) o) hB).trans (Nv.grown hg (by simp; omega) (fun r e => by
    obtain ⟨h1, cur, h2⟩ := owns_cells (hr.alloc o) e
    exact ⟨h1, cur, _, h2⟩))
set_option maxRecDepth 100000 in
theorem TBox.nv {B0 : Nat} {W W' : World} {B : Nat} {x : ByteArray × Int} {a : Option Addr} {n c : Nat} (h : TBox W B x a n c) (hm : Nv B0 W W') : TBox W' B x a n c := hm.cells _ _ _ _ h (by decide)

def NamesOk (k : Nat) : Prop := ∀ (w0 : World) (x : ByteArray × Int) (l : Fo) (a : Option Addr) (c : Nat) (v : Value) (ss : List Nm) (w : World), nodesF l ≤ k → TmAt w0 x a c l → Below w0.heap.size w0 w → w.ownsRow w0.heap.size 9 1 v ss.length (ss.map encStr) → (ss.length + nodesF l + 2) * 16 ≤ 140737488355328 →
  Calls Try.prog 37 #[.agg #[.string x.1, .int .i64 x.2, .slice a (lenF l) c], v] w fun e w' => ∃ v', e = .returned v' ∧ w'.ownsRow w0.heap.size 9 1 v' (ss ++ (namesN x ++ namesFo l)).length ((ss ++ (namesN x ++ namesFo l)).map encStr) ∧ Nv w0.heap.size w w'

set_option maxRecDepth 100000 in
set_option maxHeartbeats 2000000 in
theorem names_all : ∀ k, NamesOk k := by
  intro k
  induction k using Nat.strongRecOn with
  | _ k ih =>
    intro w0 x l a c v ss w hk hT hlow hrow hbig
    obtain ⟨i0, hi, hz0, hz1, hz2⟩ := info_parts Try.info9
    have HT : Hid (TmAt w0 x a c l) := hT
    have IH : Hid (∀ j, j < k → NamesOk j) := ih
    have hn := len_nodes l
    have hsz := hlow.size
    have bA : ss.length + 1 ≤ maxLen := by
      have h : ss.length ≤ 8796093022208 := by clear hk; omega
      exact Nat.le_trans (Nat.succ_le_succ h) (by decide)
    have bB : (ss.length + 1) * 16 ≤ 140737488355328 := Nat.le_trans (Nat.mul_le_mul_right 16 (by omega)) hbig
    have hb0 : Below w.heap.size w (w.alloc (.cells #[.string x.1, .int .i64 x.2, .slice a (lenF l) c] 26)) := (Below.refl _ w).alloc (Nat.le_refl _) _
    have bT : Hid (TBox (w.alloc (.cells #[.string x.1, .int .i64 x.2, .slice a (lenF l) c] 26)) w.heap.size x a (lenF l) c) := TBox.new w x a (lenF l) c
    have N0 : Hid (Nv w0.heap.size w (w.alloc (.cells #[.string x.1, .int .i64 x.2, .slice a (lenF l) c] 26))) := Nv.of_below hb0 hsz
    have hrow0 : Hid ((w.alloc (.cells #[.string x.1, .int .i64 x.2, .slice a (lenF l) c] 26)).ownsRow w0.heap.size 9 1 v ss.length (ss.map encStr)) := hrow.alloc (.cells #[.string x.1, .int .i64 x.2, .slice a (lenF l) c] 26)
    have HLOW : Hid (Below w0.heap.size w0 w) := hlow
    clear hT ih hrow hb0 hlow
    cases hx : x.1.toList.isEmpty
    case' false =>
      have hN : Hid (namesN x = [x.1.data.toList]) := by show _ = _; unfold namesN noName; rw [hx]; rfl
      have hone : Hid (∀ u ∈ [Value.string x.1], u.oneCell' = true) := by intro u hu; simp at hu; subst hu; rfl
      have hnews : Hid (∀ (i : Nat) (u : Value), [Value.string x.1][i]? = some u → ((w.alloc (.cells #[.string x.1, .int .i64 x.2, .slice a (lenF l) c] 26)).alloc (.cells #[.string x.1] 9)).cell? ((⟨w.heap.size + 1, 0, none⟩ : Addr).add i) = some u) := by
        have h := World.news_of_block (heap_alloc_new (w.alloc (.cells #[.string x.1, .int .i64 x.2, .slice a (lenF l) c] 26)) (.cells #[.string x.1] 9))
        rw [World.size_alloc] at h; exact h
      go_enter Try.func37, Try.ntmps37
      go_wp2_with (at_builtin; refine wpList_append_own _ rfl _ _ 33 rfl w0.heap.size 9 i0 (.string ⟨#[]⟩) 1 16 Try.underlying33 hi hz0 hz1 hz2 rfl (by decide) v ss.length (ss.map encStr) rfl (hrow0.out.alloc _) ⟨w.heap.size + 1, 0, none⟩ 1 1 [.string x.1] rfl rfl hnews.out hone.out bA bB (by rw [World.size_alloc, World.size_alloc]; exact Nat.le_succ_of_le (Nat.le_succ_of_le hsz)) ?_; intro v' w1 hown' hgrow _; obtain ⟨g', cap', rfl⟩ := ownsRow_succ hown'; have NA : Hid (Nv w0.heap.size (w.alloc (.cells #[.string x.1, .int .i64 x.2, .slice a (lenF l) c] 26)) w1) := Nv.append hrow0.out hgrow (by rw [World.size_alloc]; exact Nat.le_succ_of_le hsz); have HO1 : Hid (w1.ownsRow w0.heap.size 9 1 (.slice (some ⟨g', 0, none⟩) (ss.length + 1) cap') (ss.length + 1) (ss.map encStr ++ [.string x.1])) := hown'; clear hown' hgrow)
      have hS1 : Hid (w1.ownsRow w0.heap.size 9 1 (.slice (some ⟨g', 0, none⟩) (ss.length + 1) cap') (ss ++ namesN x).length ((ss ++ namesN x).map encStr)) := by
        show World.ownsRow _ _ _ _ _ _ _
        rw [hN.out, List.length_append, List.map_append]
        exact HO1.out
      have hN1 : Hid (Nv w0.heap.size w w1) := N0.out.trans NA.out
      have hB1 : Hid (TBox w1 w.heap.size x a (lenF l) c) := bT.out.nv NA.out
      clear NA HO1 hN hone hnews bT N0 hrow0
    case' true =>
      have hN : Hid (namesN x = []) := by show _ = _; unfold namesN noName; rw [hx]; rfl
      have hS1 : Hid ((w.alloc (.cells #[.string x.1, .int .i64 x.2, .slice a (lenF l) c] 26)).ownsRow w0.heap.size 9 1 v (ss ++ namesN x).length ((ss ++ namesN x).map encStr)) := by rw [hN.out, List.append_nil]; exact hrow0.out
      have hN1 := N0
      have hB1 := bT
      clear hN bT N0 hrow0
      go_enter Try.func37, Try.ntmps37
      go_wp2
    all_goals
      have hlN := namesN_len x
      go_loopw [1, 5] (fun lv i wr => ∃ (j : Nat) (done : List Nm) (v2 : Value), j ≤ lenF l ∧ v2 = lv ∧ i = .int .i64 j ∧ wr.ownsRow w0.heap.size 9 1 v2 done.length (done.map encStr) ∧ Nv w0.heap.size w wr ∧ TBox wr w.heap.size x a (lenF l) c ∧ done ++ namesFo (dropF j l) = ss ++ (namesN x ++ namesFo l) ∧ done.length + nodesF (dropF j l) ≤ ss.length + 1 + nodesF l) (fun _ i _ => lenF l - (intOf i).toNat)
      case atStart => exact ⟨0, ss ++ namesN x, _, Nat.zero_le _, rfl, rfl, hS1.out, hN1.out, hB1.out, by rw [drop_zero]; simp, by rw [drop_zero, List.length_append]; omega⟩
      case round =>
        obtain ⟨j, done, v2, hj, rfl, rfl, hR, hV, hB, hD, hcnt⟩ := hrel
        have t2 := hB.c2
        have HR : Hid (wr.ownsRow w0.heap.size 9 1 v2 done.length (done.map encStr)) := hR
        have HV : Hid (Nv w0.heap.size w wr) := hV
        have HB : Hid (TBox wr w.heap.size x a (lenF l) c) := hB
        have HL : Hid (Below w0.heap.size w0 wr) := HLOW.out.trans hV.low
        clear hR hV hB hS1 hN1 hB1
        by_cases hlt : j < lenF l
        · obtain ⟨b1, o1, rfl, hk1⟩ := HT.out.args.get (by omega)
          obtain ⟨z, a1, c1, l1, kd⟩ := hk1.kid (k := j) hlt
          have kd' := kd.below HL.out
          obtain ⟨B1, O1, s1⟩ := kd.split
          rw [s1, namesFo] at hD
          rw [s1, nodesF] at hcnt
          have hz1' := namesN_len z
          have hz2' := namesFo_len l1
          have HD : Hid (done ++ ((namesN z ++ namesFo l1) ++ namesFo (dropF (j + 1) l)) = ss ++ (namesN x ++ namesFo l)) := hD
          have q0 := kd'.name; have q1 := kd'.sym; have q2 := kd'.list
          have hC := IH.out (nodesF l1) (by have := kd.less; omega) w0 z l1 a1 c1 v2 done wr (Nat.le_refl _) kd.at_ HL.out HR.out (Nat.le_trans (Nat.mul_le_mul_right 16 (by omega)) hbig)
          clear kd kd' hk1 s1 hD
          go_wp2_with fail
          refine hC.mono ?_
          rintro e w2 ⟨v3, rfl, hr3, hn3⟩
          have HR3 : Hid (w2.ownsRow w0.heap.size 9 1 v3 (done ++ (namesN z ++ namesFo l1)).length ((done ++ (namesN z ++ namesFo l1)).map encStr)) := hr3
          have HN3 : Hid (Nv w0.heap.size wr w2) := hn3
          clear hC hr3 hn3 q0 q1 q2 t2
          go_wp2
          go_roundw
          case rel => exact ⟨j + 1, _, _, by omega, rfl, by go_num, HR3.out, HV.out.trans HN3.out, HB.out.nv HN3.out, by rw [← HD.out]; simp, by simp only [List.length_append]; omega⟩
          case measure => simp [intOf]; omega
        · have e1 : j = lenF l := by omega
          rw [e1, drop_end, namesFo, List.append_nil] at hD
          subst hD
          go_wp2
          go_ret
          exact ⟨v2, rfl, HR.out, HV.out⟩
end Go.Proofs.Ytplekhfnidhcoaa
