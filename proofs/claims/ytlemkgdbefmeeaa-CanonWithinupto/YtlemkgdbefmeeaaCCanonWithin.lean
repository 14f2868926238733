/- For every signature, two terms, symbol, list of terms and number, of bulk at most 1048576, CanonWithin returns true: a right term with another argument in one place is Equal to it just if that argument is; the condition is the second form's bound. -/
import Derived.Deep.RegionHeld3
import Derived.Test.YtlemkgdbefmeeaaM7
/- The walk of CanonWithin. -/
namespace Go.Proofs.Ytlemkgdbefmeeaa
open Go.RowKit Go.Deep
theorem kids_keep {w w' : World} {g : Nat} {P : Nat → Prop} (hP : ∀ q, P q → q < w.heap.size → w'.heap[q]? = w.heap[q]?) : ∀ {F : Fo} {o : Nat}, (∀ k v, o ≤ k → w.cell? ⟨g, k, none⟩ = some v → w'.cell? ⟨g, k, none⟩ = some v) → OwnKids false P w F g o → KidsAt w' F g o
  | .nil, _, _, _ => trivial
  | .node _ _ _ l r, o, hg, ⟨⟨a, c, h0, h1, h2, hs, hl⟩, hr⟩ => ⟨⟨a, c, hg _ _ (Nat.le_refl _) h0, hg _ _ (by omega) h1, hg _ _ (by omega) h2, hs, by
      rcases hl with ⟨h, _⟩ | ⟨g', cur, ha, hp, hc, _, hk⟩
      · exact .inl h
      · exact .inr ⟨g', 0, ha, (OwnKids.keep hP (hP g' hp (Array.getElem?_eq_some_iff.1 hc).1) hk).kids⟩⟩, kids_keep hP (fun k v hk hv => hg k v (by omega) hv) hr⟩
/-- One term of a list is stored over. -/
theorem own_store {w w' : World} {g : Nat} {P : Nat → Prop} (hP : ∀ q, P q → q < w.heap.size → w'.heap[q]? = w.heap[q]?) {B : Tn} {b : Option Addr} {d : Nat} (hB : TmAt w' B.1 b d B.2) : ∀ {F : Fo} {m o : Nat}, m < lenF F → OwnKids false P w F g o →
    (∀ k v, (k < o + m * 3 ∨ o + m * 3 + 3 ≤ k) → w.cell? ⟨g, k, none⟩ = some v → w'.cell? ⟨g, k, none⟩ = some v) → w'.cell? ⟨g, o + m * 3, none⟩ = some (.string B.1.1) → w'.cell? ⟨g, o + m * 3 + 1, none⟩ = some (.int .i64 B.1.2) → w'.cell? ⟨g, o + m * 3 + 2, none⟩ = some (.slice b (lenF B.2) d) → KidsAt w' (setF m F B) g o
  | .nil, _, _, h, _, _, _, _, _ => by simp [lenF] at h
  | .node _ _ x l r, 0, o, _, ⟨_, hr⟩, hg, c0, c1, c2 => by
    simp only [Nat.zero_mul, Nat.add_zero] at hg c0 c1 c2
    exact ⟨⟨b, d, c0, c1, c2, hB.sizes, hB.args⟩, kids_keep hP (fun k v hk hv => hg k v (.inr hk) hv) hr⟩
  | .node _ _ x l r, m + 1, o, h, ⟨⟨a, c, h0, h1, h2, hs, hl⟩, hr⟩, hg, c0, c1, c2 => by
    have e : o + (m + 1) * 3 = o + 3 + m * 3 := by omega
    rw [e] at hg c0 c1 c2
    refine ⟨⟨a, c, hg _ _ (.inl (by omega)) h0, hg _ _ (.inl (by omega)) h1, hg _ _ (.inl (by omega)) h2, hs, ?_⟩, own_store hP hB (by simp only [lenF] at h; omega) hr hg c0 c1 c2⟩
    rcases hl with ⟨h, _⟩ | ⟨g', cur, ha, hp, hc, _, hk⟩
    · exact .inl h
    · exact .inr ⟨g', 0, ha, (OwnKids.keep hP (hP g' hp (Array.getElem?_eq_some_iff.1 hc).1) hk).kids⟩

def WithinWalk : Prop := ∀ (S : Option Addr) (n cap : Nat) (l : List Sym) (A B : Tn) (a b : Option Addr) (c d : Nat) (f : Int) (La : Option Addr) (F : Fo) (lc : Nat) (z : Int) (W : World), TwoAt W S n l A B a b c d La F → n ≤ cap → nodesF A.2 + nodesF B.2 + nodesF F + 4 ≤ 1048576 →
  Calls Try.prog 7 #[.agg (twoC S n cap A B a b c d f La F lc), .int .i64 z] W fun e W' => e = .returned (.bool true) ∧ Below W.heap.size W W'

set_option maxRecDepth 100000 in
set_option maxHeartbeats 8000000 in
theorem within_walk : WithinWalk := by
  intro S n cap l A B a b c d f La F lc z w hT hcap hsz
  have HT := hid hT
  have HSZ := hid hsz
  clear hT hsz
  have I0 : Hid (InSt w (twoC S n cap A B a b c d f La F lc) (w.alloc (.cells (twoC S n cap A B a b c d f La F lc) 28))) := InSt.new w _
  have HRT := hid (fun W (hW : Below w.heap.size w W) => right_any S n cap l A B a b c d f La F lc W (HT.out.below hW))
  unfold twoC at I0 HRT ⊢
  go_enter Try.func7, Try.ntmps7
  go_wp2_with fail
  refine (head_any _).mono ?_
  rintro e w1 ⟨rfl, hb1⟩
  have I1 := hid (I0.out.below hb1)
  clear I0 hb1
  have i0 := I1.out.box.c 0 rfl; have i1 := I1.out.box.c 1 rfl; have i2 := I1.out.box.c 2 rfl; have i3 := I1.out.box.c 3 rfl; have i4 := I1.out.box.c 4 rfl; have i5 := I1.out.box.c 5 rfl; have i6 := I1.out.box.c 6 rfl; have i7 := I1.out.box.c 7 rfl; have i8 := I1.out.box.c 8 rfl
  go_wp2_with fail
  refine (HRT.out w1 I1.out.low).mono ?_
  rintro e w2 ⟨rfl, hb2⟩
  have I2 := hid (I1.out.below hb2)
  clear I1 hb2 i0 i1 i2 i3 i4 i5 i6 i7 i8
  have i3 := I2.out.box.c 3 rfl
  cases hrt : (rightB l A && rightB l B && (kidsL F).all (rightB l))
  · go_wp2
    go_ret
    exact ⟨rfl, I2.out.low⟩
  · by_cases h0 : z < 0
    · go_wp2
      go_ret
      exact ⟨rfl, I2.out.low⟩
    · by_cases h1 : (lenF A.2 : Int) ≤ z
      · go_wp2
        go_ret
        exact ⟨rfl, I2.out.low⟩
      · obtain ⟨m, rfl⟩ := Int.eq_ofNat_of_zero_le (by omega : 0 ≤ z)
        have hm : m < lenF A.2 := by omega
        have i1 := I2.out.box.c 1 rfl; have i2 := I2.out.box.c 2 rfl
        have hra : rightB l A = true := by simp only [Bool.and_eq_true] at hrt; exact hrt.1.1
        have hrb : rightB l B = true := by simp only [Bool.and_eq_true] at hrt; exact hrt.1.2
        have HRA := hid hra
        have HRB := hid hrb
        clear hra hrb
        go_wp2_with fail
        refine (rclone_any A.1 A.2 a c w2 (HT.out.a.below I2.out.low)).mono ?_
        rintro e w3 ⟨a', c', rfl, hr3, hb3⟩
        rcases hr3.list with hnil | ⟨g, cur, rfl, hg, hc, hk⟩
        · rw [hnil] at hm; simp [lenF] at hm
        have hs3 := hr3.sizes
        have HGB := hid hg
        have HGC := hid ((Below.heap_alloc w3 (.cells #[.string A.1.1, .int .i64 A.1.2, .slice (some ⟨g, 0, none⟩) (lenF A.2) c'] 26) g (Array.getElem?_eq_some_iff.1 hc).1).trans hc)
        have HGL := hid (Array.getElem?_eq_some_iff.1 hc).1
        have HKD := hid (OwnKids.keep (fun q _ hq => (alloc_below w3 (.cells #[.string A.1.1, .int .i64 A.1.2, .slice (some ⟨g, 0, none⟩) (lenF A.2) c'] 26)).block q hq) (Below.heap_alloc w3 _ g (Array.getElem?_eq_some_iff.1 hc).1) hk)
        have HS3 := hid hs3
        have I3 := hid ((I2.out.below hb3).below (alloc_below w3 (.cells #[.string A.1.1, .int .i64 A.1.2, .slice (some ⟨g, 0, none⟩) (lenF A.2) c'] 26)))
        have X3 : Hid (XBox (w3.alloc (.cells #[.string A.1.1, .int .i64 A.1.2, .slice (some ⟨g, 0, none⟩) (lenF A.2) c'] 26)) w3.heap.size A.1 (.slice (some ⟨g, 0, none⟩) (lenF A.2) c')) := World.alloc_heap_new w3 _
        obtain ⟨y, a1, c1, l1, kd, _⟩ := HKD.out.kid hm
        have p0 := kd.name; have p1 := kd.sym; have p2 := kd.list
        rw [Nat.zero_add] at p0 p1 p2
        have f0 := row_frozen (i := m * 3) HGC.out; have f1 := row_frozen (i := m * 3 + 1) HGC.out; have f2 := row_frozen (i := m * 3 + 2) HGC.out
        have hS2 := hb3.size
        clear hr3 hg hc hk hs3 kd hb3 i1 i2 i3
        have i4 := I3.out.box.c 4 rfl; have i5 := I3.out.box.c 5 rfl; have i6 := I3.out.box.c 6 rfl
        have x2 := X3.out.c2
        have hnm : ((m : Nat) : Int) < (lenF A.2 : Int) := by omega
        have hcap3 := HS3.out.len
        have hcap4 := HS3.out.cap
        unfold maxLen at hcap4
        have far : ∀ q, q ≠ g → ((((w3.alloc (.cells #[.string A.1.1, .int .i64 A.1.2, .slice (some ⟨g, 0, none⟩) (lenF A.2) c'] 26)).setCell ⟨g, m * 3, none⟩ (.string B.1.1)).setCell ⟨g, m * 3 + 1, none⟩ (.int .i64 B.1.2)).setCell ⟨g, m * 3 + 2, none⟩ (.slice b (lenF B.2) d)).heap[q]? = (w3.alloc (.cells #[.string A.1.1, .int .i64 A.1.2, .slice (some ⟨g, 0, none⟩) (lenF A.2) c'] 26)).heap[q]? := fun q hq => sets_far3 hq _ _ _
        have hgw : w.heap.size < g := by
          have h1 := I2.out.low.size
          have h2 := I2.out.box
          have h3 := (Array.getElem?_eq_some_iff.1 h2).1
          have := HGB.out
          omega
        have IW : Hid (InSt w _ ((((w3.alloc (.cells #[.string A.1.1, .int .i64 A.1.2, .slice (some ⟨g, 0, none⟩) (lenF A.2) c'] 26)).setCell ⟨g, m * 3, none⟩ (.string B.1.1)).setCell ⟨g, m * 3 + 1, none⟩ (.int .i64 B.1.2)).setCell ⟨g, m * 3 + 2, none⟩ (.slice b (lenF B.2) d))) := ⟨((I3.out.low.setCell (p := ⟨g, m * 3, none⟩) (Nat.le_of_lt hgw) _).setCell (p := ⟨g, m * 3 + 1, none⟩) (Nat.le_of_lt hgw) _).setCell (p := ⟨g, m * 3 + 2, none⟩) (Nat.le_of_lt hgw) _, (far _ (by omega)).trans I3.out.box⟩
        have XW : Hid (XBox ((((w3.alloc (.cells #[.string A.1.1, .int .i64 A.1.2, .slice (some ⟨g, 0, none⟩) (lenF A.2) c'] 26)).setCell ⟨g, m * 3, none⟩ (.string B.1.1)).setCell ⟨g, m * 3 + 1, none⟩ (.int .i64 B.1.2)).setCell ⟨g, m * 3 + 2, none⟩ (.slice b (lenF B.2) d)) w3.heap.size A.1 (.slice (some ⟨g, 0, none⟩) (lenF A.2) c')) := (far _ (by have := HGL.out; omega)).trans X3.out
        have TW : Hid (TmAt ((((w3.alloc (.cells #[.string A.1.1, .int .i64 A.1.2, .slice (some ⟨g, 0, none⟩) (lenF A.2) c'] 26)).setCell ⟨g, m * 3, none⟩ (.string B.1.1)).setCell ⟨g, m * 3 + 1, none⟩ (.int .i64 B.1.2)).setCell ⟨g, m * 3 + 2, none⟩ (.slice b (lenF B.2) d)) A.1 (some ⟨g, 0, none⟩) c' (setF m A.2 B)) := by
          refine ⟨by rw [len_set]; exact HS3.out, .inr ⟨g, 0, rfl, own_store (fun q hq _ => far q hq.2) (HT.out.b.below IW.out.low) hm HKD.out (fun k v hk hv => ?_) ?_ ?_ ?_⟩⟩
          · have hne : ∀ i, (i = m * 3 ∨ i = m * 3 + 1 ∨ i = m * 3 + 2) → (⟨g, i, none⟩ : Addr) ≠ ⟨g, k, none⟩ := fun i hi e => by cases e; omega
            rw [World.cell?_setCell_other _ _ _ _ (hne _ (by omega)), World.cell?_setCell_other _ _ _ _ (hne _ (by omega)), World.cell?_setCell_other _ _ _ _ (hne _ (by omega))]
            exact hv
          · rw [Nat.zero_add, World.cell?_setCell_other _ _ _ _ (by simp), World.cell?_setCell_other _ _ _ _ (by simp)]
            exact World.cell?_setCell_same' _ _ _ (by rw [p0]; rfl)
          · rw [Nat.zero_add, World.cell?_setCell_other _ _ _ _ (by simp)]
            exact World.cell?_setCell_same' _ _ _ (by rw [World.cell?_setCell_other _ _ _ _ (by simp), p1]; rfl)
          · rw [Nat.zero_add]
            exact World.cell?_setCell_same' _ _ _ (by rw [World.cell?_setCell_other _ _ _ _ (by simp), World.cell?_setCell_other _ _ _ _ (by simp), p2]; rfl)
        clear far
        have j0 := IW.out.box.c 0 rfl; have j1 := IW.out.box.c 1 rfl; have j2 := IW.out.box.c 2 rfl; have j3 := IW.out.box.c 3 rfl
        have q0 := XW.out.c0; have q1 := XW.out.c1; have q2 := XW.out.c2
        go_wp2_with fail
        clear j0 j1 j2 j3 q0 q1 q2 p0 p1 p2 f0 f1 f2 i4 i5 i6 x2 HKD HGC X3 I3
        generalize (((w3.alloc (.cells #[.string A.1.1, .int .i64 A.1.2, .slice (some ⟨g, 0, none⟩) (lenF A.2) c'] 26)).setCell ⟨g, m * 3, none⟩ (.string B.1.1)).setCell ⟨g, m * 3 + 1, none⟩ (.int .i64 B.1.2)).setCell ⟨g, m * 3 + 2, none⟩ (.slice b (lenF B.2) d) = W4 at IW XW TW ⊢
        obtain ⟨ab, ao, ha, hka⟩ := HT.out.a.args.get (by omega)
        obtain ⟨y2, a2, c2, l2, kd2⟩ := hka.kid hm
        have hkid : (kidsL A.2)[m]? = some (y2, l2) := by
          obtain ⟨B1, O1, sp⟩ := kd2.split
          have h1 := kids_drop m A.2
          rw [sp, kidsL] at h1
          have := congrArg (·[0]?) h1
          simpa using this.symm
        have hns := nodes_set m A.2 (y2, l2) B hkid
        have hsz := HSZ.out
        have hEq := pequal_any S n cap l A (A.1, setF m A.2 B) a (some ⟨g, 0, none⟩) c c' W4 (HT.out.sig.below IW.out.low) (HT.out.a.below IW.out.low) TW.out (by omega) (by show nodesF (setF m A.2 B) ≤ _; omega)
        rw [len_set] at hEq
        refine hEq.mono ?_
        rintro e w5 ⟨r5, s5, hr5, hs5, rfl, hb5⟩
        have HR5 := hid hr5
        have HS5 := hid hs5
        have I5 := hid (IW.out.below hb5)
        have HK2 := hid (kd2.below I5.out.low)
        have HKI := hid hkid
        have hl2 : nodesF l2 ≤ 1048576 := by have := kd2.less; omega
        have hbz : nodesF B.2 ≤ 1048576 := by omega
        subst ha
        clear hr5 hs5 hb5 hEq hns hsz kd2 hka hkid XW TW
        have p0 := HK2.out.name; have p1 := HK2.out.sym; have p2 := HK2.out.list
        have j0 := I5.out.box.c 0 rfl; have j3 := I5.out.box.c 3 rfl; have j4 := I5.out.box.c 4 rfl; have j5 := I5.out.box.c 5 rfl; have j6 := I5.out.box.c 6 rfl
        have hac := HT.out.a.sizes.len
        have hac2 := HT.out.a.sizes.cap
        unfold maxLen at hac2
        have HJ0 := hid j0; have HJ3 := hid j3; have HJ4 := hid j4; have HJ5 := hid j5; have HJ6 := hid j6; have HP0 := hid p0; have HP1 := hid p1; have HP2 := hid p2
        have HE6 := hid (fun W (hW : Below w5.heap.size w5 W) => pequal_any S n cap l (y2, l2) B a2 b c2 d W (HT.out.sig.below (I5.out.low.trans (hW.mono I5.out.low.size))) (HK2.out.at_.below hW) (HT.out.b.below (I5.out.low.trans (hW.mono I5.out.low.size))) hl2 hbz)
        go_wp2_with fail
        go_region_held3 (fun w' => w'.cell? ⟨w.heap.size, 0, none⟩ = some (.slice S n cap) ∧ w'.cell? ⟨w.heap.size, 3, none⟩ = some (.slice (some ⟨ab, ao, none⟩) (lenF A.2) c) ∧ w'.cell? ⟨w.heap.size, 4, none⟩ = some (.string B.1.1) ∧ w'.cell? ⟨w.heap.size, 5, none⟩ = some (.int .i64 B.1.2) ∧ w'.cell? ⟨w.heap.size, 6, none⟩ = some (.slice b (lenF B.2) d) ∧ w'.cell? ⟨ab, ao + m * 3, none⟩ = some (.string y2.1) ∧ w'.cell? ⟨ab, ao + m * 3 + 1, none⟩ = some (.int .i64 y2.2) ∧ w'.cell? ⟨ab, ao + m * 3 + 2, none⟩ = some (.slice a2 (lenF l2) c2)) ((first
          | (go_split_ands; refine ⟨?_, ?_, ?_, ?_, ?_, ?_, ?_, ?_⟩ <;> (refine below_cell HB6.out _ _ ?_; first | assumption | exact HJ0.out | exact HJ3.out | exact HJ4.out | exact HJ5.out | exact HJ6.out | exact HP0.out | exact HP1.out | exact HP2.out))
          | go_keep | fail)) ((first
          | (go_at_call 13; refine Calls.mono (HE6.out _ ((Below.refl _ w5).drew)) ?_; rintro e w6 ⟨r6, s6, hr6, hs6, rfl, hb6⟩; have HR6 := hid hr6; have HS6 := hid hs6; have HB6 : Hid (Below w5.heap.size w5 w6) := ((Below.refl _ w5).drew).trans hb6; clear hr6 hs6 hb6)
          | fail))
        all_goals go_wp2_with fail
        all_goals go_ret
        all_goals
          have hfin : (cmpN r5 s5 == 0) = (cmpN r6 s6 == 0) := by
            obtain ⟨hOk, hRA⟩ := right_facts HRA.out
            have hRB := (right_facts HRB.out).2
            have hRK : RightT (sgOf l) (arAt l) (y2, l2) := right_kids.1 hRA.2 _ (List.mem_of_getElem? HKI.out)
            have hRX := right_set (n := m) hRA hRB
            rw [HR5.out.2 hOk hRA, HS5.out.2 hOk hRX, HR6.out.2 hOk hRK, HS6.out.2 hOk hRB, Bool.eq_iff_iff, beq_iff_eq, beq_iff_eq, same_iff hOk hRA hRX, same_iff hOk hRK hRB]
            have := within hOk hRA hRB HKI.out
            constructor
            · intro h; exact (this.1 h.symm).symm
            · intro h; exact (this.2 h.symm).symm
          exact ⟨by rw [hfin]; simp, I5.out.low.trans (HB6.out.mono I5.out.low.size)⟩
end Go.Proofs.Ytlemkgdbefmeeaa
namespace Go.Proofs.Ytlemkgdbefmeeaa
open Go.ChangeShapes Go.WideShapes Go.ChangeAt Go.RowKit Go.Deep

set_option maxRecDepth 100000 in
theorem canonWithin_contract (walk : WithinWalk) (H : Type) (enc : TypeId × Value → H) (W : World) (base : Nat) (args : Array Value) (ds gs : List (DataW H)) (before : List MemPlace)
    (hval : ∀ (j : Nat) t v, Try.f7.params[j]? = some t → args[j]? = some v → Value.okWide Try.prog W .any base t v)
    (hW : DataW.Whole enc Try.prog Try.f7.params.toList Rows.canonWithinSpec.vars false W args.toList ds gs before) (hk : Rows.uptoSmall H (ds ++ gs) = true) :
    Calls Try.prog 7 args W fun e W' => ∃ v, e = .returned v ∧ Rows.canonWithinSpec.post enc Try.prog Try.f7 false true false false W args v W' := by
  have hW' := hW
  obtain ⟨p, q, hA0, hV, rfl, hfz, hnd⟩ := hW
  have hA : DataW.TrodAll enc Try.prog W 0 (fun _ => true) true Try.f7.params.toList args.toList ds p := hA0
  rw [Try.params7] at hA hval
  obtain ⟨v0, vs0, d0, ds0, p0, q0, hargs, rfl, rfl, h0, r0⟩ := trodAll_cons hA
  obtain ⟨v1, vs1, d1, ds1, p1, q1, rfl, rfl, rfl, h1, r1⟩ := trodAll_cons r0
  obtain ⟨rfl, rfl, rfl⟩ := trodAll_nil r1
  obtain rfl : args = #[v0, v1] := by cases args; simp_all
  obtain ⟨rfl, rfl⟩ := trodVars_none hV
  have lt0 : ∀ x ∈ p0, x.block < W.heap.size := by obtain ⟨m, hm⟩ := h0; exact DataW.trod_lt m _ _ _ hm
  have lt1 : ∀ x ∈ p1, x.block < W.heap.size := by obtain ⟨m, hm⟩ := h1; exact DataW.trod_lt m _ _ _ hm
  have hbulk : Rows.uptoBulk d0 ≤ 1048576 := by
    have h : Rows.uptoBulkAll ([d0, d1] ++ []) ≤ 1048576 := of_decide_eq_true hk
    simp only [List.append_nil, Rows.uptoBulkAll] at h
    omega
  obtain ⟨S, n, cap, l, A, B, a, b, c, d, f, La, F, lc, rfl, hT, hc, hs⟩ := two_open (hval 0 28 v0 rfl rfl) h0 hbulk
  have k1 := h1
  obtain ⟨z, rfl, hd1, hp1, hwf⟩ := open_int Try.underlying3 (hval 1 3 v1 rfl rfl) h1
  clear hA0
  refine (walk S n cap l A B a b c d f La F lc z W hT hc hs).mono fun e W' ⟨he, bel⟩ => ?_
  subst he
  exact ⟨_, rfl, _, _, _, [], _, [], hW', trodAll_mk1 (shut_bool Try.underlying4 _), (trodAll_cons_mk (Below.trod laidOut (by kernel_rfl) (of_decide_eq_true (by kernel_rfl)) h0 bel lt0) (trodAll_cons_mk (Below.trod laidOut (by kernel_rfl) (of_decide_eq_true (by kernel_rfl)) k1 bel lt1) trodAll_mk0)), rfl, bel.frame _, fun h => by cases h⟩

set_option maxRecDepth 100000 in
theorem canonWithin_lifted (walk : WithinWalk) (os : Os) (started : os.Started) (H : Type) (enc : TypeId × Value → H) (F : Stop.Interp) :
    ReturnsInHanded {} Try.checked os 7 .any ((Rows.OpenSpec.upto Rows.canonWithinSpec).pre6 enc Try.prog Try.f7 Rows.canonWithinUptoRow.domain false) (((Rows.OpenSpec.upto Rows.canonWithinSpec).at F).post enc Try.prog Try.f7 false true false false) := by
  refine returnsInHanded_of_cond (C := Try.checked) (s := Rows.OpenSpec.upto Rows.canonWithinSpec) (k := Rows.uptoSmall) rfl own started (by kernel_rfl) Try.func7
    (OpenSpec.witness (enc := enc) (C := Try.checked) (s := Rows.OpenSpec.upto Rows.canonWithinSpec) (k := Rows.uptoSmall) rfl false ⟨#[], #[.agg #[.slice none 0 0, .string .empty, .int .i64 0, .slice none 0 0, .string .empty, .int .i64 0, .slice none 0 0, .int .i64 0, .slice none 0 0], .int .i64 0], []⟩ 8 (by kernel_rfl) (by kernel_rfl) (by kernel_rfl)
      (x := ([.agg [.nil, .agg [.lit (.string []), .lit (.int .i64 0), .nil], .agg [.lit (.string []), .lit (.int .i64 0), .nil], .lit (.int .i64 0), .nil], .lit (.int .i64 0)], [], [])) (by kernel_rfl) rfl (by kernel_rfl)) ?_
  intro W base args ds gs before hval hW _ hk _
  exact canonWithin_contract walk H enc W base args ds gs before hval hW hk

set_option maxRecDepth 100000 in
theorem canonWithin_of (walk : WithinWalk) : Rows.CanonWithinUptoSaid :=
  OpenClaim.holds_of_cond 7 Try.f7 rfl rfl rfl rfl rfl rfl rfl ⟨rfl, rfl, rfl, rfl, rfl⟩ rfl rfl rfl rfl rfl (by kernel_rfl) Try.func7 (by kernel_rfl)
    (of_decide_eq_true (by kernel_rfl)) (by unfold Func.isWrapper; first | (rw [if_pos (by decide +kernel)]; kernel_rfl) | (rw [if_neg (by decide +kernel)]; exact ⟨rfl, rfl⟩))
    (fun os started H enc _ F => canonWithin_lifted walk os started H enc F)
theorem canonWithin : Rows.CanonWithinUptoSaid := canonWithin_of within_walk
end Go.Proofs.Ytlemkgdbefmeeaa
