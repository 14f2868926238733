/- For every signature, two terms, symbol and list of terms, of bulk at most 1048576, CanonCancels returns true: of each AC and ACU symbol f of a right signature and right terms x, y, z, f(x, y) is Equal to f(x, z) just if y is to z; the condition is the second form's bound. -/
import Derived.Deep.RegionHeld3
import Derived.Deep.DeepCutAuto
import Derived.Test.YtlemkgdbefmeeaaM7
/- How a statement of layer 4 follows from its walk: the frame, of CanonCancels. -/
namespace Go.Proofs.Ytlemkgdbefmeeaa
open Go.ChangeShapes Go.WideShapes Go.ChangeAt Go.RowKit Go.Deep

def CancelsWalk : Prop := ∀ (S : Option Addr) (n cap : Nat) (l : List Sym) (A B : Tn) (a b : Option Addr) (c d : Nat) (f : Int) (La : Option Addr) (F : Fo) (lc : Nat) (W : World), TwoAt W S n l A B a b c d La F → n ≤ cap → nodesF A.2 + nodesF B.2 + nodesF F + 4 ≤ 1048576 →
  Calls Try.prog 8 #[.agg (twoC S n cap A B a b c d f La F lc)] W fun e W' => e = .returned (.bool true) ∧ Below W.heap.size W W'

set_option maxRecDepth 100000 in
theorem canonCancels_contract (walk : CancelsWalk) (H : Type) (enc : TypeId × Value → H) (W : World) (base : Nat) (args : Array Value) (ds gs : List (DataW H)) (before : List MemPlace)
    (hval : ∀ (j : Nat) t v, Try.f8.params[j]? = some t → args[j]? = some v → Value.okWide Try.prog W .any base t v)
    (hW : DataW.Whole enc Try.prog Try.f8.params.toList Rows.canonCancelsSpec.vars false W args.toList ds gs before) (hk : Rows.uptoSmall H (ds ++ gs) = true) :
    Calls Try.prog 8 args W fun e W' => ∃ v, e = .returned v ∧ Rows.canonCancelsSpec.post enc Try.prog Try.f8 false true false false W args v W' := by
  have hW' := hW
  obtain ⟨p, q, hA0, hV, rfl, hfz, hnd⟩ := hW
  have hA : DataW.TrodAll enc Try.prog W 0 (fun _ => true) true Try.f8.params.toList args.toList ds p := hA0
  rw [Try.params8] at hA hval
  obtain ⟨v0, vs0, d0, ds0, p0, q0, hargs, rfl, rfl, h0, r0⟩ := trodAll_cons hA
  obtain ⟨rfl, rfl, rfl⟩ := trodAll_nil r0
  obtain rfl : args = #[v0] := by cases args; simp_all
  obtain ⟨rfl, rfl⟩ := trodVars_none hV
  have lt0 : ∀ x ∈ p0, x.block < W.heap.size := by obtain ⟨m, hm⟩ := h0; exact DataW.trod_lt m _ _ _ hm
  have hbulk : Rows.uptoBulk d0 ≤ 1048576 := by
    have h : Rows.uptoBulkAll ([d0] ++ []) ≤ 1048576 := of_decide_eq_true hk
    simp only [List.append_nil, Rows.uptoBulkAll] at h
    omega
  obtain ⟨S, n, cap, l, A, B, a, b, c, d, f, La, F, lc, rfl, hT, hc, hs⟩ := two_open (hval 0 28 v0 rfl rfl) h0 hbulk
  clear hA0
  refine (walk S n cap l A B a b c d f La F lc W hT hc hs).mono fun e W' ⟨he, bel⟩ => ?_
  subst he
  exact ⟨_, rfl, _, _, _, [], _, [], hW', trodAll_mk1 (shut_bool Try.underlying4 _), (trodAll_cons_mk (Below.trod laidOut (by kernel_rfl) (of_decide_eq_true (by kernel_rfl)) h0 bel lt0) trodAll_mk0), rfl, bel.frame _, fun h => by cases h⟩

set_option maxRecDepth 100000 in
theorem canonCancels_lifted (walk : CancelsWalk) (os : Os) (started : os.Started) (H : Type) (enc : TypeId × Value → H) (F : Stop.Interp) :
    ReturnsInHanded {} Try.checked os 8 .any ((Rows.OpenSpec.upto Rows.canonCancelsSpec).pre6 enc Try.prog Try.f8 Rows.canonCancelsUptoRow.domain false) (((Rows.OpenSpec.upto Rows.canonCancelsSpec).at F).post enc Try.prog Try.f8 false true false false) := by
  refine returnsInHanded_of_cond (C := Try.checked) (s := Rows.OpenSpec.upto Rows.canonCancelsSpec) (k := Rows.uptoSmall) rfl own started (by kernel_rfl) Try.func8
    (OpenSpec.witness (enc := enc) (C := Try.checked) (s := Rows.OpenSpec.upto Rows.canonCancelsSpec) (k := Rows.uptoSmall) rfl false ⟨#[], #[.agg #[.slice none 0 0, .string .empty, .int .i64 0, .slice none 0 0, .string .empty, .int .i64 0, .slice none 0 0, .int .i64 0, .slice none 0 0]], []⟩ 8 (by kernel_rfl) (by kernel_rfl) (by kernel_rfl)
      (x := ([.agg [.nil, .agg [.lit (.string []), .lit (.int .i64 0), .nil], .agg [.lit (.string []), .lit (.int .i64 0), .nil], .lit (.int .i64 0), .nil]], [], [])) (by kernel_rfl) rfl (by kernel_rfl)) ?_
  intro W base args ds gs before hval hW _ hk _
  exact canonCancels_contract walk H enc W base args ds gs before hval hW hk

set_option maxRecDepth 100000 in
theorem canonCancels_of (walk : CancelsWalk) : Rows.CanonCancelsUptoSaid :=
  OpenClaim.holds_of_cond 8 Try.f8 rfl rfl rfl rfl rfl rfl rfl ⟨rfl, rfl, rfl, rfl, rfl⟩ rfl rfl rfl rfl rfl (by kernel_rfl) Try.func8 (by kernel_rfl)
    (of_decide_eq_true (by kernel_rfl)) (by unfold Func.isWrapper; first | (rw [if_pos (by decide +kernel)]; kernel_rfl) | (rw [if_neg (by decide +kernel)]; exact ⟨rfl, rfl⟩))
    (fun os started H enc _ F => canonCancels_lifted walk os started H enc F)
end Go.Proofs.Ytlemkgdbefmeeaa
namespace Go.Proofs.Ytlemkgdbefmeeaa
open Go.RowKit Go.Deep

theorem boxDrew {W : World} {B : Nat} {T : TypeId} {cs : Array Value} (h : Box W B T cs) : Box W.drew B T cs := h
theorem boxOver {W : World} {B : Nat} {T : TypeId} {cs : Array Value} (h : Box W B T cs) (o : Obj) : Box (W.alloc o) B T cs := h.below (alloc_below W o)
theorem boxNew {W : World} {B : Nat} {T : TypeId} {cs : Array Value} (h : B = W.heap.size) : Box (W.alloc (.cells cs T)) B T cs := by subst h; exact Box.new W T cs
theorem belowOver {w W : World} (h : Below w.heap.size w W) (o : Obj) : Below w.heap.size w (W.alloc o) := h.alloc h.size o
theorem tmDrew {W : World} {x : ByteArray × Int} {a : Option Addr} {c : Nat} {F : Fo} (h : TmAt W x a c F) : TmAt W.drew x a c F := h.below (Below.refl _ W).drew
theorem tmOver {W : World} {x : ByteArray × Int} {a : Option Addr} {c : Nat} {F : Fo} (h : TmAt W x a c F) (o : Obj) : TmAt (W.alloc o) x a c F := h.below (alloc_below W o)

set_option maxRecDepth 100000 in
set_option maxHeartbeats 8000000 in
theorem cancels_walk : CancelsWalk := by
  intro S n cap l A B a b c d f La F lc w hT hcap hsz
  have HT := hid hT
  have HSZ := hid hsz
  clear hT hsz
  have I0 : Hid (InSt w (twoC S n cap A B a b c d f La F lc) (w.alloc (.cells (twoC S n cap A B a b c d f La F lc) 28))) := InSt.new w _
  have HRT := hid (fun W (hW : Below w.heap.size w W) => right_any S n cap l A B a b c d f La F lc W (HT.out.below hW))
  unfold twoC at I0 HRT ⊢
  go_enter Try.func8, Try.ntmps8
  go_wp2_with fail
  refine (head_any _).mono ?_
  rintro e w1 ⟨rfl, hb1⟩
  have I1 := hid (I0.out.below hb1)
  clear I0 hb1
  have i0 := I1.out.box.c 0 rfl; have i1 := I1.out.box.c 1 rfl; have i2 := I1.out.box.c 2 rfl; have i3 := I1.out.box.c 3 rfl; have i4 := I1.out.box.c 4 rfl; have i5 := I1.out.box.c 5 rfl; have i6 := I1.out.box.c 6 rfl; have i7 := I1.out.box.c 7 rfl; have i8 := I1.out.box.c 8 rfl
  go_wp2_with fail
  refine (HRT.out w1 I1.out.low).mono ?_
  rintro e w2 ⟨rfl, hb2⟩
  have I2 := hid (I1.out.below hb2)
  clear I1 hb2 i0 i1 i2 i3 i4 i5 i6 i7 i8
  have i8 := I2.out.box.c 8 rfl
  cases hrt : (rightB l A && rightB l B && (kidsL F).all (rightB l))
  · go_wp2
    go_ret
    exact ⟨rfl, I2.out.low⟩
  · by_cases h0 : lenF F = 0
    · have hz : ((lenF F : Int) == 0) = true := by simp [h0]
      go_wp2
      go_ret
      exact ⟨rfl, I2.out.low⟩
    · have hz : ((lenF F : Int) == 0) = false := by simpa using h0
      have hra : rightB l A = true := by simp only [Bool.and_eq_true] at hrt; exact hrt.1.1
      have hrb : rightB l B = true := by simp only [Bool.and_eq_true] at hrt; exact hrt.1.2
      have hrl : ∀ t ∈ kidsL F, rightB l t = true := by simp only [Bool.and_eq_true] at hrt; exact List.all_eq_true.1 hrt.2
      obtain ⟨Lb, Lo, hLa, hkk⟩ := HT.out.l.get (by omega)
      obtain ⟨y, ya, yc, yl, kd⟩ := hkk.kid (k := 0) (by omega)
      have hy : (kidsL F)[0]? = some (y, yl) := by
        obtain ⟨B1, O1, sp⟩ := kd.split
        rw [drop_zero] at sp
        rw [sp]; rfl
      have hry := hrl _ (List.mem_of_getElem? hy)
      have hyn := kd.less
      have HKD0 := hid kd
      have HRA := hid hra
      have HRB := hid hrb
      have HRY := hid hry
      subst hLa
      clear hra hrb hry hrl hkk hy kd
      have j0 := I2.out.box.c 0 rfl; have j1 := I2.out.box.c 1 rfl; have j2 := I2.out.box.c 2 rfl; have j3 := I2.out.box.c 3 rfl; have j4 := I2.out.box.c 4 rfl; have j5 := I2.out.box.c 5 rfl; have j6 := I2.out.box.c 6 rfl
      go_wp2_with fail
      have hsz := HSZ.out
      refine (pequal_any S n cap l A B a b c d w2 (HT.out.sig.below I2.out.low) (HT.out.a.below I2.out.low) (HT.out.b.below I2.out.low) (by omega) (by omega)).mono ?_
      rintro e w3 ⟨r3, s3, hr3, hs3, rfl, hb3⟩
      have I3 := hid (I2.out.below hb3)
      have hsame : (cmpN r3 s3 == 0) = (cmpN (canonT (sgOf l) A) (canonT (sgOf l) B) == 0) := by
        obtain ⟨hOk, hRA⟩ := right_facts HRA.out
        rw [hr3.2 hOk hRA, hs3.2 hOk (right_facts HRB.out).2]
      rw [hsame]
      clear hr3 hs3 hb3 hsame j0 j1 j2 j3 j4 j5 j6 hsz I2
      have j0 := I3.out.box.c 0 rfl
      obtain ⟨sv, hsv⟩ : ∃ sv, (cmpN (canonT (sgOf l) A) (canonT (sgOf l) B) == 0) = sv := ⟨_, rfl⟩
      have HSV := hid hsv
      rw [hsv]
      clear hsv
      have HNL := hid HT.out.sig.len
      have hns := HT.out.sig.small
      unfold maxLen at hns
      go_wp2_with fail
      go_loopw [6] (fun i wr => ∃ k : Nat, k ≤ n ∧ i = .int .i64 k ∧ InSt w #[.slice S n cap, .string A.1.1, .int .i64 A.1.2, .slice a (lenF A.2) c, .string B.1.1, .int .i64 B.1.2, .slice b (lenF B.2) d, .int .i64 f, .slice (some ⟨Lb, Lo, none⟩) (lenF F) lc] wr) (fun i _ => n - (intOf i).toNat)
      case atStart => exact ⟨0, Nat.zero_le _, rfl, I3.out⟩
      case round =>
        obtain ⟨k, hk, rfl, hst⟩ := hrel
        have ST := hid hst
        clear hst j0
        have j0 := ST.out.box.c 0 rfl
        by_cases hlt : k < n
        · have hkl : k < l.length := by have := HNL.out; omega
          obtain ⟨sb, so, rfl, hw⟩ := HT.out.sig.cells k hkl
          have c1 := (hw.below ST.out.low).kind
          clear hw
          by_cases hkd : l[k].kind = 1
          · rw [hkd] at c1
            have hne := later_some wr
            have d0 := later_cell j0
            have d1 := later_cell c1
            clear c1 I3 HRT HT HKD0 HRA HRB HRY HSV HSZ
            go_wp2_with fail
            clear j0
            refine wp_region_later (by kernel_rfl) (by kernel_rfl) ?_
            repeat (go_big_quiet_step (fail))
            refine wpQuiet_nil ?_
            intro _ hw'
            obtain ⟨b3, hw''⟩ := hw'
            subst hw''
            clear d0 d1 hne
            go_wp2
            go_roundw
            case rel => exact ⟨k + 1, by omega, by go_num, ST.out.below b3.below⟩
            case measure => simp [intOf]; omega
          · have HKD := hid hkd
            have hkn : (l[k].kind != 1) = true := by simpa using hkd
            have j1 := ST.out.box.c 1 rfl; have j2 := ST.out.box.c 2 rfl; have j3 := ST.out.box.c 3 rfl; have j4 := ST.out.box.c 4 rfl; have j5 := ST.out.box.c 5 rfl; have j6 := ST.out.box.c 6 rfl; have j8 := ST.out.box.c 8 rfl
            have kdw := HKD0.out.below ST.out.low
            have y0 := kdw.name; have y1 := kdw.sym; have y2 := kdw.list
            rw [Nat.zero_mul, Nat.add_zero] at y0 y1 y2
            clear kdw hkd
            have hl0 : (0 : Int) < (lenF F : Int) := by omega
            have hl1 : 0 < lenF F := by omega
            have hl2 : lenF F ≠ 0 := by omega
            have Qj0 := hid j0; have Qc1 := hid c1; have Qj1 := hid j1; have Qj2 := hid j2; have Qj3 := hid j3; have Qj4 := hid j4; have Qj5 := hid j5; have Qj6 := hid j6; have Qj8 := hid j8; have Qy0 := hid y0; have Qy1 := hid y1; have Qy2 := hid y2
            have HA1 : Hid (∀ W g, Box W g 26 #[.string y.1, .int .i64 y.2, .slice ya (lenF yl) yc, .string A.1.1, .int .i64 A.1.2, .slice a (lenF A.2) c] → Below wr.heap.size wr W → Calls Try.prog 27 #[.int .i64 k, .slice (some ⟨g, 0, none⟩) 2 2] W fun e w' => ∃ a' c', e = .returned (.agg #[.string ⟨#[]⟩, .int .i64 k, .slice a' 2 c']) ∧ TmAt w' (noB, (k : Int)) a' c' (mkF [(y, yl), A]) ∧ Below wr.heap.size wr w' ∧ ∀ g2, Box W g2 26 #[.string y.1, .int .i64 y.2, .slice ya (lenF yl) yc, .string B.1.1, .int .i64 B.1.2, .slice b (lenF B.2) d] → Box w' g2 26 #[.string y.1, .int .i64 y.2, .slice ya (lenF yl) yc, .string B.1.1, .int .i64 B.1.2, .slice b (lenF B.2) d]) := fun W g hbx hW => by
              have hW' := ST.out.low.trans (hW.mono ST.out.low.size)
              refine (app_any k (some ⟨g, 0, none⟩) 2 2 [⟨y, yl, ya, yc⟩, ⟨A.1, A.2, a, c⟩] W ⟨rfl, fun q u hu => ⟨g, 0, rfl, ?_⟩⟩ (fun kv hkv => ?_) (by omega)).mono ?_
              · rw [Nat.zero_add, hbx.c q]
                have e : (kvCells [(⟨y, yl, ya, yc⟩ : Kv), ⟨A.1, A.2, a, c⟩]) = (#[.string y.1, .int .i64 y.2, .slice ya (lenF yl) yc, .string A.1.1, .int .i64 A.1.2, .slice a (lenF A.2) c] : Array Value).toList := rfl
                rw [e] at hu
                simpa using hu
              · simp only [List.mem_cons, List.not_mem_nil, or_false] at hkv
                rcases hkv with rfl | rfl
                · exact (HKD0.out.at_).below hW'
                · exact HT.out.a.below hW'
              · rintro e w' ⟨a', c', rfl, ho, hb⟩
                exact ⟨a', c', rfl, ho.tm, hW.trans (hb.mono hW.size), fun g2 h2 => h2.below hb⟩
            have HA2 : Hid (∀ W g, Box W g 26 #[.string y.1, .int .i64 y.2, .slice ya (lenF yl) yc, .string B.1.1, .int .i64 B.1.2, .slice b (lenF B.2) d] → Below wr.heap.size wr W → Calls Try.prog 27 #[.int .i64 k, .slice (some ⟨g, 0, none⟩) 2 2] W fun e w' => ∃ a' c', e = .returned (.agg #[.string ⟨#[]⟩, .int .i64 k, .slice a' 2 c']) ∧ TmAt w' (noB, (k : Int)) a' c' (mkF [(y, yl), B]) ∧ Below wr.heap.size wr w' ∧ ∀ a1 c1, TmAt W (noB, (k : Int)) a1 c1 (mkF [(y, yl), A]) → TmAt w' (noB, (k : Int)) a1 c1 (mkF [(y, yl), A])) := fun W g hbx hW => by
              have hW' := ST.out.low.trans (hW.mono ST.out.low.size)
              refine (app_any k (some ⟨g, 0, none⟩) 2 2 [⟨y, yl, ya, yc⟩, ⟨B.1, B.2, b, d⟩] W ⟨rfl, fun q u hu => ⟨g, 0, rfl, ?_⟩⟩ (fun kv hkv => ?_) (by omega)).mono ?_
              · rw [Nat.zero_add, hbx.c q]
                have e : (kvCells [(⟨y, yl, ya, yc⟩ : Kv), ⟨B.1, B.2, b, d⟩]) = (#[.string y.1, .int .i64 y.2, .slice ya (lenF yl) yc, .string B.1.1, .int .i64 B.1.2, .slice b (lenF B.2) d] : Array Value).toList := rfl
                rw [e] at hu
                simpa using hu
              · simp only [List.mem_cons, List.not_mem_nil, or_false] at hkv
                rcases hkv with rfl | rfl
                · exact (HKD0.out.at_).below hW'
                · exact HT.out.b.below hW'
              · rintro e w' ⟨a', c', rfl, ho, hb⟩
                exact ⟨a', c', rfl, ho.tm, hW.trans (hb.mono hW.size), fun a1 c1 h2 => h2.below hb⟩
            have HEQ : Hid (∀ W a1 c1 a2 c2, TmAt W (noB, (k : Int)) a1 c1 (mkF [(y, yl), A]) → TmAt W (noB, (k : Int)) a2 c2 (mkF [(y, yl), B]) → Below wr.heap.size wr W → Calls Try.prog 13 #[.slice (some ⟨sb, so, none⟩) n cap, .agg #[.string ⟨#[]⟩, .int .i64 k, .slice a1 2 c1], .agg #[.string ⟨#[]⟩, .int .i64 k, .slice a2 2 c2]] W fun e w' => e = .returned (.bool sv) ∧ Below wr.heap.size wr w') := fun W a1 c1 a2 c2 h1 h2 hW => by
              have hW' := ST.out.low.trans (hW.mono ST.out.low.size)
              have hz := HSZ.out
              have hyn' := hyn
              refine (pequal_any (some ⟨sb, so, none⟩) n cap l ((noB, (k : Int)), mkF [(y, yl), A]) ((noB, (k : Int)), mkF [(y, yl), B]) a1 a2 c1 c2 W (HT.out.sig.below hW') h1 h2 (by rw [nodes_mk]; simp only [sizes_cons, sizes_nil, sizeT]; omega) (by rw [nodes_mk]; simp only [sizes_cons, sizes_nil, sizeT]; omega)).mono ?_
              rintro e w' ⟨r, s, hr, hs, rfl, hb⟩
              obtain ⟨hOk, hRA⟩ := right_facts HRA.out
              have hRB := (right_facts HRB.out).2
              have hRY := (right_facts HRY.out).2
              have hj : (sgOf l).joins (k : Int) = true := joins_of (by have := HRA.out; unfold rightB at this; simp only [Bool.and_eq_true, beq_iff_eq] at this; exact this.1) hkl HKD.out
              have e1 := right2 hj hRY hRA
              have e2 := right2 hj hRY hRB
              rw [hr.2 hOk e1, hs.2 hOk e2, ← HSV.out]
              refine ⟨?_, hW.trans (hb.mono hW.size)⟩
              congr 2
              rw [Bool.eq_iff_iff, beq_iff_eq, beq_iff_eq]
              show cmpN (canonT (sgOf l) (appT (k : Int) [(y, yl), A])) (canonT (sgOf l) (appT (k : Int) [(y, yl), B])) = 0 ↔ _
              rw [same_iff hOk e1 e2, same_iff hOk hRA hRB]
              exact cancels hOk hj hRY hRA hRB
            clear HT HKD0 HRA HRB HRY HSV HSZ I3 HRT
            go_wp2_with fail
            go_upto_region 9 with fail
            go_cut [68] (fun v wc => v = .bool false ∧ Below wr.heap.size wr wc)
            case first =>
              go_region_held3 (fun w' => w'.cell? ⟨w.heap.size, 0, none⟩ = some (.slice (some ⟨sb, so, none⟩) n cap) ∧ w'.cell? ⟨sb, so + k * 4 + 1, none⟩ = some (.int .i64 l[k].kind) ∧ w'.cell? ⟨w.heap.size, 1, none⟩ = some (.string A.1.1) ∧ w'.cell? ⟨w.heap.size, 2, none⟩ = some (.int .i64 A.1.2) ∧ w'.cell? ⟨w.heap.size, 3, none⟩ = some (.slice a (lenF A.2) c) ∧ w'.cell? ⟨w.heap.size, 4, none⟩ = some (.string B.1.1) ∧ w'.cell? ⟨w.heap.size, 5, none⟩ = some (.int .i64 B.1.2) ∧ w'.cell? ⟨w.heap.size, 6, none⟩ = some (.slice b (lenF B.2) d) ∧ w'.cell? ⟨w.heap.size, 8, none⟩ = some (.slice (some ⟨Lb, Lo, none⟩) (lenF F) lc) ∧ w'.cell? ⟨Lb, Lo, none⟩ = some (.string y.1) ∧ w'.cell? ⟨Lb, Lo + 1, none⟩ = some (.int .i64 y.2) ∧ w'.cell? ⟨Lb, Lo + 2, none⟩ = some (.slice ya (lenF yl) yc)) ((first
                | (go_split_ands; refine ⟨?_, ?_, ?_, ?_, ?_, ?_, ?_, ?_, ?_, ?_, ?_, ?_⟩ <;> assumption)
                | (go_split_ands; refine ⟨?_, ?_, ?_, ?_, ?_, ?_, ?_, ?_, ?_, ?_, ?_, ?_⟩ <;> (refine below_cell HB3.out _ _ ?_; first | assumption | exact Qj0.out | exact Qc1.out | exact Qj1.out | exact Qj2.out | exact Qj3.out | exact Qj4.out | exact Qj5.out | exact Qj6.out | exact Qj8.out | exact Qy0.out | exact Qy1.out | exact Qy2.out))
                | (go_split_ands; refine ⟨?_, ?_, ?_, ?_, ?_, ?_, ?_, ?_, ?_, ?_, ?_, ?_⟩ <;> (refine below_cell HB2.out _ _ ?_; first | assumption | exact Qj0.out | exact Qc1.out | exact Qj1.out | exact Qj2.out | exact Qj3.out | exact Qj4.out | exact Qj5.out | exact Qj6.out | exact Qj8.out | exact Qy0.out | exact Qy1.out | exact Qy2.out))
                | (go_split_ands; refine ⟨?_, ?_, ?_, ?_, ?_, ?_, ?_, ?_, ?_, ?_, ?_, ?_⟩ <;> (refine below_cell HB1.out _ _ ?_; first | assumption | exact Qj0.out | exact Qc1.out | exact Qj1.out | exact Qj2.out | exact Qj3.out | exact Qj4.out | exact Qj5.out | exact Qj6.out | exact Qj8.out | exact Qy0.out | exact Qy1.out | exact Qy2.out))
                | (go_split_ands; refine ⟨?_, ?_, ?_, ?_, ?_, ?_, ?_, ?_, ?_, ?_, ?_, ?_⟩ <;> (with_reducible refine below_cell (HB1.out.alloc HB1.out.size _) _ _ ?_; first | assumption | exact Qj0.out | exact Qc1.out | exact Qj1.out | exact Qj2.out | exact Qj3.out | exact Qj4.out | exact Qj5.out | exact Qj6.out | exact Qj8.out | exact Qy0.out | exact Qy1.out | exact Qy2.out))
                | (go_split_ands; refine ⟨?_, ?_, ?_, ?_, ?_, ?_, ?_, ?_, ?_, ?_, ?_, ?_⟩ <;> (with_reducible refine below_cell ((Below.refl _ wr).alloc (Nat.le_refl _) _) _ _ ?_; first | assumption | exact Qj0.out | exact Qc1.out | exact Qj1.out | exact Qj2.out | exact Qj3.out | exact Qj4.out | exact Qj5.out | exact Qj6.out | exact Qj8.out | exact Qy0.out | exact Qy1.out | exact Qy2.out))
                | (go_split_ands; refine ⟨?_, ?_, ?_, ?_, ?_, ?_, ?_, ?_, ?_, ?_, ?_, ?_⟩ <;> (with_reducible refine below_cell (((Below.refl _ wr).alloc (Nat.le_refl _) _).alloc (by simp) _) _ _ ?_; first | assumption | exact Qj0.out | exact Qc1.out | exact Qj1.out | exact Qj2.out | exact Qj3.out | exact Qj4.out | exact Qj5.out | exact Qj6.out | exact Qj8.out | exact Qy0.out | exact Qy1.out | exact Qy2.out))
                | go_keep | fail)) ((first
                | (go_at_call 13; refine Calls.mono (HEQ.out _ _ _ _ _ ?_ ?_ ?_) ?_; (solve | (repeat' first | (with_reducible exact HX3.out _ _ HT1.out) | (with_reducible refine HX3.out _ _ ?_) | (with_reducible exact HT1.out) | (with_reducible refine tmDrew ?_) | (with_reducible refine tmOver ?_ _))); (solve | (repeat' first | (with_reducible exact HT2.out) | (with_reducible refine tmDrew ?_) | (with_reducible refine tmOver ?_ _))); (solve | (repeat' first | (with_reducible exact HB2.out) | with_reducible refine Below.drew ?_ | with_reducible refine belowOver ?_ _)); rintro e v3 ⟨rfl, hb3⟩; have HB3 := hid hb3; clear hb3)
                | (go_at_call 27; refine Calls.mono (HA2.out _ _ ?_ ?_) ?_; (solve | ((repeat' first | (with_reducible refine boxNew ?_; solve | rfl | simp) | with_reducible refine boxDrew ?_ | with_reducible refine boxOver ?_ _); try (with_reducible refine HX2.out _ ?_; (repeat' first | (with_reducible refine boxNew ?_; solve | rfl | simp) | with_reducible refine boxDrew ?_ | with_reducible refine boxOver ?_ _)))); (solve | (repeat' first | (with_reducible exact HB1.out) | with_reducible refine Below.drew ?_ | with_reducible refine belowOver ?_ _)); rintro e v2 ⟨a2, c2, rfl, ht2, hb2, hx2⟩; have HT2 := hid ht2; have HB2 := hid hb2; have HX3 := hid hx2; clear ht2 hb2 hx2)
                | (go_at_call 27; refine Calls.mono (HA1.out _ _ ?_ ?_) ?_; (solve | (repeat' first | (with_reducible refine boxNew ?_; solve | rfl | simp) | with_reducible refine boxDrew ?_ | with_reducible refine boxOver ?_ _)); (solve | (repeat' first | with_reducible exact Below.refl _ _ | with_reducible refine Below.drew ?_ | with_reducible refine belowOver ?_ _)); rintro e v1 ⟨a1, c1, rfl, ht1, hb1, hx1⟩; have HT1 := hid ht1; have HB1 := hid hb1; have HX2 := hid hx1; clear ht1 hb1 hx1)
                | fail))
              all_goals (go_wp2_with fail; go_meet)
              all_goals exact ⟨rfl, HB3.out⟩
            case rest =>
              obtain ⟨rfl, hbc⟩ := hcut
              have HBC := hid hbc
              clear hbc j0 c1 j1 j2 j3 j4 j5 j6 j8 y0 y1 y2 Qj0 Qc1 Qj1 Qj2 Qj3 Qj4 Qj5 Qj6 Qj8 Qy0 Qy1 Qy2 HA1 HA2 HEQ
              go_wp2
              go_roundw
              case rel => exact ⟨k + 1, by omega, by go_num, ST.out.below HBC.out⟩
              case measure => simp [intOf]; omega
        · go_wp2
          go_ret
          exact ⟨rfl, ST.out.low⟩
theorem canonCancels : Rows.CanonCancelsUptoSaid := canonCancels_of cancels_walk
end Go.Proofs.Ytlemkgdbefmeeaa
