import Derived.Test.YtokbgbbkopmngaaGreatDvQ
import Derived.Test.YtokbgbbkopmngaaGreatTPath
import Derived.Test.YtokbgbbkopmngaaGreatDvM
import Derived.Maps.AppendAt
import Derived.Test.YtokbgbbkopmngaaGreatRows
import Derived.Test.YtokbgbbkopmngaaGreatTMem
import Derived.Lib.SmallJoins
import Derived.SizedLaws
import Derived.ProofKit
import Derived.OpenShut
import Derived.ShutString
import Derived.ChangeOld
import Derived.SliceStrings
import Derived.ChangeMaps5
import Derived.JoinedCond
import Derived.Test.YtokbgbbkopmngaaGreatDvR
import Derived.Test.YtokbgbbkopmngaaGreatTClone
import Derived.Test.YtokbgbbkopmngaaGreatTRChkB
import Derived.Test.YtokbgbbkopmngaaGreatTSpoil
import Derived.Test.YtokbgbbkopmngaaGreatKDvF
import Derived.Test.YtokbgbbkopmngaaGreatKDvO1
import Derived.Test.YtokbgbbkopmngaaGreatKDvO3
import Derived.Test.YtokbgbbkopmngaaGreatKRSorted
/- A step's term is right where its own was: its nodes by their names and symbols. -/
namespace Go.Proofs.YtokbgbbkopmngaaGreat
open Go.RowKit Go.Deep

/-! ### what holds of all nodes' names and symbols -/
def LabF (P : ByteArray × Int → Prop) : Fo → Prop
  | .nil => True
  | .node _ _ x l r => (P x ∧ LabF P l) ∧ LabF P r
def LabT (P : ByteArray × Int → Prop) (t : Tn) : Prop := P t.1 ∧ LabF P t.2
theorem lab_kids {P : ByteArray × Int → Prop} : ∀ {F : Fo}, LabF P F ↔ ∀ k ∈ kidsL F, LabT P k
  | .nil => by simp [LabF, kidsL]
  | .node b o x l r => by
    simp only [LabF, kidsL, List.mem_cons, forall_eq_or_imp]
    rw [lab_kids (F := r)]
    exact Iff.rfl
theorem lab_mk {P : ByteArray × Int → Prop} {l : List Tn} (h : ∀ k ∈ l, LabT P k) : LabF P (mkF l) := lab_kids.2 (by rw [kids_mk]; exact h)
theorem lab_sub {P : ByteArray × Int → Prop} : ∀ (ps : List Int) {t x : Tn}, LabT P t → subT ps t = some x → LabT P x
  | [], t, x, h, e => by simp only [subT, Option.some.injEq] at e; subst e; exact h
  | i :: ps, t, x, h, e => by
    simp only [subT] at e
    cases hk : kidT i t.2 with
    | none => rw [hk] at e; cases e
    | some k => rw [hk] at e; exact lab_sub ps (lab_kids.1 h.2 k (kidT_mem hk)) e
theorem lab_set {P : ByteArray × Int → Prop} : ∀ (n : Nat) {F : Fo} {t : Tn}, LabF P F → LabT P t → LabF P (setF n F t)
  | n, .nil, _, _, _ => by cases n <;> exact trivial
  | 0, .node b o x l r, t, h, ht => ⟨⟨ht.1, ht.2⟩, h.2⟩
  | n + 1, .node b o x l r, t, h, ht => ⟨h.1, lab_set n (F := r) h.2 ht⟩
theorem lab_put {P : ByteArray × Int → Prop} {u : Tn} (hu : LabT P u) : ∀ (ps : List Int) {t y : Tn}, LabT P t → putT u ps t = some y → LabT P y
  | [], t, y, h, e => by simp only [putT, Option.some.injEq] at e; subst e; exact hu
  | i :: ps, t, y, h, e => by
    simp only [putT] at e
    cases hk : kidT i t.2 with
    | none => rw [hk] at e; cases e
    | some k =>
      rw [hk] at e
      simp only at e
      cases hp : putT u ps k with
      | none => rw [hp] at e; cases e
      | some k' =>
        rw [hp] at e
        simp only [Option.some.injEq] at e
        subst e
        exact ⟨h.1, lab_set _ h.2 (lab_put hu ps (lab_kids.1 h.2 k (kidT_mem hk)) hp)⟩
theorem lab_lay {P : ByteArray × Int → Prop} {ks xs : List Tn} {i m : Nat} (h1 : ∀ k ∈ ks, LabT P k) (h2 : ∀ k ∈ xs, LabT P k) : LabF P (mkF (layL ks i m xs)) := lab_mk (fun k hk => by
  rcases lay_mem hk with h | h
  · exact h1 k h
  · exact h2 k h)
theorem stepN_lab {S : Sg} {P : ByteArray × Int → Prop} (hU : ∀ f u, S.unit f = some u → P (noB, u) ∧ P (noB, f)) {t t' : Tn} {p q : Sp} (ht : LabT P t) (h : stepN S t p = some (t', q)) : LabT P t' := by
  have hk := lab_kids.1 ht.2
  unfold stepN at h
  split at h
  · unfold growN at h
    cases hu : S.unit p.sym with
    | none => rw [hu] at h; cases h
    | some u =>
      rw [hu] at h
      simp only at h
      have hc : ∀ k ∈ [constT u], LabT P k := fun k hk => by rw [List.mem_singleton] at hk; subst hk; exact ⟨(hU _ _ hu).1, trivial⟩
      split at h
      · split at h
        · obtain ⟨rfl, rfl⟩ := Prod.mk.inj (Option.some.inj h)
          exact ⟨(hU _ _ hu).2, lab_lay (fun k hk => by rw [List.mem_singleton] at hk; subst hk; exact ht) hc⟩
        · cases h
      · split at h
        · split at h
          · obtain ⟨rfl, rfl⟩ := Prod.mk.inj (Option.some.inj h)
            exact ⟨ht.1, lab_lay hk hc⟩
          · cases h
        · cases h
  · split at h
    · rename_i hg
      have hno : t.1.1 = noB := by
        have := hg.1
        unfold gathN at this
        rw [Bool.and_eq_true] at this
        exact noName_eq this.1
      split at h
      · unfold flatN at h
        cases hy : (kidsL t.2)[p.at_.toNat]? with
        | none => rw [hy] at h; cases h
        | some y =>
          rw [hy] at h
          simp only at h
          split at h
          · obtain ⟨rfl, rfl⟩ := Prod.mk.inj (Option.some.inj h)
            exact ⟨ht.1, lab_lay hk (lab_kids.1 (hk y (List.mem_of_getElem? hy)).2)⟩
          · cases h
      · split at h
        · unfold groupN at h
          split at h
          · obtain ⟨rfl, rfl⟩ := Prod.mk.inj (Option.some.inj h)
            refine ⟨ht.1, lab_lay hk (fun k hk2 => ?_)⟩
            rw [List.mem_singleton] at hk2
            subst hk2
            refine ⟨?_, lab_mk (fun z hz => hk z (List.mem_of_mem_drop (List.mem_of_mem_take hz)))⟩
            have := ht.1
            rw [← hno]
            exact this
          · cases h
        · split at h
          · unfold swapN at h
            cases hy : (kidsL t.2)[p.at_.toNat]? with
            | none => rw [hy] at h; cases h
            | some y =>
              cases hz : (kidsL t.2)[p.at_.toNat + 1]? with
              | none => rw [hy, hz] at h; cases h
              | some z =>
                rw [hy, hz] at h
                obtain ⟨rfl, rfl⟩ := Prod.mk.inj (Option.some.inj h)
                refine ⟨ht.1, lab_lay hk (fun k hk2 => ?_)⟩
                simp only [List.mem_cons, List.not_mem_nil, or_false] at hk2
                rcases hk2 with rfl | rfl
                · exact hk _ (List.mem_of_getElem? hz)
                · exact hk _ (List.mem_of_getElem? hy)
          · split at h
            · split at h
              · unfold dropN at h
                cases hy : (kidsL t.2)[p.at_.toNat]? with
                | none => rw [hy] at h; cases h
                | some y =>
                  rw [hy] at h
                  simp only at h
                  split at h
                  · split at h
                    · cases hz : (kidsL t.2)[1 - p.at_.toNat]? with
                      | none => rw [hz] at h; cases h
                      | some z =>
                        rw [hz] at h
                        obtain ⟨rfl, rfl⟩ := Prod.mk.inj (Option.some.inj h)
                        exact hk _ (List.mem_of_getElem? hz)
                    · obtain ⟨rfl, rfl⟩ := Prod.mk.inj (Option.some.inj h)
                      exact ⟨ht.1, lab_lay hk (fun k hk => by cases hk)⟩
                  · cases h
              · cases h
            · cases h
    · cases h
theorem stepT_lab {S : Sg} {P : ByteArray × Int → Prop} (hU : ∀ f u, S.unit f = some u → P (noB, u) ∧ P (noB, f)) {t t' : Tn} {ps : List Int} {p q : Sp} (ht : LabT P t) (h : stepT S t ps p = some (t', q)) : LabT P t' := by
  obtain ⟨n, n', h1, h2, h3⟩ := stepT_some h
  exact lab_put (stepN_lab hU (lab_sub ps ht h1) h2) ps ht h3

/-! ### names and symbols of a signature -/
/-- A node's name and symbol, whatever its arguments are. -/
def labOk (l : List Sym) (x : ByteArray × Int) : Prop := if noName x.1 = false then ∀ n : Nat, x.2 = 0 → n = 0 → nodeErr l x n = 0 else (symAt l x.2).isSome = true
theorem then_of {a b : Int} (h1 : a = 0) (h2 : b = 0) : thenC a b = 0 := by subst h1 h2; rfl
theorem lab_of_err {l : List Sym} {x : ByteArray × Int} {n : Nat} (h : nodeErr l x n = 0) : labOk l x := by
  unfold labOk
  split
  · rename_i hx
    intro m h1 h2
    unfold nodeErr at h ⊢
    rw [if_pos hx] at h ⊢
    unfold varErr at h ⊢
    split at h
    · rename_i h3
      rw [if_pos ⟨h3.1, h1, h2⟩]
    · omega
  · rename_i hx
    unfold nodeErr at h
    rw [if_neg hx] at h
    split at h
    · rename_i h0
      split at h
      · rename_i s hs
        unfold symAt
        rw [if_pos h0, hs]; rfl
      · omega
    · omega
theorem err_of_lab {l : List Sym} (hc : checkE l = 0) {x : ByteArray × Int} {n : Nat} (h : labOk l x) (hn : nodeOk (sgOf l) (arAt l) x n) : nodeErr l x n = 0 := by
  unfold labOk at h
  unfold nodeOk at hn
  split at h
  · rename_i hx
    rw [if_pos hx] at hn
    exact h n hn.1 hn.2
  · rename_i hx
    rw [if_neg hx] at hn
    unfold nodeErr
    rw [if_neg hx]
    unfold symAt at h
    split at h
    · rename_i h0
      rw [if_pos h0]
      cases hs : l[x.2.toNat]? with
      | none => rw [hs] at h; cases h
      | some s =>
        simp only
        have hs' : symAt l x.2 = some s := by unfold symAt; rw [if_pos h0]; exact hs
        obtain ⟨hlt, hsk⟩ := List.getElem?_eq_some_iff.1 hs
        have hkb := (symErr_zero (right_each hc hlt)).2.1
        have hab := (symErr_zero (right_each hc hlt)).2.2.1
        rw [hsk] at hkb hab
        have hn' : if joinsAt l x.2 = true then 2 ≤ n else n = arAt l x.2 := hn
        unfold joinsAt arAt at hn'
        rw [hs'] at hn'
        dsimp only at hn'
        unfold kindB at hkb
        unfold arityB at hab
        have ht : takesB s n = true := by
          unfold takesB
          by_cases h1 : s.kind = 1
          · rw [if_pos h1] at hab ⊢
            rw [if_neg (by simp [h1])] at hn'
            simp only [beq_iff_eq]
            simp at hab
            omega
          · rw [if_neg h1]
            rw [if_pos (by simpa [h1] using hkb)] at hn'
            simpa using hn'
        rw [if_pos ht]
    · cases h
theorem labF_of_err {l : List Sym} : ∀ {F : Fo}, errF l F = 0 → LabF (labOk l) F
  | .nil, _ => trivial
  | .node _ _ x m r, he => by
    rw [errF] at he
    obtain ⟨h1, h2⟩ := then_zero he
    obtain ⟨h3, h4⟩ := then_zero h1
    exact ⟨⟨lab_of_err h3, labF_of_err h4⟩, labF_of_err h2⟩
theorem errF_of_lab {l : List Sym} (hc : checkE l = 0) : ∀ {F : Fo}, LabF (labOk l) F → RightF (sgOf l) (arAt l) F → errF l F = 0
  | .nil, _, _ => rfl
  | .node _ _ x m r, h, hr => by
    rw [errF]
    exact then_of (then_of (err_of_lab hc h.1.1 hr.1.1) (errF_of_lab hc h.1.2 hr.1.2)) (errF_of_lab hc h.2 hr.2)
theorem right_lab {l : List Sym} {t : Tn} (h : rightB l t = true) : checkE l = 0 ∧ LabT (labOk l) t := by
  unfold rightB at h
  simp only [Bool.and_eq_true, beq_iff_eq] at h
  have he := h.2
  unfold errT at he
  obtain ⟨h3, h4⟩ := then_zero he
  exact ⟨h.1, lab_of_err h3, labF_of_err h4⟩
theorem right_of {l : List Sym} {t : Tn} (hc : checkE l = 0) (h : LabT (labOk l) t) (hr : RightT (sgOf l) (arAt l) t) : rightB l t = true := by
  unfold rightB
  simp only [Bool.and_eq_true, beq_iff_eq]
  refine ⟨hc, ?_⟩
  unfold errT
  exact then_of (err_of_lab hc h.1 hr.1) (errF_of_lab hc h.2 hr.2)
theorem noB_lab {l : List Sym} {f : Int} (h : (symAt l f).isSome = true) : labOk l (noB, f) := by
  unfold labOk
  rw [if_neg (by rw [noName_noB]; simp)]
  exact h
theorem unit_lab {l : List Sym} (hc : checkE l = 0) : ∀ f u, (sgOf l).unit f = some u → labOk l (noB, u) ∧ labOk l (noB, f) := by
  intro f u hu
  simp only [sgOf, Option.map_eq_some_iff] at hu
  obtain ⟨i, hi, rfl⟩ := hu
  obtain ⟨hlt, _⟩ := unit_facts hc hi
  refine ⟨noB_lab (by rw [symAt_in hlt]; rfl), noB_lab ?_⟩
  unfold unitAt at hi
  split at hi
  · rename_i hf
    have : symAt l f = some l[f.toNat] := by unfold symAt; rw [if_pos hf.1, List.getElem?_eq_getElem hf.2]
    rw [this]; rfl
  · cases hi
theorem unit_joins {l : List Sym} : ∀ f u, (sgOf l).unit f = some u → (sgOf l).joins f = true := by
  intro f u hu
  simp only [sgOf, Option.map_eq_some_iff] at hu ⊢
  obtain ⟨i, hi, rfl⟩ := hu
  unfold unitAt at hi
  split at hi
  · rename_i hf
    split at hi
    · rename_i hk
      unfold joinsAt
      have : symAt l f = some l[f.toNat] := by unfold symAt; rw [if_pos hf.1, List.getElem?_eq_getElem hf.2]
      rw [this]
      simp [hk]
    · cases hi
  · cases hi
/-- A step of a right term leads to a right one, equal to it, and back of it leads back. -/
theorem step_sound {l : List Sym} {t t' : Tn} {ps : List Int} {p q : Sp} (ht : rightB l t = true) (hc : Cln t.2) (h : stepT (sgOf l) t ps p = some (t', q)) :
    rightB l t' = true ∧ Cln t'.2 ∧ canonT (sgOf l) t' = canonT (sgOf l) t ∧ ∃ q', stepT (sgOf l) t' ps q = some (t, q') := by
  obtain ⟨hOk, hR⟩ := right_facts ht
  obtain ⟨hE, hL⟩ := right_lab ht
  obtain ⟨r1, r2, r3, r4⟩ := stepT_ok hOk unit_joins hR hc h
  exact ⟨right_of hE (stepT_lab (unit_lab hE) hL h) r1, r2, r3, r4⟩
end Go.Proofs.YtokbgbbkopmngaaGreat
/- A place: do, by the deed 75. -/
namespace Go.Proofs.YtokbgbbkopmngaaGreat
open Go.RowKit Go.Deep

set_option maxRecDepth 100000 in
set_option maxHeartbeats 8000000 in
theorem do_75 (S : Option Addr) (n cap b o : Nat) (L : List Sym) (A : Bl) (t : Tn) (a : Option Addr) (c : Nat) (ks : List Kv) (cur : Array Value) (p : Sp) (pa : Option Addr) (pn pc : Nat) (w : World)
    (hS : SigAt w S n L) (hP : Pl w b o A t.1 a c ks cur) (hks : ks.map Kv.tn = kidsL t.2) (hn : nodesF t.2 ≤ 1048576) (hK : deedK p.kind = 81) :
    Calls Tryz.prog 38 #[placeV S n cap b o (unitI L t.1.2) (unitOk L t.1.2), stepV p pa pn pc] w (DeedEnd w b o A cur (stepN (sgOf L) t p)) := by
  have hkl := kv_len hks
  obtain ⟨u, hu⟩ : ∃ u, unitI L t.1.2 = u := ⟨_, rfl⟩
  obtain ⟨h, hh⟩ : ∃ h, unitOk L t.1.2 = h := ⟨_, rfl⟩
  obtain ⟨W0, hW0⟩ : ∃ W0, ((w.alloc (.cells #[.slice S n cap, .pointer (some ⟨b, o, none⟩), .int .i64 u, .bool h] 76)).alloc (.cells (stepC p pa pn pc) 47)).alloc (.cells (stepC zSp none 0 0) 47) = W0 := ⟨_, rfl⟩
  have hT : Tri w #[.slice S n cap, .pointer (some ⟨b, o, none⟩), .int .i64 u, .bool h] (stepC p pa pn pc) W0 := by rw [← hW0]; exact Tri.new _ _ _
  have hsz : W0.heap.size = w.heap.size + 3 := by rw [← hW0]; simp
  have hP0 := hP.below hT.low
  have hTk := takes_any S n cap b o u h L t.1 a ks.length c p pa pn pc W0 (hS.below hT.low) hP0.nd
  obtain ⟨tk, htk⟩ : ∃ tk, takesN L t.1 ks.length h p = tk := ⟨_, rfl⟩
  rw [htk] at hTk
  rw [hkl, ← hh] at htk
  rw [hu, hh]
  obtain ⟨r, hr⟩ : ∃ r, stepN (sgOf L) t p = r := ⟨_, rfl⟩
  rw [hr]
  have d0 := hT.l.v (k := 0) rfl; have d1 := hT.l.v (k := 1) rfl; have d2 := hT.l.v (k := 2) rfl; have d3 := hT.l.v (k := 3) rfl
  have s0 := hT.r.v (k := 0) rfl; have s1 := hT.r.v (k := 1) rfl; have s2 := hT.r.v (k := 2) rfl; have s3 := hT.r.v (k := 3) rfl; have s4 := hT.r.v (k := 4) rfl
  have HDeed : Hid (∀ W, Below w.heap.size w W → takesN L t.1 (lenF t.2) (unitOk L t.1.2) p = true → Calls Tryz.prog (deedK p.kind) #[placeV S n cap b o u h, stepV p pa pn pc] W (DeedEnd W b o (fun q => A q ∧ q < w.heap.size) cur r)) := fun W hb htr => by
    have := deed_any S n cap b o L (fun q => A q ∧ q < w.heap.size) t a c ks cur p pa pn pc W (hS.below hb) (hP.within.below hb) hks hn htr
    rw [hu, hh, hr] at this
    exact this
  have HTKf : Hid (tk = false → r = none) := fun e => by rw [← hr]; exact stepN_takes (htk.trans e)
  have HTKt : Hid (tk = true → takesN L t.1 (lenF t.2) (unitOk L t.1.2) p = true) := fun e => htk.trans e
  have HSZ := hid hsz; have HT := hid hT; have HBL : Hid (b < w.heap.size) := hP.lt
  clear hT hP hP0 hsz hkl hks hn hS htk hr hu hh
  go_enter Tryz.func38, Tryz.ntmps38
  go_wp2_with fail
  clear hW0
  refine hTk.mono ?_
  rintro e w1 ⟨rfl, hb1⟩
  have hsz0 := HSZ.out
  have hbw : Below w.heap.size w w1 := HT.out.low.trans (hb1.mono (by omega))
  have hws : w.heap.size + 3 ≤ w1.heap.size := by have := hb1.size; omega
  have hl1 := HT.out.l.below hb1; have hr1 := HT.out.r.below hb1; have hz1 := HT.out.z.below hb1
  have z0 := hz1.v (k := 0) rfl; have z1 := hz1.v (k := 1) rfl; have z2 := hz1.v (k := 2) rfl; have z3 := hz1.v (k := 3) rfl; have z4 := hz1.v (k := 4) rfl
  have f0 := hz1.f 0; have f1 := hz1.f 1; have f2 := hz1.f 2; have f3 := hz1.f 3; have f4 := hz1.f 4
  have HZ1 := hid hz1; have HBW := hid hbw; have HWS := hid hws
  cases tk
  · clear hTk hl1 hr1 hz1 hbw hws hb1 hsz0 d0 d1 d2 d3 s0 s1 s2 s3 s4 HDeed
    go_wp2
    refine ret_step rfl rfl (sets5_box HZ1.out _ _ _ _ _) rfl rfl ?_
    exact DeedEnd.not (HTKf.out (by first | rfl | trivial)) (sets5_below HBW.out (by omega) _ _ _ _ _)
  · clear z0 z1 z2 z3 z4 f0 f1 f2 f3 f4 d0 d1 d2 d3 s0 s1 s2 s3 s4 hTk
    have d0 := hl1.v (k := 0) rfl; have d1 := hl1.v (k := 1) rfl; have d2 := hl1.v (k := 2) rfl; have d3 := hl1.v (k := 3) rfl
    have s0 := hr1.v (k := 0) rfl; have s1 := hr1.v (k := 1) rfl; have s2 := hr1.v (k := 2) rfl; have s3 := hr1.v (k := 3) rfl; have s4 := hr1.v (k := 4) rfl
    have HOf : Hid (Calls Tryz.prog 57 #[placeV S n cap b o u h, .int .i64 p.kind] w1.drew fun e w2 => e = .returned (.func (.func (deedK p.kind)) #[placeV S n cap b o u h] #[]) ∧ DoS S n cap b o u h p pa pn pc w.heap.size w2 ∧ Hid (Calls Tryz.prog (deedK p.kind) #[placeV S n cap b o u h, stepV p pa pn pc] w2 fun e w3 => e = .returned (.tuple #[stepV (ansSp r) none 0 0, .bool (ansOk r)]) ∧ Hid (Box w3 (w.heap.size + 2) 47 (stepC zSp none 0 0)) ∧ Hid (∀ w4 : World, Below 0 w3 w4 → (∀ q, q ≠ w.heap.size + 2 → w4.heap[q]? = w3.heap[q]?) → DeedEnd w b o A cur r (.returned (.tuple #[stepV (ansSp r) none 0 0, .bool (ansOk r)])) w4))) := by
      refine Calls.mono (deedOf_any S n cap b o u h p.kind w1.drew) ?_
      rintro e w2 ⟨he, hb2⟩
      have hb2' : Below w1.heap.size w1 w2 := (Below.refl _ w1).drew.trans hb2
      have hl2 := hl1.below hb2'
      have hr2 := hr1.below hb2'
      have hz2 := hz1.below hb2'
      have hbw2 : Below w.heap.size w w2 := hbw.trans (hb2'.mono hbw.size)
      have hs2 := hb2'.size
      refine ⟨he, DoS.of hl2 hr2, ?_⟩
      refine Calls.mono (HDeed.out w2 hbw2 (HTKt.out rfl)) ?_
      intro e w3 hE
      have hL := hE.lift hbw2 (B := w.heap.size + 2) (by omega) (by omega) HBL.out
      exact ⟨hE.ret, hL.1.trans hz2, hL.2⟩
    clear hl1 hr1 hz1 hbw hws hb1 hsz0 HDeed
    rw [hK] at HOf
    clear hK
    go_wp2_with fail
    go_region_with (first | (go_at_call 57; refine HOf.out.mono ?_; rintro e w2 ⟨rfl, ⟨_, _, _, _, g0, g1, g2, g3, g4⟩, HDD⟩) | (go_at_call 81; refine HDD.out.mono ?_; rintro e w3 ⟨rfl, HZ3, HE3⟩; have z0 := HZ3.out.v (k := 0) rfl; have z1 := HZ3.out.v (k := 1) rfl; have z2 := HZ3.out.v (k := 2) rfl; have z3 := HZ3.out.v (k := 3) rfl; have z4 := HZ3.out.v (k := 4) rfl; have f0 := HZ3.out.f 0; have f1 := HZ3.out.f 1; have f2 := HZ3.out.f 2; have f3 := HZ3.out.f 3; have f4 := HZ3.out.f 4) | fail)
    all_goals
      go_wp2
      refine ret_step rfl rfl (sets5_box HZ3.out _ _ _ _ _) rfl rfl ?_
      exact HE3.out _ (sets5_below (Below.refl 0 w3) (Nat.zero_le _) _ _ _ _ _) (fun q hq => sets5_far hq _ _ _ _ _)
end Go.Proofs.YtokbgbbkopmngaaGreat
/- A place: do, whatever the step. -/
namespace Go.Proofs.YtokbgbbkopmngaaGreat
open Go.RowKit Go.Deep

theorem do_any (S : Option Addr) (n cap b o : Nat) (L : List Sym) (A : Bl) (t : Tn) (a : Option Addr) (c : Nat) (ks : List Kv) (cur : Array Value) (p : Sp) (pa : Option Addr) (pn pc : Nat) (w : World)
    (hS : SigAt w S n L) (hP : Pl w b o A t.1 a c ks cur) (hks : ks.map Kv.tn = kidsL t.2) (hn : nodesF t.2 ≤ 1048576) :
    Calls Tryz.prog 38 #[placeV S n cap b o (unitI L t.1.2) (unitOk L t.1.2), stepV p pa pn pc] w (DeedEnd w b o A cur (stepN (sgOf L) t p)) := by
  by_cases h1 : p.kind = 1
  · exact do_71 S n cap b o L A t a c ks cur p pa pn pc w hS hP hks hn (by unfold deedK; rw [if_pos h1])
  · by_cases h2 : p.kind = 2
    · exact do_72 S n cap b o L A t a c ks cur p pa pn pc w hS hP hks hn (by unfold deedK; rw [if_neg h1, if_pos h2])
    · by_cases h3 : p.kind = 3
      · exact do_73 S n cap b o L A t a c ks cur p pa pn pc w hS hP hks hn (by unfold deedK; rw [if_neg h1, if_neg h2, if_pos h3])
      · by_cases h4 : p.kind = 4
        · exact do_74 S n cap b o L A t a c ks cur p pa pn pc w hS hP hks hn (by unfold deedK; rw [if_neg h1, if_neg h2, if_neg h3, if_pos h4])
        · exact do_75 S n cap b o L A t a c ks cur p pa pn pc w hS hP hks hn (by unfold deedK; rw [if_neg h1, if_neg h2, if_neg h3, if_neg h4])
end Go.Proofs.YtokbgbbkopmngaaGreat
/- A place: doWithin: where a path leads to. -/
namespace Go.Proofs.YtokbgbbkopmngaaGreat
open Go.RowKit Go.Deep

/-- A node within a term, and how a change of it changes the term. -/
structure Foc (w : World) (b0 o0 : Nat) (A0 : Bl) (cur0 : Array Value) (t0 : Tn) (ps : List Int) (b o : Nat) (A : Bl) (t : Tn) (a : Option Addr) (c : Nat) (ks : List Kv) (cur : Array Value) : Prop where
  at_ : Pl w b o A t.1 a c ks cur
  kids : ks.map Kv.tn = kidsL t.2
  sub : subT ps t0 = some t
  nodes : nodesF t.2 ≤ nodesF t0.2
  low : ∀ q, A q → q < w.heap.size
  back : ∀ (w1 w' : World) (t' : Tn) (A' : Bl) (a' : Option Addr) (c' : Nat) (ks' : List Kv), Below w.heap.size w w1 → ks'.map Kv.tn = kidsL t'.2 → Upd w1 w' b o A cur A' t'.1 a' c' ks' → ∃ y A0' a0 c0 ks0, putT t' ps t0 = some y ∧ ks0.map Kv.tn = kidsL y.2 ∧ Upd w1 w' b0 o0 A0 cur0 A0' y.1 a0 c0 ks0
theorem Foc.start {w : World} {b o : Nat} {A : Bl} {t : Tn} {a : Option Addr} {c : Nat} {ks : List Kv} {cur : Array Value} (hP : Pl w b o A t.1 a c ks cur) (hks : ks.map Kv.tn = kidsL t.2) (hl : ∀ q, A q → q < w.heap.size) : Foc w b o A cur t [] b o A t a c ks cur :=
  ⟨hP, hks, rfl, Nat.le_refl _, hl, fun _ _ t' A' a' c' ks' _ hk hU => ⟨t', A', a', c', ks', rfl, hk, hU⟩⟩
theorem sub_snoc (ps : List Int) (i : Int) (t0 t : Tn) (h : subT ps t0 = some t) : subT (ps ++ [i]) t0 = kidT i t.2 := by
  rw [sub_append, h]
  show (match kidT i t.2 with | none => none | some k => some k) = kidT i t.2
  cases kidT i t.2 <;> rfl
theorem put_snoc (u : Tn) (ps : List Int) (i : Int) (t0 t k : Tn) (h : subT ps t0 = some t) (hk : kidT i t.2 = some k) : putT u (ps ++ [i]) t0 = putT (t.1, setF i.toNat t.2 u) ps t0 := by
  rw [put_append u ps [i] t0 t h]
  simp only [putT, hk]
  rfl
theorem kids_setL : ∀ (n : Nat) (F : Fo) (t : Tn), kidsL (setF n F t) = (kidsL F).set n t := kids_setF
/-- One step down. -/
theorem Foc.down {w : World} {b0 o0 : Nat} {A0 : Bl} {cur0 : Array Value} {t0 : Tn} {ps : List Int} {b o : Nat} {A : Bl} {t : Tn} {g c : Nat} {ks : List Kv} {cur : Array Value} (h : Foc w b0 o0 A0 cur0 t0 ps b o A t (some ⟨g, 0, none⟩) c ks cur) {i : Nat} {y : Kv} (hy : ks[i]? = some y) :
    ∃ (A1 : Bl) (cu : Array Value) (vs : List Kv), Foc w b0 o0 A0 cur0 t0 (ps ++ [(i : Int)]) g (i * 3) A1 y.tn y.a y.c vs cu := by
  obtain ⟨g', e, hAg, hR, hG⟩ : ∃ g', some (⟨g, 0, none⟩ : Addr) = some ⟨g', 0, none⟩ ∧ A g' ∧ RowV w g' c ks ∧ GL FulE w ks (fun q => A q ∧ q ≠ g') := by
    rcases h.at_.row.row with ⟨rfl, h1, _⟩ | h
    · cases h1
    · exact h
  cases e
  have hi : i < ks.length := (List.getElem?_eq_some_iff.1 hy).1
  have hyk : (kidsL t.2)[i]? = some y.tn := by rw [← h.kids, List.getElem?_map, hy]; rfl
  have hkl := kv_len h.kids
  have hkid : kidT (i : Int) t.2 = some y.tn := by unfold kidT; rw [if_pos (by omega), Int.toNat_natCast]; exact hyk
  obtain ⟨A1, A2, a1, a2, hyF, g2⟩ := gl_pick hG hy
  obtain ⟨vs, k1, k2⟩ := FulTm.open hyF
  have hvl := kv_len k1
  obtain ⟨cu, r1, r2, r3⟩ := hR.row
  obtain ⟨y0, y1, y2⟩ := kv_cells hy
  have hc : ∀ j v, (kvCells ks)[j]? = some v → cu[j]? = some v := fun j v hv => by
    rw [← r3, List.getElem?_take] at hv
    split at hv
    · rw [Array.getElem?_toList] at hv; exact hv
    · cases hv
  have hgA1 : ¬ A1 g := fun hh => (a1 g hh).2 rfl
  refine ⟨A1, cu, vs, ⟨r1, hc _ _ y0, hc _ _ y1, by rw [hvl]; exact hc _ _ y2, k2, hgA1, hyF.sizes.name⟩, k1, by rw [sub_snoc ps i t0 t h.sub, hkid], Nat.le_trans (by have := nodes_get hyk; omega) h.nodes, fun q hq => h.low q (a1 q hq).1, ?_⟩
  intro w1 w' t' A' a' c' ks' hb1 hk' hU
  have hs1 := hb1.size
  rw [put_snoc t' ps i t0 t y.tn h.sub hkid, Int.toNat_natCast]
  have hAb : ¬ A b := h.at_.out
  have hbg : b ≠ g := fun e => hAb (e ▸ hAg)
  obtain ⟨cu', z1, z2, z3⟩ := hU.node
  have hgw : g < w.heap.size := hR.lt
  have hk'l := kv_len hk'
  -- the new row
  have hkv : FulE w' A' ⟨t'.1, t'.2, a', c'⟩ := z3.row.tmL z3.nm hk'
  have hnotb : ∀ q, A' q → q ≠ b := fun q hq e => by
    rcases hU.new q hq with h1 | h1
    · exact hAb (e ▸ (a1 q h1).1)
    · have := h.at_.lt; omega
  have hA'g : ¬ A' g := z3.out
  have hrow : RowV w' g c (ks.set i ⟨t'.1, t'.2, a', c'⟩) := by
    refine ⟨⟨cu', z3.blk, z1.trans r2, ?_⟩, by rw [List.length_set]; exact hR.fits, hR.small⟩
    rw [List.length_set]
    apply List.ext_getElem?
    intro j
    by_cases hj : j < ks.length * 3
    · rw [List.getElem?_take_of_lt hj, Array.getElem?_toList]
      by_cases hin : j < i * 3 ∨ i * 3 + 3 ≤ j
      · rw [z2 j hin]
        obtain ⟨v, hv⟩ := kvCells_get (ks := ks) (j := j) hj
        rw [hc j v hv]
        have : (kvCells (ks.set i ⟨t'.1, t'.2, a', c'⟩))[j]? = (kvCells ks)[j]? := by
          have e : ∀ m, m ≠ i → (ks.set i ⟨t'.1, t'.2, a', c'⟩)[m]? = ks[m]? := fun m hm => List.getElem?_set_ne (by omega)
          have hm : j / 3 ≠ i := by omega
          have hjm : j / 3 < ks.length := by omega
          obtain ⟨kv, hkv'⟩ : ∃ kv, ks[j / 3]? = some kv := ⟨_, List.getElem?_eq_getElem hjm⟩
          obtain ⟨p0, p1, p2⟩ := kv_cells hkv'
          obtain ⟨q0, q1, q2⟩ := kv_cells ((e _ hm).trans hkv')
          have hj3 : j = j / 3 * 3 ∨ j = j / 3 * 3 + 1 ∨ j = j / 3 * 3 + 2 := by omega
          rcases hj3 with e3 | e3 | e3 <;> rw [e3]
          · rw [q0, p0]
          · rw [q1, p1]
          · rw [q2, p2]
        rw [this, hv]
      · have hset : (ks.set i ⟨t'.1, t'.2, a', c'⟩)[i]? = some ⟨t'.1, t'.2, a', c'⟩ := List.getElem?_set_self hi
        obtain ⟨q0, q1, q2⟩ := kv_cells hset
        have hj3 : j = i * 3 ∨ j = i * 3 + 1 ∨ j = i * 3 + 2 := by omega
        rcases hj3 with e3 | e3 | e3 <;> rw [e3]
        · rw [q0, z3.c0]
        · rw [q1, z3.c1]
        · rw [q2, z3.c2, hk'l]
    · rw [List.getElem?_eq_none (by rw [List.length_take]; omega), List.getElem?_eq_none (by rw [kvCells_len, List.length_set]; omega)]
  have hGL : GL FulE w' (ks.set i ⟨t'.1, t'.2, a', c'⟩) (fun q => A' q ∨ A2 q) := by
    have hsp : List.Perm (ks.set i ⟨t'.1, t'.2, a', c'⟩) (⟨t'.1, t'.2, a', c'⟩ :: (ks.take i ++ ks.drop (i + 1))) := by
      have := pick_perm (ks := ks.set i ⟨t'.1, t'.2, a', c'⟩) (i := i) (List.getElem?_set_self hi)
      rw [List.take_set_of_le (Nat.le_refl _), List.drop_set_of_lt (by omega)] at this
      exact this
    refine GL.perm hsp.symm (GL.cons hkv (g2.keep fulE (fun q hq hlt => (hU.same q (by omega) (fun h1 => (a2 q hq).2 h1) (a2 q hq).1.2).trans (hb1.block q hlt))) (fun q hq h2 => ?_))
    rcases hU.new q hq with h1 | h1
    · exact (a2 q h2).2 h1
    · have := h.low q (a2 q h2).1.1; omega
  refine h.back w1 w' (t.1, setF i t.2 t') (fun q => (A' q ∨ A2 q) ∨ q = g) (some ⟨g, 0, none⟩) c (ks.set i ⟨t'.1, t'.2, a', c'⟩) hb1 (by rw [kids_setL, ← h.kids, List.map_set]; rfl) ⟨hU.low, fun q hq hA hne => hU.same q hq (fun h1 => hA (a1 q h1).1) (fun e => hA (e ▸ hAg)), fun q hq => ?_, cur, rfl, fun _ _ => rfl, ?_⟩
  · rcases hq with (hq | hq) | hq
    · exact (hU.new q hq).imp (fun h1 => (a1 q h1).1) id
    · exact .inl (a2 q hq).1.1
    · exact .inl (hq ▸ hAg)
  · refine ⟨((hU.same b (Nat.lt_of_lt_of_le h.at_.lt hs1) (fun h1 => hAb (a1 b h1).1) hbg).trans (hb1.block b h.at_.lt)).trans h.at_.blk, h.at_.c0, h.at_.c1, by rw [List.length_set]; exact h.at_.c2, ⟨by rw [List.length_set]; exact h.at_.row.few, .inr ⟨g, rfl, .inr rfl, hrow, hGL.mono (fun q hq => ⟨.inl hq, ?_⟩)⟩⟩, ?_, h.at_.nm⟩
    · rcases hq with hq | hq
      · exact fun e => hA'g (e ▸ hq)
      · exact (a2 q hq).1.2
    · rintro ((hq | hq) | hq)
      · exact hnotb b hq rfl
      · exact hAb (a2 b hq).1.1
      · exact hbg hq
end Go.Proofs.YtokbgbbkopmngaaGreat
/- A place: doWithin. -/
namespace Go.Proofs.YtokbgbbkopmngaaGreat
open Go.RowKit Go.Deep

/-- doWithin's two boxes. -/
structure Dua (w : World) (ds : Array Value) (W : World) : Prop where
  low : Below w.heap.size w W
  r : Box W w.heap.size 47 ds
  z : Box W (w.heap.size + 1) 47 (stepC zSp none 0 0)
theorem Dua.new (w : World) (ds : Array Value) : Dua w ds ((w.alloc (.cells ds 47)).alloc (.cells (stepC zSp none 0 0) 47)) :=
  ⟨(alloc_below0 w _).alloc (by simp) _, (Box.new w 47 ds).over _, box_new (by rw [World.size_alloc]) 47 _⟩
theorem stepT_none {S : Sg} {t : Tn} {ps : List Int} {p : Sp} (h : subT ps t = none) : stepT S t ps p = none := by unfold stepT; rw [h]
theorem sub_none_of {ps qs : List Int} {t : Tn} (h : subT ps t = none) : subT (ps ++ qs) t = none := by rw [sub_append, h]; rfl
theorem sub_stop {ps : List Int} {j : Nat} {t0 t : Tn} {x : Int} (hj : j < ps.length) (hx : ps[j] = x) (h : subT (ps.take j) t0 = some t) (hk : kidT x t.2 = none) : subT ps t0 = none := by
  have e : ps = (ps.take j ++ [x]) ++ ps.drop (j + 1) := by
    rw [List.append_assoc, ← hx]
    conv => lhs; rw [← List.take_append_drop j ps, List.drop_eq_getElem_cons hj]
    rfl
  rw [e]
  refine sub_none_of ?_
  rw [sub_snoc _ x t0 t h, hk]
theorem take_more {ps : List Int} {j : Nat} {x : Int} (hj : j < ps.length) (hx : ps[j] = x) : ps.take (j + 1) = ps.take j ++ [x] := by rw [List.take_succ_eq_append_getElem hj, hx]
/-- From the node's end to the term's. -/
theorem Foc.fin {w : World} {b0 o0 : Nat} {A0 : Bl} {cur0 : Array Value} {t0 : Tn} {ps : List Int} {b o : Nat} {A : Bl} {t : Tn} {a : Option Addr} {c : Nat} {ks : List Kv} {cur : Array Value} (h : Foc w b0 o0 A0 cur0 t0 ps b o A t a c ks cur) {w1 w' : World} {S : Sg} {p : Sp} {e : Ending} (hb : Below w.heap.size w w1) (hE : DeedEnd w1 b o A cur (stepN S t p) e w') : DeedEnd w1 b0 o0 A0 cur0 (stepT S t0 ps p) e w' := by
  have hs : stepT S t0 ps p = (match stepN S t p with | none => none | some r => (putT r.1 ps t0).map fun y => (y, r.2)) := by unfold stepT; rw [h.sub]; rfl
  rw [hs]
  cases hn : stepN S t p with
  | none => rw [hn] at hE; exact hE
  | some r =>
    rw [hn] at hE
    obtain ⟨he, A', a', c', ks', hk, hU⟩ := hE
    obtain ⟨y, A0', a0, c0, ks0, e1, e2, e3⟩ := h.back w1 w' r.1 A' a' c' ks' hb hk hU
    simp only [e1, Option.map_some]
    exact ⟨he, A0', a0, c0, ks0, e2, e3⟩

set_option maxRecDepth 100000 in
set_option maxHeartbeats 4000000 in
theorem within_any (S : Option Addr) (n cap b0 o0 : Nat) (L : List Sym) (A0 : Bl) (t0 : Tn) (a0 : Option Addr) (c0 : Nat) (ks0 : List Kv) (cur0 : Array Value) (p : Sp) (ps : List Int) (pa : Option Addr) (pn pc : Nat) (w : World)
    (hS : SigAt w S n L) (hP : Pl w b0 o0 A0 t0.1 a0 c0 ks0 cur0) (hks : ks0.map Kv.tn = kidsL t0.2) (hn : nodesF t0.2 ≤ 1048576) (hI : IntsAt w pa pn ps) (hpn : pn ≤ 9223372036854775807) :
    Calls Tryz.prog 24 #[.slice S n cap, .pointer (some ⟨b0, o0, none⟩), stepV p pa pn pc] w (DeedEnd w b0 o0 A0 cur0 (stepT (sgOf L) t0 ps p)) := by
  obtain ⟨W0, hW0⟩ : ∃ W0, (w.alloc (.cells (stepC p pa pn pc) 47)).alloc (.cells (stepC zSp none 0 0) 47) = W0 := ⟨_, rfl⟩
  have hD : Dua w (stepC p pa pn pc) W0 := by rw [← hW0]; exact Dua.new _ _
  have hsz : W0.heap.size = w.heap.size + 2 := by rw [← hW0]; simp
  have hP0 := hP.within.below hD.low
  have hF0 : Foc W0 b0 o0 (fun q => A0 q ∧ q < w.heap.size) cur0 t0 [] b0 o0 (fun q => A0 q ∧ q < w.heap.size) t0 a0 c0 ks0 cur0 := Foc.start hP0 hks (fun q hq => by have := hq.2; omega)
  have hI0 := hI.below hD.low
  obtain rfl := hI.len
  obtain ⟨r, hr⟩ : ∃ r, stepT (sgOf L) t0 ps p = r := ⟨_, rfl⟩
  rw [hr]
  have r1 := hD.r.v (k := 1) rfl
  have z0 := hD.z.v (k := 0) rfl; have z1 := hD.z.v (k := 1) rfl; have z2 := hD.z.v (k := 2) rfl; have z3 := hD.z.v (k := 3) rfl; have z4 := hD.z.v (k := 4) rfl
  have f0 := hD.z.f 0; have f1 := hD.z.f 1; have f2 := hD.z.f 2; have f3 := hD.z.f 3; have f4 := hD.z.f 4
  have HD := hid hD; have HSZ := hid hsz; have HI := hid hI0; have HF0 := hid hF0; have HR := hid hr
  have HS : Hid (SigAt W0 S n L) := hS.below hD.low
  have HBL : Hid (b0 < w.heap.size) := hP.lt
  have HN := hid hn
  clear hD hP0 hF0 hI0 hI hsz hr hS hP hks hn
  go_enter Tryz.func24, Tryz.ntmps24
  go_wp2_with fail
  go_loopw [1, 9, 13] (fun pt _ ix wr => ∃ (j b o : Nat) (A : Bl) (t : Tn) (a : Option Addr) (c : Nat) (ks : List Kv) (cur : Array Value), j ≤ ps.length ∧ ix = .int .i64 j ∧ pt = .pointer (some ⟨b, o, none⟩) ∧ wr = W0 ∧ Foc W0 b0 o0 (fun q => A0 q ∧ q < w.heap.size) cur0 t0 (ps.take j) b o A t a c ks cur) (fun _ _ ix _ => ps.length - (intOf ix).toNat)
  case atStart => exact ⟨0, b0, o0, _, t0, a0, c0, ks0, cur0, Nat.zero_le _, rfl, rfl, rfl, HF0.out⟩
  case round =>
    obtain ⟨j, b, o, A, t, a, c, ks, cur, hj, rfl, rfl, rfl, hF⟩ := hrel
    have HF := hid hF
    by_cases hlt : j < ps.length
    · obtain ⟨pb, po, rfl, hpc⟩ := HI.out.cells j hlt
      have nn := hF.at_.nd
      have n2 := nn.list
      have hj0 : (0 : Int) ≤ (j : Int) := by omega
      have hjn : (j : Int) < (ps.length : Int) := by omega
      have hkl := kv_len hF.kids
      have hcl := hF.at_.row.len
      have hcl2 := hcl.2
      unfold maxLen at hcl2
      obtain ⟨x, hx⟩ : ∃ x, ps[j] = x := ⟨_, rfl⟩
      rw [hx] at hpc
      have HX := hid hx
      have HKL := hid hkl
      clear hF nn hx hkl hcl
      have HLT := hid hlt
      by_cases hx0 : x < 0
      · go_wp2_with fail
        refine ret_step rfl rfl (sets5_box HD.out.z _ _ _ _ _) rfl rfl ?_
        exact DeedEnd.not (by rw [← HR.out]; exact stepT_none (sub_stop HLT.out HX.out HF.out.sub (kidT_bad (by have := HKL.out; omega)))) (sets5_below HD.out.low (by omega) _ _ _ _ _)
      · by_cases hx1 : x < (ks.length : Int)
        · obtain ⟨i, rfl⟩ : ∃ i : Nat, x = i := ⟨x.toNat, by omega⟩
          obtain ⟨g, rfl⟩ : ∃ g, a = some ⟨g, 0, none⟩ := by
            rcases HF.out.at_.row.row with ⟨rfl, _⟩ | ⟨g, h1, _⟩
            · simp at hx1; omega
            · exact ⟨g, h1⟩
          obtain ⟨y, hy⟩ : ∃ y, ks[i]? = some y := ⟨_, List.getElem?_eq_getElem (by omega)⟩
          have hd := HF.out.down hy
          have HDn := hid hd
          have hx2 : ¬ (ks.length : Int) ≤ (i : Int) := by omega
          have hi0 : (0 : Int) ≤ (i : Int) := by omega
          clear hd hy
          go_wp2_with fail
          go_roundw
          case rel =>
            obtain ⟨A1, cu, vs, hf⟩ := HDn.out
            rw [← take_more HLT.out HX.out] at hf
            exact ⟨j + 1, g, i * 3, A1, y.tn, y.a, y.c, vs, cu, by omega, by go_num, by first | rfl | trivial, by first | rfl | trivial, hf⟩
          case measure => simp [intOf]; omega
        · have hx2 : (ks.length : Int) ≤ x := by omega
          go_wp2_with fail
          refine ret_step rfl rfl (sets5_box HD.out.z _ _ _ _ _) rfl rfl ?_
          exact DeedEnd.not (by rw [← HR.out]; exact stepT_none (sub_stop HLT.out HX.out HF.out.sub (kidT_bad (by have := HKL.out; omega)))) (sets5_below HD.out.low (by omega) _ _ _ _ _)
    · have hjn : ¬ (j : Int) < (ps.length : Int) := by omega
      have hjl : ps.take j = ps := List.take_of_length_le (by omega)
      rw [hjl] at HF
      have hPA : Hid (Calls Tryz.prog 37 #[.slice S n cap, .pointer (some ⟨b, o, none⟩)] wr.drew fun e w2 => e = .returned (placeV S n cap b o (unitI L t.1.2) (unitOk L t.1.2)) ∧ (w2.cell? ⟨w.heap.size, 0, none⟩ = some (.int .i64 p.kind) ∧ w2.cell? ⟨w.heap.size, 1, none⟩ = some (.slice pa ps.length pc) ∧ w2.cell? ⟨w.heap.size, 2, none⟩ = some (.int .i64 p.at_) ∧ w2.cell? ⟨w.heap.size, 3, none⟩ = some (.int .i64 p.many) ∧ w2.cell? ⟨w.heap.size, 4, none⟩ = some (.int .i64 p.sym)) ∧ Hid (Calls Tryz.prog 38 #[placeV S n cap b o (unitI L t.1.2) (unitOk L t.1.2), stepV p pa ps.length pc] w2 fun e w3 => e = .returned (.tuple #[stepV (ansSp r) none 0 0, .bool (ansOk r)]) ∧ Hid (Box w3 (w.heap.size + 1) 47 (stepC zSp none 0 0)) ∧ Hid (∀ w4 : World, Below 0 w3 w4 → (∀ q, q ≠ w.heap.size + 1 → w4.heap[q]? = w3.heap[q]?) → DeedEnd w b0 o0 A0 cur0 r (.returned (.tuple #[stepV (ansSp r) none 0 0, .bool (ansOk r)])) w4))) := by
        have hSd : SigAt wr.drew S n L := HS.out.below (Below.refl _ wr).drew
        refine Calls.mono (placeAt_any S n cap b o L t.1 a ks.length c wr.drew hSd (HF.out.at_.nd.below (Below.refl _ wr).drew)) ?_
        rintro e w2 ⟨he, hb2⟩
        have hb2' : Below wr.heap.size wr w2 := (Below.refl _ wr).drew.trans hb2
        have hr2 := HD.out.r.below hb2'
        have hz2 := HD.out.z.below hb2'
        have hsz0 := HSZ.out
        have hbw2 : Below w.heap.size w w2 := HD.out.low.trans (hb2'.mono (by omega))
        have hs2 := hb2'.size
        refine ⟨he, ⟨hr2.v rfl, hr2.v rfl, hr2.v rfl, hr2.v rfl, hr2.v rfl⟩, ?_⟩
        refine Calls.mono (do_any S n cap b o L A t a c ks cur p pa ps.length pc w2 (HS.out.below hb2') (HF.out.at_.below hb2') HF.out.kids (Nat.le_trans HF.out.nodes HN.out)) ?_
        intro e w3 hE
        have hE2 := HF.out.fin hb2' hE
        rw [HR.out] at hE2
        have hL := hE2.lift hbw2 (B := w.heap.size + 1) (by omega) (by omega) HBL.out
        exact ⟨hE2.ret, hL.1.trans hz2, hL.2⟩
      have r0 := HD.out.r.v (k := 0) rfl; have r2 := HD.out.r.v (k := 2) rfl; have r3 := HD.out.r.v (k := 3) rfl; have r4 := HD.out.r.v (k := 4) rfl
      clear hF z0 z1 z2 z3 z4 f0 f1 f2 f3 f4
      go_wp2_with fail
      go_region_with (first | (go_at_call 37; refine hPA.out.mono ?_; rintro e w2 ⟨rfl, ⟨g0, g1, g2, g3, g4⟩, HDD⟩) | (go_at_call 38; refine HDD.out.mono ?_; rintro e w3 ⟨rfl, HZ3, HE3⟩; have z0 := HZ3.out.v (k := 0) rfl; have z1 := HZ3.out.v (k := 1) rfl; have z2 := HZ3.out.v (k := 2) rfl; have z3 := HZ3.out.v (k := 3) rfl; have z4 := HZ3.out.v (k := 4) rfl; have f0 := HZ3.out.f 0; have f1 := HZ3.out.f 1; have f2 := HZ3.out.f 2; have f3 := HZ3.out.f 3; have f4 := HZ3.out.f 4) | fail)
      all_goals
        go_wp2
        refine ret_step rfl rfl (sets5_box HZ3.out _ _ _ _ _) rfl rfl ?_
        exact HE3.out _ (sets5_below (Below.refl 0 w3) (Nat.zero_le _) _ _ _ _ _) (fun q hq => sets5_far hq _ _ _ _ _)
end Go.Proofs.YtokbgbbkopmngaaGreat
/- What Clone of package terms makes: the term in new memory, each list's block as great as its room. -/
namespace Go.Proofs.YtokbgbbkopmngaaGreat
open Go.RowKit Go.Deep

def CloneFOk (k : Nat) : Prop := ∀ (x : ByteArray × Int) (l : Fo) (a : Option Addr) (c : Nat) (w : World), nodesF l ≤ k → TmAt w x a c l →
  Calls Tryz.prog 23 #[.agg #[.string x.1, .int .i64 x.2, .slice a (lenF l) c]] w fun e w' => ∃ a' c', e = .returned (.agg #[.string x.1, .int .i64 x.2, .slice a' (lenF l) c']) ∧ FulTm w' (fun k => w.heap.size ≤ k) x a' c' l ∧ Below w.heap.size w w' ∧ (lenF l = 0 → a' = none ∧ c' = 0)

/-- A fresh row, some of whose places are filled. -/
structure FillF (w : World) (n : Nat) (W : World) (ks : List Kv) : Prop where
  low : Below w.heap.size w W
  row : ∃ cur, W.heap[w.heap.size]? = some (Obj.cells cur 26 (0, 0)) ∧ cur.size = n * 3 ∧ ∀ (i : Nat) (u : Value), (kvCells ks)[i]? = some u → cur[i]? = some u
  own : GL FulE W ks (fun q => w.heap.size < q ∧ q < W.heap.size)
theorem FillF.cell {w : World} {n : Nat} {W : World} {ks : List Kv} (h : FillF w n W ks) {i : Nat} (hi : i < n * 3) : ∃ v, W.cell? ⟨w.heap.size, i, none⟩ = some v := by
  obtain ⟨cur, h1, h2, _⟩ := h.row
  exact ⟨cur[i]'(by omega), by rw [cell_of_row W w.heap.size i cur 26 (0, 0) h1]; simp [show i < cur.size by omega]⟩
theorem FillF.frozen {w : World} {n : Nat} {W : World} {ks : List Kv} (h : FillF w n W ks) (i : Nat) : W.frozen? ⟨w.heap.size, i, none⟩ = false := by
  obtain ⟨cur, h1, _⟩ := h.row
  simp [World.frozen?, h1]
/-- What the callee has made is stored at its place. -/
theorem FillF.step {w wr w1 : World} {n : Nat} {ks : List Kv} {kv : Kv} (h : FillF w n wr ks) (hb : Below wr.heap.size wr w1) (hk : FulTm w1 (fun q => wr.heap.size ≤ q) kv.x kv.a kv.c kv.l) (hlt : ks.length < n) :
    FillF w n (((w1.setCell ⟨w.heap.size, ks.length * 3, none⟩ (.string kv.x.1)).setCell ⟨w.heap.size, ks.length * 3 + 1, none⟩ (.int .i64 kv.x.2)).setCell ⟨w.heap.size, ks.length * 3 + 2, none⟩ (.slice kv.a (lenF kv.l) kv.c)) (ks ++ [kv]) := by
  obtain ⟨cur, h1, h2, h3⟩ := h.row
  have hglt : w.heap.size < wr.heap.size := (Array.getElem?_eq_some_iff.1 h1).1
  have h1' : w1.heap[w.heap.size]? = some (Obj.cells cur 26 (0, 0)) := (hb.block _ hglt).trans h1
  have far : ∀ q, w.heap.size < q → (((w1.setCell ⟨w.heap.size, ks.length * 3, none⟩ (.string kv.x.1)).setCell ⟨w.heap.size, ks.length * 3 + 1, none⟩ (.int .i64 kv.x.2)).setCell ⟨w.heap.size, ks.length * 3 + 2, none⟩ (.slice kv.a (lenF kv.l) kv.c)).heap[q]? = w1.heap[q]? := fun q hq => by
    rw [Below.heap_setCell _ _ _ q (by show q ≠ w.heap.size; omega), Below.heap_setCell _ _ _ q (by show q ≠ w.heap.size; omega), Below.heap_setCell _ _ _ q (by show q ≠ w.heap.size; omega)]
  refine ⟨?_, ⟨_, block_set (block_set (block_set h1' _) _) _, by simp [h2], ?_⟩, ?_⟩
  · exact (((h.low.trans (hb.mono h.low.size)).setCell (p := ⟨w.heap.size, ks.length * 3, none⟩) (Nat.le_refl _) _).setCell (p := ⟨w.heap.size, ks.length * 3 + 1, none⟩) (Nat.le_refl _) _).setCell (p := ⟨w.heap.size, ks.length * 3 + 2, none⟩) (Nat.le_refl _) _
  · intro i u hu
    rw [kvCells_snoc] at hu
    have hl := kvCells_len ks
    have hkl : kv.cells.length = 3 := rfl
    have hi : i < ks.length * 3 + 3 := by
      rcases Nat.lt_or_ge i (ks.length * 3 + 3) with h' | h'
      · exact h'
      · rw [List.getElem?_eq_none (by rw [List.length_append]; omega)] at hu; cases hu
    simp only [Array.getElem?_setIfInBounds, Array.size_setIfInBounds]
    by_cases hc : i < ks.length * 3
    · rw [List.getElem?_append_left (by omega)] at hu
      rw [if_neg (by omega), if_neg (by omega), if_neg (by omega)]
      exact h3 i u hu
    · rw [List.getElem?_append_right (by omega), hl] at hu
      have hcase : i = ks.length * 3 ∨ i = ks.length * 3 + 1 ∨ i = ks.length * 3 + 2 := by omega
      rcases hcase with e | e | e
      · subst e
        rw [if_neg (by omega), if_neg (by omega), if_pos rfl, if_pos (by omega)]
        simpa [Kv.cells] using hu
      · subst e
        rw [if_neg (by omega), if_pos rfl, if_pos (by omega)]
        rw [show ks.length * 3 + 1 - ks.length * 3 = 1 by omega] at hu
        simpa [Kv.cells] using hu
      · subst e
        rw [if_pos rfl, if_pos (by omega)]
        rw [show ks.length * 3 + 2 - ks.length * 3 = 2 by omega] at hu
        simpa [Kv.cells] using hu
  · have h5 : GL FulE w1 ks (fun q => w.heap.size < q ∧ q < wr.heap.size) := h.own.keep fulE (fun q hq hlt => hb.block q hlt)
    have h6 := GL.snoc h5 (fulE.within (k := kv) hk) (fun q hq => by intro h'; have := hq.2; have := h'.1; omega)
    have hsz : (((w1.setCell ⟨w.heap.size, ks.length * 3, none⟩ (.string kv.x.1)).setCell ⟨w.heap.size, ks.length * 3 + 1, none⟩ (.int .i64 kv.x.2)).setCell ⟨w.heap.size, ks.length * 3 + 2, none⟩ (.slice kv.a (lenF kv.l) kv.c)).heap.size = w1.heap.size := by simp
    rw [hsz]
    have hbs := hb.size
    refine (h6.keep fulE (fun q hq _ => far q ?_)).mono (fun q hq => ?_)
    · rcases hq with hq | hq
      · exact hq.1
      · have := hq.1; omega
    · rcases hq with hq | hq
      · exact ⟨hq.1, by omega⟩
      · exact ⟨by have := hq.1; omega, hq.2⟩
theorem FillF.done {w W : World} {x : ByteArray × Int} {l : Fo} {ks : List Kv} (h : FillF w (lenF l) W ks) (hks : ks.map Kv.tn = kidsL l) (hx : x.1.size ≤ maxLen) (hn : lenF l ≤ maxLen) (hf : lenF l * 48 ≤ 140737488351232) :
    FulTm W (fun q => w.heap.size ≤ q) x (some ⟨w.heap.size, 0, none⟩) (lenF l) l := by
  obtain ⟨cur, h1, h2, h3⟩ := h.row
  refine ⟨⟨hx, Nat.le_refl _, hn, hf⟩, .inr ⟨w.heap.size, cur, rfl, Nat.le_refl _, h1, h2, ?_⟩⟩
  refine fulKids_of l ks _ 0 hks (fun j u hu => ?_) (h.own.mono (fun q hq => ⟨by have := hq.1; omega, by have := hq.1; omega⟩))
  rw [Nat.zero_add, cell_of_row W w.heap.size j cur 26 (0, 0) h1]
  exact h3 j u hu

set_option maxRecDepth 100000 in
set_option maxHeartbeats 2000000 in
theorem cloneListF_any (k : Nat) (ih : ∀ j, j < k → CloneFOk j) (x : ByteArray × Int) (l : Fo) (a : Option Addr) (c : Nat) (w : World) (hk : nodesF l ≤ k) (hT : TmAt w x a c l) :
    Calls Tryz.prog 36 #[.slice a (lenF l) c] w fun e w' => ∃ a' c', e = .returned (.slice a' (lenF l) c') ∧ FulTm w' (fun k => w.heap.size ≤ k) x a' c' l ∧ Below w.heap.size w w' ∧ (lenF l = 0 → a' = none ∧ c' = 0) := by
  obtain ⟨i0, hi, hz0, hz1, hz2⟩ := info_parts Tryz.info26
  have HT : Hid (TmAt w x a c l) := hT
  have IH : Hid (∀ j, j < k → CloneFOk j) := ih
  have hmax : maxLen = 9223372036854775807 := rfl
  have hn1 := hT.sizes.len
  have hn2 := hT.sizes.cap
  have hfew := hT.sizes.few
  clear hT ih
  by_cases h0 : lenF l = 0
  · have hl := len_nil h0
    subst hl
    go_enter Tryz.func36, Tryz.ntmps36
    go_wp2
    go_ret
    exact ⟨none, 0, rfl, ⟨⟨HT.out.sizes.name, by simp [lenF], by simp, by simp [lenF]⟩, .inl ⟨rfl, rfl, rfl⟩⟩, Below.refl _ _, fun _ => ⟨rfl, rfl⟩⟩
  · obtain ⟨bb, oo, rfl, hkk⟩ := HT.out.args.get (by omega)
    have HKK : Hid (KidsAt w l bb oo) := hkk
    clear hkk
    have hne : ((lenF l : Int) == 0) = false := by simp; omega
    go_enter Tryz.func36, Tryz.ntmps36
    go_wp2_with (at_make; refine wpList_make_full _ rfl _ _ 24 rfl w.heap.size 26 i0 (.agg #[.string ⟨#[]⟩, .int .i64 0, .slice none 0 0]) 3 Tryz.underlying24 hi hz0 hz1 .i64 .i64 _ _ (lenF l) rfl rfl rfl rfl (by rw [hz2]; omega) (by omega) (Nat.le_refl _) ?_; intro w0 hown0 hgrow0)
    have F0 : FillF w (lenF l) w0 [] := by
      refine ⟨(Below.refl _ _).grown hgrow0 (Nat.le_refl _) (fun k e => by cases e), ?_, trivial⟩
      rcases hown0.2 with ⟨hv, _⟩ | ⟨g', cap', cur, hv, _, hh, _, _, hcs, _⟩
      · cases hv
      · cases hv
        exact ⟨cur, hh, hcs, fun i u hu => by simp [kvCells] at hu⟩
    clear hown0 hgrow0
    go_loopw [4, 5, 14] (fun _ _ i wr => ∃ (j : Nat) (ks : List Kv), j ≤ lenF l ∧ i = .int .i64 j ∧ ks.length = j ∧ FillF w (lenF l) wr ks ∧ ks.map Kv.tn = (kidsL l).take j) (fun _ _ i _ => lenF l - (intOf i).toNat)
    case atStart => exact ⟨0, [], Nat.zero_le _, rfl, rfl, F0, by simp⟩
    case round =>
      obtain ⟨j, ks, hj, rfl, hkl, hF, hks⟩ := hrel
      have FR : Hid (FillF w (lenF l) wr ks) := hF
      have HKS : Hid (ks.map Kv.tn = (kidsL l).take j) := hks
      clear hks F0
      by_cases hlt : j < lenF l
      · obtain ⟨y, a1, c1, l1, kd⟩ := HKK.out.kid (k := j) hlt
        have kd' := kd.below hF.low
        have p0 := kd'.name; have p1 := kd'.sym; have p2 := kd'.list
        have hb1 : Below wr.heap.size wr (wr.alloc (.cells #[.string y.1, .int .i64 y.2, .slice a1 (lenF l1) c1] 26)) := (Below.refl _ _).alloc (Nat.le_refl _) _
        have hC := IH.out (nodesF l1) (by have := kd.less; omega) y l1 a1 c1 _ (Nat.le_refl _) (kd'.at_.below hb1)
        have KD : Hid (Kid w l bb oo j y a1 c1 l1) := kd
        have HB1 : Hid (Below wr.heap.size wr (wr.alloc (.cells #[.string y.1, .int .i64 y.2, .slice a1 (lenF l1) c1] 26))) := hb1
        have hgl : w.heap.size < wr.heap.size := by obtain ⟨cur, h1, _⟩ := hF.row; exact (Array.getElem?_eq_some_iff.1 h1).1
        clear kd kd' hb1 hF
        go_wp2_with fail
        refine hC.mono ?_
        rintro e w2 ⟨a', c', rfl, ho2, hb2, hz2⟩
        clear hz2
        have HW2 : Hid (Below wr.heap.size wr w2) := HB1.out.trans (hb2.mono HB1.out.size)
        have HO2 : Hid (FulTm w2 (fun q => wr.heap.size ≤ q) y a' c' l1) := ho2.mono (fun q hq => by have := HB1.out.size; simp at hq; omega)
        have F2 : FillF w (lenF l) w2 ks := by
          obtain ⟨cur, h1, h2, h3⟩ := FR.out.row
          exact ⟨FR.out.low.trans (HW2.out.mono FR.out.low.size), ⟨cur, (HW2.out.block _ hgl).trans h1, h2, h3⟩, (FR.out.own.keep fulE (fun q hq hlt => HW2.out.block q hlt)).mono (fun q hq => ⟨hq.1, Nat.lt_of_lt_of_le hq.2 HW2.out.size⟩)⟩
        obtain ⟨u0, v0⟩ := F2.cell (i := j * 3) (by omega)
        obtain ⟨u1, v1⟩ := F2.cell (i := j * 3 + 1) (by omega)
        obtain ⟨u2, v2⟩ := F2.cell (i := j * 3 + 2) (by omega)
        have f0 := F2.frozen (j * 3)
        have f1 := F2.frozen (j * 3 + 1)
        have f2 := F2.frozen (j * 3 + 2)
        clear hC ho2 hb2 F2 p0 p1 p2
        go_wp2
        go_roundw
        case rel =>
          obtain ⟨B1, O1, sp⟩ := KD.out.split
          have hst := FR.out.step (kv := ⟨y, l1, a', c'⟩) HW2.out HO2.out (by omega)
          rw [hkl] at hst
          exact ⟨j + 1, ks ++ [⟨y, l1, a', c'⟩], by omega, by go_num, by simp [hkl], hst, by rw [kids_take sp, ← HKS.out]; simp [Kv.tn]⟩
        case measure => simp [intOf]; omega
      · have e1 : j = lenF l := by omega
        go_wp2
        go_ret
        refine ⟨_, lenF l, rfl, FR.out.done (by rw [HKS.out, e1, ← kids_len, List.take_length]) HT.out.sizes.name (by omega) hfew, FR.out.low, fun e => absurd e h0⟩

set_option maxRecDepth 100000 in
set_option maxHeartbeats 2000000 in
theorem cloneF_all : ∀ k, CloneFOk k := by
  intro k
  induction k using Nat.strongRecOn with
  | _ k ih =>
    intro x l a c w hk hT
    have HT : Hid (TmAt w x a c l) := hT
    obtain ⟨W0, hW0⟩ : ∃ W0, (w.alloc (.cells #[.string x.1, .int .i64 x.2, .slice a (lenF l) c] 26)).alloc (.cells #[.string ⟨#[]⟩, .int .i64 0, .slice none 0 0] 26) = W0 := ⟨_, rfl⟩
    have hb0 : Below w.heap.size w W0 := by rw [← hW0]; exact ((Below.refl _ w).alloc (Nat.le_refl _) _).alloc (by simp) _
    have b1 : XBox W0 w.heap.size x (.slice a (lenF l) c) := by rw [← hW0]; exact (Below.heap_alloc _ _ _ (by simp)).trans (World.alloc_heap_new w _)
    have b2 : XBox W0 (w.heap.size + 1) (⟨#[]⟩, 0) (.slice none 0 0) := by
      have := World.alloc_heap_new (w.alloc (.cells #[.string x.1, .int .i64 x.2, .slice a (lenF l) c] 26)) (.cells #[.string ⟨#[]⟩, .int .i64 0, .slice none 0 0] 26)
      rw [World.size_alloc] at this
      rw [← hW0]; exact this
    have hsz : W0.heap.size = w.heap.size + 2 := by rw [← hW0]; simp
    have hC := cloneListF_any k ih x l a c W0 hk (hT.below hb0)
    clear hT ih
    have z2 := b1.c2
    go_enter Tryz.func23, Tryz.ntmps23
    go_wp2_with fail
    clear hW0 z2
    refine hC.mono ?_
    rintro e w2 ⟨a', c', rfl, ho2, hb2, hzz⟩
    have HZ : Hid (lenF l = 0 → a' = none ∧ c' = 0) := hzz
    clear hzz
    have B1 : XBox w2 w.heap.size x (.slice a (lenF l) c) := b1.below hb2
    have B2 : XBox w2 (w.heap.size + 1) (⟨#[]⟩, 0) (.slice none 0 0) := b2.below hb2
    have c2 := B1.c2
    have f2 := B1.f (k := 2)
    have X1 := B1.set (.slice a' (lenF l) c')
    have x0 := X1.c0; have x1 := X1.c1; have x2 := X1.c2
    have R1 := B2.other (p := ⟨w.heap.size, 2, none⟩) (by show w.heap.size + 1 ≠ w.heap.size; omega) (.slice a' (lenF l) c')
    have r0 := R1.c0; have r1 := R1.c1; have r2 := R1.c2
    have g0 := R1.f (k := 0); have g1 := R1.f (k := 1); have g2 := R1.f (k := 2)
    have HR1 : Hid (XBox (w2.setCell ⟨w.heap.size, 2, none⟩ (.slice a' (lenF l) c')) (w.heap.size + 1) (⟨#[]⟩, 0) (.slice none 0 0)) := R1
    have HO2 : Hid (FulTm w2 (fun k => W0.heap.size ≤ k) x a' c' l) := ho2
    have HB2 : Hid (Below w.heap.size w w2) := hb0.trans (hb2.mono hb0.size)
    have HSZ : Hid (W0.heap.size = w.heap.size + 2) := hsz
    clear hC ho2 hb2 B1 B2 b1 b2 X1 R1 hb0 hsz
    go_wp2
    refine bodyPost_ret (results_cell_row rfl _ _ (w.heap.size + 1) 26 #[.string x.1, .int .i64 x.2, .slice a' (lenF l) c'] (0, 0) _ rfl (HR1.out.all (x := x) _) Tryz.underlying26 rfl Tryz.size26) rfl ?_
    refine ⟨a', c', rfl, ?_, ?_, HZ.out⟩
    · refine (HO2.out.keep (fun q hq _ => ?_)).mono (fun q hq => by have := HSZ.out; omega)
      have := HSZ.out
      exact (sets_far (by omega) _ _ _).trans (Below.heap_setCell w2 _ _ q (by show q ≠ w.heap.size; omega))
    · exact sets_below (HB2.out.setCell (p := ⟨w.heap.size, 2, none⟩) (Nat.le_refl _) _) (by omega) _ _ _

theorem cloneF_any (x : ByteArray × Int) (l : Fo) (a : Option Addr) (c : Nat) (w : World) (hT : TmAt w x a c l) :
    Calls Tryz.prog 23 #[.agg #[.string x.1, .int .i64 x.2, .slice a (lenF l) c]] w fun e w' => ∃ a' c', e = .returned (.agg #[.string x.1, .int .i64 x.2, .slice a' (lenF l) c']) ∧ FulTm w' (fun k => w.heap.size ≤ k) x a' c' l ∧ Below w.heap.size w w' ∧ (lenF l = 0 → a' = none ∧ c' = 0) :=
  cloneF_all _ x l a c w (Nat.le_refl _) hT
end Go.Proofs.YtokbgbbkopmngaaGreat
/- Do. -/
namespace Go.Proofs.YtokbgbbkopmngaaGreat
open Go.RowKit Go.Deep

def ansN (r : Option (Tn × Sp)) : Tn := match r with | none => ((⟨#[]⟩, 0), .nil) | some r => r.1
def ansC (r : Option (Tn × Sp)) : Int := match r with | none => 81 | some _ => 0
/-- A step and what it leaves behind: a term of one's own. -/
theorem pl_of_ful {w : World} {B : Nat} {A : Bl} {x : ByteArray × Int} {a : Option Addr} {c : Nat} {l : Fo} (hB : Box w B 26 #[.string x.1, .int .i64 x.2, .slice a (lenF l) c]) (hF : FulTm w A x a c l) (ho : ¬ A B) : ∃ ks, ks.map Kv.tn = kidsL l ∧ Pl w B 0 A x a c ks #[.string x.1, .int .i64 x.2, .slice a (lenF l) c] := by
  obtain ⟨ks, k1, k2⟩ := hF.open
  exact ⟨ks, k1, hB, rfl, rfl, by rw [kv_len k1]; rfl, k2, ho, hF.sizes.name⟩
/-- What Do makes of a term of its own, in its box. -/
def DoEnd (w : World) (r : Option (Tn × Sp)) (e : Ending) (w' : World) : Prop := ∃ a c, e = .returned (.tuple #[.agg #[.string (ansN r).1.1, .int .i64 (ansN r).1.2, .slice a (lenF (ansN r).2) c], .int .i64 (ansC r)]) ∧ FulTm w' (fun q => w.heap.size ≤ q) (ansN r).1 a c (ansN r).2 ∧ Below w.heap.size w w'
theorem sets3_box {W : World} {B : Nat} {y0 y1 y2 : Value} (h : Box W B 26 #[y0, y1, y2]) (x0 x1 x2 : Value) : Box (((W.setCell ⟨B, 0, none⟩ x0).setCell ⟨B, 1, none⟩ x1).setCell ⟨B, 2, none⟩ x2) B 26 #[x0, x1, x2] := block_set (k := 2) (block_set (k := 1) (block_set (k := 0) h x0) x1) x2
theorem sets3_fr {W : World} {B : Nat} (x0 x1 x2 : Value) : Fr (fun q => q = B) W (((W.setCell ⟨B, 0, none⟩ x0).setCell ⟨B, 1, none⟩ x1).setCell ⟨B, 2, none⟩ x2) := Fr.sets (A := fun q => q = B) rfl _ _ _ _ _ _
set_option maxRecDepth 100000 in
theorem ret_term {fn : Func} {R : Ending → World → Prop} {a : Act} {w : World} {p u B : Nat} {cs : Array Value} (h : fn.results = #[.cell p 26, .tmp u]) (hp : a.tmps.getD p undef = .pointer (some ⟨B, 0, none⟩))
    (hx : Box w B 26 cs) (hcs : cs.size = 3) (hd : a.defers = []) (hR : R (.returned (.tuple #[.agg cs, a.tmps.getD u undef])) w) : bodyPost Tryz.prog fn R .ret a w := by
  refine bodyPost_ret ?_ hd hR
  rw [results_cell_tmp h, hp]
  rw [show (asAddr (.pointer (some ⟨B, 0, none⟩))).run Tryz.prog w = .ok ⟨B, 0, none⟩ w from rfl]
  simp only [Result.andThen_ok, run_loadVar_row w B 26 26 _ (0, 0) _ hx Tryz.underlying26 rfl (by rw [Tryz.size26, hcs])]

set_option maxRecDepth 100000 in
set_option maxHeartbeats 4000000 in
theorem pdo_any (S : Option Addr) (n cap : Nat) (L : List Sym) (t : Tn) (a : Option Addr) (c : Nat) (p : Sp) (ps : List Int) (pa : Option Addr) (pn pc : Nat) (w : World)
    (hS : SigAt w S n L) (hT : TmAt w t.1 a c t.2) (hn : nodesF t.2 ≤ 1048576) (hI : IntsAt w pa pn ps) (hpn : pn ≤ 9223372036854775807) :
    Calls Tryz.prog 11 #[.slice S n cap, .agg #[.string t.1.1, .int .i64 t.1.2, .slice a (lenF t.2) c], stepV p pa pn pc] w (DoEnd w (stepT (sgOf L) t ps p)) := by
  obtain ⟨r, hr⟩ : ∃ r, stepT (sgOf L) t ps p = r := ⟨_, rfl⟩
  rw [hr]
  obtain ⟨W0, hW0⟩ : ∃ W0, ((w.alloc (.cells #[.string t.1.1, .int .i64 t.1.2, .slice a (lenF t.2) c] 26)).alloc (.cells (stepC p pa pn pc) 47)).alloc (.cells #[.string ⟨#[]⟩, .int .i64 0, .slice none 0 0] 26) = W0 := ⟨_, rfl⟩
  have hb0 : Below w.heap.size w W0 := by rw [← hW0]; exact ((alloc_below0 w _).alloc (by simp) _).alloc (by simp; omega) _
  have hsz : W0.heap.size = w.heap.size + 3 := by rw [← hW0]; simp
  have B0 : Box W0 w.heap.size 26 #[.string t.1.1, .int .i64 t.1.2, .slice a (lenF t.2) c] := by rw [← hW0]; exact ((Box.new w 26 _).over _).over _
  have B1 : Box W0 (w.heap.size + 1) 47 (stepC p pa pn pc) := by rw [← hW0]; exact (box_new (by rw [World.size_alloc]) 47 _).over _
  have B2 : Box W0 (w.heap.size + 2) 26 #[.string ⟨#[]⟩, .int .i64 0, .slice none 0 0] := by rw [← hW0]; exact box_new (by rw [World.size_alloc, World.size_alloc]) 26 _
  have hC := cloneF_any t.1 t.2 a c W0 (hT.below hb0)
  have d0 := B0.v (k := 0) rfl; have d1 := B0.v (k := 1) rfl; have d2 := B0.v (k := 2) rfl
  have HB0 := hid hb0; have HSZ := hid hsz; have HX0 := hid B0; have HX1 := hid B1; have HX2 := hid B2; have HS := hid hS; have HI := hid hI
  have HR := hid hr; have HN := hid hn
  clear hb0 hsz B0 B1 B2 hS hT hI hr hn
  go_enter Tryz.func11, Tryz.ntmps11
  go_wp2_with fail
  clear hW0
  refine hC.mono ?_
  rintro e w1 ⟨a', c', rfl, hF1, hb1, _⟩
  have hsz0 := HSZ.out
  have hs1 := hb1.size
  have X0 := HX0.out.below hb1; have X1 := HX1.out.below hb1; have X2 := HX2.out.below hb1
  have x0 := X0.v (k := 0) rfl; have x1 := X0.v (k := 1) rfl; have x2 := X0.v (k := 2) rfl
  have xf0 := X0.f 0; have xf1 := X0.f 1; have xf2 := X0.f 2
  obtain ⟨W1, hW1⟩ : ∃ W1, ((w1.setCell ⟨w.heap.size, 0, none⟩ (.string t.1.1)).setCell ⟨w.heap.size, 1, none⟩ (.int .i64 t.1.2)).setCell ⟨w.heap.size, 2, none⟩ (.slice a' (lenF t.2) c') = W1 := ⟨_, rfl⟩
  have hFr : Fr (fun q => q = w.heap.size) w1 W1 := by rw [← hW1]; exact sets3_fr _ _ _
  have hsW : W1.heap.size = w1.heap.size := by rw [← hW1]; simp
  have Y0 : Box W1 w.heap.size 26 #[.string t.1.1, .int .i64 t.1.2, .slice a' (lenF t.2) c'] := by rw [← hW1]; exact sets3_box X0 _ _ _
  have Y1 := X1.fr hFr (by omega); have Y2 := X2.fr hFr (by omega)
  have hF2 : FulTm W1 (fun q => W0.heap.size ≤ q) t.1 a' c' t.2 := hF1.keep (fun q hq hlt => hFr.same q hlt (by omega))
  have hbW : Below w.heap.size w W1 := ((HB0.out.trans (hb1.mono HB0.out.size))).trans (hFr.below (fun k hk => by omega) (by omega))
  obtain ⟨ks, hks, hPl⟩ := pl_of_ful Y0 hF2 (by omega)
  have hSW : SigAt W1 S n L := HS.out.below hbW
  have hIW : IntsAt W1 pa pn ps := HI.out.below hbW
  have hD := within_any S n cap w.heap.size 0 L (fun q => W0.heap.size ≤ q) t a' c' ks _ p ps pa pn pc W1 hSW hPl hks HN.out hIW hpn
  rw [HR.out] at hD
  have y0 := Y1.v (k := 0) rfl; have y1 := Y1.v (k := 1) rfl; have y2 := Y1.v (k := 2) rfl; have y3 := Y1.v (k := 3) rfl; have y4 := Y1.v (k := 4) rfl
  have hws : w.heap.size + 3 ≤ W1.heap.size ∧ W0.heap.size = w.heap.size + 3 := ⟨by omega, by omega⟩
  have HY2 := hid Y2; have HBW := hid hbW; have HD := hid hD; have HSW := hid hsW
  clear hC d0 d1 d2 hF1 hb1 X0 X1 X2 hFr Y0 Y1 Y2 hF2 hbW hPl hks hSW hIW hD hsW hsz0 hs1
  have HWS : Hid (w.heap.size + 3 ≤ W1.heap.size ∧ W0.heap.size = w.heap.size + 3) := hws
  cases r with
  | none =>
    have hD2 : Calls Tryz.prog 24 #[.slice S n cap, .pointer (some ⟨w.heap.size, 0, none⟩), stepV p pa pn pc] W1 fun e w2 => e = .returned (.tuple #[stepV zSp none 0 0, .bool false]) ∧ Hid (Box w2 (w.heap.size + 2) 26 #[.string ⟨#[]⟩, .int .i64 0, .slice none 0 0]) ∧ Hid (Below w.heap.size w w2) := by
      refine Calls.mono HD.out ?_
      rintro e w2 ⟨he, hb2⟩
      exact ⟨he, HY2.out.below hb2, HBW.out.trans (hb2.mono HBW.out.size)⟩
    have HD2 := hid hD2
    clear hD2 HD hws
    go_wp2_with (first | (go_at_call 24; refine HD2.out.mono ?_; rintro e w2 ⟨rfl, HZ, HB2⟩; have hbv := alloc_below0 w2 (.cells #[.int .i64 0, .slice none 0 0, .int .i64 0, .int .i64 0, .int .i64 0] 47); have Z := HZ.out.below hbv; have z0 := Z.v (k := 0) rfl; have z1 := Z.v (k := 1) rfl; have z2 := Z.v (k := 2) rfl; have f0 := Z.f 0; have f1 := Z.f 1; have f2 := Z.f 2; have HZV := hid Z; have HBV := hid (HB2.out.trans (hbv.mono HB2.out.size)); clear Z hbv) | fail)
    refine ret_term rfl rfl (sets3_box HZV.out _ _ _) rfl rfl ?_
    refine ⟨none, 0, rfl, ⟨⟨by show (0 : Nat) ≤ _; exact Nat.zero_le _, Nat.le_refl _, Nat.zero_le _, Nat.zero_le _⟩, .inl ⟨rfl, rfl, rfl⟩⟩, HBV.out.trans ((sets3_fr _ _ _).below (fun k hk => by omega) HBV.out.size)⟩
  | some r =>
    have hD2 : Calls Tryz.prog 24 #[.slice S n cap, .pointer (some ⟨w.heap.size, 0, none⟩), stepV p pa pn pc] W1 fun e w2 => e = .returned (.tuple #[stepV r.2 none 0 0, .bool true]) ∧ ∃ a2 c2, Hid (Box w2 w.heap.size 26 #[.string r.1.1.1, .int .i64 r.1.1.2, .slice a2 (lenF r.1.2) c2]) ∧ Hid (Box w2 (w.heap.size + 2) 26 #[.string ⟨#[]⟩, .int .i64 0, .slice none 0 0]) ∧ Hid (Below w.heap.size w w2) ∧ Hid (FulTm w2 (fun q => w.heap.size + 3 ≤ q) r.1.1 a2 c2 r.1.2) := by
      refine Calls.mono HD.out ?_
      rintro e w2 ⟨he, A', a2, c2, ks2, hk2, hU⟩
      obtain ⟨cur', z1, _, z3⟩ := hU.node
      have h3 : cur' = #[.string r.1.1.1, .int .i64 r.1.1.2, .slice a2 (lenF r.1.2) c2] := by
        have e0 := z3.c0; have e1 := z3.c1; have e2 := z3.c2
        rw [kv_len hk2] at e2
        apply Array.ext_getElem?
        intro k
        match k with
        | 0 => exact e0
        | 1 => exact e1
        | 2 => exact e2
        | k + 3 => rw [Array.getElem?_eq_none (by rw [z1]; simp), Array.getElem?_eq_none (by simp)]
      have hlow : ∀ q, q < w.heap.size + 3 → q ≠ w.heap.size → w2.heap[q]? = W1.heap[q]? := fun q hq hne => hU.same q (by omega) (fun h => by have h : W0.heap.size ≤ q := h; omega) hne
      refine ⟨he, a2, c2, by have := z3.blk; rw [h3] at this; exact this, (hlow _ (by omega) (by omega)).trans HY2.out, ⟨hU.low.os.trans HBW.out.os, hU.low.tape.trans HBW.out.tape, hU.low.output.trans HBW.out.output, Nat.le_trans HBW.out.size hU.low.size, fun q hq => (hlow q (by omega) (by omega)).trans (HBW.out.block q hq)⟩, ?_⟩
      refine (z3.row.tmL z3.nm hk2).mono (fun q hq => ?_)
      rcases hU.new q hq with h | h
      · have h : W0.heap.size ≤ q := h
        omega
      · omega
    have HD2 := hid hD2
    clear hD2 HD hws
    go_wp2_with (first | (go_at_call 24; refine HD2.out.mono ?_; rintro e w2 ⟨rfl, a2, c2, HX, HZ, HB2, HF⟩; obtain ⟨V, hV⟩ : ∃ V, w2.alloc (.cells (stepC r.2 none 0 0) 47) = V := ⟨_, rfl⟩; have hbv : Below w2.heap.size w2 V := (by rw [← hV]; exact alloc_below0 _ _); have Z := HZ.out.below hbv; have z0 := Z.v (k := 0) rfl; have z1 := Z.v (k := 1) rfl; have z2 := Z.v (k := 2) rfl; have f0 := Z.f 0; have f1 := Z.f 1; have f2 := Z.f 2; have X := HX.out.below hbv; have x0 := X.v (k := 0) rfl; have x1 := X.v (k := 1) rfl; have x2 := X.v (k := 2) rfl; have HZV := hid Z; have HBV := hid (HB2.out.trans (hbv.mono HB2.out.size)); have HFV := hid (HF.out.below hbv); clear Z X hbv) | fail)
    refine ret_term rfl rfl (sets3_box HZV.out _ _ _) rfl rfl ?_
    refine ⟨a2, c2, rfl, (HFV.out.keep (fun q hq hlt => (sets3_fr _ _ _).same q hlt (by omega))).mono (fun q hq => by omega), HBV.out.trans ((sets3_fr _ _ _).below (fun k hk => by omega) HBV.out.size)⟩
end Go.Proofs.YtokbgbbkopmngaaGreat
/- Paths put together. -/
namespace Go.Proofs.YtokbgbbkopmngaaGreat
open Go.RowKit Go.Deep

theorem intsV_one (l : List Int) : ∀ u ∈ intsV l, u.oneCell' = true := fun u hu => by
  obtain ⟨k, _, rfl⟩ := List.mem_map.1 hu
  rfl
theorem intsV_len (l : List Int) : (intsV l).length = l.length := by unfold intsV; rw [List.length_map]
theorem intsV_app (a b : List Int) : intsV (a ++ b) = intsV a ++ intsV b := by unfold intsV; rw [List.map_append]
set_option maxRecDepth 100000 in
/-- Numbers behind a list of one's own. -/
theorem app_ints {w : World} {B k : Nat} {v : Value} {xs : List Value} {pa : Option Addr} {pn pc : Nat} {ps : List Int} (ty : TypeId) (h : w.ownsRow B 3 1 v k xs) (hI : IntsAt w pa pn ps) (hk : k ≤ 2097152) (hp : pn ≤ 2097152) (hB : B ≤ w.heap.size) :
    ∃ v' w', (Builtin.append_ #[45, 45] ty #[v, .slice pa pn pc]).run Tryz.prog w = .ok v' w' ∧ w'.ownsRow B 3 1 v' (k + pn) (xs ++ intsV ps) ∧ w.grownBy w' v.ownBlock := by
  obtain ⟨i0, hi0, hz0, hz1, hz2⟩ := info_parts Tryz.info3
  obtain rfl := hI.len
  cases pa with
  | none =>
    have h0 : ps = [] := by
      cases ps with
      | nil => rfl
      | cons x r => obtain ⟨b, off, e, _⟩ := hI.cells 0 (by simp); cases e
    subst h0
    have : (Builtin.append_ #[45, 45] ty #[v, .slice none 0 pc]).run Tryz.prog w = .ok v w := by
      rcases h.2 with ⟨rfl, rfl⟩ | ⟨g, cap, cur, rfl, _, _, hnc, _⟩
      · simp [Builtin.append_, run_underlying Tryz.underlying45, sizeOf, typeInfo, hi0, Builtin.lenOf, Builtin.firstCells]
      · simp [Builtin.append_, run_underlying Tryz.underlying45, sizeOf, typeInfo, hi0, Builtin.lenOf, Builtin.firstCells, hnc, storeCells]
    exact ⟨_, _, this, by simpa [intsV] using h, ⟨rfl, rfl, rfl, Nat.le_refl _, fun _ _ _ => rfl⟩⟩
  | some ad =>
    obtain ⟨v', w1, hr1, hA1, hG1, _, _⟩ := run_append_own_at (P := Tryz.prog) w B 45 ty 3 i0 _ 1 8 Tryz.underlying45 hi0 hz0 hz1 hz2 rfl (by decide) v k xs h ad ps.length pc (intsV ps) (by rw [intsV_len, Nat.mul_one])
      (fun j u hu => by
        have hj : j < ps.length := by have := (List.getElem?_eq_some_iff.1 hu).1; rwa [intsV_len] at this
        obtain ⟨b, off, e, hc⟩ := hI.cells j hj
        cases e
        rw [Addr.add_lit]
        unfold intsV at hu
        rw [List.getElem?_map, List.getElem?_eq_getElem hj] at hu
        cases hu
        exact hc) (intsV_one ps) (by unfold maxLen; omega) (by omega) hB
    exact ⟨v', w1, hr1, hA1, hG1⟩
theorem ints_of_owns {w : World} {B k : Nat} {v : Value} {l : List Int} (h : w.ownsRow B 3 1 v k (intsV l)) (hk : k = l.length) : ∃ a c, v = .slice a k c ∧ IntsAt w a k l ∧ k ≤ c ∧ c ≤ maxLen ∧ ∀ ad, a = some ad → B ≤ ad.block := by
  rcases h.2 with ⟨h1, h2⟩ | ⟨g, c, cur, h1, h2, h3, h4, h5, h6, h7⟩
  · have e : l = [] := List.length_eq_zero_iff.1 (by omega)
    subst e
    exact ⟨none, 0, by rw [h1, h2], ⟨hk, fun i hi => absurd hi (by simp)⟩, by omega, Nat.zero_le _, fun ad e => by cases e⟩
  · refine ⟨some ⟨g, 0, none⟩, c, h1, ⟨hk, fun i hi => ⟨g, 0, rfl, ?_⟩⟩, h4, h5, fun ad e => by cases e; exact h2⟩
    rw [Nat.zero_add]
    refine cell_box h3 ?_
    have e1 : (intsV l)[i]? = some (.int .i64 l[i]) := by unfold intsV; rw [List.getElem?_map, List.getElem?_eq_getElem hi]; rfl
    rw [← h7, List.getElem?_take] at e1
    split at e1
    · rw [Array.getElem?_toList] at e1; exact e1
    · cases e1
end Go.Proofs.YtokbgbbkopmngaaGreat
/- A clone of numbers. -/
namespace Go.Proofs.YtokbgbbkopmngaaGreat
open Go.RowKit Go.Deep

theorem IntsAt.keep {w w' : World} {a : Option Addr} {n : Nat} {ps : List Int} (h : IntsAt w a n ps) (hk : ∀ ad, a = some ad → w'.heap[ad.block]? = w.heap[ad.block]?) : IntsAt w' a n ps :=
  ⟨h.len, fun i hi => by obtain ⟨b, o, e, hc⟩ := h.cells i hi; exact ⟨b, o, e, (World.cell?_of_block (w := w) (w' := w') (a := ⟨b, o + i, none⟩) (hk ⟨b, o, none⟩ e)).trans hc⟩⟩
theorem clone_run {w : World} {ps : List Int} {a : Addr} {pn pc : Nat} (hI : IntsAt w (some a) pn ps) (hn : pn ≤ 1048576) :
    ∃ a2 c2 w', (Builtin.append_ #[45, 45] 45 #[.slice (some ⟨w.heap.size, 0, none⟩) 0 0, .slice (some a) pn pc]).run Tryz.prog (w.alloc (.cells #[] 3)) = .ok (.slice a2 pn c2) w' ∧ IntsAt w' a2 pn ps ∧ pn ≤ c2 ∧ c2 ≤ maxLen ∧ Below w.heap.size w w' ∧ ∀ ad, a2 = some ad → w.heap.size ≤ ad.block := by
  have b0 : Below w.heap.size w (w.alloc (.cells #[] 3)) := alloc_below0 w _
  have hE : (w.alloc (.cells #[] 3)).ownsRow w.heap.size 3 1 (.slice (some ⟨w.heap.size, 0, none⟩) 0 0) 0 [] := ⟨rfl, .inr ⟨w.heap.size, 0, #[], rfl, Nat.le_refl _, World.alloc_heap_new w _, Nat.le_refl _, Nat.zero_le _, rfl, rfl⟩⟩
  obtain ⟨v1, w1, hr1, hA1, hG1⟩ := app_ints (pc := pc) 45 hE (hI.below b0) (by omega) (by omega) b0.size
  have hb1 : Below w.heap.size w w1 := below_grown b0 hG1 (fun k hk => by have h7 : some w.heap.size = some k := hk; have := Option.some.inj h7; omega)
  rw [List.nil_append, Nat.zero_add] at hA1
  obtain ⟨a2, c2, rfl, h1, h2, h3, h4⟩ := ints_of_owns hA1 hI.len
  exact ⟨a2, c2, w1, hr1, h1, h2, h3, hb1, h4⟩
set_option maxRecDepth 100000 in
set_option maxHeartbeats 2000000 in
theorem clonei_any (p : Option Addr) (pn pc : Nat) (ps : List Int) (w : World) (hI : IntsAt w p pn ps) (hn : pn ≤ 1048576) :
    Calls Tryz.prog 87 #[.slice p pn pc] w fun e w' => ∃ q d, e = .returned (.slice q pn d) ∧ IntsAt w' q pn ps ∧ pn ≤ d ∧ d ≤ maxLen ∧ Below w.heap.size w w' ∧ ∀ ad, q = some ad → w.heap.size ≤ ad.block := by
  cases p with
  | none =>
    have hn : ps = [] := by
      rcases Nat.eq_zero_or_pos ps.length with h0 | h0
      · exact List.eq_nil_of_length_eq_zero h0
      · obtain ⟨_, _, h1, _⟩ := hI.cells 0 h0
        cases h1
    subst hn
    obtain rfl : pn = 0 := hI.len
    have h1 : (binOp .eql 45 (.slice none 0 pc) (.slice none 0 0)).run Tryz.prog w = .ok (.bool true) w := rfl
    have HI := hid hI
    clear hI
    show Calls Tryz.prog 87 #[.slice none 0 pc] w _
    go_enter Tryz.func87, Tryz.ntmps87
    go_wp2_with fail
    go_ret
    exact ⟨none, 0, rfl, HI.out, Nat.le_refl _, Nat.zero_le _, Below.refl _ _, fun ad h => by cases h⟩
  | some a =>
    have h1 : (binOp .eql 45 (.slice (some a) pn pc) (.slice none 0 0)).run Tryz.prog w = .ok (.bool false) w := rfl
    obtain ⟨g, cap, w1, hr1, hA1, hc1, hm1, hB1, hlo⟩ := clone_run (pc := pc) hI hn
    have HA1 := hid hA1; have HB1 := hid hB1; have HC1 := hid hc1; have HM1 := hid hm1; have HLO := hid hlo
    clear hI hA1 hB1 hc1 hm1 hlo
    go_enter Tryz.func87, Tryz.ntmps87
    go_wp2_with (first
      | (at_builtin; refine Lib.wpList_append_run _ rfl _ _ _ _ rfl _ _ rfl rfl _ _ hr1 ?_; clear hr1)
      | fail)
    go_ret
    exact ⟨_, _, rfl, HA1.out, HC1.out, HM1.out, HB1.out, HLO.out⟩
end Go.Proofs.YtokbgbbkopmngaaGreat
/- Back. -/
namespace Go.Proofs.YtokbgbbkopmngaaGreat
open Go.RowKit Go.Deep

/-- What Back answers: the step that leads back, its path in new memory. -/
def BackEnd (w : World) (ps : List Int) (r : Option (Tn × Sp)) (e : Ending) (w' : World) : Prop := ∃ q n d, e = .returned (.tuple #[stepV (ansSp r) q n d, .int .i64 (ansC r)]) ∧ (r ≠ none → IntsAt w' q n ps) ∧ n ≤ 1048576 ∧ n ≤ d ∧ d ≤ maxLen ∧ Below w.heap.size w w' ∧ ∀ ad, q = some ad → w.heap.size ≤ ad.block
theorem set1_fr {W : World} {B k : Nat} (v : Value) : Fr (fun q => q = B) W (W.setCell ⟨B, k, none⟩ v) := ⟨(Below.refl 0 W).setCell (p := ⟨B, k, none⟩) (Nat.zero_le _) _, fun _ _ hq => set_far hq _⟩

end Go.Proofs.YtokbgbbkopmngaaGreat
/- How a term that came in is opened into a forest. -/
namespace Go.Proofs.YtokbgbbkopmngaaGreat
open Go.ChangeShapes Go.WideShapes Go.ChangeAt Go.RowKit Go.Deep

theorem own : ownKnob Tryz.prog.godebug = none := by kernel_rfl
theorem laidOut : laidOutB Tryz.prog = true := by kernel_rfl
theorem addr_add (b off i : Nat) : (⟨b, off, none⟩ : Addr).add i = ⟨b, off + i, none⟩ := by
  unfold Addr.add
  split
  · rename_i h; subst h; rfl
  · rfl
theorem Tryz.cells26 : Tryz.prog.cellsOf 26 = 3 := by kernel_rfl
theorem Tryz.cells24 : Tryz.prog.cellsOf 24 = 1 := by kernel_rfl
theorem Tryz.cells9 : Tryz.prog.cellsOf 9 = 1 := by kernel_rfl
theorem Tryz.cells3 : Tryz.prog.cellsOf 3 = 1 := by kernel_rfl
theorem Tryz.bytes26 : Tryz.prog.bytesOf 26 = 48 := by kernel_rfl


/-- Small enough, by one of the two forms' bounds. -/
def Sz {H : Type} (d : DataW H) : Prop := (∀ m ∈ d.weights Tryz.prog 26, m ≤ 140737488351232) ∨ Rows.uptoBulk d ≤ 1048576
theorem weights_all {H : Type} {e : TypeId} {m : Nat} : ∀ {ds : List (DataW H)} {d : DataW H}, d ∈ ds → m ∈ d.weights Tryz.prog e → m ∈ DataW.weightsAll Tryz.prog e ds
  | d' :: r, d, hd, hm => by
    simp only [DataW.weightsAll, List.mem_append]
    rcases List.mem_cons.1 hd with rfl | h
    · exact .inl hm
    · exact .inr (weights_all h hm)
theorem bulk_all {H : Type} : ∀ {ds : List (DataW H)} {d : DataW H}, d ∈ ds → Rows.uptoBulk d ≤ Rows.uptoBulkAll ds
  | d' :: r, d, hd => by
    simp only [Rows.uptoBulkAll]
    rcases List.mem_cons.1 hd with rfl | h
    · omega
    · have := bulk_all h; omega
theorem bulk_pos {H : Type} (d : DataW H) : 1 ≤ Rows.uptoBulk d := by
  cases d with
  | lit l => cases l <;> simp [Rows.uptoBulk]
  | _ => simp [Rows.uptoBulk]
theorem bulk_len {H : Type} : ∀ ds : List (DataW H), ds.length ≤ Rows.uptoBulkAll ds
  | [] => Nat.le_refl _
  | d :: r => by
    have := bulk_len r
    have := bulk_pos d
    simp only [Rows.uptoBulkAll, List.length_cons]; omega

/-- Terms side by side make a forest. -/
theorem forest_of {H : Type} {W : World} {b : Nat} : ∀ (ds : List (DataW H × List MemPlace)) (o : Nat),
    (∀ (i : Nat) (h : i < ds.length), ∃ (p : ByteArray × Int) (a : Option Addr) (c : Nat) (l : Fo), (W.cell? ⟨b, o + i * 3, none⟩ = some (.string p.1) ∧ W.cell? ⟨b, o + i * 3 + 1, none⟩ = some (.int .i64 p.2) ∧ W.cell? ⟨b, o + i * 3 + 2, none⟩ = some (.slice a (lenF l) c)) ∧ TmAt W p a c l ∧ nodesF l + 1 ≤ Rows.uptoBulk ds[i].1) →
    ∃ F : Fo, lenF F = ds.length ∧ KidsAt W F b o ∧ nodesF F ≤ Rows.uptoBulkAll (ds.map (·.1))
  | [], o, _ => ⟨.nil, rfl, trivial, Nat.zero_le _⟩
  | d :: r, o, h => by
    obtain ⟨F, hl, hk, hn⟩ := forest_of r (o + 3) (fun i hi => by
      obtain ⟨p, a, c, l, ⟨h0, h1, h2⟩, h3, h4⟩ := h (i + 1) (by simpa using hi)
      rw [show o + (i + 1) * 3 = o + 3 + i * 3 by omega] at h0 h1 h2
      exact ⟨p, a, c, l, ⟨h0, h1, h2⟩, h3, h4⟩)
    obtain ⟨p, a, c, l, ⟨h0, h1, h2⟩, h3, h4⟩ := h 0 (by simp)
    simp only [Nat.zero_mul, Nat.add_zero, List.getElem_cons_zero] at h0 h1 h2 h4
    refine ⟨.node 0 0 p l F, by simp [lenF, hl], ⟨⟨a, c, h0, h1, h2, h3.sizes, h3.args⟩, hk⟩, ?_⟩
    simp only [nodesF, List.map_cons, Rows.uptoBulkAll]
    omega

set_option maxRecDepth 100000 in
theorem term_open {H : Type} {enc : TypeId × Value → H} {W : World} : ∀ (fuel : Nat) (cs : List Value) (x : DataW H × List MemPlace), DataW.trod enc Tryz.prog W 0 (fun _ => true) true fuel 26 cs = some x → Sz x.1 →
    ∃ (p : ByteArray × Int) (a : Option Addr) (c : Nat) (l : Fo), cs = [.string p.1, .int .i64 p.2, .slice a (lenF l) c] ∧ TmAt W p a c l ∧ nodesF l + 1 ≤ Rows.uptoBulk x.1 := by
  intro fuel
  induction fuel using Nat.strongRecOn with
  | _ fuel ih =>
    intro cs x h hz
    obtain ⟨xs, n, hfuel, hx, hl, hlen, hf⟩ := DataW.trod_struct Tryz.underlying26 h
    rw [Tryz.cells26] at hl
    match xs, hlen, cs, hl with
    | [y0, y1, y2], _, [v0, v1, v2], _ =>
      have g0 := hf 0 _ rfl
      have g1 := hf 1 _ rfl
      have g2 := hf 2 _ rfl
      simp [Tryz.cells9, Tryz.cells3, Tryz.cells24] at g0 g1 g2
      obtain ⟨s0, e0, k0, f0⟩ := DataW.trod_string Tryz.underlying9 g0
      obtain ⟨n1, e1, k1, _⟩ := DataW.trod_int Tryz.underlying3 g1
      simp at e0 e1
      subst e0 e1 hx
      rcases DataW.trod_slice Tryz.underlying24 g2 with ⟨hcs, h2⟩ | ⟨ad, len, c, elems, rest, n', hn', hcs, h2, _, hlc, hcm, hlen2, hel, _, _⟩
      · simp at hcs
        subst hcs
        exact ⟨(s0, n1), none, 0, .nil, rfl, ⟨⟨f0, by simp [lenF], by simp, by simp [lenF]⟩, .inl rfl⟩, by simp [nodesF, Rows.uptoBulk, Rows.uptoBulkAll]⟩
      · simp at hcs
        subst hcs
        rw [Tryz.cells26] at hel
        have hb2 : Rows.uptoBulkAll (elems.map (·.1)) + 1 ≤ Rows.uptoBulk (DataW.agg (List.map (·.1) [y0, y1, y2])) := by
          simp only [List.map_cons, List.map_nil, Rows.uptoBulk, Rows.uptoBulkAll, h2]; omega
        have hsub : ∀ d ∈ elems, Sz d.1 := by
          intro d hd
          rcases hz with hz | hz
          · refine .inl fun m hm => hz m ?_
            have : m ∈ DataW.weightsAll Tryz.prog 26 (elems.map (·.1)) := weights_all (List.mem_map_of_mem hd) hm
            simp [DataW.weights, Tryz.underlying26, DataW.weightsEach, h2, Tryz.underlying24, this]
          · refine .inr ?_
            have := bulk_all (List.mem_map_of_mem (f := (·.1)) hd)
            simp only at hz
            omega
        have hfew : len * 48 ≤ 140737488351232 := by
          rcases hz with hz | hz
          · have := hz ((elems.length + rest.length) * 48) (by simp [DataW.weights, Tryz.underlying26, DataW.weightsEach, h2, Tryz.underlying24, Tryz.bytes26])
            rw [hlen2] at this
            omega
          · have := bulk_len (elems.map (·.1))
            rw [List.length_map, hlen2] at this
            simp only at hz
            omega
        have each : ∀ i (hi : i < elems.length), ∃ (p : ByteArray × Int) (a : Option Addr) (c : Nat) (l : Fo), W.cells? 0 (ad.add (i * 3)) 3 = some [.string p.1, .int .i64 p.2, .slice a (lenF l) c] ∧ TmAt W p a c l ∧ nodesF l + 1 ≤ Rows.uptoBulk elems[i].1 := by
          intro i hi
          have h1 := hel i (by omega)
          rw [List.getElem?_eq_getElem hi] at h1
          cases hc : W.cells? 0 (ad.add (i * 3)) 3 with
          | none => rw [hc] at h1; cases h1
          | some cs' =>
            rw [hc] at h1
            obtain ⟨p, a, c, l, rfl, h3, h4⟩ := ih n' (by omega) cs' elems[i] h1 (hsub _ (List.getElem_mem hi))
            exact ⟨p, a, c, l, rfl, h3, h4⟩
        by_cases hz0 : len = 0
        · subst hz0
          exact ⟨(s0, n1), some ad, c, .nil, rfl, ⟨⟨f0, by simp [lenF], hcm, by simp [lenF]⟩, .inl rfl⟩, by simp only [nodesF]; omega⟩
        · obtain ⟨b, off, spot⟩ := ad
          have hspot : spot = none := by
            obtain ⟨p, a, c, l, h3, _⟩ := each 0 (by omega)
            obtain ⟨_, _, h30⟩ := World.cells?_some h3
            have := h30 0 (by omega)
            simpa [Addr.add] using World.cell?_spot this
          subst hspot
          obtain ⟨F, hFl, hFk, hFn⟩ := forest_of (W := W) (b := b) elems off (fun i hi => by
            obtain ⟨p, a, c, l, h3, h4, h5⟩ := each i hi
            rw [addr_add] at h3
            obtain ⟨_, _, h30⟩ := World.cells?_some h3
            have q0 := h30 0 (by omega)
            have q1 := h30 1 (by omega)
            have q2 := h30 2 (by omega)
            rw [addr_add] at q0 q1 q2
            exact ⟨p, a, c, l, ⟨q0, q1, q2⟩, h4, h5⟩)
          have hFl' : lenF F = len := by rw [hFl, hlen2]
          exact ⟨(s0, n1), some ⟨b, off, none⟩, c, F, by rw [hFl'], ⟨⟨f0, by omega, hcm, by rw [hFl']; exact hfew⟩, .inr ⟨b, off, rfl, hFk⟩⟩, Nat.le_trans (Nat.succ_le_succ hFn) hb2⟩

end Go.Proofs.YtokbgbbkopmngaaGreat
/- What the statements' own 'right' answers of a signature, two terms and a list. -/
namespace Go.Proofs.YtokbgbbkopmngaaGreat
open Go.RowKit Go.Deep

/-- What a statement is asked about, in memory. -/
structure TwoAt (w : World) (S : Option Addr) (n : Nat) (l : List Sym) (A B : Tn) (a b : Option Addr) (c d : Nat) (La : Option Addr) (F : Fo) : Prop where
  sig : SigAt w S n l
  a : TmAt w A.1 a c A.2
  b : TmAt w B.1 b d B.2
  l : ArgsAt w La F
  few : lenF F * 48 ≤ 140737488351232
set_option maxRecDepth 100000 in
theorem TwoAt.below {w w' : World} {S : Option Addr} {n : Nat} {l : List Sym} {A B : Tn} {a b : Option Addr} {c d : Nat} {La : Option Addr} {F : Fo} (h : TwoAt w S n l A B a b c d La F) (hb : Below w.heap.size w w') : TwoAt w' S n l A B a b c d La F :=
  ⟨h.sig.below hb, h.a.below hb, h.b.below hb, h.l.below hb, h.few⟩
def twoC (S : Option Addr) (n cap : Nat) (A B : Tn) (a b : Option Addr) (c d : Nat) (f : Int) (La : Option Addr) (F : Fo) (lc : Nat) : Array Value :=
  #[.slice S n cap, .string A.1.1, .int .i64 A.1.2, .slice a (lenF A.2) c, .string B.1.1, .int .i64 B.1.2, .slice b (lenF B.2) d, .int .i64 f, .slice La (lenF F) lc]
/-- The box of it. -/
def WBox (W : World) (g : Nat) (cs : Array Value) : Prop := W.heap[g]? = some (.cells cs 28 (0, 0))
set_option maxRecDepth 100000 in
theorem WBox.below {W W' : World} {g : Nat} {cs : Array Value} (h : WBox W g cs) (hb : Below W.heap.size W W') : WBox W' g cs := (hb.block g (Array.getElem?_eq_some_iff.1 h).1).trans h
set_option maxRecDepth 100000 in
theorem WBox.c {W : World} {g : Nat} {cs : Array Value} (h : WBox W g cs) (k : Nat) {v : Value} (hv : cs[k]? = some v) : W.cell? ⟨g, k, none⟩ = some v := by simp [World.cell?, show W.heap[g]? = _ from h, hv]

end Go.Proofs.YtokbgbbkopmngaaGreat
/- How what a statement of layer 4 is asked about is opened: a signature, two terms, a symbol's place, a list of terms. -/
namespace Go.Proofs.YtokbgbbkopmngaaGreat
open Go.ChangeShapes Go.WideShapes Go.ChangeAt Go.RowKit Go.Deep

set_option maxRecDepth 100000 in
theorem list_of_each {α : Type} {p : Nat → α → Prop} : ∀ n : Nat, (∀ i, i < n → ∃ x, p i x) → ∃ l : List α, l.length = n ∧ ∀ i (h : i < l.length), p i l[i]
  | 0, _ => ⟨[], rfl, fun i h => absurd h (by simp)⟩
  | n + 1, h => by
    obtain ⟨l, hl, hp⟩ := list_of_each n (fun i hi => h i (by omega))
    obtain ⟨x, hx⟩ := h n (by omega)
    refine ⟨l ++ [x], by simp [hl], fun i hi => ?_⟩
    by_cases hin : i < l.length
    · rw [List.getElem_append_left hin]; exact hp i hin
    · have : i = n := by simp at hi; omega
      subst this
      rw [List.getElem_append_right (by omega)]
      simpa [hl] using hx

set_option maxRecDepth 100000 in
theorem Tryz.cells63 : Tryz.prog.cellsOf 63 = 4 := by kernel_rfl
set_option maxRecDepth 100000 in
theorem Tryz.cells61 : Tryz.prog.cellsOf 61 = 1 := by kernel_rfl
set_option maxRecDepth 100000 in
/-- One symbol's reading. -/
theorem sym_open {H : Type} {enc : TypeId × Value → H} {W : World} {base : Nat} {spare : Nat → Bool} {held : Bool} {fuel : Nat} {cs : List Value} {x : DataW H × List MemPlace}
    (h : DataW.trod enc Tryz.prog W base spare held fuel 63 cs = some x) : ∃ y : Sym, cs = [.string y.name, .int .i64 y.kind, .int .i64 y.arity, .string y.unit] ∧ y.Fits := by
  obtain ⟨y0, y1, y2, y3, n, _, hl, h0, h1, h2, h3⟩ := Joins.trod_struct4 Tryz.underlying63 h
  rw [Tryz.cells63] at hl
  simp only [Tryz.cells9, Tryz.cells61, Tryz.cells3] at h0 h1 h2 h3
  match cs, hl with
  | [c0, c1, c2, c3], _ =>
    obtain ⟨s0, e0, _, f0⟩ := DataW.trod_string Tryz.underlying9 h0
    obtain ⟨n1, e1, _, _⟩ := DataW.trod_int Tryz.underlying61 h1
    obtain ⟨n2, e2, _, _⟩ := DataW.trod_int Tryz.underlying3 h2
    obtain ⟨s3, e3, _, f3⟩ := DataW.trod_string Tryz.underlying9 h3
    simp at e0 e1 e2 e3
    subst e0 e1 e2 e3
    exact ⟨⟨s0, n1, n2, s3⟩, rfl, f0, f3⟩

set_option maxRecDepth 100000 in
theorem sig_open {H : Type} {enc : TypeId × Value → H} {W : World} {fuel : Nat} {v : Value} {y : DataW H × List MemPlace}
    (hf : DataW.trod enc Tryz.prog W 0 (fun _ => true) true fuel 23 [v] = some y) :
    ∃ a len cap l, v = .slice a len cap ∧ SigAt W a len l ∧ len ≤ cap := by
  rcases DataW.trod_slice Tryz.underlying23 hf with ⟨hcs, _⟩ | ⟨x, len, cap, elems, rest, n, _, hcs, hx, hb, hl, hm, hlen, hel, _, _⟩
  · simp at hcs
    subst hcs
    exact ⟨none, 0, 0, [], rfl, ⟨rfl, by simp, fun i hi => absurd hi (by simp), fun s hs => absurd hs (by simp)⟩, Nat.le_refl _⟩
  · simp at hcs
    subst hcs
    rw [Tryz.cells63] at hel
    have each : ∀ i, i < len → ∃ y : Sym, (∃ cs, W.cells? 0 (x.add (i * 4)) 4 = some cs ∧ cs = [.string y.name, .int .i64 y.kind, .int .i64 y.arity, .string y.unit]) ∧ y.Fits := by
      intro i hi
      have h1 := hel i hi
      rw [List.getElem?_eq_getElem (by omega)] at h1
      cases hc : W.cells? 0 (x.add (i * 4)) 4 with
      | none => rw [hc] at h1; cases h1
      | some cs =>
        rw [hc] at h1
        obtain ⟨y, hy, hyf⟩ := sym_open h1
        exact ⟨y, ⟨cs, rfl, hy⟩, hyf⟩
    obtain ⟨ll, hll, hp⟩ := list_of_each len each
    refine ⟨some x, len, cap, ll, rfl, ⟨hll.symm, by omega, fun i hi => ?_, fun y hy => ?_⟩, hl⟩
    · obtain ⟨⟨cs, h1, h2⟩, _⟩ := hp i hi
      obtain ⟨b, off, spot⟩ := x
      have hspot : spot = none := by
        obtain ⟨⟨cs0, h10, h20⟩, _⟩ := hp 0 (by omega)
        obtain ⟨_, _, h30⟩ := World.cells?_some h10
        have := h30 0 (by omega)
        rw [h20] at this
        simpa [Addr.add] using World.cell?_spot this
      subst hspot
      refine ⟨b, off, rfl, ?_⟩
      rw [addr_add] at h1
      obtain ⟨_, _, h3⟩ := World.cells?_some h1
      subst h2
      have k0 := h3 0 (by omega)
      have k1 := h3 1 (by omega)
      have k2 := h3 2 (by omega)
      have k3 := h3 3 (by omega)
      rw [addr_add] at k0 k1 k2 k3
      exact ⟨k0, k1, k2, k3⟩
    · obtain ⟨i, hi, rfl⟩ := List.getElem_of_mem hy
      exact (hp i hi).2


set_option maxRecDepth 100000 in
theorem Tryz.cells23 : Tryz.prog.cellsOf 23 = 1 := by kernel_rfl
end Go.Proofs.YtokbgbbkopmngaaGreat
/- How a signature, two terms and steps that came in are opened. -/
namespace Go.Proofs.YtokbgbbkopmngaaGreat
open Go.ChangeShapes Go.WideShapes Go.ChangeAt Go.RowKit Go.Deep

set_option maxRecDepth 100000 in
theorem Tryz.cells29 : Tryz.prog.cellsOf 29 = 8 := by kernel_rfl
/-- A step's cells, and its path. -/
structure StAt (w : World) (b o : Nat) (x : St) (pa : Option Addr) (pn pc : Nat) : Prop where
  kind : w.cell? ⟨b, o, none⟩ = some (.int .i64 x.sp.kind)
  path : w.cell? ⟨b, o + 1, none⟩ = some (.slice pa pn pc)
  at_ : w.cell? ⟨b, o + 2, none⟩ = some (.int .i64 x.sp.at_)
  many : w.cell? ⟨b, o + 3, none⟩ = some (.int .i64 x.sp.many)
  sym : w.cell? ⟨b, o + 4, none⟩ = some (.int .i64 x.sp.sym)
  ints : IntsAt w pa pn x.path
  few : pn ≤ 1048576
  fits : pn ≤ pc
  cap : pc ≤ maxLen
theorem StAt.below {w w' : World} {b o : Nat} {x : St} {pa : Option Addr} {pn pc : Nat} (h : StAt w b o x pa pn pc) (hb : Below w.heap.size w w') : StAt w' b o x pa pn pc :=
  ⟨below_cell hb _ _ h.kind, below_cell hb _ _ h.path, below_cell hb _ _ h.at_, below_cell hb _ _ h.many, below_cell hb _ _ h.sym, h.ints.below hb, h.few, h.fits, h.cap⟩
/-- The slice with this address and length holds these steps. -/
structure StpsAt (w : World) (a : Option Addr) (n : Nat) (l : List St) : Prop where
  len : n = l.length
  few : n ≤ 1048576
  cells : ∀ i (h : i < l.length), ∃ b off pa pn pc, a = some ⟨b, off, none⟩ ∧ StAt w b (off + i * 5) l[i] pa pn pc
theorem StpsAt.below {w w' : World} {a : Option Addr} {n : Nat} {l : List St} (h : StpsAt w a n l) (hb : Below w.heap.size w w') : StpsAt w' a n l :=
  ⟨h.len, h.few, fun i hi => by obtain ⟨b, off, pa, pn, pc, e, hs⟩ := h.cells i hi; exact ⟨b, off, pa, pn, pc, e, hs.below hb⟩⟩
end Go.Proofs.YtokbgbbkopmngaaGreat
/- The document's joins, unit and laid. -/
namespace Go.Proofs.YtokbgbbkopmngaaGreat
open Go.RowKit Go.Deep

set_option maxRecDepth 100000 in
set_option maxHeartbeats 1000000 in
theorem djoins_any (S : Option Addr) (n cap : Nat) (L : List Sym) (t : Tn) (a : Option Addr) (c : Nat) (w : World) (h : SigAt w S n L) :
    Calls Tryz.prog 50 #[.slice S n cap, .agg #[.string t.1.1, .int .i64 t.1.2, .slice a (lenF t.2) c]] w fun e w' => e = .returned (.bool (gathN (sgOf L) t)) ∧ Below w.heap.size w w' := by
  obtain ⟨⟨nm, f⟩, F⟩ := t
  obtain ⟨m, hm'⟩ : ∃ m, lenF F = m := ⟨_, rfl⟩
  rw [hm']
  have hb := TBox.new w (nm, f) a m c
  have hlow : Below w.heap.size w (w.alloc (.cells #[.string nm, .int .i64 f, .slice a m c] 26)) := alloc_below0 w _
  have HL := hid hlow
  have HS : Hid (SigAt (w.alloc (.cells #[.string nm, .int .i64 f, .slice a m c] 26)) S n L) := h.below hlow
  have hm := h.small
  unfold maxLen at hm
  obtain rfl := h.len
  have E : Hid (gathN (sgOf L) ((nm, f), F) = (noName nm && joinsAt L f)) := rfl
  clear h hlow hm'
  cases hx : nm.toList.isEmpty
  · have hr : Hid (noName nm = false) := hx
    go_enter Tryz.func50, Tryz.ntmps50
    go_wp2
    go_ret
    exact ⟨by rw [E.out, hr.out]; rfl, HL.out⟩
  · have hr : Hid (noName nm = true) := hx
    by_cases h0 : f < 0
    · have e : Hid (joinsAt L f = false) := by show _ = _; unfold joinsAt; rw [symAt_out (by omega)]
      have hd : ¬ 0 ≤ f := by omega
      go_enter Tryz.func50, Tryz.ntmps50
      go_wp2
      go_ret
      exact ⟨by rw [E.out, hr.out, e.out]; rfl, HL.out⟩
    · obtain ⟨k, rfl⟩ : ∃ k : Nat, f = k := ⟨f.toNat, by omega⟩
      have hk0 : (0 : Int) ≤ (k : Int) := by omega
      by_cases hk : k < L.length
      · obtain ⟨b, off, rfl, hs⟩ := HS.out.cells k hk
        have e : Hid (joinsAt L (k : Int) = (decide (L[k].kind = 2) || decide (L[k].kind = 3))) := by show _ = _; unfold joinsAt; rw [symAt_in hk]
        obtain ⟨s, hs1⟩ : ∃ s, L[k] = s := ⟨_, rfl⟩
        rw [hs1] at hs e
        have c1 := hs.kind
        have hkn : (k : Int) < (L.length : Int) := by omega
        clear hs hs1 h0
        by_cases h2 : s.kind = 2
        · have hd : (s.kind == 2) = true := by simp [h2]
          go_enter Tryz.func50, Tryz.ntmps50
          go_wp2
          go_ret
          exact ⟨by rw [E.out, hr.out, e.out]; simp [h2], HL.out⟩
        · have hd : (s.kind == 2) = false := by simp [h2]
          by_cases h3 : s.kind = 3
          · have hd3 : (s.kind == 3) = true := by simp [h3]
            go_enter Tryz.func50, Tryz.ntmps50
            go_wp2
            go_ret
            exact ⟨by rw [E.out, hr.out, e.out]; simp [h3], HL.out⟩
          · have hd3 : (s.kind == 3) = false := by simp [h3]
            go_enter Tryz.func50, Tryz.ntmps50
            go_wp2
            go_ret
            exact ⟨by rw [E.out, hr.out, e.out]; simp [h2, h3], HL.out⟩
      · have e : Hid (joinsAt L (k : Int) = false) := by show _ = _; unfold joinsAt; rw [symAt_out (by omega)]
        have hd : ¬ (k : Int) < (L.length : Int) := by omega
        go_enter Tryz.func50, Tryz.ntmps50
        go_wp2
        go_ret
        exact ⟨by rw [E.out, hr.out, e.out]; rfl, HL.out⟩
set_option maxRecDepth 100000 in
set_option maxHeartbeats 1000000 in
theorem dunit_any (S : Option Addr) (n cap : Nat) (L : List Sym) (f : Int) (t : Tn) (a : Option Addr) (c : Nat) (w : World) (h : SigAt w S n L) (hc : lenF t.2 ≤ 9223372036854775807) :
    Calls Tryz.prog 53 #[.slice S n cap, .int .i64 f, .agg #[.string t.1.1, .int .i64 t.1.2, .slice a (lenF t.2) c]] w fun e w' => e = .returned (.bool (isUn (sgOf L) f t)) ∧ Below w.heap.size w w' := by
  obtain ⟨ui, hui⟩ : ∃ ui, unitI L f = ui := ⟨_, rfl⟩
  have hb := TBox.new w t.1 a (lenF t.2) c
  have hlow : Below w.heap.size w (w.alloc (.cells #[.string t.1.1, .int .i64 t.1.2, .slice a (lenF t.2) c] 26)) := alloc_below0 w _
  have HL := hid hlow
  have HU := hid (runit_any S n cap L f _ (h.below hlow))
  clear h hlow
  cases huo : unitOk L f
  · have hun : Hid (isUn (sgOf L) f t = false) := by show _ = _; unfold unitOk at huo; cases hq : unitAt L f with | none => simp [isUn, sgOf, hq] | some i => rw [hq] at huo; simp at huo
    go_enter Tryz.func53, Tryz.ntmps53
    go_wp2_with (first | (go_at_call 48; refine HU.out.mono ?_; rintro e w9 ⟨he, hw9⟩; unfold UnitRet at he; rw [hui, huo] at he; subst he; rw [hw9]; clear hw9) | fail)
    go_ret
    exact ⟨by rw [hun.out]; rfl, HL.out⟩
  · have hcc : Hid (isUn (sgOf L) f t = isConst t ui) := by
      show _ = _
      rw [← hui]
      unfold unitOk at huo
      cases hq : unitAt L f with
      | none => rw [hq] at huo; simp at huo
      | some i => simp [isUn, sgOf, unitI, hq]
    cases hn : t.1.1.toList.isEmpty
    · have e : Hid (isConst t ui = false) := by show _ = _; unfold isConst noName; rw [hn]; rfl
      go_enter Tryz.func53, Tryz.ntmps53
      go_wp2_with (first | (go_at_call 48; refine HU.out.mono ?_; rintro e w9 ⟨he, hw9⟩; unfold UnitRet at he; rw [hui, huo] at he; subst he; rw [hw9]; clear hw9) | fail)
      go_ret
      exact ⟨by rw [hcc.out, e.out]; rfl, HL.out⟩
    · cases hs : (t.1.2 == ui)
      · have e : Hid (isConst t ui = false) := by show _ = _; unfold isConst; rw [hs]; simp
        go_enter Tryz.func53, Tryz.ntmps53
        go_wp2_with (first | (go_at_call 48; refine HU.out.mono ?_; rintro e w9 ⟨he, hw9⟩; unfold UnitRet at he; rw [hui, huo] at he; subst he; rw [hw9]; clear hw9) | fail)
        go_ret
        exact ⟨by rw [hcc.out, e.out]; rfl, HL.out⟩
      · have e : Hid (isConst t ui = (lenF t.2 == 0)) := by show _ = _; unfold isConst noName; rw [hs, hn]; simp
        obtain ⟨m, hnn⟩ : ∃ m, lenF t.2 = m := ⟨_, rfl⟩
        rw [hnn] at hb HL HU e hc ⊢
        clear hnn
        cases m with
        | zero =>
          go_enter Tryz.func53, Tryz.ntmps53
          go_wp2_with (first | (go_at_call 48; refine HU.out.mono ?_; rintro e w9 ⟨he, hw9⟩; unfold UnitRet at he; rw [hui, huo] at he; subst he; rw [hw9]; clear hw9) | fail)
          go_ret
          exact ⟨by rw [hcc.out, e.out]; rfl, HL.out⟩
        | succ m =>
          have hd : ((m : Int) + 1 == 0) = false := by simp; omega
          go_enter Tryz.func53, Tryz.ntmps53
          go_wp2_with (first | (go_at_call 48; refine HU.out.mono ?_; rintro e w9 ⟨he, hw9⟩; unfold UnitRet at he; rw [hui, huo] at he; subst he; rw [hw9]; clear hw9) | fail)
          go_ret
          exact ⟨by rw [hcc.out, e.out]; rfl, HL.out⟩
end Go.Proofs.YtokbgbbkopmngaaGreat
/- The document's laid. -/
namespace Go.Proofs.YtokbgbbkopmngaaGreat
open Go.RowKit Go.Deep

def takeF : Nat → Fo → Fo
  | 0, _ => .nil
  | _ + 1, .nil => .nil
  | n + 1, .node b o x l r => .node b o x l (takeF n r)
theorem len_takeF : ∀ (k : Nat) (F : Fo), k ≤ lenF F → lenF (takeF k F) = k
  | 0, _, _ => rfl
  | k + 1, .nil, h => by simp [lenF] at h
  | k + 1, .node _ _ _ _ r, h => by simp only [takeF, lenF] at h ⊢; rw [len_takeF k r (by omega)]
theorem kids_takeF : ∀ (k : Nat) (F : Fo), kidsL (takeF k F) = (kidsL F).take k
  | 0, _ => by simp [takeF, kidsL]
  | k + 1, .nil => by simp [takeF, kidsL]
  | k + 1, .node _ _ _ _ r => by simp only [takeF, kidsL, List.take_succ_cons]; rw [kids_takeF k r]
theorem KidsAt.takeF {w : World} : ∀ (k : Nat) {F : Fo} {b o : Nat}, KidsAt w F b o → KidsAt w (takeF k F) b o
  | 0, _, _, _, _ => trivial
  | _ + 1, .nil, _, _, _ => trivial
  | k + 1, .node _ _ _ _ _, _, _, h => ⟨h.1, KidsAt.takeF k h.2⟩
/-- What Clones makes of a list. -/
def ClEnd (w : World) (l : List Tn) (e : Ending) (w' : World) : Prop := ∃ v ks, e = .returned v ∧ Lst w.heap.size w' v ks ∧ (ks = [] → v = .slice none 0 0) ∧ ks.map Kv.tn = l ∧ Below w.heap.size w w'
/-- What laid makes. -/
def LdEnd (w : World) (l : List Tn) (e : Ending) (w' : World) : Prop := ∃ a c ks, e = .returned (.slice a ks.length c) ∧ Lst w.heap.size w' (.slice a ks.length c) ks ∧ ks.map Kv.tn = l ∧ Below w.heap.size w w'
theorem Lst.val {B : Nat} {W : World} {v : Value} {ks : List Kv} (h : Lst B W v ks) : ∃ a c, v = .slice a ks.length c := by
  rcases h.row.2 with ⟨h1, h2⟩ | ⟨g, c, cur, h1, _⟩
  · exact ⟨none, 0, by rw [h1, h2]⟩
  · exact ⟨_, c, h1⟩
theorem LdEnd.of {w w' : World} {l : List Tn} {v : Value} {ks : List Kv} (h : Lst w.heap.size w' v ks) (hm : ks.map Kv.tn = l) (hb : Below w.heap.size w w') : LdEnd w l (.returned v) w' := by
  obtain ⟨a, c, rfl⟩ := h.val
  exact ⟨a, c, ks, rfl, h, hm, hb⟩
theorem clones_take {w : World} {F : Fo} {b o : Nat} (k cap : Nat) (hK : KidsAt w F b o) (hk : k ≤ lenF F) (hf : lenF F ≤ 2097152) : Calls Tryz.prog 52 #[.slice (some ⟨b, o, none⟩) k cap] w (ClEnd w ((kidsL F).take k)) := by
  have := clones_any (some ⟨b, o, none⟩) (takeF k F) cap w (.inr ⟨b, o, rfl, hK.takeF k⟩) (by rw [len_takeF k F hk]; omega)
  rw [len_takeF k F hk, kids_takeF] at this
  exact this
theorem clones_drop {w : World} {F : Fo} {b o : Nat} (k cap : Nat) (hK : KidsAt w F b o) (hf : lenF F ≤ 2097152) : Calls Tryz.prog 52 #[.slice (some ⟨b, o + k * 3, none⟩) (lenF F - k) cap] w (ClEnd w ((kidsL F).drop k)) := by
  have := clones_any (some ⟨b, o + k * 3, none⟩) (dropF k F) cap w (.inr ⟨b, o + k * 3, rfl, hK.drop k⟩) (by rw [len_drop]; omega)
  rw [len_drop, kids_drop] at this
  exact this
theorem clones_none {w : World} (a : Option Addr) (cap : Nat) : Calls Tryz.prog 52 #[.slice a 0 cap] w (ClEnd w []) := by
  have h := clones_any a .nil cap w (.inl rfl) (by simp [lenF])
  simp only [lenF, kidsL] at h
  exact h
set_option maxRecDepth 100000 in
set_option maxHeartbeats 2000000 in
theorem dlaid_any (b o : Nat) (F X : Fo) (cap i m : Nat) (xa : Option Addr) (xc : Nat) (w : World) (hK : KidsAt w F b o) (hX : ArgsAt w xa X) (him : i + m ≤ lenF F) (hcap : lenF F ≤ cap) (hcm : cap ≤ maxLen) (hf : lenF F ≤ 1048576) (hx : lenF X ≤ 1048576) :
    Calls Tryz.prog 51 #[.slice (some ⟨b, o, none⟩) (lenF F) cap, .int .i64 i, .int .i64 m, .slice xa (lenF X) xc] w (LdEnd w (layL (kidsL F) i m (kidsL X))) := by
  have H1 : Hid (Calls Tryz.prog 52 #[.slice (some ⟨b, o, none⟩) i cap] w (ClEnd w ((kidsL F).take i))) := clones_take i cap hK (by omega) (by omega)
  have H2 : Hid (∀ W, Below w.heap.size w W → Calls Tryz.prog 52 #[.slice xa (lenF X) xc] W (ClEnd W (kidsL X))) := fun W hW => clones_any xa X xc W (hX.below hW) (by omega)
  have HKA : Hid (ArgsAt w (some ⟨b, o, none⟩) F) := .inr ⟨b, o, rfl, hK⟩
  have HC : Hid (∀ W, Below w.heap.size w W → KidsAt W F b o) := fun W hW => by
    rcases HKA.out.below hW with h | ⟨b', o', e, h⟩
    · subst h; trivial
    · cases e; exact h
  have hlt := kids_len F
  have hlx := kids_len X
  obtain ⟨N, hN⟩ : ∃ N, lenF F = N := ⟨_, rfl⟩
  unfold maxLen at hcm
  have hi0 : (0 : Int) ≤ (i : Int) := by omega
  have hic : (i : Int) ≤ (cap : Int) := by omega
  have him0 : (0 : Int) ≤ (i : Int) + (m : Int) := by omega
  have himn : (i : Int) + (m : Int) ≤ (N : Int) := by omega
  have hnc : (N : Int) ≤ (cap : Int) := by omega
  have hlay : Hid (∀ l1 l2 l3 : List Kv, l1.map Kv.tn = (kidsL F).take i → l2.map Kv.tn = kidsL X → l3.map Kv.tn = (kidsL F).drop (i + m) → ((l1 ++ l2) ++ l3).map Kv.tn = layL (kidsL F) i m (kidsL X)) := fun l1 l2 l3 h1 h2 h3 => by
    rw [List.map_append, List.map_append, h1, h2, h3, List.append_assoc]; rfl
  have HLEN : Hid ((∀ l1 : List Kv, l1.map Kv.tn = (kidsL F).take i → l1.length ≤ 1048576) ∧ (∀ l2 : List Kv, l2.map Kv.tn = kidsL X → l2.length ≤ 1048576) ∧ (∀ l3 : List Kv, l3.map Kv.tn = (kidsL F).drop (i + m) → l3.length ≤ 1048576)) := by
    refine ⟨fun l1 h1 => ?_, fun l2 h2 => ?_, fun l3 h3 => ?_⟩
    · have e1 := congrArg List.length h1
      rw [List.length_map, List.length_take] at e1
      omega
    · have e2 := congrArg List.length h2
      rw [List.length_map] at e2
      omega
    · have e3 := congrArg List.length h3
      rw [List.length_map, List.length_drop] at e3
      omega
  have H3a : Hid (cap = i + m → ∀ W, Below w.heap.size w W → Calls Tryz.prog 52 #[.slice (some ⟨b, o, none⟩) (N - (i + m)) 0] W (ClEnd W ((kidsL F).drop (i + m)))) := fun h W hW => by
    have e : N - (i + m) = 0 := by omega
    rw [e, List.drop_eq_nil_of_le (by omega)]
    exact clones_none _ _
  have H3b : Hid (∀ W, Below w.heap.size w W → Calls Tryz.prog 52 #[.slice (some ⟨b, o + (i + m) * 3, none⟩) (N - (i + m)) (cap - (i + m))] W (ClEnd W ((kidsL F).drop (i + m)))) := fun W hW => by
    rw [← hN]
    exact clones_drop (i + m) _ (HC.out W hW) (by omega)
  rw [hN]
  clear hK hX
  go_enter Tryz.func51, Tryz.ntmps51
  go_upto_region 2 with (first
    | (go_at_call 52; refine H1.out.mono ?_; rintro e w1 ⟨v1, l1, rfl, hl1, hn1, hm1, hb1⟩; have HL1 := hid hl1; have HM1 := hid hm1; have HB1 := hid hb1; clear hl1 hn1 hm1 hb1)
    | fail)
  have hf1 := HLEN.out.1 l1 HM1.out
  have HC2 := hid (H2.out w1 HB1.out)
  go_upto_region 3 with (first
    | (go_at_call 52; refine HC2.out.mono ?_; rintro e w2 ⟨v2, l2, rfl, hl2, hn2, hm2, hb2⟩; obtain ⟨a2, c2, rfl, hr2, hnil2, hsome2⟩ := hl2.shape hn2; have HO2 : Hid (∀ q ∈ l2, OwnTm false (fun q => w1.heap.size ≤ q) w2 q.x q.a q.c q.l) := fun q hq => (hl2.own q hq).mono (fun b _ hb => hb.1); have HB2 := hid hb2; have HM2 := hid hm2; have HR2 := hid hr2; have HN2 : Hid ((a2 = none → c2 = 0) ∧ (a2 ≠ none → 0 < l2.length)) := ⟨hnil2, hsome2⟩; have hfew2 := HLEN.out.2.1 l2 hm2; clear hl2 hn2 hm2 hb2 hr2 hnil2 hsome2)
    | (at_builtin; refine wpList_append_lst rfl _ _ rfl w.heap.size v1 l1 rfl (owns_below HL1.out.row HB2.out) a2 l2.length c2 l2 rfl HR2.out HN2.out.1 HN2.out.2 (by first | omega | (simp only [List.length_append]; omega)) (by have h1 := HB1.out.size; have h2 := HB2.out.size; omega) ?_; intro v4 w4 hown4 hgrow4 hat4; have HL4 : Hid (Lst w.heap.size w4 v4 (l1 ++ l2)) := HL1.out.grow HB2.out HO2.out HB1.out.size hgrow4 hat4 hown4; have HB4 : Hid (Below w.heap.size w w4) := HB1.out.trans ((HB2.out.mono HB1.out.size).grown hgrow4 (by have h1 := HB1.out.size; have h2 := HB2.out.size; omega) (fun k e => (owns_cells HL1.out.row e).1)); clear hown4 hgrow4 hat4)
    | fail)
  by_cases hce : cap = i + m
  · have HC3 := hid (H3a.out hce w4 HB4.out)
    go_wp2_with (first
      | (go_at_call 52; refine HC3.out.mono ?_; rintro e w5 ⟨v5, l5, rfl, hl5, hn5, hm5, hb5⟩; obtain ⟨a5, c5, rfl, hr5, hnil5, hsome5⟩ := hl5.shape hn5; have HO5 : Hid (∀ q ∈ l5, OwnTm false (fun q => w4.heap.size ≤ q) w5 q.x q.a q.c q.l) := fun q hq => (hl5.own q hq).mono (fun b _ hb => hb.1); have HB5 := hid hb5; have HM5 := hid hm5; have HR5 := hid hr5; have HN5 : Hid ((a5 = none → c5 = 0) ∧ (a5 ≠ none → 0 < l5.length)) := ⟨hnil5, hsome5⟩; have hfew5 := HLEN.out.2.2 l5 hm5; clear hl5 hn5 hm5 hb5 hr5 hnil5 hsome5)
      | (at_builtin; refine wpList_append_lst rfl _ _ rfl w.heap.size v4 (l1 ++ l2) rfl (owns_below HL4.out.row HB5.out) a5 l5.length c5 l5 rfl HR5.out HN5.out.1 HN5.out.2 (by first | omega | (simp only [List.length_append]; omega)) (by have h1 := HB4.out.size; have h2 := HB5.out.size; omega) ?_; intro v6 w6 hown6 hgrow6 hat6; have HL6 : Hid (Lst w.heap.size w6 v6 ((l1 ++ l2) ++ l5)) := HL4.out.grow HB5.out HO5.out HB4.out.size hgrow6 hat6 hown6; have HB6 : Hid (Below w.heap.size w w6) := HB4.out.trans ((HB5.out.mono HB4.out.size).grown hgrow6 (by have h1 := HB4.out.size; have h2 := HB5.out.size; omega) (fun k e => (owns_cells HL4.out.row e).1)); clear hown6 hgrow6 hat6)
      | fail)
    go_ret
    exact LdEnd.of HL6.out (hlay.out l1 l2 l5 HM1.out HM2.out HM5.out) HB6.out
  · have HC3 := hid (H3b.out w4 HB4.out)
    have hce2 : (i : Int) + (m : Int) < (cap : Int) := by omega
    go_wp2_with (first
      | (go_at_call 52; refine HC3.out.mono ?_; rintro e w5 ⟨v5, l5, rfl, hl5, hn5, hm5, hb5⟩; obtain ⟨a5, c5, rfl, hr5, hnil5, hsome5⟩ := hl5.shape hn5; have HO5 : Hid (∀ q ∈ l5, OwnTm false (fun q => w4.heap.size ≤ q) w5 q.x q.a q.c q.l) := fun q hq => (hl5.own q hq).mono (fun b _ hb => hb.1); have HB5 := hid hb5; have HM5 := hid hm5; have HR5 := hid hr5; have HN5 : Hid ((a5 = none → c5 = 0) ∧ (a5 ≠ none → 0 < l5.length)) := ⟨hnil5, hsome5⟩; have hfew5 := HLEN.out.2.2 l5 hm5; clear hl5 hn5 hm5 hb5 hr5 hnil5 hsome5)
      | (at_builtin; refine wpList_append_lst rfl _ _ rfl w.heap.size v4 (l1 ++ l2) rfl (owns_below HL4.out.row HB5.out) a5 l5.length c5 l5 rfl HR5.out HN5.out.1 HN5.out.2 (by first | omega | (simp only [List.length_append]; omega)) (by have h1 := HB4.out.size; have h2 := HB5.out.size; omega) ?_; intro v6 w6 hown6 hgrow6 hat6; have HL6 : Hid (Lst w.heap.size w6 v6 ((l1 ++ l2) ++ l5)) := HL4.out.grow HB5.out HO5.out HB4.out.size hgrow6 hat6 hown6; have HB6 : Hid (Below w.heap.size w w6) := HB4.out.trans ((HB5.out.mono HB4.out.size).grown hgrow6 (by have h1 := HB4.out.size; have h2 := HB5.out.size; omega) (fun k e => (owns_cells HL4.out.row e).1)); clear hown6 hgrow6 hat6)
      | fail)
    go_ret
    exact LdEnd.of HL6.out (hlay.out l1 l2 l5 HM1.out HM2.out HM5.out) HB6.out
end Go.Proofs.YtokbgbbkopmngaaGreat
/- Play. -/
namespace Go.Proofs.YtokbgbbkopmngaaGreat
open Go.RowKit Go.Deep

theorem results_cell_tmp2 {fn : Func} {p u v : Tmp} {ty : TypeId} (h : fn.results = #[.cell p ty, .tmp u, .tmp v]) (tmps : Array Value) (P : Program) (w : World) :
    (results fn tmps).run P w =
      ((asAddr (tmps.getD p undef)).run P w).andThen fun a w₁ => ((loadVar ty a).run P w₁).andThen fun x w₂ => .ok (.tuple #[x, tmps.getD u undef, tmps.getD v undef]) w₂ := by
  simp only [results, h]
  simp [Sem.run_bind, Result.andThen]
set_option maxRecDepth 100000 in
theorem ret_term2 {fn : Func} {R : Ending → World → Prop} {a : Act} {w : World} {p u v B : Nat} {cs : Array Value} (h : fn.results = #[.cell p 26, .tmp u, .tmp v]) (hp : a.tmps.getD p undef = .pointer (some ⟨B, 0, none⟩))
    (hx : Box w B 26 cs) (hcs : cs.size = 3) (hd : a.defers = []) (hR : R (.returned (.tuple #[.agg cs, a.tmps.getD u undef, a.tmps.getD v undef])) w) : bodyPost Tryz.prog fn R .ret a w := by
  refine bodyPost_ret ?_ hd hR
  rw [results_cell_tmp2 h, hp]
  rw [show (asAddr (.pointer (some ⟨B, 0, none⟩))).run Tryz.prog w = .ok ⟨B, 0, none⟩ w from rfl]
  simp only [Result.andThen_ok, run_loadVar_row w B 26 26 _ (0, 0) _ hx Tryz.underlying26 rfl (by rw [Tryz.size26, hcs])]

/-! ### a step in a box of one's own -/
abbrev tmC (t : Tn) (a : Option Addr) (c : Nat) : Array Value := #[.string t.1.1, .int .i64 t.1.2, .slice a (lenF t.2) c]
def WbEnd (W : World) (B N : Nat) (r : Option (Tn × Sp)) (e : Ending) (w2 : World) : Prop := match r with
  | none => e = .returned (.tuple #[stepV zSp none 0 0, .bool false]) ∧ Below W.heap.size W w2
  | some r => e = .returned (.tuple #[stepV r.2 none 0 0, .bool true]) ∧ ∃ a c, Box w2 B 26 (tmC r.1 a c) ∧ FulTm w2 (fun q => N ≤ q) r.1.1 a c r.1.2 ∧ Below 0 W w2 ∧ ∀ q, q < N → q ≠ B → w2.heap[q]? = W.heap[q]?
/-! ### several -/
def plT (r : Option Tn × Nat) : Tn := match r.1 with | some t => t | none => ((⟨#[]⟩, 0), .nil)
def plC (r : Option Tn × Nat) : Int := match r.1 with | some _ => 0 | none => 81
/-- What Play answers. -/
def PlayEnd (w : World) (r : Option Tn × Nat) (e : Ending) (w' : World) : Prop := ∃ a c, e = .returned (.tuple #[.agg (tmC (plT r) a c), .int .i64 (plC r), .int .i64 r.2]) ∧ FulTm w' (fun q => w.heap.size ≤ q) (plT r).1 a c (plT r).2 ∧ Below w.heap.size w w'
/-- Play's loop. -/
structure PySt (w : World) (S : Sg) (t : Tn) (Ls : List St) (j : Nat) (T : Tn) (a : Option Addr) (c : Nat) (W : World) : Prop where
  low : Below w.heap.size w W
  two : w.heap.size + 2 ≤ W.heap.size
  box : Box W w.heap.size 26 (tmC T a c)
  ful : FulTm W (fun q => w.heap.size + 2 ≤ q) T.1 a c T.2
  res : Box W (w.heap.size + 1) 26 (tmC ((⟨#[]⟩, 0), .nil) none 0)
  few : nodesF T.2 ≤ nodesF t.2 + 2 * j
  play : playN S T (Ls.drop j) j = playN S t Ls 0
theorem PySt.below {w : World} {S : Sg} {t : Tn} {Ls : List St} {j : Nat} {T : Tn} {a : Option Addr} {c : Nat} {W W' : World} (h : PySt w S t Ls j T a c W) (hb : Below W.heap.size W W') : PySt w S t Ls j T a c W' :=
  ⟨h.low.trans (hb.mono h.low.size), Nat.le_trans h.two hb.size, h.box.below hb, h.ful.below hb, h.res.below hb, h.few, h.play⟩
theorem play_step {S : Sg} {T : Tn} {Ls : List St} {j : Nat} (hj : j < Ls.length) {r : Tn × Sp} (h : stepT S T Ls[j].path Ls[j].sp = some r) : playN S T (Ls.drop j) j = playN S r.1 (Ls.drop (j + 1)) (j + 1) := by
  rw [List.drop_eq_getElem_cons hj]
  simp only [playN]
  rw [h]
theorem play_stop {S : Sg} {T : Tn} {Ls : List St} {j : Nat} (hj : j < Ls.length) (h : stepT S T Ls[j].path Ls[j].sp = none) : playN S T (Ls.drop j) j = (none, j) := by
  rw [List.drop_eq_getElem_cons hj]
  simp only [playN]
  rw [h]
theorem PySt.next {w : World} {S : Sg} {t : Tn} {Ls : List St} {j : Nat} {T : Tn} {a : Option Addr} {c : Nat} {W w2 : World} (h : PySt w S t Ls j T a c W) (hj : j < Ls.length) {r : Tn × Sp} (hr : stepT S T Ls[j].path Ls[j].sp = some r) {a2 : Option Addr} {c2 : Nat}
    (hB : Box w2 w.heap.size 26 (tmC r.1 a2 c2)) (hF : FulTm w2 (fun q => w.heap.size + 2 ≤ q) r.1.1 a2 c2 r.1.2) (hl : Below 0 W w2) (hs : ∀ q, q < w.heap.size + 2 → q ≠ w.heap.size → w2.heap[q]? = W.heap[q]?) : PySt w S t Ls (j + 1) r.1 a2 c2 w2 := by
  refine ⟨⟨hl.os.trans h.low.os, hl.tape.trans h.low.tape, hl.output.trans h.low.output, Nat.le_trans h.low.size hl.size, fun q hq => (hs q (by omega) (by omega)).trans (h.low.block q hq)⟩, Nat.le_trans h.two hl.size, hB, hF, (hs _ (by omega) (by omega)).trans h.res, ?_, ?_⟩
  · have h1 := stepT_nodes (t' := r.1) (q := r.2) hr
    have h2 := h.few
    unfold sizeT at h1
    omega
  · rw [← h.play]; exact (play_step hj hr).symm

end Go.Proofs.YtokbgbbkopmngaaGreat
/- Where the program's reach leads; what At answers. -/
namespace Go.Proofs.YtokbgbbkopmngaaGreat
open Go.RowKit Go.Deep

/-- The term that the path leads to, with its cells. -/
structure Led (w : World) (ps : List Int) (b o : Nat) (t : Tn) (v : Value) (u : Tn) : Prop where
  at_ : ∃ b' o' a c, v = .pointer (some ⟨b', o', none⟩) ∧ Node w b' o' u.1 a c u.2 ∧ TmAt w u.1 a c u.2 ∧ Leads w ps b o t b' o'

end Go.Proofs.YtokbgbbkopmngaaGreat
/- What At and Put of package terms answer. -/
namespace Go.Proofs.YtokbgbbkopmngaaGreat
open Go.RowKit Go.Deep

theorem results_pair {fn : Func} {p u : Tmp} {ty : TypeId} (h : fn.results = #[.cell p ty, .tmp u]) (tmps : Array Value) (P : Program) (w : World) :
    (results fn tmps).run P w =
      ((asAddr (tmps.getD p undef)).run P w).andThen fun a w₁ => ((loadVar ty a).run P w₁).andThen fun x w₂ => .ok (.tuple #[x, tmps.getD u undef]) w₂ := by
  simp only [results, h]
  simp [Sem.run_bind, Result.andThen]
theorem ret_pair {fn : Func} {R : Ending → World → Prop} {a : Act} {w : World} {p u B : Nat} {x : ByteArray × Int} {v : Value} (h : fn.results = #[.cell p 26, .tmp u]) (hp : a.tmps.getD p undef = .pointer (some ⟨B, 0, none⟩))
    (hx : XBox w B x v) (hd : a.defers = []) (hR : R (.returned (.tuple #[.agg #[.string x.1, .int .i64 x.2, v], a.tmps.getD u undef])) w) : bodyPost Tryz.prog fn R .ret a w := by
  refine bodyPost_ret ?_ hd hR
  rw [results_pair h, hp]
  rw [show (asAddr (.pointer (some ⟨B, 0, none⟩))).run Tryz.prog w = .ok ⟨B, 0, none⟩ w from rfl]
  simp only [Result.andThen_ok, run_loadVar_row w B 26 26 _ (0, 0) _ hx Tryz.underlying26 rfl Tryz.size26]
/-- The answer as a value. -/
def ansV (o : Option Tn) (a : Option Addr) (c : Nat) : Value := .tuple #[.agg #[.string (ansT o).1.1, .int .i64 (ansT o).1.2, .slice a (lenF (ansT o).2) c], .int .i64 (ansE o)]
theorem TBox.node {W : World} {B : Nat} {x : ByteArray × Int} {a : Option Addr} {c : Nat} {l : Fo} (h : TBox W B x a (lenF l) c) : Node W B 0 x a c l := ⟨h.c0, h.c1, h.c2⟩

end Go.Proofs.YtokbgbbkopmngaaGreat
/- What Put of package terms answers. -/
namespace Go.Proofs.YtokbgbbkopmngaaGreat
open Go.RowKit Go.Deep

theorem sets_cells {W : World} {g n : Nat} {a b c : Value} {cur : Array Value} (h : W.heap[g]? = some (Obj.cells cur 26 (0, 0))) (hn : n + 3 ≤ cur.size) :
    (((W.setCell ⟨g, n, none⟩ a).setCell ⟨g, n + 1, none⟩ b).setCell ⟨g, n + 2, none⟩ c).cell? ⟨g, n, none⟩ = some a ∧ (((W.setCell ⟨g, n, none⟩ a).setCell ⟨g, n + 1, none⟩ b).setCell ⟨g, n + 2, none⟩ c).cell? ⟨g, n + 1, none⟩ = some b ∧ (((W.setCell ⟨g, n, none⟩ a).setCell ⟨g, n + 1, none⟩ b).setCell ⟨g, n + 2, none⟩ c).cell? ⟨g, n + 2, none⟩ = some c := by
  have h3 := block_set (k := n + 2) (block_set (k := n + 1) (block_set (k := n) h a) b) c
  rw [cell_of_row _ g n _ 26 (0, 0) h3, cell_of_row _ g (n + 1) _ 26 (0, 0) h3, cell_of_row _ g (n + 2) _ 26 (0, 0) h3]
  refine ⟨?_, ?_, ?_⟩ <;> simp [Array.getElem?_setIfInBounds] <;> omega
theorem cell_size {W : World} {g i : Nat} {cur : Array Value} {v : Value} (h : W.heap[g]? = some (Obj.cells cur 26 (0, 0))) (hc : W.cell? ⟨g, i, none⟩ = some v) : i < cur.size := by
  rw [cell_of_row _ g i _ 26 (0, 0) h] at hc
  exact (Array.getElem?_eq_some_iff.1 hc).1
theorem sets_outside {W : World} {g i n : Nat} {a b c : Value} {v : Value} (hi : i < n ∨ n + 3 ≤ i) (h : W.cell? ⟨g, i, none⟩ = some v) : (((W.setCell ⟨g, n, none⟩ a).setCell ⟨g, n + 1, none⟩ b).setCell ⟨g, n + 2, none⟩ c).cell? ⟨g, i, none⟩ = some v := by
  rw [World.cell?_setCell_other _ _ _ _ (fun e => by cases e; omega), World.cell?_setCell_other _ _ _ _ (fun e => by cases e; omega), World.cell?_setCell_other _ _ _ _ (fun e => by cases e; omega)]
  exact h
theorem sets_elsewhere {W : World} {g n q : Nat} {a b c : Value} (h : q ≠ g) : (((W.setCell ⟨g, n, none⟩ a).setCell ⟨g, n + 1, none⟩ b).setCell ⟨g, n + 2, none⟩ c).heap[q]? = W.heap[q]? :=
  ((Below.heap_setCell _ _ _ _ h).trans (Below.heap_setCell _ _ _ _ h)).trans (Below.heap_setCell _ _ _ _ h)
theorem sets_low {n0 : Nat} {w W : World} {g n : Nat} (hb : Below n0 w W) (h : n0 ≤ g) (a b c : Value) : Below n0 w (((W.setCell ⟨g, n, none⟩ a).setCell ⟨g, n + 1, none⟩ b).setCell ⟨g, n + 2, none⟩ c) :=
  ((hb.setCell (p := ⟨g, n, none⟩) h _).setCell (p := ⟨g, n + 1, none⟩) h _).setCell (p := ⟨g, n + 2, none⟩) h _

/-- The three boxes of Put. -/
structure PutIn (w : World) (t u : Tn) (a ua : Option Addr) (c uc : Nat) (W : World) : Prop where
  low : Below w.heap.size w W
  t : TBox W w.heap.size t.1 a (lenF t.2) c
  u : TBox W (w.heap.size + 1) u.1 ua (lenF u.2) uc
  r : XBox W (w.heap.size + 1 + 1) (⟨#[]⟩, 0) (.slice none 0 0)
theorem PutIn.new (w : World) (t u : Tn) (a ua : Option Addr) (c uc : Nat) : PutIn w t u a ua c uc (((w.alloc (.cells #[.string t.1.1, .int .i64 t.1.2, .slice a (lenF t.2) c] 26)).alloc (.cells #[.string u.1.1, .int .i64 u.1.2, .slice ua (lenF u.2) uc] 26)).alloc (.cells #[.string ⟨#[]⟩, .int .i64 0, .slice none 0 0] 26)) := by
  have P := Pair.new w t.1 a (lenF t.2) c u.1 ua (lenF u.2) uc
  have hb : Below ((w.alloc (.cells #[.string t.1.1, .int .i64 t.1.2, .slice a (lenF t.2) c] 26)).alloc (.cells #[.string u.1.1, .int .i64 u.1.2, .slice ua (lenF u.2) uc] 26)).heap.size ((w.alloc (.cells #[.string t.1.1, .int .i64 t.1.2, .slice a (lenF t.2) c] 26)).alloc (.cells #[.string u.1.1, .int .i64 u.1.2, .slice ua (lenF u.2) uc] 26)) _ := (Below.refl _ _).alloc (Nat.le_refl _) (.cells #[.string ⟨#[]⟩, .int .i64 0, .slice none 0 0] 26)
  refine ⟨P.low.alloc P.low.size _, P.l.below hb, P.r.below hb, ?_⟩
  have := heap_alloc_new ((w.alloc (.cells #[.string t.1.1, .int .i64 t.1.2, .slice a (lenF t.2) c] 26)).alloc (.cells #[.string u.1.1, .int .i64 u.1.2, .slice ua (lenF u.2) uc] 26)) (.cells #[.string ⟨#[]⟩, .int .i64 0, .slice none 0 0] 26)
  rw [World.size_alloc, World.size_alloc] at this
  exact this
theorem PutIn.below {w : World} {t u : Tn} {a ua : Option Addr} {c uc : Nat} {W W' : World} (h : PutIn w t u a ua c uc W) (hb : Below W.heap.size W W') : PutIn w t u a ua c uc W' := ⟨h.low.trans (hb.mono h.low.size), h.t.below hb, h.u.below hb, h.r.below hb⟩

end Go.Proofs.YtokbgbbkopmngaaGreat
/- The document's node: its boxes. -/
namespace Go.Proofs.YtokbgbbkopmngaaGreat
open Go.RowKit Go.Deep

/-- What node answers. -/
def NodeEnd (w : World) (r : Option (Tn × Sp)) (e : Ending) (w' : World) : Prop := ∃ (y : Tn) (a : Option Addr) (c : Nat), e = .returned (.tuple #[.agg (tmC y a c), .bool r.isSome]) ∧ (∀ s, r = some s → y = s.1 ∧ OwnTm false (fun q => w.heap.size + 3 ≤ q) w' y.1 a c y.2) ∧ Below w.heap.size w w'
structure NSt0 (w : World) (t : Tn) (a : Option Addr) (c : Nat) (p : Sp) (pa : Option Addr) (pn pc : Nat) (V : World) : Prop where
  low : Below w.heap.size w V
  n : Box V w.heap.size 26 (tmC t a c)
  x : Box V (w.heap.size + 1) 47 (stepC p pa pn pc)
  r : Box V (w.heap.size + 2) 26 (tmC ((⟨#[]⟩, 0), .nil) none 0)
  sz : w.heap.size + 3 ≤ V.heap.size
structure NSt (w : World) (t : Tn) (a : Option Addr) (c : Nat) (p : Sp) (pa : Option Addr) (pn pc Bo : Nat) (a' : Option Addr) (c' : Nat) (V : World) : Prop extends NSt0 w t a c p pa pn pc V where
  o : Box V Bo 26 (tmC t a' c')
  far : w.heap.size + 2 < Bo
  cl : TmAt V t.1 a' c' t.2
  row : RowTm (w.heap.size + 3) V t.1 a' c' t.2
  ne : ∀ ad, a' = some ad → 0 < lenF t.2 → ad.block ≠ Bo
theorem row_base {B B' : Nat} {W : World} {x : ByteArray × Int} {a : Option Addr} {c : Nat} {l : Fo} (h : RowTm B W x a c l) (hB : B' ≤ B) : RowTm B' W x a c l :=
  ⟨h.sizes, h.list.imp id (fun ⟨g, cur, h1, h2, h3, h4⟩ => ⟨g, cur, h1, by omega, h3, h4.mono (fun q _ hq => ⟨by omega, hq.2⟩)⟩)⟩
theorem NSt0.below {w : World} {t : Tn} {a : Option Addr} {c : Nat} {p : Sp} {pa : Option Addr} {pn pc : Nat} {V V' : World} (h : NSt0 w t a c p pa pn pc V) (hb : Below V.heap.size V V') : NSt0 w t a c p pa pn pc V' :=
  ⟨h.low.trans (hb.mono h.low.size), h.n.below hb, h.x.below hb, h.r.below hb, Nat.le_trans h.sz hb.size⟩
theorem NSt.below {w : World} {t : Tn} {a : Option Addr} {c : Nat} {p : Sp} {pa : Option Addr} {pn pc Bo : Nat} {a' : Option Addr} {c' : Nat} {V V' : World} (h : NSt w t a c p pa pn pc Bo a' c' V) (hb : Below V.heap.size V V') : NSt w t a c p pa pn pc Bo a' c' V' :=
  { h.toNSt0.below hb with o := h.o.below hb, far := h.far, cl := h.cl.below hb, row := h.row.below hb, ne := h.ne }
theorem row_new {B : Nat} {W : World} {x : ByteArray × Int} {a : Option Addr} {c : Nat} {l : Fo} (h : RowTm B W x a c l) : ∀ ad, a = some ad → 0 < lenF l → ad.block ≠ W.heap.size := by
  intro ad e hl
  rcases h.list with e2 | ⟨g, cur, h1, h2, h3, h4⟩
  · rw [e2] at hl; simp [lenF] at hl
  · rw [h1] at e
    cases e
    exact Nat.ne_of_lt (Array.getElem?_eq_some_iff.1 h3).1
theorem NSt.new {w : World} {t : Tn} {a : Option Addr} {c : Nat} {p : Sp} {pa : Option Addr} {pn pc : Nat} {a' : Option Addr} {c' : Nat} {V w2 : World} (h : NSt0 w t a c p pa pn pc V) (hb : Below V.heap.size V w2) (hR : RowTm V.heap.size w2 t.1 a' c' t.2) : NSt w t a c p pa pn pc w2.heap.size a' c' (w2.alloc (.cells (tmC t a' c') 26)) :=
  { (h.below hb).below (alloc_below0 w2 _) with o := Box.new _ _ _, far := by have := h.sz; have := hb.size; omega, cl := hR.own.tm.below (alloc_below0 w2 _), row := (row_base hR h.sz).below (alloc_below0 w2 _), ne := row_new hR }
/-- It can't be done. -/
theorem NSt.no {w : World} {t : Tn} {a : Option Addr} {c : Nat} {p : Sp} {pa : Option Addr} {pn pc Bo : Nat} {a' : Option Addr} {c' : Nat} {V : World} (h : NSt w t a c p pa pn pc Bo a' c' V) {r : Option (Tn × Sp)} (hr : r = none) {x0 x1 x2 : Value} :
    NodeEnd w r (.returned (.tuple #[.agg (tmC t a' c'), .bool false])) (((V.setCell ⟨w.heap.size + 2, 0, none⟩ x0).setCell ⟨w.heap.size + 2, 1, none⟩ x1).setCell ⟨w.heap.size + 2, 2, none⟩ x2) := by
  subst hr
  refine ⟨t, a', c', rfl, fun s e => ?_, ?_⟩
  · exact absurd e (by simp)
  · exact h.low.trans ((sets3_fr (B := w.heap.size + 2) x0 x1 x2).below (fun k hk => by omega) h.low.size)
/-- It is done: the term lies in the box. -/
structure YSt (w : World) (Bo : Nat) (y : Tn) (a : Option Addr) (c : Nat) (V : World) : Prop where
  low : Below w.heap.size w V
  o : Box V Bo 26 (tmC y a c)
  own : OwnTm false (fun q => w.heap.size + 2 < q) V y.1 a c y.2
  r : Box V (w.heap.size + 2) 26 (tmC ((⟨#[]⟩, 0), .nil) none 0)
theorem NSt.set {w : World} {t : Tn} {a : Option Addr} {c : Nat} {p : Sp} {pa : Option Addr} {pn pc Bo : Nat} {a' : Option Addr} {c' : Nat} {V w5 : World} (h : NSt w t a c p pa pn pc Bo a' c' V) {a5 : Option Addr} {c5 : Nat} {F : Fo} (hb : Below V.heap.size V w5) (hO : OwnTm false (fun q => V.heap.size ≤ q) w5 t.1 a5 c5 F) : YSt w Bo (t.1, F) a5 c5 (w5.setCell ⟨Bo, 2, none⟩ (.slice a5 (lenF F) c5)) := by
  have hlt := h.o.lt
  have hf := h.far
  have hsz := hb.size
  have hs := h.sz
  have hF : Fr (fun q => q = Bo) w5 (w5.setCell ⟨Bo, 2, none⟩ (.slice a5 (lenF F) c5)) := ⟨(Below.refl 0 w5).setCell (p := ⟨Bo, 2, none⟩) (Nat.zero_le _) _, fun _ _ hq => set_far hq _⟩
  have h5 := h.below hb
  refine ⟨h5.low.trans (hF.below (fun k hk => by omega) h5.low.size), h5.o.set 2 _, (hO.keep (fun q hq hl => hF.same q hl (by omega))).mono (fun q _ hq => by omega), h5.r.fr hF (by omega)⟩
theorem YSt.yes {w : World} {Bo : Nat} {y : Tn} {a : Option Addr} {c : Nat} {V : World} (h : YSt w Bo y a c V) {r : Option (Tn × Sp)} {q : Sp} (hr : r = some (y, q)) {x0 x1 x2 : Value} :
    NodeEnd w r (.returned (.tuple #[.agg (tmC y a c), .bool true])) (((V.setCell ⟨w.heap.size + 2, 0, none⟩ x0).setCell ⟨w.heap.size + 2, 1, none⟩ x1).setCell ⟨w.heap.size + 2, 2, none⟩ x2) := by
  subst hr
  refine ⟨y, a, c, rfl, fun s e => ?_, ?_⟩
  · cases e
    exact ⟨rfl, (h.own.keep (fun q hq hl => (sets3_fr (B := w.heap.size + 2) x0 x1 x2).same q hl (by omega))).mono (fun q _ hq => by omega)⟩
  · exact h.low.trans ((sets3_fr (B := w.heap.size + 2) x0 x1 x2).below (fun k hk => by omega) h.low.size)
theorem ld_term {w w' : World} {l : List Tn} {e : Ending} {x : ByteArray × Int} (h : LdEnd w l e w') (hx : x.1.size ≤ maxLen) (hl : l.length ≤ 2097152) : ∃ a c, e = .returned (.slice a (lenF (mkF l)) c) ∧ OwnTm false (fun q => w.heap.size ≤ q) w' x a c (mkF l) ∧ Below w.heap.size w w' := by
  obtain ⟨a, c, ks, rfl, hL, hm, hb⟩ := h
  obtain ⟨a2, c2, e2, hO⟩ := hL.term (F := mkF l) x (by rw [kids_mk]; exact hm) hx (by rw [len_mk]; omega)
  exact ⟨a2, c2, by rw [e2], hO, hb⟩
theorem kid_get {w : World} {F : Fo} {b o k : Nat} {x : ByteArray × Int} {a : Option Addr} {c : Nat} {l : Fo} (h : Kid w F b o k x a c l) : (kidsL F)[k]? = some (x, l) := by
  obtain ⟨B, O, e⟩ := h.split
  have h1 := kids_drop k F
  rw [e, kidsL] at h1
  have h2 : ((kidsL F).drop k)[0]? = some (x, l) := by rw [← h1]; rfl
  rw [List.getElem?_drop, Nat.add_zero] at h2
  exact h2
theorem nodes_kid {w : World} {F : Fo} {b o k : Nat} {x : ByteArray × Int} {a : Option Addr} {c : Nat} {l : Fo} (h : Kid w F b o k x a c l) : lenF l ≤ nodesF F := by
  have h1 := h.less
  have h2 := len_nodes l
  omega
theorem kids_below {w W : World} {F : Fo} {b o : Nat} (h : KidsAt w F b o) (hb : Below w.heap.size w W) : KidsAt W F b o := by
  rcases (show ArgsAt w (some ⟨b, o, none⟩) F from .inr ⟨b, o, rfl, h⟩).below hb with e | ⟨b', o', e, h'⟩
  · subst e; trivial
  · cases e; exact h'
theorem keep_set {V w5 : World} {b o Bo k : Nat} {u v : Value} (hb : Below V.heap.size V w5) (h : V.cell? ⟨b, o, none⟩ = some v) (hne : b ≠ Bo) : (w5.setCell ⟨Bo, k, none⟩ u).cell? ⟨b, o, none⟩ = some v :=
  (World.cell?_of_block (a := ⟨b, o, none⟩) (set_far hne _)).trans (below_cell hb _ _ h)
theorem un_some {S : Sg} {f : Int} {z : Tn} (h : isUn S f z = true) : ∃ u, S.unit f = some u ∧ isConst z u = true := by
  unfold isUn at h
  cases hu : S.unit f with
  | none => rw [hu] at h; cases h
  | some u => rw [hu] at h; exact ⟨u, rfl, h⟩
theorem un_none {S : Sg} {t z : Tn} {k : Nat} {many sym : Int} (h : isUn S t.1.2 z = false) (hg : (kidsL t.2)[k]? = some z) : (match S.unit t.1.2 with | some u => dropN t u ⟨4, k, many, sym⟩ | none => none) = none := by
  unfold isUn at h
  cases hu : S.unit t.1.2 with
  | none => rfl
  | some u =>
    rw [hu] at h
    have h' : isConst z u = false := h
    simp only
    unfold dropN
    simp only [Int.toNat_natCast, hg, h']
    simp
theorem lay_other {F : Fo} {k : Nat} {z : Tn} (h : lenF F = 2) (hk : k < lenF F) (hz : (kidsL F)[1 - k]? = some z) : (layL (kidsL F) k 1 [])[0]? = some z := by
  have hl := kids_len F
  rw [h] at hl hk
  match hks : kidsL F, hl with
  | [x, y], _ =>
    rw [hks] at hz
    have : k = 0 ∨ k = 1 := by omega
    rcases this with rfl | rfl
    · simp at hz; subst hz; rfl
    · simp at hz; subst hz; rfl
theorem OwnTm.own_block {P : Nat → Prop} {w : World} {x : ByteArray × Int} {b o : Nat} {c : Nat} {l : Fo} (h : OwnTm false P w x (some ⟨b, o, none⟩) c l) (hl : 0 < lenF l) : P b := by
  rcases h.2 with ⟨e, _⟩ | ⟨g, cur, e, hg, _⟩
  · subst e; simp [lenF] at hl
  · cases e; exact hg
/-- One argument of what lies in the box. -/
theorem YSt.kid {w : World} {Bo : Nat} {y : Tn} {b o : Nat} {c : Nat} {V : World} (h : YSt w Bo y (some ⟨b, o, none⟩) c V) {r : Option (Tn × Sp)} {zz : Tn} {q : Sp} (hr : r = some (zz, q)) (hk : (kidsL y.2)[0]? = some zz) {x : ByteArray × Int} {a1 : Option Addr} {c1 : Nat} {l1 : Fo} (_ : V.cell? ⟨b, o, none⟩ = some (.string x.1)) (_ : V.cell? ⟨b, o + 1, none⟩ = some (.int .i64 x.2)) (h2 : V.cell? ⟨b, o + 2, none⟩ = some (.slice a1 (lenF l1) c1)) (hg : (kidsL y.2)[0]? = some (x, l1)) {x0 x1 x2 : Value} :
    NodeEnd w r (.returned (.tuple #[.agg #[.string x.1, .int .i64 x.2, .slice a1 (lenF l1) c1], .bool true])) (((V.setCell ⟨w.heap.size + 2, 0, none⟩ x0).setCell ⟨w.heap.size + 2, 1, none⟩ x1).setCell ⟨w.heap.size + 2, 2, none⟩ x2) := by
  subst hr
  have hzz : zz = (x, l1) := by rw [hk] at hg; exact Option.some.inj hg
  subst hzz
  obtain ⟨W, hW⟩ : ∃ W, (((V.setCell ⟨w.heap.size + 2, 0, none⟩ x0).setCell ⟨w.heap.size + 2, 1, none⟩ x1).setCell ⟨w.heap.size + 2, 2, none⟩ x2) = W := ⟨_, rfl⟩
  have hF : Fr (fun q => q = w.heap.size + 2) V W := by rw [← hW]; exact sets3_fr x0 x1 x2
  rw [hW]
  have hO := h.own.keep (w' := W) (fun q hq hl => hF.same q hl (by omega))
  have hlen : 0 < lenF y.2 := by
    rw [← kids_len]
    exact (List.getElem?_eq_some_iff.1 hk).1
  obtain ⟨x', a', c', l', kd, hOk⟩ : ∃ x' a' c' l', Kid W y.2 b o 0 x' a' c' l' ∧ OwnTm false (fun q => w.heap.size + 2 < q) W x' a' c' l' := by
    rcases hO.list with ⟨e, _⟩ | ⟨g, cur, e, hg, hc, _, hks⟩
    · rw [e] at hlen; simp [lenF] at hlen
    · cases e
      exact hks.kid hlen
  have hx := kid_get kd
  rw [hk] at hx
  have e1 : (x, l1) = (x', l') := Option.some.inj hx
  cases e1
  have hbb : ∀ off v, V.cell? ⟨b, off, none⟩ = some v → W.cell? ⟨b, off, none⟩ = some v := fun off v hv => by
    have hlt := World.block_lt_of_cell? V _ hv
    by_cases hb : b = w.heap.size + 2
    · exfalso
      have hn := hO.own_block hlen
      omega
    · exact (World.cell?_of_block (a := ⟨b, off, none⟩) (hF.same b hlt hb)).trans hv
  have k2 := kd.list
  simp only [Nat.zero_mul, Nat.add_zero] at k2
  have e3 := (hbb _ _ h2).symm.trans k2
  simp only [Option.some.injEq, Value.slice.injEq] at e3
  obtain ⟨rfl, _, rfl⟩ := e3
  exact ⟨(x, l1), a1, c1, rfl, fun s e => by cases e; exact ⟨rfl, hOk.mono (fun q _ hq => by omega)⟩, h.low.trans (hF.below (fun k hk => by omega) h.low.size)⟩
/-- A row of terms of one's own, by its block. -/
structure RowG (B0 : Nat) (W : World) (g : Nat) (F : Fo) : Prop where
  lo : B0 ≤ g
  blk : ∃ cur, W.heap[g]? = some (.cells cur 26 (0, 0))
  kids : OwnKids false (fun q => B0 ≤ q ∧ q ≠ g) W F g 0
theorem RowG.below {B0 : Nat} {W W' : World} {g : Nat} {F : Fo} (h : RowG B0 W g F) (hb : Below W.heap.size W W') : RowG B0 W' g F := by
  obtain ⟨cur, hc⟩ := h.blk
  have hlt : g < W.heap.size := (Array.getElem?_eq_some_iff.1 hc).1
  exact ⟨h.lo, ⟨cur, (hb.block g hlt).trans hc⟩, h.kids.keep (fun k _ hk => hb.block k hk) (hb.block g hlt)⟩
theorem RowG.put {B0 : Nat} {W : World} {g : Nat} {F : Fo} {n : Nat} {xr : Tn} {a8 : Option Addr} {c8 : Nat} (h : RowG B0 W g F) (hn : n < lenF F) (hO : OwnTm false (fun q => B0 ≤ q ∧ q ≠ g) W xr.1 a8 c8 xr.2) :
    RowG B0 (((W.setCell ⟨g, n * 3, none⟩ (.string xr.1.1)).setCell ⟨g, n * 3 + 1, none⟩ (.int .i64 xr.1.2)).setCell ⟨g, n * 3 + 2, none⟩ (.slice a8 (lenF xr.2) c8)) g (setF n F xr) := by
  obtain ⟨cur, hc⟩ := h.blk
  obtain ⟨x, a, c, l, kd⟩ := h.kids.kids.kid (k := n) hn
  have k2 := kd.list
  rw [Nat.zero_add] at k2
  have hcz := cell_size hc k2
  obtain ⟨z0, z1, z2⟩ := sets_cells (a := .string xr.1.1) (b := .int .i64 xr.1.2) (c := .slice a8 (lenF xr.2) c8) hc (n := n * 3) (by omega)
  refine ⟨h.lo, ⟨_, block_set (block_set (block_set hc _) _) _⟩, ?_⟩
  refine OwnKids.replace (a' := a8) (c' := c8) (P := fun q => B0 ≤ q ∧ q ≠ g) (fun k hk => hk) (fun k hk _ => sets_elsewhere hk.2) (hO.keep (fun q hq _ => sets_elsewhere hq.2)) n h.kids hn (fun j v _ hj hv => sets_outside (by omega) hv) ?_
  rw [Nat.zero_add]
  exact ⟨z0, z1, z2⟩
theorem ownKids_eq {P : Nat → Prop} {w : World} : ∀ {F F' : Fo} {b o : Nat}, kidsL F = kidsL F' → OwnKids false P w F b o → OwnKids false P w F' b o
  | .nil, .nil, _, _, _, h => h
  | .nil, .node _ _ _ _ _, _, _, e, _ => by simp [kidsL] at e
  | .node _ _ _ _ _, .nil, _, _, e, _ => by simp [kidsL] at e
  | .node _ _ x l r, .node _ _ x' l' r', b, o, e, h => by
    simp only [kidsL, List.cons.injEq, Prod.mk.injEq] at e
    obtain ⟨⟨rfl, rfl⟩, e2⟩ := e
    exact ⟨h.1, ownKids_eq e2 h.2⟩
theorem swap_kids {F : Fo} {k : Nat} {y z : Tn} (hy : (kidsL F)[k]? = some y) (hz : (kidsL F)[k + 1]? = some z) : kidsL (setF (k + 1) (setF k F z) y) = layL (kidsL F) k 2 [z, y] := by
  rw [kids_setF, kids_setF]
  obtain ⟨h1, e1⟩ := List.getElem?_eq_some_iff.1 hy
  obtain ⟨h2, e2⟩ := List.getElem?_eq_some_iff.1 hz
  apply List.ext_getElem?
  intro i
  unfold layL
  rw [List.getElem?_set, List.getElem?_set]
  have ht : ((kidsL F).take k).length = k := by rw [List.length_take]; omega
  rcases Nat.lt_trichotomy i k with h | h | h
  · rw [if_neg (by omega), if_neg (by omega), List.getElem?_append_left (by omega), List.getElem?_take, if_pos h]
  · subst h
    rw [if_neg (by omega), if_pos rfl, if_pos h1, List.getElem?_append_right (by omega), ht, Nat.sub_self]
    rfl
  · rw [List.getElem?_append_right (by omega), ht]
    by_cases h3 : i = k + 1
    · subst h3
      rw [if_pos rfl, if_pos (by rw [List.length_set]; omega), show k + 1 - k = 1 by omega]
      rfl
    · rw [if_neg (by omega), if_neg (by omega), List.getElem?_append_right (by simp; omega), List.getElem?_drop]
      congr 1
      simp
      omega
/-- The clone's row as it is written over. -/
structure SwSt (w : World) (t : Tn) (a : Option Addr) (c : Nat) (p : Sp) (pa : Option Addr) (pn pc Bo g c' : Nat) (F : Fo) (V : World) : Prop extends NSt0 w t a c p pa pn pc V where
  o : Box V Bo 26 (tmC t (some ⟨g, 0, none⟩) c')
  far : w.heap.size + 2 < Bo
  ne : Bo ≠ g
  row : RowG (w.heap.size + 3) V g F
  len : lenF F = lenF t.2
  sizes : Sizes t.1.1 (lenF t.2) c'
theorem NSt.sw {w : World} {t : Tn} {a : Option Addr} {c : Nat} {p : Sp} {pa : Option Addr} {pn pc Bo : Nat} {a' : Option Addr} {c' : Nat} {V : World} (h : NSt w t a c p pa pn pc Bo a' c' V) (hl : 0 < lenF t.2) : ∃ g, a' = some ⟨g, 0, none⟩ ∧ SwSt w t a c p pa pn pc Bo g c' t.2 V := by
  rcases h.row.list with e | ⟨g, cur, h1, h2, h3, h4⟩
  · rw [e] at hl; simp [lenF] at hl
  · subst h1
    exact ⟨g, rfl, { h.toNSt0 with o := h.o, far := h.far, ne := (h.ne _ rfl hl).symm, row := ⟨h2, ⟨cur, h3⟩, h4⟩, len := rfl, sizes := h.row.sizes }⟩
theorem SwSt.put {w : World} {t : Tn} {a : Option Addr} {c : Nat} {p : Sp} {pa : Option Addr} {pn pc Bo g c' : Nat} {F : Fo} {V w5 : World} (h : SwSt w t a c p pa pn pc Bo g c' F V) (hb : Below V.heap.size V w5) {n : Nat} (hn : n < lenF t.2) {xr : Tn} {a8 : Option Addr} {c8 : Nat} (hO : OwnTm false (fun q => V.heap.size ≤ q) w5 xr.1 a8 c8 xr.2) :
    SwSt w t a c p pa pn pc Bo g c' (setF n F xr) (((w5.setCell ⟨g, n * 3, none⟩ (.string xr.1.1)).setCell ⟨g, n * 3 + 1, none⟩ (.int .i64 xr.1.2)).setCell ⟨g, n * 3 + 2, none⟩ (.slice a8 (lenF xr.2) c8)) := by
  have h0 := h.toNSt0.below hb
  have hg := h.row.lo
  obtain ⟨cur, hc⟩ := h.row.blk
  have hglt : g < V.heap.size := (Array.getElem?_eq_some_iff.1 hc).1
  have hsz := h.sz
  have hs5 := hb.size
  exact { low := sets_low h0.low (by omega) _ _ _, n := (sets_elsewhere (by omega)).trans h0.n, x := (sets_elsewhere (by omega)).trans h0.x, r := (sets_elsewhere (by omega)).trans h0.r, sz := by simpa using h0.sz, o := (sets_elsewhere h.ne).trans (h.o.below hb), far := h.far, ne := h.ne, row := (h.row.below hb).put (by rw [h.len]; exact hn) (hO.mono (fun q _ hq => ⟨by omega, by omega⟩)), len := by rw [len_set]; exact h.len, sizes := h.sizes }
theorem SwSt.done {w : World} {t : Tn} {a : Option Addr} {c : Nat} {p : Sp} {pa : Option Addr} {pn pc Bo g c' : Nat} {F Fy : Fo} {V : World} (h : SwSt w t a c p pa pn pc Bo g c' F V) (he : kidsL F = kidsL Fy) : YSt w Bo (t.1, Fy) (some ⟨g, 0, none⟩) c' V := by
  have hl : lenF Fy = lenF t.2 := by rw [← kids_len, ← he, kids_len]; exact h.len
  obtain ⟨cur, hc⟩ := h.row.blk
  refine ⟨h.low, ?_, ⟨by show Sizes t.1.1 (lenF Fy) c'; rw [hl]; exact h.sizes, .inr ⟨g, cur, rfl, by have := h.row.lo; omega, hc, (fun e => by cases e), (ownKids_eq he h.row.kids).mono (fun q _ hq => by omega)⟩⟩, h.r⟩
  have := h.o
  unfold tmC at this ⊢
  rw [show lenF ((t.1, Fy) : Tn).2 = lenF t.2 from hl]
  exact this
theorem keep_sets {V w5 : World} {b o g n : Nat} {x y z v : Value} (hb : Below V.heap.size V w5) (h : V.cell? ⟨b, o, none⟩ = some v) (hne : b ≠ g) : (((w5.setCell ⟨g, n, none⟩ x).setCell ⟨g, n + 1, none⟩ y).setCell ⟨g, n + 2, none⟩ z).cell? ⟨b, o, none⟩ = some v :=
  (World.cell?_of_block (a := ⟨b, o, none⟩) (sets_elsewhere hne)).trans (below_cell hb _ _ h)
end Go.Proofs.YtokbgbbkopmngaaGreat
/- The document's node, flat. -/
namespace Go.Proofs.YtokbgbbkopmngaaGreat
open Go.RowKit Go.Deep

set_option maxRecDepth 100000 in
set_option maxHeartbeats 4000000 in
theorem dnode_flat (S : Option Addr) (n cap : Nat) (L : List Sym) (t : Tn) (a : Option Addr) (c : Nat) (p : Sp) (pa : Option Addr) (pn pc : Nat) (w : World)
    (hS : SigAt w S n L) (hT : TmAt w t.1 a c t.2) (hn : nodesF t.2 ≤ 1048576) (hG : gathN (sgOf L) t = true → 2 ≤ lenF t.2) (hk : p.kind = 1) :
    Calls Tryz.prog 34 #[.slice S n cap, .agg #[.string t.1.1, .int .i64 t.1.2, .slice a (lenF t.2) c], stepV p pa pn pc] w (NodeEnd w (stepN (sgOf L) t p)) := by
  obtain ⟨kd, at_, many, sym⟩ := p
  obtain ⟨W0, hW0⟩ : ∃ W0, ((w.alloc (.cells #[.string t.1.1, .int .i64 t.1.2, .slice a (lenF t.2) c] 26)).alloc (.cells #[.int .i64 kd, .slice pa pn pc, .int .i64 at_, .int .i64 many, .int .i64 sym] 47)).alloc (.cells #[.string ⟨#[]⟩, .int .i64 0, .slice none 0 0] 26) = W0 := ⟨_, rfl⟩
  have hb0 : Below w.heap.size w W0 := by rw [← hW0]; exact ((alloc_below0 w _).alloc (by simp) _).alloc (by simp; omega) _
  have B0 : Box W0 w.heap.size 26 (tmC t a c) := by rw [← hW0]; exact ((Box.new w 26 _).over _).over _
  have B1 : Box W0 (w.heap.size + 1) 47 (stepC ⟨kd, at_, many, sym⟩ pa pn pc) := by rw [← hW0]; exact (box_new (by rw [World.size_alloc]) 47 _).over _
  have B2 : Box W0 (w.heap.size + 2) 26 (tmC ((⟨#[]⟩, 0), .nil) none 0) := by rw [← hW0]; exact box_new (by rw [World.size_alloc, World.size_alloc]) 26 _
  have hsz : W0.heap.size = w.heap.size + 3 := by rw [← hW0]; simp
  have HJ := hid (djoins_any S n cap L t a c W0 (hS.below hb0))
  have d0 := B0.v (k := 0) rfl; have d1 := B0.v (k := 1) rfl; have d2 := B0.v (k := 2) rfl
  have hlen := len_nodes t.2
  have hcc := hT.sizes.len; have hcm := hT.sizes.cap
  unfold maxLen at hcm
  have HB0 := hid hb0; have HX0 := hid B0; have HX1 := hid B1; have HX2 := hid B2; have HS := hid hS; have HT := hid hT; have HN := hid hn; have HG := hid hG; have HSZ := hid hsz
  clear hb0 B0 B1 B2 hS hT hn hG hsz
  go_enter Tryz.func34, Tryz.ntmps34
  go_upto_region 2 with (first | (go_at_call 50; refine HJ.out.mono ?_; rintro e w1 ⟨rfl, hb1⟩; have HB1 := hid hb1; clear hb1) | fail)
  clear hW0 d0 d1 d2
  have hst1 : NSt0 w t a c ⟨kd, at_, many, sym⟩ pa pn pc w1 := ⟨HB0.out.trans (HB1.out.mono HB0.out.size), HX0.out.below HB1.out, HX1.out.below HB1.out, HX2.out.below HB1.out, by have := HSZ.out; have := HB1.out.size; omega⟩
  have HST1 := hid hst1
  have s2 := hst1.x.v (k := 2) rfl
  have n2 := hst1.n.v (k := 2) rfl
  obtain ⟨g, hg⟩ : ∃ g, gathN (sgOf L) t = g := ⟨_, rfl⟩
  rw [hg]
  have HGG := hid hg
  clear hst1 hg
  go_cut [9] (fun v w' => v = .bool (inI at_ (lenF t.2)) ∧ w' = w1)
  case first =>
    by_cases h0 : 0 ≤ at_
    · by_cases h1 : at_ < (lenF t.2 : Int)
      · have e : inI at_ (lenF t.2) = true := by unfold inI; simp [h0, h1]
        go_wp2_with fail
        go_meet
        exact ⟨by rw [e] <;> rfl, rfl⟩
      · have e : inI at_ (lenF t.2) = false := by unfold inI; simp [h1]
        go_wp2_with fail
        go_meet
        exact ⟨by rw [e] <;> rfl, rfl⟩
    · have e : inI at_ (lenF t.2) = false := by unfold inI; simp [h0]
      go_wp2_with fail
      go_meet
      exact ⟨by rw [e] <;> rfl, rfl⟩
  case rest =>
    obtain ⟨rfl, rfl⟩ := hcut
    obtain ⟨i, hi⟩ : ∃ i, inI at_ (lenF t.2) = i := ⟨_, rfl⟩
    rw [hi]
    have HII := hid hi
    have HCl := hid (rclone_any t.1 t.2 a c wc (HT.out.below HST1.out.low))
    have n0 := HST1.out.n.v (k := 0) rfl; have n1 := HST1.out.n.v (k := 1) rfl
    clear hi s2
    go_upto_region 4 with (first | (go_at_call 21; refine HCl.out.mono ?_; rintro e w2 ⟨a', c', rfl, hR2, hb2⟩; have HR2 := hid hR2; have HB2 := hid hb2; clear hR2 hb2) | fail)
    obtain ⟨V, hV⟩ : ∃ V, w2.alloc (.cells #[.string t.1.1, .int .i64 t.1.2, .slice a' (lenF t.2) c'] 26) = V := ⟨_, rfl⟩
    rw [hV]
    have hst : NSt w t a c ⟨kd, at_, many, sym⟩ pa pn pc w2.heap.size a' c' V := by rw [← hV]; exact NSt.new HST1.out HB2.out HR2.out
    have HST := hid hst
    generalize w2.heap.size = Bo at HST ⊢
    clear hst n0 n1 n2 hV HR2 HB2 HCl HST1 HX0 HX1 HX2 HJ HB1
    have s0 := HST.out.x.v (k := 0) rfl
    have hk1 : kd = 1 := hk
    subst hk1
    clear hk
    have hne := later_some V
    cases g
    · go_wp2_with fail
      refine wp_region_later (by kernel_rfl) (by kernel_rfl) ?_
      repeat (go_big_quiet_step (fail))
      refine wpQuiet_nil ?_
      intro _ hw'
      obtain ⟨b2, hw''⟩ := hw'
      subst hw''
      have HST := hid (HST.out.below b2.below)
      have o0 := HST.out.o.v (k := 0) rfl; have o1 := HST.out.o.v (k := 1) rfl; have o2 := HST.out.o.v (k := 2) rfl
      have z0 := HST.out.r.v (k := 0) rfl; have z1 := HST.out.r.v (k := 1) rfl; have z2 := HST.out.r.v (k := 2) rfl
      have f0 := HST.out.r.f 0; have f1 := HST.out.r.f 1; have f2 := HST.out.r.f 2
      go_wp2_with fail
      refine ret_term rfl rfl (sets3_box HST.out.r _ _ _) rfl rfl ?_
      exact HST.out.no (by unfold stepN; rw [if_neg (by simp), if_neg (by rw [HGG.out]; simp)])
    · cases i
      · go_wp2_with fail
        refine wp_region_later (by kernel_rfl) (by kernel_rfl) ?_
        repeat (go_big_quiet_step (fail))
        refine wpQuiet_nil ?_
        intro _ hw'
        obtain ⟨b2, hw''⟩ := hw'
        subst hw''
        have HST := hid (HST.out.below b2.below)
        have o0 := HST.out.o.v (k := 0) rfl; have o1 := HST.out.o.v (k := 1) rfl; have o2 := HST.out.o.v (k := 2) rfl
        have z0 := HST.out.r.v (k := 0) rfl; have z1 := HST.out.r.v (k := 1) rfl; have z2 := HST.out.r.v (k := 2) rfl
        have f0 := HST.out.r.f 0; have f1 := HST.out.r.f 1; have f2 := HST.out.r.f 2
        go_wp2_with fail
        refine ret_term rfl rfl (sets3_box HST.out.r _ _ _) rfl rfl ?_
        exact HST.out.no (by unfold stepN; rw [if_neg (by simp), if_neg (by rw [HII.out]; simp)])
      · obtain ⟨k, hk, hlt⟩ := inI_iff.1 HII.out
        have hk' : at_ = (k : Int) := hk
        subst hk'
        obtain ⟨bb, oo, rfl, hkk⟩ := HT.out.args.get (by omega)
        obtain ⟨z, a1, c1, l1, kd⟩ := hkk.kid (k := k) hlt
        have hget := kid_get kd
        have kdV := kd.below HST.out.low
        have hrt : stepN (sgOf L) t ⟨1, k, many, sym⟩ = flatN t ⟨1, k, many, sym⟩ := by unfold stepN; rw [if_neg (by simp), if_pos ⟨HGG.out, HII.out⟩, if_pos rfl]
        have hfl : flatN t ⟨1, k, many, sym⟩ = if headed t.1.2 (z, l1) then some ((t.1, mkF (layL (kidsL t.2) k 1 (kidsL l1))), ⟨2, k, lenF l1, 0⟩) else none := by unfold flatN; simp only [Int.toNat_natCast, hget]
        have HRT := hid (hrt.trans hfl)
        have hbl : bb < w.heap.size := World.block_lt_of_cell? w _ kd.name
        have hl1 := nodes_kid kd
        have n1 := later_cell (HST.out.n.v (k := 1) rfl); have n2 := later_cell (HST.out.n.v (k := 2) rfl)
        have s2 := later_cell (HST.out.x.v (k := 2) rfl)
        have p0 := later_cell kdV.name; have p1 := later_cell kdV.sym
        have hk0 : (0 : Int) ≤ (k : Int) := by omega
        have hkn : (k : Int) < (lenF t.2 : Int) := by omega
        have HKD := hid kd; have HKV := hid kdV; have HKK := hid hkk; have HBL := hid hbl
        clear hrt hfl hget kd kdV hkk hk hbl
        cases hx : z.1.toList.isEmpty
        · have e1 : headed t.1.2 (z, l1) = false := by unfold headed noName; rw [hx]; rfl
          go_wp2_with fail
          refine wp_region_later (by kernel_rfl) (by kernel_rfl) ?_
          repeat (go_big_quiet_step (fail))
          refine wpQuiet_nil ?_
          intro _ hw'
          obtain ⟨b2, hw''⟩ := hw'
          subst hw''
          have HST := hid (HST.out.below b2.below)
          have o0 := HST.out.o.v (k := 0) rfl; have o1 := HST.out.o.v (k := 1) rfl; have o2 := HST.out.o.v (k := 2) rfl
          have z0 := HST.out.r.v (k := 0) rfl; have z1 := HST.out.r.v (k := 1) rfl; have z2 := HST.out.r.v (k := 2) rfl
          have f0 := HST.out.r.f 0; have f1 := HST.out.r.f 1; have f2 := HST.out.r.f 2
          go_wp2_with fail
          refine ret_term rfl rfl (sets3_box HST.out.r _ _ _) rfl rfl ?_
          exact HST.out.no (by rw [HRT.out, e1]; rfl)
        · cases hs : (z.2 == t.1.2)
          · have e1 : headed t.1.2 (z, l1) = false := by unfold headed; rw [hs]; simp
            go_wp2_with fail
            refine wp_region_later (by kernel_rfl) (by kernel_rfl) ?_
            repeat (go_big_quiet_step (fail))
            refine wpQuiet_nil ?_
            intro _ hw'
            obtain ⟨b2, hw''⟩ := hw'
            subst hw''
            have HST := hid (HST.out.below b2.below)
            have o0 := HST.out.o.v (k := 0) rfl; have o1 := HST.out.o.v (k := 1) rfl; have o2 := HST.out.o.v (k := 2) rfl
            have z0 := HST.out.r.v (k := 0) rfl; have z1 := HST.out.r.v (k := 1) rfl; have z2 := HST.out.r.v (k := 2) rfl
            have f0 := HST.out.r.f 0; have f1 := HST.out.r.f 1; have f2 := HST.out.r.f 2
            go_wp2_with fail
            refine ret_term rfl rfl (sets3_box HST.out.r _ _ _) rfl rfl ?_
            exact HST.out.no (by rw [HRT.out, e1]; rfl)
          · have e1 : headed t.1.2 (z, l1) = true := by unfold headed noName; rw [hx, hs]; rfl
            go_wp2_with fail
            refine wp_region_later (by kernel_rfl) (by kernel_rfl) ?_
            repeat (go_big_quiet_step (fail))
            refine wpQuiet_nil ?_
            intro _ hw'
            obtain ⟨b2, hw''⟩ := hw'
            subst hw''
            have HST := hid (HST.out.below b2.below)
            go_wp2_with fail
            clear n1 n2 s2 p0 p1
            have HKV := hid (HKV.out.below b2.below)
            obtain ⟨F', hF'⟩ : ∃ F', mkF (layL (kidsL t.2) k 1 (kidsL l1)) = F' := ⟨_, rfl⟩
            have HFE := hid hF'
            have HLD : Hid (∀ W, Below b2.now.heap.size b2.now W → Calls Tryz.prog 51 #[.slice (some ⟨bb, oo, none⟩) (lenF t.2) c, .int .i64 k, .int .i64 1, .slice a1 (lenF l1) c1] W fun e w' => ∃ a5 c5, e = .returned (.slice a5 (lenF F') c5) ∧ OwnTm false (fun q => W.heap.size ≤ q) w' t.1 a5 c5 F' ∧ Below W.heap.size W w') := fun W hW => by
              have hbW : Below w.heap.size w W := HST.out.low.trans (hW.mono HST.out.low.size)
              have hnn := HN.out
              refine Calls.mono (dlaid_any bb oo t.2 l1 c k 1 a1 c1 W (kids_below HKK.out hbW) (HKD.out.at_.args.below hbW) (by omega) hcc (by unfold maxLen; omega) (by omega) (by omega)) ?_
              intro e w' h
              have := ld_term (x := t.1) h HT.out.sizes.name (by unfold layL; simp only [List.length_append, List.length_take, List.length_drop, kids_len]; omega)
              rw [hF'] at this
              exact this
            have HNE : Hid (w.heap.size ≠ Bo ∧ w.heap.size + 1 ≠ Bo ∧ bb ≠ Bo) := by have h1 := HST.out.far; have h2 := HBL.out; exact ⟨by omega, by omega, by omega⟩
            have n2 := HST.out.n.v (k := 2) rfl
            have s2 := HST.out.x.v (k := 2) rfl
            have p2 := HKV.out.list
            clear hF'
            go_cut [9] (fun v w' => v = .bool true ∧ ∃ a5 c5, YSt w Bo (t.1, F') a5 c5 w')
            case first =>
              go_region_held3 (fun w' => w'.cell? ⟨w.heap.size, 2, none⟩ = some (.slice (some ⟨bb, oo, none⟩) (lenF t.2) c) ∧ w'.cell? ⟨w.heap.size + 1, 2, none⟩ = some (.int .i64 k) ∧ w'.cell? ⟨bb, oo + k * 3 + 2, none⟩ = some (.slice a1 (lenF l1) c1)) ((first | (go_split_ands; refine ⟨?_, ?_, ?_⟩ <;> ((with_reducible refine below_cell HB5.out _ _ ?_); assumption)) | (have hqq := HB5.out; clear hqq; go_split_ands; refine ⟨?_, ?_, ?_⟩ <;> (refine keep_set HB5.out (by assumption) ?_; first | exact HNE.out.1 | exact HNE.out.2.1 | exact HNE.out.2.2)) | go_keep | fail)) ((first | (go_at_call 51; (with_reducible refine Calls.mono (HLD.out (World.drew b2.now) (Below.refl _ b2.now).drew) ?_); rintro e w5 ⟨a5, c5, rfl, hO5, hb5⟩; have HO5 : Hid (OwnTm false (fun q => b2.now.heap.size ≤ q) w5 t.1 a5 c5 F') := hO5; have HB5 : Hid (Below b2.now.heap.size b2.now w5) := ((Below.refl _ b2.now).drew).trans hb5; have X5 := HST.out.o.below HB5.out; have z2 := X5.v (k := 2) rfl; have zf2 := X5.f 2; clear X5 hO5 hb5) | fail))
              all_goals (go_wp2_with fail; go_meet)
              all_goals exact ⟨rfl, a5, c5, HST.out.set HB5.out HO5.out⟩
            case rest =>
              obtain ⟨rfl, a5, c5, hy⟩ := hcut
              have HY := hid hy
              have o0 := hy.o.v (k := 0) rfl; have o1 := hy.o.v (k := 1) rfl; have o2 := hy.o.v (k := 2) rfl
              have z0 := hy.r.v (k := 0) rfl; have z1 := hy.r.v (k := 1) rfl; have z2 := hy.r.v (k := 2) rfl
              have f0 := hy.r.f 0; have f1 := hy.r.f 1; have f2 := hy.r.f 2
              clear hy n2 s2 p2
              go_wp2_with fail
              refine ret_term rfl rfl (sets3_box HY.out.r _ _ _) rfl rfl ?_
              exact HY.out.yes (by rw [HRT.out, e1, ← HFE.out]; rfl)
end Go.Proofs.YtokbgbbkopmngaaGreat
/- The document's node, drop. -/
namespace Go.Proofs.YtokbgbbkopmngaaGreat
open Go.RowKit Go.Deep

set_option maxRecDepth 100000 in
set_option maxHeartbeats 4000000 in
theorem dnode_drop (S : Option Addr) (n cap : Nat) (L : List Sym) (t : Tn) (a : Option Addr) (c : Nat) (p : Sp) (pa : Option Addr) (pn pc : Nat) (w : World)
    (hS : SigAt w S n L) (hT : TmAt w t.1 a c t.2) (hn : nodesF t.2 ≤ 1048576) (hG : gathN (sgOf L) t = true → 2 ≤ lenF t.2) (hk : p.kind = 4) :
    Calls Tryz.prog 34 #[.slice S n cap, .agg #[.string t.1.1, .int .i64 t.1.2, .slice a (lenF t.2) c], stepV p pa pn pc] w (NodeEnd w (stepN (sgOf L) t p)) := by
  obtain ⟨kd, at_, many, sym⟩ := p
  obtain ⟨W0, hW0⟩ : ∃ W0, ((w.alloc (.cells #[.string t.1.1, .int .i64 t.1.2, .slice a (lenF t.2) c] 26)).alloc (.cells #[.int .i64 kd, .slice pa pn pc, .int .i64 at_, .int .i64 many, .int .i64 sym] 47)).alloc (.cells #[.string ⟨#[]⟩, .int .i64 0, .slice none 0 0] 26) = W0 := ⟨_, rfl⟩
  have hb0 : Below w.heap.size w W0 := by rw [← hW0]; exact ((alloc_below0 w _).alloc (by simp) _).alloc (by simp; omega) _
  have B0 : Box W0 w.heap.size 26 (tmC t a c) := by rw [← hW0]; exact ((Box.new w 26 _).over _).over _
  have B1 : Box W0 (w.heap.size + 1) 47 (stepC ⟨kd, at_, many, sym⟩ pa pn pc) := by rw [← hW0]; exact (box_new (by rw [World.size_alloc]) 47 _).over _
  have B2 : Box W0 (w.heap.size + 2) 26 (tmC ((⟨#[]⟩, 0), .nil) none 0) := by rw [← hW0]; exact box_new (by rw [World.size_alloc, World.size_alloc]) 26 _
  have hsz : W0.heap.size = w.heap.size + 3 := by rw [← hW0]; simp
  have HJ := hid (djoins_any S n cap L t a c W0 (hS.below hb0))
  have d0 := B0.v (k := 0) rfl; have d1 := B0.v (k := 1) rfl; have d2 := B0.v (k := 2) rfl
  have hlen := len_nodes t.2
  have hcc := hT.sizes.len; have hcm := hT.sizes.cap
  unfold maxLen at hcm
  have HB0 := hid hb0; have HX0 := hid B0; have HX1 := hid B1; have HX2 := hid B2; have HS := hid hS; have HT := hid hT; have HN := hid hn; have HG := hid hG; have HSZ := hid hsz
  clear hb0 B0 B1 B2 hS hT hn hG hsz
  go_enter Tryz.func34, Tryz.ntmps34
  go_upto_region 2 with (first | (go_at_call 50; refine HJ.out.mono ?_; rintro e w1 ⟨rfl, hb1⟩; have HB1 := hid hb1; clear hb1) | fail)
  clear hW0 d0 d1 d2
  have hst1 : NSt0 w t a c ⟨kd, at_, many, sym⟩ pa pn pc w1 := ⟨HB0.out.trans (HB1.out.mono HB0.out.size), HX0.out.below HB1.out, HX1.out.below HB1.out, HX2.out.below HB1.out, by have := HSZ.out; have := HB1.out.size; omega⟩
  have HST1 := hid hst1
  have s2 := hst1.x.v (k := 2) rfl
  have n2 := hst1.n.v (k := 2) rfl
  obtain ⟨g, hg⟩ : ∃ g, gathN (sgOf L) t = g := ⟨_, rfl⟩
  rw [hg]
  have HGG := hid hg
  clear hst1 hg
  go_cut [9] (fun v w' => v = .bool (inI at_ (lenF t.2)) ∧ w' = w1)
  case first =>
    by_cases h0 : 0 ≤ at_
    · by_cases h1 : at_ < (lenF t.2 : Int)
      · have e : inI at_ (lenF t.2) = true := by unfold inI; simp [h0, h1]
        go_wp2_with fail
        go_meet
        exact ⟨by rw [e] <;> rfl, rfl⟩
      · have e : inI at_ (lenF t.2) = false := by unfold inI; simp [h1]
        go_wp2_with fail
        go_meet
        exact ⟨by rw [e] <;> rfl, rfl⟩
    · have e : inI at_ (lenF t.2) = false := by unfold inI; simp [h0]
      go_wp2_with fail
      go_meet
      exact ⟨by rw [e] <;> rfl, rfl⟩
  case rest =>
    obtain ⟨rfl, rfl⟩ := hcut
    obtain ⟨i, hi⟩ : ∃ i, inI at_ (lenF t.2) = i := ⟨_, rfl⟩
    rw [hi]
    have HII := hid hi
    have HCl := hid (rclone_any t.1 t.2 a c wc (HT.out.below HST1.out.low))
    have n0 := HST1.out.n.v (k := 0) rfl; have n1 := HST1.out.n.v (k := 1) rfl
    clear hi s2
    go_upto_region 4 with (first | (go_at_call 21; refine HCl.out.mono ?_; rintro e w2 ⟨a', c', rfl, hR2, hb2⟩; have HR2 := hid hR2; have HB2 := hid hb2; clear hR2 hb2) | fail)
    obtain ⟨V, hV⟩ : ∃ V, w2.alloc (.cells #[.string t.1.1, .int .i64 t.1.2, .slice a' (lenF t.2) c'] 26) = V := ⟨_, rfl⟩
    rw [hV]
    have hst : NSt w t a c ⟨kd, at_, many, sym⟩ pa pn pc w2.heap.size a' c' V := by rw [← hV]; exact NSt.new HST1.out HB2.out HR2.out
    have HST := hid hst
    generalize w2.heap.size = Bo at HST ⊢
    clear hst n0 n1 n2 hV HR2 HB2 HCl HST1 HX0 HX1 HX2 HJ HB1
    have s0 := HST.out.x.v (k := 0) rfl
    have hk1 : kd = 4 := hk
    subst hk1
    clear hk
    have hne := later_some V
    cases g
    · go_wp2_with fail
      refine wp_region_later (by kernel_rfl) (by kernel_rfl) ?_
      repeat (go_big_quiet_step (fail))
      refine wpQuiet_nil ?_
      intro _ hw'
      obtain ⟨b2, hw''⟩ := hw'
      subst hw''
      have HST := hid (HST.out.below b2.below)
      have o0 := HST.out.o.v (k := 0) rfl; have o1 := HST.out.o.v (k := 1) rfl; have o2 := HST.out.o.v (k := 2) rfl
      have z0 := HST.out.r.v (k := 0) rfl; have z1 := HST.out.r.v (k := 1) rfl; have z2 := HST.out.r.v (k := 2) rfl
      have f0 := HST.out.r.f 0; have f1 := HST.out.r.f 1; have f2 := HST.out.r.f 2
      go_wp2_with fail
      refine ret_term rfl rfl (sets3_box HST.out.r _ _ _) rfl rfl ?_
      exact HST.out.no (by unfold stepN; rw [if_neg (by simp), if_neg (by rw [HGG.out]; simp)])
    · cases i
      · go_wp2_with fail
        refine wp_region_later (by kernel_rfl) (by kernel_rfl) ?_
        repeat (go_big_quiet_step (fail))
        refine wpQuiet_nil ?_
        intro _ hw'
        obtain ⟨b2, hw''⟩ := hw'
        subst hw''
        have HST := hid (HST.out.below b2.below)
        have o0 := HST.out.o.v (k := 0) rfl; have o1 := HST.out.o.v (k := 1) rfl; have o2 := HST.out.o.v (k := 2) rfl
        have z0 := HST.out.r.v (k := 0) rfl; have z1 := HST.out.r.v (k := 1) rfl; have z2 := HST.out.r.v (k := 2) rfl
        have f0 := HST.out.r.f 0; have f1 := HST.out.r.f 1; have f2 := HST.out.r.f 2
        go_wp2_with fail
        refine ret_term rfl rfl (sets3_box HST.out.r _ _ _) rfl rfl ?_
        exact HST.out.no (by unfold stepN; rw [if_neg (by simp), if_neg (by rw [HII.out]; simp)])
      · obtain ⟨k, hk, hlt⟩ := inI_iff.1 HII.out
        have hk' : at_ = (k : Int) := hk
        subst hk'
        obtain ⟨bb, oo, rfl, hkk⟩ := HT.out.args.get (by omega)
        obtain ⟨z, a1, c1, l1, kd⟩ := hkk.kid (k := k) hlt
        have hget := kid_get kd
        have kdV := kd.below HST.out.low
        have hrt : stepN (sgOf L) t ⟨4, k, many, sym⟩ = (match (sgOf L).unit t.1.2 with | some u => dropN t u ⟨4, k, many, sym⟩ | none => none) := by unfold stepN; rw [if_neg (by simp), if_pos ⟨HGG.out, HII.out⟩, if_neg (by simp), if_neg (by simp), if_neg (by simp), if_pos rfl]; cases (sgOf L).unit t.1.2 <;> rfl
        have hl1 := nodes_kid kd
        have hnn := HN.out
        obtain ⟨un, hun⟩ : ∃ un, isUn (sgOf L) t.1.2 (z, l1) = un := ⟨_, rfl⟩
        have HU : Hid (∀ W, Below V.heap.size V W → Calls Tryz.prog 53 #[.slice S n cap, .int .i64 t.1.2, .agg #[.string z.1, .int .i64 z.2, .slice a1 (lenF l1) c1]] W fun e w' => e = .returned (.bool un) ∧ Below W.heap.size W w') := fun W hW => by
          have hbW : Below w.heap.size w W := HST.out.low.trans (hW.mono HST.out.low.size)
          have := dunit_any S n cap L t.1.2 (z, l1) a1 c1 W (HS.out.below hbW) (by show lenF l1 ≤ _; omega)
          rw [hun] at this
          exact this
        have HRT := hid hrt; have HGET := hid hget; have HUN := hid hun
        have n1 := later_cell (HST.out.n.v (k := 1) rfl); have n2 := later_cell (HST.out.n.v (k := 2) rfl)
        have s2 := later_cell (HST.out.x.v (k := 2) rfl)
        have p0 := later_cell kdV.name; have p1 := later_cell kdV.sym; have p2 := later_cell kdV.list
        have hk0 : (0 : Int) ≤ (k : Int) := by omega
        have hkn : (k : Int) < (lenF t.2 : Int) := by omega
        have HKK := hid hkk
        clear hrt hget kd kdV hkk hk hun
        cases un
        · go_wp2_with fail
          refine wp_region_later (by kernel_rfl) (by kernel_rfl) ?_
          repeat (go_big_quiet_step (first | (go_at_call 53; refine calls_later (HU.out _ ?_); exact Later.below _) | fail))
          refine wpQuiet_nil ?_
          intro _ hw'
          obtain ⟨b2, hw''⟩ := hw'
          subst hw''
          have HST := hid (HST.out.below b2.below)
          clear n1 n2 s2 p0 p1 p2
          have o0 := HST.out.o.v (k := 0) rfl; have o1 := HST.out.o.v (k := 1) rfl; have o2 := HST.out.o.v (k := 2) rfl
          have z0 := HST.out.r.v (k := 0) rfl; have z1 := HST.out.r.v (k := 1) rfl; have z2 := HST.out.r.v (k := 2) rfl
          have f0 := HST.out.r.f 0; have f1 := HST.out.r.f 1; have f2 := HST.out.r.f 2
          go_wp2_with fail
          refine ret_term rfl rfl (sets3_box HST.out.r _ _ _) rfl rfl ?_
          exact HST.out.no (by rw [HRT.out]; exact un_none HUN.out HGET.out)
        · go_wp2_with fail
          refine wp_region_later (by kernel_rfl) (by kernel_rfl) ?_
          repeat (go_big_quiet_step (first | (go_at_call 53; refine calls_later (HU.out _ ?_); exact Later.below _) | fail))
          refine wpQuiet_nil ?_
          intro _ hw'
          obtain ⟨b2, hw''⟩ := hw'
          subst hw''
          have HST := hid (HST.out.below b2.below)
          clear n1 n2 s2 p0 p1 p2
          obtain ⟨u, hu1, hu2⟩ := un_some HUN.out
          obtain ⟨F', hF'⟩ : ∃ F', mkF (layL (kidsL t.2) k 1 []) = F' := ⟨_, rfl⟩
          have hFl : lenF F' = lenF t.2 - 1 := by rw [← hF', len_mk]; unfold layL; simp only [List.length_append, List.length_take, List.length_drop, List.length_nil, kids_len]; omega
          have HFE := hid hF'
          have HDR : Hid (dropN t u ⟨4, k, many, sym⟩ = if lenF t.2 = 2 then ((kidsL t.2)[1 - k]?).map fun z => (z, ⟨5, k, 1, t.1.2⟩) else some ((t.1, F'), ⟨5, k, 0, t.1.2⟩)) := by show _ = _; unfold dropN; simp only [Int.toNat_natCast, HGET.out, hu2, if_true, hF']
          have HU1 := hid hu1
          have HLD : Hid (Calls Tryz.prog 51 #[.slice (some ⟨bb, oo, none⟩) (lenF t.2) c, .int .i64 k, .int .i64 1, .slice none 0 0] b2.now fun e w' => ∃ a5 c5, e = .returned (.slice a5 (lenF F') c5) ∧ OwnTm false (fun q => b2.now.heap.size ≤ q) w' t.1 a5 c5 F' ∧ Below b2.now.heap.size b2.now w') := by
            have hnn := HN.out
            have h0 := dlaid_any bb oo t.2 .nil c k 1 none 0 b2.now (kids_below HKK.out HST.out.low) (.inl rfl) (by omega) hcc (by unfold maxLen; omega) (by omega) (by simp [lenF])
            simp only [lenF, kidsL] at h0
            refine Calls.mono h0 ?_
            intro e w' h
            have := ld_term (x := t.1) h HT.out.sizes.name (by unfold layL; simp only [List.length_append, List.length_take, List.length_drop, List.length_nil, kids_len]; omega)
            rw [hF'] at this
            exact this
          have n2 := HST.out.n.v (k := 2) rfl
          have s2 := HST.out.x.v (k := 2) rfl
          obtain ⟨N, hN⟩ : ∃ N, lenF F' = N := ⟨_, rfl⟩
          rw [hN] at HLD hFl
          have HNE := hid hN
          clear hF' hu1 hu2 hN
          by_cases h2 : lenF t.2 = 2
          · have hN1 : N = 1 := by omega
            subst hN1
            obtain ⟨zz, hz⟩ : ∃ zz, (kidsL t.2)[1 - k]? = some zz := ⟨_, List.getElem?_eq_getElem (by rw [kids_len]; omega)⟩
            have HRS : Hid (stepN (sgOf L) t ⟨4, k, many, sym⟩ = some (zz, ⟨5, k, 1, t.1.2⟩)) := by show _ = _; rw [HRT.out, HU1.out]; simp only; rw [HDR.out, if_pos h2, hz]; rfl
            have HKF : Hid ((kidsL F')[0]? = some zz) := by show _ = _; rw [← HFE.out, kids_mk]; exact lay_other h2 hlt hz
            clear hz h2 hFl
            go_wp2_with fail
            refine HLD.out.mono ?_
            rintro e w5 ⟨a5, c5, rfl, hO5, hb5⟩
            have HO5 := hid hO5
            have HB5 := hid hb5
            have X5 := HST.out.o.below hb5
            have q2 := X5.v (k := 2) rfl
            have qf2 := X5.f 2
            have hy : YSt w Bo (t.1, F') a5 c5 (w5.setCell ⟨Bo, 2, none⟩ (.slice a5 1 c5)) := (by have := HST.out.set HB5.out HO5.out; rw [HNE.out] at this; exact this)
            obtain ⟨V5, hV5⟩ : ∃ V5, w5.setCell ⟨Bo, 2, none⟩ (.slice a5 1 c5) = V5 := ⟨_, rfl⟩
            rw [hV5] at hy
            obtain ⟨b5, o5, ha5, hk5⟩ := hy.own.tm.args.get (by show 0 < lenF F'; rw [HNE.out]; omega)
            subst ha5
            obtain ⟨y, ya, yc, yl, kd5⟩ := hk5.kid (k := 0) (by show 0 < lenF F'; rw [HNE.out]; omega)
            have o2 : V5.cell? ⟨Bo, 2, none⟩ = some (.slice (some ⟨b5, o5, none⟩) 1 c5) := by rw [hy.o.c 2]; show some (Value.slice _ (lenF F') _) = _; rw [HNE.out]
            have k0 := kd5.name
            have k1 := kd5.sym
            have k2 := kd5.list
            simp only [Nat.zero_mul, Nat.add_zero] at k0 k1 k2
            have hin0 : (0 : Int) ≤ 0 := Int.le_refl _
            have hin1 : (0 : Int) < 1 := (by decide)
            have z0 := hy.r.v (k := 0) rfl
            have z1 := hy.r.v (k := 1) rfl
            have z2 := hy.r.v (k := 2) rfl
            have f0 := hy.r.f 0
            have f1 := hy.r.f 1
            have f2 := hy.r.f 2
            have HY := hid hy
            have HKG := hid (kid_get kd5)
            clear hO5 hb5 X5 hy hk5 kd5
            go_wp2_with fail
            refine ret_term rfl rfl (sets3_box HY.out.r _ _ _) rfl rfl ?_
            exact HY.out.kid HRS.out HKF.out k0 k1 k2 HKG.out
          · have hN1 : ¬ (N : Int) = 1 := by have := HT.out; omega
            have hN2 : ((N : Int) == 1) = false := by simp; omega
            have HRS : Hid (stepN (sgOf L) t ⟨4, k, many, sym⟩ = some ((t.1, F'), ⟨5, k, 0, t.1.2⟩)) := by show _ = _; rw [HRT.out, HU1.out]; simp only; rw [HDR.out, if_neg h2]
            clear hFl h2 hN1
            go_wp2_with fail
            refine HLD.out.mono ?_
            rintro e w5 ⟨a5, c5, rfl, hO5, hb5⟩
            have HO5 := hid hO5
            have HB5 := hid hb5
            have X5 := HST.out.o.below hb5
            have q2 := X5.v (k := 2) rfl
            have qf2 := X5.f 2
            have hy : YSt w Bo (t.1, F') a5 c5 (w5.setCell ⟨Bo, 2, none⟩ (.slice a5 N c5)) := (by have := HST.out.set HB5.out HO5.out; rw [HNE.out] at this; exact this)
            obtain ⟨V5, hV5⟩ : ∃ V5, w5.setCell ⟨Bo, 2, none⟩ (.slice a5 N c5) = V5 := ⟨_, rfl⟩
            rw [hV5] at hy
            have o0 := hy.o.v (k := 0) rfl
            have o1 := hy.o.v (k := 1) rfl
            have o2 : V5.cell? ⟨Bo, 2, none⟩ = some (.slice a5 N c5) := by rw [hy.o.c 2]; show some (Value.slice _ (lenF F') _) = _; rw [HNE.out]
            have z0 := hy.r.v (k := 0) rfl
            have z1 := hy.r.v (k := 1) rfl
            have z2 := hy.r.v (k := 2) rfl
            have f0 := hy.r.f 0
            have f1 := hy.r.f 1
            have f2 := hy.r.f 2
            have HY := hid hy
            clear hO5 hb5 X5 hy
            go_wp2_with fail
            refine ret_term rfl rfl (sets3_box HY.out.r _ _ _) rfl rfl ?_
            have := HY.out.yes HRS.out (x0 := .string t.1.1) (x1 := .int .i64 t.1.2) (x2 := .slice a5 N c5)
            unfold tmC at this
            rw [show lenF ((t.1, F') : Tn).2 = N from HNE.out] at this
            exact this
end Go.Proofs.YtokbgbbkopmngaaGreat
/- The document's node, group. -/
namespace Go.Proofs.YtokbgbbkopmngaaGreat
open Go.RowKit Go.Deep

set_option maxRecDepth 100000 in
set_option maxHeartbeats 4000000 in
theorem dnode_group (S : Option Addr) (n cap : Nat) (L : List Sym) (t : Tn) (a : Option Addr) (c : Nat) (p : Sp) (pa : Option Addr) (pn pc : Nat) (w : World)
    (hS : SigAt w S n L) (hT : TmAt w t.1 a c t.2) (hn : nodesF t.2 ≤ 1048576) (hG : gathN (sgOf L) t = true → 2 ≤ lenF t.2) (hk : p.kind = 2) :
    Calls Tryz.prog 34 #[.slice S n cap, .agg #[.string t.1.1, .int .i64 t.1.2, .slice a (lenF t.2) c], stepV p pa pn pc] w (NodeEnd w (stepN (sgOf L) t p)) := by
  obtain ⟨kd, at_, many, sym⟩ := p
  obtain ⟨W0, hW0⟩ : ∃ W0, ((w.alloc (.cells #[.string t.1.1, .int .i64 t.1.2, .slice a (lenF t.2) c] 26)).alloc (.cells #[.int .i64 kd, .slice pa pn pc, .int .i64 at_, .int .i64 many, .int .i64 sym] 47)).alloc (.cells #[.string ⟨#[]⟩, .int .i64 0, .slice none 0 0] 26) = W0 := ⟨_, rfl⟩
  have hb0 : Below w.heap.size w W0 := by rw [← hW0]; exact ((alloc_below0 w _).alloc (by simp) _).alloc (by simp; omega) _
  have B0 : Box W0 w.heap.size 26 (tmC t a c) := by rw [← hW0]; exact ((Box.new w 26 _).over _).over _
  have B1 : Box W0 (w.heap.size + 1) 47 (stepC ⟨kd, at_, many, sym⟩ pa pn pc) := by rw [← hW0]; exact (box_new (by rw [World.size_alloc]) 47 _).over _
  have B2 : Box W0 (w.heap.size + 2) 26 (tmC ((⟨#[]⟩, 0), .nil) none 0) := by rw [← hW0]; exact box_new (by rw [World.size_alloc, World.size_alloc]) 26 _
  have hsz : W0.heap.size = w.heap.size + 3 := by rw [← hW0]; simp
  have HJ := hid (djoins_any S n cap L t a c W0 (hS.below hb0))
  have d0 := B0.v (k := 0) rfl; have d1 := B0.v (k := 1) rfl; have d2 := B0.v (k := 2) rfl
  have hlen := len_nodes t.2
  have hcc := hT.sizes.len; have hcm := hT.sizes.cap
  unfold maxLen at hcm
  have HB0 := hid hb0; have HX0 := hid B0; have HX1 := hid B1; have HX2 := hid B2; have HS := hid hS; have HT := hid hT; have HN := hid hn; have HG := hid hG; have HSZ := hid hsz
  clear hb0 B0 B1 B2 hS hT hn hG hsz
  go_enter Tryz.func34, Tryz.ntmps34
  go_upto_region 2 with (first | (go_at_call 50; refine HJ.out.mono ?_; rintro e w1 ⟨rfl, hb1⟩; have HB1 := hid hb1; clear hb1) | fail)
  clear hW0 d0 d1 d2
  have hst1 : NSt0 w t a c ⟨kd, at_, many, sym⟩ pa pn pc w1 := ⟨HB0.out.trans (HB1.out.mono HB0.out.size), HX0.out.below HB1.out, HX1.out.below HB1.out, HX2.out.below HB1.out, by have := HSZ.out; have := HB1.out.size; omega⟩
  have HST1 := hid hst1
  have s2 := hst1.x.v (k := 2) rfl
  have n2 := hst1.n.v (k := 2) rfl
  obtain ⟨g, hg⟩ : ∃ g, gathN (sgOf L) t = g := ⟨_, rfl⟩
  rw [hg]
  have HGG := hid hg
  clear hst1 hg
  go_cut [9] (fun v w' => v = .bool (inI at_ (lenF t.2)) ∧ w' = w1)
  case first =>
    by_cases h0 : 0 ≤ at_
    · by_cases h1 : at_ < (lenF t.2 : Int)
      · have e : inI at_ (lenF t.2) = true := by unfold inI; simp [h0, h1]
        go_wp2_with fail
        go_meet
        exact ⟨by rw [e] <;> rfl, rfl⟩
      · have e : inI at_ (lenF t.2) = false := by unfold inI; simp [h1]
        go_wp2_with fail
        go_meet
        exact ⟨by rw [e] <;> rfl, rfl⟩
    · have e : inI at_ (lenF t.2) = false := by unfold inI; simp [h0]
      go_wp2_with fail
      go_meet
      exact ⟨by rw [e] <;> rfl, rfl⟩
  case rest =>
    obtain ⟨rfl, rfl⟩ := hcut
    obtain ⟨i, hi⟩ : ∃ i, inI at_ (lenF t.2) = i := ⟨_, rfl⟩
    rw [hi]
    have HII := hid hi
    have HCl := hid (rclone_any t.1 t.2 a c wc (HT.out.below HST1.out.low))
    have n0 := HST1.out.n.v (k := 0) rfl; have n1 := HST1.out.n.v (k := 1) rfl
    clear hi s2
    go_upto_region 4 with (first | (go_at_call 21; refine HCl.out.mono ?_; rintro e w2 ⟨a', c', rfl, hR2, hb2⟩; have HR2 := hid hR2; have HB2 := hid hb2; clear hR2 hb2) | fail)
    obtain ⟨V, hV⟩ : ∃ V, w2.alloc (.cells #[.string t.1.1, .int .i64 t.1.2, .slice a' (lenF t.2) c'] 26) = V := ⟨_, rfl⟩
    rw [hV]
    have hst : NSt w t a c ⟨kd, at_, many, sym⟩ pa pn pc w2.heap.size a' c' V := by rw [← hV]; exact NSt.new HST1.out HB2.out HR2.out
    have HST := hid hst
    generalize w2.heap.size = Bo at HST ⊢
    clear hst n0 n1 n2 hV HR2 HB2 HCl HST1 HX0 HX1 HX2 HJ HB1
    have s0 := HST.out.x.v (k := 0) rfl
    have hk1 : kd = 2 := hk
    subst hk1
    clear hk
    have s2 := HST.out.x.v (k := 2) rfl; have s3 := HST.out.x.v (k := 3) rfl
    have n1 := HST.out.n.v (k := 1) rfl; have n2 := HST.out.n.v (k := 2) rfl
    cases g
    · have o0 := HST.out.o.v (k := 0) rfl; have o1 := HST.out.o.v (k := 1) rfl; have o2 := HST.out.o.v (k := 2) rfl
      have z0 := HST.out.r.v (k := 0) rfl; have z1 := HST.out.r.v (k := 1) rfl; have z2 := HST.out.r.v (k := 2) rfl
      have f0 := HST.out.r.f 0; have f1 := HST.out.r.f 1; have f2 := HST.out.r.f 2
      go_wp2_with fail
      refine ret_term rfl rfl (sets3_box HST.out.r _ _ _) rfl rfl ?_
      exact HST.out.no (by unfold stepN; rw [if_neg (by simp), if_neg (by rw [HGG.out]; simp)])
    · cases i
      · have o0 := HST.out.o.v (k := 0) rfl; have o1 := HST.out.o.v (k := 1) rfl; have o2 := HST.out.o.v (k := 2) rfl
        have z0 := HST.out.r.v (k := 0) rfl; have z1 := HST.out.r.v (k := 1) rfl; have z2 := HST.out.r.v (k := 2) rfl
        have f0 := HST.out.r.f 0; have f1 := HST.out.r.f 1; have f2 := HST.out.r.f 2
        go_wp2_with fail
        refine ret_term rfl rfl (sets3_box HST.out.r _ _ _) rfl rfl ?_
        exact HST.out.no (by unfold stepN; rw [if_neg (by simp), if_neg (by rw [HII.out]; simp)])
      · obtain ⟨k, hk, hlt⟩ := inI_iff.1 HII.out
        have hk' : at_ = (k : Int) := hk
        subst hk'
        have hrt : stepN (sgOf L) t ⟨2, k, many, sym⟩ = groupN t ⟨2, k, many, sym⟩ := by unfold stepN; rw [if_neg (by simp), if_pos ⟨HGG.out, HII.out⟩, if_neg (by simp), if_pos rfl]
        have HRT := hid hrt
        have hnn := HN.out
        have hlf : lenF t.2 ≤ 1048576 := by omega
        have hk0 : (0 : Int) ≤ (k : Int) := by omega
        have hkn : (k : Int) < (lenF t.2 : Int) := by omega
        clear hrt hk hnn
        by_cases h2 : many < 2
        · have o0 := HST.out.o.v (k := 0) rfl; have o1 := HST.out.o.v (k := 1) rfl; have o2 := HST.out.o.v (k := 2) rfl
          have z0 := HST.out.r.v (k := 0) rfl; have z1 := HST.out.r.v (k := 1) rfl; have z2 := HST.out.r.v (k := 2) rfl
          have f0 := HST.out.r.f 0; have f1 := HST.out.r.f 1; have f2 := HST.out.r.f 2
          go_wp2_with fail
          refine ret_term rfl rfl (sets3_box HST.out.r _ _ _) rfl rfl ?_
          exact HST.out.no (by rw [HRT.out]; unfold groupN; rw [if_neg (fun h => by have := h.1; simp only at this; omega)])
        · by_cases h3 : (lenF t.2 : Int) ≤ many
          · have o0 := HST.out.o.v (k := 0) rfl; have o1 := HST.out.o.v (k := 1) rfl; have o2 := HST.out.o.v (k := 2) rfl
            have z0 := HST.out.r.v (k := 0) rfl; have z1 := HST.out.r.v (k := 1) rfl; have z2 := HST.out.r.v (k := 2) rfl
            have f0 := HST.out.r.f 0; have f1 := HST.out.r.f 1; have f2 := HST.out.r.f 2
            go_wp2_with fail
            refine ret_term rfl rfl (sets3_box HST.out.r _ _ _) rfl rfl ?_
            exact HST.out.no (by rw [HRT.out]; unfold groupN; rw [if_neg (fun h => by have := h.2.1; simp only at this; omega)])
          · by_cases h4 : (lenF t.2 : Int) - (k : Int) < many
            · have o0 := HST.out.o.v (k := 0) rfl; have o1 := HST.out.o.v (k := 1) rfl; have o2 := HST.out.o.v (k := 2) rfl
              have z0 := HST.out.r.v (k := 0) rfl; have z1 := HST.out.r.v (k := 1) rfl; have z2 := HST.out.r.v (k := 2) rfl
              have f0 := HST.out.r.f 0; have f1 := HST.out.r.f 1; have f2 := HST.out.r.f 2
              go_wp2_with fail
              refine ret_term rfl rfl (sets3_box HST.out.r _ _ _) rfl rfl ?_
              exact HST.out.no (by rw [HRT.out]; unfold groupN; rw [if_neg (fun h => by have := h.2.2; simp only at this; omega)])
            · obtain ⟨mm, hmm⟩ : ∃ mm : Nat, many = mm := ⟨many.toNat, by omega⟩
              subst hmm
              obtain ⟨bb, oo, rfl, hkk⟩ := HT.out.args.get (by omega)
              have hle : k + mm ≤ lenF t.2 := by omega
              obtain ⟨G, hG⟩ : ∃ G, mkF (((kidsL t.2).drop k).take mm) = G := ⟨_, rfl⟩
              obtain ⟨F', hF'⟩ : ∃ F', mkF (layL (kidsL t.2) k mm [((noB, t.1.2), G)]) = F' := ⟨_, rfl⟩
              have hGl : lenF G = mm := by rw [← hG, len_mk, List.length_take, List.length_drop, kids_len]; omega
              have HRS : Hid (stepN (sgOf L) t ⟨2, k, mm, sym⟩ = some ((t.1, F'), ⟨1, k, 0, 0⟩)) := by
                show _ = _
                rw [HRT.out]
                unfold groupN
                simp only [Int.toNat_natCast, hG, hF']
                rw [if_pos ⟨by omega, by omega, by omega⟩]
              have HCL : Hid (∀ W, Below V.heap.size V W → Calls Tryz.prog 52 #[.slice (some ⟨bb, oo + k * 3, none⟩) mm (c - k)] W fun e w' => ∃ a4 c4, e = .returned (.slice a4 mm c4) ∧ OwnTm false (fun q => W.heap.size ≤ q) w' (⟨#[]⟩, t.1.2) a4 c4 G ∧ Below W.heap.size W w') := fun W hW => by
                have hbW : Below w.heap.size w W := HST.out.low.trans (hW.mono HST.out.low.size)
                have h0 := clones_take (F := dropF k t.2) mm (c - k) ((kids_below hkk hbW).drop k) (by rw [len_drop]; omega) (by rw [len_drop]; omega)
                rw [kids_drop] at h0
                refine Calls.mono h0 ?_
                rintro e w' ⟨v, ks, rfl, hL, _, hm, hb⟩
                obtain ⟨a4, c4, e4, hO4⟩ := hL.term (F := G) (⟨#[]⟩, t.1.2) (by rw [← hG, kids_mk]; exact hm) (Nat.zero_le _) (by rw [hGl]; omega)
                rw [hGl] at e4
                exact ⟨a4, c4, by rw [e4], hO4, hb⟩
              have HLD : Hid (∀ W W', Below V.heap.size V W → Below W.heap.size W W' → ∀ a4 c4, OwnTm false (fun q => V.heap.size ≤ q) W (⟨#[]⟩, t.1.2) a4 c4 G → ∀ B4, Box W' B4 26 #[.string ⟨#[]⟩, .int .i64 t.1.2, .slice a4 mm c4] → Calls Tryz.prog 51 #[.slice (some ⟨bb, oo, none⟩) (lenF t.2) c, .int .i64 k, .int .i64 mm, .slice (some ⟨B4, 0, none⟩) 1 1] W' fun e w' => ∃ a5 c5, e = .returned (.slice a5 (lenF F') c5) ∧ OwnTm false (fun q => W'.heap.size ≤ q) w' t.1 a5 c5 F' ∧ Below W'.heap.size W' w') := fun W W' hW hW' a4 c4 hO B4 hB4 => by
                have hbW : Below w.heap.size w W' := HST.out.low.trans ((hW.trans (hW'.mono hW.size)).mono HST.out.low.size)
                have hX : ArgsAt W' (some ⟨B4, 0, none⟩) (.node 0 0 (⟨#[]⟩, t.1.2) G .nil) := .inr ⟨B4, 0, rfl, ⟨a4, c4, hB4.v rfl, hB4.v rfl, by rw [hGl]; exact hB4.v rfl, (hO.tm.below hW').sizes, (hO.tm.below hW').args⟩, trivial⟩
                have h0 := dlaid_any bb oo t.2 _ c k mm (some ⟨B4, 0, none⟩) 1 W' (kids_below hkk hbW) hX hle hcc (by unfold maxLen; omega) hlf (by simp [lenF])
                simp only [lenF, kidsL, Nat.zero_add] at h0
                refine Calls.mono h0 ?_
                intro e w' h
                have := ld_term (x := t.1) h HT.out.sizes.name (by unfold layL; simp only [List.length_append, List.length_take, List.length_drop, List.length_cons, List.length_nil, kids_len]; omega)
                rw [show mkF (layL (kidsL t.2) k mm [((⟨#[]⟩, t.1.2), G)]) = F' from hF'] at this
                exact this
              have hi3 : (k : Int) ≤ (k : Int) + mm := by omega
              have hi4 : (k : Int) + mm ≤ (c : Int) := by omega
              have hi5 : ((k : Int) + mm).toNat = k + mm := by omega
              have hi6 : ¬ c = k := by omega
              have hi7 : k + mm - k = mm := by omega
              have hw : IntKind.i64.wrap ((k : Int) + (mm : Int)) = (k : Int) + (mm : Int) := IntWalk.i64_in _ (by constructor <;> omega)
              have HKK := hid hkk; have HHH := hid hF'
              clear hG hF' hGl hkk
              go_wp2_with fail
              go_cut [11] (fun x w' => ∃ B4 a4 c4, x = .pointer (some ⟨B4, 0, none⟩) ∧ Box w' B4 26 #[.string ⟨#[]⟩, .int .i64 t.1.2, .slice a4 mm c4] ∧ OwnTm false (fun q => V.heap.size ≤ q) w' (⟨#[]⟩, t.1.2) a4 c4 G ∧ Below V.heap.size V w')
              case first =>
                go_region_held3 (fun w' => w'.cell? ⟨w.heap.size, 1, none⟩ = some (.int .i64 t.1.2) ∧ w'.cell? ⟨w.heap.size, 2, none⟩ = some (.slice (some ⟨bb, oo, none⟩) (lenF t.2) c) ∧ w'.cell? ⟨w.heap.size + 1, 2, none⟩ = some (.int .i64 k) ∧ w'.cell? ⟨w.heap.size + 1, 3, none⟩ = some (.int .i64 mm)) ((first | (go_split_ands; refine ⟨?_, ?_, ?_, ?_⟩ <;> ((with_reducible refine below_cell HB4.out _ _ ?_); assumption)) | (have hqq := HX4.out; clear hqq; go_split_ands; refine ⟨?_, ?_, ?_, ?_⟩ <;> (refine below_cell (sets_below HB4.out (Nat.le_refl _) _ _ _) _ _ ?_; assumption)) | (go_split_ands; refine ⟨?_, ?_, ?_, ?_⟩ <;> (refine below_cell (HB4.out.alloc HB4.out.size _) _ _ ?_; assumption)) | (go_split_ands; refine ⟨?_, ?_, ?_, ?_⟩ <;> (refine below_cell ((Below.refl _ V).alloc (Nat.le_refl _) _) _ _ ?_; assumption)) | go_keep | fail)) ((first | (go_at_call 52; (with_reducible refine Calls.mono (HCL.out (World.drew V) (Below.refl _ V).drew) ?_); rintro e w4 ⟨a4, c4, rfl, hO4, hb4⟩; have HO4 : Hid (OwnTm false (fun q => V.heap.size ≤ q) w4 (⟨#[]⟩, t.1.2) a4 c4 G) := hO4; have HB4 : Hid (Below V.heap.size V w4) := ((Below.refl _ V).drew).trans hb4; clear hO4 hb4) | (go_at_call 52; refine (HCL.out (World.drew (World.alloc V (.cells #[.string ⟨#[]⟩, .int .i64 0, .slice none 0 0] 26))) ((Below.refl _ V).alloc (Nat.le_refl _) _).drew).mono ?_; rintro e w4 ⟨a4, c4, rfl, hO4, hb4⟩; have HO4 : Hid (OwnTm false (fun q => V.heap.size < q) w4 (⟨#[]⟩, t.1.2) a4 c4 G) := hO4.mono (fun q _ hq => by have hq : (World.drew (World.alloc V (.cells #[.string ⟨#[]⟩, .int .i64 0, .slice none 0 0] 26))).heap.size ≤ q := hq; rw [show (World.drew (World.alloc V (.cells #[.string ⟨#[]⟩, .int .i64 0, .slice none 0 0] 26))).heap.size = V.heap.size + 1 from World.size_alloc _ _] at hq; omega); have HB4 : Hid (Below V.heap.size V w4) := (((Below.refl _ V).alloc (Nat.le_refl _) _).drew).trans (hb4.mono (by show _ ≤ (V.alloc _).heap.size; rw [World.size_alloc]; omega)); have HX4 : Hid (Box w4 V.heap.size 26 #[.string ⟨#[]⟩, .int .i64 0, .slice none 0 0]) := Box.below (W := World.drew (World.alloc V (.cells #[.string ⟨#[]⟩, .int .i64 0, .slice none 0 0] 26))) (Box.new V 26 _) hb4; have z0 := HX4.out.v (k := 0) rfl; have z1 := HX4.out.v (k := 1) rfl; have z2 := HX4.out.v (k := 2) rfl; have zf0 := HX4.out.f 0; have zf1 := HX4.out.f 1; have zf2 := HX4.out.f 2; clear hO4 hb4) | fail))
                all_goals (go_wp2_with fail; go_meet)
                all_goals first
                  | exact ⟨V.heap.size, a4, c4, rfl, sets3_box HX4.out _ _ _, (HO4.out.keep (fun q hq _ => sets_far (by omega) _ _ _)).mono (fun q _ hq => by omega), sets_below HB4.out (Nat.le_refl _) _ _ _⟩
                  | exact ⟨w4.heap.size, a4, c4, rfl, Box.new _ _ _, HO4.out.below (alloc_below0 _ _), HB4.out.alloc HB4.out.size _⟩
              case rest =>
                obtain ⟨B4, a4, c4, rfl, hX4, hO4, hb4⟩ := hcut
                obtain ⟨V1, rfl⟩ : ∃ V1, V1 = wc := ⟨_, rfl⟩
                have HST1 := hid (HST.out.below hb4)
                obtain ⟨W', hW'⟩ : ∃ W', V1.alloc (.cells #[.string ⟨#[]⟩, .int .i64 t.1.2, .slice a4 mm c4] 26) = W' := ⟨_, rfl⟩
                have hbW' : Below V1.heap.size V1 W' := by rw [← hW']; exact alloc_below0 _ _
                have HLD2 := hid (HLD.out V1 W' hb4 hbW' a4 c4 hO4 V1.heap.size (by rw [← hW']; exact Box.new _ _ _))
                have HST2 := hid (HST1.out.below hbW')
                clear n1 n2 s2 s3
                have n2 := HST1.out.n.v (k := 2) rfl
                have s2 := HST1.out.x.v (k := 2) rfl; have s3 := HST1.out.x.v (k := 3) rfl
                have q0 := hX4.v (k := 0) rfl; have q1 := hX4.v (k := 1) rfl; have q2 := hX4.v (k := 2) rfl
                clear hX4 hO4 hb4 hbW'
                go_wp2_with fail
                refine HLD2.out.mono ?_
                rintro e w5 ⟨a5, c5, rfl, hO5, hb5⟩
                have X5 := HST2.out.o.below hb5
                have r2 := X5.v (k := 2) rfl
                have rf2 := X5.f 2
                have hy := HST2.out.set hb5 hO5
                obtain ⟨V5, hV5⟩ : ∃ V5, w5.setCell ⟨Bo, 2, none⟩ (.slice a5 (lenF F') c5) = V5 := ⟨_, rfl⟩
                rw [hV5] at hy
                have o0 := hy.o.v (k := 0) rfl; have o1 := hy.o.v (k := 1) rfl; have o2 := hy.o.v (k := 2) rfl
                have z0 := hy.r.v (k := 0) rfl; have z1 := hy.r.v (k := 1) rfl; have z2 := hy.r.v (k := 2) rfl
                have f0 := hy.r.f 0; have f1 := hy.r.f 1; have f2 := hy.r.f 2
                have HY := hid hy
                clear hO5 hb5 X5 hy
                go_wp2_with fail
                refine ret_term rfl rfl (sets3_box HY.out.r _ _ _) rfl rfl ?_
                exact HY.out.yes HRS.out
end Go.Proofs.YtokbgbbkopmngaaGreat
/- The document's node, of another kind. -/
namespace Go.Proofs.YtokbgbbkopmngaaGreat
open Go.RowKit Go.Deep

set_option maxRecDepth 100000 in
set_option maxHeartbeats 4000000 in
theorem dnode_other (S : Option Addr) (n cap : Nat) (L : List Sym) (t : Tn) (a : Option Addr) (c : Nat) (p : Sp) (pa : Option Addr) (pn pc : Nat) (w : World)
    (hS : SigAt w S n L) (hT : TmAt w t.1 a c t.2) (hn : nodesF t.2 ≤ 1048576) (hG : gathN (sgOf L) t = true → 2 ≤ lenF t.2) (hk : p.kind ≠ 1 ∧ p.kind ≠ 2 ∧ p.kind ≠ 3 ∧ p.kind ≠ 4 ∧ p.kind ≠ 5) :
    Calls Tryz.prog 34 #[.slice S n cap, .agg #[.string t.1.1, .int .i64 t.1.2, .slice a (lenF t.2) c], stepV p pa pn pc] w (NodeEnd w (stepN (sgOf L) t p)) := by
  obtain ⟨kd, at_, many, sym⟩ := p
  obtain ⟨W0, hW0⟩ : ∃ W0, ((w.alloc (.cells #[.string t.1.1, .int .i64 t.1.2, .slice a (lenF t.2) c] 26)).alloc (.cells #[.int .i64 kd, .slice pa pn pc, .int .i64 at_, .int .i64 many, .int .i64 sym] 47)).alloc (.cells #[.string ⟨#[]⟩, .int .i64 0, .slice none 0 0] 26) = W0 := ⟨_, rfl⟩
  have hb0 : Below w.heap.size w W0 := by rw [← hW0]; exact ((alloc_below0 w _).alloc (by simp) _).alloc (by simp; omega) _
  have B0 : Box W0 w.heap.size 26 (tmC t a c) := by rw [← hW0]; exact ((Box.new w 26 _).over _).over _
  have B1 : Box W0 (w.heap.size + 1) 47 (stepC ⟨kd, at_, many, sym⟩ pa pn pc) := by rw [← hW0]; exact (box_new (by rw [World.size_alloc]) 47 _).over _
  have B2 : Box W0 (w.heap.size + 2) 26 (tmC ((⟨#[]⟩, 0), .nil) none 0) := by rw [← hW0]; exact box_new (by rw [World.size_alloc, World.size_alloc]) 26 _
  have hsz : W0.heap.size = w.heap.size + 3 := by rw [← hW0]; simp
  have HJ := hid (djoins_any S n cap L t a c W0 (hS.below hb0))
  have d0 := B0.v (k := 0) rfl; have d1 := B0.v (k := 1) rfl; have d2 := B0.v (k := 2) rfl
  have hlen := len_nodes t.2
  have hcc := hT.sizes.len; have hcm := hT.sizes.cap
  unfold maxLen at hcm
  have HB0 := hid hb0; have HX0 := hid B0; have HX1 := hid B1; have HX2 := hid B2; have HS := hid hS; have HT := hid hT; have HN := hid hn; have HG := hid hG; have HSZ := hid hsz
  clear hb0 B0 B1 B2 hS hT hn hG hsz
  go_enter Tryz.func34, Tryz.ntmps34
  go_upto_region 2 with (first | (go_at_call 50; refine HJ.out.mono ?_; rintro e w1 ⟨rfl, hb1⟩; have HB1 := hid hb1; clear hb1) | fail)
  clear hW0 d0 d1 d2
  have hst1 : NSt0 w t a c ⟨kd, at_, many, sym⟩ pa pn pc w1 := ⟨HB0.out.trans (HB1.out.mono HB0.out.size), HX0.out.below HB1.out, HX1.out.below HB1.out, HX2.out.below HB1.out, by have := HSZ.out; have := HB1.out.size; omega⟩
  have HST1 := hid hst1
  have s2 := hst1.x.v (k := 2) rfl
  have n2 := hst1.n.v (k := 2) rfl
  obtain ⟨g, hg⟩ : ∃ g, gathN (sgOf L) t = g := ⟨_, rfl⟩
  rw [hg]
  have HGG := hid hg
  clear hst1 hg
  go_cut [9] (fun v w' => v = .bool (inI at_ (lenF t.2)) ∧ w' = w1)
  case first =>
    by_cases h0 : 0 ≤ at_
    · by_cases h1 : at_ < (lenF t.2 : Int)
      · have e : inI at_ (lenF t.2) = true := by unfold inI; simp [h0, h1]
        go_wp2_with fail
        go_meet
        exact ⟨by rw [e] <;> rfl, rfl⟩
      · have e : inI at_ (lenF t.2) = false := by unfold inI; simp [h1]
        go_wp2_with fail
        go_meet
        exact ⟨by rw [e] <;> rfl, rfl⟩
    · have e : inI at_ (lenF t.2) = false := by unfold inI; simp [h0]
      go_wp2_with fail
      go_meet
      exact ⟨by rw [e] <;> rfl, rfl⟩
  case rest =>
    obtain ⟨rfl, rfl⟩ := hcut
    obtain ⟨i, hi⟩ : ∃ i, inI at_ (lenF t.2) = i := ⟨_, rfl⟩
    rw [hi]
    have HII := hid hi
    have HCl := hid (rclone_any t.1 t.2 a c wc (HT.out.below HST1.out.low))
    have n0 := HST1.out.n.v (k := 0) rfl; have n1 := HST1.out.n.v (k := 1) rfl
    clear hi s2
    go_upto_region 4 with (first | (go_at_call 21; refine HCl.out.mono ?_; rintro e w2 ⟨a', c', rfl, hR2, hb2⟩; have HR2 := hid hR2; have HB2 := hid hb2; clear hR2 hb2) | fail)
    obtain ⟨V, hV⟩ : ∃ V, w2.alloc (.cells #[.string t.1.1, .int .i64 t.1.2, .slice a' (lenF t.2) c'] 26) = V := ⟨_, rfl⟩
    rw [hV]
    have hst : NSt w t a c ⟨kd, at_, many, sym⟩ pa pn pc w2.heap.size a' c' V := by rw [← hV]; exact NSt.new HST1.out HB2.out HR2.out
    have HST := hid hst
    generalize w2.heap.size = Bo at HST ⊢
    clear hst n0 n1 n2 hV HR2 HB2 HCl HST1 HX0 HX1 HX2 HJ HB1
    have s0 := HST.out.x.v (k := 0) rfl
    have e1 : (kd == 1) = false := by simp [hk.1]
    have e2 : (kd == 2) = false := by simp [hk.2.1]
    have e3 : (kd == 3) = false := by simp [hk.2.2.1]
    have e4 : (kd == 4) = false := by simp [hk.2.2.2.1]
    have e5 : (kd == 5) = false := by simp [hk.2.2.2.2]
    have HK := hid hk
    clear hk
    have o0 := HST.out.o.v (k := 0) rfl; have o1 := HST.out.o.v (k := 1) rfl; have o2 := HST.out.o.v (k := 2) rfl
    have z0 := HST.out.r.v (k := 0) rfl; have z1 := HST.out.r.v (k := 1) rfl; have z2 := HST.out.r.v (k := 2) rfl
    have f0 := HST.out.r.f 0; have f1 := HST.out.r.f 1; have f2 := HST.out.r.f 2
    go_wp2_with fail
    refine ret_term rfl rfl (sets3_box HST.out.r _ _ _) rfl rfl ?_
    exact HST.out.no (by unfold stepN; rw [if_neg HK.out.2.2.2.2]; split <;> first | rfl | (rw [if_neg HK.out.1, if_neg HK.out.2.1, if_neg HK.out.2.2.1, if_neg HK.out.2.2.2.1]))
end Go.Proofs.YtokbgbbkopmngaaGreat
/- The live question. -/
namespace Go.Proofs.YtokbgbbkopmngaaGreat
open Go.RowKit Go.Deep

def bA : ByteArray := ⟨#[97]⟩
def bOne : ByteArray := ⟨#[111, 110, 101]⟩
def bF : ByteArray := ⟨#[102]⟩
def bPlus : ByteArray := ⟨#[112, 108, 117, 115]⟩
def bTimes : ByteArray := ⟨#[116, 105, 109, 101, 115]⟩
def bX : ByteArray := ⟨#[88]⟩
def someL : List Sym := [⟨bA, 1, 0, ⟨#[]⟩⟩, ⟨bOne, 1, 0, ⟨#[]⟩⟩, ⟨bF, 1, 2, ⟨#[]⟩⟩, ⟨bPlus, 2, 2, ⟨#[]⟩⟩, ⟨bTimes, 3, 2, bOne⟩]
set_option maxRecDepth 100000 in
theorem some_any (w : World) : Calls Tryz.prog 12 #[] w fun e w' => ∃ g, e = .returned (.slice (some ⟨g, 0, none⟩) 5 5) ∧ SigAt w' (some ⟨g, 0, none⟩) 5 someL ∧ Below w.heap.size w w' := by
  go_enter Tryz.func12, Tryz.ntmps12
  go_wp2
  go_ret
  refine ⟨w.heap.size, rfl, ⟨rfl, by decide, fun i hi => ⟨w.heap.size, 0, rfl, ?_⟩, ?_⟩, (Below.refl _ w).alloc (Nat.le_refl _) _⟩
  · have hb := Box.new w 63 #[.string bA, .int .i64 1, .int .i64 0, .string ⟨#[]⟩, .string bOne, .int .i64 1, .int .i64 0, .string ⟨#[]⟩, .string bF, .int .i64 1, .int .i64 2, .string ⟨#[]⟩, .string bPlus, .int .i64 2, .int .i64 2, .string ⟨#[]⟩, .string bTimes, .int .i64 3, .int .i64 2, .string bOne]
    have hi : i < 5 := hi
    match i, hi with
    | 0, _ => exact ⟨hb.c 0, hb.c 1, hb.c 2, hb.c 3⟩
    | 1, _ => exact ⟨hb.c 4, hb.c 5, hb.c 6, hb.c 7⟩
    | 2, _ => exact ⟨hb.c 8, hb.c 9, hb.c 10, hb.c 11⟩
    | 3, _ => exact ⟨hb.c 12, hb.c 13, hb.c 14, hb.c 15⟩
    | 4, _ => exact ⟨hb.c 16, hb.c 17, hb.c 18, hb.c 19⟩
  · intro x hx
    simp only [someL, List.mem_cons, List.not_mem_nil, or_false] at hx
    rcases hx with rfl | rfl | rfl | rfl | rfl <;> exact ⟨by decide, by decide⟩
def headF : Fo := .node 0 0 (⟨#[]⟩, 0) .nil (.node 0 0 (bX, 0) .nil .nil)
def headG : Fo := .node 0 0 (bX, 0) .nil (.node 0 0 (⟨#[]⟩, 0) .nil .nil)
set_option maxRecDepth 100000 in
theorem head_step : stepT (sgOf someL) ((⟨#[]⟩, 3), headF) [] ⟨3, 0, 0, 0⟩ = some (((⟨#[]⟩, 3), headG), ⟨3, 0, 0, 0⟩) := by kernel_rfl

theorem head_low {w w2 W3 w4 : World} (h1 : Below w.heap.size w w2) (h2 : Below w2.heap.size w2 W3) (h3 : Below W3.heap.size W3 w4) : Below w.heap.size w w4 := (h1.trans (h2.mono h1.size)).trans (h3.mono (Nat.le_trans h1.size h2.size))
theorem head_sets {w w4 : World} {B : Nat} (h : Below w.heap.size w w4) (hB : w.heap.size ≤ B) (x0 x1 x2 : Value) : Below w.heap.size w (((w4.setCell ⟨B, 0, none⟩ x0).setCell ⟨B, 1, none⟩ x1).setCell ⟨B, 2, none⟩ x2) := h.trans ((sets3_fr _ _ _).below (fun k hk => by omega) h.size)
theorem head_new {w w2 w4 : World} {n : Nat} (h1 : Below w.heap.size w w2) (h3 : Below n w2 w4) (hn : w2.heap.size ≤ n) (o : Obj) : Below w.heap.size w (w4.alloc o) := by
  have h := h1.trans (h3.mono (Nat.le_trans h1.size hn))
  exact h.alloc h.size o
theorem head_tm1 {w2 w4 : World} {o : Obj} {x : ByteArray × Int} {a : Option Addr} {c : Nat} {l : Fo} (h : FulTm w4 (fun q => (w2.alloc o).heap.size ≤ q) x a c l) {x0 x1 x2 : Value} : TmAt (((w4.setCell ⟨w2.heap.size, 0, none⟩ x0).setCell ⟨w2.heap.size, 1, none⟩ x1).setCell ⟨w2.heap.size, 2, none⟩ x2) x a c l :=
  (h.keep (fun q hq hlt => (sets3_fr _ _ _).same q hlt (by have hq : (w2.alloc o).heap.size ≤ q := hq; rw [World.size_alloc] at hq; omega))).tm
theorem head_tm2 {w2 w4 : World} {B : Nat} {x : ByteArray × Int} {a : Option Addr} {c : Nat} {l : Fo} (h : FulTm w4 (fun q => w2.heap.size ≤ q) x a c l) (hB : B < w2.heap.size) {x0 x1 x2 : Value} : TmAt (((w4.setCell ⟨B, 0, none⟩ x0).setCell ⟨B, 1, none⟩ x1).setCell ⟨B, 2, none⟩ x2) x a c l :=
  (h.keep (fun q hq hlt => (sets3_fr _ _ _).same q hlt (by have hq : w2.heap.size ≤ q := hq; omega))).tm
set_option maxRecDepth 100000 in
set_option maxHeartbeats 2000000 in
theorem head_any (w : World) : Calls Tryz.prog 4 #[] w fun e w' => e = .returned (.bool true) ∧ Below w.heap.size w w' := by
  obtain ⟨W0, hW0⟩ : ∃ W0, (w.alloc (.cells #[.string ⟨#[]⟩, .int .i64 0, .slice none 0 0, .string ⟨#[88]⟩, .int .i64 0, .slice none 0 0] 26)).alloc (.cells #[.string ⟨#[]⟩, .int .i64 3, .slice (some ⟨w.heap.size, 0, none⟩) 2 2] 26) = W0 := ⟨_, rfl⟩
  have hb0 : Below w.heap.size w W0 := by rw [← hW0]; exact (alloc_below0 w _).alloc (by simp) _
  have B0 : Box W0 w.heap.size 26 #[.string ⟨#[]⟩, .int .i64 0, .slice none 0 0, .string bX, .int .i64 0, .slice none 0 0] := by rw [← hW0]; exact (Box.new w 26 _).over _
  have B1 : Box W0 (w.heap.size + 1) 26 #[.string ⟨#[]⟩, .int .i64 3, .slice (some ⟨w.heap.size, 0, none⟩) 2 2] := by rw [← hW0]; exact box_new (by rw [World.size_alloc]) 26 _
  have hT : TmAt W0 (⟨#[]⟩, 3) (some ⟨w.heap.size, 0, none⟩) 2 headF := by
    refine ⟨⟨by decide, by decide, by decide, by decide⟩, .inr ⟨w.heap.size, 0, rfl, ⟨none, 0, B0.v rfl, B0.v rfl, B0.v rfl, ⟨by decide, by decide, by decide, by decide⟩, .inl rfl⟩, ⟨none, 0, B0.v rfl, B0.v rfl, B0.v rfl, ⟨by decide, by decide, by decide, by decide⟩, .inl rfl⟩, trivial⟩⟩
  have d0 := B1.v (k := 0) rfl; have d1 := B1.v (k := 1) rfl; have d2 := B1.v (k := 2) rfl
  have HT := hid hT; have HB0 := hid hb0
  have HSo : Hid (∀ W, Below W0.heap.size W0 W → Calls Tryz.prog 12 #[] W fun e w2 => ∃ g, e = .returned (.slice (some ⟨g, 0, none⟩) 5 5) ∧ Hid (Below W.heap.size W w2) ∧ (w2.cell? ⟨w.heap.size + 1, 0, none⟩ = some (.string ⟨#[]⟩) ∧ w2.cell? ⟨w.heap.size + 1, 1, none⟩ = some (.int .i64 3) ∧ w2.cell? ⟨w.heap.size + 1, 2, none⟩ = some (.slice (some ⟨w.heap.size, 0, none⟩) 2 2)) ∧ Hid (∀ W3, Below w2.heap.size w2 W3 → Calls Tryz.prog 11 #[.slice (some ⟨g, 0, none⟩) 5 5, .agg #[.string ⟨#[]⟩, .int .i64 3, .slice (some ⟨w.heap.size, 0, none⟩) 2 2], .agg #[.int .i64 3, .slice none 0 0, .int .i64 0, .int .i64 0, .int .i64 0]] W3 fun e w4 => ∃ a c, e = .returned (.tuple #[.agg #[.string ⟨#[]⟩, .int .i64 3, .slice a 2 c], .int .i64 0]) ∧ Hid (FulTm w4 (fun q => W3.heap.size ≤ q) (⟨#[]⟩, 3) a c headG) ∧ Hid (Below W3.heap.size W3 w4)) ∧ Hid (Below w.heap.size w w2)) := fun W hbW => by
    refine Calls.mono (some_any W) ?_
    rintro e w2 ⟨g, he, hS, hb2⟩
    have hb : Below W0.heap.size W0 w2 := hbW.trans (hb2.mono hbW.size)
    refine ⟨g, he, hb2, ⟨below_cell hb _ _ d0, below_cell hb _ _ d1, below_cell hb _ _ d2⟩, fun W3 hb3 => ?_, HB0.out.trans (hb.mono HB0.out.size)⟩
    have hC := pdo_any (some ⟨g, 0, none⟩) 5 5 someL ((⟨#[]⟩, 3), headF) (some ⟨w.heap.size, 0, none⟩) 2 ⟨3, 0, 0, 0⟩ [] none 0 0 W3 (hS.below hb3) ((HT.out.below hb).below hb3) (by decide) ⟨rfl, fun i hi => by simp at hi⟩ (by decide)
    rw [head_step] at hC
    refine Calls.mono hC ?_
    rintro e w4 ⟨a, c, he, hF, hb4⟩
    exact ⟨a, c, he, hF, hb4⟩
  clear hb0 B0 B1 hT
  go_enter Tryz.func4, Tryz.ntmps4
  go_wp2_with fail
  clear hW0
  have d0' := below_cell (alloc_below0 W0 (.cells #[.string ⟨#[]⟩, .int .i64 0, .slice none 0 0] 26)) _ _ d0; have d1' := below_cell (alloc_below0 W0 (.cells #[.string ⟨#[]⟩, .int .i64 0, .slice none 0 0] 26)) _ _ d1; have d2' := below_cell (alloc_below0 W0 (.cells #[.string ⟨#[]⟩, .int .i64 0, .slice none 0 0] 26)) _ _ d2
  go_cut [2, 3] (fun p e w' => ∃ B a c, p = .pointer (some ⟨B, 0, none⟩) ∧ e = .int .i64 0 ∧ Box w' B 26 #[.string ⟨#[]⟩, .int .i64 3, .slice a 2 c] ∧ TmAt w' (⟨#[]⟩, 3) a c headG ∧ Below w.heap.size w w')
  case first =>
    go_region_with (first
      | (go_at_call 12; refine Calls.mono (HSo.out (World.drew W0) ?_) ?_; exact (Below.refl _ _).drew; rintro e w2 ⟨g, rfl, HB2, ⟨g0, g1, g2⟩, HDo, HBw⟩; have g0' := below_cell (alloc_below0 w2 (.cells #[.string ⟨#[]⟩, .int .i64 0, .slice none 0 0] 26)) _ _ g0; have g1' := below_cell (alloc_below0 w2 (.cells #[.string ⟨#[]⟩, .int .i64 0, .slice none 0 0] 26)) _ _ g1; have g2' := below_cell (alloc_below0 w2 (.cells #[.string ⟨#[]⟩, .int .i64 0, .slice none 0 0] 26)) _ _ g2)
      | (go_at_call 12; refine Calls.mono (HSo.out (World.drew (World.alloc W0 (.cells #[.string ⟨#[]⟩, .int .i64 0, .slice none 0 0] 26))) ?_) ?_; exact (alloc_below0 _ _).drew; rintro e w2 ⟨g, rfl, HB2, ⟨g0, g1, g2⟩, HDo, HBw⟩; have g0' := below_cell (alloc_below0 w2 (.cells #[.string ⟨#[]⟩, .int .i64 0, .slice none 0 0] 26)) _ _ g0; have g1' := below_cell (alloc_below0 w2 (.cells #[.string ⟨#[]⟩, .int .i64 0, .slice none 0 0] 26)) _ _ g1; have g2' := below_cell (alloc_below0 w2 (.cells #[.string ⟨#[]⟩, .int .i64 0, .slice none 0 0] 26)) _ _ g2; have HXa : Hid (Box w2 W0.heap.size 26 #[.string ⟨#[]⟩, .int .i64 0, .slice none 0 0]) := Box.below (W := World.drew (World.alloc W0 (.cells #[.string ⟨#[]⟩, .int .i64 0, .slice none 0 0] 26))) (Box.new W0 26 _) HB2.out)
      | (go_at_call 11; refine Calls.mono (HDo.out w2 ?_) ?_; exact Below.refl _ _; rintro e w4 ⟨a, c, rfl, HT4, HB4⟩; have X4 := HXa.out.below HB4.out; have z0 := X4.v (k := 0) rfl; have z1 := X4.v (k := 1) rfl; have z2 := X4.v (k := 2) rfl; have f0 := X4.f 0; have f1 := X4.f 1; have f2 := X4.f 2; have HX4 := hid X4; clear X4)
      | (go_at_call 11; refine Calls.mono (HDo.out w2 ?_) ?_; exact Below.refl _ _; rintro e w4 ⟨a, c, rfl, HT4, HB4⟩)
      | (go_at_call 11; refine Calls.mono (HDo.out (World.alloc w2 (.cells #[.string ⟨#[]⟩, .int .i64 0, .slice none 0 0] 26)) ?_) ?_; exact alloc_below0 _ _; rintro e w4 ⟨a, c, rfl, HT4, HB4⟩; have X4 := (Box.new w2 26 #[.string ⟨#[]⟩, .int .i64 0, .slice none 0 0]).below HB4.out; have z0 := X4.v (k := 0) rfl; have z1 := X4.v (k := 1) rfl; have z2 := X4.v (k := 2) rfl; have f0 := X4.f 0; have f1 := X4.f 1; have f2 := X4.f 2; have HX4 := hid X4; clear X4)
      | fail)
    all_goals (go_wp2_with fail; go_meet)
    all_goals first
      | (refine ⟨w4.heap.size, a, c, ?_, ?_, ?_, ?_, ?_⟩; (with_reducible rfl); rfl; exact Box.new w4 26 _; exact HT4.out.tm.below (alloc_below0 _ _); exact head_new HBw.out HB4.out (Nat.le_refl _) _)
      | (refine ⟨w2.heap.size, a, c, ?_, ?_, ?_, ?_, ?_⟩; (with_reducible rfl); rfl; exact sets3_box HX4.out _ _ _; exact head_tm1 HT4.out; exact head_sets (head_low HBw.out (alloc_below0 _ _) HB4.out) HBw.out.size _ _ _)
      | (refine ⟨W0.heap.size, a, c, ?_, ?_, ?_, ?_, ?_⟩; (with_reducible rfl); rfl; exact sets3_box HX4.out _ _ _; exact head_tm2 HT4.out HXa.out.lt; exact head_sets (head_low HBw.out (Below.refl _ _) HB4.out) HB0.out.size _ _ _)
  case rest =>
    obtain ⟨B, a, c, rfl, rfl, hB, hT4, hb4⟩ := hcut
    obtain ⟨bb, oo, rfl, hk⟩ := hT4.args.get (by decide)
    obtain ⟨⟨a1, c1, q0, q1, q2, _, _⟩, ⟨a2, c2, p0, p1, p2, _, _⟩, _⟩ := hk
    have x1 := hB.v (k := 1) rfl; have x2 := hB.v (k := 2) rfl
    have hcc := hT4.sizes.len
    have HB4 := hid hb4
    have e88 : bX.toList = [88] := by decide +kernel
    clear hB hT4 hb4 HSo d0 d1 d2 d0' d1' d2'
    go_wp2
    go_ret
    exact ⟨rfl, HB4.out⟩
end Go.Proofs.YtokbgbbkopmngaaGreat
