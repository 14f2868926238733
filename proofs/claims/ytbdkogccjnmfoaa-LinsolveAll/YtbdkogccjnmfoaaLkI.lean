/- The document's sorted: the walk. -/
import Derived.Test.YtbdkogccjnmfoaaLkH
import Derived.Deep.CutBlock
import Derived.Deep.DeepCutAuto
namespace Go.Proofs.Ytbdkogccjnmfoaa
open Go.RowKit Go.Shelf

theorem perm_ins {os A B l : List Vc} {x : Vc} (h : os.Perm l) (e : os = A ++ B) : (A ++ x :: B).Perm (l ++ [x]) := by
  have h1 : (A ++ x :: B).Perm (x :: (A ++ B)) := List.perm_middle
  rw [← e] at h1
  exact h1.trans ((h.cons x).trans (List.perm_append_singleton x l).symm)
theorem last_of : ∀ (A : List Vc), A = [] ∨ ∃ A' y, A = A' ++ [y] := fun A => by
  rcases Nat.eq_zero_or_pos A.length with h | h
  · exact .inl (List.eq_nil_of_length_eq_zero h)
  · have hne : A ≠ [] := fun e => by rw [e] at h; exact Nat.lt_irrefl 0 h
    exact .inr ⟨A.dropLast, A.getLast hne, (List.dropLast_concat_getLast hne).symm⟩
def SortEnd (vs : List Vc) (w : World) (e : Ending) (w' : World) : Prop := Below w.heap.size w w' ∧ ∃ v ms, e = .returned v ∧ XRow w' w.heap.size v ms ∧ ms.Perm vs ∧ ms.Pairwise Rv
set_option maxRecDepth 100000 in
set_option maxHeartbeats 8000000 in
theorem sorted_any (base : Nat) (q : Option Addr) (n c N : Nat) (vs : List Vc) (w : World) (hX : XRow w base (.slice q n c) vs) (hn : vs.length = n) (hN : ∀ x ∈ vs, x.l.length = N) (hN1 : N ≤ 1000) (hb : n ≤ 13060694016) :
    Calls Try.prog 45 #[.slice q n c] w (SortEnd vs w) := by
  have hmax : maxLen = 9223372036854775807 := rfl
  have HX := hid hX; have HN := hid hn; have HL := hid hN
  clear hX hn hN
  go_enter Try.func45, Try.ntmps45
  go_wp2_with fail
  go_loopw [3, 4] (fun ov iv wr => ∃ (i : Nat) (q' : Option Addr) (c' : Nat) (os : List Vc), i ≤ n ∧ iv = .int .i64 i ∧ ov = .slice q' i c' ∧ os.length = i ∧ Ox w (.slice q' i c') os wr ∧ os.Perm (vs.take i) ∧ os.Pairwise Rv) (fun _ iv _ => n - (intOf iv).toNat)
  case atStart => exact ⟨0, none, 0, [], Nat.zero_le _, rfl, rfl, rfl, ⟨XRow.nil _ _, Below.refl _ _⟩, by simp, List.Pairwise.nil⟩
  case round =>
    obtain ⟨i, q', c', os, hi, rfl, rfl, hol, hOx, hperm, hpw⟩ := hrel
    rename World => wr
    by_cases hlt : i < n
    · have hiv : i < vs.length := by rw [HN.out]; exact hlt
      obtain ⟨g, rfl, _, _, _, hgc⟩ := (HX.out.below hOx.low).cell i hiv
      have hvat := (HX.out.below hOx.low).vec _ (List.getElem_mem hiv)
      have hxl := HL.out _ (List.getElem_mem hiv)
      have htk : vs.take (i + 1) = vs.take i ++ [vs[i]] := by rw [List.take_add_one, List.getElem?_eq_getElem hiv]; rfl
      obtain ⟨x, hx⟩ : ∃ x, vs[i] = x := ⟨_, rfl⟩
      rw [hx] at hgc hvat hxl htk
      have hosl : ∀ y ∈ os, y.l.length = N := fun y hy => HL.out y (List.mem_of_mem_take (hperm.subset hy))
      obtain ⟨ov', wC, r1, hO1⟩ := hOx.app x hvat (by omega)
      obtain ⟨q2, c2, hq2⟩ := hO1.row.form
      rw [List.length_append, hol, List.length_singleton] at hq2
      subst hq2
      obtain ⟨g2, hg2, _⟩ := hO1.row.cell 0 (by simp)
      subst hg2
      obtain ⟨M, hM⟩ : ∃ M, i + 1 = M := ⟨_, rfl⟩
      rw [hM] at r1 hO1
      have HMM := hid hM
      have R1 := hid r1; have HO1 := hid hO1; have HPM := hid hperm; have HPW := hid hpw; have HTK := hid htk; have HOL := hid hol; have HSL := hid hosl; have HXL := hid hxl
      have hgc' : wr.cell? ⟨g, i, none⟩ = some (.slice (some ⟨x.b, 0, none⟩) x.l.length x.c) := hgc
      have HEND : Hid (∀ (A B : List Vc) (W : World), os = A ++ B → Ox w (.slice (some ⟨g2, 0, none⟩) M c2) (A ++ x :: B) W → (∀ y ∈ B, Rv x y) → (A = [] ∨ ∃ A' y, A = A' ++ [y] ∧ Rv y x) → ∃ os' : List Vc, os'.length = i + 1 ∧ Ox w (.slice (some ⟨g2, 0, none⟩) (i + 1) c2) os' W ∧ os'.Perm (vs.take (i + 1)) ∧ os'.Pairwise Rv) := hid (fun A B W hAB hO hB hA => ⟨A ++ x :: B, by have h := HOL.out; rw [hAB] at h; simp at h ⊢; omega, by rw [HMM.out]; exact hO, by rw [HTK.out]; exact perm_ins HPM.out hAB, ins_sorted (by rw [← hAB]; exact HPW.out) hB hA⟩)
      clear hx hgc hvat hxl htk hOx hperm hpw hol hosl hO1 r1 hM
      go_wp2_with (first
        | (at_builtin; refine Lib.wpList_append_run _ rfl _ _ _ _ rfl _ _ rfl rfl _ _ R1.out ?_; clear R1)
        | fail)
      go_loopw [5] (fun kv wx => ∃ (A B : List Vc), os = A ++ B ∧ kv = .int .i64 A.length ∧ Ox w (.slice (some ⟨g2, 0, none⟩) M c2) (A ++ x :: B) wx ∧ ∀ y ∈ B, Rv x y) (fun kv _ => (intOf kv).toNat)
      case atStart => exact ⟨os, [], by simp, by rw [HOL.out], HO1.out, fun y hy => by cases hy⟩
      case round =>
        obtain ⟨A, B, hAB, rfl, hO, hB⟩ := hrel
        rename World => wx
        rcases last_of A with rfl | ⟨A', y, rfl⟩
        · have HF := hid (HEND.out [] B wx hAB hO hB (.inl rfl))
          clear hO hB hAB
          go_wp2_with fail
          go_roundw
          case rel =>
            obtain ⟨os', h1, h2, h3, h4⟩ := HF.out
            exact ⟨i + 1, some ⟨g2, 0, none⟩, c2, os', by omega, by go_num, by rw [HMM.out], h1, h2, h3, h4⟩
          case measure => simp [intOf]; omega
        · have hyl : y.l.length = N := HSL.out y (by rw [hAB]; simp)
          have hxl := HXL.out
          have hlen : A'.length + 1 + B.length = i := by have h := HOL.out; rw [hAB] at h; simp at h; omega
          obtain ⟨K, hK⟩ : ∃ K, A'.length = K := ⟨_, rfl⟩
          obtain ⟨k, hk⟩ : ∃ k, K + 1 = k := ⟨_, rfl⟩
          have hka : (A' ++ [y]).length = k := by simp; omega
          rw [hka]
          have hcx := hO.row.cellA (A' ++ [y]) B x rfl
          have hcy := hO.row.cellA A' (x :: B) y (by simp)
          rw [hka] at hcx
          rw [hK] at hcy
          have hvx := hO.row.vec x (by simp)
          have hvy := hO.row.vec y (by simp)
          have hAH := fun n => ahead_any (some ⟨x.b, 0, none⟩) x.c (toI x.l) (some ⟨y.b, 0, none⟩) y.c (toI y.l) (wx.drewN n) ((hvx.ints0 (by omega)).drewN n) ((hvy.ints0 (by omega)).drewN n) (by rw [toI_len, toI_len]; omega)
          rw [toI_len, toI_len] at hAH
          obtain ⟨T, hT⟩ : ∃ T, ahdV (toI x.l) (toI y.l) = T := ⟨_, rfl⟩
          rw [hT] at hAH
          have HAH := hid hAH; have HT := hid hT; have HO := hid hO; have HBB := hid hB; have HAB := hid hAB; have HKK := hid hK; have HYX : Hid (x.l.length = y.l.length) := hid (by omega)
          have c1 : wx.cell? ⟨g2, k, none⟩ = some (.slice (some ⟨x.b, 0, none⟩) x.l.length x.c) := hcx.1
          have c2' : wx.cell? ⟨g2, K, none⟩ = some (.slice (some ⟨y.b, 0, none⟩) y.l.length y.c) := hcy.1
          have e2 : IntKind.i64.wrap ((k : Int) - 1) = (K : Int) := by rw [IntWalk.i64_in _ (by constructor <;> omega)]; omega
          have hMM := HMM.out
          have hkM : k < M := by omega
          have hKM : K < M := by omega
          have hk0 : 0 < k := by omega
          have HKa : Hid ((A' ++ [y]).length = k) := hid hka
          have HKk := hid hk
          clear hcx hcy hvx hvy hAH hT hO hB hAB hK hka hlen hyl hxl hMM hk
          go_upto_region 8 with fail
          go_cut [6] (fun v wc => v = .bool T ∧ ∃ n, wc = wx.drewN n)
          case first =>
            go_big_quiet ((go_at_call 57; with_reducible exact Calls.quiet_of (HAH.out _)))
            go_wp2_with fail
            go_meet
            exact ⟨rfl, _, rfl⟩
          case rest =>
          obtain ⟨rfl, nw, hwc⟩ := hcut
          rename World => wy
          have hOy := HO.out.drewN nw
          rw [← hwc] at hOy
          clear hwc HO c1 c2' HAH
          cases hTT : T with
          | false =>
            have HF := hid (HEND.out (A' ++ [y]) B wy HAB.out hOy HBB.out (.inr ⟨A', y, rfl, rv_of_not HYX.out (by rw [HT.out, hTT])⟩))
            clear hOy
            go_wp2_with fail
            go_roundw
            case rel =>
              obtain ⟨os', h1, h2, h3, h4⟩ := HF.out
              exact ⟨i + 1, some ⟨g2, 0, none⟩, c2, os', by omega, by go_num, by rw [HMM.out], h1, h2, h3, h4⟩
            case measure => simp [intOf]; omega
          | true =>
            have hcx := hOy.row.cellA (A' ++ [y]) B x rfl
            have hcy := hOy.row.cellA A' (x :: B) y (by simp)
            rw [HKa.out] at hcx
            rw [HKK.out] at hcy
            have hsw := Ox.swap (w := w) (A := A') (B := B) (x := x) (y := y) (W := wy) (by have := hOy; rw [List.append_assoc] at this; exact this)
            rw [HKK.out, HKk.out] at hsw
            obtain ⟨cur, hg, _⟩ := own_blk hOy.row.row (q := g2) rfl
            have hkK : k ≠ K := by have := HKk.out; omega
            have b1 := block_set (k := k) hg (vcV y)
            obtain ⟨v0, hv0⟩ : ∃ v, (cur.setIfInBounds k (vcV y))[K]? = some v := by
              refine ⟨vcV y, ?_⟩
              rw [Array.getElem?_setIfInBounds, if_neg hkK]
              have h1 := hcy.1
              unfold World.cell? at h1
              simpa [hg] using h1
            have d1 : wy.drew.cell? ⟨g2, k, none⟩ = some (.slice (some ⟨x.b, 0, none⟩) x.l.length x.c) := hcx.1
            have d2 : wy.drew.cell? ⟨g2, K, none⟩ = some (.slice (some ⟨y.b, 0, none⟩) y.l.length y.c) := hcy.1
            have f1 : wy.drew.frozen? ⟨g2, k, none⟩ = false := hcx.2
            have f2 : wy.drew.frozen? ⟨g2, K, none⟩ = false := hcy.2
            have f1' : wy.frozen? ⟨g2, k, none⟩ = false := hcx.2
            have f2' : wy.frozen? ⟨g2, K, none⟩ = false := hcy.2
            have d3 : (wy.setCell ⟨g2, k, none⟩ (.slice (some ⟨y.b, 0, none⟩) y.l.length y.c)).drew.cell? ⟨g2, K, none⟩ = some v0 := cell_box b1 hv0
            have d4 : (wy.setCell ⟨g2, k, none⟩ (.slice (some ⟨y.b, 0, none⟩) y.l.length y.c)).cell? ⟨g2, K, none⟩ = some v0 := cell_box b1 hv0
            have f3 : (wy.setCell ⟨g2, k, none⟩ (.slice (some ⟨y.b, 0, none⟩) y.l.length y.c)).drew.frozen? ⟨g2, K, none⟩ = false := free_box b1
            have f4 : (wy.setCell ⟨g2, k, none⟩ (.slice (some ⟨y.b, 0, none⟩) y.l.length y.c)).frozen? ⟨g2, K, none⟩ = false := free_box b1
            have HS : Hid (Ox w (.slice (some ⟨g2, 0, none⟩) M c2) (A' ++ x :: (y :: B)) (((wy.setCell ⟨g2, k, none⟩ (.slice (some ⟨y.b, 0, none⟩) y.l.length y.c)).setCell ⟨g2, K, none⟩ (.slice (some ⟨x.b, 0, none⟩) x.l.length x.c)).drew)) := hid (hsw.drewN 1)
            have HRV : Hid (∀ z ∈ y :: B, Rv x z) := hid (fun z hz => by
              rcases List.mem_cons.1 hz with rfl | hz
              · exact rv_of_ahd HYX.out (by rw [HT.out, hTT])
              · exact HBB.out z hz)
            have HAB2 : Hid (os = A' ++ (y :: B)) := hid (by rw [HAB.out]; simp)
            clear hOy hcx hcy hsw hg b1 hv0
            go_wp2_with fail
            go_region
            all_goals
              go_wp2_with fail
              go_roundw
              case rel => exact ⟨A', y :: B, HAB2.out, by rw [HKK.out], HS.out, HRV.out⟩
              case measure => have := HKk.out; simp [intOf]; omega
    · have hin : i = n := by omega
      have HF : Hid (SortEnd vs w (.returned (.slice q' i c')) wr) := hid ⟨hOx.low, _, os, rfl, hOx.row, by rw [hin, ← HN.out, List.take_length] at hperm; exact hperm, hpw⟩
      clear hOx hperm hpw
      go_wp2_with fail
      go_ret
      exact HF.out
end Go.Proofs.Ytbdkogccjnmfoaa
