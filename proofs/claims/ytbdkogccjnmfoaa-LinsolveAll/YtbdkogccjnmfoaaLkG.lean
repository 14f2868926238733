/- The document's vectors: the walk. -/
import Derived.Test.YtbdkogccjnmfoaaLkF
namespace Go.Proofs.Ytbdkogccjnmfoaa
open Go.RowKit Go.Shelf

theorem take_sum (l : List Nat) (j : Nat) (hj : j < l.length) : (l.take (j + 1)).sum = (l.take j).sum + l[j] := by
  rw [List.take_add_one, List.getElem?_eq_getElem hj, List.sum_append]
  simp
theorem range_more {α : Type} (f : Nat → α) (x : Nat) : (List.range (x + 1)).map f = (List.range x).map f ++ [f x] := by
  rw [List.range_succ, List.map_append]
  rfl
theorem flat_more {α β : Type} (f : α → List β) (l : List α) (k : Nat) (hk : k < l.length) : (l.take (k + 1)).flatMap f = (l.take k).flatMap f ++ f l[k] := by
  rw [List.take_add_one, List.getElem?_eq_getElem hk, List.flatMap_append]
  simp
theorem VcAt.ints0 {W : World} {v : Vc} (h : VcAt W v) (hl : v.l.length ≤ maxLen) : IntsAt W (some ⟨v.b, 0, none⟩) (toI v.l) := ⟨by rw [toI_len]; exact hl, fun i hi => by
  obtain ⟨b, o, h1, _, h2⟩ := h.ints.cells i hi
  exact ⟨b, o, h1, h2⟩⟩
def VecEnd (n most : Nat) (w : World) (e : Ending) (w' : World) : Prop := Below w.heap.size w w' ∧ ∃ v vs, e = .returned v ∧ XRow w' w.heap.size v vs ∧ vs.map Vc.l = vecsN most n ∧ ∀ x ∈ vs, w.heap.size ≤ x.b
set_option maxRecDepth 100000 in
set_option maxHeartbeats 8000000 in
theorem vectors_any (n most : Nat) (hn5 : n ≤ 5) (hm6 : most ≤ 6) (w : World) : Calls Try.prog 40 #[.int .i64 n, .int .i64 most] w (VecEnd n most w) := by
  have hmax : maxLen = 9223372036854775807 := rfl
  have H5 := hid hn5; have H6 := hid hm6
  have HV0 : Hid (∃ vs : List Vc, vs.length = 1 ∧ XRow ((w.alloc (.cells #[] 3)).alloc (.cells #[.slice (some ⟨w.heap.size, 0, none⟩) 0 0] 27)) w.heap.size (.slice (some ⟨w.heap.size + 1, 0, none⟩) 1 1) vs ∧ vs.map Vc.l = vecsN most 0 ∧ (∀ x ∈ vs, w.heap.size ≤ x.b) ∧ Below w.heap.size w ((w.alloc (.cells #[] 3)).alloc (.cells #[.slice (some ⟨w.heap.size, 0, none⟩) 0 0] 27))) := hid (by
    have b1 := alloc_below0 w (.cells #[] 3)
    have b2 := alloc_below0 (w.alloc (.cells #[] 3)) (.cells #[.slice (some ⟨w.heap.size, 0, none⟩) 0 0] 27)
    have hs : (w.alloc (.cells #[] 3)).heap.size = w.heap.size + 1 := World.size_alloc w _
    refine ⟨[⟨w.heap.size, 0, []⟩], rfl, ⟨⟨rfl, .inr ⟨w.heap.size + 1, 1, #[.slice (some ⟨w.heap.size, 0, none⟩) 0 0], rfl, Nat.le_succ _, by rw [← hs]; exact World.alloc_heap_new _ _, Nat.le_refl _, by unfold maxLen; omega, rfl, rfl⟩⟩, fun x hx => ?_⟩, rfl, fun x hx => ?_, b1.trans (b2.mono b1.size)⟩
    · rw [List.mem_singleton.1 hx]
      exact ⟨rfl, .inr ⟨w.heap.size, 0, #[], rfl, Nat.zero_le _, below_blk b2 (World.alloc_heap_new w _), Nat.le_refl _, Nat.zero_le _, rfl, rfl⟩⟩
    · rw [List.mem_singleton.1 hx]; exact Nat.le_refl _)
  go_enter Try.func40, Try.ntmps40
  go_wp2_with fail
  go_loopw [5, 6] (fun ov iv wr => ∃ (i : Nat) (q : Option Addr) (c : Nat) (vs : List Vc), i ≤ n ∧ iv = .int .i64 i ∧ ov = .slice q vs.length c ∧ XRow wr w.heap.size (.slice q vs.length c) vs ∧ vs.map Vc.l = vecsN most i ∧ (∀ x ∈ vs, w.heap.size ≤ x.b) ∧ Below w.heap.size w wr) (fun _ iv _ => n - (intOf iv).toNat)
  case atStart =>
    obtain ⟨vs, h0, h1, h2, h3, h4⟩ := HV0.out
    exact ⟨0, some ⟨w.heap.size + 1, 0, none⟩, 1, vs, Nat.zero_le _, rfl, by rw [h0], by rw [h0]; exact h1, h2, h3, h4⟩
  case round =>
    obtain ⟨i, q, c, vs, hi, rfl, rfl, hX, hvs, hnew, hlow⟩ := hrel
    rename World => w1
    clear HV0
    have HX := hid hX; have HVS := hid hvs; have HNW := hid hnew; have HLW := hid hlow
    have hL : vs.length ≤ 16807 := by
      have h1 := vecs_len most H6.out i (by have := H5.out; omega)
      rw [← hvs, List.length_map] at h1
      exact h1
    obtain ⟨L, hLe⟩ : ∃ L, vs.length = L := ⟨_, rfl⟩
    rw [hLe] at hL HX ⊢
    have HLL := hid hLe
    clear hX hvs hnew hlow hLe
    by_cases hlt : i < n
    · go_wp2_with fail
      go_loopw [7, 8] (fun nv kv wr => ∃ (k : Nat) (ns : List Vc), k ≤ L ∧ kv = .int .i64 k ∧ Nx w1 nv ns wr ∧ ns.map Vc.l = ((vecsN most i).take k).flatMap (extN most)) (fun _ kv _ => L - (intOf kv).toNat)
      case atStart => exact ⟨0, [], Nat.zero_le _, rfl, ⟨XRow.nil _ _, Below.refl _ _, fun x hx => by cases hx⟩, by simp⟩
      case round =>
        obtain ⟨k, ns, hk, rfl, hNx, hns⟩ := hrel
        rename World => wr
        have hnl : ns.length ≤ 117649 := by
          have h1 := congrArg List.length hns
          rw [List.length_map] at h1
          have h2 := flat_len (extN most) 7 (ext_len most H6.out) ((vecsN most i).take k)
          rw [List.length_take] at h2
          omega
        by_cases hkl : k < L
        · have hkv : k < vs.length := by rw [HLL.out]; exact hkl
          have hkl2 : k < (vecsN most i).length := by rw [← HVS.out, List.length_map]; exact hkv
          have hgk : vs[k].l = (vecsN most i)[k] := by
            have h1 : (vs.map Vc.l)[k]'(by rw [List.length_map]; exact hkv) = (vecsN most i)[k] := by simp only [HVS.out]
            rw [List.getElem_map] at h1
            exact h1
          have hmem := (vecs_mem most i _).1 (List.getElem_mem hkl2)
          rw [← hgk] at hmem
          have hflat := flat_more (extN most) (vecsN most i) k hkl2
          rw [← hgk] at hflat
          obtain ⟨g, rfl, _, _, hg1, hgc⟩ := (HX.out.below hNx.low).cell k hkv
          have hvat := (HX.out.below hNx.low).vec _ (List.getElem_mem hkv)
          have hb0 : ∀ W', Below w1.heap.size w1 W' → W'.cell? ⟨g, k, none⟩ = some (vcV vs[k]) ∧ VcAt W' vs[k] := fun W' hb => by
            obtain ⟨g', e, _, _, _, h⟩ := (HX.out.below hb).cell k hkv
            injection e with e
            injection e with e _ _
            rw [← e] at h
            exact ⟨h, (HX.out.below hb).vec _ (List.getElem_mem hkv)⟩
          obtain ⟨V, hV⟩ : ∃ V, vs[k] = V := ⟨_, rfl⟩
          rw [hV] at hgk hmem hflat hgc hvat hb0
          obtain ⟨Vb, Vcc, l⟩ := V
          have hll : l.length = i := hmem.1
          have hls : l.sum ≤ most := hmem.2
          have hl5 : l.length ≤ 5 := by have := H5.out; omega
          have HB0 := hid hb0; have HNS := hid hns; have HNX := hid hNx; have HFL := hid hflat; have HLS := hid hls; have HL5 := hid hl5
          have HI := hid (hvat.ints0 (show l.length ≤ maxLen by omega))
          have hgc' : wr.cell? ⟨g, k, none⟩ = some (.slice (some ⟨Vb, 0, none⟩) l.length Vcc) := hgc
          clear hgk hmem hflat hV hvat hb0 hns hNx hll hgc hls hg1
          go_upto_block 4 with fail
          go_cut [9] (fun v wc => v = .int .i64 ((most - l.sum : Nat) : Int) ∧ wc = wr)
          case first =>
            go_wp2_with fail
            go_loopw [9, 10] (fun lv jv wx => ∃ j : Nat, j ≤ l.length ∧ jv = .int .i64 j ∧ lv = .int .i64 ((most - (l.take j).sum : Nat) : Int) ∧ (l.take j).sum ≤ l.sum ∧ wx = wr) (fun _ jv _ => l.length - (intOf jv).toNat)
            case atStart => exact ⟨0, Nat.zero_le _, rfl, by simp, by simp, rfl⟩
            case round =>
              obtain ⟨j, hj, rfl, rfl, hjs, hwr⟩ := hrel
              subst hwr
              rename World => wr
              by_cases hjl : j < l.length
              · obtain ⟨b3, o3, e3, c3⟩ := HI.out.cells j (by rw [toI_len]; exact hjl)
                injection e3 with e3
                injection e3 with e3 e4 _
                subst e3 e4
                have e5 : (toI l)[j]'(by rw [toI_len]; exact hjl) = ((l[j] : Nat) : Int) := by simp [toI]
                rw [e5, Nat.zero_add] at c3
                have h1 := take_sum l j hjl
                have h2 : (l.take (j + 1)).sum ≤ l.sum := by
                  have h3 : (l.take (j + 1) ++ l.drop (j + 1)).sum = l.sum := by rw [List.take_append_drop]
                  rw [List.sum_append] at h3
                  omega
                have hls := HLS.out
                have e6 : IntKind.i64.wrap (((most - (l.take j).sum : Nat) : Int) - ((l[j] : Nat) : Int)) = ((most - (l.take (j + 1)).sum : Nat) : Int) := by
                  rw [IntWalk.i64_in _ (by have := H6.out; constructor <;> omega)]
                  omega
                have H2 := hid h2
                obtain ⟨y, hy⟩ : ∃ y, l[j] = y := ⟨_, rfl⟩
                rw [hy] at c3 e6
                obtain ⟨z1, hz1⟩ : ∃ y : Int, ((most - (l.take j).sum : Nat) : Int) = y := ⟨_, rfl⟩
                obtain ⟨z2, hz2⟩ : ∃ y : Int, ((most - (l.take (j + 1)).sum : Nat) : Int) = y := ⟨_, rfl⟩
                rw [hz1, hz2] at e6
                rw [hz1]
                have HZ2 := hid hz2
                clear hy h1 h2 hz1 hz2 e5 hls hjs
                go_wp2_with fail
                go_roundw
                case rel => exact ⟨j + 1, by omega, by go_num, by rw [HZ2.out], H2.out, trivial⟩
                case measure => simp [intOf]; omega
              · have hjL : j = l.length := by omega
                subst hjL
                rw [List.take_length]
                clear hjs
                go_wp2_with fail
                go_meet
                exact ⟨rfl, rfl⟩
          case rest =>
            obtain ⟨rfl, rfl⟩ := hcut
            rename World => wr
            obtain ⟨lft, hlf⟩ : ∃ x, most - l.sum = x := ⟨_, rfl⟩
            rw [hlf]
            have HLF := hid hlf
            have hlf6 : lft ≤ 6 := by have := H6.out; omega
            clear hlf hgc'
            go_wp2_with fail
            go_loopw [7, 11] (fun nv xv wx => ∃ (x : Nat) (ns' : List Vc), x ≤ lft + 1 ∧ xv = .int .i64 x ∧ Nx w1 nv ns' wx ∧ ns'.map Vc.l = ns.map Vc.l ++ (List.range x).map (fun y => l ++ [y])) (fun _ xv _ => lft + 1 - (intOf xv).toNat)
            case atStart => exact ⟨0, ns, Nat.zero_le _, rfl, HNX.out, by simp⟩
            case round =>
              obtain ⟨x, ns', hx, rfl, hNx, hns⟩ := hrel
              rename World => wx
              by_cases hxl : x ≤ lft
              · have hnl' : ns'.length + 1 ≤ 1000000000000 := by
                  have h1 := congrArg List.length hns
                  simp at h1
                  omega
                obtain ⟨c1, hv⟩ := HB0.out wx hNx.low
                obtain ⟨p1, c2, wA, gg, c3, wB, nv', wC, r1, r2, r3, hN⟩ := hNx.add (some ⟨Vb, 0, none⟩) Vcc l (hv.ints0 (show l.length ≤ maxLen by omega)) (fun e => by cases e) HL5.out x hnl'
                have HN' : Hid (Nx w1 nv' (ns' ++ [⟨gg, c3, l ++ [x]⟩]) wC ∧ (ns' ++ [(⟨gg, c3, l ++ [x]⟩ : Vc)]).map Vc.l = ns.map Vc.l ++ (List.range (x + 1)).map (fun y => l ++ [y])) := hid ⟨hN, by rw [List.map_append, hns, range_more, List.append_assoc]; rfl⟩
                have hcc : wx.cell? ⟨g, k, none⟩ = some (.slice (some ⟨Vb, 0, none⟩) l.length Vcc) := c1
                have hc0 : (wx.alloc (.cells #[] 3)).cell? ⟨g, k, none⟩ = some (.slice (some ⟨Vb, 0, none⟩) l.length Vcc) := below_cell (alloc_below0 wx _) _ _ c1
                have R1 := hid r1; have R2 := hid r2; have R3 := hid r3
                clear r1 r2 r3 hN hNx hns hv c1 hnl'
                go_wp2_with (first
                  | (at_builtin; refine Lib.wpList_append_run _ rfl _ _ _ _ rfl _ _ rfl rfl _ _ R1.out ?_; clear R1)
                  | (at_builtin; refine Lib.wpList_append_run _ rfl _ _ _ _ rfl _ _ rfl rfl _ _ R2.out ?_; clear R2)
                  | (at_builtin; refine Lib.wpList_append_run _ rfl _ _ _ _ rfl _ _ rfl rfl _ _ R3.out ?_; clear R3)
                  | fail)
                go_roundw
                case rel => exact ⟨x + 1, _, by omega, by go_num, HN'.out⟩
                case measure => simp [intOf]; omega
              · have hxe : x = lft + 1 := by omega
                have HN' : Hid (Nx w1 _ ns' wx ∧ ns'.map Vc.l = ((vecsN most i).take (k + 1)).flatMap (extN most)) := hid ⟨hNx, by
                  rw [hns, HFL.out, HNS.out, hxe]
                  unfold extN
                  rw [← HLF.out, show most - l.sum + 1 = most + 1 - l.sum from by have := HLS.out; omega]⟩
                clear hNx hns
                go_wp2_with fail
                go_roundw
                case rel => exact ⟨k + 1, ns', by omega, by go_num, HN'.out⟩
                case measure => simp [intOf]; omega
        · have hkL : k = L := by omega
          have hfin : ns.map Vc.l = vecsN most (i + 1) := by
            rw [hns, vecsN, List.take_of_length_le (by rw [← HVS.out, List.length_map, HLL.out]; omega)]
          have HF : Hid (XRow wr w.heap.size _ ns ∧ ns.map Vc.l = vecsN most (i + 1) ∧ (∀ x ∈ ns, w.heap.size ≤ x.b) ∧ Below w.heap.size w wr) := hid ⟨hNx.row.mono HLW.out.size, hfin, fun x hx => Nat.le_trans HLW.out.size (hNx.new x hx), HLW.out.trans (hNx.low.mono HLW.out.size)⟩
          obtain ⟨qn, cn, hqn⟩ := hNx.row.form
          subst hqn
          clear hNx hns hfin
          go_wp2_with fail
          go_roundw
          case rel => exact ⟨i + 1, qn, cn, ns, by omega, by go_num, rfl, HF.out⟩
          case measure => simp [intOf]; omega
    · have hin : i = n := by omega
      have HF : Hid (VecEnd n most w (.returned (.slice q L c)) w1) := hid ⟨HLW.out, _, vs, rfl, HX.out, by rw [← hin]; exact HVS.out, HNW.out⟩
      go_wp2_with fail
      go_ret
      exact HF.out
end Go.Proofs.Ytbdkogccjnmfoaa
