/- LinsolveTakes: the walk. -/
import Derived.Test.YtbdkogccjnmfoaaLiZ
import Derived.Test.YtbdkogccjnmfoaaLiR
import Derived.Test.YtbdkogccjnmfoaaLiY
namespace Go.Proofs.Ytbdkogccjnmfoaa
open Go.RowKit Go.Shelf

set_option maxRecDepth 100000 in
theorem spoil_nil (w : World) : Calls Try.prog 22 #[.slice none 0 0] w fun e w' => (∃ u, e = .returned u) ∧ w' = w := by
  go_enter Try.func22, Try.ntmps22
  go_wp2_with fail
  go_loopw [2] (fun iv wr => iv = .int .i64 0 ∧ wr = w) (fun _ _ => 0)
  case atStart => exact ⟨rfl, rfl⟩
  case round =>
    obtain ⟨rfl, rfl⟩ := hrel
    go_wp2_with fail
    go_end0
    exact ⟨⟨_, rfl⟩, rfl⟩
theorem nil_ints (w : World) : IntsAt w none [] := ⟨Nat.zero_le _, fun i hi => absurd hi (Nat.not_lt_zero i)⟩
theorem IntsAt.fr {A : Nat → Prop} {w w' : World} {a : Option Addr} {ns : List Int} (h : IntsAt w a ns) (hf : Fr A w w') (hA : ∀ b o, a = some ⟨b, o, none⟩ → ¬ A b) : IntsAt w' a ns :=
  ⟨h.small, fun i hi => let ⟨b, o, h1, h2⟩ := h.cells i hi; ⟨b, o, h1, hf.cell h2 (hA b o h1)⟩⟩
set_option maxRecDepth 100000 in
set_option maxHeartbeats 8000000 in
theorem linsolveTakes_walk (a : Option Addr) (c : Nat) (ls : List (List Int)) (q : Option Addr) (d : Nat) (v : List Int) (w : World) (hR : RowsAt w a ls) (hV : IntsAt w q v) (hls : ls.length ≤ 5864062014634) (_ : ∀ r ∈ ls, ∀ x ∈ r, Is64 x) (hq : q = none → d = 0) (hvs : v.length ≤ 17592186043904) (_ : ∀ x ∈ v, Is64 x) :
    Calls Try.prog 7 #[.slice a ls.length c, .slice q v.length d] w fun e w' => e = .returned (.bool true) ∧ Below w.heap.size w w' := by
  have hmax : maxLen = 9223372036854775807 := rfl
  have HR := hid hR; have HV := hid hV; have HQ := hid hq
  clear hR hV hq
  go_enter Try.func7, Try.ntmps7
  go_wp2_with fail
  refine (lives_any w).mono ?_
  rintro e w1 ⟨rfl, hb1⟩
  have HB1 := hid hb1
  have HLE := hid (lent_any q d v w1 (HV.out.below hb1) HQ.out hvs)
  clear hb1
  go_wp2_with fail
  refine HLE.out.mono ?_
  rintro e w2 ⟨g, rfl, hL, hb2⟩
  have HB2 : Hid (Below w.heap.size w w2) := hid (HB1.out.trans (hb2.mono HB1.out.size))
  have HL := hid hL
  clear hb2 hL HB1 HLE
  have HE1 := hid (express_any a c ls (some ⟨g, 0, none⟩) (v.length + 1) v w2 (HR.out.below HB2.out) HL.out.ints.at (by omega) (by omega))
  go_wp2_with fail
  refine HE1.out.mono ?_
  rintro e w3 ⟨hb3, hcase1⟩
  have HB3 : Hid (Below w.heap.size w w3) := hid (HB2.out.trans (hb3.mono HB2.out.size))
  have HL3 := hid (HL.out.below hb3)
  have HS3 : Hid (w2.heap.size ≤ w3.heap.size) := hid hb3.size
  have HE2 := hid (express_any a c ls (some ⟨g, 0, none⟩) (v.length + 1) v w3 (HR.out.below HB3.out) HL3.out.ints.at (by omega) (by omega))
  have hgl : g < w2.heap.size := (Array.getElem?_eq_some_iff.1 HL.out.blk).1
  have HGL := hid hgl
  clear hb3 hgl HE1
  rcases hcase1 with ⟨hno, rfl⟩ | ⟨hyes, gn, rfl, hBn, hgn, hcurn⟩
  · have HNO := hid hno
    clear hno
    go_wp2_with fail
    refine HE2.out.mono ?_
    rintro e w4 ⟨hb4, (⟨_, rfl⟩ | ⟨h, _⟩)⟩
    rotate_left
    · exact absurd h HNO.out
    have HB4 : Hid (Below w.heap.size w w4) := hid (HB3.out.trans (hb4.mono HB3.out.size))
    have HL4 := hid (HL3.out.below hb4)
    have HE3 := hid (rexpress_any a c ls q d v w4 (HR.out.below HB4.out) (HV.out.below HB4.out) HQ.out hls hvs)
    clear hb4 HE2
    go_wp2_with fail
    refine HE3.out.mono ?_
    rintro e w5 ⟨hb5, (⟨_, rfl⟩ | ⟨h, _⟩)⟩
    rotate_left
    · exact absurd h HNO.out
    have HB5 : Hid (Below w.heap.size w w5) := hid (HB4.out.trans (hb5.mono HB4.out.size))
    have HL5 := hid (HL4.out.below hb5)
    have HS1 := hid (same_any none 0 [] none 0 [] w5 (nil_ints _) (nil_ints _))
    rw [decide_eq_true rfl] at HS1
    clear hb5 HE3
    go_wp2_with fail
    refine HS1.out.mono ?_
    rintro e w6 ⟨rfl, hb6⟩
    have HB6 : Hid (Below w.heap.size w w6) := hid (HB5.out.trans (hb6.mono HB5.out.size))
    have HL6 := hid (HL5.out.below hb6)
    clear hb6 HS1
    go_wp2_with fail
    refine (spoil_nil w6).mono ?_
    rintro e w7 ⟨⟨u, rfl⟩, hw7⟩
    subst hw7
    have HS2 := hid (same_any none 0 [] none 0 [] w7 (nil_ints _) (nil_ints _))
    rw [decide_eq_true rfl] at HS2
    go_wp2_with fail
    refine HS2.out.mono ?_
    rintro e w8 ⟨rfl, hb8⟩
    have HB8 : Hid (Below w.heap.size w w8) := hid (HB6.out.trans (hb8.mono HB6.out.size))
    have HK := hid (kept_any w1.heap.size g v q d w8 (HL6.out.below hb8) (HV.out.below HB8.out) hvs)
    clear hb8 HS2
    go_wp2_with fail
    refine HK.out.mono ?_
    rintro e w9 ⟨rfl, hb9⟩
    have HB9 : Hid (Below w.heap.size w w9) := hid (HB8.out.trans (hb9.mono HB8.out.size))
    clear hb9 HK
    go_wp2_with fail
    go_ret
    exact ⟨rfl, HB9.out⟩
  · have hol := (expr_ok ls v ((cnt_iff v).1 hyes.1) (fun u hu => ⟨(hyes.2 u hu).1, (cnt_iff u).1 (hyes.2 u hu).2⟩)).2.2.1
    have HYES := hid hyes; have HBN := hid hBn; have HGN := hid hgn; have HCN := hid hcurn
    obtain ⟨O, hO⟩ : ∃ O, (exprA ls v).1 = O := ⟨_, rfl⟩
    obtain ⟨bq, hbq⟩ : ∃ b, (!(exprA ls v).2.any leftQ) = b := ⟨_, rfl⟩
    rw [hO] at HBN hol
    rw [hbq]
    have HO := hid hO; have HBQ := hid hbq; have HOL := hid hol
    clear hyes hBn hgn hcurn hol hO hbq
    go_wp2_with fail
    refine HE2.out.mono ?_
    rintro e w4 ⟨hb4, (⟨h, _⟩ | ⟨_, gm, rfl, hBm, hgm, hcurm⟩)⟩
    · exact absurd HYES.out h
    rw [HO.out] at hBm
    rw [HBQ.out]
    have HB4 : Hid (Below w.heap.size w w4) := hid (HB3.out.trans (hb4.mono HB3.out.size))
    have HL4 := hid (HL3.out.below hb4)
    have hgnl := HBN.out.lt
    have HBN4 := hid (HBN.out.same (hb4.block gn hgnl))
    have HCN4 : Hid (∃ cur, w4.heap[gn]? = some (.cells cur 3 (0, 0)) ∧ cur.size = ls.length) := hid (let ⟨cu, h1, h2⟩ := HCN.out; ⟨cu, below_blk hb4 h1, h2⟩)
    have HGM : Hid (gn < gm) := hid (by omega)
    have HS4 : Hid (gn < w4.heap.size) := hid (by have := hb4.size; omega)
    have HBM := hid hBm
    have HE3 := hid (rexpress_any a c ls q d v w4 (HR.out.below HB4.out) (HV.out.below HB4.out) HQ.out hls hvs)
    clear hb4 hBm hgm hcurm hgnl HE2 HBN HCN
    go_wp2_with fail
    refine HE3.out.mono ?_
    rintro e w5 ⟨hb5, (⟨h, _⟩ | ⟨_, qo, co, rfl, hCR⟩)⟩
    · exact absurd HYES.out h
    rw [HO.out] at hCR
    rw [HBQ.out]
    have HB5 : Hid (Below w.heap.size w w5) := hid (HB4.out.trans (hb5.mono HB4.out.size))
    have HL5 := hid (HL4.out.below hb5)
    have HBN5 := hid (HBN4.out.same (hb5.block gn HBN4.out.lt))
    have HBM5 := hid (HBM.out.same (hb5.block gm HBM.out.lt))
    have HCN5 : Hid (∃ cur, w5.heap[gn]? = some (.cells cur 3 (0, 0)) ∧ cur.size = ls.length) := hid (let ⟨cu, h1, h2⟩ := HCN4.out; ⟨cu, below_blk hb5 h1, h2⟩)
    have HCI := hid hCR.ints
    have HS5 := hid hb5.size
    have HS1 := hid (same_any (some ⟨gn, 0, none⟩) ls.length O qo co O w5 (HBN5.out.ints (by rw [HOL.out]; omega)) hCR.ints.at)
    rw [decide_eq_true rfl, HOL.out] at HS1
    clear hb5 hCR HE3 HBN4 HBM HCN4
    go_wp2_with fail
    refine HS1.out.mono ?_
    rintro e w6 ⟨rfl, hb6⟩
    have HB6 : Hid (Below w.heap.size w w6) := hid (HB5.out.trans (hb6.mono HB5.out.size))
    have HL6 := hid (HL5.out.below hb6)
    have HBM6 := hid (HBM5.out.same (hb6.block gm HBM5.out.lt))
    obtain ⟨cu, hcu1, hcu2⟩ := HCN5.out
    have HSP := hid (spoil_any gn ls.length ls.length cu w6 (below_blk hb6 hcu1) hcu2 (by omega))
    have HCI6 := hid (HCI.out.same (fun b hb => hb6.block b hb.2))
    clear hb6 HS1 hcu1 hcu2
    go_wp2_with fail
    refine HSP.out.mono ?_
    rintro e w7 ⟨⟨u, rfl⟩, hf7⟩
    have HB7 : Hid (Below w.heap.size w w7) := hid (HB6.out.trans (hf7.below (fun k hk => by have := HGN.out; have := HB2.out.size; omega) HB6.out.size))
    have HL7 := hid (HL6.out.same (hf7.same g (Array.getElem?_eq_some_iff.1 HL6.out.blk).1 (fun e => by have := HGL.out; have := HGN.out; omega)))
    have hBM7 := HBM6.out.same (hf7.same gm HBM6.out.lt (fun e => by have := HGM.out; omega))
    have hCI7 : IntsAt w7 qo O := by
      by_cases h0 : 0 < O.length
      · refine HCI6.out.at.fr hf7 (fun b o hb e => ?_)
        obtain ⟨b', o', h1, h2, _⟩ := HCI6.out.cells 0 h0
        rw [hb] at h1
        cases h1
        have := HS4.out
        omega
      · exact ⟨HCI6.out.small, fun i hi => by omega⟩
    have HS2 := hid (same_any (some ⟨gm, 0, none⟩) ls.length O qo co O w7 (hBM7.ints (by rw [HOL.out]; omega)) hCI7)
    rw [decide_eq_true rfl, HOL.out] at HS2
    clear hf7 hBM7 hCI7 HSP
    go_wp2_with fail
    refine HS2.out.mono ?_
    rintro e w8 ⟨rfl, hb8⟩
    have HB8 : Hid (Below w.heap.size w w8) := hid (HB7.out.trans (hb8.mono HB7.out.size))
    have HK := hid (kept_any w1.heap.size g v q d w8 (HL7.out.below hb8) (HV.out.below HB8.out) hvs)
    have hbb : (bq == bq) = true := by simp
    clear hb8 HS2
    go_wp2_with fail
    refine HK.out.mono ?_
    rintro e w9 ⟨rfl, hb9⟩
    have HB9 : Hid (Below w.heap.size w w9) := hid (HB8.out.trans (hb9.mono HB8.out.size))
    clear hb9 HK
    go_wp2_with fail
    go_ret
    exact ⟨rfl, HB9.out⟩
end Go.Proofs.Ytbdkogccjnmfoaa
