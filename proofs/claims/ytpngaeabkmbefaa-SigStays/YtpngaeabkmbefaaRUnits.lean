/- What the document's Units makes. -/
import Derived.Test.YtpngaeabkmbefaaRPlain
import Derived.Test.YtpngaeabkmbefaaUnit
namespace Go.Proofs.Ytpngaeabkmbefaa
open Go.RowKit

/-- Is this place told by Unit of some symbol? -/
def isU (l : List Sym) (i : Nat) : Bool := (List.range l.length).any fun k => unitAt l k == some i
/-- The places below i that are. -/
def refTo (l : List Sym) (i : Nat) : List Int := ((List.range i).filter (isU l)).map fun (k : Nat) => (k : Int)
theorem refTo_zero (l : List Sym) : refTo l 0 = [] := rfl
theorem refTo_yes {l : List Sym} {i : Nat} (h : isU l i = true) : refTo l (i + 1) = refTo l i ++ [(i : Int)] := by
  simp [refTo, List.range_succ, List.filter_append, h]
theorem refTo_no {l : List Sym} {i : Nat} (h : isU l i = false) : refTo l (i + 1) = refTo l i := by
  simp [refTo, List.range_succ, List.filter_append, h]
theorem refTo_le (l : List Sym) (i : Nat) : (refTo l i).length ≤ i := by
  unfold refTo
  rw [List.length_map]
  exact Nat.le_trans (List.length_filter_le _ _) (by simp)
theorem isU_hit {l : List Sym} {i k : Nat} (hk : k < l.length) (h : unitAt l k = some i) : isU l i = true := by
  unfold isU
  rw [List.any_eq_true]
  exact ⟨k, by simpa using hk, by simp [h]⟩
theorem isU_miss {l : List Sym} {i : Nat} (h : ∀ k, k < l.length → unitAt l k ≠ some i) : isU l i = false := by
  unfold isU
  rw [List.any_eq_false]
  intro k hk
  simp at hk
  simp [h k hk]
theorem unit_yes {l : List Sym} {k i : Nat} (h1 : unitOk l k = true) (h2 : (unitI l k == (i : Int)) = true) : unitAt l k = some i := by
  unfold unitOk at h1
  obtain ⟨j, hj⟩ := Option.isSome_iff_exists.1 h1
  simp [unitI, hj] at h2
  rw [hj]; congr; omega
theorem unit_no1 {l : List Sym} {k i : Nat} (h1 : unitOk l k = false) : unitAt l k ≠ some i := fun e => by simp [unitOk, e] at h1
theorem unit_no2 {l : List Sym} {k i : Nat} (h2 : (unitI l k == (i : Int)) = false) : unitAt l k ≠ some i := fun e => by simp [unitI, e] at h2

def ints (zs : List Int) : List Value := zs.map (Value.int .i64)
theorem ints_one (zs : List Int) : ∀ u ∈ ints zs, u.oneCell' = true := by
  intro u hu
  obtain ⟨z, _, rfl⟩ := List.mem_map.1 hu
  rfl
theorem int_news (w : World) (H : Nat) (hH : w.heap.size = H) (z : Int) : ∀ j u, (ints [z])[j]? = some u → (w.alloc (.cells #[.int .i64 z] 3)).cell? ((⟨H, 0, none⟩ : Addr).add j) = some u := by
  subst hH
  exact World.news_of_block (cs := #[.int .i64 z]) (t := 3) (fr := (0, 0)) (heap_alloc_new w _)
theorem Try.info3 : (Try.prog.info? 3).map (fun i => (i.zero, i.size, i.bytes)) = some (some (.int .i64 0), 1, 8) := by kernel_rfl

set_option maxHeartbeats 1000000 in
theorem runits_any (a : Option Addr) (n cap : Nat) (l : List Sym) (w : World) (h : SigAt w a n l) (hr : n * 48 ≤ 140737488351232) :
    Calls Try.prog 23 #[.slice a n cap] w fun e w' => ∃ v, e = .returned v ∧ w'.ownsRow w.heap.size 3 1 v (refTo l n).length (ints (refTo l n)) ∧ Below w.heap.size w w' := by
  obtain ⟨i0, hi, hz0, hz1, hz2⟩ := info_parts Try.info3
  have HS : Hid (SigAt w a n l) := h
  have hlen : Hid (n = l.length) := h.len
  clear h
  go_enter Try.func23, Try.ntmps23
  go_wp2
  go_loopw [3, 4, 5, 6, 7] (fun v i _ _ _ w' => ∃ k : Nat, k ≤ n ∧ i = .int .i64 k ∧ w'.ownsRow w.heap.size 3 1 v (refTo l k).length (ints (refTo l k)) ∧ Below w.heap.size w w') (fun _ i _ _ _ _ => n - (intOf i).toNat)
  case atStart => exact ⟨0, Nat.zero_le _, rfl, World.ownsRow_nil _ _ _ _, Below.refl _ _⟩
  case round =>
    obtain ⟨k, hk, rfl, hown, hb⟩ := hrel
    have HB : Hid (Below w.heap.size w wr) := hb
    have HO : Hid (wr.ownsRow w.heap.size 3 1 u3 (refTo l k).length (ints (refTo l k))) := hown
    clear hown hb
    by_cases hlt : k < n
    · go_wp2
      go_loopw [3, 5, 6, 7] (fun v j _ _ w' => ∃ m : Nat, m ≤ n ∧ j = .int .i64 m ∧ w'.ownsRow w.heap.size 3 1 v (refTo l k).length (ints (refTo l k)) ∧ Below w.heap.size w w' ∧ ∀ q, q < m → unitAt l q ≠ some k) (fun _ j _ _ _ => n - (intOf j).toNat)
      case atStart => exact ⟨0, Nat.zero_le _, rfl, HO.out, HB.out, fun q hq => absurd hq (by omega)⟩
      case round =>
        obtain ⟨m, hm, rfl, hown2, hb2, hno⟩ := hrel
        have HB2 : Hid (Below w.heap.size w wr) := hb2
        have HN : Hid (∀ q, q < m → unitAt l q ≠ some k) := hno
        have hle := refTo_le l k
        clear hb2 hno
        by_cases hlt2 : m < n
        · have hlm : m < l.length := by have := hlen.out; omega
          cases ho : unitOk l m
          · have hmiss : Hid (unitAt l m ≠ some k) := unit_no1 ho
            go_wp2_with fail
            refine (runit_any _ _ _ l _ _ (HS.out.below HB2.out)).mono ?_
            rintro e w2 ⟨he, hw2⟩
            unfold UnitRet at he
            subst he
            rw [hw2]
            clear hw2
            go_wp2
            go_roundw
            case rel => exact ⟨m + 1, by omega, by go_num, hown2, HB2.out, fun q hq => by
              rcases Nat.lt_succ_iff_lt_or_eq.1 hq with hq | rfl
              · exact HN.out q hq
              · exact hmiss.out⟩
            case measure => simp [intOf]; omega
          · cases he2 : (unitI l m == (k : Int))
            · have hmiss : Hid (unitAt l m ≠ some k) := unit_no2 he2
              go_wp2_with fail
              refine (runit_any _ _ _ l _ _ (HS.out.below HB2.out)).mono ?_
              rintro e w2 ⟨he, hw2⟩
              unfold UnitRet at he
              subst he
              rw [hw2]
              clear hw2
              go_wp2
              go_roundw
              case rel => exact ⟨m + 1, by omega, by go_num, hown2, HB2.out, fun q hq => by
                rcases Nat.lt_succ_iff_lt_or_eq.1 hq with hq | rfl
                · exact HN.out q hq
                · exact hmiss.out⟩
              case measure => simp [intOf]; omega
            · have hhit : Hid (isU l k = true) := isU_hit hlm (unit_yes ho he2)
              go_wp2_with fail
              refine (runit_any _ _ _ l _ _ (HS.out.below HB2.out)).mono ?_
              rintro e w2 ⟨he, hw2⟩
              unfold UnitRet at he
              subst he
              rw [hw2]
              clear hw2
              go_wp2_with (at_builtin; go_loud (refine wpList_append_lies _ rfl (.tmp 32) (.tmp 34) 34 rfl w.heap.size 3 i0 _ 1 8 Try.underlying34 hi hz0 hz1 hz2 rfl (by decide) u3 (refTo l k).length (ints (refTo l k)) rfl (hown2.alloc _) ⟨wr.heap.size, 0, none⟩ 1 1 (ints [(k : Int)]) rfl rfl (int_news _ _ (by simp) _) (ints_one _) (by decide) (by unfold maxLen; omega) (by omega) (by have := HB2.out.size; simp; omega) (wr.heap.size + 1) (by simp) ?_); intro g1 cap1 w3 hown3 hgrow3 hat3 hlt3)
              have HB3 : Hid (Below w.heap.size w w3) := (HB2.out.alloc HB2.out.size _).grown hgrow3 (by have := HB2.out.size; simp; omega) (own_base hown2)
              clear hgrow3 hown2
              go_roundw
              case rel => exact ⟨k + 1, by omega, by go_num, by rw [refTo_yes hhit.out]; simpa [ints] using hown3, HB3.out⟩
              case measure => simp [intOf]; omega
        · have hmiss : Hid (isU l k = false) := isU_miss fun q hq => HN.out q (by have := hlen.out; omega)
          go_wp2
          go_roundw
          case rel => exact ⟨k + 1, by omega, by go_num, by rw [refTo_no hmiss.out]; exact hown2, HB2.out⟩
          case measure => simp [intOf]; omega
    · have hkn : Hid (k = n) := by show k = n; omega
      go_wp2
      go_ret
      exact ⟨_, rfl, hkn.out ▸ HO.out, HB.out⟩
end Go.Proofs.Ytpngaeabkmbefaa
