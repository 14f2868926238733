/- SplitGoes, whatever is dealt out. -/
import Derived.Test.YtdpdpjfnanjmgaaDoorSpAw
namespace Go.Proofs.YtdpdpjfnanjmgaaDoor
open Go.RowKit Go.Shelf

theorem goes_any (a b : Option Addr) (c d : Nat) (m k : List Int) (e : Bool) (n0 : Int) (w : World) (hM : IntsAt w a m) (hK : IntsAt w b k) (hTab : Tab w) (ha : a = none → c = 0) (hb0 : b = none → d = 0) (hcap : k.length ≤ d) (hml : m.length ≤ 1048576) (hkl : k.length ≤ 1048576) :
    Calls Tryd.prog 4 #[.agg #[.slice a m.length c, .slice b k.length d, .bool e], .int .i64 n0] w fun en w' => en = .returned (.bool true) ∧ Below w.heap.size w w' := by
  by_cases h : chkE m k = 0
  · obtain ⟨M, K, rfl, rfl, hF⟩ := chk_fine h
    have hWW : WW e K M = (waysF M K e).map (rowsN M.length K.length) := ways_rows fun x hx => (hF.often x hx).1
    refine goes_main a b c d (up M) (up K) e n0 w hM hK hTab ha hb0 hml hkl M.length K.length (waysF M K e) hF.takers 0 h ?_ ?_ ?_
    · intro n W h1 h2 hb
      rw [up_len, up_len, ← hWW]
      exact rall_any a b c d M K e n W (hM.below hb) (hK.below hb) hF (by rw [up_len] at hcap; exact hcap) h1 (by omega)
    · intro n W p c' q d' hn hI hJ hT
      rw [up_len, up_len]
      exact count_any p q c' d' M K e n W hI hJ hF (by omega) hT
    · intro W p c' q d' hI hJ hp hT
      rw [up_len, up_len]
      refine (all_any p q c' d' M K e W hI hJ hF hp).mono ?_
      rintro en W' ⟨X, F, pk, ck, f, rfl, hX, hF2, hD, hS, hC, hFb, hb⟩
      refine ⟨28, _, _, _, rfl, seq_all hF hS, ⟨hD, hC.ints, hT.below hb, hFb⟩, ?_, hb⟩
      rintro x (rfl | rfl | rfl | ⟨o, ho⟩)
      · exact .inr ⟨hX, hD.lt⟩
      · exact .inr ⟨hF2, (Array.getElem?_eq_some_iff.1 hFb).1⟩
      · exact .inl rfl
      · rcases hC.2 with ⟨h1, _⟩ | ⟨g, cap, cur, h1, h2, h3, _⟩
        · rw [ho] at h1; cases h1
        · rw [ho] at h1
          cases h1
          exact .inr ⟨h2, (Array.getElem?_eq_some_iff.1 h3).1⟩
  · refine goes_main a b c d m k e n0 w hM hK hTab ha hb0 hml hkl 0 0 [] (by omega) (chkE m k) rfl ?_ ?_ ?_
    · intro n W h1 h2 hb
      refine (rall_bad a b c d m k e n W (hM.below hb) (hK.below hb) h).mono ?_
      rintro en W' ⟨rfl, rfl⟩
      exact ⟨none, 0, by simp, by simpa using WaysZ.nil _ _, Below.refl _ _⟩
    · intro n W p c' q d' hn hI hJ hT
      refine (count_bad p q c' d' m k e n W hI hJ (.inl h)).mono ?_
      rintro en W' ⟨rfl, rfl⟩
      exact ⟨by simp [h], Below.refl _ _⟩
    · intro W p c' q d' hI hJ hp hT
      refine (all_bad p q c' d' m k e W hI hJ h).mono ?_
      rintro en W' ⟨rfl, rfl⟩
      exact ⟨25, _, _, _, rfl, seq_none 0 0, trivial, fun b hb => hb.elim, Below.refl _ _⟩
end Go.Proofs.YtdpdpjfnanjmgaaDoor
