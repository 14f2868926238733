/- What kept answers of a signature that reads as it did. -/
import Derived.Test.YtpngaeabkmbefaaRChk
namespace Go.Proofs.Ytpngaeabkmbefaa
open Go.RowKit

theorem SigAt.front {w : World} {a : Option Addr} {n : Nat} {l m : List Sym} {k : Nat} (h : SigAt w a n (l ++ m)) (hk : k = l.length) : SigAt w a k l := by
  have := h.take l.length (by have := h.len; simp at this; omega)
  rw [List.take_left] at this
  rw [hk]; exact this

set_option maxHeartbeats 400000 in
theorem kept_any (g cap : Nat) (a : Option Addr) (n cap2 : Nat) (l : List Sym) (w : World) (hc : n + 1 ≤ cap) (h1 : SigAt w (some ⟨g, 0, none⟩) (n + 1) (l ++ [markS])) (h2 : SigAt w a n l) (hr : n * 48 ≤ 140737488351232) :
    Calls Try.prog 17 #[.slice (some ⟨g, 0, none⟩) n cap, .slice a n cap2] w fun e w' => e = .returned (.bool true) ∧ Below w.heap.size w w' := by
  have HS1 : Hid (SigAt w (some ⟨g, 0, none⟩) (n + 1) (l ++ [markS])) := h1
  have HS2 : Hid (SigAt w a n l) := h2
  have hlen : Hid (n = l.length) := h2.len
  clear h1 h2
  go_enter Try.func17, Try.ntmps17
  go_wp2_with fail
  refine (same_any _ _ _ _ _ l _ (HS1.out.front hlen.out) HS2.out).mono ?_
  rintro e w1 ⟨rfl, hb⟩
  have HB : Hid (Below w.heap.size w w1) := hb
  obtain ⟨b', off', hbo, hs⟩ := (HS1.out.below hb).cells n (by have := hlen.out; simp; omega)
  simp only [Option.some.injEq, Addr.mk.injEq, and_true] at hbo
  obtain ⟨rfl, rfl⟩ := hbo
  have c0 := hs.name
  have e1 : (l ++ [markS])[n]'(by have := hlen.out; simp; omega) = markS := by
    rw [List.getElem_append_right (by have := hlen.out; omega)]; simp
  rw [e1] at c0
  unfold markS at c0
  simp only [Nat.zero_add] at c0
  clear hb hs e1
  go_wp2
  go_ret
  exact ⟨rfl, HB.out⟩
end Go.Proofs.Ytpngaeabkmbefaa
