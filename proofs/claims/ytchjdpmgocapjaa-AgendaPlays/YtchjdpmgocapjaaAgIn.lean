/- Numbers that came in. -/
import Derived.Test.YtchjdpmgocapjaaAgOw
namespace Go.Proofs.Ytchjdpmgocapjaa
open Go.RowKit Go.Shelf

/-- Numbers that came in. -/
def IntsAt (W : World) (a : Option Addr) (ns : List Int) : Prop := ns.length ≤ maxLen ∧ ∀ i (_ : i < ns.length), ∃ b o, a = some ⟨b, o, none⟩ ∧ W.cell? ⟨b, o + i, none⟩ = some (.int .i64 ns[i])
def at0 (ns : List Int) (k : Nat) : Int := ns.getD k 0
theorem at0_lt {ns : List Int} {k : Nat} (h : k < ns.length) : at0 ns k = ns[k] := by simp [at0, h]
theorem at0_ge {ns : List Int} {k : Nat} (h : ¬ k < ns.length) : at0 ns k = 0 := by
  simp [at0, h]
theorem IntsAt.low {W W' : World} {a : Option Addr} {ns : List Int} (h : IntsAt W a ns) (hb : Below W.heap.size W W') (i : Nat) (hi : i < ns.length) : ∃ b o, a = some ⟨b, o, none⟩ ∧ W'.cell? ⟨b, o + i, none⟩ = some (.int .i64 (at0 ns i)) := by
  obtain ⟨b, o, h1, h2⟩ := h.2 i hi
  exact ⟨b, o, h1, by rw [at0_lt hi]; exact below_cell hb _ _ h2⟩
theorem peek_eq {L : List Th} (hn : nxI L < L.length) : peekV L = .tuple #[.int .i64 L[nxI L].x, .int .i64 L[nxI L].tk, .bool true] := by unfold peekV; rw [dif_pos hn]
theorem peek_none {L : List Th} (hn : L.length = 0) : peekV L = .tuple #[.int .i64 0, .int .i64 0, .bool false] := by unfold peekV; rw [dif_neg (by omega)]
end Go.Proofs.Ytchjdpmgocapjaa
