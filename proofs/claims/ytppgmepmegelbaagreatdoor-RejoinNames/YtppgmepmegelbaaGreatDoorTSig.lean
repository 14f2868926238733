/- Signatures in memory; what is wrong with a node, plain and as the program and the document say it. -/
import Derived.Test.YtppgmepmegelbaaGreatDoorRVar
import Derived.Test.YtppgmepmegelbaaGreatDoorSigMem
import Derived.Test.YtppgmepmegelbaaGreatDoorTKept
namespace Go.Proofs.YtppgmepmegelbaaGreatDoor
open Go.RowKit Go.Deep

def takesB (s : Sym) (n : Nat) : Bool := if s.kind = 1 then (n : Int) == s.arity else decide (2 ≤ n)
def varErr (x : ByteArray × Int) (n : Nat) : Int := if varB x.1 = true ∧ x.2 = 0 ∧ n = 0 then 0 else 31
/-- What is wrong with a node. -/
def nodeErr (S : List Sym) (x : ByteArray × Int) (n : Nat) : Int :=
  if noName x.1 = false then varErr x n else if 0 ≤ x.2 then (match S[x.2.toNat]? with | some s => if takesB s n = true then 0 else 33 | none => 32) else 32

theorem nodeErr_in {S : List Sym} {x : ByteArray × Int} {n : Nat} (h : noName x.1 = true) (h0 : 0 ≤ x.2) (h1 : x.2.toNat < S.length) : nodeErr S x n = if takesB S[x.2.toNat] n = true then 0 else 33 := by
  unfold nodeErr
  rw [if_neg (by simp [h]), if_pos h0, List.getElem?_eq_getElem h1]
theorem nodeErr_out {S : List Sym} {x : ByteArray × Int} {n : Nat} (h : noName x.1 = true) (h1 : x.2 < 0 ∨ (S.length : Int) ≤ x.2) : nodeErr S x n = 32 := by
  unfold nodeErr
  rw [if_neg (by simp [h])]
  by_cases h0 : 0 ≤ x.2
  · rw [if_pos h0, List.getElem?_eq_none (by omega)]
  · rw [if_neg h0]

end Go.Proofs.YtppgmepmegelbaaGreatDoor
