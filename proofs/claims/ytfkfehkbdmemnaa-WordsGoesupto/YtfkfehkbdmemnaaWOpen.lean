/- How the arguments of the statements of layer 2 are opened: a text, places in a slice; Next at any place. -/
import Derived.Test.YtfkfehkbdmemnaaWSlots
import Derived.Test.YtfkfehkbdmemnaaRNext
import Derived.ProofKit
import Derived.OpenShut
import Derived.ShutString
import Derived.ChangeOld
import Derived.SliceStrings
import Derived.ChangeMaps5
namespace Go.Proofs.Ytfkfehkbdmemnaa
open Go.ChangeShapes Go.WideShapes Go.ChangeAt Go.RowKit

theorem own : ownKnob Try.prog.godebug = none := by kernel_rfl
theorem laidOut : laidOutB Try.prog = true := by kernel_rfl

structure NumsAt (w : World) (a : Option Addr) (n : Nat) (zs : List Int) : Prop where
  len : n = zs.length
  small : n ≤ maxLen
  cells : ∀ i (h : i < zs.length), ∃ b off, a = some ⟨b, off, none⟩ ∧ w.cell? ⟨b, off + i, none⟩ = some (.int .i64 zs[i])

theorem addr_add (b off i : Nat) : (⟨b, off, none⟩ : Addr).add i = ⟨b, off + i, none⟩ := by
  unfold Addr.add
  split
  · rename_i h; subst h; rfl
  · rfl

theorem nums_open {H : Type} {enc : TypeId × Value → H} {W : World} {a : Option Addr} {len cap : Nat} {d : DataW H} {p : List MemPlace}
    (h : DataW.Trod enc Try.prog W 0 (fun _ => true) true 22 (.slice a len cap) d p) : ∃ zs, NumsAt W a len zs := by
  obtain ⟨fuel, hf⟩ := h
  rcases open_ints Try.underlying22 Try.underlying3 (by kernel_rfl) hf with ⟨hcs, _⟩ | ⟨x, l, c, zs, hcs, _, hl, hm, hz, _, hcell, _⟩
  · simp [Value.cells] at hcs
    obtain ⟨rfl, rfl, rfl⟩ := hcs
    exact ⟨[], rfl, by simp, fun i hi => absurd hi (by simp)⟩
  · simp [Value.cells] at hcs
    obtain ⟨rfl, rfl, rfl⟩ := hcs
    simp at hz
    refine ⟨zs.take len, by simp; omega, by omega, fun i hi => ?_⟩
    have hi' : i < zs.length := by simp at hi; omega
    have hc := hcell i hi'
    obtain ⟨b, off, spot⟩ := x
    have hspot : spot = none := by simpa [Addr.add] using World.cell?_spot (hcell 0 (by omega))
    subst hspot
    refine ⟨b, off, rfl, ?_⟩
    rw [List.getElem_take]
    rw [addr_add] at hc
    simpa [List.getD_eq_getElem?_getD, hi'] using hc

/-- Next at any place. -/
def nxI (s : ByteArray) (z : Int) : Nx := if z < 0 ∨ (s.size : Int) < z then ⟨noWd, 0, 1⟩ else nx s z.toNat
theorem nextI_any (s : ByteArray) (z : Int) (w : World) (hs : s.size ≤ maxLen) : Calls Try.prog 9 #[.string s, .int .i64 z] w fun e w' => e = .returned (Nx.val (nxI s z)) ∧ Below w.heap.size w w' := by
  unfold nxI
  split
  · rename_i h; exact next_out s z w h
  · rename_i h
    have := next_any s z.toNat w hs (by omega)
    rwa [show ((z.toNat : Nat) : Int) = z by omega] at this
theorem rnextI_any (s : ByteArray) (z : Int) (w : World) (hs : s.size ≤ maxLen) : Calls Try.prog 10 #[.string s, .int .i64 z] w fun e w' => e = .returned (Nx.val (nxI s z)) ∧ Below w.heap.size w w' := by
  unfold nxI
  split
  · rename_i h; exact rnext_out s z w h
  · rename_i h
    have := rnext_any s z.toNat w hs (by omega)
    rwa [show ((z.toNat : Nat) : Int) = z by omega] at this
end Go.Proofs.Ytfkfehkbdmemnaa
