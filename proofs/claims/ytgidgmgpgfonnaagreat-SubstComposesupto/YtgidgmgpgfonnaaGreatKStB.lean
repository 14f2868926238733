import Derived.Laws.CopyRow
import Derived.Lib.SliceRun
import Derived.Deep.RegionLaw
import Derived.Shelf.RegionOpenPlain
import Derived.Deep.DeepCutAuto
import Derived.BigQuiet
import Derived.Test.YtgidgmgpgfonnaaGreatKSWith
/- Rows of cells overwritten from a place on. -/
namespace Go.Proofs.YtgidgmgpgfonnaaGreat
open Go.RowKit Go.Deep

theorem cell_box {W : World} {b i : Nat} {T : TypeId} {cs : Array Value} {v : Value} (h : W.heap[b]? = some (.cells cs T (0, 0))) (hv : cs[i]? = some v) : W.cell? ⟨b, i, none⟩ = some v := by simp [World.cell?, h, hv]
theorem ovr_len {cur : List Value} {o : Nat} {vs : List Value} (h : o + vs.length ≤ cur.length) : (ovr cur o vs).length = cur.length := by
  unfold ovr
  simp only [List.length_append, List.length_take, List.length_drop]
  omega
theorem set_far {W : World} {g i q : Nat} (h : q ≠ g) (a : Value) : (W.setCell ⟨g, i, none⟩ a).heap[q]? = W.heap[q]? := Below.heap_setCell W ⟨g, i, none⟩ a q h
theorem setCells_fr {g : Nat} : ∀ (vs : List Value) (o : Nat) (W : World), Fr (fun q => q = g) W (W.setCells g o vs)
  | [], _, W => Fr.refl _ W
  | v :: r, o, W => by
    rw [World.setCells]
    exact Fr.trans ⟨(Below.refl _ W).setCell (p := ⟨g, o, none⟩) (Nat.zero_le _) v, fun q _ hq => set_far hq v⟩ (setCells_fr r (o + 1) _)
end Go.Proofs.YtgidgmgpgfonnaaGreat
