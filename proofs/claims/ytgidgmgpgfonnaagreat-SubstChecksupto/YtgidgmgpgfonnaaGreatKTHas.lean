import Derived.Laws.ResultCell
import Derived.Test.YtgidgmgpgfonnaaGreatKTSize
/- What Has of package terms answers of any term and name. -/
namespace Go.Proofs.YtgidgmgpgfonnaaGreat
open Go.RowKit Go.Shelf Go.Deep

attribute [local go_sem] Oper.semAt_some

theorem results_cellH {fn : Func} {p : Tmp} {ty : TypeId} (h : fn.results = #[.cell p ty]) (tmps : Array Value) (P : Program) (w : World) :
    (results fn tmps).run P w = ((asAddr (tmps.getD p undef)).run P w).andThen fun a w₁ => (loadVar ty a).run P w₁ := by
  simp only [results, h]
  simp [Sem.run_bind, Result.andThen]
theorem boxed_putObj {W : World} {B D : Nat} {t : TypeId} {v : Value} (h : Boxed W B t v) {o : Obj} (hD : W.heap[D]? = some o) (ho : o.isCells = false) (o' : Obj) : Boxed (W.putObj D o') B t v :=
  (Cl.putObj (B := 0) (Nat.zero_le _) hD ho o').cells _ _ _ _ h

theorem results_bool {fn : Func} {p : Tmp} (h : fn.results = #[.cell p 4]) {tmps : Array Value} {w : World} {B : Nat} {v : Value} (hp : tmps.getD p undef = .pointer (some ⟨B, 0, none⟩)) (hb : Boxed w B 4 v) : (results fn tmps).run Tryz.prog w = .ok v w := by
  have hc := hb.cell
  rw [results_cellH h, hp]
  simp [go_sem, hc]

/-- Does a variable of this name stand at one of these places? -/
def hasP (nm : ByteArray) (ps : List Pl) : Bool := ps.any fun p => p.2.1.1.toList == nm.toList
def hasT (nm : ByteArray) (x : ByteArray × Int) (l : Fo) : Bool := !noName nm && hasP nm (placesT [] x l)

end Go.Proofs.YtgidgmgpgfonnaaGreat
