/- Calls by way of the heap's interface. -/
import Derived.Test.YtchjdpmgocapjaaAgD
namespace Go.Proofs.Ytchjdpmgocapjaa
open Go.RowKit Go.Shelf

theorem row_of {nm : String} {f : FuncId} {b : Bool} (h : ((Try.prog.info? 89).bind (fun i => i.methods.find? (·.name == nm))).map (fun m => (m.path.toList, m.func)) = some ([], some (f, b))) : ∃ i m, Try.prog.info? 89 = some i ∧ i.methods.find? (·.name == nm) = some m ∧ m.path = #[] ∧ m.func = some (f, b) := by
  cases hi : Try.prog.info? 89 with
  | none => rw [hi] at h; cases h
  | some i =>
    rw [hi] at h
    cases hm : i.methods.find? (·.name == nm) with
    | none => simp [hm] at h
    | some m =>
      simp [hm] at h
      exact ⟨i, m, rfl, hm, h.1, h.2⟩
/-- A method of the queue itself. -/
theorem meth_val {nm : String} {f : FuncId} (hrow : ((Try.prog.info? 89).bind (fun i => i.methods.find? (·.name == nm))).map (fun m => (m.path.toList, m.func)) = some ([], some (f, false))) (A g n cap : Nat) (w : World) (hA : w.cell? ⟨A, 2, none⟩ = some (.slice (some ⟨g, 0, none⟩) n cap)) : (method 253 89 (.pointer (some ⟨A, 2, none⟩)) nm).run Try.prog w = .ok (f, .slice (some ⟨g, 0, none⟩) n cap) w := by
  obtain ⟨i, m, h1, h2, h3, h4⟩ := row_of hrow
  unfold method
  have e1 : (typeInfo 89).run Try.prog w = .ok i w := by simp [typeInfo, go_sem, h1]
  have e2 : (loadVar 80 ⟨A, 2, none⟩).run Try.prog w = .ok (.slice (some ⟨g, 0, none⟩) n cap) w := by simp [loadVar, go_sem, hA]
  have e3 : (underlying 89).run Try.prog w = .ok (.pointer 80) w := by simp [underlying, go_sem, Try.underlying89]
  have e4 : ∀ name, (Builtin.ssaWrapNilChk_ #[89] 89 #[.pointer (some ⟨A, 2, none⟩), strVal "", strVal name]).run Try.prog w = .ok (.pointer (some ⟨A, 2, none⟩)) w := fun name => rfl
  simp [e1, h2, h3, h4, follow, receiverAt, Place.get, e2, e3, e4, asAddr, Result.andThen]
/-- A method of the queue's pointer. -/
theorem meth_ptr {nm : String} {f : FuncId} (hrow : ((Try.prog.info? 89).bind (fun i => i.methods.find? (·.name == nm))).map (fun m => (m.path.toList, m.func)) = some ([], some (f, true))) (A : Nat) (w : World) : (method 253 89 (.pointer (some ⟨A, 2, none⟩)) nm).run Try.prog w = .ok (f, .pointer (some ⟨A, 2, none⟩)) w := by
  obtain ⟨i, m, h1, h2, h3, h4⟩ := row_of hrow
  unfold method
  have e1 : (typeInfo 89).run Try.prog w = .ok i w := by simp [typeInfo, go_sem, h1]
  have e3 : (underlying 89).run Try.prog w = .ok (.pointer 80) w := by simp [underlying, go_sem, Try.underlying89]
  simp [e1, h2, h3, h4, follow, receiverAt, Place.get, e3, Result.andThen]
theorem less_row : ((Try.prog.info? 89).bind (fun i => i.methods.find? (·.name == "Less"))).map (fun m => (m.path.toList, m.func)) = some ([], some (105, false)) := by kernel_rfl
theorem len_row : ((Try.prog.info? 89).bind (fun i => i.methods.find? (·.name == "Len"))).map (fun m => (m.path.toList, m.func)) = some ([], some (104, false)) := by kernel_rfl
theorem swap_mrow : ((Try.prog.info? 89).bind (fun i => i.methods.find? (·.name == "Swap"))).map (fun m => (m.path.toList, m.func)) = some ([], some (106, false)) := by kernel_rfl
theorem push_row : ((Try.prog.info? 89).bind (fun i => i.methods.find? (·.name == "Push"))).map (fun m => (m.path.toList, m.func)) = some ([], some (108, true)) := by kernel_rfl
theorem pop_row : ((Try.prog.info? 89).bind (fun i => i.methods.find? (·.name == "Pop"))).map (fun m => (m.path.toList, m.func)) = some ([], some (107, true)) := by kernel_rfl
end Go.Proofs.Ytchjdpmgocapjaa
