import Derived.Test.YtfnfbljijkjkjaaGreatKSBd
/- The document's Get. -/
namespace Go.Proofs.YtfnfbljijkjkjaaGreat
open Go.RowKit Go.Deep Go.Shelf

theorem name_eq {a b : ByteArray} (h : (a.toList == b.toList) = true) : a = b := by
  have h1 : a.toList = b.toList := eq_of_beq h
  rw [ByteArray.toList_eq, ByteArray.toList_eq] at h1
  exact Go.WideShapes.bytes_inj h1
/-- The first bind of a name. -/
def getB (bs : List Bn) (s : ByteArray) : Option Tn := (bs.find? fun b => decide (b.1 = s)).map (·.2)
/-- What Get tells: a term in memory, and whether it stands for the name. -/
def GetEnd (bs : List Bn) (s : ByteArray) (w : World) (e : Ending) (w' : World) : Prop := Below w.heap.size w w' ∧
  ((getB bs s = none ∧ e = .returned (.tuple #[.agg #[.string s, .int .i64 0, .slice none 0 0], .bool false])) ∨ ∃ t a c, getB bs s = some t ∧ TmAt w t.1 a c t.2 ∧ e = .returned (.tuple #[.agg #[.string t.1.1, .int .i64 t.1.2, .slice a (lenF t.2) c], .bool true]))
set_option maxRecDepth 100000 in
set_option maxHeartbeats 2000000 in
theorem rget_any (p : Option Addr) (bcap : Nat) (bs : List Bn) (s : ByteArray) (w : World) (hB : BindsAt w p bs.length bs) (hn : bs.length ≤ 1048576) :
    Calls Tryz.prog 32 #[.slice p bs.length bcap, .string s] w (GetEnd bs s w) := by
  have HB := hid hB
  have b0 := alloc_below0 w (.cells #[.string ⟨#[]⟩, .int .i64 0, .slice none 0 0] 26)
  have X0 : XBox (w.alloc (.cells #[.string ⟨#[]⟩, .int .i64 0, .slice none 0 0] 26)) w.heap.size (⟨#[]⟩, 0) (.slice none 0 0) := World.alloc_heap_new w _
  have HL := hid b0; have HX := hid X0
  clear hB b0 X0
  go_enter Tryz.func32, Tryz.ntmps32
  go_wp2_with fail
  generalize w.alloc (.cells #[.string ⟨#[]⟩, .int .i64 0, .slice none 0 0] 26) = V at HL HX ⊢
  go_loopw [6] (fun iv wr => ∃ i : Nat, i ≤ bs.length ∧ iv = .int .i64 i ∧ wr = V ∧ ∀ b ∈ bs.take i, b.1 ≠ s) (fun iv _ => bs.length - (intOf iv).toNat)
  case atStart => exact ⟨0, Nat.zero_le _, rfl, rfl, by simp⟩
  case round =>
    obtain ⟨i, hi, rfl, rfl, hno⟩ := hrel
    by_cases hlt : i < bs.length
    · obtain ⟨b1, o1, a1, c1, rfl, hbw⟩ := HB.out.cells i hlt
      have hbd := hbw.below HL.out
      obtain ⟨⟨vn, ⟨x, l⟩⟩, hyy⟩ : ∃ y, bs[i] = y := ⟨_, rfl⟩
      rw [hyy] at hbd hbw
      have p0 := hbd.var; have p1 := hbd.name; have p2 := hbd.sym; have p3 := hbd.list
      dsimp only at p0 p1 p2 p3
      have r0 := HX.out.c0; have r1 := HX.out.c1; have r2 := HX.out.c2
      have g0 := HX.out.f (k := 0); have g1 := HX.out.f (k := 1); have g2 := HX.out.f (k := 2)
      cases ht : (vn.toList == s.toList) with
      | true =>
        obtain rfl := name_eq ht
        have hf : bs.find? (fun b => decide (b.1 = vn)) = some (vn, (x, l)) := List.find?_eq_some_iff_append.2 ⟨by simp, bs.take i, bs.drop (i + 1), by rw [← hyy]; rw [← List.drop_eq_getElem_cons hlt, List.take_append_drop], fun b hb => by simpa using hno b hb⟩
        have hg : getB bs vn = some (x, l) := by
          unfold getB
          rw [hf]
          rfl
        have HG := hid hg
        have HT := hid hbw.tm
        clear hbd hbw HB hg hf
        go_wp2_with fail
        refine bodyPost_ret (results_ct rfl rfl (load26 (HX.out.all (x := x) _))) rfl ?_
        exact ⟨sets_below HL.out (by omega) _ _ _, .inr ⟨(x, l), a1, c1, HG.out, HT.out, rfl⟩⟩
      | false =>
        have hs : vn ≠ s := fun e => by rw [e] at ht; simp at ht
        clear hbd hbw HB
        go_wp2_with fail
        refine ⟨⟨i + 1, by omega, rfl, trivial, fun b hb => ?_⟩, by simp [intOf]; omega⟩
        rw [List.take_succ_eq_append_getElem hlt] at hb
        rcases List.mem_append.1 hb with hb | hb
        · exact hno b hb
        · rw [List.mem_singleton.1 hb, hyy]
          exact hs
    · have hg : getB bs s = none := by
        unfold getB
        rw [List.take_of_length_le (by omega)] at hno
        rw [List.find?_eq_none.2 (fun b hb => by simpa using hno b hb)]
        rfl
      have r0 := HX.out.c0; have r1 := HX.out.c1; have r2 := HX.out.c2
      have g0 := HX.out.f (k := 0); have g1 := HX.out.f (k := 1); have g2 := HX.out.f (k := 2)
      go_wp2_with fail
      refine bodyPost_ret (results_ct rfl rfl (load26 (HX.out.all (x := (s, 0)) _))) rfl ?_
      exact ⟨sets_below HL.out (by omega) _ _ _, .inl ⟨hg, rfl⟩⟩
end Go.Proofs.YtfnfbljijkjkjaaGreat
