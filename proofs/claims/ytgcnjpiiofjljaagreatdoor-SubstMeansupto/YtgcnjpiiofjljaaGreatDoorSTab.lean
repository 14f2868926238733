/- Tables of terms by names: what look answers. -/
import Derived.Test.YtgcnjpiiofjljaaGreatDoorMTab
import Derived.Test.YtgcnjpiiofjljaaGreatDoorTRChkB
import Derived.Test.YtgcnjpiiofjljaaGreatDoorTPath
namespace Go.Proofs.YtgcnjpiiofjljaaGreatDoor
open Go.RowKit Go.Deep

theorem alloc_below0 (W : World) (o : Obj) : Below W.heap.size W (W.alloc o) := (Below.refl _ W).alloc (Nat.le_refl _) o
theorem hid {p : Prop} (h : p) : Hid p := h
def tmV (x : ByteArray × Int) (a : Option Addr) (n c : Nat) : Value := .agg #[.string x.1, .int .i64 x.2, .slice a n c]
/-- A table reads as a function. -/
structure TabAt (W : World) (b n : Nat) (lk : ByteArray → Option Tn) : Prop where
  ex : ∃ D, MapAt W b n D ∧ ∀ s, match lk s with | none => lookD D s = none | some t => ∃ a c, lookD D s = some (tmV t.1 a (lenF t.2) c) ∧ TmAt W t.1 a c t.2
def TabV (W : World) (mv : Value) (lk : ByteArray → Option Tn) : Prop := (mv = .map none ∧ ∀ s, lk s = none) ∨ ∃ b n, mv = .map (some b) ∧ TabAt W b n lk
theorem MapAt.below {W W' : World} {b n : Nat} {D : DataW Value} (h : MapAt W b n D) (hb : Below W.heap.size W W') : MapAt W' b n D :=
  h.kept (row := none) ⟨hb.os, hb.tape, hb.output, hb.size, fun k hk _ => hb.block k hk⟩ (by simp)
theorem TabAt.below {W W' : World} {b n : Nat} {lk : ByteArray → Option Tn} (h : TabAt W b n lk) (hb : Below W.heap.size W W') : TabAt W' b n lk := by
  obtain ⟨D, hD, hl⟩ := h.ex
  refine ⟨D, hD.below hb, fun s => ?_⟩
  have := hl s
  cases hs : lk s with
  | none => rw [hs] at this; exact this
  | some t =>
    rw [hs] at this
    obtain ⟨a, c, h1, h2⟩ := this
    exact ⟨a, c, h1, h2.below hb⟩
theorem TabV.below {W W' : World} {mv : Value} {lk : ByteArray → Option Tn} (h : TabV W mv lk) (hb : Below W.heap.size W W') : TabV W' mv lk :=
  h.imp id fun ⟨b, n, h1, h2⟩ => ⟨b, n, h1, h2.below hb⟩
theorem TabV.none (W : World) : TabV W (.map none) fun _ => none := .inl ⟨rfl, fun _ => rfl⟩
theorem tab_run {w : World} {mv : Value} {lk : ByteArray → Option Tn} (h : TabV w mv lk) (s : ByteArray) (hs : s.size ≤ maxLen) :
    (lk s = none ∧ ∀ W, Below w.heap.size w W → (Instr.lookup 54 mv (.string s) true).run Tryz.prog W = .ok (.tuple #[.agg #[.string ⟨#[]⟩, .int .i64 0, .slice none 0 0], .bool false]) W) ∨
    ∃ t a c, lk s = some t ∧ TmAt w t.1 a c t.2 ∧ ∀ W, Below w.heap.size w W → (Instr.lookup 54 mv (.string s) true).run Tryz.prog W = .ok (.tuple #[.agg #[.string t.1.1, .int .i64 t.1.2, .slice a (lenF t.2) c], .bool true]) W := by
  rcases h with ⟨rfl, hn⟩ | ⟨b, n, rfl, ⟨D, hD, hl⟩⟩
  · exact .inl ⟨hn s, fun W _ => nil_run W s hs⟩
  · have h1 := hl s
    cases hk : lk s with
    | none =>
      rw [hk] at h1
      refine .inl ⟨rfl, fun W hb => ?_⟩
      have := look_run (hD.below hb) s hs
      rw [show lookD D s = Option.none from h1] at this
      exact this
    | some t =>
      rw [hk] at h1
      obtain ⟨a, c, h2, h3⟩ := h1
      refine .inr ⟨t, a, c, rfl, h3, fun W hb => ?_⟩
      have := look_run (hD.below hb) s hs
      rw [h2] at this
      exact this
def lkN (lk : ByteArray → Option Tn) (s : ByteArray) : Option Tn := if noName s = true then none else lk s
theorem results_ct {fn : Func} {p u : Tmp} {P : Program} {tmps : Array Value} {w : World} {B : Nat} {x y z : Value} (h : fn.results = #[.cell p 27, .tmp u]) (hp : tmps.getD p undef = .pointer (some ⟨B, 0, none⟩)) (hl : (loadVar 27 ⟨B, 0, none⟩).run P w = .ok (.agg #[x, y, z]) w) :
    (results fn tmps).run P w = .ok (.tuple #[.agg #[x, y, z], tmps.getD u undef]) w := by
  have e : (results fn tmps).run P w = ((asAddr (tmps.getD p undef)).run P w).andThen fun q w₁ => ((loadVar 27 q).run P w₁).andThen fun y w₂ => .ok (.tuple #[y, tmps.getD u undef]) w₂ := by
    simp only [results, h]
    simp [Sem.run_bind, Result.andThen]
  rw [e, hp, show (asAddr (.pointer (some ⟨B, 0, none⟩))).run P w = .ok ⟨B, 0, none⟩ w from rfl]
  simp only [Result.andThen_ok, hl]
theorem load27 {W : World} {B : Nat} {x : ByteArray × Int} {a : Option Addr} {n c : Nat} (h : TBox W B x a n c) : (loadVar 27 ⟨B, 0, none⟩).run Tryz.prog W = .ok (.agg #[.string x.1, .int .i64 x.2, .slice a n c]) W := by
  have c0 := h.c0; have c1 := h.c1; have c2 := h.c2
  simp [go_sem, loadVar, c0, c1, c2]
theorem box2 (w : World) (o1 o3 : Obj) (x : ByteArray × Int) (a : Option Addr) (n c : Nat) : TBox (((w.alloc o1).alloc (.cells #[.string x.1, .int .i64 x.2, .slice a n c] 27)).alloc o3) (w.heap.size + 1) x a n c := by
  have h := TBox.new (w.alloc o1) x a n c
  rw [World.size_alloc] at h
  exact h.below (alloc_below0 _ _)
theorem below3 (w : World) (o1 o2 o3 : Obj) : Below w.heap.size w (((w.alloc o1).alloc o2).alloc o3) := by
  have b1 := alloc_below0 w o1
  have b2 := alloc_below0 (w.alloc o1) o2
  have b3 := alloc_below0 ((w.alloc o1).alloc o2) o3
  exact (b1.trans (b2.mono b1.size)).trans (b3.mono (Nat.le_trans b1.size b2.size))
set_option maxRecDepth 100000 in
set_option maxHeartbeats 1000000 in
theorem look_any (mv : Value) (lk : ByteArray → Option Tn) (x : ByteArray × Int) (a : Option Addr) (n c : Nat) (w : World) (hT : TabV w mv lk) (hs : x.1.size ≤ maxLen) :
    Calls Tryz.prog 41 #[mv, .agg #[.string x.1, .int .i64 x.2, .slice a n c]] w fun e w' => Below w.heap.size w w' ∧
      ((lkN lk x.1 = none ∧ e = .returned (.tuple #[.agg #[.string ⟨#[]⟩, .int .i64 0, .slice none 0 0], .bool false])) ∨ ∃ t a' c', lkN lk x.1 = some t ∧ TmAt w t.1 a' c' t.2 ∧ e = .returned (.tuple #[.agg #[.string t.1.1, .int .i64 t.1.2, .slice a' (lenF t.2) c'], .bool true])) := by
  have b1 := alloc_below0 w (.cells #[.string x.1, .int .i64 x.2, .slice a n c] 27)
  have b2 := alloc_below0 (w.alloc (.cells #[.string x.1, .int .i64 x.2, .slice a n c] 27)) (.cells #[.string ⟨#[]⟩, .int .i64 0, .slice none 0 0] 27)
  have n2 := World.alloc_heap_new (w.alloc (.cells #[.string x.1, .int .i64 x.2, .slice a n c] 27)) (.cells #[.string ⟨#[]⟩, .int .i64 0, .slice none 0 0] 27)
  have hB := b1.trans (b2.mono b1.size)
  rw [World.size_alloc] at n2
  have HB := hid hB; have HN2 := hid n2
  unfold lkN
  cases hnm : noName x.1 with
  | true =>
    have hnm' : x.1.toList.isEmpty = true := hnm
    clear b1 b2 hB n2
    go_enter Tryz.func41, Tryz.ntmps41
    go_wp2_with fail
    exact bodyPost_ret (results_ct rfl rfl (load27 (x := (⟨#[]⟩, 0)) HN2.out)) rfl ⟨HB.out, rfl⟩
  | false =>
    have hnm' : x.1.toList.isEmpty = false := hnm
    rcases tab_run hT x.1 hs with ⟨hk, hr⟩ | ⟨t, a', c', hk, ht, hr⟩
    · have hrun := hr _ hB
      clear b1 b2 hB n2 hr
      go_enter Tryz.func41, Tryz.ntmps41
      go_wp2_with fail
      exact bodyPost_ret (results_ct rfl rfl (load27 (box2 w _ _ (⟨#[]⟩, 0) none 0 0))) rfl ⟨below3 _ _ _ _, rfl⟩
    · have hrun := hr _ hB
      clear b1 b2 hB n2 hr
      go_enter Tryz.func41, Tryz.ntmps41
      go_wp2_with fail
      exact bodyPost_ret (results_ct rfl rfl (load27 (box2 w _ _ t.1 a' (lenF t.2) c'))) rfl ⟨below3 _ _ _ _, a', c', ht, rfl⟩
end Go.Proofs.YtgcnjpiiofjljaaGreatDoor
