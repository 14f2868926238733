/- What At and Put of package terms answer. -/
import Derived.Test.YtmhdapgiealmfabTReach
namespace Go.Proofs.Ytmhdapgiealmfab
open Go.RowKit Go.Deep

theorem results_pair {fn : Func} {p u : Tmp} {ty : TypeId} (h : fn.results = #[.cell p ty, .tmp u]) (tmps : Array Value) (P : Program) (w : World) :
    (results fn tmps).run P w =
      ((asAddr (tmps.getD p undef)).run P w).andThen fun a w₁ => ((loadVar ty a).run P w₁).andThen fun x w₂ => .ok (.tuple #[x, tmps.getD u undef]) w₂ := by
  simp only [results, h]
  simp [Sem.run_bind, Result.andThen]
theorem ret_pair {fn : Func} {R : Ending → World → Prop} {a : Act} {w : World} {p u B : Nat} {x : ByteArray × Int} {v : Value} (h : fn.results = #[.cell p 24, .tmp u]) (hp : a.tmps.getD p undef = .pointer (some ⟨B, 0, none⟩))
    (hx : XBox w B x v) (hd : a.defers = []) (hR : R (.returned (.tuple #[.agg #[.string x.1, .int .i64 x.2, v], a.tmps.getD u undef])) w) : bodyPost Try.prog fn R .ret a w := by
  refine bodyPost_ret ?_ hd hR
  rw [results_pair h, hp]
  rw [show (asAddr (.pointer (some ⟨B, 0, none⟩))).run Try.prog w = .ok ⟨B, 0, none⟩ w from rfl]
  simp only [Result.andThen_ok, run_loadVar_row w B 24 24 _ (0, 0) _ hx Try.underlying24 rfl Try.size24]
/-- The answer as a value. -/
def ansV (o : Option Tn) (a : Option Addr) (c : Nat) : Value := .tuple #[.agg #[.string (ansT o).1.1, .int .i64 (ansT o).1.2, .slice a (lenF (ansT o).2) c], .int .i64 (ansE o)]
theorem sep_none (W : World) (A : Nat → Prop) : SepTm W A (ansT none).1 none 0 (ansT none).2 := ⟨⟨by decide, Nat.le_refl _, by simp, by simp [ansT, noT, lenF]⟩, .inl rfl⟩
theorem TBox.node {W : World} {B : Nat} {x : ByteArray × Int} {a : Option Addr} {c : Nat} {l : Fo} (h : TBox W B x a (lenF l) c) : Node W B 0 x a c l := ⟨h.c0, h.c1, h.c2⟩

set_option maxRecDepth 100000 in
set_option maxHeartbeats 2000000 in
theorem at_any (ps : List Int) (t : Tn) (a : Option Addr) (c : Nat) (pa : Option Addr) (pn pc : Nat) (w : World) (hT : TmAt w t.1 a c t.2) (hP : IntsAt w pa pn ps) (hpn : pn ≤ 9223372036854775807) :
    Calls Try.prog 5 #[.agg #[.string t.1.1, .int .i64 t.1.2, .slice a (lenF t.2) c], .slice pa pn pc] w fun e w' => ∃ a' c', e = .returned (ansV (subT ps t) a' c') ∧ SepTm w' (fun k => w.heap.size ≤ k) (ansT (subT ps t)).1 a' c' (ansT (subT ps t)).2 ∧ Below w.heap.size w w' := by
  have hb1 : Below w.heap.size w (w.alloc (.cells #[.string t.1.1, .int .i64 t.1.2, .slice a (lenF t.2) c] 24)) := (Below.refl _ w).alloc (Nat.le_refl _) _
  have hb2 : Below w.heap.size w ((w.alloc (.cells #[.string t.1.1, .int .i64 t.1.2, .slice a (lenF t.2) c] 24)).alloc (.cells #[.string ⟨#[]⟩, .int .i64 0, .slice none 0 0] 24)) := hb1.alloc hb1.size _
  obtain ⟨W, hW⟩ : ∃ W, (w.alloc (.cells #[.string t.1.1, .int .i64 t.1.2, .slice a (lenF t.2) c] 24)).alloc (.cells #[.string ⟨#[]⟩, .int .i64 0, .slice none 0 0] 24) = W := ⟨_, rfl⟩
  have hbx : TBox W w.heap.size t.1 a (lenF t.2) c := by rw [← hW]; exact (TBox.new w _ a _ c).below ((Below.refl _ _).alloc (Nat.le_refl _) _)
  have hrx : XBox W (w.heap.size + 1) (⟨#[]⟩, 0) (.slice none 0 0) := by
    rw [← hW]
    exact heap_alloc2_new w _ _
  rw [hW] at hb2
  have HB : Hid (Below w.heap.size w W) := hb2
  have HR : Hid (XBox W (w.heap.size + 1) (⟨#[]⟩, 0) (.slice none 0 0)) := hrx
  have hC := reach_any ps w.heap.size 0 t a c pa pn pc W hbx.node (hT.below hb2) (hP.below hb2) hpn
  clear hb1 hb2 hbx hrx
  go_enter Try.func5, Try.ntmps5
  go_wp2_with (rw [hW])
  clear hW
  refine hC.mono ?_
  rintro e w1 ⟨v, rfl, rfl, ⟨hs, rfl⟩ | ⟨u, hs, ⟨b', o', a1, c1, rfl, hN, hT1, _⟩⟩⟩
  · have HS : Hid (subT ps t = none) := hs
    have r0 := HR.out.c0; have r1 := HR.out.c1; have r2 := HR.out.c2
    have f0 := HR.out.f (k := 0); have f1 := HR.out.f (k := 1); have f2 := HR.out.f (k := 2)
    clear hC hs
    go_wp2
    refine ret_pair rfl rfl (HR.out.all (x := (⟨#[]⟩, 0)) _) rfl ?_
    rw [HS.out]
    exact ⟨none, 0, rfl, sep_none _ _, sets_below HB.out (by omega) _ _ _⟩
  · have HS : Hid (subT ps t = some u) := hs
    have q0 := hN.name; have q1 := hN.sym; have q2 := hN.list
    have hC2 := clone_any u.1 u.2 a1 c1 w1 hT1
    clear hC hN hT1 hs
    go_wp2_with fail
    refine hC2.mono ?_
    rintro e w2 ⟨a2, c2, rfl, hS2, hb⟩
    have HR2 : Hid (XBox w2 (w.heap.size + 1) (⟨#[]⟩, 0) (.slice none 0 0)) := HR.out.below hb
    have HB2 : Hid (Below w.heap.size w w2) := HB.out.trans (hb.mono HB.out.size)
    have HS2 : Hid (SepTm w2 (fun k => w1.heap.size ≤ k) u.1 a2 c2 u.2) := hS2
    have hlt := HR.out.lt
    clear hC2 hS2 hb q0 q1 q2
    have r0 := HR2.out.c0; have r1 := HR2.out.c1; have r2 := HR2.out.c2
    have f0 := HR2.out.f (k := 0); have f1 := HR2.out.f (k := 1); have f2 := HR2.out.f (k := 2)
    go_wp2
    refine ret_pair rfl rfl (HR2.out.all (x := u.1) _) rfl ?_
    rw [HS.out]
    exact ⟨a2, c2, rfl, (HS2.out.keep (fun q hq _ => sets_far (by omega) _ _ _)).mono (fun q hq => by have := HB.out.size; omega), sets_below HB2.out (by omega) _ _ _⟩
end Go.Proofs.Ytmhdapgiealmfab
