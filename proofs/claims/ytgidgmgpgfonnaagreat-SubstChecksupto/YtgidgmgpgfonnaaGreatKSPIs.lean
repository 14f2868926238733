import Derived.Deep.RegionHeld3
import Derived.Test.YtgidgmgpgfonnaaGreatKSRgt
/- What Is of package canon answers. -/
namespace Go.Proofs.YtgidgmgpgfonnaaGreat
open Go.RowKit Go.Deep

set_option maxRecDepth 100000 in
set_option maxHeartbeats 2000000 in
theorem pis_any (S : Option Addr) (n cap : Nat) (l : List Sym) (t : Tn) (a : Option Addr) (c : Nat) (w : World) (hS : SigAt w S n l) (hT : TmAt w t.1 a c t.2) (hk : nodesF t.2 ≤ 1048576) :
    Calls Tryz.prog 42 #[.slice S n cap, .agg #[.string t.1.1, .int .i64 t.1.2, .slice a (lenF t.2) c]] w fun e w' => ∃ r, CanR l t r ∧ e = .returned (.bool (cmpN t r == 0)) ∧ Below w.heap.size w w' := by
  obtain ⟨⟨nm, s⟩, F⟩ := t
  have HC : Hid (∀ W, Below w.heap.size w W → Calls Tryz.prog 51 #[.slice S n cap, .agg #[.string nm, .int .i64 s, .slice a (lenF F) c]] W fun e w' => ∃ k : Kv, e = .returned (.agg #[.string k.x.1, .int .i64 k.x.2, .slice k.a (lenF k.l) k.c]) ∧ CanR l ((nm, s), F) k.tn ∧ LoosE w' (fun q => W.heap.size ≤ q) k ∧ Below W.heap.size W w') := fun W hW => pcanon_any S n cap l ((nm, s), F) a c W (hS.below hW) (TmAt.below hT hW) hk
  have HSM : Hid (∀ W (k : Kv) A, Below w.heap.size w W → LoosE W A k → Calls Tryz.prog 67 #[.agg #[.string nm, .int .i64 s, .slice a (lenF F) c], .agg #[.string k.x.1, .int .i64 k.x.2, .slice k.a (lenF k.l) k.c]] W fun e w' => e = .returned (.bool (cmpN ((nm, s), F) k.tn == 0)) ∧ Below W.heap.size W w') := fun W k A hW hE => same_any ((nm, s), F) k.tn a k.a c k.c W (TmAt.below hT hW) (SepTm.tm hE.1)
  have HB0 : Hid (Below w.heap.size w (w.alloc (.cells #[.string nm, .int .i64 s, .slice a (lenF F) c] 27))) := (Below.refl _ w).alloc (Nat.le_refl _) _
  clear hS hT
  have HX0 : Hid (XBox (w.alloc (.cells #[.string nm, .int .i64 s, .slice a (lenF F) c] 27)) w.heap.size (nm, s) (.slice a (lenF F) c)) := World.alloc_heap_new w _
  have c0 := HX0.out.c0; have c1 := HX0.out.c1; have c2 := HX0.out.c2
  go_enter Tryz.func42, Tryz.ntmps42
  go_wp2_with fail
  generalize w.alloc (.cells #[.string nm, .int .i64 s, .slice a (lenF F) c] 27) = W0 at HB0 HX0 c0 c1 c2 ⊢
  go_region_held3 (fun w' => w'.cell? ⟨w.heap.size, 0, none⟩ = some (.string nm) ∧ w'.cell? ⟨w.heap.size, 1, none⟩ = some (.int .i64 s) ∧ w'.cell? ⟨w.heap.size, 2, none⟩ = some (.slice a (lenF F) c)) ((first | (go_split_ands; refine ⟨?_, ?_, ?_⟩ <;> (refine below_cell HB1.out _ _ ?_; assumption)) | (go_split_ands; refine ⟨?_, ?_, ?_⟩ <;> (refine below_cell HB2.out _ _ ?_; assumption)) | go_keep | fail)) ((first
    | (go_at_call 67; refine (HSM.out _ k _ (HB0.out.trans (HB1.out.mono HB0.out.size)) HE1.out).mono ?_; rintro e w2 ⟨rfl, hb2⟩; have HB2 : Hid (Below W0.heap.size W0 w2) := HB1.out.trans (hb2.mono HB1.out.size); clear hb2)
    | (go_at_call 51; refine (HC.out _ HB0.out.drew).mono ?_; rintro e w1 ⟨k, rfl, hr1, hE1, hb1⟩; have HR1 := hid hr1; have HE1 := hid hE1; have HB1 : Hid (Below W0.heap.size W0 w1) := ((Below.refl _ W0).drew).trans hb1; clear hr1 hE1 hb1)
    | fail))
  all_goals go_wp2_with fail
  all_goals go_ret
  all_goals exact ⟨k.tn, HR1.out, rfl, HB0.out.trans (HB2.out.mono HB0.out.size)⟩
end Go.Proofs.YtgidgmgpgfonnaaGreat
