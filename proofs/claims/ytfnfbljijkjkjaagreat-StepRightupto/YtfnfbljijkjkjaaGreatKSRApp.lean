import Derived.Test.YtfnfbljijkjkjaaGreatKSPin
/- The document's Apply. -/
namespace Go.Proofs.YtfnfbljijkjkjaaGreat
open Go.RowKit Go.Deep Go.Shelf

theorem szB_eq (bs : List Bn) (s : ByteArray) : szB bs s = nodesF (getN bs s).2 + 1 := by
  unfold szB getN
  cases getB bs s <;> rfl
theorem growF_eq (bs : List Bn) : ∀ (F : Fo) (r : Int), 0 ≤ growF bs F r → growF bs F r = r - nodesF (pinF bs F)
  | .nil, r, _ => by simp [growF, pinF, nodesF]
  | .node _ _ x l s, r, h => by
    unfold growF at h ⊢
    unfold pinF
    by_cases hr : r < 0
    · rw [if_pos hr] at h; omega
    · rw [if_neg hr] at h ⊢
      by_cases hk : noName x.1 = true
      · rw [if_pos hk] at h ⊢
        rw [if_pos hk]
        have h1 : 0 ≤ growF bs l (r - 1) := by
          rcases Int.lt_or_le (growF bs l (r - 1)) 0 with h2 | h2
          · rw [growF_neg bs s _ h2] at h; omega
          · exact h2
        have e1 := growF_eq bs l (r - 1) h1
        have e2 := growF_eq bs s _ h
        rw [e2, e1]
        simp only [nodesF]
        omega
      · rw [if_neg hk] at h ⊢
        rw [if_neg hk]
        have e2 := growF_eq bs s _ h
        rw [e2, szB_eq]
        simp only [nodesF]
        omega
theorem growN_eq (bs : List Bn) (x : ByteArray × Int) (l : Fo) (r : Int) (h : 0 ≤ growN bs x l r) : growN bs x l r = r - (nodesF (pinN bs x l).2 + 1 : Nat) := by
  unfold growN at h ⊢
  unfold pinN
  by_cases hk : noName x.1 = true
  · rw [if_pos hk] at h ⊢
    rw [if_pos hk, growF_eq bs l _ h]
    simp only
    omega
  · rw [if_neg hk] at h ⊢
    rw [if_neg hk, szB_eq]
/-- What the document's Apply leaves. -/
def RApplyEnd (sg : List Sym) (bs : List Bn) (x : ByteArray × Int) (l : Fo) (w : World) (e : Ending) (w' : World) : Prop := Below w.heap.size w w' ∧
  ((growN bs x l 400 < 0 ∧ e = .returned (.tuple #[.agg #[.string ⟨#[]⟩, .int .i64 0, .slice none 0 0], .int .i64 73])) ∨
   (0 ≤ growN bs x l 400 ∧ ∃ (r : Tn) (a' : Option Addr) (c' : Nat), r = canonT (sgOf sg) (pinN bs x l) ∧ e = .returned (.tuple #[.agg #[.string r.1.1, .int .i64 r.1.2, .slice a' (lenF r.2) c'], .int .i64 0]) ∧ OwnTm false (fun q => w.heap.size ≤ q) w' r.1 a' c' r.2))
set_option maxRecDepth 100000 in
set_option maxHeartbeats 2000000 in
theorem rapply_any (S : Option Addr) (n cap : Nat) (sg : List Sym) (p : Option Addr) (bcap : Nat) (bs : List Bn) (x : ByteArray × Int) (l : Fo) (a : Option Addr) (c : Nat) (w : World) (hS : SigAt w S n sg) (hB : BindsAt w p bs.length bs) (hn : bs.length ≤ 1048576) (hnd : ∀ b ∈ bs, nodesF b.2.2 ≤ 1048576) (hT : TmAt w x a c l) :
    Calls Tryz.prog 24 #[.slice S n cap, .slice p bs.length bcap, .agg #[.string x.1, .int .i64 x.2, .slice a (lenF l) c]] w (RApplyEnd sg bs x l w) := by
  obtain ⟨W0, hW0⟩ : ∃ W0, (w.alloc (.cells #[.string x.1, .int .i64 x.2, .slice a (lenF l) c] 26)).alloc (.cells #[.string ⟨#[]⟩, .int .i64 0, .slice none 0 0] 26) = W0 := ⟨_, rfl⟩
  have hb0 : Below w.heap.size w W0 := by rw [← hW0]; exact ((Below.refl _ w).alloc (Nat.le_refl _) _).alloc (by simp) _
  have b1 : XBox W0 w.heap.size x (.slice a (lenF l) c) := by rw [← hW0]; exact (Below.heap_alloc _ _ _ (by simp)).trans (World.alloc_heap_new w _)
  have b2 : XBox W0 (w.heap.size + 1) (⟨#[]⟩, 0) (.slice none 0 0) := by
    have := World.alloc_heap_new (w.alloc (.cells #[.string x.1, .int .i64 x.2, .slice a (lenF l) c] 26)) (.cells #[.string ⟨#[]⟩, .int .i64 0, .slice none 0 0] 26)
    rw [World.size_alloc] at this
    rw [← hW0]; exact this
  have hsz : W0.heap.size = w.heap.size + 2 := by rw [← hW0]; simp
  have hfi := grown_any bs hn hnd x l a c p bcap W0 (hT.below hb0) (hB.below hb0)
  have HS := hid hS; have HT := hid hT; have HB := hid hB
  have z0 := b1.c0; have z1 := b1.c1; have z2 := b1.c2
  clear hS hT hB
  by_cases hL : growN bs x l 400 < 0
  · rw [decide_eq_true hL] at hfi
    have HFI := hid hfi
    clear hfi
    go_enter Tryz.func24, Tryz.ntmps24
    go_wp2_with fail
    clear hW0
    refine HFI.out.mono ?_
    rintro e w1 ⟨rfl, hb1⟩
    have Y1 := b2.below hb1
    have HY1 := hid Y1
    have HL1 := hid (hb0.trans (hb1.mono hb0.size))
    have r0 := Y1.c0; have r1 := Y1.c1; have r2 := Y1.c2
    have g0 := Y1.f (k := 0); have g1 := Y1.f (k := 1); have g2 := Y1.f (k := 2)
    clear z0 z1 z2 Y1 hb1 HFI
    go_wp2_with fail
    refine bodyPost_ret (results_ct rfl rfl (load26 (HY1.out.all (x := (⟨#[]⟩, 0)) _))) rfl ?_
    exact ⟨sets_below HL1.out (by omega) _ _ _, .inl ⟨hL, rfl⟩⟩
  · rw [decide_eq_false hL] at hfi
    have HFI := hid hfi
    have hq : nodesF (pinN bs x l).2 ≤ 1048576 := by
      have := growN_eq bs x l 400 (by omega)
      omega
    clear hfi
    go_enter Tryz.func24, Tryz.ntmps24
    go_wp2_with fail
    clear hW0
    refine HFI.out.mono ?_
    rintro e w1 ⟨rfl, hb1⟩
    have X1 := b1.below hb1
    have x0 := X1.c0; have x1 := X1.c1; have x2 := X1.c2
    have HY1 := hid (b2.below hb1)
    have HL1 := hid (hb0.trans (hb1.mono hb0.size))
    have HPT := hid (pin_all bs hn (nodesF l) x l a c p bcap w1 (Nat.le_refl _) (HT.out.below HL1.out) (HB.out.below HL1.out))
    have hz1 : w.heap.size + 2 ≤ w1.heap.size := by have := hb1.size; omega
    clear z0 z1 z2 X1 hb1 HFI b1 b2
    obtain ⟨t, ht⟩ : ∃ t, pinN bs x l = t := ⟨_, rfl⟩
    rw [ht] at HPT hq
    have HT9 := hid ht
    clear ht
    go_wp2_with fail
    refine HPT.out.mono ?_
    rintro e w2 ⟨a', c', rfl, hT2, hb2⟩
    have bx := alloc_below0 w2 (.cells #[.string t.1.1, .int .i64 t.1.2, .slice a' (lenF t.2) c'] 26)
    have HL2 := hid ((HL1.out.trans (hb2.mono HL1.out.size)).trans (bx.mono (Nat.le_trans HL1.out.size hb2.size)))
    have HY2 := hid ((HY1.out.below hb2).below bx)
    have hz2 : w.heap.size + 2 ≤ (w2.alloc (.cells #[.string t.1.1, .int .i64 t.1.2, .slice a' (lenF t.2) c'] 26)).heap.size := Nat.le_trans hz1 (Nat.le_trans hb2.size bx.size)
    have HC := hid (canon_all S n cap sg 1048576 (Nat.le_refl _) t a' c' _ hq (HS.out.below HL2.out) ((hT2.own.tm).below bx))
    obtain ⟨r, hr⟩ : ∃ r, canonT (sgOf sg) t = r := ⟨_, rfl⟩
    rw [hr] at HC
    have HR := hid hr
    clear x0 x1 x2 hb2 hT2 HPT hr bx
    go_wp2_with fail
    refine HC.out.mono ?_
    rintro e w3 ⟨a3, c3, rfl, hO3, hb3⟩
    have Y3 := HY2.out.below hb3
    have HY3 := hid Y3
    have HL3 := hid (HL2.out.trans (hb3.mono HL2.out.size))
    have r0 := Y3.c0; have r1 := Y3.c1; have r2 := Y3.c2
    have g0 := Y3.f (k := 0); have g1 := Y3.f (k := 1); have g2 := Y3.f (k := 2)
    have HO3 := hid hO3
    clear Y3 hb3 hO3 HC
    go_wp2_with fail
    refine bodyPost_ret (results_ct rfl rfl (load26 (HY3.out.all (x := r.1) _))) rfl ?_
    refine ⟨sets_below HL3.out (by omega) _ _ _, .inr ⟨by omega, r, a3, c3, by rw [HT9.out, HR.out], rfl, ?_⟩⟩
    exact (HO3.out.keep (fun q hq _ => sets_far (by omega) _ _ _)).mono (fun q _ hq => by omega)
end Go.Proofs.YtfnfbljijkjkjaaGreat
