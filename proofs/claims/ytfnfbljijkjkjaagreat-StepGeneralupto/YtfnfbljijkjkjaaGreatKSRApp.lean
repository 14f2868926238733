import Derived.Test.YtfnfbljijkjkjaaGreatKSPin
/- The document's Apply. -/
namespace Go.Proofs.YtfnfbljijkjkjaaGreat
open Go.RowKit Go.Deep Go.Shelf

theorem szB_eq (bs : List Bn) (s : ByteArray) : szB bs s = nodesF (getN bs s).2 + 1 := by
  unfold szB getN
  cases getB bs s <;> rfl
theorem growF_eq (bs : List Bn) : ∀ (F : Fo) (r : Int), 0 ≤ growF bs F r → growF bs F r = r - nodesF (pinF bs F)
  | .nil, r, _ => by simp [growF, pinF, nodesF]
  | .node _ _ x l s, r, h => by
    unfold growF at h ⊢
    unfold pinF
    by_cases hr : r < 0
    · rw [if_pos hr] at h; omega
    · rw [if_neg hr] at h ⊢
      by_cases hk : noName x.1 = true
      · rw [if_pos hk] at h ⊢
        rw [if_pos hk]
        have h1 : 0 ≤ growF bs l (r - 1) := by
          rcases Int.lt_or_le (growF bs l (r - 1)) 0 with h2 | h2
          · rw [growF_neg bs s _ h2] at h; omega
          · exact h2
        have e1 := growF_eq bs l (r - 1) h1
        have e2 := growF_eq bs s _ h
        rw [e2, e1]
        simp only [nodesF]
        omega
      · rw [if_neg hk] at h ⊢
        rw [if_neg hk]
        have e2 := growF_eq bs s _ h
        rw [e2, szB_eq]
        simp only [nodesF]
        omega
theorem growN_eq (bs : List Bn) (x : ByteArray × Int) (l : Fo) (r : Int) (h : 0 ≤ growN bs x l r) : growN bs x l r = r - (nodesF (pinN bs x l).2 + 1 : Nat) := by
  unfold growN at h ⊢
  unfold pinN
  by_cases hk : noName x.1 = true
  · rw [if_pos hk] at h ⊢
    rw [if_pos hk, growF_eq bs l _ h]
    simp only
    omega
  · rw [if_neg hk] at h ⊢
    rw [if_neg hk, szB_eq]
/-- What the document's Apply leaves. -/
def RApplyEnd (sg : List Sym) (bs : List Bn) (x : ByteArray × Int) (l : Fo) (w : World) (e : Ending) (w' : World) : Prop := Below w.heap.size w w' ∧
  ((growN bs x l 400 < 0 ∧ e = .returned (.tuple #[.agg #[.string ⟨#[]⟩, .int .i64 0, .slice none 0 0], .int .i64 73])) ∨
   (0 ≤ growN bs x l 400 ∧ ∃ (r : Tn) (a' : Option Addr) (c' : Nat), r = canonT (sgOf sg) (pinN bs x l) ∧ e = .returned (.tuple #[.agg #[.string r.1.1, .int .i64 r.1.2, .slice a' (lenF r.2) c'], .int .i64 0]) ∧ OwnTm false (fun q => w.heap.size ≤ q) w' r.1 a' c' r.2))
set_option maxRecDepth 100000 in
set_option maxHeartbeats 2000000 in
theorem rapply_any (S : Option Addr) (n cap : Nat) (sg : List Sym) (p : Option Addr) (bcap : Nat) (bs : List Bn) (x : ByteArray × Int) (l : Fo) (a : Option Addr) (c : Nat) (w : World) (hS : SigAt w S n sg) (hB : BindsAt w p bs.length bs) (hn : bs.length ≤ 1048576) (hnd : ∀ b ∈ bs, nodesF b.2.2 ≤ 1048576) (hT : TmAt w x a c l) :
    Calls Tryz.prog 24 #[.slice S n cap, .slice p bs.length bcap, .agg #[.string x.1, .int .i64 x.2, .slice a (lenF l) c]] w (RApplyEnd sg bs x l w) := by
  obtain ⟨W0, hW0⟩ : ∃ W0, (w.alloc (.cells #[.string x.1, .int .i64 x.2, .slice a (lenF l) c] 26)).alloc (.cells #[.string ⟨#[]⟩, .int .i64 0, .slice none 0 0] 26) = W0 := ⟨_, rfl⟩
  have hb0 : Below w.heap.size w W0 := by rw [← hW0]; exact ((Below.refl _ w).alloc (Nat.le_refl _) _).alloc (by simp) _
  have b1 : XBox W0 w.heap.size x (.slice a (lenF l) c) := by rw [← hW0]; exact (Below.heap_alloc _ _ _ (by simp)).trans (World.alloc_heap_new w _)
  have b2 : XBox W0 (w.heap.size + 1) (⟨#[]⟩, 0) (.slice none 0 0) := by
    have := World.alloc_heap_new (w.alloc (.cells #[.string x.1, .int .i64 x.2, .slice a (lenF l) c] 26)) (.cells #[.string ⟨#[]⟩, .int .i64 0, .slice none 0 0] 26)
    rw [World.size_alloc] at this
    rw [← hW0]; exact this
  have hsz : W0.heap.size = w.heap.size + 2 := by rw [← hW0]; simp
  have hfi := grown_any bs hn hnd x l a c p bcap W0 (hT.below hb0) (hB.below hb0)
  have HS := hid hS; have HT := hid hT; have HB := hid hB
  have z0 := b1.c0; have z1 := b1.c1; have z2 := b1.c2
  clear hS hT hB
  by_cases hL : growN bs x l 400 < 0
  · rw [decide_eq_true hL] at hfi
    have HFI := hid hfi
    clear hfi
    go_enter Tryz.func24, Tryz.ntmps24
    go_wp2_with fail
    clear hW0
    refine HFI.out.mono ?_
    rintro e w1 ⟨rfl, hb1⟩
    have Y1 := b2.below hb1
    have HY1 := hid Y1
    have HL1 := hid (hb0.trans (hb1.mono hb0.size))
    have r0 := Y1.c0; have r1 := Y1.c1; have r2 := Y1.c2
    have g0 := Y1.f (k := 0); have g1 := Y1.f (k := 1); have g2 := Y1.f (k := 2)
    clear z0 z1 z2 Y1 hb1 HFI
    go_wp2_with fail
    refine bodyPost_ret (results_ct rfl rfl (load26 (HY1.out.all (x := (⟨#[]⟩, 0)) _))) rfl ?_
    exact ⟨sets_below HL1.out (by omega) _ _ _, .inl ⟨hL, rfl⟩⟩
  · rw [decide_eq_false hL] at hfi
    have HFI := hid hfi
    have hq : nodesF (pinN bs x l).2 ≤ 1048576 := by
      have := growN_eq bs x l 400 (by omega)
      omega
    clear hfi
    go_enter Tryz.func24, Tryz.ntmps24
    go_wp2_with fail
    clear hW0
    refine HFI.out.mono ?_
    rintro e w1 ⟨rfl, hb1⟩
    have X1 := b1.below hb1
    have x0 := X1.c0; have x1 := X1.c1; have x2 := X1.c2
    have HY1 := hid (b2.below hb1)
    have HL1 := hid (hb0.trans (hb1.mono hb0.size))
    have HPT := hid (pin_all bs hn (nodesF l) x l a c p bcap w1 (Nat.le_refl _) (HT.out.below HL1.out) (HB.out.below HL1.out))
    have hz1 : w.heap.size + 2 ≤ w1.heap.size := by have := hb1.size; omega
    clear z0 z1 z2 X1 hb1 HFI b1 b2
    obtain ⟨t, ht⟩ : ∃ t, pinN bs x l = t := ⟨_, rfl⟩
    rw [ht] at HPT hq
    have HT9 := hid ht
    clear ht
    go_wp2_with fail
    refine HPT.out.mono ?_
    rintro e w2 ⟨a', c', rfl, hT2, hb2⟩
    have bx := alloc_below0 w2 (.cells #[.string t.1.1, .int .i64 t.1.2, .slice a' (lenF t.2) c'] 26)
    have HL2 := hid ((HL1.out.trans (hb2.mono HL1.out.size)).trans (bx.mono (Nat.le_trans HL1.out.size hb2.size)))
    have HY2 := hid ((HY1.out.below hb2).below bx)
    have hz2 : w.heap.size + 2 ≤ (w2.alloc (.cells #[.string t.1.1, .int .i64 t.1.2, .slice a' (lenF t.2) c'] 26)).heap.size := Nat.le_trans hz1 (Nat.le_trans hb2.size bx.size)
    have HC := hid (canon_all S n cap sg 1048576 (Nat.le_refl _) t a' c' _ hq (HS.out.below HL2.out) ((hT2.own.tm).below bx))
    obtain ⟨r, hr⟩ : ∃ r, canonT (sgOf sg) t = r := ⟨_, rfl⟩
    rw [hr] at HC
    have HR := hid hr
    clear x0 x1 x2 hb2 hT2 HPT hr bx
    go_wp2_with fail
    refine HC.out.mono ?_
    rintro e w3 ⟨a3, c3, rfl, hO3, hb3⟩
    have Y3 := HY2.out.below hb3
    have HY3 := hid Y3
    have HL3 := hid (HL2.out.trans (hb3.mono HL2.out.size))
    have r0 := Y3.c0; have r1 := Y3.c1; have r2 := Y3.c2
    have g0 := Y3.f (k := 0); have g1 := Y3.f (k := 1); have g2 := Y3.f (k := 2)
    have HO3 := hid hO3
    clear Y3 hb3 hO3 HC
    go_wp2_with fail
    refine bodyPost_ret (results_ct rfl rfl (load26 (HY3.out.all (x := r.1) _))) rfl ?_
    refine ⟨sets_below HL3.out (by omega) _ _ _, .inr ⟨by omega, r, a3, c3, by rw [HT9.out, HR.out], rfl, ?_⟩⟩
    exact (HO3.out.keep (fun q hq _ => sets_far (by omega) _ _ _)).mono (fun q _ hq => by omega)
end Go.Proofs.YtfnfbljijkjkjaaGreat
/- Plain: of binds with unlike names, and of right terms, the program puts in what the document does. -/
namespace Go.Proofs.YtfnfbljijkjkjaaGreat
open Go.RowKit

theorem growF_nn (bs : List Bn) : ∀ (F : Fo) (r : Int), (nodesF (pinF bs F) : Int) ≤ r → 0 ≤ growF bs F r
  | .nil, r, h => by simpa [growF, pinF, nodesF] using h
  | .node _ _ x l s, r, h => by
    unfold pinF at h
    unfold growF
    by_cases hn : noName x.1 = true
    · rw [if_pos hn] at h
      simp only [nodesF] at h
      rw [if_neg (by omega), if_pos hn]
      have h1 := growF_nn bs l (r - 1) (by omega)
      have e1 := growF_eq bs l (r - 1) h1
      exact growF_nn bs s _ (by omega)
    · rw [if_neg hn] at h
      simp only [nodesF] at h
      rw [if_neg (by omega), if_neg hn, szB_eq]
      exact growF_nn bs s _ (by omega)
theorem growN_iff (bs : List Bn) (x : ByteArray × Int) (l : Fo) (r : Int) : 0 ≤ growN bs x l r ↔ ((nodesF (pinN bs x l).2 + 1 : Nat) : Int) ≤ r := by
  constructor
  · intro h
    have := growN_eq bs x l r h
    omega
  · intro h
    unfold pinN at h
    unfold growN
    by_cases hn : noName x.1 = true
    · rw [if_pos hn] at h ⊢
      exact growF_nn bs l _ (by simp only at h; omega)
    · rw [if_neg hn] at h ⊢
      rw [szB_eq]
      omega
theorem getN_right {S : Sg} {ar : Int → Nat} {bs : List Bn} (hb : ∀ b ∈ bs, RightT S ar b.2) {s : ByteArray} (hs : noName s = false) : RightT S ar (getN bs s) := by
  unfold getN
  cases h : getB bs s with
  | none =>
    refine ⟨?_, trivial⟩
    unfold nodeOk
    rw [if_pos hs]
    exact ⟨rfl, rfl⟩
  | some t =>
    unfold getB at h
    cases hf : bs.find? (fun b => decide (b.1 = s)) with
    | none => rw [hf] at h; cases h
    | some b =>
      rw [hf] at h
      have h1 : b.2 = t := Option.some.inj h
      have h2 := hb b (List.mem_of_find?_eq_some hf)
      rw [h1] at h2
      exact h2
theorem pinF_right {S : Sg} {ar : Int → Nat} {bs : List Bn} (hb : ∀ b ∈ bs, RightT S ar b.2) : ∀ F : Fo, RightF S ar F → RightF S ar (pinF bs F)
  | .nil, _ => trivial
  | .node B O x l r, h => by
    obtain ⟨⟨h1, h2⟩, h3⟩ := h
    unfold pinF
    by_cases hn : noName x.1 = true
    · rw [if_pos hn]
      exact ⟨⟨by rw [pinF_len]; exact h1, pinF_right hb l h2⟩, pinF_right hb r h3⟩
    · rw [if_neg hn]
      have := getN_right hb (s := x.1) (by simpa using hn)
      exact ⟨⟨this.1, this.2⟩, pinF_right hb r h3⟩
/-- What is put in right terms' places makes right terms. -/
theorem pinN_right {S : Sg} {ar : Int → Nat} {bs : List Bn} (hb : ∀ b ∈ bs, RightT S ar b.2) (x : ByteArray × Int) (l : Fo) (h : RightT S ar (x, l)) : RightT S ar (pinN bs x l) := by
  unfold pinN
  by_cases hn : noName x.1 = true
  · rw [if_pos hn]
    exact ⟨by show nodeOk S ar x (lenF (pinF bs l)); rw [pinF_len]; exact h.1, pinF_right hb l h.2⟩
  · rw [if_neg hn]
    exact getN_right hb (by simpa using hn)

end Go.Proofs.YtfnfbljijkjkjaaGreat
/- What left and fits of a table answer. -/
namespace Go.Proofs.YtfnfbljijkjkjaaGreat
open Go.RowKit Go.Deep

def left0F : Fo → Int → Int
  | .nil, r => r
  | .node _ _ _ l s, r => if r < 0 then r else left0F s (left0F l (r - 1))
theorem left0F_bd : ∀ (F : Fo) (r : Int), -1 ≤ r → -1 ≤ left0F F r ∧ left0F F r ≤ r
  | .nil, r, h => ⟨h, Int.le_refl _⟩
  | .node _ _ x l s, r, h => by
    unfold left0F
    split
    · omega
    · have h1 := left0F_bd l (r - 1) (by omega)
      have h2 := left0F_bd s (left0F l (r - 1)) h1.1
      omega
theorem left0F_neg (F : Fo) (r : Int) (h : r < 0) : left0F F r = r := by
  cases F with
  | nil => rfl
  | node => unfold left0F; rw [if_pos h]
theorem left0F_eq : ∀ (F : Fo) (r : Int), 0 ≤ left0F F r → left0F F r = r - nodesF F
  | .nil, r, _ => by simp [left0F, nodesF]
  | .node _ _ x l s, r, h => by
    unfold left0F at h ⊢
    by_cases hr : r < 0
    · rw [if_pos hr] at h; omega
    · rw [if_neg hr] at h ⊢
      have h1 : 0 ≤ left0F l (r - 1) := by
        rcases Int.lt_or_le (left0F l (r - 1)) 0 with h2 | h2
        · rw [left0F_neg s _ h2] at h; omega
        · exact h2
      have e1 := left0F_eq l (r - 1) h1
      have e2 := left0F_eq s _ h
      rw [e2, e1]
      simp only [nodesF]
      omega
theorem left0F_nn : ∀ (F : Fo) (r : Int), (nodesF F : Int) ≤ r → 0 ≤ left0F F r
  | .nil, r, h => by simpa [left0F, nodesF] using h
  | .node _ _ x l s, r, h => by
    simp only [nodesF] at h
    unfold left0F
    rw [if_neg (by omega)]
    have h1 := left0F_nn l (r - 1) (by omega)
    have e1 := left0F_eq l (r - 1) h1
    exact left0F_nn s _ (by omega)
end Go.Proofs.YtfnfbljijkjkjaaGreat
/- The document's Over. -/
namespace Go.Proofs.YtfnfbljijkjkjaaGreat
open Go.RowKit Go.Deep Go.Shelf

def OverOk (k : Nat) : Prop := ∀ (x : ByteArray × Int) (l : Fo) (a : Option Addr) (c : Nat) (room : Int) (w : World), nodesF l ≤ k → TmAt w x a c l → 0 ≤ room → room ≤ 1048576 →
  Calls Tryz.prog 64 #[.agg #[.string x.1, .int .i64 x.2, .slice a (lenF l) c], .int .i64 room] w fun e w' => e = .returned (.int .i64 (left0F l (room - 1))) ∧ Below w.heap.size w w'
set_option maxRecDepth 100000 in
set_option maxHeartbeats 2000000 in
theorem over_all : ∀ k, OverOk k := by
  intro k
  induction k using Nat.strongRecOn with
  | _ k ih =>
    intro x l a c room w hk hT hr0 hr4
    have HT := hid hT
    have IH : Hid (∀ j, j < k → OverOk j) := ih
    have O0 := hid (One.new w x a (lenF l) c)
    have hn0 := len_nodes l
    have hln : lenF l ≤ 2932031007402 := by have := hT.sizes.few; omega
    clear hT ih
    go_enter Tryz.func64, Tryz.ntmps64
    go_wp2_with fail
    generalize w.alloc (.cells #[.string x.1, .int .i64 x.2, .slice a (lenF l) c] 26) = V at O0 ⊢
    go_loopw [1, 5] (fun rv iv wr => ∃ (j : Nat) (r : Int), j ≤ lenF l ∧ rv = .int .i64 r ∧ iv = .int .i64 j ∧ -1 ≤ r ∧ r ≤ 1048576 ∧ One w x a (lenF l) c wr ∧ left0F (dropF j l) r = left0F l (room - 1)) (fun _ iv _ => lenF l - (intOf iv).toNat)
    case atStart => exact ⟨0, room - 1, Nat.zero_le _, rfl, rfl, by omega, by omega, O0.out, by rw [drop_zero]⟩
    case round =>
      obtain ⟨j, r, hj, rfl, rfl, hr1, hr2, hO, hm⟩ := hrel
      have HO := hid hO
      have t2 := hO.t.c2
      by_cases hlt : j < lenF l
      · obtain ⟨b1, o1, rfl, hk1⟩ := HT.out.args.get (by omega)
        obtain ⟨z, a1, c1, l1, kd⟩ := hk1.kid (k := j) hlt
        have kd' := kd.below hO.low
        obtain ⟨B1, O1', s1⟩ := kd.split
        rw [s1] at hm
        have p0 := kd'.name; have p1 := kd'.sym; have p2 := kd'.list
        by_cases hr : r < 0
        · rw [left0F_neg _ r hr] at hm
          clear kd kd' s1 hk1 hO
          go_wp2_with fail
          go_ret
          exact ⟨by rw [← hm] <;> rfl, HO.out.low⟩
        · have HC := hid (IH.out (nodesF l1) (by have := kd.less; omega) z l1 a1 c1 r wr (Nat.le_refl _) kd'.at_ (by omega) hr2)
          have hstep : left0F (dropF (j + 1) l) (left0F l1 (r - 1)) = left0F l (room - 1) := by
            rw [← hm]
            conv => rhs; unfold left0F
            rw [if_neg hr]
          have HS := hid hstep
          have hbd := left0F_bd l1 (r - 1) (by omega)
          clear kd kd' s1 hk1 hO hstep
          go_wp2_with fail
          refine HC.out.mono ?_
          rintro e w3 ⟨rfl, hb3⟩
          have HO4 := hid (HO.out.below hb3)
          clear hb3 p0 p1 p2 t2
          go_wp2_with fail
          go_roundw
          case rel => exact ⟨j + 1, left0F l1 (r - 1), by omega, rfl, by go_num, hbd.1, by omega, HO4.out, HS.out⟩
          case measure => simp [intOf]; omega
      · have e1 : j = lenF l := by omega
        rw [e1, drop_end] at hm
        have hm' : r = left0F l (room - 1) := hm
        go_wp2_with fail
        go_ret
        exact ⟨by rw [hm'] <;> rfl, HO.out.low⟩
/-- Over: are there more nodes than these? -/
theorem over_any (x : ByteArray × Int) (l : Fo) (a : Option Addr) (c : Nat) (most : Nat) (w : World) (hT : TmAt w x a c l) (hm : most ≤ 1048576) :
    Calls Tryz.prog 39 #[.agg #[.string x.1, .int .i64 x.2, .slice a (lenF l) c], .int .i64 most] w fun e w' => e = .returned (.bool (decide (most < nodesF l + 1))) ∧ Below w.heap.size w w' := by
  have O0 := hid (One.new w x a (lenF l) c)
  have b1 := alloc_below0 w (.cells #[.string x.1, .int .i64 x.2, .slice a (lenF l) c] 26)
  have HC := hid (over_all (nodesF l) x l a c most _ (Nat.le_refl _) (hT.below b1) (by omega) (by omega))
  have B1 := hid b1
  have t0 := O0.out.t.c0; have t1 := O0.out.t.c1; have t2 := O0.out.t.c2
  have hd : decide (left0F l ((most : Int) - 1) < 0) = decide (most < nodesF l + 1) := by
    by_cases h : 0 ≤ left0F l ((most : Int) - 1)
    · have := left0F_eq l _ h
      rw [decide_eq_false (by omega), decide_eq_false (by omega)]
    · rw [decide_eq_true (by omega), decide_eq_true]
      rcases Nat.lt_or_ge most (nodesF l + 1) with h1 | h1
      · exact h1
      · exact absurd (left0F_nn l ((most : Int) - 1) (by omega)) h
  have HD := hid hd
  clear hT b1 hd
  go_enter Tryz.func39, Tryz.ntmps39
  go_wp2_with fail
  refine HC.out.mono ?_
  rintro e w1 ⟨rfl, hb⟩
  have HL := hid (B1.out.trans (hb.mono B1.out.size))
  clear hb HC
  go_wp2_with fail
  go_ret
  exact ⟨by rw [← HD.out] <;> rfl, HL.out⟩
end Go.Proofs.YtfnfbljijkjkjaaGreat
