/- Texts laid together: SRApp, SSame, SOver, TSpoil, RExact, Name, RSym, RChk, RIs, SChk. -/
import Derived.Deep.DeepCutAuto
import Derived.BigQuiet
import Derived.Test.YtgidgmgpgfonnaaGreatM7
/- The document's Apply. -/
namespace Go.Proofs.YtgidgmgpgfonnaaGreat
open Go.RowKit Go.Deep Go.Shelf

theorem szB_eq (bs : List Bn) (s : ByteArray) : szB bs s = nodesF (getN bs s).2 + 1 := by
  unfold szB getN
  cases getB bs s <;> rfl
theorem growF_eq (bs : List Bn) : ∀ (F : Fo) (r : Int), 0 ≤ growF bs F r → growF bs F r = r - nodesF (pinF bs F)
  | .nil, r, _ => by simp [growF, pinF, nodesF]
  | .node _ _ x l s, r, h => by
    unfold growF at h ⊢
    unfold pinF
    by_cases hr : r < 0
    · rw [if_pos hr] at h; omega
    · rw [if_neg hr] at h ⊢
      by_cases hk : noName x.1 = true
      · rw [if_pos hk] at h ⊢
        rw [if_pos hk]
        have h1 : 0 ≤ growF bs l (r - 1) := by
          rcases Int.lt_or_le (growF bs l (r - 1)) 0 with h2 | h2
          · rw [growF_neg bs s _ h2] at h; omega
          · exact h2
        have e1 := growF_eq bs l (r - 1) h1
        have e2 := growF_eq bs s _ h
        rw [e2, e1]
        simp only [nodesF]
        omega
      · rw [if_neg hk] at h ⊢
        rw [if_neg hk]
        have e2 := growF_eq bs s _ h
        rw [e2, szB_eq]
        simp only [nodesF]
        omega
theorem growN_eq (bs : List Bn) (x : ByteArray × Int) (l : Fo) (r : Int) (h : 0 ≤ growN bs x l r) : growN bs x l r = r - (nodesF (pinN bs x l).2 + 1 : Nat) := by
  unfold growN at h ⊢
  unfold pinN
  by_cases hk : noName x.1 = true
  · rw [if_pos hk] at h ⊢
    rw [if_pos hk, growF_eq bs l _ h]
    simp only
    omega
  · rw [if_neg hk] at h ⊢
    rw [if_neg hk, szB_eq]
/-- What the document's Apply leaves. -/
def RApplyEnd (sg : List Sym) (bs : List Bn) (x : ByteArray × Int) (l : Fo) (w : World) (e : Ending) (w' : World) : Prop := Below w.heap.size w w' ∧
  ((growN bs x l 400 < 0 ∧ e = .returned (.tuple #[.agg #[.string ⟨#[]⟩, .int .i64 0, .slice none 0 0], .int .i64 73])) ∨
   (0 ≤ growN bs x l 400 ∧ ∃ (r : Tn) (a' : Option Addr) (c' : Nat), r = canonT (sgOf sg) (pinN bs x l) ∧ e = .returned (.tuple #[.agg #[.string r.1.1, .int .i64 r.1.2, .slice a' (lenF r.2) c'], .int .i64 0]) ∧ OwnTm false (fun q => w.heap.size ≤ q) w' r.1 a' c' r.2))
set_option maxRecDepth 100000 in
set_option maxHeartbeats 2000000 in
theorem rapply_any (S : Option Addr) (n cap : Nat) (sg : List Sym) (p : Option Addr) (bcap : Nat) (bs : List Bn) (x : ByteArray × Int) (l : Fo) (a : Option Addr) (c : Nat) (w : World) (hS : SigAt w S n sg) (hB : BindsAt w p bs.length bs) (hn : bs.length ≤ 1048576) (hnd : ∀ b ∈ bs, nodesF b.2.2 ≤ 1048576) (hT : TmAt w x a c l) :
    Calls Tryz.prog 33 #[.slice S n cap, .slice p bs.length bcap, .agg #[.string x.1, .int .i64 x.2, .slice a (lenF l) c]] w (RApplyEnd sg bs x l w) := by
  obtain ⟨W0, hW0⟩ : ∃ W0, (w.alloc (.cells #[.string x.1, .int .i64 x.2, .slice a (lenF l) c] 27)).alloc (.cells #[.string ⟨#[]⟩, .int .i64 0, .slice none 0 0] 27) = W0 := ⟨_, rfl⟩
  have hb0 : Below w.heap.size w W0 := by rw [← hW0]; exact ((Below.refl _ w).alloc (Nat.le_refl _) _).alloc (by simp) _
  have b1 : XBox W0 w.heap.size x (.slice a (lenF l) c) := by rw [← hW0]; exact (Below.heap_alloc _ _ _ (by simp)).trans (World.alloc_heap_new w _)
  have b2 : XBox W0 (w.heap.size + 1) (⟨#[]⟩, 0) (.slice none 0 0) := by
    have := World.alloc_heap_new (w.alloc (.cells #[.string x.1, .int .i64 x.2, .slice a (lenF l) c] 27)) (.cells #[.string ⟨#[]⟩, .int .i64 0, .slice none 0 0] 27)
    rw [World.size_alloc] at this
    rw [← hW0]; exact this
  have hsz : W0.heap.size = w.heap.size + 2 := by rw [← hW0]; simp
  have hfi := grown_any bs hn hnd x l a c p bcap W0 (hT.below hb0) (hB.below hb0)
  have HS := hid hS; have HT := hid hT; have HB := hid hB
  have z0 := b1.c0; have z1 := b1.c1; have z2 := b1.c2
  clear hS hT hB
  by_cases hL : growN bs x l 400 < 0
  · rw [decide_eq_true hL] at hfi
    have HFI := hid hfi
    clear hfi
    go_enter Tryz.func33, Tryz.ntmps33
    go_wp2_with fail
    clear hW0
    refine HFI.out.mono ?_
    rintro e w1 ⟨rfl, hb1⟩
    have Y1 := b2.below hb1
    have HY1 := hid Y1
    have HL1 := hid (hb0.trans (hb1.mono hb0.size))
    have r0 := Y1.c0; have r1 := Y1.c1; have r2 := Y1.c2
    have g0 := Y1.f (k := 0); have g1 := Y1.f (k := 1); have g2 := Y1.f (k := 2)
    clear z0 z1 z2 Y1 hb1 HFI
    go_wp2_with fail
    refine bodyPost_ret (results_ct rfl rfl (load27 (HY1.out.all (x := (⟨#[]⟩, 0)) _))) rfl ?_
    exact ⟨sets_below HL1.out (by omega) _ _ _, .inl ⟨hL, rfl⟩⟩
  · rw [decide_eq_false hL] at hfi
    have HFI := hid hfi
    have hq : nodesF (pinN bs x l).2 ≤ 1048576 := by
      have := growN_eq bs x l 400 (by omega)
      omega
    clear hfi
    go_enter Tryz.func33, Tryz.ntmps33
    go_wp2_with fail
    clear hW0
    refine HFI.out.mono ?_
    rintro e w1 ⟨rfl, hb1⟩
    have X1 := b1.below hb1
    have x0 := X1.c0; have x1 := X1.c1; have x2 := X1.c2
    have HY1 := hid (b2.below hb1)
    have HL1 := hid (hb0.trans (hb1.mono hb0.size))
    have HPT := hid (pin_all bs hn (nodesF l) x l a c p bcap w1 (Nat.le_refl _) (HT.out.below HL1.out) (HB.out.below HL1.out))
    have hz1 : w.heap.size + 2 ≤ w1.heap.size := by have := hb1.size; omega
    clear z0 z1 z2 X1 hb1 HFI b1 b2
    obtain ⟨t, ht⟩ : ∃ t, pinN bs x l = t := ⟨_, rfl⟩
    rw [ht] at HPT hq
    have HT9 := hid ht
    clear ht
    go_wp2_with fail
    refine HPT.out.mono ?_
    rintro e w2 ⟨a', c', rfl, hT2, hb2⟩
    have bx := alloc_below0 w2 (.cells #[.string t.1.1, .int .i64 t.1.2, .slice a' (lenF t.2) c'] 27)
    have HL2 := hid ((HL1.out.trans (hb2.mono HL1.out.size)).trans (bx.mono (Nat.le_trans HL1.out.size hb2.size)))
    have HY2 := hid ((HY1.out.below hb2).below bx)
    have hz2 : w.heap.size + 2 ≤ (w2.alloc (.cells #[.string t.1.1, .int .i64 t.1.2, .slice a' (lenF t.2) c'] 27)).heap.size := Nat.le_trans hz1 (Nat.le_trans hb2.size bx.size)
    have HC := hid (canon_all S n cap sg 1048576 (Nat.le_refl _) t a' c' _ hq (HS.out.below HL2.out) ((hT2.own.tm).below bx))
    obtain ⟨r, hr⟩ : ∃ r, canonT (sgOf sg) t = r := ⟨_, rfl⟩
    rw [hr] at HC
    have HR := hid hr
    clear x0 x1 x2 hb2 hT2 HPT hr bx
    go_wp2_with fail
    refine HC.out.mono ?_
    rintro e w3 ⟨a3, c3, rfl, hO3, hb3⟩
    have Y3 := HY2.out.below hb3
    have HY3 := hid Y3
    have HL3 := hid (HL2.out.trans (hb3.mono HL2.out.size))
    have r0 := Y3.c0; have r1 := Y3.c1; have r2 := Y3.c2
    have g0 := Y3.f (k := 0); have g1 := Y3.f (k := 1); have g2 := Y3.f (k := 2)
    have HO3 := hid hO3
    clear Y3 hb3 hO3 HC
    go_wp2_with fail
    refine bodyPost_ret (results_ct rfl rfl (load27 (HY3.out.all (x := r.1) _))) rfl ?_
    refine ⟨sets_below HL3.out (by omega) _ _ _, .inr ⟨by omega, r, a3, c3, by rw [HT9.out, HR.out], rfl, ?_⟩⟩
    exact (HO3.out.keep (fun q hq _ => sets_far (by omega) _ _ _)).mono (fun q _ hq => by omega)
end Go.Proofs.YtgidgmgpgfonnaaGreat
/- Plain: of binds with unlike names, and of right terms, the program puts in what the document does. -/
namespace Go.Proofs.YtgidgmgpgfonnaaGreat
open Go.RowKit

theorem getB_snoc (l : List Bn) (x : Bn) (s : ByteArray) : getB (l ++ [x]) s = match getB l s with | some t => some t | none => if x.1 = s then some x.2 else none := by
  unfold getB
  rw [List.find?_append]
  cases h : l.find? (fun b => decide (b.1 = s)) with
  | some b => rfl
  | none =>
    by_cases hx : x.1 = s
    · simp [hx]
    · simp [hx]
theorem getB_none {l : List Bn} {s : ByteArray} (h : ∀ b ∈ l, b.1 ≠ s) : getB l s = none := by
  unfold getB
  rw [List.find?_eq_none.2 (fun b hb => by simpa using h b hb)]
  rfl
theorem lk_get (s : ByteArray) : ∀ r : List Bn, (r.reverse.map (·.1)).Nodup → lkB r.reverse s = getB r.reverse s
  | [], _ => rfl
  | x :: r, h => by
    rw [List.reverse_cons] at h ⊢
    rw [List.map_append, List.nodup_append] at h
    rw [lkB_snoc, getB_snoc, ← lk_get s r h.1]
    by_cases hs : s = x.1
    · have hn : getB r.reverse s = none := getB_none fun b hb e => h.2.2 b.1 (List.mem_map.2 ⟨b, hb, rfl⟩) x.1 (by simp) (by rw [e, hs])
      rw [lk_get s r h.1, hn]
      simp [hs]
    · have hs' : ¬ x.1 = s := fun e => hs e.symm
      simp only [if_neg hs]
      cases lkB r.reverse s with
      | some t => rfl
      | none => simp only [if_neg hs']
theorem lk_get' {bs : List Bn} (h : (bs.map (·.1)).Nodup) (s : ByteArray) : lkB bs s = getB bs s := by
  have := lk_get s bs.reverse (by rw [List.reverse_reverse]; exact h)
  rwa [List.reverse_reverse] at this
/-- Of right terms both put in the same. -/
theorem put_pin {S : Sg} {ar : Int → Nat} {bs : List Bn} (hb : (bs.map (·.1)).Nodup) : ∀ F : Fo, RightF S ar F → putF (lkB bs) F = pinF bs F
  | .nil, _ => rfl
  | .node B O x l r, h => by
    obtain ⟨⟨h1, h2⟩, h3⟩ := h
    unfold putF pinF
    have i2 := put_pin hb l h2
    have i3 := put_pin hb r h3
    unfold lkN
    by_cases hn : noName x.1 = true
    · rw [if_pos hn, if_pos hn]
      simp only
      rw [i2, i3]
    · rw [if_neg hn, if_neg hn, lk_get' hb, i3, i2]
      unfold getN
      cases getB bs x.1 with
      | some t => rfl
      | none =>
        unfold nodeOk at h1
        rw [if_pos (by simpa using hn)] at h1
        have hl := len_nil h1.2
        subst hl
        have hx : x = (x.1, 0) := Prod.ext rfl h1.1
        simp only [pinF]
        rw [← hx]
theorem putN_pin {S : Sg} {ar : Int → Nat} {bs : List Bn} (hb : (bs.map (·.1)).Nodup) (x : ByteArray × Int) (l : Fo) (h : RightT S ar (x, l)) : putN (lkB bs) x l = pinN bs x l := by
  obtain ⟨h1, h2⟩ := h
  unfold putN pinN lkN
  by_cases hn : noName x.1 = true
  · rw [if_pos hn, if_pos hn]
    simp only
    rw [put_pin hb l h2]
  · rw [if_neg hn, if_neg hn, lk_get' hb]
    unfold getN
    cases getB bs x.1 with
    | some t => rfl
    | none =>
      unfold nodeOk at h1
      rw [if_pos (by simpa using hn)] at h1
      have hl := len_nil h1.2
      subst hl
      have hx : x = (x.1, 0) := Prod.ext rfl h1.1
      simp only [putF]
      rw [← hx]
theorem left0F_nn : ∀ (F : Fo) (r : Int), (nodesF F : Int) ≤ r → 0 ≤ left0F F r
  | .nil, r, h => by simpa [left0F, nodesF] using h
  | .node _ _ x l s, r, h => by
    simp only [nodesF] at h
    unfold left0F
    rw [if_neg (by omega)]
    have h1 := left0F_nn l (r - 1) (by omega)
    have e1 := left0F_eq l (r - 1) h1
    exact left0F_nn s _ (by omega)
theorem leftF_nn (lk : ByteArray → Option Tn) : ∀ (F : Fo) (r : Int), (nodesF (putF lk F) : Int) ≤ r → 0 ≤ leftF lk F r
  | .nil, r, h => by simpa [leftF, putF, nodesF] using h
  | .node _ _ x l s, r, h => by
    unfold putF at h
    unfold leftF
    cases hk : lkN lk x.1 with
    | none =>
      rw [hk] at h
      simp only [nodesF] at h
      rw [if_neg (by omega)]
      simp only
      have h1 := leftF_nn lk l (r - 1) (by omega)
      have e1 := leftF_eq lk l (r - 1) h1
      exact leftF_nn lk s _ (by omega)
    | some t =>
      rw [hk] at h
      simp only [nodesF] at h
      rw [if_neg (by omega)]
      simp only
      have h1 := left0F_nn t.2 (r - 1) (by omega)
      have e1 := left0F_eq t.2 (r - 1) h1
      exact leftF_nn lk s _ (by omega)
theorem leftN_iff (lk : ByteArray → Option Tn) (x : ByteArray × Int) (l : Fo) (r : Int) : 0 ≤ leftN lk x l r ↔ ((nodesF (putN lk x l).2 + 1 : Nat) : Int) ≤ r := by
  constructor
  · intro h
    have := leftN_eq lk x l r h
    omega
  · intro h
    unfold putN at h
    unfold leftN
    cases hk : lkN lk x.1 with
    | none => rw [hk] at h; exact leftF_nn lk l _ (by simp only at h; omega)
    | some t => rw [hk] at h; exact left0F_nn t.2 _ (by simp only at h; omega)
theorem growF_nn (bs : List Bn) : ∀ (F : Fo) (r : Int), (nodesF (pinF bs F) : Int) ≤ r → 0 ≤ growF bs F r
  | .nil, r, h => by simpa [growF, pinF, nodesF] using h
  | .node _ _ x l s, r, h => by
    unfold pinF at h
    unfold growF
    by_cases hn : noName x.1 = true
    · rw [if_pos hn] at h
      simp only [nodesF] at h
      rw [if_neg (by omega), if_pos hn]
      have h1 := growF_nn bs l (r - 1) (by omega)
      have e1 := growF_eq bs l (r - 1) h1
      exact growF_nn bs s _ (by omega)
    · rw [if_neg hn] at h
      simp only [nodesF] at h
      rw [if_neg (by omega), if_neg hn, szB_eq]
      exact growF_nn bs s _ (by omega)
theorem growN_iff (bs : List Bn) (x : ByteArray × Int) (l : Fo) (r : Int) : 0 ≤ growN bs x l r ↔ ((nodesF (pinN bs x l).2 + 1 : Nat) : Int) ≤ r := by
  constructor
  · intro h
    have := growN_eq bs x l r h
    omega
  · intro h
    unfold pinN at h
    unfold growN
    by_cases hn : noName x.1 = true
    · rw [if_pos hn] at h ⊢
      exact growF_nn bs l _ (by simp only at h; omega)
    · rw [if_neg hn] at h ⊢
      rw [szB_eq]
      omega
/-- The program's Apply and the document's, of a right term by unlike names: too great just if the other one is, and the same canonical form. -/
theorem fits_alike {S : Sg} {ar : Int → Nat} {bs : List Bn} (hb : (bs.map (·.1)).Nodup) (x : ByteArray × Int) (l : Fo) (h : RightT S ar (x, l)) (r : Int) : 0 ≤ leftN (lkB bs) x l r ↔ 0 ≤ growN bs x l r := by
  rw [leftN_iff, growN_iff, putN_pin hb x l h]
theorem getN_right {S : Sg} {ar : Int → Nat} {bs : List Bn} (hb : ∀ b ∈ bs, RightT S ar b.2) {s : ByteArray} (hs : noName s = false) : RightT S ar (getN bs s) := by
  unfold getN
  cases h : getB bs s with
  | none =>
    refine ⟨?_, trivial⟩
    unfold nodeOk
    rw [if_pos hs]
    exact ⟨rfl, rfl⟩
  | some t =>
    unfold getB at h
    cases hf : bs.find? (fun b => decide (b.1 = s)) with
    | none => rw [hf] at h; cases h
    | some b =>
      rw [hf] at h
      have h1 : b.2 = t := Option.some.inj h
      have h2 := hb b (List.mem_of_find?_eq_some hf)
      rw [h1] at h2
      exact h2
theorem pinF_right {S : Sg} {ar : Int → Nat} {bs : List Bn} (hb : ∀ b ∈ bs, RightT S ar b.2) : ∀ F : Fo, RightF S ar F → RightF S ar (pinF bs F)
  | .nil, _ => trivial
  | .node B O x l r, h => by
    obtain ⟨⟨h1, h2⟩, h3⟩ := h
    unfold pinF
    by_cases hn : noName x.1 = true
    · rw [if_pos hn]
      exact ⟨⟨by rw [pinF_len]; exact h1, pinF_right hb l h2⟩, pinF_right hb r h3⟩
    · rw [if_neg hn]
      have := getN_right hb (s := x.1) (by simpa using hn)
      exact ⟨⟨this.1, this.2⟩, pinF_right hb r h3⟩
/-- What is put in right terms' places makes right terms. -/
theorem pinN_right {S : Sg} {ar : Int → Nat} {bs : List Bn} (hb : ∀ b ∈ bs, RightT S ar b.2) (x : ByteArray × Int) (l : Fo) (h : RightT S ar (x, l)) : RightT S ar (pinN bs x l) := by
  unfold pinN
  by_cases hn : noName x.1 = true
  · rw [if_pos hn]
    exact ⟨by show nodeOk S ar x (lenF (pinF bs l)); rw [pinF_len]; exact h.1, pinF_right hb l h.2⟩
  · rw [if_neg hn]
    exact getN_right hb (by simpa using hn)
end Go.Proofs.YtgidgmgpgfonnaaGreat
/- The document's Over. -/
namespace Go.Proofs.YtgidgmgpgfonnaaGreat
open Go.RowKit Go.Deep Go.Shelf

def OverOk (k : Nat) : Prop := ∀ (x : ByteArray × Int) (l : Fo) (a : Option Addr) (c : Nat) (room : Int) (w : World), nodesF l ≤ k → TmAt w x a c l → 0 ≤ room → room ≤ 1048576 →
  Calls Tryz.prog 47 #[.agg #[.string x.1, .int .i64 x.2, .slice a (lenF l) c], .int .i64 room] w fun e w' => e = .returned (.int .i64 (left0F l (room - 1))) ∧ Below w.heap.size w w'
set_option maxRecDepth 100000 in
set_option maxHeartbeats 2000000 in
theorem over_all : ∀ k, OverOk k := by
  intro k
  induction k using Nat.strongRecOn with
  | _ k ih =>
    intro x l a c room w hk hT hr0 hr4
    have HT := hid hT
    have IH : Hid (∀ j, j < k → OverOk j) := ih
    have O0 := hid (One.new w x a (lenF l) c)
    have hn0 := len_nodes l
    have hln : lenF l ≤ 2932031007402 := by have := hT.sizes.few; omega
    clear hT ih
    go_enter Tryz.func47, Tryz.ntmps47
    go_wp2_with fail
    generalize w.alloc (.cells #[.string x.1, .int .i64 x.2, .slice a (lenF l) c] 27) = V at O0 ⊢
    go_loopw [1, 5] (fun rv iv wr => ∃ (j : Nat) (r : Int), j ≤ lenF l ∧ rv = .int .i64 r ∧ iv = .int .i64 j ∧ -1 ≤ r ∧ r ≤ 1048576 ∧ One w x a (lenF l) c wr ∧ left0F (dropF j l) r = left0F l (room - 1)) (fun _ iv _ => lenF l - (intOf iv).toNat)
    case atStart => exact ⟨0, room - 1, Nat.zero_le _, rfl, rfl, by omega, by omega, O0.out, by rw [drop_zero]⟩
    case round =>
      obtain ⟨j, r, hj, rfl, rfl, hr1, hr2, hO, hm⟩ := hrel
      have HO := hid hO
      have t2 := hO.t.c2
      by_cases hlt : j < lenF l
      · obtain ⟨b1, o1, rfl, hk1⟩ := HT.out.args.get (by omega)
        obtain ⟨z, a1, c1, l1, kd⟩ := hk1.kid (k := j) hlt
        have kd' := kd.below hO.low
        obtain ⟨B1, O1', s1⟩ := kd.split
        rw [s1] at hm
        have p0 := kd'.name; have p1 := kd'.sym; have p2 := kd'.list
        by_cases hr : r < 0
        · rw [left0F_neg _ r hr] at hm
          clear kd kd' s1 hk1 hO
          go_wp2_with fail
          go_ret
          exact ⟨by rw [← hm] <;> rfl, HO.out.low⟩
        · have HC := hid (IH.out (nodesF l1) (by have := kd.less; omega) z l1 a1 c1 r wr (Nat.le_refl _) kd'.at_ (by omega) hr2)
          have hstep : left0F (dropF (j + 1) l) (left0F l1 (r - 1)) = left0F l (room - 1) := by
            rw [← hm]
            conv => rhs; unfold left0F
            rw [if_neg hr]
          have HS := hid hstep
          have hbd := left0F_bd l1 (r - 1) (by omega)
          clear kd kd' s1 hk1 hO hstep
          go_wp2_with fail
          refine HC.out.mono ?_
          rintro e w3 ⟨rfl, hb3⟩
          have HO4 := hid (HO.out.below hb3)
          clear hb3 p0 p1 p2 t2
          go_wp2_with fail
          go_roundw
          case rel => exact ⟨j + 1, left0F l1 (r - 1), by omega, rfl, by go_num, hbd.1, by omega, HO4.out, HS.out⟩
          case measure => simp [intOf]; omega
      · have e1 : j = lenF l := by omega
        rw [e1, drop_end] at hm
        have hm' : r = left0F l (room - 1) := hm
        go_wp2_with fail
        go_ret
        exact ⟨by rw [hm'] <;> rfl, HO.out.low⟩
/-- Over: are there more nodes than these? -/
theorem over_any (x : ByteArray × Int) (l : Fo) (a : Option Addr) (c : Nat) (most : Nat) (w : World) (hT : TmAt w x a c l) (hm : most ≤ 1048576) :
    Calls Tryz.prog 23 #[.agg #[.string x.1, .int .i64 x.2, .slice a (lenF l) c], .int .i64 most] w fun e w' => e = .returned (.bool (decide (most < nodesF l + 1))) ∧ Below w.heap.size w w' := by
  have O0 := hid (One.new w x a (lenF l) c)
  have b1 := alloc_below0 w (.cells #[.string x.1, .int .i64 x.2, .slice a (lenF l) c] 27)
  have HC := hid (over_all (nodesF l) x l a c most _ (Nat.le_refl _) (hT.below b1) (by omega) (by omega))
  have B1 := hid b1
  have t0 := O0.out.t.c0; have t1 := O0.out.t.c1; have t2 := O0.out.t.c2
  have hd : decide (left0F l ((most : Int) - 1) < 0) = decide (most < nodesF l + 1) := by
    by_cases h : 0 ≤ left0F l ((most : Int) - 1)
    · have := left0F_eq l _ h
      rw [decide_eq_false (by omega), decide_eq_false (by omega)]
    · rw [decide_eq_true (by omega), decide_eq_true]
      rcases Nat.lt_or_ge most (nodesF l + 1) with h1 | h1
      · exact h1
      · exact absurd (left0F_nn l ((most : Int) - 1) (by omega)) h
  have HD := hid hd
  clear hT b1 hd
  go_enter Tryz.func23, Tryz.ntmps23
  go_wp2_with fail
  refine HC.out.mono ?_
  rintro e w1 ⟨rfl, hb⟩
  have HL := hid (B1.out.trans (hb.mono B1.out.size))
  clear hb HC
  go_wp2_with fail
  go_ret
  exact ⟨by rw [← HD.out] <;> rfl, HL.out⟩
end Go.Proofs.YtgidgmgpgfonnaaGreat
/- What Spoil turns: the lists of the term it is handed, nothing else; what Exact answers of two that are alike. -/
namespace Go.Proofs.YtgidgmgpgfonnaaGreat
open Go.RowKit Go.Deep

/-- Nothing that there was has turned but blocks of A. -/
structure Fr (A : Nat → Prop) (w w' : World) : Prop where
  low : Below 0 w w'
  same : ∀ k, k < w.heap.size → ¬ A k → w'.heap[k]? = w.heap[k]?
theorem Fr.refl (A : Nat → Prop) (w : World) : Fr A w w := ⟨Below.refl _ _, fun _ _ _ => rfl⟩
theorem Fr.trans {A : Nat → Prop} {x y z : World} (h : Fr A x y) (k : Fr A y z) : Fr A x z := ⟨h.low.trans k.low, fun q hq hA => (k.same q (Nat.lt_of_lt_of_le hq h.low.size) hA).trans (h.same q hq hA)⟩
theorem Fr.mono {A A' : Nat → Prop} {x y : World} (hA : ∀ k, A k → A' k) (h : Fr A x y) : Fr A' x y := ⟨h.low, fun q hq hn => h.same q hq (fun h' => hn (hA q h'))⟩
theorem Fr.of_below {A : Nat → Prop} {x y : World} (h : Below x.heap.size x y) : Fr A x y := ⟨h.mono (Nat.zero_le _), fun q hq _ => h.block q hq⟩
theorem Fr.below {A : Nat → Prop} {x y : World} {n : Nat} (h : Fr A x y) (hn : ∀ k, A k → n ≤ k) (hs : n ≤ x.heap.size) : Below n x y := ⟨h.low.os, h.low.tape, h.low.output, h.low.size, fun k hk => h.same k (by omega) (fun hA => by have := hn k hA; omega)⟩
theorem Fr.sets {A : Nat → Prop} {W : World} {g : Nat} (hg : A g) (i j k : Nat) (a b c : Value) : Fr A W (((W.setCell ⟨g, i, none⟩ a).setCell ⟨g, j, none⟩ b).setCell ⟨g, k, none⟩ c) :=
  ⟨(((Below.refl 0 W).setCell (p := ⟨g, i, none⟩) (Nat.zero_le _) _).setCell (p := ⟨g, j, none⟩) (Nat.zero_le _) _).setCell (p := ⟨g, k, none⟩) (Nat.zero_le _) _, fun q _ hn => by
    have : q ≠ g := fun e => hn (e ▸ hg)
    rw [Below.heap_setCell _ _ _ q this, Below.heap_setCell _ _ _ q this, Below.heap_setCell _ _ _ q this]⟩
/-- Three cells of a row are turned; those behind them are not. -/
theorem sets_behind {W : World} {g i n : Nat} {a b c : Value} {v : Value} (hi : n + 3 ≤ i) (h : W.cell? ⟨g, i, none⟩ = some v) : (((W.setCell ⟨g, n, none⟩ a).setCell ⟨g, n + 1, none⟩ b).setCell ⟨g, n + 2, none⟩ c).cell? ⟨g, i, none⟩ = some v := by
  rw [World.cell?_setCell_other _ _ _ _ (fun e => by cases e; omega), World.cell?_setCell_other _ _ _ _ (fun e => by cases e; omega), World.cell?_setCell_other _ _ _ _ (fun e => by cases e; omega)]
  exact h
theorem row_frozen {W : World} {g i : Nat} {cur : Array Value} {t : TypeId} (h : W.heap[g]? = some (Obj.cells cur t (0, 0))) : W.frozen? ⟨g, i, none⟩ = false := by simp [World.frozen?, h]

def SpoilOk (k : Nat) : Prop := ∀ (A : Nat → Prop) (x : ByteArray × Int) (l : Fo) (a : Option Addr) (c : Nat) (w : World), nodesF l ≤ k → SepTm w A x a c l →
  Calls Tryz.prog 38 #[.agg #[.string x.1, .int .i64 x.2, .slice a (lenF l) c]] w fun e w' => (∃ v, e = .returned v) ∧ Fr A w w'

set_option maxRecDepth 100000 in
set_option maxHeartbeats 2000000 in
theorem spoil_all : ∀ k, SpoilOk k := by
  intro k
  induction k using Nat.strongRecOn with
  | _ k ih =>
    intro A' x l a c w hk hS'
    have hn : lenF l ≤ 9223372036854775807 := by have := hS'.sizes.len; have := hS'.sizes.cap; unfold maxLen at *; omega
    obtain ⟨A, hA⟩ : ∃ A, A = fun k => A' k ∧ k < w.heap.size := ⟨_, rfl⟩
    have hS : SepTm w A x a c l := by rw [hA]; exact hS'.within
    have HA : Hid (∀ k, A k → A' k ∧ k < w.heap.size) := by show ∀ _, _; rw [hA]; exact fun k hk => hk
    clear hS' hA
    have IH : Hid (∀ j, j < k → SpoilOk j) := ih
    have hb0 : Below w.heap.size w (w.alloc (.cells #[.string x.1, .int .i64 x.2, .slice a (lenF l) c] 27)) := (Below.refl _ w).alloc (Nat.le_refl _) _
    have bT := TBox.new w x a (lenF l) c
    clear ih
    rcases hS.list with hl | ⟨g, cur, rfl, hAg, hcur, hsk⟩
    · subst hl
      go_enter Tryz.func38, Tryz.ntmps38
      go_wp2
      go_loopw [2] (fun i wr => i = .int .i64 0 ∧ Below w.heap.size w wr ∧ TBox wr w.heap.size x a (lenF .nil) c) (fun _ _ => 0)
      case atStart => exact ⟨rfl, hb0, bT⟩
      case round =>
        obtain ⟨rfl, hb, hT⟩ := hrel
        have t2 := hT.c2
        simp only [lenF] at t2
        go_wp2
        go_end0
        exact ⟨⟨_, rfl⟩, Fr.of_below hb⟩
    · have hS0 : SepKids (w.alloc (.cells #[.string x.1, .int .i64 x.2, .slice (some ⟨g, 0, none⟩) (lenF l) c] 27)) l (fun k => A k ∧ k ≠ g) g 0 := hsk.keep (fun q _ hlt => hb0.block q hlt) (fun i v _ hv => below_cell hb0 _ _ hv)
      have hg0 : (w.alloc (.cells #[.string x.1, .int .i64 x.2, .slice (some ⟨g, 0, none⟩) (lenF l) c] 27)).heap[g]? = some (Obj.cells cur 27 (0, 0)) := (hb0.block g (HA.out g hAg).2).trans hcur
      have F0 : Hid (Fr A w (w.alloc (.cells #[.string x.1, .int .i64 x.2, .slice (some ⟨g, 0, none⟩) (lenF l) c] 27))) := Fr.of_below hb0
      clear hS hsk hcur hb0
      go_enter Tryz.func38, Tryz.ntmps38
      go_wp2
      go_loopw [2] (fun i wr => ∃ (j : Nat) (B : Nat → Prop) (cur : Array Value), j ≤ lenF l ∧ i = .int .i64 j ∧ (∀ k, B k → A k ∧ k ≠ g) ∧ Fr A w wr ∧ TBox wr w.heap.size x (some ⟨g, 0, none⟩) (lenF l) c ∧ wr.heap[g]? = some (Obj.cells cur 27 (0, 0)) ∧ SepKids wr (dropF j l) B g (j * 3)) (fun i _ => lenF l - (intOf i).toNat)
      case atStart => exact ⟨0, _, cur, Nat.zero_le _, rfl, fun k hk => hk, F0.out, bT, hg0, by rw [drop_zero]; simpa using hS0⟩
      case round =>
        obtain ⟨j, B, cur', hj, rfl, hBA, hF, hT, hG, hK⟩ := hrel
        have t2 := hT.c2
        by_cases hlt : j < lenF l
        · obtain ⟨b1, o1, y, l1, r1, hd⟩ := drop_node j l hlt
          have hnd := nodes_drop j l
          have hds := drop_succ j l hd
          rw [hd] at hK hnd
          obtain ⟨A1, A2, hA1, hA2, ⟨a1, c1, p0, p1, p2, hsz, hl1⟩, hrest⟩ := hK
          have hC := IH.out (nodesF l1) (by simp only [nodesF] at hnd; omega) A1 y l1 a1 c1 wr (Nat.le_refl _) ⟨hsz, hl1⟩
          have HF : Hid (Fr A w wr) := hF
          have HT : Hid (TBox wr w.heap.size x (some ⟨g, 0, none⟩) (lenF l) c) := hT
          have HG : Hid (wr.heap[g]? = some (Obj.cells cur' 27 (0, 0))) := hG
          have HR : Hid (SepKids wr r1 A2 g (j * 3 + 3)) := hrest
          clear hF hT hG hrest hsz hl1 hS0 hg0 bT hd hnd
          go_wp2_with fail
          refine hC.mono ?_
          rintro e w2 ⟨⟨v, rfl⟩, hf2⟩
          have hgA1 : ¬ A1 g := fun h => (hBA g (hA1 g h)).2 rfl
          have hG2 : w2.heap[g]? = some (Obj.cells cur' 27 (0, 0)) := (hf2.same g (Array.getElem?_eq_some_iff.1 HG.out).1 hgA1).trans HG.out
          have hT2 : TBox w2 w.heap.size x (some ⟨g, 0, none⟩) (lenF l) c := (hf2.same _ HT.out.lt (fun h => by have := (HA.out _ (hBA _ (hA1 _ h)).1).2; omega)).trans HT.out
          have z2 := hT2.c2
          have q0 : w2.cell? ⟨g, j * 3, none⟩ = some (.string y.1) := (World.cell?_of_block (hG2.trans HG.out.symm)).trans p0
          have q1 : w2.cell? ⟨g, j * 3 + 1, none⟩ = some (.int .i64 y.2) := (World.cell?_of_block (hG2.trans HG.out.symm)).trans p1
          have q2 : w2.cell? ⟨g, j * 3 + 2, none⟩ = some (.slice a1 (lenF l1) c1) := (World.cell?_of_block (hG2.trans HG.out.symm)).trans p2
          have f0 := row_frozen (i := j * 3) hG2
          have f1 := row_frozen (i := j * 3 + 1) hG2
          have f2 := row_frozen (i := j * 3 + 2) hG2
          have HF2 : Hid (Fr A1 wr w2) := hf2
          have HG2 : Hid (w2.heap[g]? = some (Obj.cells cur' 27 (0, 0))) := hG2
          have HT2 : Hid (TBox w2 w.heap.size x (some ⟨g, 0, none⟩) (lenF l) c) := hT2
          clear hC hf2 hG2 hT2 p0 p1 p2 t2
          go_wp2
          go_roundw
          case rel =>
            refine ⟨j + 1, A2, _, by omega, by go_num, fun q hq => hBA q (hA2 q hq).1, (HF.out.trans (HF2.out.mono (fun q hq => (hBA q (hA1 q hq)).1))).trans (Fr.sets hAg _ _ _ _ _ _), ?_, block_set (block_set (block_set HG2.out _) _) _, ?_⟩
            · have : w.heap.size ≠ g := by have := (HA.out g hAg).2; omega
              exact (((Below.heap_setCell _ _ _ _ this).trans (Below.heap_setCell _ _ _ _ this)).trans (Below.heap_setCell _ _ _ _ this)).trans HT2.out
            · rw [hds, show (j + 1) * 3 = j * 3 + 3 by omega]
              refine (HR.out.keep (w' := w2) (fun q hq hlt' => HF2.out.same q hlt' (hA2 q hq).2) (fun i v _ hv => (World.cell?_of_block (HG2.out.trans HG.out.symm)).trans hv)).keep (fun q hq _ => ?_) (fun i v hi hv => sets_behind hi hv)
              have : q ≠ g := (hBA q (hA2 q hq).1).2
              exact ((Below.heap_setCell _ _ _ _ this).trans (Below.heap_setCell _ _ _ _ this)).trans (Below.heap_setCell _ _ _ _ this)
          case measure => simp [intOf]; omega
        · go_wp2
          go_end0
          exact ⟨⟨_, rfl⟩, hF.mono (fun q hq => (HA.out q hq).1)⟩
theorem spoil_any (A : Nat → Prop) (x : ByteArray × Int) (l : Fo) (a : Option Addr) (c : Nat) (w : World) (hS : SepTm w A x a c l) :
    Calls Tryz.prog 38 #[.agg #[.string x.1, .int .i64 x.2, .slice a (lenF l) c]] w fun e w' => (∃ v, e = .returned v) ∧ Fr A w w' := spoil_all _ A x l a c w (Nat.le_refl _) hS

def ExactOk (k : Nat) : Prop := ∀ (x : ByteArray × Int) (l : Fo) (a b : Option Addr) (c d : Nat) (w : World), nodesF l ≤ k → TmAt w x a c l → TmAt w x b d l →
  Calls Tryz.prog 50 #[.agg #[.string x.1, .int .i64 x.2, .slice a (lenF l) c], .agg #[.string x.1, .int .i64 x.2, .slice b (lenF l) d]] w fun e w' => e = .returned (.bool true) ∧ Below w.heap.size w w'

set_option maxRecDepth 100000 in
set_option maxHeartbeats 2000000 in
theorem exact_all : ∀ k, ExactOk k := by
  intro k
  induction k using Nat.strongRecOn with
  | _ k ih =>
    intro x l a b c d w hk hS hT
    have HS : Hid (TmAt w x a c l) := hS
    have HT : Hid (TmAt w x b d l) := hT
    have IH : Hid (∀ j, j < k → ExactOk j) := ih
    have PA : Hid (Pair w x a (lenF l) c x b (lenF l) d ((w.alloc (.cells #[.string x.1, .int .i64 x.2, .slice a (lenF l) c] 27)).alloc (.cells #[.string x.1, .int .i64 x.2, .slice b (lenF l) d] 27))) := Pair.new _ _ _ _ _ _ _ _ _
    have hn : lenF l ≤ 9223372036854775807 := by have := hS.sizes.len; have := hS.sizes.cap; unfold maxLen at *; omega
    clear hS hT ih
    go_enter Tryz.func50, Tryz.ntmps50
    go_wp2
    go_loopw [5, 6] (fun i _ wr => ∃ j : Nat, j ≤ lenF l ∧ i = .int .i64 j ∧ Pair w x a (lenF l) c x b (lenF l) d wr) (fun i _ _ => lenF l - (intOf i).toNat)
    case atStart => exact ⟨0, Nat.zero_le _, rfl, PA.out⟩
    case round =>
      obtain ⟨j, hj, rfl, hP⟩ := hrel
      have t2 := hP.l.c2
      by_cases hlt : j < lenF l
      · obtain ⟨b1, o1, rfl, hk1⟩ := HS.out.args.get (by omega)
        obtain ⟨bb, oo, rfl, hkk⟩ := HT.out.args.get (by omega)
        obtain ⟨y, a1, c1, l1, kd⟩ := hk1.kid (k := j) hlt
        obtain ⟨y', a2, c2, l2, kd2⟩ := hkk.kid (k := j) hlt
        obtain ⟨rfl, rfl⟩ := kid_same kd kd2
        have kd' := kd.below hP.low
        have kd2' := kd2.below hP.low
        have HP : Hid (Pair w x (some ⟨b1, o1, none⟩) (lenF l) c x (some ⟨bb, oo, none⟩) (lenF l) d wr) := hP
        have hC : Hid (∀ w', Below wr.heap.size wr w' → Calls Tryz.prog 50 #[.agg #[.string y'.1, .int .i64 y'.2, .slice a1 (lenF l2) c1], .agg #[.string y'.1, .int .i64 y'.2, .slice a2 (lenF l2) c2]] w' fun e w'' => e = .returned (.bool true) ∧ Below w'.heap.size w' w'') := fun w' hb =>
          IH.out (nodesF l2) (by have := kd.less; omega) y' l2 a1 a2 c1 c2 w' (Nat.le_refl _) (kd'.at_.below hb) (kd2'.at_.below hb)
        have hne := later_some wr
        have d0 := later_cell hP.l.c2
        have d1 := later_cell hP.r.c2
        have p0 := later_cell kd'.name; have p1 := later_cell kd'.sym; have p2 := later_cell kd'.list
        have q0 := later_cell kd2'.name; have q1 := later_cell kd2'.sym; have q2 := later_cell kd2'.list
        have hk0 : (0 : Int) ≤ (j : Int) := by omega
        have hkn : (j : Int) < (lenF l : Int) := by omega
        clear kd kd2 kd' kd2' hk1 hkk hP
        go_wp2_with fail
        refine wp_region_later (by kernel_rfl) (by kernel_rfl) ?_
        repeat (go_big_quiet_step ((refine calls_later (hC.out _ ?_); exact Later.below _)))
        refine wpQuiet_nil ?_
        intro _ hw'
        obtain ⟨b2, hw''⟩ := hw'
        subst hw''
        have HP2 : Hid (Pair w x (some ⟨b1, o1, none⟩) (lenF l) c x (some ⟨bb, oo, none⟩) (lenF l) d b2.now) := HP.out.below b2.below
        clear d0 d1 p0 p1 p2 q0 q1 q2 t2
        go_wp2
        go_roundw
        case rel => exact ⟨j + 1, by omega, by go_num, HP2.out⟩
        case measure => simp [intOf]; omega
      · go_wp2
        go_ret
        exact ⟨rfl, hP.low⟩
theorem exact_any (x : ByteArray × Int) (l : Fo) (a b : Option Addr) (c d : Nat) (w : World) (hS : TmAt w x a c l) (hT : TmAt w x b d l) :
    Calls Tryz.prog 50 #[.agg #[.string x.1, .int .i64 x.2, .slice a (lenF l) c], .agg #[.string x.1, .int .i64 x.2, .slice b (lenF l) d]] w fun e w' => e = .returned (.bool true) ∧ Below w.heap.size w w' := exact_all _ x l a b c d w (Nat.le_refl _) hS hT
end Go.Proofs.YtgidgmgpgfonnaaGreat
/- What the document's Exact answers of any two terms. -/
namespace Go.Proofs.YtgidgmgpgfonnaaGreat
open Go.RowKit Go.Deep

/-- Alike in every field. -/
def exF : Fo → Fo → Bool
  | .nil, _ => true
  | .node _ _ _ _ _, .nil => true
  | .node _ _ x l r, .node _ _ y m s => ((x.1.toList == y.1.toList) && (x.2 == y.2) && (lenF l == lenF m) && exF l m) && exF r s
def exN (x y : ByteArray × Int) (l m : Fo) : Bool := (x.1.toList == y.1.toList) && (x.2 == y.2) && (lenF l == lenF m) && exF l m
def RExactOk (k : Nat) : Prop := ∀ (x y : ByteArray × Int) (l m : Fo) (a b : Option Addr) (c d : Nat) (w : World), nodesF l ≤ k → TmAt w x a c l → TmAt w y b d m →
  Calls Tryz.prog 50 #[.agg #[.string x.1, .int .i64 x.2, .slice a (lenF l) c], .agg #[.string y.1, .int .i64 y.2, .slice b (lenF m) d]] w fun e w' => e = .returned (.bool (exN x y l m)) ∧ Below w.heap.size w w'

set_option maxRecDepth 100000 in
set_option maxHeartbeats 2000000 in
theorem rexact_all : ∀ k, RExactOk k := by
  intro k
  induction k using Nat.strongRecOn with
  | _ k ih =>
    intro x y l m a b c d w hk hS hT
    have HS : Hid (TmAt w x a c l) := hS
    have HT : Hid (TmAt w y b d m) := hT
    have IH : Hid (∀ j, j < k → RExactOk j) := ih
    have PA : Hid (Pair w x a (lenF l) c y b (lenF m) d ((w.alloc (.cells #[.string x.1, .int .i64 x.2, .slice a (lenF l) c] 27)).alloc (.cells #[.string y.1, .int .i64 y.2, .slice b (lenF m) d] 27))) := Pair.new _ _ _ _ _ _ _ _ _
    have hn : lenF l ≤ 9223372036854775807 := by have := hS.sizes.len; have := hS.sizes.cap; unfold maxLen at *; omega
    have hn2 : lenF m ≤ 9223372036854775807 := by have := hT.sizes.len; have := hT.sizes.cap; unfold maxLen at *; omega
    clear hS hT ih
    obtain ⟨xn, xs⟩ := x
    obtain ⟨yn, ys⟩ := y
    cases h1 : (xn.toList == yn.toList)
    · have e : Hid (exN (xn, xs) (yn, ys) l m = false) := by show _ = _; unfold exN; rw [h1]; rfl
      have hd : ¬ (xn.toList = yn.toList) := by simpa using h1
      go_enter Tryz.func50, Tryz.ntmps50
      go_wp2
      go_ret
      exact ⟨by rw [e.out]; rfl, PA.out.low⟩
    · cases h2 : (xs == ys)
      · have e : Hid (exN (xn, xs) (yn, ys) l m = false) := by show _ = _; unfold exN; rw [h1, h2]; rfl
        have h2' : (xs != ys) = true := by simpa using h2
        go_enter Tryz.func50, Tryz.ntmps50
        go_wp2
        go_ret
        exact ⟨by rw [e.out]; rfl, PA.out.low⟩
      · obtain rfl : xs = ys := by simpa using h2
        cases h3 : (lenF l == lenF m)
        · have e : Hid (exN (xn, xs) (yn, xs) l m = false) := by show _ = _; unfold exN; rw [h3]; simp
          have h3' : ((lenF l : Int) != (lenF m : Int)) = true := by simp at h3 ⊢; omega
          clear h2 h3
          go_enter Tryz.func50, Tryz.ntmps50
          go_wp2
          go_ret
          exact ⟨by rw [e.out]; rfl, PA.out.low⟩
        · have e : Hid (exN (xn, xs) (yn, xs) l m = exF l m) := by show _ = _; unfold exN; rw [h1, h2, h3]; rfl
          have h3' : lenF m = lenF l := by simp at h3; omega
          have HLen : Hid (lenF m = lenF l) := h3'
          rw [h3'] at PA
          dsimp only
          rw [h3']
          clear h2 h3 h3' hn2
          go_enter Tryz.func50, Tryz.ntmps50
          go_wp2
          go_loopw [5, 6] (fun i _ wr => ∃ j : Nat, j ≤ lenF l ∧ i = .int .i64 j ∧ Pair w (xn, xs) a (lenF l) c (yn, xs) b (lenF l) d wr ∧ exF (dropF j l) (dropF j m) = exF l m) (fun i _ _ => lenF l - (intOf i).toNat)
          case atStart => exact ⟨0, Nat.zero_le _, rfl, PA.out, by rw [drop_zero, drop_zero]⟩
          case round =>
            obtain ⟨j, hj, rfl, hP, hex⟩ := hrel
            have HX : Hid (exF (dropF j l) (dropF j m) = exF l m) := hex
            clear hex
            have t2 := hP.l.c2
            by_cases hlt : j < lenF l
            · obtain ⟨b1, o1, rfl, hk1⟩ := HS.out.args.get (by omega)
              obtain ⟨bb, oo, rfl, hkk⟩ := HT.out.args.get (by have := HLen.out; omega)
              obtain ⟨z, a1, c1, l1, kd⟩ := hk1.kid (k := j) hlt
              obtain ⟨z', a2, c2, l2, kd2⟩ := hkk.kid (k := j) (by have := HLen.out; omega)
              have kd' := kd.below hP.low
              have kd2' := kd2.below hP.low
              have HP : Hid (Pair w (xn, xs) (some ⟨b1, o1, none⟩) (lenF l) c (yn, xs) (some ⟨bb, oo, none⟩) (lenF l) d wr) := hP
              have HX2 : Hid (exF l m = (exN z z' l1 l2 && exF (dropF (j + 1) l) (dropF (j + 1) m))) := by
                obtain ⟨B1, O1, s1⟩ := kd.split
                obtain ⟨B2, O2, s2⟩ := kd2.split
                show _ = _
                rw [← HX.out, s1, s2]
                rfl
              obtain ⟨ev, hev⟩ : ∃ ev, exN z z' l1 l2 = ev := ⟨_, rfl⟩
              have hC : Hid (∀ w', Below wr.heap.size wr w' → Calls Tryz.prog 50 #[.agg #[.string z.1, .int .i64 z.2, .slice a1 (lenF l1) c1], .agg #[.string z'.1, .int .i64 z'.2, .slice a2 (lenF l2) c2]] w' fun e w'' => e = .returned (.bool ev) ∧ Below w'.heap.size w' w'') := fun w' hb => by
                have := IH.out (nodesF l1) (by have := kd.less; omega) z z' l1 l2 a1 a2 c1 c2 w' (Nat.le_refl _) (kd'.at_.below hb) (kd2'.at_.below hb)
                rw [hev] at this
                exact this
              rw [hev] at HX2
              have hne := later_some wr
              have d0 := later_cell hP.l.c2
              have d1 := later_cell hP.r.c2
              have p0 := later_cell kd'.name; have p1 := later_cell kd'.sym; have p2 := later_cell kd'.list
              have q0 := later_cell kd2'.name; have q1 := later_cell kd2'.sym; have q2 := later_cell kd2'.list
              have hk0 : (0 : Int) ≤ (j : Int) := by omega
              have hkn : (j : Int) < (lenF l : Int) := by omega
              clear kd kd2 kd' kd2' hk1 hkk hP hev
              go_wp2_with fail
              refine wp_region_later (by kernel_rfl) (by kernel_rfl) ?_
              repeat (go_big_quiet_step ((refine calls_later (hC.out _ ?_); exact Later.below _)))
              refine wpQuiet_nil ?_
              intro _ hw'
              obtain ⟨b2, hw''⟩ := hw'
              subst hw''
              have HP2 : Hid (Pair w (xn, xs) (some ⟨b1, o1, none⟩) (lenF l) c (yn, xs) (some ⟨bb, oo, none⟩) (lenF l) d b2.now) := HP.out.below b2.below
              clear d0 d1 p0 p1 p2 q0 q1 q2 t2
              cases ev with
              | true =>
                go_wp2
                go_roundw
                case rel => exact ⟨j + 1, by omega, by go_num, HP2.out, by rw [HX2.out]; simp⟩
                case measure => simp [intOf]; omega
              | false =>
                go_wp2
                go_ret
                exact ⟨by rw [e.out, HX2.out]; rfl, HP2.out.low⟩
            · obtain rfl : j = lenF l := by omega
              have hX3 : Hid (exF l m = true) := by show _ = _; rw [← HX.out, drop_end]; rfl
              go_wp2
              go_ret
              exact ⟨by rw [e.out, hX3.out]; rfl, hP.low⟩
set_option maxRecDepth 100000 in
theorem rexact_any (x y : Tn) (a b : Option Addr) (c d : Nat) (w : World) (hS : TmAt w x.1 a c x.2) (hT : TmAt w y.1 b d y.2) :
    Calls Tryz.prog 50 #[.agg #[.string x.1.1, .int .i64 x.1.2, .slice a (lenF x.2) c], .agg #[.string y.1.1, .int .i64 y.1.2, .slice b (lenF y.2) d]] w fun e w' => e = .returned (.bool (exN x.1 y.1 x.2 y.2)) ∧ Below w.heap.size w w' :=
  rexact_all _ x.1 y.1 x.2 y.2 a b c d w (Nat.le_refl _) hS hT
end Go.Proofs.YtgidgmgpgfonnaaGreat
/- What Name and Var of package sig, and the document's, answer of any text. -/
namespace Go.Proofs.YtgidgmgpgfonnaaGreat
open Go.RowKit

set_option maxHeartbeats 400000 in
theorem rname_any (s : ByteArray) (w : World) (hs : s.size ≤ maxLen) : Calls Tryz.prog 68 #[.string s] w fun e w' => e = .returned (.bool (nameB s)) ∧ w' = w := by
  unfold maxLen at hs
  by_cases h0 : (s.size : Int) < 1
  · go_enter Tryz.func68, Tryz.ntmps68
    go_wp2
    go_ret
    exact ⟨by simp [nameB, fitsB]; omega, rfl⟩
  · by_cases h1 : 12 < (s.size : Int)
    · go_enter Tryz.func68, Tryz.ntmps68
      go_wp2
      go_ret
      exact ⟨by simp [nameB, fitsB]; omega, rfl⟩
    · have hp : 0 < s.size := by omega
      have hfit : Hid (fitsB s = true) := by show fitsB s = true; simp [fitsB]; omega
      cases hl : lowZ ((s[0]'hp).toNat : Int)
      · have hbad : Hid (nameB s = false) := by
          show nameB s = false
          unfold nameB
          rw [hfit.out, allB_false hp (by rw [bt_of hp]; simp [okName, hl])]; rfl
        go_enter Tryz.func68, Tryz.ntmps68
        go_wp2_with (go_at_call 46; refine (rlow_any _ _).mono ?_; rintro e w' ⟨rfl, rfl⟩)
        go_ret
        exact ⟨by rw [hbad.out]; rfl, rfl⟩
      · have h01 : Hid (allB okName s 1 = true) := by
          show allB okName s 1 = true
          rw [allB_succ, allB_zero, bt_of hp]; simp [okName, hl]
        go_enter Tryz.func68, Tryz.ntmps68
        go_wp2_with (go_at_call 46; refine (rlow_any _ _).mono ?_; rintro e w' ⟨rfl, rfl⟩)
        go_loop [3] (fun i => ∃ k : Nat, 1 ≤ k ∧ k ≤ s.size ∧ i = .int .i64 k ∧ allB okName s k = true) (fun i => s.size - (intOf i).toNat)
        case atStart => exact ⟨1, Nat.le_refl _, hp, rfl, h01.out⟩
        case round =>
          obtain ⟨k, hk1, hk, rfl, hall⟩ := hrel
          have HA : Hid (allB okName s k = true) := hall
          clear hall
          by_cases hlt : k < s.size
          · have hst : Hid (∀ b, okName k ((s[k]'hlt).toNat : Int) = b → allB okName s (k + 1) = b) := by
              intro b hb; rw [allB_succ, HA.out, bt_of hlt, hb]; rfl
            have hbad : Hid (okName k ((s[k]'hlt).toNat : Int) = false → nameB s = false) := by
              intro hb; unfold nameB; rw [allB_false hlt (by rw [bt_of hlt]; exact hb)]; simp
            cases hlk : lowZ ((s[k]'hlt).toNat : Int)
            · cases hdk : digZ ((s[k]'hlt).toNat : Int)
              · go_wp2_with (first | (go_at_call 46; refine (rlow_any _ _).mono ?_; rintro e w' ⟨rfl, rfl⟩) | (go_at_call 44; refine (rdigit_any _ _).mono ?_; rintro e w' ⟨rfl, rfl⟩))
                go_ret
                exact ⟨by rw [hbad.out (by simp [okName, hlk, hdk])]; rfl, rfl⟩
              · go_wp2_with (first | (go_at_call 46; refine (rlow_any _ _).mono ?_; rintro e w' ⟨rfl, rfl⟩) | (go_at_call 44; refine (rdigit_any _ _).mono ?_; rintro e w' ⟨rfl, rfl⟩))
                go_round
                case rel => exact ⟨k + 1, by omega, by omega, by go_num, hst.out _ (by simp [okName, hdk]; omega)⟩
                case measure => simp [intOf]; omega
            · go_wp2_with (first | (go_at_call 46; refine (rlow_any _ _).mono ?_; rintro e w' ⟨rfl, rfl⟩) | (go_at_call 44; refine (rdigit_any _ _).mono ?_; rintro e w' ⟨rfl, rfl⟩))
              go_round
              case rel => exact ⟨k + 1, by omega, by omega, by go_num, hst.out _ (by simp [okName, hlk])⟩
              case measure => simp [intOf]; omega
          · have hke : s.size = k := by omega
            have hgood : Hid (nameB s = true) := by show nameB s = true; unfold nameB; rw [hfit.out, hke, HA.out]; rfl
            clear hke
            go_wp2
            go_ret
            exact ⟨by rw [hgood.out]; rfl, rfl⟩

end Go.Proofs.YtgidgmgpgfonnaaGreat
/- What the document's symbol and Check answer. -/
namespace Go.Proofs.YtgidgmgpgfonnaaGreat
open Go.RowKit

theorem box_facts {w w1 : World} {x : Sym} (hb : Below (w.heap.size + 1) (w.alloc (.cells #[.string x.name, .int .i64 x.kind, .int .i64 x.arity, .string x.unit] 69)) w1) :
    w1.cell? ⟨w.heap.size, 0, none⟩ = some (.string x.name) ∧ w1.cell? ⟨w.heap.size, 1, none⟩ = some (.int .i64 x.kind) ∧ w1.cell? ⟨w.heap.size, 2, none⟩ = some (.int .i64 x.arity) ∧ w1.cell? ⟨w.heap.size, 3, none⟩ = some (.string x.unit) ∧ w.heap.size < w1.heap.size ∧ Below w.heap.size w w1 := by
  refine ⟨?_, ?_, ?_, ?_, ?_, ?_⟩
  · rw [hb.cell (p := ⟨w.heap.size, 0, none⟩) (by simp)]; simp [go_sem]
  · rw [hb.cell (p := ⟨w.heap.size, 1, none⟩) (by simp)]; simp [go_sem]
  · rw [hb.cell (p := ⟨w.heap.size, 2, none⟩) (by simp)]; simp [go_sem]
  · rw [hb.cell (p := ⟨w.heap.size, 3, none⟩) (by simp)]; simp [go_sem]
  · have := hb.size; simp at this; omega
  · exact ((Below.refl _ _).alloc (Nat.le_refl _) _).trans (hb.mono (by omega))
def freshB (l : List Sym) (nm : ByteArray) : Bool := l.all fun y => !sameB y.name nm
theorem fresh_find (l : List Sym) (nm : ByteArray) : findB l nm = !freshB l nm := by
  unfold findB findL freshB
  rw [List.findIdx?_isSome]
  induction l with
  | nil => rfl
  | cons y l ih => simp only [List.any_cons, List.all_cons, ih]; cases sameB y.name nm <;> simp
theorem fresh_succ {l : List Sym} {k : Nat} (hk : k < l.length) (nm : ByteArray) : freshB (l.take (k + 1)) nm = (freshB (l.take k) nm && !sameB l[k].name nm) := by
  unfold freshB
  rw [List.take_succ_eq_append_getElem hk, List.all_append]
  simp
def okB (l : List Sym) (x : Sym) (k : Nat) : Bool := nameB x.name && freshB (l.take k) x.name
theorem okB_zero (l : List Sym) (x : Sym) : okB l x 0 = nameB x.name := by simp [okB, freshB]
theorem okB_succ {l : List Sym} {k : Nat} (hk : k < l.length) (x : Sym) : okB l x (k + 1) = (okB l x k && !sameB l[k].name x.name) := by
  unfold okB; rw [fresh_succ hk, Bool.and_assoc]
theorem okB_err {l : List Sym} {x : Sym} {k : Nat} (h : okB l x k = false) : symErr (l.take k) x = 11 := by
  unfold symErr
  rw [if_pos]
  unfold okB at h
  rw [fresh_find]
  cases h1 : nameB x.name
  · exact Or.inr rfl
  · rw [h1] at h; simp at h; left; simp [h]
theorem okB_ok {l : List Sym} {x : Sym} {k : Nat} (h : okB l x k = true) : ¬ (findB (l.take k) x.name = true ∨ nameB x.name = false) := by
  unfold okB at h
  rw [fresh_find]
  simp at h
  simp [h.1, h.2]
theorem err12 {l : List Sym} {x : Sym} (h : ¬ (findB l x.name = true ∨ nameB x.name = false)) (hk : kindB x = false) : symErr l x = 12 := by
  unfold symErr; rw [if_neg h, if_pos hk]
theorem err13 {l : List Sym} {x : Sym} (h : ¬ (findB l x.name = true ∨ nameB x.name = false)) (hk : kindB x = true) (ha : arityB x = false) : symErr l x = 13 := by
  unfold symErr; rw [if_neg h, if_neg (by simp [hk]), if_pos ha]
theorem err14 {l : List Sym} {x : Sym} (h : ¬ (findB l x.name = true ∨ nameB x.name = false)) (hk : kindB x = true) (ha : arityB x = true) : symErr l x = if unitB l x = false then 14 else 0 := by
  unfold symErr; rw [if_neg h, if_neg (by simp [hk]), if_neg (by simp [ha])]

set_option maxHeartbeats 1000000 in
theorem rsymbol_any (a : Option Addr) (n cap : Nat) (l : List Sym) (i : Nat) (hi : i < l.length) (w : World) (h : SigAt w a n l) :
    Calls Tryz.prog 43 #[.slice a n cap, .int .i64 i] w fun e w' => e = .returned (.int .i64 (symErr (l.take i) l[i])) ∧ Below w.heap.size w w' := by
  have HS : Hid (SigAt w a n l) := h
  have hm := h.small
  have hin : (i : Int) < n := by have := h.len; omega
  have hi0 : (0 : Int) ≤ i := by omega
  unfold maxLen at hm
  clear h
  obtain ⟨b, off, rfl, hsym⟩ := HS.out.cells i hi
  have hfx : Hid (l[i].Fits) := HS.out.fits _ (List.getElem_mem hi)
  have c0 := hsym.name
  have c1 := hsym.kind
  have c2 := hsym.arity
  have c3 := hsym.unit
  clear hsym
  go_enter Tryz.func43, Tryz.ntmps43
  go_wp2_with (go_at_call 68; refine (rname_any _ _ hfx.out.name).mono ?_; rintro e w1 hh; obtain ⟨rfl, hw⟩ := hh; rw [hw]; clear hw w1)
  clear c0 c1 c2 c3
  generalize hx : l[i] = x at *
  have HX : Hid (l[i] = x) := hx
  clear hx
  go_loopw [6, 7] (fun ok k w' => ∃ j : Nat, j ≤ i ∧ k = .int .i64 j ∧ ok = .bool (okB l x j) ∧ Below (w.heap.size + 1) (w.alloc (.cells #[.string x.name, .int .i64 x.kind, .int .i64 x.arity, .string x.unit] 69)) w') (fun _ k _ => i - (intOf k).toNat)
  case atStart => exact ⟨0, Nat.zero_le _, rfl, by rw [okB_zero], (Below.refl _ _)⟩
  case round =>
    obtain ⟨j, hj, rfl, rfl, hb⟩ := hrel
    have HB : Hid (Below (w.heap.size + 1) (w.alloc (.cells #[.string x.name, .int .i64 x.kind, .int .i64 x.arity, .string x.unit] 69)) wr) := hb
    obtain ⟨x0, x1, x2, x3, hz, hbw⟩ := box_facts hb
    have HW : Hid (Below w.heap.size w wr) := hbw
    by_cases hlt : (j : Int) < i
    · have hlj : j < l.length := by omega
      obtain ⟨b', off', hbo, hsj⟩ := HS.out.cells j hlj
      simp only [Option.some.injEq, Addr.mk.injEq, and_true] at hbo
      obtain ⟨rfl, rfl⟩ := hbo
      have s0 := (hsj.below hbw).name
      clear hsj hb hbw
      have hj0 : (0 : Int) ≤ (j : Int) := by omega
      have hjn : (j : Int) < (n : Int) := by omega
      have hne := later_some wr
      have d0 := later_cell s0
      have d1 := later_cell x0
      have hok := okB_succ hlj x
      have HO : Hid (okB l x (j + 1) = (okB l x j && !sameB l[j].name x.name)) := hok
      clear hok
      cases ho : okB l x j
      · go_wp2
        refine wp_region_later (by kernel_rfl) (by kernel_rfl) ?_
        repeat (go_big_quiet_step (fail))
        refine wpQuiet_nil ?_
        intro _ hw'
        obtain ⟨b2, hw''⟩ := hw'
        subst hw''
        clear d0 d1 x0 x1 x2 x3 s0
        go_wp2
        go_roundw
        case rel => exact ⟨j + 1, by omega, by go_num, by rw [HO.out, ho]; rfl, HB.out.trans (b2.below.mono (by omega))⟩
        case measure => simp [intOf]; omega
      · go_wp2
        refine wp_region_later (by kernel_rfl) (by kernel_rfl) ?_
        repeat (go_big_quiet_step (fail))
        refine wpQuiet_nil ?_
        intro _ hw'
        obtain ⟨b2, hw''⟩ := hw'
        subst hw''
        clear d0 d1 x0 x1 x2 x3 s0
        go_wp2
        go_roundw
        case rel => exact ⟨j + 1, by omega, by go_num, by rw [HO.out, ho]; rfl, HB.out.trans (b2.below.mono (by omega))⟩
        case measure => simp [intOf]; omega
    · have hji : Hid (j = i) := by show j = i; omega
      clear hb hbw
      cases ho : okB l x j
      · have hf : Hid (symErr (l.take i) x = 11) := okB_err (by rw [← hji.out]; exact ho)
        go_wp2
        go_ret
        exact ⟨by rw [HX.out, hf.out]; rfl, HW.out⟩
      · have hgood : Hid (¬ (findB (l.take i) x.name = true ∨ nameB x.name = false)) := okB_ok (by rw [← hji.out]; exact ho)
        by_cases k1 : x.kind = 1
        · have K1 : Hid (x.kind = 1) := k1
          have e1 : (x.kind != 1) = false := by simp [k1]
          have e2 : (x.kind == 1) = true := by simp [k1]
          have e3 : (x.kind != 3) = true := by simp [k1]
          have hkb : Hid (kindB x = true) := by show _ = _; simp [kindB, k1]
          have hkn3 : Hid (x.kind ≠ 3) := by show _ ≠ _; omega
          clear k1
          by_cases r0 : x.arity < 0
          · have hf : Hid (symErr (l.take i) x = 13) := err13 hgood.out hkb.out (by simp [arityB, K1.out]; omega)
            go_wp2
            go_ret
            exact ⟨by rw [HX.out, hf.out]; rfl, HW.out⟩
          · by_cases r4 : 4 < x.arity
            · have hf : Hid (symErr (l.take i) x = 13) := err13 hgood.out hkb.out (by simp [arityB, K1.out]; omega)
              go_wp2
              go_ret
              exact ⟨by rw [HX.out, hf.out]; rfl, HW.out⟩
            · have har : Hid (arityB x = true) := by show _ = _; simp [arityB, K1.out]; omega
              cases hu : x.unit.toList.isEmpty
              · have hf : Hid (symErr (l.take i) x = 14) := by
                  show _ = _
                  rw [err14 hgood.out hkb.out har.out, if_pos (by simp [unitB, hkn3.out, emptyB, hu])]
                go_wp2
                go_ret
                exact ⟨by rw [HX.out, hf.out]; rfl, HW.out⟩
              · have hf : Hid (symErr (l.take i) x = 0) := by
                  show _ = _
                  rw [err14 hgood.out hkb.out har.out, if_neg (by simp [unitB, hkn3.out, emptyB, hu])]
                go_wp2
                go_ret
                exact ⟨by rw [HX.out, hf.out]; rfl, HW.out⟩
        · have e1 : (x.kind != 1) = true := by simp [k1]
          have e2 : (x.kind == 1) = false := by simp [k1]
          by_cases k2 : x.kind = 2
          · have e4 : (x.kind != 2) = false := by simp [k2]
            have e3 : (x.kind != 3) = true := by simp [k2]
            have hkb : Hid (kindB x = true) := by show _ = _; simp [kindB, k2]
            have hkn3 : Hid (x.kind ≠ 3) := by show _ ≠ _; omega
            have hkn1 : Hid (x.kind ≠ 1) := k1
            clear k1 k2
            cases r2 : (x.arity != 2)
            · have har : Hid (arityB x = true) := by show _ = _; simp [arityB, hkn1.out]; simpa using r2
              cases hu : x.unit.toList.isEmpty
              · have hf : Hid (symErr (l.take i) x = 14) := by
                  show _ = _
                  rw [err14 hgood.out hkb.out har.out, if_pos (by simp [unitB, hkn3.out, emptyB, hu])]
                go_wp2
                go_ret
                exact ⟨by rw [HX.out, hf.out]; rfl, HW.out⟩
              · have hf : Hid (symErr (l.take i) x = 0) := by
                  show _ = _
                  rw [err14 hgood.out hkb.out har.out, if_neg (by simp [unitB, hkn3.out, emptyB, hu])]
                go_wp2
                go_ret
                exact ⟨by rw [HX.out, hf.out]; rfl, HW.out⟩
            · have hf : Hid (symErr (l.take i) x = 13) := err13 hgood.out hkb.out (by simp [arityB, hkn1.out]; simpa using r2)
              go_wp2
              go_ret
              exact ⟨by rw [HX.out, hf.out]; rfl, HW.out⟩
          · have e4 : (x.kind != 2) = true := by simp [k2]
            by_cases k3 : x.kind = 3
            · have e3 : (x.kind != 3) = false := by simp [k3]
              have hkb : Hid (kindB x = true) := by show _ = _; simp [kindB, k3]
              have hkn1 : Hid (x.kind ≠ 1) := k1
              have K3 : Hid (x.kind = 3) := k3
              clear k1 k2 k3
              cases r2 : (x.arity != 2)
              · have har : Hid (arityB x = true) := by show _ = _; simp [arityB, hkn1.out]; simpa using r2
                go_wp2
                have HB0 : Hid (Below (w.heap.size + 1) (w.alloc (.cells #[.string x.name, .int .i64 x.kind, .int .i64 x.arity, .string x.unit] 69)) wr) := HB.out
                clear x0 x1 x2 x3 hz ho hlt
                go_loopw [8] (fun k w' => ∃ j : Nat, j ≤ i ∧ k = .int .i64 j ∧ (∀ m (hm : m < l.length), m < j → isUnit x l[m] = false) ∧ Below (w.heap.size + 1) (w.alloc (.cells #[.string x.name, .int .i64 x.kind, .int .i64 x.arity, .string x.unit] 69)) w') (fun k _ => i - (intOf k).toNat)
                case atStart => exact ⟨0, Nat.zero_le _, rfl, fun m _ h => absurd h (by omega), HB0.out⟩
                case round =>
                  rename_i wq
                  obtain ⟨j2, hj2, rfl, hno, hb⟩ := hrel
                  have HN : Hid (∀ m (hm : m < l.length), m < j2 → isUnit x l[m] = false) := hno
                  have HB2 : Hid (Below (w.heap.size + 1) (w.alloc (.cells #[.string x.name, .int .i64 x.kind, .int .i64 x.arity, .string x.unit] 69)) wr) := hb
                  obtain ⟨x0, x1, x2, x3, hz, hbw⟩ := box_facts hb
                  have HW2 : Hid (Below w.heap.size w wr) := hbw
                  clear hno
                  by_cases hlt2 : (j2 : Int) < i
                  · have hlj : j2 < l.length := by omega
                    obtain ⟨b', off', hbo, hsj⟩ := HS.out.cells j2 hlj
                    simp only [Option.some.injEq, Addr.mk.injEq, and_true] at hbo
                    obtain ⟨rfl, rfl⟩ := hbo
                    have s0 := (hsj.below hbw).name
                    have s1 := (hsj.below hbw).kind
                    have s2 := (hsj.below hbw).arity
                    clear hsj hb hbw
                    have hj0 : (0 : Int) ≤ (j2 : Int) := by omega
                    have hjn : (j2 : Int) < (n : Int) := by omega
                    have hne := later_some wr
                    have d0 := later_cell s0
                    have d1 := later_cell s1
                    have d2 := later_cell s2
                    have d3 := later_cell x3
                    cases t1 : (l[j2].kind == 1)
                    · have hu : Hid (isUnit x l[j2] = false) := by show _ = _; simp at t1; simp [isUnit, t1]
                      go_wp2
                      refine wp_region_later (by kernel_rfl) (by kernel_rfl) ?_
                      repeat (go_big_quiet_step (fail))
                      refine wpQuiet_nil ?_
                      intro _ hw'
                      obtain ⟨b2, hw''⟩ := hw'
                      subst hw''
                      clear d0 d1 d2 d3 x0 x1 x2 x3 s0 s1 s2
                      go_wp2
                      go_roundw
                      case rel => exact ⟨j2 + 1, by omega, by go_num, fun m hm h => by
                        rcases Nat.lt_succ_iff_lt_or_eq.1 h with h | rfl
                        · exact HN.out m hm h
                        · exact hu.out, HB2.out.trans (b2.below.mono (by omega))⟩
                      case measure => simp [intOf]; omega
                    · cases t2 : (l[j2].arity == 0)
                      · have hu : Hid (isUnit x l[j2] = false) := by show _ = _; simp at t2; simp [isUnit, t2]
                        go_wp2
                        refine wp_region_later (by kernel_rfl) (by kernel_rfl) ?_
                        repeat (go_big_quiet_step (fail))
                        refine wpQuiet_nil ?_
                        intro _ hw'
                        obtain ⟨b2, hw''⟩ := hw'
                        subst hw''
                        clear d0 d1 d2 d3 x0 x1 x2 x3 s0 s1 s2
                        go_wp2
                        go_roundw
                        case rel => exact ⟨j2 + 1, by omega, by go_num, fun m hm h => by
                          rcases Nat.lt_succ_iff_lt_or_eq.1 h with h | rfl
                          · exact HN.out m hm h
                          · exact hu.out, HB2.out.trans (b2.below.mono (by omega))⟩
                        case measure => simp [intOf]; omega
                      · cases t3 : (l[j2].name.toList == x.unit.toList)
                        · have hu : Hid (isUnit x l[j2] = false) := by show _ = _; simp [isUnit, sameB, t3]
                          go_wp2
                          refine wp_region_later (by kernel_rfl) (by kernel_rfl) ?_
                          repeat (go_big_quiet_step (fail))
                          refine wpQuiet_nil ?_
                          intro _ hw'
                          obtain ⟨b2, hw''⟩ := hw'
                          subst hw''
                          clear d0 d1 d2 d3 x0 x1 x2 x3 s0 s1 s2
                          go_wp2
                          go_roundw
                          case rel => exact ⟨j2 + 1, by omega, by go_num, fun m hm h => by
                            rcases Nat.lt_succ_iff_lt_or_eq.1 h with h | rfl
                            · exact HN.out m hm h
                            · exact hu.out, HB2.out.trans (b2.below.mono (by omega))⟩
                          case measure => simp [intOf]; omega
                        · have hu : Hid (isUnit x l[j2] = true) := by show _ = _; simp at t1 t2; simp [isUnit, sameB, t1, t2, t3]
                          have hf : Hid (symErr (l.take i) x = 0) := by
                            show _ = _
                            rw [err14 hgood.out hkb.out har.out, if_neg]
                            rw [Bool.not_eq_false]
                            unfold unitB
                            rw [if_pos K3.out, List.any_eq_true]
                            exact ⟨l[j2], by rw [List.mem_take_iff_getElem]; exact ⟨j2, by omega, rfl⟩, hu.out⟩
                          go_wp2
                          refine wp_region_later (by kernel_rfl) (by kernel_rfl) ?_
                          repeat (go_big_quiet_step (fail))
                          refine wpQuiet_nil ?_
                          intro _ hw'
                          obtain ⟨b2, hw''⟩ := hw'
                          subst hw''
                          clear d0 d1 d2 d3 x0 x1 x2 x3 s0 s1 s2
                          go_wp2
                          go_ret
                          exact ⟨by rw [HX.out, hf.out]; rfl, HW2.out.trans (b2.below.mono HW2.out.size)⟩
                  · have hf : Hid (symErr (l.take i) x = 14) := by
                      show _ = _
                      rw [err14 hgood.out hkb.out har.out, if_pos]
                      unfold unitB
                      rw [if_pos K3.out, List.any_eq_false]
                      intro y hy
                      obtain ⟨m, hm1, rfl⟩ := List.getElem_of_mem hy
                      have hm2 : m < i := by simp at hm1; omega
                      have := HN.out m (by omega) (by omega)
                      simp [this]
                    clear hb hbw
                    go_wp2
                    go_ret
                    exact ⟨by rw [HX.out, hf.out]; rfl, HW2.out⟩
              · have hf : Hid (symErr (l.take i) x = 13) := err13 hgood.out hkb.out (by simp [arityB, hkn1.out]; simpa using r2)
                go_wp2
                go_ret
                exact ⟨by rw [HX.out, hf.out]; rfl, HW.out⟩
            · have e3 : (x.kind != 3) = true := by simp [k3]
              have hf : Hid (symErr (l.take i) x = 12) := err12 hgood.out (by simp [kindB, k1, k2, k3])
              clear k1 k2 k3
              go_wp2
              go_ret
              exact ⟨by rw [HX.out, hf.out]; rfl, HW.out⟩
end Go.Proofs.YtgidgmgpgfonnaaGreat
/- What the document's Check and Same answer, and what kept answers of a signature that reads as it did. -/
namespace Go.Proofs.YtgidgmgpgfonnaaGreat
open Go.RowKit

def CheckRet (l : List Sym) (e : Ending) : Prop := e = .returned (.tuple #[.int .i64 (checkE l), .int .i64 (checkP l)])

set_option maxHeartbeats 400000 in
theorem rcheck_any (a : Option Addr) (n cap : Nat) (l : List Sym) (w : World) (h : SigAt w a n l) :
    Calls Tryz.prog 21 #[.slice a n cap] w fun e w' => CheckRet l e ∧ Below w.heap.size w w' := by
  have HS : Hid (SigAt w a n l) := h
  have hm := h.small
  unfold maxLen at hm
  clear h
  by_cases h16 : (16 : Int) < n
  · have hl16 : Hid (16 < l.length) := by show _ < _; have := HS.out.len; omega
    go_enter Tryz.func21, Tryz.ntmps21
    go_wp2
    go_ret2
    exact ⟨by have := hl16.out; simp [CheckRet, checkE, checkP, this], Below.refl _ _⟩
  · have hl16 : Hid (¬ 16 < l.length) := by show ¬ _; have := HS.out.len; omega
    go_enter Tryz.func21, Tryz.ntmps21
    go_wp2
    go_loopw [4, 5] (fun i _ w' => ∃ k : Nat, k ≤ n ∧ i = .int .i64 k ∧ Below w.heap.size w w' ∧ ∀ j, j < k → errAt l j = 0) (fun i _ _ => n - (intOf i).toNat)
    case atStart => exact ⟨0, Nat.zero_le _, rfl, Below.refl _ _, fun j h => absurd h (by omega)⟩
    case round =>
      obtain ⟨k, hk, rfl, hb, hno⟩ := hrel
      have HN : Hid (∀ j, j < k → errAt l j = 0) := hno
      have HB : Hid (Below w.heap.size w wr) := hb
      clear hno hb
      by_cases hlt : k < n
      · have hlk : k < l.length := by have := HS.out.len; omega
        have HC : Hid (∀ W, SigAt W a n l → Calls Tryz.prog 43 #[.slice a n cap, .int .i64 k] W fun e w' => e = .returned (.int .i64 (errAt l k)) ∧ Below W.heap.size W w') := by
          intro W hW
          have := rsymbol_any a n cap l k hlk W hW
          rw [show symErr (l.take k) l[k] = errAt l k by unfold errAt; rw [dif_pos hlk]] at this
          exact this
        cases he : (errAt l k != 0)
        · have he' : Hid (errAt l k = 0) := by show _ = _; simpa using he
          go_wp2_with fail
          refine (HC.out _ (HS.out.below HB.out)).mono ?_
          rintro e w2 ⟨rfl, hb2⟩
          have HB2 : Hid (Below w.heap.size w w2) := HB.out.trans (hb2.mono HB.out.size)
          clear hb2
          go_wp2
          go_roundw
          case rel => exact ⟨k + 1, by omega, by go_num, HB2.out, fun j hj => by
            rcases Nat.lt_succ_iff_lt_or_eq.1 hj with hj | rfl
            · exact HN.out j hj
            · exact he'.out⟩
          case measure => simp [intOf]; omega
        · have hf : Hid (firstErr l = some k) := firstErr_hit hlk (by simpa using he) HN.out
          go_wp2_with fail
          refine (HC.out _ (HS.out.below HB.out)).mono ?_
          rintro e w2 ⟨rfl, hb2⟩
          have HB2 : Hid (Below w.heap.size w w2) := HB.out.trans (hb2.mono HB.out.size)
          clear hb2
          go_wp2
          go_ret2
          exact ⟨by unfold CheckRet; rw [checkE_hit hl16.out hf.out, checkP_hit hl16.out hf.out]; rfl, HB2.out⟩
      · have hf : Hid (firstErr l = none) := firstErr_miss fun j hj => HN.out j (by have := HS.out.len; omega)
        go_wp2
        go_ret2
        exact ⟨by unfold CheckRet; rw [checkE_miss hl16.out hf.out, checkP_miss hl16.out hf.out]; rfl, HB.out⟩

end Go.Proofs.YtgidgmgpgfonnaaGreat
/- What the document's Same, Is, Equal and Right answer. -/
namespace Go.Proofs.YtgidgmgpgfonnaaGreat
open Go.RowKit Go.Deep

set_option maxRecDepth 100000 in
set_option maxHeartbeats 2000000 in
theorem rsame_any (x y : Tn) (a b : Option Addr) (c d : Nat) (w : World) (hS : TmAt w x.1 a c x.2) (hT : TmAt w y.1 b d y.2) :
    Calls Tryz.prog 37 #[.agg #[.string x.1.1, .int .i64 x.1.2, .slice a (lenF x.2) c], .agg #[.string y.1.1, .int .i64 y.1.2, .slice b (lenF y.2) d]] w fun e w' => e = .returned (.bool (cmpN x y == 0)) ∧ Below w.heap.size w w' := by
  obtain ⟨⟨xn, xs⟩, l⟩ := x
  obtain ⟨⟨yn, ys⟩, m⟩ := y
  obtain ⟨cv, hcv⟩ : ∃ cv, cmpN ((xn, xs), l) ((yn, ys), m) = cv := ⟨_, rfl⟩
  have PA : Hid (Pair w (xn, xs) a (lenF l) c (yn, ys) b (lenF m) d ((w.alloc (.cells #[.string xn, .int .i64 xs, .slice a (lenF l) c] 27)).alloc (.cells #[.string yn, .int .i64 ys, .slice b (lenF m) d] 27))) := Pair.new _ _ _ _ _ _ _ _ _
  have HC : Hid (∀ V, Below w.heap.size w V → Calls Tryz.prog 58 #[.agg #[.string xn, .int .i64 xs, .slice a (lenF l) c], .agg #[.string yn, .int .i64 ys, .slice b (lenF m) d]] V fun e w' => e = .returned (.int .i64 cv) ∧ Below V.heap.size V w') := fun V hV => by
    have := rcompare_all _ (xn, xs) (yn, ys) a b c d l m V (Nat.le_refl _) (hS.below hV) (hT.below hV)
    rw [show cmp1 (xn, xs) (yn, ys) (lenF l) (lenF m) (cmpF l m) = cv from hcv] at this
    exact this
  rw [hcv]
  clear hcv hS hT
  go_enter Tryz.func37, Tryz.ntmps37
  go_wp2_with (go_at_call 58; refine (HC.out _ PA.out.low).mono ?_; rintro e w1 ⟨rfl, hb1⟩; have HB1 : Hid (Below w.heap.size w w1) := PA.out.low.trans (hb1.mono PA.out.low.size); clear hb1)
  go_ret
  exact ⟨rfl, HB1.out⟩

set_option maxRecDepth 100000 in
set_option maxHeartbeats 2000000 in
theorem is_any (S : Option Addr) (n cap : Nat) (l : List Sym) (t : Tn) (a : Option Addr) (c : Nat) (w : World) (hS : SigAt w S n l) (hT : TmAt w t.1 a c t.2) (hk : nodesF t.2 ≤ 1048576) :
    Calls Tryz.prog 25 #[.slice S n cap, .agg #[.string t.1.1, .int .i64 t.1.2, .slice a (lenF t.2) c]] w fun e w' => e = .returned (.bool (exN (canonT (sgOf l) t).1 t.1 (canonT (sgOf l) t).2 t.2)) ∧ Below w.heap.size w w' := by
  obtain ⟨ct, hct⟩ : ∃ ct, canonT (sgOf l) t = ct := ⟨_, rfl⟩
  have HC : Hid (∀ W, Below w.heap.size w W → Calls Tryz.prog 49 #[.slice S n cap, .agg #[.string t.1.1, .int .i64 t.1.2, .slice a (lenF t.2) c]] W fun e w' => ∃ a' c', e = .returned (.agg #[.string ct.1.1, .int .i64 ct.1.2, .slice a' (lenF ct.2) c']) ∧ OwnTm false (fun q => W.heap.size ≤ q) w' ct.1 a' c' ct.2 ∧ Below W.heap.size W w') := fun W hW => by
    have := canon_all S n cap l 1048576 (Nat.le_refl _) t a c W hk (hS.below hW) (hT.below hW)
    rw [hct] at this
    exact this
  have HE : Hid (∀ W a' c', Below w.heap.size w W → TmAt W ct.1 a' c' ct.2 → Calls Tryz.prog 50 #[.agg #[.string ct.1.1, .int .i64 ct.1.2, .slice a' (lenF ct.2) c'], .agg #[.string t.1.1, .int .i64 t.1.2, .slice a (lenF t.2) c]] W fun e w' => e = .returned (.bool (exN ct.1 t.1 ct.2 t.2)) ∧ Below W.heap.size W w') := fun W a' c' hW hC => rexact_any ct t a' a c' c W hC (hT.below hW)
  have ON : Hid (TBox (w.alloc (.cells #[.string t.1.1, .int .i64 t.1.2, .slice a (lenF t.2) c] 27)) w.heap.size t.1 a (lenF t.2) c) := TBox.new w t.1 a (lenF t.2) c
  have HB0 : Hid (Below w.heap.size w (w.alloc (.cells #[.string t.1.1, .int .i64 t.1.2, .slice a (lenF t.2) c] 27))) := (Below.refl _ w).alloc (Nat.le_refl _) _
  rw [hct]
  clear hct hS hT
  go_enter Tryz.func25, Tryz.ntmps25
  go_wp2_with (first
    | (go_at_call 49; refine (HC.out _ HB0.out).mono ?_; rintro e w1 ⟨a', c', rfl, ho1, hb1⟩; have hba : Below w1.heap.size w1 (w1.alloc (.cells #[.string ct.1.1, .int .i64 ct.1.2, .slice a' (lenF ct.2) c'] 27)) := (Below.refl _ _).alloc (Nat.le_refl _) _; have hbb := hb1.trans (hba.mono hb1.size); have hbx := ON.out.below hbb; have c0 := hbx.c0; have c1 := hbx.c1; have c2 := hbx.c2; have HO1 : Hid (TmAt (w1.alloc (.cells #[.string ct.1.1, .int .i64 ct.1.2, .slice a' (lenF ct.2) c'] 27)) ct.1 a' c' ct.2) := ho1.tm.below hba; have HB1 : Hid (Below w.heap.size w (w1.alloc (.cells #[.string ct.1.1, .int .i64 ct.1.2, .slice a' (lenF ct.2) c'] 27))) := HB0.out.trans (hbb.mono HB0.out.size); clear ho1 hb1 hba hbb hbx)
    | (go_at_call 50; refine (HE.out _ _ _ HB1.out HO1.out).mono ?_; rintro e w2 ⟨rfl, hb2⟩; have HB2 : Hid (Below w.heap.size w w2) := HB1.out.trans (hb2.mono HB1.out.size); clear hb2))
  go_ret
  exact ⟨rfl, HB2.out⟩

set_option maxRecDepth 100000 in
set_option maxHeartbeats 2000000 in
theorem sright_any (S : Option Addr) (n cap : Nat) (l : List Sym) (w : World) (hS : SigAt w S n l) :
    Calls Tryz.prog 9 #[.slice S n cap] w fun e w' => e = .returned (.bool (checkE l == 0)) ∧ Below w.heap.size w w' := by
  have HC : Hid (Calls Tryz.prog 21 #[.slice S n cap] w fun e w' => CheckRet l e ∧ Below w.heap.size w w') := rcheck_any S n cap l w hS
  clear hS
  go_enter Tryz.func9, Tryz.ntmps9
  go_wp2_with (go_at_call 21; refine HC.out.mono ?_; rintro e w1 ⟨he, hb1⟩; unfold CheckRet at he; subst he; have HB1 : Hid (Below w.heap.size w w1) := hb1; clear hb1)
  go_ret
  exact ⟨rfl, HB1.out⟩
def rightB (l : List Sym) (t : Tn) : Bool := (checkE l == 0) && (errT l t.1 t.2 == 0)
set_option maxRecDepth 100000 in
set_option maxHeartbeats 2000000 in
theorem rright_any (S : Option Addr) (n cap : Nat) (l : List Sym) (t : Tn) (a : Option Addr) (c : Nat) (w : World) (hS : SigAt w S n l) (hT : TmAt w t.1 a c t.2) :
    Calls Tryz.prog 24 #[.slice S n cap, .agg #[.string t.1.1, .int .i64 t.1.2, .slice a (lenF t.2) c]] w fun e w' => e = .returned (.bool (rightB l t)) ∧ Below w.heap.size w w' := by
  obtain ⟨⟨tn, ts⟩, tl⟩ := t
  obtain ⟨ev, hev⟩ : ∃ ev, errT l (tn, ts) tl = ev := ⟨_, rfl⟩
  have ON : Hid (TBox (w.alloc (.cells #[.string tn, .int .i64 ts, .slice a (lenF tl) c] 27)) w.heap.size (tn, ts) a (lenF tl) c) := TBox.new w (tn, ts) a (lenF tl) c
  have HB0 : Hid (Below w.heap.size w (w.alloc (.cells #[.string tn, .int .i64 ts, .slice a (lenF tl) c] 27))) := (Below.refl _ w).alloc (Nat.le_refl _) _
  have HS : Hid (∀ W, Below w.heap.size w W → Calls Tryz.prog 9 #[.slice S n cap] W fun e w' => e = .returned (.bool (checkE l == 0)) ∧ Below W.heap.size W w') := fun W hW => sright_any S n cap l W (hS.below hW)
  have HN : Hid (∀ W, Below w.heap.size w W → Calls Tryz.prog 48 #[.slice S n cap, .agg #[.string tn, .int .i64 ts, .slice a (lenF tl) c]] W fun e w' => e = .returned (.int .i64 ev) ∧ Below W.heap.size W w') := fun W hW => by
    have := nodes_all l _ S n cap (tn, ts) tl a c W (Nat.le_refl _) (hS.below hW) (hT.below hW)
    rw [hev] at this
    exact this
  clear hS hT
  cases hc : (checkE l == 0)
  · have e : Hid (rightB l ((tn, ts), tl) = false) := by show _ = _; unfold rightB; rw [hc]; rfl
    rw [hc] at HS
    go_enter Tryz.func24, Tryz.ntmps24
    go_wp2_with (go_at_call 9; refine (HS.out _ HB0.out).mono ?_; rintro e w1 ⟨rfl, hb1⟩; have HB1 : Hid (Below w.heap.size w w1) := HB0.out.trans (hb1.mono HB0.out.size); have hbx := ON.out.below hb1; have c0 := hbx.c0; have c1 := hbx.c1; have c2 := hbx.c2; clear hb1 hbx)
    go_ret
    exact ⟨by rw [e.out]; rfl, HB1.out⟩
  · have e : Hid (rightB l ((tn, ts), tl) = (ev == 0)) := by show _ = _; unfold rightB; rw [hc, ← hev]; rfl
    rw [hc] at HS
    clear hev
    go_enter Tryz.func24, Tryz.ntmps24
    go_wp2_with (first
      | (go_at_call 9; refine (HS.out _ HB0.out).mono ?_; rintro e w1 ⟨rfl, hb1⟩; have HB1 : Hid (Below w.heap.size w w1) := HB0.out.trans (hb1.mono HB0.out.size); have hbx := ON.out.below hb1; have c0 := hbx.c0; have c1 := hbx.c1; have c2 := hbx.c2; clear hb1 hbx)
      | (go_at_call 48; refine (HN.out _ HB1.out).mono ?_; rintro e w2 ⟨rfl, hb2⟩; have HB2 : Hid (Below w.heap.size w w2) := HB1.out.trans (hb2.mono HB1.out.size); clear hb2))
    go_ret
    exact ⟨by rw [e.out]; rfl, HB2.out⟩
set_option maxRecDepth 100000 in
theorem right_facts {l : List Sym} {t : Tn} (h : rightB l t = true) : (sgOf l).Ok (arAt l) ∧ RightT (sgOf l) (arAt l) t := by
  unfold rightB at h
  simp only [Bool.and_eq_true, beq_iff_eq] at h
  exact ⟨sg_ok h.1, errT_right h.1 h.2⟩
end Go.Proofs.YtgidgmgpgfonnaaGreat
/- What the document's Check and Is answer of binds. -/
namespace Go.Proofs.YtgidgmgpgfonnaaGreat
open Go.RowKit Go.Deep

/-- A text that is not above another one. -/
def leS (a b : ByteArray) : Bool := Op.bytesLess a.toList b.toList || (a.toList == b.toList)
def badV (prev : Option ByteArray) (x : Bn) : Bool := !(varB x.1) || (match prev with | some p => leS x.1 p | none => false) || (x.2.1.1.toList == x.1.toList)
/-- What may not be of a bind behind another one. -/
def bdE (sg : List Sym) (prev : Option ByteArray) (x : Bn) : Int :=
  if badV prev x = true then 71 else if 400 < nodesF x.2.2 + 1 then 73 else if rightB sg x.2 = false then 72 else if exN (canonT (sgOf sg) x.2).1 x.2.1 (canonT (sgOf sg) x.2).2 x.2.2 = false then 72 else 0
/-- The first bind that may not be. -/
def chkB (sg : List Sym) : List Bn → Option ByteArray → Nat → Int × Nat
  | [], _, _ => (0, 0)
  | x :: r, p, i => if bdE sg p x = 0 then chkB sg r (some x.1) (i + 1) else (bdE sg p x, i)
def prevB (bs : List Bn) (j : Nat) : Option ByteArray := if j = 0 then none else (bs[j - 1]?).map (·.1)
theorem chkB_step {sg : List Sym} {bs : List Bn} {j : Nat} (h : j < bs.length) : chkB sg (bs.drop j) (prevB bs j) j = if bdE sg (prevB bs j) bs[j] = 0 then chkB sg (bs.drop (j + 1)) (prevB bs (j + 1)) (j + 1) else (bdE sg (prevB bs j) bs[j], j) := by
  rw [List.drop_eq_getElem_cons h]
  conv => lhs; unfold chkB
  have : prevB bs (j + 1) = some bs[j].1 := by simp [prevB, h]
  rw [this]
set_option maxRecDepth 100000 in
set_option maxHeartbeats 8000000 in
theorem rchk_any (S : Option Addr) (n cap : Nat) (sg : List Sym) (p : Option Addr) (bcap : Nat) (bs : List Bn) (w : World) (hS : SigAt w S n sg) (hB : BindsAt w p bs.length bs) (hn : bs.length ≤ 1048576) (hnd : ∀ b ∈ bs, nodesF b.2.2 ≤ 1048576) :
    Calls Tryz.prog 10 #[.slice S n cap, .slice p bs.length bcap] w fun e w' => e = .returned (.tuple #[.int .i64 (chkB sg bs none 0).1, .int .i64 (chkB sg bs none 0).2]) ∧ Below w.heap.size w w' := by
  have HB := hid hB; have HS := hid hS; have HND := hid hnd
  obtain ⟨R, hR⟩ : ∃ R, chkB sg bs none 0 = R := ⟨_, rfl⟩
  rw [hR]
  have HR := hid hR
  clear hB hS hnd hR
  go_enter Tryz.func10, Tryz.ntmps10
  go_wp2_with fail
  go_loopw [6, 7, 8, 9, 10] (fun iv _ _ _ _ wr => ∃ (j : Nat), j ≤ bs.length ∧ iv = .int .i64 j ∧ chkB sg (bs.drop j) (prevB bs j) j = R ∧ Below w.heap.size w wr) (fun iv _ _ _ _ _ => bs.length - (intOf iv).toNat)
  case atStart => exact ⟨0, Nat.zero_le _, rfl, HR.out, Below.refl _ _⟩
  case round =>
    obtain ⟨j, hj, rfl, hc, hlow⟩ := hrel
    have HW := hid hlow
    clear hlow
    by_cases hlt : j < bs.length
    · rw [chkB_step hlt] at hc
      obtain ⟨b1, o1, a1, c1, rfl, hbd⟩ := (HB.out.below HW.out).cells j hlt
      have hfit := HB.out.fits bs[j] (List.getElem_mem hlt)
      have hnod := HND.out bs[j] (List.getElem_mem hlt)
      obtain ⟨⟨vn, ⟨x, l⟩⟩, hy⟩ : ∃ y, bs[j] = y := ⟨_, rfl⟩
      rw [hy] at hbd hc hfit hnod
      have HBD := hid hbd; have HC := hid hc
      have p0 := hbd.var
      dsimp only at p0 hfit hnod
      have HV := hid (rvar_any vn wr hfit)
      clear hbd hc hy
      go_wp2_with fail
      refine HV.out.mono ?_
      rintro e w1 ⟨rfl, hw1⟩
      subst w1
      have HOV := hid fun (W : World) (hW : Below wr.heap.size wr W) => over_any x l a1 c1 400 W (HBD.out.tm.below hW) (by decide)
      have HRT := hid fun (W : World) (hW : Below wr.heap.size wr W) => rright_any S n cap sg (x, l) a1 c1 W ((HS.out.below HW.out).below hW) (HBD.out.tm.below hW)
      have HIS := hid fun (W : World) (hW : Below wr.heap.size wr W) => is_any S n cap sg (x, l) a1 c1 W ((HS.out.below HW.out).below hW) (HBD.out.tm.below hW) hnod
      have hne := later_some wr
      have q0 := later_cell HBD.out.var; have q1 := later_cell HBD.out.name
      dsimp only at q0 q1 HRT HIS
      have hj0 : (0 : Int) ≤ (j : Int) := by omega
      have hjn : (j : Int) < (bs.length : Int) := by omega
      clear p0 HV
      obtain ⟨bv, hbv⟩ : ∃ bv, badV (prevB bs j) (vn, (x, l)) = bv := ⟨_, rfl⟩
      have HBW := hid hbv
      go_upto_region 5 with fail
      go_cut [56] (fun cv wx => cv = .bool bv ∧ Below wr.heap.size wr wx)
      case first =>
        by_cases hv : varB vn = true
        · by_cases hjz : j = 0
          · subst hjz
            simp only [Nat.zero_mul, Nat.add_zero] at q0 q1
            by_cases he : x.1.toList = vn.toList
            · have HBV : Hid (bv = true) := hid (by rw [← hbv]; simp [badV, prevB, hv, he])
              have heb : (x.1.toList == vn.toList) = true := by simp [he]
              clear hbv
              (refine wp_region_later (by kernel_rfl) (by kernel_rfl) ?_
               repeat (go_big_quiet_step (fail))
               refine wpQuiet_nil ?_
               intro _ hw'
               obtain ⟨b2, hw''⟩ := hw'
               subst hw''
               go_wp2
               go_meet
               exact ⟨congrArg Value.bool (by rw [HBV.out]), b2.below⟩)
            · have HBV : Hid (bv = false) := hid (by rw [← hbv]; simp [badV, prevB, hv, he])
              have heb : (x.1.toList == vn.toList) = false := by simp [he]
              clear hbv
              (refine wp_region_later (by kernel_rfl) (by kernel_rfl) ?_
               repeat (go_big_quiet_step (fail))
               refine wpQuiet_nil ?_
               intro _ hw'
               obtain ⟨b2, hw''⟩ := hw'
               subst hw''
               go_wp2
               go_meet
               exact ⟨congrArg Value.bool (by rw [HBV.out]), b2.below⟩)
          · obtain ⟨jp, rfl⟩ : ∃ jp, j = jp + 1 := ⟨j - 1, by omega⟩
            obtain ⟨b2', o2', a2', c2', e2', hbd'⟩ := (HB.out.below HW.out).cells jp (by omega)
            cases e2'
            obtain ⟨vp, hvp⟩ : ∃ vp, bs[jp].1 = vp := ⟨_, rfl⟩
            have r0 := later_cell hbd'.var
            rw [hvp] at r0
            have hpv : prevB bs (jp + 1) = some vp := by rw [← hvp]; simp [prevB, (show jp < bs.length by omega)]
            have hjp : (0 : Int) < ((jp + 1 : Nat) : Int) := by omega
            have hjq : (((jp + 1 : Nat) : Int) - 1) = (jp : Int) := by omega
            clear hbd' hvp
            rw [hpv] at hbv
            cases hl1 : Op.bytesLess vn.toList vp.toList
            · by_cases hl2 : vn.toList = vp.toList
              · have HBV : Hid (bv = true) := hid (by rw [← hbv]; simp [badV, leS, hl2])
                have hlb : (vn.toList == vp.toList) = true := by simp [hl2]
                clear hbv
                (refine wp_region_later (by kernel_rfl) (by kernel_rfl) ?_
                 repeat (go_big_quiet_step (fail))
                 refine wpQuiet_nil ?_
                 intro _ hw'
                 obtain ⟨b2, hw''⟩ := hw'
                 subst hw''
                 go_wp2
                 go_meet
                 exact ⟨congrArg Value.bool (by rw [HBV.out]), b2.below⟩)
              · have hlb : (vn.toList == vp.toList) = false := by simp [hl2]
                by_cases he : x.1.toList = vn.toList
                · have HBV : Hid (bv = true) := hid (by rw [← hbv]; simp [badV, he])
                  have heb : (x.1.toList == vn.toList) = true := by simp [he]
                  clear hbv
                  (refine wp_region_later (by kernel_rfl) (by kernel_rfl) ?_
                   repeat (go_big_quiet_step (fail))
                   refine wpQuiet_nil ?_
                   intro _ hw'
                   obtain ⟨b2, hw''⟩ := hw'
                   subst hw''
                   go_wp2
                   go_meet
                   exact ⟨congrArg Value.bool (by rw [HBV.out]), b2.below⟩)
                · have HBV : Hid (bv = false) := hid (by rw [← hbv]; simp [badV, leS, hv, hl1, hl2, he])
                  have heb : (x.1.toList == vn.toList) = false := by simp [he]
                  clear hbv
                  (refine wp_region_later (by kernel_rfl) (by kernel_rfl) ?_
                   repeat (go_big_quiet_step (fail))
                   refine wpQuiet_nil ?_
                   intro _ hw'
                   obtain ⟨b2, hw''⟩ := hw'
                   subst hw''
                   go_wp2
                   go_meet
                   exact ⟨congrArg Value.bool (by rw [HBV.out]), b2.below⟩)
            · have HBV : Hid (bv = true) := hid (by rw [← hbv]; simp [badV, leS, hl1])
              clear hbv
              (refine wp_region_later (by kernel_rfl) (by kernel_rfl) ?_
               repeat (go_big_quiet_step (fail))
               refine wpQuiet_nil ?_
               intro _ hw'
               obtain ⟨b2, hw''⟩ := hw'
               subst hw''
               go_wp2
               go_meet
               exact ⟨congrArg Value.bool (by rw [HBV.out]), b2.below⟩)
        · have hv' : varB vn = false := by simpa using hv
          have HBV : Hid (bv = true) := hid (by rw [← hbv]; simp [badV, hv'])
          clear hbv
          (refine wp_region_later (by kernel_rfl) (by kernel_rfl) ?_
           repeat (go_big_quiet_step (fail))
           refine wpQuiet_nil ?_
           intro _ hw'
           obtain ⟨b2, hw''⟩ := hw'
           subst hw''
           go_wp2
           go_meet
           exact ⟨congrArg Value.bool (by rw [HBV.out]), b2.below⟩)
      case rest =>
        obtain ⟨rfl, hb5⟩ := hcut
        have HW5 := hid hb5
        clear q0 q1 hne hb5
        have hR : R = if badV (prevB bs j) (vn, (x, l)) = true then (71, j) else if 400 < nodesF l + 1 then (73, j) else if rightB sg (x, l) = false then (72, j) else if exN (canonT (sgOf sg) (x, l)).1 x (canonT (sgOf sg) (x, l)).2 l = false then (72, j) else chkB sg (bs.drop (j + 1)) (prevB bs (j + 1)) (j + 1) := by
          rw [← HC.out]
          unfold bdE
          dsimp only
          split
          · rfl
          · split
            · rfl
            · split
              · rfl
              · split
                · rfl
                · rfl
        rw [hbv] at hR
        cases bv with
        | true =>
          rw [if_pos rfl] at hR
          subst hR
          go_wp2
          go_ret2
          exact ⟨rfl, HW.out.trans (HW5.out.mono HW.out.size)⟩
        | false =>
          rw [if_neg (by simp)] at hR
          have HRR := hid hR
          clear hR hbv HBW HC
          have bd := HBD.out.below HW5.out
          have p1 := bd.name; have p2 := bd.sym; have p3 := bd.list
          dsimp only at p1 p2 p3
          clear bd
          go_wp2_with fail
          refine (HOV.out _ HW5.out).mono ?_
          rintro e w6 ⟨rfl, hb6⟩
          have HW6 := hid (HW5.out.trans (hb6.mono HW5.out.size))
          clear hb6 p1 p2 p3
          by_cases hov : 400 < nodesF l + 1
          · have hR := HRR.out
            rw [if_pos hov] at hR
            rw [decide_eq_true hov]
            subst hR
            clear HRR hov
            go_wp2
            go_ret2
            exact ⟨rfl, HW.out.trans (HW6.out.mono HW.out.size)⟩
          · have hR := HRR.out
            rw [if_neg hov] at hR
            rw [decide_eq_false hov]
            have HRR2 := hid hR
            clear HRR hov hR
            have bd := HBD.out.below HW6.out
            have p1 := bd.name; have p2 := bd.sym; have p3 := bd.list
            dsimp only at p1 p2 p3
            clear bd
            go_wp2_with fail
            refine (HRT.out _ HW6.out).mono ?_
            rintro e w7 ⟨rfl, hb7⟩
            have HW7 := hid (HW6.out.trans (hb7.mono HW6.out.size))
            clear hb7 p1 p2 p3
            cases hrt : rightB sg (x, l) with
            | false =>
              have hR := HRR2.out
              rw [if_pos hrt] at hR
              subst hR
              clear HRR2 hrt
              go_wp2
              go_ret2
              exact ⟨rfl, HW.out.trans (HW7.out.mono HW.out.size)⟩
            | true =>
              have hR := HRR2.out
              rw [if_neg (by simp [hrt])] at hR
              have HRR3 := hid hR
              clear HRR2 hrt hR
              have bd := HBD.out.below HW7.out
              have p1 := bd.name; have p2 := bd.sym; have p3 := bd.list
              dsimp only at p1 p2 p3
              clear bd
              go_wp2_with fail
              refine (HIS.out _ HW7.out).mono ?_
              rintro e w8 ⟨rfl, hb8⟩
              have HW8 := hid (HW7.out.trans (hb8.mono HW7.out.size))
              clear hb8 p1 p2 p3
              cases hex : exN (canonT (sgOf sg) (x, l)).1 x (canonT (sgOf sg) (x, l)).2 l with
              | false =>
                have hR := HRR3.out
                rw [if_pos hex] at hR
                subst hR
                clear HRR3 hex
                go_wp2
                go_ret2
                exact ⟨rfl, HW.out.trans (HW8.out.mono HW.out.size)⟩
              | true =>
                have hR := HRR3.out
                rw [if_neg (by simp [hex])] at hR
                have HRR4 := hid hR
                clear HRR3 hex hR
                go_wp2
                go_roundw
                case rel =>
                  exact ⟨j + 1, by omega, by go_num, HRR4.out.symm, HW.out.trans (HW8.out.mono HW.out.size)⟩
                case measure => simp [intOf]; omega
    · have he : j = bs.length := by omega
      rw [he, List.drop_length] at hc
      have hc' : R = (0, 0) := hc.symm
      subst hc'
      clear hc he
      go_wp2
      go_ret2
      exact ⟨rfl, HW.out⟩
end Go.Proofs.YtgidgmgpgfonnaaGreat
