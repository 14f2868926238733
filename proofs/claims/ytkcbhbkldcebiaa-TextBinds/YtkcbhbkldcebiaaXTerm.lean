/- What the reader's term and arguments answer: what reading is, in new memory, or a panic with what is wrong and where. -/
import Derived.Test.YtkcbhbkldcebiaaXPure
import Derived.Test.YtkcbhbkldcebiaaXLst
namespace Go.Proofs.Ytkcbhbkldcebiaa
open Go.RowKit Go.Deep

set_option maxRecDepth 100000 in
/-- A list that is done, as a term's. -/
theorem Lst.term {B : Nat} {W : World} {v : Value} {ks : List Kv} {F : Fo} (x : ByteArray × Int) (h : Lst B W v ks) (hk : ks.map Kv.tn = kidsL F) (hx : x.1.size ≤ maxLen) (hf : lenF F * 48 ≤ 140737488351232) :
    ∃ a c, v = .slice a (lenF F) c ∧ OwnTm false (fun q => B ≤ q) W x a c F := by
  have hl : ks.length = lenF F := by have := congrArg List.length hk; rwa [List.length_map, kids_len] at this
  rcases h.row.2 with ⟨hv, h0⟩ | ⟨g, cap, cur, hv, hb, hg, hnc, hcm, hsz, hcur⟩
  · refine ⟨none, 0, by rw [← hl, h0]; exact hv, ⟨⟨hx, by omega, by simp, hf⟩, .inl ⟨len_nil (by omega), rfl⟩⟩⟩
  · have hrow := h.row
    rw [hv] at hrow
    refine ⟨_, cap, by rw [← hl]; exact hv, ⟨⟨hx, by omega, hcm, hf⟩, .inr ⟨g, cur, rfl, hb, hg, (fun e => by cases e), ownKids_of F ks 0 hk (owns_at hrow) (fun k hk => (h.own k hk).mono (fun q _ hq => hq.1))⟩⟩⟩
set_option maxRecDepth 100000 in
/-- A list of one new term. -/
theorem Lst.one {B : Nat} {W : World} (k : Kv) (hB : B ≤ W.heap.size) (h : OwnTm false (fun q => B ≤ q) W k.x k.a k.c k.l) : Lst B (W.alloc (.cells #[.string k.x.1, .int .i64 k.x.2, .slice k.a (lenF k.l) k.c] 28)) (.slice (some ⟨W.heap.size, 0, none⟩) 1 1) [k] := by
  refine ⟨⟨rfl, .inr ⟨W.heap.size, 1, _, rfl, hB, World.alloc_heap_new W _, Nat.le_refl _, by decide, rfl, rfl⟩⟩, fun k' hk => ?_⟩
  simp only [List.mem_singleton] at hk
  subst hk
  have h2 : OwnTm false (fun q => B ≤ q ∧ some q ≠ some W.heap.size) W k'.x k'.a k'.c k'.l := h.mono (fun q hq hp => ⟨hp, fun e => by cases e; omega⟩)
  exact h2.below ((Below.refl _ _).alloc (Nat.le_refl _) _)
theorem Lst.fr {b B : Nat} {W W' : World} {v : Value} {ks : List Kv} (h : Lst b W v ks) (hF : FrB B W W') (hB : B < b) : Lst b W' v ks :=
  ⟨owns_block h.row (fun g hg => by
    have h1 := (owns_cells h.row hg).1
    exact hF.same g (h.lt hg) (by omega)), fun k hk => (h.own k hk).keep (fun q hq hlt => hF.same q hlt (by have := hq.1; omega))⟩
theorem Lst.push {b B : Nat} {W W1 W2 : World} {v v' : Value} {ks : List Kv} {k : Kv} (h : Lst b W v ks) (hF : FrB B W W1) (hB : B < b) (hb : b ≤ W.heap.size) (hm : OwnTm false (fun q => W.heap.size ≤ q) W1 k.x k.a k.c k.l)
    (hg : W1.grownBy W2 v.ownBlock) (hat : v'.ownBlock = v.ownBlock ∨ v'.ownBlock = some W1.heap.size) (ho : W2.ownsRow b 28 3 v' (ks ++ [k]).length (kvCells (ks ++ [k]))) : Lst b W2 v' (ks ++ [k]) := by
  refine ⟨ho, fun j hj => ?_⟩
  have hsz := hF.low.size
  have h2 : OwnTm false (fun q => (b ≤ q ∧ some q ≠ v'.ownBlock) ∧ some q ≠ v.ownBlock) W1 j.x j.a j.c j.l := by
    rcases List.mem_append.1 hj with hj | hj
    · have h0 : OwnTm false (fun q => (b ≤ q ∧ some q ≠ v'.ownBlock) ∧ some q ≠ v.ownBlock) W j.x j.a j.c j.l := (h.own j hj).mono (fun q hq hp => ⟨⟨hp.1, by
        rcases hat with e | e
        · rw [e]; exact hp.2
        · rw [e]; intro e'; cases e'; omega⟩, hp.2⟩)
      exact h0.keep (fun q hq hlt => hF.same q hlt (by have := hq.1.1; omega))
    · simp only [List.mem_singleton] at hj
      subst hj
      refine hm.mono (fun q hq hp => ?_)
      have hne : some q ≠ v.ownBlock := fun e => by have := h.lt e.symm; omega
      refine ⟨⟨by omega, ?_⟩, hne⟩
      rcases hat with e | e
      · rw [e]; exact hne
      · rw [e]; intro e'; cases e'; omega
  exact (h2.keep (fun q hq hlt => hg.block q hlt hq.2)).mono (fun q _ hq => hq.1)

/-- What stands behind a name. -/
def argsC (s : ByteArray) (l : List Sym) (k : Nat) : Except (Int × Nat) (Fo × Nat) := match passP s k 3 with
  | .error e => .error e
  | .ok (false, k1) => .ok (.nil, k1)
  | .ok (true, k1) => match rdC s l false k1 with
    | .error e => .error e
    | .ok (.nil, _) => .error (0, 0)
    | .ok (.node _ _ x m _, k2) => match rdC s l true k2 with
      | .error e => .error e
      | .ok (F, k3) => .ok (.node 0 0 x m F, k3)
def appF : List Kv → Fo → Fo
  | [], F => F
  | k :: r, F => .node 0 0 k.x k.l (appF r F)
theorem kids_appF : ∀ (ks : List Kv), kidsL (appF ks .nil) = ks.map Kv.tn
  | [] => rfl
  | k :: r => by simp only [appF, kidsL, List.map_cons, Kv.tn]; rw [kids_appF r]
theorem appF_snoc : ∀ (ks : List Kv) (k : Kv) (F : Fo), appF (ks ++ [k]) F = appF ks (.node 0 0 k.x k.l F)
  | [], _, _ => rfl
  | j :: r, k, F => by simp only [List.cons_append, appF]; rw [appF_snoc r k F]
theorem len_appF (ks : List Kv) : lenF (appF ks .nil) = ks.length := by rw [← kids_len, kids_appF, List.length_map]

/-- What the two functions answer. -/
def TermEnd (B : Nat) (sg tv : Value) (s : ByteArray) (w : World) (res : Except (Int × Nat) (Fo × Nat)) (e : Ending) (w' : World) : Prop := (match res with
    | .error p => e = faultP p.1 p.2
    | .ok (F, k') => ∃ x m a c, F = .node 0 0 x m .nil ∧ e = .returned (.agg #[.string x.1, .int .i64 x.2, .slice a (lenF m) c]) ∧ OwnTm false (fun q => w.heap.size ≤ q) w' x a c m ∧ RdBox w' B sg s k' tv) ∧ FrB B w w'
def TermOk (w0 : World) (B : Nat) (S : Option Addr) (n cap : Nat) (l : List Sym) (tv : Value) (s : ByteArray) (z : Nat) : Prop := ∀ (k : Nat) (w : World), k ≤ s.size → s.size - k ≤ z → RdBox w B (.slice S n cap) s k tv → Below w0.heap.size w0 w →
  Calls Try.prog 57 #[.pointer (some ⟨B, 0, none⟩)] w fun e w' => TermEnd B (.slice S n cap) tv s w (rdC s l false k) e w'
def ArgsEnd (B : Nat) (sg tv : Value) (s : ByteArray) (w : World) (res : Except (Int × Nat) (Fo × Nat)) (e : Ending) (w' : World) : Prop := (match res with
    | .error p => e = faultP p.1 p.2
    | .ok (F, k') => ∃ v ks, e = .returned v ∧ Lst w.heap.size w' v ks ∧ F = appF ks .nil ∧ (ks = [] → v = .slice none 0 0) ∧ ks.length ≤ s.size ∧ RdBox w' B sg s k' tv) ∧ FrB B w w'
def ArgsOk (w0 : World) (B : Nat) (S : Option Addr) (n cap : Nat) (l : List Sym) (tv : Value) (s : ByteArray) (z : Nat) : Prop := ∀ (k : Nat) (w : World), k ≤ s.size → s.size - k ≤ z → RdBox w B (.slice S n cap) s k tv → Below w0.heap.size w0 w →
  Calls Try.prog 75 #[.pointer (some ⟨B, 0, none⟩)] w fun e w' => ArgsEnd B (.slice S n cap) tv s w (argsC s l k) e w'
theorem low_fr {w0 w w' : World} {B : Nat} (h : Below w0.heap.size w0 w) (hF : FrB B w w') (hB : w0.heap.size ≤ B) : Below w0.heap.size w0 w' := h.trans (hF.below (fun _ hk => hk ▸ hB) h.size)

set_option maxRecDepth 100000 in
set_option maxHeartbeats 4000000 in
theorem args_of {w0 : World} {B : Nat} {S : Option Addr} {n cap : Nat} {l : List Sym} {tv : Value} {s : ByteArray} {z : Nat} (hB0 : w0.heap.size ≤ B) (hs : s.size ≤ 800) (ih : ∀ y, y < z → TermOk w0 B S n cap l tv s y) : ArgsOk w0 B S n cap l tv s z := by
  intro k w hk hz hB hL
  have HB := hid hB
  have HL := hid hL
  have hBlt := hB.lt
  have hsm : s.size ≤ maxLen := by unfold maxLen; omega
  have HP : Hid (∀ (kd : Int) (W : World) (q : Nat), q ≤ s.size → RdBox W B (.slice S n cap) s q tv → Calls Try.prog 64 #[.pointer (some ⟨B, 0, none⟩), .int .i64 kd] W fun e w' => (match passP s q kd with | .error p => e = faultP p.1 p.2 | .ok r => e = .returned (.bool r.1) ∧ RdBox w' B (.slice S n cap) s r.2 tv) ∧ FrB B W w') := hid fun kd W q hq hW => pass_rd B _ tv s q kd W hW hsm hq
  have HW : Hid (∀ (W : World) (q : Nat), q ≤ s.size → RdBox W B (.slice S n cap) s q tv → Calls Try.prog 60 #[.pointer (some ⟨B, 0, none⟩), .int .i64 4] W fun e w' => (match wantP s q 4 with | .error p => e = faultP p.1 p.2 | .ok r => e = .returned r.word.val ∧ RdBox w' B (.slice S n cap) s r.to tv) ∧ FrB B W w') := hid fun W q hq hW => want_rd B _ tv s q 4 W hW hsm hq
  have IH := hid ih
  clear hB hL ih
  obtain ⟨res, hres⟩ : ∃ res, argsC s l k = res := ⟨_, rfl⟩
  rw [hres]
  unfold argsC at hres
  cases hp : passP s k 3 with
  | error p =>
    rw [hp] at hres
    have hc := HP.out 3 w k hk HB.out
    rw [hp] at hc
    dsimp only at hc
    unfold faultP at hc
    have HC := hid hc
    clear hc HP HW IH
    go_enter Try.func75, Try.ntmps75
    go_wp2_with fail
    refine HC.out.mono ?_
    rintro e w1 ⟨rfl, hb1⟩
    go_wp2
    exact ⟨rfl, by rw [← hres]; exact ⟨rfl, hb1⟩⟩
  | ok q =>
    obtain ⟨b, k1⟩ := q
    rw [hp] at hres
    have hc := HP.out 3 w k hk HB.out
    rw [hp] at hc
    dsimp only at hc
    have HC := hid hc
    clear hc
    cases b with
    | false =>
      dsimp only at hres
      go_enter Try.func75, Try.ntmps75
      go_wp2_with fail
      refine HC.out.mono ?_
      rintro e w1 ⟨⟨rfl, hrb⟩, hf⟩
      have HR := hid hrb
      have HF := hid hf
      clear hrb hf
      go_wp2
      go_ret
      rw [← hres]
      exact ⟨⟨_, [], rfl, Lst.nil _ _, rfl, fun _ => rfl, Nat.zero_le _, HR.out⟩, HF.out⟩
    | true =>
      dsimp only at hres
      have hk1 := pass_true hk (by decide) hp
      clear hp
      have HRS := hid hres
      clear hres
      go_enter Try.func75, Try.ntmps75
      go_wp2_with fail
      refine HC.out.mono ?_
      rintro e w1 ⟨⟨rfl, hrb⟩, hf⟩
      have R1 := hid hrb
      have F1 := hid hf
      have L1 := hid (low_fr HL.out hf hB0)
      clear hrb hf HC
      go_wp2_with fail
      have ht := IH.out (s.size - k1) (by omega) k1 w1 hk1.2 (Nat.le_refl _) R1.out L1.out
      cases hr : rdC s l false k1 with
      | error p =>
        rw [hr] at ht
        unfold TermEnd at ht
        dsimp only at ht
        unfold faultP at ht
        refine ht.mono ?_
        rintro e w2 ⟨rfl, hf2⟩
        have hres := HRS.out
        rw [hr] at hres
        go_wp2
        exact ⟨rfl, by rw [← hres]; exact ⟨rfl, F1.out.trans hf2⟩⟩
      | ok q =>
        obtain ⟨G, k2⟩ := q
        have hk2 := rdC_to hk1.2 hr
        rw [hr] at ht
        unfold TermEnd at ht
        dsimp only at ht
        refine ht.mono ?_
        rintro e w2 ⟨⟨x, m, ta, tc, rfl, rfl, ho2, hrb2⟩, hf2⟩
        have hres := HRS.out
        rw [hr] at hres
        dsimp only at hres
        have F2 := F1.out.trans hf2
        have hz2 := hf2.low.size
        have hz1 := F1.out.low.size
        have B2 := alloc_below0 w2 (.cells #[.string x.1, .int .i64 x.2, .slice ta (lenF m) tc] 28)
        have FF := hid (F2.trans (Fr.of_below B2))
        have RR := hid (hrb2.below B2)
        have LL : Hid (Lst w.heap.size (w2.alloc (.cells #[.string x.1, .int .i64 x.2, .slice ta (lenF m) tc] 28)) (.slice (some ⟨w2.heap.size, 0, none⟩) 1 1) [⟨x, m, ta, tc⟩]) := hid (Lst.one ⟨x, m, ta, tc⟩ (by omega) (ho2.mono (fun q _ hq => by omega)))
        have hrel0 : Hid (match rdC s l true k2 with | .error e => res = .error e | .ok (F, k3) => res = .ok (appF [⟨x, m, ta, tc⟩] F, k3)) := by
          show match rdC s l true k2 with | .error e => res = .error e | .ok (F, k3) => res = .ok (appF [⟨x, m, ta, tc⟩] F, k3)
          rw [← hres]
          cases rdC s l true k2 with
          | error e => rfl
          | ok q => rfl
        clear ht hr hres HRS hrb2 hf2 ho2 F2 B2 R1 F1 L1
        go_wp2_with fail
        generalize w2.alloc (.cells #[.string x.1, .int .i64 x.2, .slice ta (lenF m) tc] 28) = W2 at FF RR LL ⊢
        go_loopw [3] (fun ov wr => ∃ (kc : Nat) (ks : List Kv) (v : Value), v = ov ∧ k < kc ∧ kc ≤ s.size ∧ ks ≠ [] ∧ ks.length + k < kc ∧ RdBox wr B (.slice S n cap) s kc tv ∧ Lst w.heap.size wr v ks ∧ FrB B w wr ∧ (match rdC s l true kc with | .error e => res = .error e | .ok (F, k3) => res = .ok (appF ks F, k3)) ∧ s.size - kc < z) (fun _ wr => match wr.cell? ⟨B, 2, none⟩ with | some (.int _ q) => s.size - q.toNat | _ => 0)
        case atStart => exact ⟨k2, [⟨x, m, ta, tc⟩], _, rfl, by omega, hk2.2, by simp, by simp; omega, RR.out, LL.out, FF.out, hrel0.out, by omega⟩
        case round =>
          obtain ⟨kc, ks, v, rfl, hkc, hkc2, hne, hlen, hrb, hlst, hfr, hrel1, hzc⟩ := hrel
          have R3 := hid hrb
          have L3 := hid hlst
          have F3 := hid hfr
          have HREL := hid hrel1
          have hc2 := hrb.c2
          have hw3 := hfr.low.size
          have hnl : Hid (ks ≠ []) := hne
          clear hrb hlst hfr hrel1 hne FF RR LL hrel0
          have hc := HP.out 5 wr kc hkc2 R3.out
          have HEQ := hid (rdC_eq (s := s) (l := l) hkc2 true)
          go_wp2_with fail
          cases hp5 : passP s kc 5 with
          | error p =>
            rw [hp5] at hc
            dsimp only at hc
            unfold faultP at hc
            refine hc.mono ?_
            rintro e w4 ⟨rfl, hf4⟩
            have hres := HREL.out
            rw [HEQ.out] at hres
            unfold rd1 at hres
            dsimp only at hres
            rw [hp5] at hres
            dsimp only at hres
            go_wp2
            exact ⟨rfl, by rw [hres]; exact ⟨rfl, F3.out.trans hf4⟩⟩
          | ok q =>
            obtain ⟨b, k4⟩ := q
            rw [hp5] at hc
            dsimp only at hc
            refine hc.mono ?_
            rintro e w4 ⟨⟨rfl, hrb4⟩, hf4⟩
            have R4 := hid hrb4
            have F4 := hid (F3.out.trans hf4)
            have L4 := hid (L3.out.fr hf4 hBlt)
            have B4 := hid (low_fr HL.out F4.out hB0)
            have hres := HREL.out
            rw [HEQ.out] at hres
            unfold rd1 at hres
            dsimp only at hres
            rw [hp5] at hres
            have HRS := hid hres
            have hw4 := hf4.low.size
            clear hc hrb4 hf4 hres HREL HEQ R3 L3 F3
            cases b with
            | false =>
              obtain rfl := pass_false hp5
              have hcw := HW.out w4 k4 hkc2 R4.out
              go_wp2_with fail
              cases hw4' : wantP s k4 4 with
              | error p =>
                rw [hw4'] at hcw
                dsimp only at hcw
                unfold faultP at hcw
                refine hcw.mono ?_
                rintro e w5 ⟨rfl, hf5⟩
                have hres := HRS.out
                rw [hw4'] at hres
                dsimp only at hres
                go_wp2
                exact ⟨rfl, by rw [hres]; exact ⟨rfl, F4.out.trans hf5⟩⟩
              | ok r =>
                rw [hw4'] at hcw
                dsimp only at hcw
                refine hcw.mono ?_
                rintro e w5 ⟨⟨rfl, hrb5⟩, hf5⟩
                have hres := HRS.out
                rw [hw4'] at hres
                dsimp only at hres
                have R5 := hid hrb5
                have F5 := hid (F4.out.trans hf5)
                have L5 := hid (L4.out.fr hf5 hBlt)
                clear hrb5 hf5 hcw
                go_wp2
                go_ret
                rw [hres]
                exact ⟨⟨_, ks, rfl, L5.out, rfl, fun e => absurd e hnl.out, by omega, R5.out⟩, F5.out⟩
            | true =>
              have hk4 := pass_true hkc2 (by decide) hp5
              have ht := IH.out (s.size - k4) (by omega) k4 w4 hk4.2 (Nat.le_refl _) R4.out B4.out
              go_wp2_with fail
              cases hr4 : rdC s l false k4 with
              | error p =>
                rw [hr4] at ht
                unfold TermEnd at ht
                dsimp only at ht
                unfold faultP at ht
                refine ht.mono ?_
                rintro e w5 ⟨rfl, hf5⟩
                have hres := HRS.out
                rw [hr4] at hres
                dsimp only at hres
                go_wp2
                exact ⟨rfl, by rw [hres]; exact ⟨rfl, F4.out.trans hf5⟩⟩
              | ok q =>
                obtain ⟨G, k5⟩ := q
                have hk5 := rdC_to hk4.2 hr4
                rw [hr4] at ht
                unfold TermEnd at ht
                dsimp only at ht
                refine ht.mono ?_
                rintro e w5 ⟨⟨x5, m5, a5, c5, rfl, rfl, ho5, hrb5⟩, hf5⟩
                have hres := HRS.out
                rw [hr4] at hres
                dsimp only at hres
                have O5 := hid ho5
                have R5 := hid hrb5
                have F5 := hid hf5
                have HR5 := hid hres
                have hz5 := hf5.low.size
                clear ht hr4 hres HRS ho5 hrb5 hf5
                go_wp2_with (first
                  | (at_builtin; refine wpList_append_lst rfl _ _ rfl w.heap.size v ks rfl (owns_below (L4.out.fr F5.out hBlt).row (alloc_below0 w5 _)) (some ⟨w5.heap.size, 0, none⟩) 1 1 [⟨x5, m5, a5, c5⟩] rfl (RowAt.new w5 ⟨x5, m5, a5, c5⟩) (fun e => by cases e) (fun _ => Nat.one_pos) (by omega) (by rw [World.size_alloc]; omega) ?_; intro v6 w6 hown6 hgrow6 hat6; have L6 := hid (L4.out.push (k := ⟨x5, m5, a5, c5⟩) (F5.out.trans (Fr.of_below (alloc_below0 w5 _))) hBlt (by omega) (O5.out.below (alloc_below0 w5 _)) hgrow6 hat6 hown6); have G6 := hid hgrow6; have OC := hid (fun g (e : v.ownBlock = some g) => (owns_cells L4.out.row e).1); clear hown6 hat6 hgrow6))
                go_roundw
                case rel =>
                  have hR6 : RdBox w6 B (.slice S n cap) s k5 tv := (G6.out.block B (by rw [World.size_alloc]; omega) (fun e => by have := OC.out B e.symm; omega)).trans (R5.out.below (alloc_below0 w5 _))
                  have hF6 : FrB B w w6 := by
                    have h5 := F4.out.trans (F5.out.trans (Fr.of_below (alloc_below0 w5 (.cells #[.string x5.1, .int .i64 x5.2, .slice a5 (lenF m5) c5] 28))))
                    exact ⟨h5.low.grown G6.out (Nat.zero_le _) (fun _ _ => Nat.zero_le _), fun q hq hn => (G6.out.block q (Nat.lt_of_lt_of_le hq h5.low.size) (fun e => by have := OC.out q e.symm; omega)).trans (h5.same q hq hn)⟩
                  refine ⟨k5, ks ++ [⟨x5, m5, a5, c5⟩], v6, rfl, by omega, hk5.2, by simp, by simp; omega, hR6, L6.out, hF6, ?_, by omega⟩
                  have h := HR5.out
                  cases ht5 : rdC s l true k5 with
                  | error e => rw [ht5] at h; exact h
                  | ok q =>
                    obtain ⟨F, k6⟩ := q
                    rw [ht5] at h
                    dsimp only at h ⊢
                    rw [h, appF_snoc]
                case measure =>
                  have hR6 : RdBox w6 B (.slice S n cap) s k5 tv := (G6.out.block B (by rw [World.size_alloc]; omega) (fun e => by have := OC.out B e.symm; omega)).trans (R5.out.below (alloc_below0 w5 _))
                  rw [hR6.c2, hc2]
                  simp
                  omega

theorem nx_text (s : ByteArray) (k : Nat) : (nx s k).word.text.size ≤ s.size := by
  unfold nx
  split
  · exact Nat.zero_le _
  · split
    · dsimp only
      rw [ByteArray.size_extract]
      omega
    · exact Nat.zero_le _
theorem next_text {s : ByteArray} {k : Nat} {r : Nx} (h : nextP s k = .ok r) : r.word.text.size ≤ s.size := by
  unfold nextP at h
  cases hl : lookP s k with
  | error e => rw [hl] at h; cases h
  | ok q =>
    rw [hl] at h
    dsimp only at h
    have hq := look_ok hl
    split at h
    · cases h
    · cases h
      rw [← hq]
      exact nx_text s k
theorem rd_args (s : ByteArray) (l : List Sym) (te : Nat) (i : Int) : (match passP s te 3 with
      | .error e => .error e
      | .ok (false, k1) => .ok (.node 0 0 (⟨#[]⟩, i) .nil .nil, k1)
      | .ok (true, k1) => match rdC s l false k1 with
        | .error e => .error e
        | .ok (.nil, _) => .error (0, 0)
        | .ok (.node _ _ x m _, k2) => match rdC s l true k2 with
          | .error e => .error e
          | .ok (F, k3) => .ok (.node 0 0 (⟨#[]⟩, i) (.node 0 0 x m F) .nil, k3) : Except (Int × Nat) (Fo × Nat)) = match argsC s l te with
      | .error e => .error e
      | .ok (F, k3) => .ok (.node 0 0 (⟨#[]⟩, i) F .nil, k3) := by
  unfold argsC
  cases passP s te 3 with
  | error e => rfl
  | ok q =>
    obtain ⟨b, k1⟩ := q
    cases b with
    | false => rfl
    | true =>
      dsimp only
      cases rdC s l false k1 with
      | error e => rfl
      | ok q =>
        obtain ⟨G, k2⟩ := q
        cases G with
        | nil => rfl
        | node _ _ x m r =>
          dsimp only
          cases rdC s l true k2 with
          | error e => rfl
          | ok q => rfl

set_option maxRecDepth 100000 in
set_option maxHeartbeats 4000000 in
theorem term_of {w0 : World} {B : Nat} {S : Option Addr} {n cap : Nat} {l : List Sym} {tv : Value} {s : ByteArray} {z : Nat} (hB0 : w0.heap.size ≤ B) (hs : s.size ≤ 800) (hS : SigAt w0 S n l) (ih : ∀ y, y < z → ArgsOk w0 B S n cap l tv s y) : TermOk w0 B S n cap l tv s z := by
  intro k w hk hz hB hL
  have HB := hid hB
  have HL := hid hL
  have HS := hid hS
  have hBlt := hB.lt
  have hsm : s.size ≤ maxLen := by unfold maxLen; omega
  have hc := next_rd B (.slice S n cap) tv s k
  have IH := hid ih
  obtain ⟨res, hres⟩ : ∃ res, rdC s l false k = res := ⟨_, rfl⟩
  rw [hres]
  rw [rdC_eq hk] at hres
  unfold rd1 at hres
  dsimp only at hres
  have B0 := alloc_below0 w (.cells #[.string ⟨#[]⟩, .int .i64 0, .slice none 0 0] 28)
  have HB0 := hid (hB.below B0)
  have HF0 : Hid (FrB B w (w.alloc (.cells #[.string ⟨#[]⟩, .int .i64 0, .slice none 0 0] 28))) := hid (Fr.of_below B0)
  have X0 : Hid (XBox (w.alloc (.cells #[.string ⟨#[]⟩, .int .i64 0, .slice none 0 0] 28)) w.heap.size (⟨#[]⟩, 0) (.slice none 0 0)) := World.alloc_heap_new w _
  have hcn := hc _ HB0.out hsm hk
  clear hB hL ih hS B0 hc
  cases hn : nextP s k with
  | error p =>
    rw [hn] at hres hcn
    dsimp only at hres hcn
    unfold faultP at hcn
    have HC := hid hcn
    clear hcn
    go_enter Try.func57, Try.ntmps57
    go_wp2_with fail
    refine HC.out.mono ?_
    rintro e w1 ⟨rfl, hb1⟩
    go_wp2
    exact ⟨rfl, by rw [← hres]; exact ⟨rfl, HF0.out.trans hb1⟩⟩
  | ok r =>
    have hr := next_ok hk hn
    have hwt := next_text hn
    rw [hn] at hres hcn
    obtain ⟨⟨wk, wt, wp⟩, te, er⟩ := r
    unfold Wd.val at hcn
    dsimp only at hres hcn hr hwt
    have HC := hid hcn
    have HRS := hid hres
    clear hcn hres hn
    go_enter Try.func57, Try.ntmps57
    go_wp2_with fail
    refine HC.out.mono ?_
    rintro e w1 ⟨⟨rfl, hrb⟩, hf1⟩
    have hw1 := hf1.low.size
    rw [World.size_alloc] at hw1
    have B1 := alloc_below0 w1 (.cells #[.int .i64 wk, .string wt, .int .i64 wp] 71)
    have R1 := hid (hrb.below B1)
    have X1 : Hid (XBox (w1.alloc (.cells #[.int .i64 wk, .string wt, .int .i64 wp] 71)) w.heap.size (⟨#[]⟩, 0) (.slice none 0 0)) := hid (XBox.below ((hf1.same _ X0.out.lt (by omega)).trans X0.out) B1)
    have W1 : Hid (WdBox (w1.alloc (.cells #[.int .i64 wk, .string wt, .int .i64 wp] 71)) w1.heap.size ⟨wk, wt, wp⟩) := World.alloc_heap_new w1 _
    have F1 : Hid (FrB B w (w1.alloc (.cells #[.int .i64 wk, .string wt, .int .i64 wp] 71))) := hid ((HF0.out.trans hf1).trans (Fr.of_below B1))
    have hw2 : w1.heap.size < (w1.alloc (.cells #[.int .i64 wk, .string wt, .int .i64 wp] 71)).heap.size := by rw [World.size_alloc]; omega
    clear hrb hf1 B1 HC HB0 HF0 X0
    have y0 := W1.out.k0; have y1 := W1.out.k1; have y2 := W1.out.k2
    have r0 := X1.out.c0; have r1 := X1.out.c1; have r2 := X1.out.c2
    have z0 := X1.out.f (k := 0); have z1 := X1.out.f (k := 1); have z2 := X1.out.f (k := 2)
    by_cases h2 : wk = 2
    · subst h2
      have hres := HRS.out
      rw [if_pos rfl] at hres
      go_wp2
      refine bodyPost_ret (results_cell_row rfl _ _ w.heap.size 28 #[.string wt, .int .i64 0, .slice none 0 0] (0, 0) _ rfl (X1.out.all (x := (wt, 0)) _) Try.underlying28 rfl Try.size28) rfl ?_
      rw [← hres]
      exact ⟨⟨(wt, 0), .nil, none, 0, rfl, rfl, ⟨⟨Nat.le_trans hwt hsm, Nat.le_refl _, by simp, by simp [lenF]⟩, .inl ⟨rfl, rfl⟩⟩, (sets_far (by omega) _ _ _).trans R1.out⟩, frB_sets F1.out (Nat.le_refl _) _ _ _⟩
    · have h2b : (wk == 2) = false := by simpa using h2
      by_cases h1 : wk = 1
      · subst h1
        have hres := HRS.out
        rw [if_neg h2, if_pos rfl] at hres
        have L1 := hid (low_fr HL.out F1.out hB0)
        go_wp2_with fail
        generalize w1.alloc (.cells #[.int .i64 1, .string wt, .int .i64 wp] 71) = V1 at R1 X1 W1 F1 L1 hw2 y0 y1 y2 r0 r1 r2 z0 z1 z2 ⊢
        have hsy := symbol_rd B S n cap l tv s te ⟨1, wt, wp⟩ V1 R1.out (HS.out.below L1.out)
        unfold Wd.val at hsy
        dsimp only at hsy
        refine hsy.mono ?_
        rintro e w2 ⟨he2, hb2⟩
        have R2 := hid (R1.out.below hb2)
        have X2 := hid (X1.out.below hb2)
        have F2 := hid (F1.out.trans (Fr.of_below hb2))
        have L2 := hid (low_fr HL.out F2.out hB0)
        have hw3 := hb2.size
        clear hsy hb2 y0 y1 y2 r0 r1 r2 z0 z1 z2 R1 X1 W1 F1 L1
        by_cases hfb : findB l wt = true
        · rw [if_pos hfb] at he2 hres
          subst he2
          replace hres := (rd_args s l te (findI l wt)).symm.trans hres
          have ha := IH.out (s.size - te) (by omega) te w2 hr.2 (Nat.le_refl _) R2.out L2.out
          obtain ⟨ar, har⟩ : ∃ ar, argsC s l te = ar := ⟨_, rfl⟩
          rw [har] at ha hres
          have HRS2 := hid hres
          clear hres HRS har
          go_wp2_with fail
          refine ha.mono ?_
          rintro e w3 ⟨he3, hf3⟩
          have F3 := hid (F2.out.trans hf3)
          have X3 : Hid (XBox w3 w.heap.size (⟨#[]⟩, 0) (.slice none 0 0)) := hid ((hf3.same _ X2.out.lt (by omega)).trans X2.out)
          cases ar with
          | error p =>
            dsimp only at he3
            unfold faultP at he3
            subst he3
            have hres := HRS2.out
            go_wp2
            exact ⟨rfl, by rw [← hres]; exact ⟨rfl, F3.out⟩⟩
          | ok q =>
            obtain ⟨F, k3⟩ := q
            dsimp only at he3
            obtain ⟨v, ks, rfl, hlst, rfl, hnil, hlen, hrb⟩ := he3
            obtain ⟨a3, c3, rfl, hown⟩ := hlst.term (F := appF ks .nil) ((⟨#[]⟩ : ByteArray), findI l wt) (kids_appF ks).symm (show (⟨#[]⟩ : ByteArray).size ≤ maxLen by decide) (by rw [len_appF]; omega)
            have hres := HRS2.out
            dsimp only at hres
            have O3 := hid hown
            have R3 := hid hrb
            clear hlst hnil hown hrb ha hf3
            have r0 := X3.out.c0; have r1 := X3.out.c1; have r2 := X3.out.c2
            have z0 := X3.out.f (k := 0); have z1 := X3.out.f (k := 1); have z2 := X3.out.f (k := 2)
            go_wp2
            refine bodyPost_ret (results_cell_row rfl _ _ w.heap.size 28 #[.string ⟨#[]⟩, .int .i64 (findI l wt), .slice a3 (lenF (appF ks .nil)) c3] (0, 0) _ rfl (X3.out.all (x := ((⟨#[]⟩ : ByteArray), findI l wt)) _) Try.underlying28 rfl Try.size28) rfl ?_
            rw [← hres]
            refine ⟨⟨((⟨#[]⟩ : ByteArray), findI l wt), appF ks .nil, a3, c3, rfl, rfl, ?_, (sets_far (by omega) _ _ _).trans R3.out⟩, frB_sets F3.out (Nat.le_refl _) _ _ _⟩
            have h5 : OwnTm false (fun q => w.heap.size ≤ q ∧ q ≠ w.heap.size) w3 ((⟨#[]⟩ : ByteArray), findI l wt) a3 c3 (appF ks .nil) := O3.out.mono (fun q _ hq => by omega)
            exact (h5.keep (fun q hq _ => sets_far hq.2 _ _ _)).mono (fun q _ hq => hq.1)
        · rw [if_neg hfb] at he2 hres
          unfold faultP at he2
          subst he2
          go_wp2
          exact ⟨rfl, by rw [← hres]; exact ⟨rfl, F2.out⟩⟩
      · have h1b : (wk == 1) = false := by simpa using h1
        have hres := HRS.out
        rw [if_neg h2, if_neg h1] at hres
        go_wp2
        exact ⟨rfl, by rw [← hres]; exact ⟨rfl, F1.out⟩⟩

/-- Reading a term: all of it. -/
theorem term_all {w0 : World} {B : Nat} {S : Option Addr} {n cap : Nat} {l : List Sym} {tv : Value} {s : ByteArray} (hB0 : w0.heap.size ≤ B) (hs : s.size ≤ 800) (hS : SigAt w0 S n l) : ∀ z, TermOk w0 B S n cap l tv s z := by
  intro z
  induction z using Nat.strongRecOn with
  | _ z ih => exact term_of hB0 hs hS (fun y hy => args_of hB0 hs (fun x hx => ih x (by omega)))
end Go.Proofs.Ytkcbhbkldcebiaa
