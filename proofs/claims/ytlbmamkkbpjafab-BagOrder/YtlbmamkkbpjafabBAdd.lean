/- What Insert and Delete do to a row of items, and what Add does. -/
import Derived.Test.YtlbmamkkbpjafabBIns
import Derived.Test.YtlbmamkkbpjafabBCount
namespace Go.Proofs.Ytlbmamkkbpjafab
open Go.RowKit Go.Deep

theorem RowIt.owns {W : World} {g cap : Nat} {l : List It} (h : RowIt W g cap l) {base : Nat} (hb : base ≤ g) : W.ownsRow base 32 3 (.slice (some ⟨g, 0, none⟩) l.length cap) l.length (itAll l) := by
  obtain ⟨cur, h1, h2, h3⟩ := h.row
  exact ⟨itAll_len l, .inr ⟨g, cap, cur, rfl, hb, h1, h.fits, h.small, h2, h3⟩⟩
theorem rowIt_of {W : World} {base : Nat} {p : Option Addr} {c : Nat} {l : List It} (h : W.ownsRow base 32 3 (.slice p l.length c) l.length (itAll l)) (hl : 0 < l.length) : ∃ g, p = some ⟨g, 0, none⟩ ∧ base ≤ g ∧ RowIt W g c l := by
  rcases h.2 with ⟨_, h2⟩ | ⟨g, cap, cur, h1, h2, h3, h4, h5, h6, h7⟩
  · omega
  · have e := Value.slice.inj h1
    obtain ⟨e1, _, e3⟩ := e
    subst e1
    subst e3
    exact ⟨g, rfl, h2, ⟨cur, h3, h6, h7⟩, h4, h5⟩
theorem fr_grown {w w' : World} {r : Option Nat} (h : w.grownBy w' r) : Fr (fun q => r = some q) w w' := ⟨⟨h.os, h.tape, h.output, h.size, fun k hk => absurd hk (Nat.not_lt_zero k)⟩, fun k hk hA => h.block k hk (fun e => hA e.symm)⟩
theorem own_eq (p : Option Addr) (n c : Nat) : (Value.slice p n c).ownBlock = p.map Addr.block := by cases p <;> rfl
theorem itAll_at (l : List It) (i : Nat) (hi : i < l.length) (k : Nat) (hk : k < 3) : (itAll l)[i * 3 + k]? = (itCells l[i])[k]? := by
  rw [← List.getElem?_drop, itAll_drop, List.drop_eq_getElem_cons hi]
  show (itCells l[i] ++ itAll _)[k]? = _
  rw [List.getElem?_append_left hk]
theorem owns_its {W : World} {base : Nat} {p : Option Addr} {c : Nat} {l : List It} (h : W.ownsRow base 32 3 (.slice p l.length c) l.length (itAll l)) : ItsAt W p l.length l := by
  by_cases hl : l.length = 0
  · exact ⟨rfl, by rw [hl]; exact Nat.zero_le _, fun i hi => by omega⟩
  · obtain ⟨g, rfl, _, hR⟩ := rowIt_of h (by omega)
    refine ⟨rfl, Nat.le_trans hR.fits hR.small, fun i hi => ⟨g, 0, rfl, ?_, ?_, ?_⟩⟩ <;> rw [Nat.zero_add]
    · exact hR.cells (itAll_at l i hi 0 (by decide))
    · exact hR.cells (itAll_at l i hi 1 (by decide))
    · exact hR.cells (itAll_at l i hi 2 (by decide))
theorem insert_any (base vb i : Nat) (p : Option Addr) (cap : Nat) (l : List It) (x : It) (w : World) (hown : w.ownsRow base 32 3 (.slice p l.length cap) l.length (itAll l)) (hi : i ≤ l.length) (hn : l.length ≤ 1048576) (hbase : base ≤ w.heap.size) (hv : w.heap[vb]? = some (.cells #[.int .i64 x.1.1, .int .i64 x.1.2, .int .i64 x.2] 32 (0, 0))) (hvb : p.map Addr.block ≠ some vb) :
    Calls Try.prog 16 #[.slice p l.length cap, .int .i64 i, .slice (some ⟨vb, 0, none⟩) 1 1] w fun e w' => ∃ p' c', e = .returned (.slice p' (l.length + 1) c') ∧ w'.ownsRow base 32 3 (.slice p' (l.length + 1) c') (l.length + 1) (itAll (l.take i ++ x :: l.drop i)) ∧ Fr (fun q => p.map Addr.block = some q) w w' ∧ ∀ q, p'.map Addr.block = some q → p.map Addr.block = some q ∨ w.heap.size ≤ q := by
  by_cases hl : i = l.length
  · subst hl
    refine Calls.mono (insert_end base vb p cap l x w hown hn hbase hv) ?_
    rintro e w' ⟨v', rfl, h1, h2, h5⟩
    have e0 : itAll (l.take l.length ++ x :: l.drop l.length) = itAll l ++ itCells x := by
      rw [List.take_of_length_le (Nat.le_refl _), List.drop_eq_nil_of_le (Nat.le_refl _), itAll_append]
      show _ ++ (itCells x ++ []) = _
      rw [List.append_nil]
    rw [e0]
    obtain ⟨g, c, _, hf, _⟩ := h1.2.resolve_left (fun h => by omega)
    rw [hf] at h1 h5
    simp only [own_eq] at h2 h5
    refine ⟨_, _, by rw [hf], h1, fr_grown h2, fun q hq => ?_⟩
    have h6 : some g = some q := hq
    rcases h5 with h5 | h5
    · have h7 : some g = p.map Addr.block := h5
      exact .inl (h7.symm.trans h6)
    · have h7 : some g = some w.heap.size := h5
      exact .inr (by have := Option.some.inj (h6.symm.trans h7); omega)
  · have hlt : i < l.length := by omega
    obtain ⟨g, rfl, hg, hR⟩ := rowIt_of hown (by omega)
    have hll : (l.take i ++ x :: l.drop i).length = l.length + 1 := by simp; omega
    by_cases hroom : l.length + 1 ≤ cap
    · refine Calls.mono (insert_shift g cap i vb l x w hR hlt hroom hn (fun e => hvb (by rw [e]; rfl)) hv) ?_
      rintro e w' ⟨rfl, h1, h2⟩
      have h3 := h1.owns (base := base) hg
      rw [hll] at h3
      exact ⟨_, _, rfl, h3, ⟨h2.low, fun k hk hA => h2.same k hk (fun e => hA (by rw [e]; rfl))⟩, fun q hq => .inl hq⟩
    · refine Calls.mono (insert_grow g cap i vb l x w hR hlt (by omega) hn hv) ?_
      rintro e w' ⟨c, rfl, h1, h2⟩
      have h3 := h1.owns (base := base) hbase
      rw [hll] at h3
      exact ⟨_, _, rfl, h3, Fr.of_below h2, fun q hq => .inr (by have h6 : some w.heap.size = some q := hq; have := Option.some.inj h6; omega)⟩
/-- A bag in memory: its box and its row. -/
def BagAt (base B : Nat) (W : World) (l : List It) (p : Option Addr) (c : Nat) : Prop := BagBox W B (.slice p l.length c) ∧ W.ownsRow base 32 3 (.slice p l.length c) l.length (itAll l) ∧ p.map Addr.block ≠ some B
theorem owns_fr {A : Nat → Prop} {W W' : World} {base n : Nat} {v : Value} {xs : List Value} (h : W.ownsRow base 32 3 v n xs) (hf : Fr A W W') (hA : ∀ q, v.ownBlock = some q → ¬ A q) : W'.ownsRow base 32 3 v n xs :=
  ⟨h.1, h.2.imp id (fun ⟨g, cap, cur, h1, h2, h3, h4⟩ => ⟨g, cap, cur, h1, h2, (hf.same g (Array.getElem?_eq_some_iff.1 h3).1 (hA g (by rw [h1]; rfl))).trans h3, h4⟩)⟩
theorem BagAt.below {base B : Nat} {W W' : World} {l : List It} {p : Option Addr} {c : Nat} (h : BagAt base B W l p c) (hb : Below W.heap.size W W') : BagAt base B W' l p c :=
  ⟨h.1.below hb, owns_fr h.2.1 (Fr.of_below (A := fun _ => False) hb) (fun _ _ h => h), h.2.2⟩
theorem bag_set {W : World} {B : Nat} {v : Value} (h : BagBox W B v) (v' : Value) : BagBox (W.setCell ⟨B, 1, none⟩ v') B v' := block_set h v'
theorem fr_set (W : World) (B i : Nat) (v : Value) : Fr (fun q => q = B) W (W.setCell ⟨B, i, none⟩ v) := ⟨(Below.refl _ W).setCell (p := ⟨B, i, none⟩) (Nat.zero_le _) v, fun _ _ hq => set_far hq v⟩
theorem Fr.mono {A A' : Nat → Prop} {W W' : World} (h : Fr A W W') (hA : ∀ q, A q → A' q) : Fr A' W W' := ⟨h.low, fun k hk hn => h.same k hk (fun ha => hn (hA k ha))⟩
/-- Add, of a row. -/
def addP (x : Th) (n : Int) (l : List It) : Bool × List It :=
  if n = 0 then (true, l) else if cntK x.1 l + n < 0 then (false, l) else if cntK x.1 l + n = 0 then (true, l.eraseIdx (posK x.1 l))
  else if thereB x.1 l = true then (true, match l[posK x.1 l]? with | some y => l.set (posK x.1 l) (y.1, cntK x.1 l + n) | none => l)
  else (true, l.take (posK x.1 l) ++ (x, cntK x.1 l + n) :: l.drop (posK x.1 l))
/-- What Add leaves. -/
def AddEnd (base B : Nat) (p : Option Addr) (x : Th) (n : Int) (l : List It) (w : World) (e : Ending) (w' : World) : Prop := ∃ p' c', e = .returned (.bool (addP x n l).1) ∧ BagAt base B w' (addP x n l).2 p' c' ∧ Fr (fun q => q = B ∨ p.map Addr.block = some q) w w' ∧ ∀ q, p'.map Addr.block = some q → p.map Addr.block = some q ∨ w.heap.size ≤ q
set_option maxRecDepth 100000 in
set_option maxHeartbeats 4000000 in
/-- Add of a thing that is not there. -/
theorem add_away (base B : Nat) (p : Option Addr) (c : Nat) (l : List It) (x : Th) (n : Int) (w : World) (hA : BagAt base B w l p c) (hbase : base ≤ w.heap.size) (hs : Srt l) (hn : l.length ≤ 1048576) (hth : thereB x.1 l = false) (hn0 : n ≠ 0) (hnb : -1000000000000 ≤ n ∧ n ≤ 1000000000000) :
    Calls Try.prog 6 #[.pointer (some ⟨B, 0, none⟩), thV x, .int .i64 n] w (AddEnd base B p x n l w) := by
  obtain ⟨xk, xm⟩ := x
  obtain ⟨hB, hO, hpB⟩ := hA
  have hc0 : cntK xk l = 0 := by unfold cntK; rw [show thereB xk l = false from hth]; rfl
  have hple := pos_le xk l
  dsimp only [thV]
  have b1 := alloc_below0 w (.cells #[.int .i64 xk, .int .i64 xm] 26)
  have n1 := hid (World.alloc_heap_new w (.cells #[.int .i64 xk, .int .i64 xm] 26))
  have L1 := hid b1
  have HB := hid (hB.below b1)
  have HO := hid (hO.kept (World.grownBy_alloc w (.cells #[.int .i64 xk, .int .i64 xm] 26) none) (by cases p <;> simp [Value.ownBlock]))
  have HC : Hid (∀ W, Below (w.alloc (.cells #[.int .i64 xk, .int .i64 xm] 26)).heap.size (w.alloc (.cells #[.int .i64 xk, .int .i64 xm] 26)) W → Calls Try.prog 13 #[ordV, .slice p l.length c, .agg #[.int .i64 xk, .int .i64 xm]] W fun e w' => e = .returned (.tuple #[.int .i64 (posK xk l), .bool false]) ∧ Below W.heap.size W w') := hid fun W hW => by
    have h := find_any p c l (xk, xm) W (((owns_its hO).below b1).below hW) hs hn
    dsimp only [thV] at h
    rw [show thereB xk l = false from hth] at h
    exact h
  have HS : Hid (∀ W, Calls Try.prog 14 #[.int .i64 0, .int .i64 n] W fun e w' => e = .returned (.int .i64 n) ∧ w' = W) := hid fun W => by
    have h := sum_any 0 n W (by omega) hnb
    rw [Int.zero_add] at h
    exact h
  by_cases hneg : n < 0
  · have ha : addP (xk, xm) n l = (false, l) := by
      unfold addP
      rw [if_neg hn0]
      show (if cntK xk l + n < 0 then _ else _) = _
      rw [hc0, Int.zero_add, if_pos hneg]
    have HA := hid ha
    have HD := hid hpB
    clear b1 hB hO hs hth ha hpB
    have f1 := HB.out.c1
    go_enter Try.func6, Try.ntmps6
    go_upto_region 4 with fail
    clear f1
    generalize w.alloc (.cells #[.int .i64 xk, .int .i64 xm] 26) = V at n1 L1 HB HC HO ⊢
    have hne := later_some V
    have d0 := later_cell (cell_box (i := 0) n1.out rfl); have d1 := later_cell (cell_box (i := 1) n1.out rfl)
    have d2 := later_cell HB.out.c0; have d3 := later_cell HB.out.c1
    refine wp_region_later (by kernel_rfl) (by kernel_rfl) ?_
    repeat (go_big_quiet_step (first | (go_at_call 13; with_reducible refine calls_later (HC.out _ ?_); exact Later.below _) | fail))
    refine wpQuiet_nil ?_
    intro _ hw'
    obtain ⟨b3, hw''⟩ := hw'
    subst hw''
    clear d0 d1 d2 d3 hne
    go_wp2_with fail
    refine (HS.out _).mono ?_
    rintro e w1 ⟨rfl, rfl⟩
    go_wp2_with fail
    go_ret
    have hb := L1.out.trans (b3.below.mono L1.out.size)
    refine ⟨p, c, by rw [HA.out]; rfl, ?_, Fr.of_below hb, fun q hq => .inl hq⟩
    rw [HA.out]
    exact BagAt.below (W := V) ⟨HB.out, HO.out, HD.out⟩ b3.below
  · have ha : addP (xk, xm) n l = (true, l.take (posK xk l) ++ ((xk, xm), n) :: l.drop (posK xk l)) := by
      unfold addP
      rw [if_neg hn0]
      show (if cntK xk l + n < 0 then _ else if cntK xk l + n = 0 then _ else if thereB xk l = true then _ else (true, l.take (posK xk l) ++ ((xk, xm), cntK xk l + n) :: l.drop (posK xk l))) = _
      rw [hc0, Int.zero_add, if_neg hneg, if_neg hn0, if_neg (by rw [show thereB xk l = false from hth]; decide)]
    have hll : (l.take (posK xk l) ++ ((xk, xm), n) :: l.drop (posK xk l)).length = l.length + 1 := by simp; omega
    have HA := hid ha
    have HD := hid hpB
    have HL := hid hll
    have HI : Hid (∀ W, Below (w.alloc (.cells #[.int .i64 xk, .int .i64 xm] 26)).heap.size (w.alloc (.cells #[.int .i64 xk, .int .i64 xm] 26)) W → Calls Try.prog 16 #[.slice p l.length c, .int .i64 (posK xk l), .slice (some ⟨W.heap.size, 0, none⟩) 1 1] (W.alloc (.cells #[.int .i64 xk, .int .i64 xm, .int .i64 n] 32)) fun e w' => ∃ p' c', e = .returned (.slice p' (l.length + 1) c') ∧ w'.ownsRow base 32 3 (.slice p' (l.length + 1) c') (l.length + 1) (itAll (l.take (posK xk l) ++ ((xk, xm), n) :: l.drop (posK xk l))) ∧ Fr (fun q => p.map Addr.block = some q) (W.alloc (.cells #[.int .i64 xk, .int .i64 xm, .int .i64 n] 32)) w' ∧ ∀ q, p'.map Addr.block = some q → p.map Addr.block = some q ∨ (W.alloc (.cells #[.int .i64 xk, .int .i64 xm, .int .i64 n] 32)).heap.size ≤ q) := hid fun W hW => by
      have hO1 := owns_fr HO.out (Fr.of_below (A := fun _ => False) hW) (fun _ _ h => h)
      have b2 := alloc_below0 W (.cells #[.int .i64 xk, .int .i64 xm, .int .i64 n] 32)
      refine insert_any base W.heap.size (posK xk l) p c l ((xk, xm), n) _ (owns_fr hO1 (Fr.of_below (A := fun _ => False) b2) (fun _ _ h => h)) hple hn ?_ (World.alloc_heap_new W _) ?_
      · have h1 := L1.out.size
        have h2 := hW.size
        have h3 := b2.size
        omega
      · intro e
        have := (hO1.lt W.heap.size (by rw [own_eq]; exact e)).2
        omega
    clear b1 hB hO hs hth ha hpB hll
    have f1 := HB.out.c1
    go_enter Try.func6, Try.ntmps6
    go_upto_region 4 with fail
    clear f1
    generalize w.alloc (.cells #[.int .i64 xk, .int .i64 xm] 26) = V at n1 L1 HB HC HO HI ⊢
    have hne := later_some V
    have d0 := later_cell (cell_box (i := 0) n1.out rfl); have d1 := later_cell (cell_box (i := 1) n1.out rfl)
    have d2 := later_cell HB.out.c0; have d3 := later_cell HB.out.c1
    refine wp_region_later (by kernel_rfl) (by kernel_rfl) ?_
    repeat (go_big_quiet_step (first | (go_at_call 13; with_reducible refine calls_later (HC.out _ ?_); exact Later.below _) | fail))
    refine wpQuiet_nil ?_
    intro _ hw'
    obtain ⟨b3, hw''⟩ := hw'
    subst hw''
    have g0 := d0 b3; have g1 := d1 b3
    clear d0 d1 d2 d3 hne
    go_wp2_with fail
    refine (HS.out _).mono ?_
    rintro e w1 ⟨rfl, rfl⟩
    go_wp2_with fail
    refine (HI.out _ b3.below).mono ?_
    rintro e w1 ⟨p', c', rfl, h1, h2, h3⟩
    have b4 := alloc_below0 b3.now (.cells #[.int .i64 xk, .int .i64 xm, .int .i64 n] 32)
    have hBb : BagBox (b3.now.alloc (.cells #[.int .i64 xk, .int .i64 xm, .int .i64 n] 32)) B (.slice p l.length c) := (HB.out.below b3.below).below b4
    have hB1 : BagBox w1 B (.slice p l.length c) := (h2.same B hBb.lt HD.out).trans hBb
    have hbb := (L1.out.trans (b3.below.mono L1.out.size)).trans (b4.mono (Nat.le_trans L1.out.size b3.below.size))
    have H1 := hid h1; have H2 := hid h2; have H3 := hid h3; have HB1 := hid hB1; have HBB := hid hbb; have HBS := hid hBb
    have k0 := hB1.c1; have k1 := hB1.f (i := 1)
    clear h1 h2 h3 hB1 b4 hBb hbb g0 g1
    go_wp2_with fail
    go_ret
    have hdis : p'.map Addr.block ≠ some B := fun e => by
      rcases H3.out B e with h | h
      · exact HD.out h
      · have := HBS.out.lt
        omega
    refine ⟨p', c', by rw [HA.out]; rfl, ?_, ?_, fun q hq => (H3.out q hq).imp id (fun h => Nat.le_trans HBB.out.size h)⟩
    · rw [HA.out]
      refine ⟨?_, ?_, hdis⟩ <;> dsimp only <;> rw [HL.out]
      · exact bag_set HB1.out _
      · exact owns_fr H1.out (fr_set w1 B 1 _) (fun q hq e => hdis (by rw [← own_eq p' (l.length + 1) c', hq, e]))
    · exact (Fr.of_below HBB.out).trans ((H2.out.mono fun q h => .inr h).trans ((fr_set w1 B 1 _).mono fun q h => .inl h))
theorem itAll_set (v : Int) : ∀ (l : List It) (i : Nat) (h : i < l.length), (itAll l).set (i * 3 + 2) (.int .i64 v) = itAll (l.set i (l[i].1, v))
  | y :: r, 0, _ => rfl
  | y :: r, i + 1, h => by
    have e : (i + 1) * 3 + 2 = (i * 3 + 2) + 3 := by omega
    rw [e]
    have ih := itAll_set v r i (by simpa using h)
    show _ :: _ :: _ :: (itAll r).set (i * 3 + 2) _ = _ :: _ :: _ :: itAll (r.set i _)
    rw [ih]
    rfl
set_option maxRecDepth 100000 in
set_option maxHeartbeats 4000000 in
/-- Add of a thing that is there. -/
theorem add_there (base B : Nat) (p : Option Addr) (c : Nat) (l : List It) (x : Th) (n : Int) (w : World) (hA : BagAt base B w l p c) (hs : Srt l) (hn : l.length ≤ 1048576) (hth : thereB x.1 l = true) (hn0 : n ≠ 0) (hnb : -1000000000000 ≤ n ∧ n ≤ 1000000000000) (hcb : -1000000000000 ≤ cntK x.1 l ∧ cntK x.1 l ≤ 1000000000000) :
    Calls Try.prog 6 #[.pointer (some ⟨B, 0, none⟩), thV x, .int .i64 n] w (AddEnd base B p x n l w) := by
  obtain ⟨xk, xm⟩ := x
  obtain ⟨hB, hO, hpB⟩ := hA
  have hth' : thereB xk l = true := hth
  obtain ⟨hp, _⟩ := there_lt hth'
  have hc0 := cnt_there hth' hp
  obtain ⟨g, rfl, hgb, hR⟩ := rowIt_of hO (by omega)
  have hgB : g ≠ B := fun e => hpB (by rw [e]; rfl)
  dsimp only [thV]
  dsimp only at hcb
  have b1 := alloc_below0 w (.cells #[.int .i64 xk, .int .i64 xm] 26)
  have n1 := hid (World.alloc_heap_new w (.cells #[.int .i64 xk, .int .i64 xm] 26))
  have L1 := hid b1
  have HAt := hid (BagAt.below ⟨hB, hO, hpB⟩ b1)
  obtain ⟨cn, hcn⟩ : ∃ q, cntK xk l = q := ⟨_, rfl⟩
  obtain ⟨pos, hpos⟩ : ∃ q, posK xk l = q := ⟨_, rfl⟩
  have HC : Hid (∀ W, Below (w.alloc (.cells #[.int .i64 xk, .int .i64 xm] 26)).heap.size (w.alloc (.cells #[.int .i64 xk, .int .i64 xm] 26)) W → Calls Try.prog 13 #[ordV, .slice (some ⟨g, 0, none⟩) l.length c, .agg #[.int .i64 xk, .int .i64 xm]] W fun e w' => e = .returned (.tuple #[.int .i64 pos, .bool true]) ∧ Below W.heap.size W w') := hid fun W hW => by
    have h := find_any (some ⟨g, 0, none⟩) c l (xk, xm) W (((owns_its hO).below b1).below hW) hs hn
    dsimp only [thV] at h
    rw [hth', hpos] at h
    exact h
  have ha : addP (xk, xm) n l = if cn + n < 0 then (false, l) else if cn + n = 0 then (true, l.eraseIdx pos) else (true, match l[pos]? with | some y => l.set pos (y.1, cn + n) | none => l) := by
    unfold addP
    rw [if_neg hn0]
    dsimp only
    rw [hth', hcn, hpos, if_pos rfl]
  rw [hcn] at hcb
  simp only [hpos] at hp hc0
  rw [hcn] at hc0
  have HS : Hid (∀ W, Calls Try.prog 14 #[.int .i64 cn, .int .i64 n] W fun e w' => e = .returned (.int .i64 (cn + n)) ∧ w' = W) := hid fun W => sum_any cn n W hcb hnb
  have HE : Hid (∀ W, Below w.heap.size w W → W.cell? ⟨g, pos * 3 + 2, none⟩ = some (.int .i64 cn)) := hid fun W hW => below_cell hW _ _ (by rw [hc0]; exact hR.cells (itAll_at l pos hp 2 (by decide)))
  obtain ⟨lf, hlf⟩ : ∃ q, cn + n = q := ⟨_, rfl⟩
  rw [hlf] at ha HS
  have HA := hid ha
  have HGT := hid (List.getElem?_eq_getElem hp)
  have hpi : ((pos : Nat) : Int) + 1 ≤ (l.length : Int) := by omega
  clear b1 hB hO hs hth hth' ha hpB hc0 hcn hpos hlf hR hcb hnb
  have f1 := HAt.out.1.c1
  go_enter Try.func6, Try.ntmps6
  go_upto_region 4 with fail
  clear f1
  generalize w.alloc (.cells #[.int .i64 xk, .int .i64 xm] 26) = V at n1 L1 HAt HC ⊢
  have hne := later_some V
  have d0 := later_cell (cell_box (i := 0) n1.out rfl); have d1 := later_cell (cell_box (i := 1) n1.out rfl)
  have d2 := later_cell HAt.out.1.c0; have d3 := later_cell HAt.out.1.c1
  refine wp_region_later (by kernel_rfl) (by kernel_rfl) ?_
  repeat (go_big_quiet_step (first | (go_at_call 13; with_reducible refine calls_later (HC.out _ ?_); exact Later.below _) | fail))
  refine wpQuiet_nil ?_
  intro _ hw'
  obtain ⟨b3, hw''⟩ := hw'
  subst hw''
  have HBl := hid (L1.out.trans (b3.below.mono L1.out.size))
  have HA3 := hid (HAt.out.below b3.below)
  have e1 := HE.out _ HBl.out
  clear d0 d1 d2 d3 hne
  have hR3 : RowIt b3.now g c l := by
    obtain ⟨g', hg', _, h⟩ := rowIt_of HA3.out.2.1 (by omega)
    cases hg'
    exact h
  rcases Int.lt_trichotomy lf 0 with hl | hl | hl
  · have HA' := hid (HA.out.trans (if_pos hl))
    go_wp2_with fail
    refine (HS.out _).mono ?_
    rintro e w1 ⟨rfl, rfl⟩
    go_wp2_with fail
    go_ret
    refine ⟨_, c, by rw [HA'.out]; rfl, ?_, Fr.of_below HBl.out, fun q hq => .inl hq⟩
    rw [HA'.out]
    exact HA3.out
  · have HA' := hid (HA.out.trans ((if_neg (by omega)).trans (if_pos hl)))
    have HD := hid (delete_any g c pos l b3.now hR3 hp hn)
    subst hl
    clear hR3
    go_wp2_with fail
    refine (HS.out _).mono ?_
    rintro e w1 ⟨rfl, rfl⟩
    go_wp2_with fail
    refine HD.out.mono ?_
    rintro e w1 ⟨rfl, h1, h2⟩
    have hB1 : BagBox w1 B (.slice (some ⟨g, 0, none⟩) l.length c) := (h2.same B HA3.out.1.lt (fun e => hgB e.symm)).trans HA3.out.1
    have H1 := hid h1; have H2 := hid h2; have HB1 := hid hB1
    have k0 := hB1.c1; have k1 := hB1.f (i := 1)
    clear h1 h2 hB1 e1
    go_wp2_with fail
    go_ret
    have hel : (l.eraseIdx pos).length = l.length - 1 := List.length_eraseIdx_of_lt hp
    have hO1 := H1.out.owns (base := base) hgb
    refine ⟨some ⟨g, 0, none⟩, c, by rw [HA'.out]; rfl, ?_, ?_, fun q hq => .inl hq⟩
    · rw [HA'.out]
      refine ⟨?_, owns_fr hO1 (fr_set w1 B 1 _) (fun q hq e => hgB ((Option.some.inj hq).trans e)), HA3.out.2.2⟩
      dsimp only
      rw [hel]
      exact bag_set HB1.out _
    · exact (Fr.of_below HBl.out).trans ((H2.out.mono fun q h => .inr (by rw [h]; rfl)).trans ((fr_set w1 B 1 _).mono fun q h => .inl h))
  · have HA' := hid (HA.out.trans ((if_neg (by omega)).trans ((if_neg (by omega)).trans (show _ = (true, l.set pos (l[pos].1, lf)) by rw [HGT.out]))))
    have k1 := (hR3.any (j := pos * 3 + 2) (by have := hR3.fits; omega)).2
    clear hR3
    go_wp2_with fail
    refine (HS.out _).mono ?_
    rintro e w1 ⟨rfl, rfl⟩
    go_wp2_with fail
    go_ret
    have hs := World.ownsRow.stored HA3.out.2.1 (pos * 3 + 2) (.int .i64 lf)
    rw [itAll_set lf l pos hp] at hs
    refine ⟨some ⟨g, 0, none⟩, c, by rw [HA'.out]; rfl, ?_, ?_, fun q hq => .inl hq⟩
    · rw [HA'.out]
      refine ⟨?_, ?_, HA3.out.2.2⟩ <;> dsimp only <;> rw [List.length_set]
      · exact ((fr_set b3.now g _ _).same B HA3.out.1.lt (fun e => hgB e.symm)).trans HA3.out.1
      · exact hs.1
    · exact (Fr.of_below HBl.out).trans ((fr_set b3.now g _ _).mono fun q h => .inr (by rw [h]; rfl))
set_option maxRecDepth 100000 in
set_option maxHeartbeats 4000000 in
/-- Add. -/
theorem add_any (base B : Nat) (p : Option Addr) (c : Nat) (l : List It) (x : Th) (n : Int) (w : World) (hA : BagAt base B w l p c) (hbase : base ≤ w.heap.size) (hs : Srt l) (hn : l.length ≤ 1048576) (hnb : -1000000000000 ≤ n ∧ n ≤ 1000000000000) (hcb : -1000000000000 ≤ cntK x.1 l ∧ cntK x.1 l ≤ 1000000000000) :
    Calls Try.prog 6 #[.pointer (some ⟨B, 0, none⟩), thV x, .int .i64 n] w (AddEnd base B p x n l w) := by
  by_cases hn0 : n = 0
  · subst hn0
    obtain ⟨xk, xm⟩ := x
    have ha : addP (xk, xm) 0 l = (true, l) := by
      unfold addP
      rw [if_pos rfl]
    dsimp only [thV]
    have b1 := alloc_below0 w (.cells #[.int .i64 xk, .int .i64 xm] 26)
    have HA := hid ha; have H0 := hid hA; have L1 := hid b1
    clear ha hA b1
    go_enter Try.func6, Try.ntmps6
    go_wp2_with fail
    go_ret
    refine ⟨p, c, by rw [HA.out]; rfl, ?_, Fr.of_below L1.out, fun q hq => .inl hq⟩
    rw [HA.out]
    exact H0.out.below L1.out
  · cases hth : thereB x.1 l with
    | false => exact add_away base B p c l x n w hA hbase hs hn hth hn0 hnb
    | true => exact add_there base B p c l x n w hA hs hn hth hn0 hnb hcb
end Go.Proofs.Ytlbmamkkbpjafab
