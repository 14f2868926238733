/- A list of terms under way: a row of its own, the terms' lists elsewhere; what the document's Clones answers. -/
import Derived.Test.YtfnfbljijkjkjaaRSorted
import Derived.Test.YtfnfbljijkjkjaaTRClone
import Derived.Deep.AppendLies
namespace Go.Proofs.Ytfnfbljijkjkjaa
open Go.RowKit Go.Deep

structure Lst (B : Nat) (W : World) (v : Value) (ks : List Kv) : Prop where
  row : W.ownsRow B 26 3 v ks.length (kvCells ks)
  own : ∀ k ∈ ks, OwnTm false (fun q => B ≤ q ∧ some q ≠ v.ownBlock) W k.x k.a k.c k.l
set_option maxRecDepth 100000 in
theorem Lst.nil (B : Nat) (W : World) : Lst B W (.slice none 0 0) [] := ⟨World.ownsRow_nil _ _ _ _, by simp⟩
set_option maxRecDepth 100000 in
theorem Lst.below {B : Nat} {W W' : World} {v : Value} {ks : List Kv} (h : Lst B W v ks) (hb : Below W.heap.size W W') : Lst B W' v ks := ⟨owns_below h.row hb, fun k hk => (h.own k hk).below hb⟩
set_option maxRecDepth 100000 in
theorem Lst.base {B B' : Nat} {W : World} {v : Value} {ks : List Kv} (h : Lst B W v ks) (hB : B' ≤ B) : Lst B' W v ks := ⟨owns_base h.row hB, fun k hk => (h.own k hk).mono (fun q _ hq => ⟨by omega, hq.2⟩)⟩
set_option maxRecDepth 100000 in
theorem Lst.lt {B : Nat} {W : World} {v : Value} {ks : List Kv} {g : Nat} (h : Lst B W v ks) (hg : v.ownBlock = some g) : g < W.heap.size := by
  obtain ⟨cur, hc⟩ := (owns_cells h.row hg).2
  exact (Array.getElem?_eq_some_iff.1 hc).1
set_option maxRecDepth 100000 in
theorem Lst.grow {B : Nat} {W W1 W2 : World} {v v' : Value} {ks ms : List Kv} (h : Lst B W v ks) (hW : Below W.heap.size W W1) (hm : ∀ k ∈ ms, OwnTm false (fun q => W.heap.size ≤ q) W1 k.x k.a k.c k.l) (hB : B ≤ W.heap.size)
    (hg : W1.grownBy W2 v.ownBlock) (hat : v'.ownBlock = v.ownBlock ∨ v'.ownBlock = some W1.heap.size) (ho : W2.ownsRow B 26 3 v' (ks ++ ms).length (kvCells (ks ++ ms))) : Lst B W2 v' (ks ++ ms) := by
  refine ⟨ho, fun k hk => ?_⟩
  have h2 : OwnTm false (fun q => (B ≤ q ∧ some q ≠ v'.ownBlock) ∧ some q ≠ v.ownBlock) W1 k.x k.a k.c k.l := by
    rcases List.mem_append.1 hk with hk | hk
    · have h0 : OwnTm false (fun q => (B ≤ q ∧ some q ≠ v'.ownBlock) ∧ some q ≠ v.ownBlock) W k.x k.a k.c k.l := (h.own k hk).mono (fun q hq hp => ⟨⟨hp.1, by
        rcases hat with e | e
        · rw [e]; exact hp.2
        · rw [e]; intro e'; cases e'; have := hW.size; omega⟩, hp.2⟩)
      exact h0.below hW
    · refine (hm k hk).mono (fun q hq hp => ?_)
      have hne : some q ≠ v.ownBlock := fun e => by have := h.lt e.symm; omega
      refine ⟨⟨by omega, ?_⟩, hne⟩
      rcases hat with e | e
      · rw [e]; exact hne
      · rw [e]; intro e'; cases e'; omega
  exact (h2.keep (fun q hq hlt => hg.block q hlt hq.2)).mono (fun q _ hq => hq.1)
set_option maxRecDepth 100000 in
/-- append of what another slice holds: nil, or some. -/
theorem wpList_append_lst {ops : Array Oper} {rest : List Oper} {o : Oper} {a : Act} {Q : Exit → Act → World → Prop} {W : World} (hgd : o.guard = none) (s x : Operand)
    (ho : o.op = .call { callee := .builtin .append, args := #[s, x], argTypes := #[24, 24] }) (base : Nat) (v : Value) (ks : List Kv) (hs : a.eval s = v) (hown : W.ownsRow base 26 3 v ks.length (kvCells ks))
    (sa : Option Addr) (m c : Nat) (ms : List Kv) (hx : a.eval x = .slice sa m c) (hm : RowAt W sa m ms) (hnil : sa = none → c = 0) (hsome : sa ≠ none → 0 < m) (hbig : ks.length + m ≤ 2932031007400) (hbase : base ≤ W.heap.size)
    (h : ∀ v' w', w'.ownsRow base 26 3 v' (ks ++ ms).length (kvCells (ks ++ ms)) → W.grownBy w' v.ownBlock → (v'.ownBlock = v.ownBlock ∨ v'.ownBlock = some W.heap.size) → wpList Try.prog ops Q rest (a.put o.dst v') w') : wpList Try.prog ops Q (o :: rest) a W := by
  obtain ⟨i0, hi, hz0, hz1, hz2⟩ := info_parts Try.info26
  have hmax : maxLen = 9223372036854775807 := rfl
  rcases sa with _ | ⟨b, off, sp⟩
  · obtain rfl : ms = [] := by
      cases ms with
      | nil => rfl
      | cons k r =>
        obtain ⟨_, _, e, _⟩ := hm.get (j := 0) (k := k) rfl
        cases e
    obtain rfl := hm.len
    obtain rfl := hnil rfl
    refine wpList_append_own_none hgd s x 24 ho base 26 i0 3 Try.underlying24 hi v ks.length (kvCells ks) hs hown hx (h v W (by simpa using hown) ?_ (.inl rfl))
    exact ⟨rfl, rfl, rfl, Nat.le_refl _, fun _ _ _ => rfl⟩
  · have hlm := hm.len
    refine wpList_append_lies _ hgd s x 24 ho base 26 i0 _ 3 48 Try.underlying24 hi hz0 hz1 hz2 rfl (by decide) v ks.length (kvCells ks) hs hown ⟨b, off, sp⟩ m c (kvCells ms) hx (by rw [kvCells_len, hlm]) (fun j u hu => ?_) (kvCells_one ms) (hsome (by simp)) (by omega) (by omega) hbase _ rfl ?_
    · obtain ⟨b', off', e, hc⟩ := hm.cells j u hu
      cases e
      rw [← hc]
      congr 1
      unfold Addr.add
      split <;> simp_all
    · intro g cap w' h1 h2 h3 _
      refine h _ w' ?_ h2 ?_
      · rw [kvCells_append, List.length_append, ← hlm]
        exact h1
      · rcases h3 with h3 | h3
        · exact .inl h3.symm
        · exact .inr (by rw [h3]; rfl)

set_option maxRecDepth 100000 in
set_option maxHeartbeats 2000000 in
theorem clones_any (a : Option Addr) (F : Fo) (cap : Nat) (w : World) (hA : ArgsAt w a F) (hs : lenF F ≤ 2932031007319) :
    Calls Try.prog 105 #[.slice a (lenF F) cap] w fun e w' => ∃ v ks, e = .returned v ∧ Lst w.heap.size w' v ks ∧ (ks = [] → v = .slice none 0 0) ∧ ks.map Kv.tn = kidsL F ∧ Below w.heap.size w w' := by
  have HA : Hid (ArgsAt w a F) := hA
  clear hA
  go_enter Try.func105, Try.ntmps105
  go_wp2
  go_loopw [3, 4] (fun ov i wr => ∃ (j : Nat) (v : Value) (ks : List Kv), j ≤ lenF F ∧ v = ov ∧ i = .int .i64 j ∧ Lst w.heap.size wr v ks ∧ (ks = [] → v = .slice none 0 0) ∧ ks.map Kv.tn = (kidsL F).take j ∧ Below w.heap.size w wr) (fun _ i _ => lenF F - (intOf i).toNat)
  case atStart => exact ⟨0, _, [], Nat.zero_le _, rfl, rfl, Lst.nil _ _, fun _ => rfl, by simp, Below.refl _ _⟩
  case round =>
    obtain ⟨j, v, ks, hj, rfl, rfl, hL, hnil, hmap, hlow⟩ := hrel
    have HN : Hid (ks = [] → v = .slice none 0 0) := hnil
    have HL : Hid (Lst w.heap.size wr v ks) := hL
    have HM : Hid (ks.map Kv.tn = (kidsL F).take j) := hmap
    have HB : Hid (Below w.heap.size w wr) := hlow
    have hkl : ks.length = j := by
      have := congrArg List.length hmap
      rw [List.length_map, List.length_take, kids_len] at this
      omega
    clear hL hnil hmap hlow
    by_cases hlt : j < lenF F
    · obtain ⟨bb, oo, rfl, hkk⟩ := HA.out.get (by omega)
      obtain ⟨y, a1, c1, l1, kd⟩ := hkk.kid (k := j) hlt
      have kd' := kd.below HB.out
      have p0 := kd'.name; have p1 := kd'.sym; have p2 := kd'.list
      have KD : Hid (Kid wr F bb oo j y a1 c1 l1) := kd'
      have hj0 : (0 : Int) ≤ (j : Int) := by omega
      have hjn : (j : Int) < (lenF F : Int) := by omega
      clear kd kd' hkk
      have HC : Hid (∀ W, Below wr.heap.size wr W → Calls Try.prog 29 #[.agg #[.string y.1, .int .i64 y.2, .slice a1 (lenF l1) c1]] W fun e w' => ∃ a' c', e = .returned (.agg #[.string y.1, .int .i64 y.2, .slice a' (lenF l1) c']) ∧ RowTm W.heap.size w' y a' c' l1 ∧ Below W.heap.size W w') := fun W hW => rclone_any y l1 a1 c1 W (KD.out.at_.below hW)
      go_wp2_with (first
        | (go_at_call 29; refine (HC.out _ (Below.refl _ _)).mono ?_; rintro e w1 ⟨a', c', rfl, ho1, hb1⟩; have HO1 : Hid (OwnTm false (fun q => wr.heap.size ≤ q) w1 y a' c' l1) := ho1.own; have HB1 : Hid (Below wr.heap.size wr w1) := hb1; have hz1 := hb1.size; clear ho1 hb1)
        | (at_builtin; refine wpList_append_lst rfl _ _ rfl w.heap.size v ks rfl (owns_below HL.out.row (HB1.out.alloc hz1 _)) (some ⟨w1.heap.size, 0, none⟩) 1 1 [⟨y, l1, a', c'⟩] rfl (RowAt.new w1 ⟨y, l1, a', c'⟩) (fun e => by cases e) (fun _ => Nat.one_pos) (by omega) (by have := HB.out.size; rw [World.size_alloc]; omega) ?_; intro v2 w2 hown2 hgrow2 hat2; have HL2 : Hid (Lst w.heap.size w2 v2 (ks ++ [⟨y, l1, a', c'⟩])) := HL.out.grow (HB1.out.alloc hz1 _) (fun k hk => by simp only [List.mem_singleton] at hk; subst hk; exact HO1.out.below ((Below.refl _ _).alloc (Nat.le_refl _) _)) HB.out.size hgrow2 hat2 hown2; have HB2 : Hid (Below w.heap.size w w2) := HB.out.trans (((HB1.out.alloc hz1 _).mono HB.out.size).grown hgrow2 (by have := HB.out.size; rw [World.size_alloc]; omega) (fun k e => (owns_cells HL.out.row e).1)); clear hown2 hgrow2 hat2))
      go_roundw
      case rel =>
        obtain ⟨B1, O1, sp⟩ := KD.out.split
        exact ⟨j + 1, _, _, by omega, rfl, by go_num, HL2.out, fun e => by simp at e, by rw [kids_take sp, ← HM.out]; simp [Kv.tn], HB2.out⟩
      case measure => simp [intOf]; omega
    · obtain rfl : j = lenF F := by omega
      have HM' : Hid (ks.map Kv.tn = kidsL F) := by have := HM.out; rwa [List.take_of_length_le (by rw [kids_len]; exact Nat.le_refl _)] at this
      go_wp2
      go_ret
      exact ⟨v, ks, rfl, HL.out, HN.out, HM'.out, HB.out⟩
end Go.Proofs.Ytfnfbljijkjkjaa
