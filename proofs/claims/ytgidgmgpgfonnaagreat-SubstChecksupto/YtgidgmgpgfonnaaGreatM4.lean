/- Texts laid together: RLst, PApp, ShelfS, ShelfC, TCmp, PSep, PSort, PUnit, TBackP, CanR. -/
import Derived.Deep.AppendLies
import Derived.Shelf.SlSortCmp.WholeK
import Derived.Test.YtgidgmgpgfonnaaGreatProg
import Derived.Shelf.Small.Strs
import Derived.Shelf.Small.Wraps
import Derived.Test.YtgidgmgpgfonnaaGreatRows
import Derived.WalkKit
import Derived.Sort.Grow
import Derived.WalkSpells
import Derived.WalkLawsBesides
import Derived.Test.YtgidgmgpgfonnaaGreatM3
/- A list of terms under way: a row of its own, the terms' lists elsewhere; what the document's Clones answers. -/
namespace Go.Proofs.YtgidgmgpgfonnaaGreat
open Go.RowKit Go.Deep

structure Lst (B : Nat) (W : World) (v : Value) (ks : List Kv) : Prop where
  row : W.ownsRow B 27 3 v ks.length (kvCells ks)
  own : ∀ k ∈ ks, OwnTm false (fun q => B ≤ q ∧ some q ≠ v.ownBlock) W k.x k.a k.c k.l
set_option maxRecDepth 100000 in
theorem Lst.nil (B : Nat) (W : World) : Lst B W (.slice none 0 0) [] := ⟨World.ownsRow_nil _ _ _ _, by simp⟩
set_option maxRecDepth 100000 in
theorem Lst.below {B : Nat} {W W' : World} {v : Value} {ks : List Kv} (h : Lst B W v ks) (hb : Below W.heap.size W W') : Lst B W' v ks := ⟨owns_below h.row hb, fun k hk => (h.own k hk).below hb⟩
set_option maxRecDepth 100000 in
theorem Lst.base {B B' : Nat} {W : World} {v : Value} {ks : List Kv} (h : Lst B W v ks) (hB : B' ≤ B) : Lst B' W v ks := ⟨owns_base h.row hB, fun k hk => (h.own k hk).mono (fun q _ hq => ⟨by omega, hq.2⟩)⟩
set_option maxRecDepth 100000 in
theorem Lst.lt {B : Nat} {W : World} {v : Value} {ks : List Kv} {g : Nat} (h : Lst B W v ks) (hg : v.ownBlock = some g) : g < W.heap.size := by
  obtain ⟨cur, hc⟩ := (owns_cells h.row hg).2
  exact (Array.getElem?_eq_some_iff.1 hc).1
set_option maxRecDepth 100000 in
theorem Lst.grow {B : Nat} {W W1 W2 : World} {v v' : Value} {ks ms : List Kv} (h : Lst B W v ks) (hW : Below W.heap.size W W1) (hm : ∀ k ∈ ms, OwnTm false (fun q => W.heap.size ≤ q) W1 k.x k.a k.c k.l) (hB : B ≤ W.heap.size)
    (hg : W1.grownBy W2 v.ownBlock) (hat : v'.ownBlock = v.ownBlock ∨ v'.ownBlock = some W1.heap.size) (ho : W2.ownsRow B 27 3 v' (ks ++ ms).length (kvCells (ks ++ ms))) : Lst B W2 v' (ks ++ ms) := by
  refine ⟨ho, fun k hk => ?_⟩
  have h2 : OwnTm false (fun q => (B ≤ q ∧ some q ≠ v'.ownBlock) ∧ some q ≠ v.ownBlock) W1 k.x k.a k.c k.l := by
    rcases List.mem_append.1 hk with hk | hk
    · have h0 : OwnTm false (fun q => (B ≤ q ∧ some q ≠ v'.ownBlock) ∧ some q ≠ v.ownBlock) W k.x k.a k.c k.l := (h.own k hk).mono (fun q hq hp => ⟨⟨hp.1, by
        rcases hat with e | e
        · rw [e]; exact hp.2
        · rw [e]; intro e'; cases e'; have := hW.size; omega⟩, hp.2⟩)
      exact h0.below hW
    · refine (hm k hk).mono (fun q hq hp => ?_)
      have hne : some q ≠ v.ownBlock := fun e => by have := h.lt e.symm; omega
      refine ⟨⟨by omega, ?_⟩, hne⟩
      rcases hat with e | e
      · rw [e]; exact hne
      · rw [e]; intro e'; cases e'; omega
  exact (h2.keep (fun q hq hlt => hg.block q hlt hq.2)).mono (fun q _ hq => hq.1)
set_option maxRecDepth 100000 in
/-- append of what another slice holds: nil, or some. -/
theorem wpList_append_lst {ops : Array Oper} {rest : List Oper} {o : Oper} {a : Act} {Q : Exit → Act → World → Prop} {W : World} (hgd : o.guard = none) (s x : Operand)
    (ho : o.op = .call { callee := .builtin .append, args := #[s, x], argTypes := #[25, 25] }) (base : Nat) (v : Value) (ks : List Kv) (hs : a.eval s = v) (hown : W.ownsRow base 27 3 v ks.length (kvCells ks))
    (sa : Option Addr) (m c : Nat) (ms : List Kv) (hx : a.eval x = .slice sa m c) (hm : RowAt W sa m ms) (hnil : sa = none → c = 0) (hsome : sa ≠ none → 0 < m) (hbig : ks.length + m ≤ 2932031007400) (hbase : base ≤ W.heap.size)
    (h : ∀ v' w', w'.ownsRow base 27 3 v' (ks ++ ms).length (kvCells (ks ++ ms)) → W.grownBy w' v.ownBlock → (v'.ownBlock = v.ownBlock ∨ v'.ownBlock = some W.heap.size) → wpList Tryz.prog ops Q rest (a.put o.dst v') w') : wpList Tryz.prog ops Q (o :: rest) a W := by
  obtain ⟨i0, hi, hz0, hz1, hz2⟩ := info_parts Tryz.info27
  have hmax : maxLen = 9223372036854775807 := rfl
  rcases sa with _ | ⟨b, off, sp⟩
  · obtain rfl : ms = [] := by
      cases ms with
      | nil => rfl
      | cons k r =>
        obtain ⟨_, _, e, _⟩ := hm.get (j := 0) (k := k) rfl
        cases e
    obtain rfl := hm.len
    obtain rfl := hnil rfl
    refine wpList_append_own_none hgd s x 25 ho base 27 i0 3 Tryz.underlying25 hi v ks.length (kvCells ks) hs hown hx (h v W (by simpa using hown) ?_ (.inl rfl))
    exact ⟨rfl, rfl, rfl, Nat.le_refl _, fun _ _ _ => rfl⟩
  · have hlm := hm.len
    refine wpList_append_lies _ hgd s x 25 ho base 27 i0 _ 3 48 Tryz.underlying25 hi hz0 hz1 hz2 rfl (by decide) v ks.length (kvCells ks) hs hown ⟨b, off, sp⟩ m c (kvCells ms) hx (by rw [kvCells_len, hlm]) (fun j u hu => ?_) (kvCells_one ms) (hsome (by simp)) (by omega) (by omega) hbase _ rfl ?_
    · obtain ⟨b', off', e, hc⟩ := hm.cells j u hu
      cases e
      rw [← hc]
      congr 1
      unfold Addr.add
      split <;> simp_all
    · intro g cap w' h1 h2 h3 _
      refine h _ w' ?_ h2 ?_
      · rw [kvCells_append, List.length_append, ← hlm]
        exact h1
      · rcases h3 with h3 | h3
        · exact .inl h3.symm
        · exact .inr (by rw [h3]; rfl)

set_option maxRecDepth 100000 in
set_option maxHeartbeats 2000000 in
theorem clones_any (a : Option Addr) (F : Fo) (cap : Nat) (w : World) (hA : ArgsAt w a F) (hs : lenF F ≤ 2932031007319) :
    Calls Tryz.prog 106 #[.slice a (lenF F) cap] w fun e w' => ∃ v ks, e = .returned v ∧ Lst w.heap.size w' v ks ∧ (ks = [] → v = .slice none 0 0) ∧ ks.map Kv.tn = kidsL F ∧ Below w.heap.size w w' := by
  have HA : Hid (ArgsAt w a F) := hA
  clear hA
  go_enter Tryz.func106, Tryz.ntmps106
  go_wp2
  go_loopw [3, 4] (fun ov i wr => ∃ (j : Nat) (v : Value) (ks : List Kv), j ≤ lenF F ∧ v = ov ∧ i = .int .i64 j ∧ Lst w.heap.size wr v ks ∧ (ks = [] → v = .slice none 0 0) ∧ ks.map Kv.tn = (kidsL F).take j ∧ Below w.heap.size w wr) (fun _ i _ => lenF F - (intOf i).toNat)
  case atStart => exact ⟨0, _, [], Nat.zero_le _, rfl, rfl, Lst.nil _ _, fun _ => rfl, by simp, Below.refl _ _⟩
  case round =>
    obtain ⟨j, v, ks, hj, rfl, rfl, hL, hnil, hmap, hlow⟩ := hrel
    have HN : Hid (ks = [] → v = .slice none 0 0) := hnil
    have HL : Hid (Lst w.heap.size wr v ks) := hL
    have HM : Hid (ks.map Kv.tn = (kidsL F).take j) := hmap
    have HB : Hid (Below w.heap.size w wr) := hlow
    have hkl : ks.length = j := by
      have := congrArg List.length hmap
      rw [List.length_map, List.length_take, kids_len] at this
      omega
    clear hL hnil hmap hlow
    by_cases hlt : j < lenF F
    · obtain ⟨bb, oo, rfl, hkk⟩ := HA.out.get (by omega)
      obtain ⟨y, a1, c1, l1, kd⟩ := hkk.kid (k := j) hlt
      have kd' := kd.below HB.out
      have p0 := kd'.name; have p1 := kd'.sym; have p2 := kd'.list
      have KD : Hid (Kid wr F bb oo j y a1 c1 l1) := kd'
      have hj0 : (0 : Int) ≤ (j : Int) := by omega
      have hjn : (j : Int) < (lenF F : Int) := by omega
      clear kd kd' hkk
      have HC : Hid (∀ W, Below wr.heap.size wr W → Calls Tryz.prog 36 #[.agg #[.string y.1, .int .i64 y.2, .slice a1 (lenF l1) c1]] W fun e w' => ∃ a' c', e = .returned (.agg #[.string y.1, .int .i64 y.2, .slice a' (lenF l1) c']) ∧ RowTm W.heap.size w' y a' c' l1 ∧ Below W.heap.size W w') := fun W hW => rclone_any y l1 a1 c1 W (KD.out.at_.below hW)
      go_wp2_with (first
        | (go_at_call 36; refine (HC.out _ (Below.refl _ _)).mono ?_; rintro e w1 ⟨a', c', rfl, ho1, hb1⟩; have HO1 : Hid (OwnTm false (fun q => wr.heap.size ≤ q) w1 y a' c' l1) := ho1.own; have HB1 : Hid (Below wr.heap.size wr w1) := hb1; have hz1 := hb1.size; clear ho1 hb1)
        | (at_builtin; refine wpList_append_lst rfl _ _ rfl w.heap.size v ks rfl (owns_below HL.out.row (HB1.out.alloc hz1 _)) (some ⟨w1.heap.size, 0, none⟩) 1 1 [⟨y, l1, a', c'⟩] rfl (RowAt.new w1 ⟨y, l1, a', c'⟩) (fun e => by cases e) (fun _ => Nat.one_pos) (by omega) (by have := HB.out.size; rw [World.size_alloc]; omega) ?_; intro v2 w2 hown2 hgrow2 hat2; have HL2 : Hid (Lst w.heap.size w2 v2 (ks ++ [⟨y, l1, a', c'⟩])) := HL.out.grow (HB1.out.alloc hz1 _) (fun k hk => by simp only [List.mem_singleton] at hk; subst hk; exact HO1.out.below ((Below.refl _ _).alloc (Nat.le_refl _) _)) HB.out.size hgrow2 hat2 hown2; have HB2 : Hid (Below w.heap.size w w2) := HB.out.trans (((HB1.out.alloc hz1 _).mono HB.out.size).grown hgrow2 (by have := HB.out.size; rw [World.size_alloc]; omega) (fun k e => (owns_cells HL.out.row e).1)); clear hown2 hgrow2 hat2))
      go_roundw
      case rel =>
        obtain ⟨B1, O1, sp⟩ := KD.out.split
        exact ⟨j + 1, _, _, by omega, rfl, by go_num, HL2.out, fun e => by simp at e, by rw [kids_take sp, ← HM.out]; simp [Kv.tn], HB2.out⟩
      case measure => simp [intOf]; omega
    · obtain rfl : j = lenF F := by omega
      have HM' : Hid (ks.map Kv.tn = kidsL F) := by have := HM.out; rwa [List.take_of_length_le (by rw [kids_len]; exact Nat.le_refl _)] at this
      go_wp2
      go_ret
      exact ⟨v, ks, rfl, HL.out, HN.out, HM'.out, HB.out⟩
end Go.Proofs.YtgidgmgpgfonnaaGreat
/- append of what another slice of terms holds, be it nil, be it empty: where the new row lies. -/
namespace Go.Proofs.YtgidgmgpgfonnaaGreat
open Go.RowKit Go.Deep

theorem run_append_empty {P : Program} {w : World} (base : Nat) (t ty e : TypeId) (i : TypeInfo) (size : Nat) (ht : P.underlying t = some (.slice e)) (hi : P.info? e = some i)
    (v : Value) (n : Nat) (xs : List Value) (hown : w.ownsRow base e size v n xs) (ad : Addr) (c : Nat) :
    (Builtin.append_ #[t, t] ty #[v, .slice (some ad) 0 c]).run P w = .ok v w := by
  have h0 : (loadCells ad 0).run P w = .ok #[] w := rfl
  rcases hown.2 with ⟨rfl, rfl⟩ | ⟨g, cap, cur, rfl, _, _, hnc, _⟩
  · simp [Builtin.append_, run_underlying ht, sizeOf, typeInfo, hi, Builtin.lenOf, Builtin.firstCells, h0]
  · simp [Builtin.append_, run_underlying ht, sizeOf, typeInfo, hi, Builtin.lenOf, Builtin.firstCells, hnc, storeCells, h0]
theorem wpList_append_empty {P : Program} {w : World} {ops : Array Oper} {rest : List Oper} {o : Oper} {a : Act} {Q : Exit → Act → World → Prop} (hgd : o.guard = none) (s x : Operand) (t : TypeId)
    (ho : o.op = .call { callee := .builtin .append, args := #[s, x], argTypes := #[t, t] })
    (base : Nat) (e : TypeId) (i : TypeInfo) (size : Nat) (ht : P.underlying t = some (.slice e)) (hi : P.info? e = some i)
    (v : Value) (n : Nat) (xs : List Value) (hs : a.eval s = v) (hown : w.ownsRow base e size v n xs) (ad : Addr) (c : Nat) (hx : a.eval x = .slice (some ad) 0 c)
    (h : wpList P ops Q rest (a.put o.dst v) w) : wpList P ops Q (o :: rest) a w := by
  refine wpList_plain hgd fun K hK => ?_
  have hrun := run_append_empty (P := P) (w := w) base t o.type e i size ht hi v n xs hown ad c
  unfold Oper.wp
  simp [execOp, ho, resolve, invoke, builtin, hs, hx, hrun, Result.andThen]
  exact hK _ _ h

set_option maxRecDepth 100000 in
theorem wpList_append_all {ops : Array Oper} {rest : List Oper} {o : Oper} {a : Act} {Q : Exit → Act → World → Prop} {W : World} (hgd : o.guard = none) (s x : Operand)
    (ho : o.op = .call { callee := .builtin .append, args := #[s, x], argTypes := #[25, 25] }) (base : Nat) (v : Value) (ks : List Kv) (hs : a.eval s = v) (hown : W.ownsRow base 27 3 v ks.length (kvCells ks))
    (sa : Option Addr) (m c : Nat) (ms : List Kv) (hx : a.eval x = .slice sa m c) (hm : RowAt W sa m ms) (hnil : sa = none → c = 0) (hbig : ks.length + m ≤ 2932031007400) (hbase : base ≤ W.heap.size)
    (h : ∀ v' w', w'.ownsRow base 27 3 v' (ks ++ ms).length (kvCells (ks ++ ms)) → W.grownBy w' v.ownBlock → (v'.ownBlock = v.ownBlock ∨ v'.ownBlock = some W.heap.size) → wpList Tryz.prog ops Q rest (a.put o.dst v') w') : wpList Tryz.prog ops Q (o :: rest) a W := by
  by_cases h0 : sa ≠ none ∧ m = 0
  · obtain ⟨h1, rfl⟩ := h0
    obtain ⟨i0, hi, hz0, hz1, hz2⟩ := info_parts Tryz.info27
    obtain rfl : ms = [] := List.length_eq_zero_iff.1 hm.len.symm
    rcases sa with _ | ad
    · exact absurd rfl h1
    · refine wpList_append_empty hgd s x 25 ho base 27 i0 3 Tryz.underlying25 hi v ks.length (kvCells ks) hs hown ad c hx (h v W (by simpa using hown) ?_ (.inl rfl))
      exact ⟨rfl, rfl, rfl, Nat.le_refl _, fun _ _ _ => rfl⟩
  · exact wpList_append_lst hgd s x ho base v ks hs hown sa m c ms hx hm hnil (fun e => by have : ¬ m = 0 := fun e' => h0 ⟨e, e'⟩; omega) hbig hbase h
end Go.Proofs.YtgidgmgpgfonnaaGreat
/- What the library says of slices.SortFunc, laid at this program. -/
namespace Go.Proofs
open Go.Shelf
def Tryz.sortT_ren : Go.Shelf.Ren := ⟨fun | 6 => 92 | 15 => 109 | 14 => 108 | 28 => 122 | 29 => 123 | 20 => 114 | 21 => 115 | 22 => 116 | 23 => 117 | 24 => 118 | 25 => 119 | 26 => 120 | 27 => 121 | 46 => 128 | 47 => 129 | 48 => 130 | 49 => 131 | 50 => 132 | 57 => 137 | n => n, fun | 22 => 25 | 24 => 27 | 25 => 79 | 3 => 3 | 39 => 92 | 0 => 0 | 53 => 110 | 55 => 113 | 4 => 4 | 46 => 131 | 45 => 130 | 50 => 101 | 5 => 5 | 9 => 9 | 66 => 138 | 70 => 142 | 76 => 146 | 77 => 147 | n => n, fun | n => n⟩
theorem Tryz.sortT : Go.Proofs.SlLaysF0.n6 Tryz.prog Tryz.sortT_ren := {
  mixed := by kernel_rfl
  f6 := ⟨Tryz.f92.name, by decide, Tryz.func92.trans (congrArg some (by kernel_rfl))⟩
  f14 := ⟨Tryz.f108.name, by decide, Tryz.func108.trans (congrArg some (by kernel_rfl))⟩
  f15 := Tryz.func109.trans (congrArg some (by kernel_rfl))
  f20 := ⟨Tryz.f114.name, by decide, Tryz.func114.trans (congrArg some (by kernel_rfl))⟩
  f21 := ⟨Tryz.f115.name, by decide, Tryz.func115.trans (congrArg some (by kernel_rfl))⟩
  f22 := ⟨Tryz.f116.name, by decide, Tryz.func116.trans (congrArg some (by kernel_rfl))⟩
  f23 := ⟨Tryz.f117.name, by decide, Tryz.func117.trans (congrArg some (by kernel_rfl))⟩
  f24 := ⟨Tryz.f118.name, by decide, Tryz.func118.trans (congrArg some (by kernel_rfl))⟩
  f25 := ⟨Tryz.f119.name, by decide, Tryz.func119.trans (congrArg some (by kernel_rfl))⟩
  f26 := ⟨Tryz.f120.name, by decide, Tryz.func120.trans (congrArg some (by kernel_rfl))⟩
  f27 := ⟨Tryz.f121.name, by decide, Tryz.func121.trans (congrArg some (by kernel_rfl))⟩
  f28 := Tryz.func122.trans (congrArg some (by kernel_rfl))
  f29 := Tryz.func123.trans (congrArg some (by kernel_rfl))
  f46 := ⟨Tryz.f128.name, by decide, Tryz.func128.trans (congrArg some (by kernel_rfl))⟩
  f47 := Tryz.func129.trans (congrArg some (by kernel_rfl))
  f48 := Tryz.func130.trans (congrArg some (by kernel_rfl))
  f49 := ⟨Tryz.f131.name, by decide, Tryz.func131.trans (congrArg some (by kernel_rfl))⟩
  f50 := ⟨Tryz.f132.name, by decide, Tryz.func132.trans (congrArg some (by kernel_rfl))⟩
  f57 := ⟨Tryz.f137.name, by decide, Tryz.func137.trans (congrArg some (by kernel_rfl))⟩
  t0 := Tryz.underlying0
  a0 := Tryz.isAgg0
  z0 := Tryz.sizeOf0
  v0 := Tryz.zeroValue0
  t3 := Tryz.underlying3
  a3 := Tryz.isAgg3
  z3 := Tryz.sizeOf3
  v3 := Tryz.zeroValue3
  t4 := Tryz.underlying4
  a4 := Tryz.isAgg4
  z4 := Tryz.sizeOf4
  v4 := Tryz.zeroValue4
  t5 := Tryz.underlying5
  a5 := Tryz.isAgg5
  z5 := Tryz.sizeOf5
  v5 := Tryz.zeroValue5
  t9 := Tryz.underlying9
  a9 := Tryz.isAgg9
  z9 := Tryz.sizeOf9
  v9 := Tryz.zeroValue9
  t22 := Tryz.underlying25
  a22 := Tryz.isAgg25
  z22 := Tryz.sizeOf25
  v22 := Tryz.zeroValue25
  t25 := Tryz.underlying79
  a25 := Tryz.isAgg79
  z25 := Tryz.sizeOf79
  v25 := Tryz.zeroValue79
  t39 := Tryz.underlying92
  a39 := Tryz.isAgg92
  z39 := Tryz.sizeOf92
  v39 := Tryz.zeroValue92
  t45 := Tryz.underlying130
  a45 := Tryz.isAgg130
  z45 := Tryz.sizeOf130
  v45 := Tryz.zeroValue130
  t46 := Tryz.underlying131
  a46 := Tryz.isAgg131
  z46 := Tryz.sizeOf131
  v46 := Tryz.zeroValue131
  t50 := Tryz.underlying101
  a50 := Tryz.isAgg101
  z50 := Tryz.sizeOf101
  v50 := Tryz.zeroValue101
  t53 := Tryz.underlying110
  a53 := Tryz.isAgg110
  z53 := Tryz.sizeOf110
  v53 := Tryz.zeroValue110
  t55 := Tryz.underlying113
  a55 := Tryz.isAgg113
  z55 := Tryz.sizeOf113
  v55 := Tryz.zeroValue113
  t66 := Tryz.underlying138
  a66 := Tryz.isAgg138
  z66 := Tryz.sizeOf138
  v66 := Tryz.zeroValue138
  t70 := Tryz.underlying142
  a70 := Tryz.isAgg142
  z70 := Tryz.sizeOf142
  v70 := Tryz.zeroValue142
  t76 := Tryz.underlying146
  a76 := Tryz.isAgg146
  z76 := Tryz.sizeOf146
  v76 := Tryz.zeroValue146
  t77 := Tryz.underlying147
  a77 := Tryz.isAgg147
  z77 := Tryz.sizeOf147
  v77 := Tryz.zeroValue147 }
end Go.Proofs
/- What the library says of comparing texts and numbers, laid at this program. -/
namespace Go.Proofs
open Go.Shelf
def Tryz.lays213_ren : Go.Shelf.Ren := ⟨fun | 213 => 55 | 265 => 78 | n => n, fun | 9 => 9 | 3 => 3 | n => n, fun | n => n⟩
theorem Tryz.lays213 : Go.Proofs.Lays.n213 Tryz.prog Tryz.lays213_ren := {
  mixed := by kernel_rfl
  f213 := Tryz.func55.trans (congrArg some (by kernel_rfl))
  f265 := Tryz.func78.trans (congrArg some (by kernel_rfl))
  t3 := Tryz.underlying3
  a3 := Tryz.isAgg3
  z3 := Tryz.sizeOf3
  v3 := Tryz.zeroValue3
  t9 := Tryz.underlying9
  a9 := Tryz.isAgg9
  z9 := Tryz.sizeOf9
  v9 := Tryz.zeroValue9 }
open Go.RowKit in
theorem Tryz.bytealg_CompareString (a b : ByteArray) (w : World) :
    Calls Tryz.prog 55 #[.string a, .string b] w fun e w' => e = .returned (.int .i64 (Lib.compareBytes a.data.toList b.data.toList)) ∧ w' = w := Any.bytealg_CompareString Tryz.lays213 a b w
def Tryz.lays106_ren : Go.Shelf.Ren := ⟨fun | 106 => 31 | 213 => 55 | 265 => 78 | n => n, fun | 9 => 9 | 3 => 3 | n => n, fun | n => n⟩
theorem Tryz.lays106 : Go.Proofs.Lays.n106 Tryz.prog Tryz.lays106_ren := {
  mixed := by kernel_rfl
  f106 := Tryz.func31.trans (congrArg some (by kernel_rfl))
  f213 := Tryz.func55.trans (congrArg some (by kernel_rfl))
  f265 := Tryz.func78.trans (congrArg some (by kernel_rfl))
  t3 := Tryz.underlying3
  a3 := Tryz.isAgg3
  z3 := Tryz.sizeOf3
  v3 := Tryz.zeroValue3
  t9 := Tryz.underlying9
  a9 := Tryz.isAgg9
  z9 := Tryz.sizeOf9
  v9 := Tryz.zeroValue9 }
open Go.RowKit in
theorem Tryz.strings_Compare (a b : ByteArray) (w : World) :
    Calls Tryz.prog 31 #[.string a, .string b] w fun e w' => e = .returned (.int .i64 (Lib.compareBytes a.data.toList b.data.toList)) ∧ w' = w := Any.strings_Compare Tryz.lays106 a b w
def Tryz.lays215_ren : Go.Shelf.Ren := ⟨fun | 215 => 113 | n => n, fun | 3 => 3 | 4 => 4 | n => n, fun | n => n⟩
theorem Tryz.lays215 : Go.Proofs.Lays.n215 Tryz.prog Tryz.lays215_ren := {
  mixed := by kernel_rfl
  f215 := Tryz.func113.trans (congrArg some (by kernel_rfl))
  t3 := Tryz.underlying3
  a3 := Tryz.isAgg3
  z3 := Tryz.sizeOf3
  v3 := Tryz.zeroValue3
  t4 := Tryz.underlying4
  a4 := Tryz.isAgg4
  z4 := Tryz.sizeOf4
  v4 := Tryz.zeroValue4 }
open Go.RowKit in
theorem Tryz.cmp_isNaN_int (x : Int) (w : World) :
    Calls Tryz.prog 113 #[.int .i64 x] w fun e w' => e = .returned (.bool false) ∧ w' = w := Any.cmp_isNaN_int Tryz.lays215 x w
def Tryz.lays122_ren : Go.Shelf.Ren := ⟨fun | 122 => 103 | 215 => 113 | n => n, fun | 3 => 3 | 4 => 4 | n => n, fun | n => n⟩
theorem Tryz.lays122 : Go.Proofs.Lays.n122 Tryz.prog Tryz.lays122_ren := {
  mixed := by kernel_rfl
  f122 := Tryz.func103.trans (congrArg some (by kernel_rfl))
  f215 := Tryz.func113.trans (congrArg some (by kernel_rfl))
  t3 := Tryz.underlying3
  a3 := Tryz.isAgg3
  z3 := Tryz.sizeOf3
  v3 := Tryz.zeroValue3
  t4 := Tryz.underlying4
  a4 := Tryz.isAgg4
  z4 := Tryz.sizeOf4
  v4 := Tryz.zeroValue4 }
open Go.RowKit in
theorem Tryz.cmp_Compare_int (x y : Int) (w : World) :
    Calls Tryz.prog 103 #[.int .i64 x, .int .i64 y] w fun e w' => e = .returned (.int .i64 (Lib.compareInt x y)) ∧ w' = w := Any.cmp_Compare_int Tryz.lays122 x y w
end Go.Proofs
/- What Compare of package terms answers of any two terms. -/
namespace Go.Proofs.YtgidgmgpgfonnaaGreat
open Go.RowKit Go.Deep

/-- Nothing but new blocks. -/
def Grew (w w' : World) : Prop := ∃ os : Array Obj, w' = Sort.grow w os
set_option maxRecDepth 100000 in
theorem Grew.refl (w : World) : Grew w w := ⟨#[], by simp⟩
set_option maxRecDepth 100000 in
theorem Grew.size {w w' : World} (h : Grew w w') : w.heap.size ≤ w'.heap.size := by obtain ⟨os, rfl⟩ := h; simp
set_option maxRecDepth 100000 in
theorem Grew.trans {a b c : World} (h : Grew a b) (k : Grew b c) : Grew a c := by
  obtain ⟨os, rfl⟩ := h; obtain ⟨os', rfl⟩ := k
  exact ⟨os ++ os', by rw [Sort.grow_grow]⟩
set_option maxRecDepth 100000 in
theorem Grew.alloc {w w' : World} (h : Grew w w') (o : Obj) : Grew w (w'.alloc o) := h.trans ⟨#[o], Sort.alloc_eq_grow _ _⟩
set_option maxRecDepth 100000 in
theorem Grew.below {w w' : World} (h : Grew w w') : Below w.heap.size w w' := by
  have hs := h.size
  obtain ⟨os, rfl⟩ := h
  exact ⟨rfl, rfl, rfl, hs, fun k hk => Sort.heap_grow_old w os hk⟩

def CmpOk (k : Nat) : Prop := ∀ (x y : ByteArray × Int) (a a' : Option Addr) (c c' : Nat) (l m : Fo) (w : World), nodesF l ≤ k → TmAt w x a c l → TmAt w y a' c' m →
  Calls Tryz.prog 87 #[.agg #[.string x.1, .int .i64 x.2, .slice a (lenF l) c], .agg #[.string y.1, .int .i64 y.2, .slice a' (lenF m) c']] w
    fun e w' => e = .returned (.int .i64 (cmp1 x y (lenF l) (lenF m) (cmpF l m))) ∧ Grew w w'

set_option maxRecDepth 100000 in
set_option maxHeartbeats 1000000 in
theorem cmpfunc_any (k : Nat) (ih : ∀ j, j < k → CmpOk j) (F G : Fo) (n m c c' : Nat) (hF : nodesF F ≤ k) (hn : n = lenF F) (hm : m = lenF G) (hl : n = m) (hs : n ≤ 9223372036854775807) (a a' : Option Addr) (w : World) (hA : ArgsAt w a F) (hB : ArgsAt w a' G) :
    Calls Tryz.prog 104 #[.slice a n c, .slice a' m c', .func (.func 87) #[] #[]] w fun e w' => e = .returned (.int .i64 (cmpF F G)) ∧ Grew w w' := by
  subst hl
  have HA : Hid (ArgsAt w a F) := hA
  have HB : Hid (ArgsAt w a' G) := hB
  have HN : Hid (n = lenF F) := hn
  have HM : Hid (n = lenF G) := hm
  have IH : Hid (∀ j, j < k → CmpOk j) := ih
  clear hA hB hn hm ih
  go_enter Tryz.func104, Tryz.ntmps104
  go_wp2
  go_loopw [7, 8, 9, 10, 13] (fun _ _ _ _ i w' => ∃ k : Nat, k ≤ n ∧ i = .int .i64 k ∧ Grew w w' ∧ cmpF F G = cmpF (dropF k F) (dropF k G)) (fun _ _ _ _ i _ => n - (intOf i).toNat)
  case atStart => exact ⟨0, Nat.zero_le _, rfl, Grew.refl _, by rw [drop_zero, drop_zero]⟩
  case round =>
    obtain ⟨j, hj, rfl, hb, hcmp⟩ := hrel
    by_cases hlt : j < n
    · obtain ⟨b, o, rfl, hk1⟩ := HA.out.get (by have := HN.out; omega)
      obtain ⟨b', o', rfl, hk2⟩ := HB.out.get (by have := HM.out; omega)
      obtain ⟨x, a1, c1, l1, k1⟩ := hk1.kid (k := j) (by have := HN.out; omega)
      obtain ⟨y, a2, c2, l2, k2⟩ := hk2.kid (k := j) (by have := HM.out; omega)
      have k1' := k1.below hb.below
      have hb1 := hb.alloc (.cells #[.string x.1, .int .i64 x.2, .slice a1 (lenF l1) c1] 27)
      have k2' := k2.below hb1.below
      have p0 := k1'.name; have p1 := k1'.sym; have p2 := k1'.list
      have q0 := k2'.name; have q1 := k2'.sym; have q2 := k2'.list
      have hb2 := hb1.alloc (.cells #[.string y.1, .int .i64 y.2, .slice a2 (lenF l2) c2] 27)
      have HB2 : Hid (Grew w ((wr.alloc (.cells #[.string x.1, .int .i64 x.2, .slice a1 (lenF l1) c1] 27)).alloc (.cells #[.string y.1, .int .i64 y.2, .slice a2 (lenF l2) c2] 27))) := hb2
      have IHc := IH.out (nodesF l1) (by have := k1.less; omega) x y a1 a2 c1 c2 l1 l2 _ (Nat.le_refl _) (k1.below hb2.below).at_ (k2.below hb2.below).at_
      obtain ⟨B1, O1, s1⟩ := k1.split
      obtain ⟨B2, O2, s2⟩ := k2.split
      rw [s1, s2, cmpF] at hcmp
      have HC : Hid (cmpF F G = thenC (cmp1 x y (lenF l1) (lenF l2) (cmpF l1 l2)) (cmpF (dropF (j + 1) F) (dropF (j + 1) G))) := hcmp
      clear k1 k2 k1' k2' hk1 hk2 hcmp hb1 hb2 s1 s2
      go_wp2_with fail
      refine IHc.mono ?_
      rintro e w2 ⟨rfl, hb3⟩
      have HB3 : Hid (Grew w w2) := HB2.out.trans hb3
      clear IHc hb3
      cases hz : (cmp1 x y (lenF l1) (lenF l2) (cmpF l1 l2) != 0)
      · go_wp2
        go_roundw
        case rel => exact ⟨j + 1, by omega, by go_num, HB3.out, by rw [HC.out]; unfold thenC; rw [if_pos (by simpa using hz)]⟩
        case measure => simp [intOf]; omega
      · go_wp2
        go_ret
        refine ⟨?_, HB3.out⟩
        rw [HC.out]; unfold thenC; rw [if_neg (by simpa using hz)]; rfl
    · have hz : cmpF F G = 0 := by
        rw [hcmp, show j = n by omega]
        have e1 := drop_end F
        rw [← HN.out] at e1
        rw [e1]; rfl
      go_wp2
      go_ret
      exact ⟨by rw [hz]; rfl, hb⟩

set_option maxRecDepth 100000 in
set_option maxHeartbeats 1000000 in
theorem compare_all : ∀ k, CmpOk k := by
  intro k
  induction k using Nat.strongRecOn with
  | _ k ih =>
    intro x y a a' c c' l m w hk hA hB
    have HA : Hid (TmAt w x a c l) := hA
    have HB : Hid (TmAt w y a' c' m) := hB
    have IH : Hid (∀ j, j < k → CmpOk j) := ih
    clear hA hB ih
    have hb2 : Grew w ((w.alloc (.cells #[.string x.1, .int .i64 x.2, .slice a (lenF l) c] 27)).alloc (.cells #[.string y.1, .int .i64 y.2, .slice a' (lenF m) c'] 27)) := ((Grew.refl w).alloc _).alloc _
    have HB2 : Hid (Grew w ((w.alloc (.cells #[.string x.1, .int .i64 x.2, .slice a (lenF l) c] 27)).alloc (.cells #[.string y.1, .int .i64 y.2, .slice a' (lenF m) c'] 27))) := hb2
    clear hb2
    cases hx : x.1.toList.isEmpty <;> cases hy : y.1.toList.isEmpty
    · have hr : Hid (cmp1 x y (lenF l) (lenF m) (cmpF l m) = Lib.compareBytes x.1.data.toList y.1.data.toList) := by show _ = _; unfold cmp1 noName cmpS; rw [hx, hy]; rfl
      go_enter Tryz.func87, Tryz.ntmps87
      go_wp2_with fail
      refine (Tryz.strings_Compare _ _ _).mono ?_
      rintro e w2 ⟨rfl, rfl⟩
      go_wp2
      go_ret
      exact ⟨by rw [hr.out]; rfl, HB2.out⟩
    · have hr : Hid (cmp1 x y (lenF l) (lenF m) (cmpF l m) = -1) := by show _ = _; unfold cmp1 noName cmpS; rw [hx, hy]; rfl
      go_enter Tryz.func87, Tryz.ntmps87
      go_wp2
      go_ret
      exact ⟨by rw [hr.out]; rfl, HB2.out⟩
    · have hr : Hid (cmp1 x y (lenF l) (lenF m) (cmpF l m) = 1) := by show _ = _; unfold cmp1 noName cmpS; rw [hx, hy]; rfl
      go_enter Tryz.func87, Tryz.ntmps87
      go_wp2
      go_ret
      exact ⟨by rw [hr.out]; rfl, HB2.out⟩
    · cases hs : (x.2 != y.2)
      · cases hn : ((lenF l : Int) != (lenF m : Int))
        · have hr : Hid (cmp1 x y (lenF l) (lenF m) (cmpF l m) = cmpF l m) := by
            show _ = _; unfold cmp1 noName cmpS; rw [hx, hy]; simp at hs hn; simp [hs]; omega
          have hc := cmpfunc_any k IH.out l m (lenF l) (lenF m) c c' hk rfl rfl (by simp at hn; omega) (by have := HA.out.sizes.len; have := HA.out.sizes.cap; unfold maxLen at *; omega) a a' _ (HA.out.args.below HB2.out.below) (HB.out.args.below HB2.out.below)
          go_enter Tryz.func87, Tryz.ntmps87
          go_wp2_with fail
          refine hc.mono ?_
          rintro e w2 ⟨rfl, hb3⟩
          go_wp2
          go_ret
          exact ⟨by rw [hr.out]; rfl, HB2.out.trans hb3⟩
        · have hr : Hid (cmp1 x y (lenF l) (lenF m) (cmpF l m) = Lib.compareInt (lenF l) (lenF m)) := by
            show _ = _; unfold cmp1 noName cmpS; rw [hx, hy]; simp at hs hn; simp [hs]; omega
          go_enter Tryz.func87, Tryz.ntmps87
          go_wp2_with fail
          refine (Tryz.cmp_Compare_int _ _ _).mono ?_
          rintro e w2 ⟨rfl, rfl⟩
          go_wp2
          go_ret
          exact ⟨by rw [hr.out]; rfl, HB2.out⟩
      · have hr : Hid (cmp1 x y (lenF l) (lenF m) (cmpF l m) = Lib.compareInt x.2 y.2) := by
          show _ = _; unfold cmp1 noName cmpS; rw [hx, hy]; simp at hs; simp [hs]
        go_enter Tryz.func87, Tryz.ntmps87
        go_wp2_with fail
        refine (Tryz.cmp_Compare_int _ _ _).mono ?_
        rintro e w2 ⟨rfl, rfl⟩
        go_wp2
        go_ret
        exact ⟨by rw [hr.out]; rfl, HB2.out⟩
end Go.Proofs.YtgidgmgpgfonnaaGreat
/- Lists of terms in memory no two of which share a block; terms whose own list may still be written. -/
namespace Go.Proofs.YtgidgmgpgfonnaaGreat
open Go.RowKit Go.Deep

abbrev Bl := Nat → Prop
/-- Of these terms each has what E says, with blocks of its own among A. -/
def GL (E : World → Bl → Kv → Prop) (w : World) : List Kv → Bl → Prop
  | [], _ => True
  | k :: r, A => ∃ A1 A2 : Bl, (∀ q, A1 q → A q) ∧ (∀ q, A2 q → A q ∧ ¬ A1 q) ∧ E w A1 k ∧ GL E w r A2
structure Elem (E : World → Bl → Kv → Prop) : Prop where
  mono : ∀ {w : World} {A A' : Bl} {k : Kv}, (∀ q, A q → A' q) → E w A k → E w A' k
  keep : ∀ {w w' : World} {A : Bl} {k : Kv}, (∀ q, A q → q < w.heap.size → w'.heap[q]? = w.heap[q]?) → E w A k → E w' A k
  within : ∀ {w : World} {A : Bl} {k : Kv}, E w A k → E w (fun q => A q ∧ q < w.heap.size) k
variable {E : World → Bl → Kv → Prop}
theorem GL.mono {w : World} : ∀ {ks : List Kv} {A A' : Bl}, (∀ k, A k → A' k) → GL E w ks A → GL E w ks A'
  | [], _, _, _, _ => trivial
  | _ :: _, _, _, hA, ⟨A1, A2, h1, h2, h3, h4⟩ => ⟨A1, A2, fun k hk => hA k (h1 k hk), fun k hk => ⟨hA k (h2 k hk).1, (h2 k hk).2⟩, h3, h4⟩
theorem GL.keep (hE : Elem E) {w w' : World} : ∀ {ks : List Kv} {A : Bl}, (∀ k, A k → k < w.heap.size → w'.heap[k]? = w.heap[k]?) → GL E w ks A → GL E w' ks A
  | [], _, _, _ => trivial
  | _ :: _, _, hp, ⟨A1, A2, h1, h2, h3, h4⟩ => ⟨A1, A2, h1, h2, hE.keep (fun k hk hlt => hp k (h1 k hk) hlt) h3, GL.keep hE (fun k hk hlt => hp k (h2 k hk).1 hlt) h4⟩
theorem GL.within (hE : Elem E) {w : World} : ∀ {ks : List Kv} {A : Bl}, GL E w ks A → GL E w ks (fun q => A q ∧ q < w.heap.size)
  | [], _, _ => trivial
  | _ :: _, _, ⟨A1, A2, h1, h2, h3, h4⟩ => ⟨fun q => A1 q ∧ q < w.heap.size, fun q => A2 q ∧ q < w.heap.size, fun q hq => ⟨h1 q hq.1, hq.2⟩, fun q hq => ⟨⟨(h2 q hq.1).1, hq.2⟩, fun h => (h2 q hq.1).2 h.1⟩, hE.within h3, GL.within hE h4⟩
theorem GL.weak {E' : World → Bl → Kv → Prop} {w : World} (h : ∀ A k, E w A k → E' w A k) : ∀ {ks : List Kv} {A : Bl}, GL E w ks A → GL E' w ks A
  | [], _, _ => trivial
  | _ :: _, _, ⟨A1, A2, h1, h2, h3, h4⟩ => ⟨A1, A2, h1, h2, h A1 _ h3, GL.weak h h4⟩
theorem GL.perm {w : World} {ks ms : List Kv} (hp : List.Perm ks ms) : ∀ {A : Bl}, GL E w ks A → GL E w ms A := by
  induction hp with
  | nil => exact fun h => h
  | cons k _ ih => exact fun ⟨A1, A2, h1, h2, h3, h4⟩ => ⟨A1, A2, h1, h2, h3, ih h4⟩
  | swap a b l =>
    rintro A ⟨A1, A2, h1, h2, h3, B1, B2, k1, k2, k3, k4⟩
    refine ⟨B1, fun q => A1 q ∨ B2 q, fun q hq => (h2 q (k1 q hq)).1, fun q hq => ?_, k3, A1, B2, fun q hq => .inl hq, fun q hq => ⟨.inr hq, ?_⟩, h3, k4⟩
    · rcases hq with hq | hq
      · exact ⟨h1 q hq, fun hb => (h2 q (k1 q hb)).2 hq⟩
      · exact ⟨(h2 q (k2 q hq).1).1, (k2 q hq).2⟩
    · exact (h2 q (k2 q hq).1).2
  | trans _ _ ih1 ih2 => exact fun h => ih2 (ih1 h)
theorem GL.append {w : World} {B : Bl} {ms : List Kv} (hm : GL E w ms B) : ∀ {ks : List Kv} {A : Bl}, (∀ q, A q → ¬ B q) → GL E w ks A → GL E w (ks ++ ms) (fun q => A q ∨ B q)
  | [], _, _, _ => hm.mono fun _ hq => .inr hq
  | k :: r, A, hd, ⟨A1, A2, h1, h2, h3, h4⟩ => ⟨A1, fun q => A2 q ∨ B q, fun q hq => .inl (h1 q hq), fun q hq => by
      rcases hq with hq | hq
      · exact ⟨.inl (h2 q hq).1, (h2 q hq).2⟩
      · exact ⟨.inr hq, fun h => hd q (h1 q h) hq⟩, h3, GL.append hm (fun q hq => hd q (h2 q hq).1) h4⟩
theorem GL.one {w : World} {k : Kv} {A : Bl} (h : E w A k) : GL E w [k] A := ⟨A, fun _ => False, fun _ hq => hq, fun _ hq => hq.elim, h, trivial⟩
theorem GL.cons {w : World} {k : Kv} {ks : List Kv} {A B : Bl} (h : E w A k) (hk : GL E w ks B) (hd : ∀ q, A q → ¬ B q) : GL E w (k :: ks) (fun q => A q ∨ B q) := GL.append hk hd (GL.one h)
theorem GL.snoc {w : World} {k : Kv} {ks : List Kv} {A B : Bl} (hk : GL E w ks A) (h : E w B k) (hd : ∀ q, A q → ¬ B q) : GL E w (ks ++ [k]) (fun q => A q ∨ B q) := GL.append (GL.one h) hd hk
theorem GL.right {w : World} : ∀ {ks ms : List Kv} {A : Bl}, GL E w (ks ++ ms) A → GL E w ms A
  | [], _, _, h => h
  | _ :: _, _, _, ⟨_, _, _, h2, _, h4⟩ => (GL.right h4).mono fun q hq => (h2 q hq).1
theorem GL.left {w : World} {ks ms : List Kv} {A : Bl} (h : GL E w (ks ++ ms) A) : GL E w ks A := GL.right (h.perm List.perm_append_comm)
theorem GL.mem {w : World} {ks : List Kv} {A : Bl} {k : Kv} (h : GL E w ks A) (hk : k ∈ ks) : ∃ A1 : Bl, (∀ q, A1 q → A q) ∧ E w A1 k := by
  obtain ⟨l1, l2, rfl⟩ := List.append_of_mem hk
  obtain ⟨A1, A2, h1, _, h3, _⟩ := h.right
  exact ⟨A1, h1, h3⟩
theorem GL.filter {w : World} (p : Kv → Bool) : ∀ {ks : List Kv} {A : Bl}, GL E w ks A → GL E w (ks.filter p) A
  | [], _, _ => trivial
  | k :: r, A, ⟨A1, A2, h1, h2, h3, h4⟩ => by
    rw [List.filter_cons]
    have h5 := GL.filter p h4
    split
    · exact ⟨A1, A2, h1, h2, h3, h5⟩
    · exact h5.mono fun q hq => (h2 q hq).1

/-! ### terms, and terms whose own list may be written -/
def SepE (w : World) (A : Bl) (k : Kv) : Prop := SepTm w A k.x k.a k.c k.l
def RowK (w : World) (A : Bl) (k : Kv) : Prop := (k.a = none ∧ k.c = 0 ∧ lenF k.l = 0) ∨ ∃ g cur, k.a = some ⟨g, 0, none⟩ ∧ A g ∧ w.heap[g]? = some (Obj.cells cur 27 (0, 0)) ∧ cur.size = k.c * 3
def LoosE (w : World) (A : Bl) (k : Kv) : Prop := SepE w A k ∧ (noName k.x.1 = true → RowK w A k)
theorem sepE : Elem SepE := ⟨fun h => SepTm.mono h, fun h => SepTm.keep h, SepTm.within⟩
theorem RowK.mono {w : World} {A A' : Bl} {k : Kv} (hA : ∀ q, A q → A' q) (h : RowK w A k) : RowK w A' k := by
  rcases h with h | ⟨g, cur, h1, h2, h3, h4⟩
  · exact .inl h
  · exact .inr ⟨g, cur, h1, hA g h2, h3, h4⟩
theorem RowK.keep {w w' : World} {A : Bl} {k : Kv} (hp : ∀ q, A q → q < w.heap.size → w'.heap[q]? = w.heap[q]?) (h : RowK w A k) : RowK w' A k := by
  rcases h with h | ⟨g, cur, h1, h2, h3, h4⟩
  · exact .inl h
  · exact .inr ⟨g, cur, h1, h2, (hp g h2 (Array.getElem?_eq_some_iff.1 h3).1).trans h3, h4⟩
theorem loosE : Elem LoosE :=
  ⟨fun hA h => ⟨sepE.mono hA h.1, fun e => (h.2 e).mono hA⟩, fun hp h => ⟨sepE.keep hp h.1, fun e => (h.2 e).keep hp⟩, fun h => ⟨sepE.within h.1, fun e => by
    rcases h.2 e with h' | ⟨g, cur, h1, h2, h3, h4⟩
    · exact .inl h'
    · exact .inr ⟨g, cur, h1, ⟨h2, (Array.getElem?_eq_some_iff.1 h3).1⟩, h3, h4⟩⟩⟩
theorem gl_sepL {w : World} : ∀ {ks : List Kv} {A : Bl}, GL SepE w ks A ↔ SepL w ks A
  | [], _ => Iff.rfl
  | k :: r, A => by
    simp only [GL, SepL]
    constructor
    · rintro ⟨A1, A2, h1, h2, h3, h4⟩
      exact ⟨A1, A2, h1, h2, h3, gl_sepL.1 h4⟩
    · rintro ⟨A1, A2, h1, h2, h3, h4⟩
      exact ⟨A1, A2, h1, h2, h3, gl_sepL.2 h4⟩
/-- What lies there, term by term. -/
theorem sepKids_list {w : World} {b : Nat} : ∀ {F : Fo} {A : Bl} {o : Nat}, SepKids w F A b o → ∃ ks : List Kv, ks.map Kv.tn = kidsL F ∧ (∀ j u, (kvCells ks)[j]? = some u → w.cell? ⟨b, o + j, none⟩ = some u) ∧ GL SepE w ks A
  | .nil, A, o, _ => ⟨[], rfl, fun j u hu => by simp [kvCells] at hu, trivial⟩
  | .node _ _ x l r, A, o, ⟨A1, A2, h1, h2, ⟨a, c, c0, c1, c2, hs, hl⟩, hr⟩ => by
    obtain ⟨ks, k1, k2, k3⟩ := sepKids_list hr
    refine ⟨⟨x, l, a, c⟩ :: ks, by simp [kidsL, Kv.tn, k1], fun j u hu => ?_, A1, A2, h1, h2, ⟨hs, hl⟩, k3⟩
    have e : kvCells (⟨x, l, a, c⟩ :: ks) = .string x.1 :: .int .i64 x.2 :: .slice a (lenF l) c :: kvCells ks := rfl
    rw [e] at hu
    match j, hu with
    | 0, hu => cases hu; exact c0
    | 1, hu => cases hu; exact c1
    | 2, hu => cases hu; exact c2
    | j + 3, hu => have := k2 j u (by simpa using hu); rw [show o + (j + 3) = o + 3 + j by omega]; exact this
theorem kvCells_get {ks : List Kv} {j : Nat} (h : j < ks.length * 3) : ∃ u, (kvCells ks)[j]? = some u := ⟨_, List.getElem?_eq_getElem (by rw [kvCells_len]; exact h)⟩
/-- A term whose list may be written: its row, and its terms. -/
theorem LoosE.row {w : World} {A : Bl} {k : Kv} (h : LoosE w A k) (hn : noName k.x.1 = true) : ∃ ks : List Kv, ks.map Kv.tn = kidsL k.l ∧ (∀ B, (∀ q, A q → B ≤ q) → w.ownsRow B 27 3 (.slice k.a (lenF k.l) k.c) (lenF k.l) (kvCells ks)) ∧
    GL SepE w ks (fun q => A q ∧ some q ≠ (Value.slice k.a (lenF k.l) k.c).ownBlock) ∧ ∀ g, (Value.slice k.a (lenF k.l) k.c).ownBlock = some g → A g := by
  obtain ⟨hs, hr⟩ := h
  rcases hr hn with ⟨h1, h2, h3⟩ | ⟨g, cur, h1, h2, h3, h4⟩
  · have e : kidsL k.l = [] := by rw [len_nil h3]; rfl
    refine ⟨[], by rw [e]; rfl, fun B _ => ⟨by simp [kvCells, h3], .inl ⟨by rw [h1, h2, h3], h3⟩⟩, trivial, fun g hg => ?_⟩
    rw [h1] at hg
    cases hg
  · have hcap := hs.sizes.cap
    have hlen := hs.sizes.len
    have main : ∃ ks : List Kv, ks.map Kv.tn = kidsL k.l ∧ (∀ j u, (kvCells ks)[j]? = some u → w.cell? ⟨g, 0 + j, none⟩ = some u) ∧ GL SepE w ks (fun q => A q ∧ q ≠ g) := by
      rcases hs.list with e | ⟨g', cur', e1, e2, e3, e4⟩
      · exact ⟨[], by rw [e]; rfl, fun j u hu => by simp [kvCells] at hu, trivial⟩
      · rw [h1] at e1
        cases e1
        exact sepKids_list e4
    obtain ⟨ks, k1, k2, k3⟩ := main
    have hkl : ks.length = lenF k.l := by have := congrArg List.length k1; rwa [List.length_map, kids_len] at this
    refine ⟨ks, k1, fun B hB => ⟨by rw [kvCells_len, hkl], .inr ⟨g, k.c, cur, by rw [h1], hB g h2, h3, hlen, hcap, h4, ?_⟩⟩, k3.mono (fun q hq => ⟨hq.1, by rw [h1]; intro e; cases e; exact hq.2 rfl⟩), fun g' hg' => ?_⟩
    · apply List.ext_getElem?
      intro j
      by_cases hj : j < lenF k.l * 3
      · obtain ⟨u, hu⟩ := kvCells_get (ks := ks) (j := j) (by rw [hkl]; exact hj)
        have hc := k2 j u hu
        rw [Nat.zero_add, cell_of_row w g j cur 27 (0, 0) h3] at hc
        rw [List.getElem?_take_of_lt hj, hu, ← hc]
        simp
      · rw [List.getElem?_eq_none (by rw [List.length_take]; omega), List.getElem?_eq_none (by rw [kvCells_len, hkl]; omega)]
    · rw [h1] at hg'
      cases hg'
      exact h2
/-- And back: a row that may be written, and terms beside it. -/
theorem loosE_of {w : World} {B : Nat} {A : Bl} {x : ByteArray × Int} {v : Value} {ks : List Kv} (hx : x.1.size ≤ maxLen) (hown : w.ownsRow B 27 3 v ks.length (kvCells ks)) (hg : ∀ g, v.ownBlock = some g → A g) (hks : GL SepE w ks (fun q => A q ∧ some q ≠ v.ownBlock)) (hfew : ks.length * 48 ≤ 140737488351232) :
    ∃ a c, v = .slice a ks.length c ∧ LoosE w A ⟨x, mkF (ks.map Kv.tn), a, c⟩ := by
  have hlm : lenF (mkF (ks.map Kv.tn)) = ks.length := by rw [len_mk, List.length_map]
  rcases hown.2 with ⟨h1, h2⟩ | ⟨g, cap, cur, h1, h2, h3, h4, h5, h6, h7⟩
  · have e : ks = [] := List.length_eq_zero_iff.1 h2
    subst e
    exact ⟨none, 0, h1, ⟨⟨hx, Nat.le_refl _, Nat.zero_le _, by simp [mkF, lenF]⟩, .inl rfl⟩, fun _ => .inl ⟨rfl, rfl, rfl⟩⟩
  · refine ⟨some ⟨g, 0, none⟩, cap, h1, ⟨⟨hx, by rw [hlm]; exact h4, h5, by rw [hlm]; exact hfew⟩, .inr ⟨g, cur, rfl, hg g (by rw [h1]; rfl), h3, ?_⟩⟩, fun _ => .inr ⟨g, cur, rfl, hg g (by rw [h1]; rfl), h3, h6⟩⟩
    refine sepKids_of _ ks _ 0 (by rw [kids_mk]; rfl) (fun j u hu => ?_) (gl_sepL.1 (hks.mono fun q hq => ⟨hq.1, fun e => hq.2 (by rw [e, h1]; rfl)⟩))
    rw [h1] at hown
    exact owns_at hown j u hu
theorem SepE.own {w : World} {A : Bl} {k : Kv} (h : SepE w A k) : OwnTm false A w k.x k.a k.c k.l := by
  have go : ∀ (F : Fo) (A : Bl) (b o : Nat), SepKids w F A b o → OwnKids false A w F b o := by
    intro F
    induction F with
    | nil => intro _ _ _ _; trivial
    | node _ _ x l r ihl ihr =>
      rintro A b o ⟨A1, A2, h1, h2, ⟨a, c, c0, c1, c2, hs, hl⟩, hr⟩
      refine ⟨⟨a, c, c0, c1, c2, hs, ?_⟩, (ihr A2 b (o + 3) hr).mono (fun q _ hq => (h2 q hq).1)⟩
      rcases hl with e | ⟨g, cur, e1, e2, e3, e4⟩
      · exact .inl ⟨e, rfl⟩
      · exact .inr ⟨g, cur, e1, h1 g e2, e3, (by intro e; cases e), (ihl _ g 0 e4).mono (fun q _ hq => h1 q hq.1)⟩
  refine ⟨h.sizes, ?_⟩
  rcases h.list with e | ⟨g, cur, e1, e2, e3, e4⟩
  · exact .inl ⟨e, rfl⟩
  · exact .inr ⟨g, cur, e1, e2, e3, (by intro e; cases e), (go _ _ g 0 e4).mono (fun q _ hq => hq.1)⟩
end Go.Proofs.YtgidgmgpgfonnaaGreat
/- What slices.SortFunc makes of a row of terms by Compare of package terms: the row in order, all else as it was. -/
namespace Go.Proofs.YtgidgmgpgfonnaaGreat
open Go.RowKit Go.Deep

/-- Only blocks of A have turned. -/
structure Turned (A : Bl) (w w' : World) : Prop where
  os : w'.os = w.os
  tape : w'.tape = w.tape
  output : w'.output = w.output
  size : w.heap.size ≤ w'.heap.size
  block : ∀ k, k < w.heap.size → ¬ A k → w'.heap[k]? = w.heap[k]?
theorem Turned.refl (A : Bl) (w : World) : Turned A w w := ⟨rfl, rfl, rfl, Nat.le_refl _, fun _ _ _ => rfl⟩
theorem Turned.trans {A : Bl} {a b c : World} (h : Turned A a b) (k : Turned A b c) : Turned A a c :=
  ⟨k.os.trans h.os, k.tape.trans h.tape, k.output.trans h.output, Nat.le_trans h.size k.size, fun q hq hA => (k.block q (Nat.lt_of_lt_of_le hq h.size) hA).trans (h.block q hq hA)⟩
theorem Turned.mono {A A' : Bl} {w w' : World} (h : Turned A w w') (hA : ∀ q, q < w.heap.size → A q → A' q) : Turned A' w w' := ⟨h.os, h.tape, h.output, h.size, fun q hq hn => h.block q hq fun ha => hn (hA q hq ha)⟩
theorem Turned.of_below {w w' : World} (h : Below w.heap.size w w') (A : Bl) : Turned A w w' := ⟨h.os, h.tape, h.output, h.size, fun q hq _ => h.block q hq⟩
theorem Turned.below {A : Bl} {B : Nat} {w w' : World} (h : Turned A w w') (hA : ∀ q, A q → B ≤ q) (hB : B ≤ w.heap.size) : Below B w w' := ⟨h.os, h.tape, h.output, h.size, fun q hq => h.block q (by omega) (fun ha => by have := hA q ha; omega)⟩

theorem kvCells_nth : ∀ (ks : List Kv) (i c : Nat) {k : Kv}, ks[i]? = some k → c < 3 → (kvCells ks)[i * 3 + c]? = k.cells[c]?
  | [], _, _, _, h, _ => by simp at h
  | k :: r, 0, c, k', h, hc => by
    simp only [List.getElem?_cons_zero, Option.some.injEq] at h
    subst h
    show (k.cells ++ kvCells r)[0 * 3 + c]? = _
    rw [Nat.zero_mul, Nat.zero_add, List.getElem?_append_left (by simpa [Kv.cells] using hc)]
  | k :: r, i + 1, c, k', h, hc => by
    simp only [List.getElem?_cons_succ] at h
    show (k.cells ++ kvCells r)[(i + 1) * 3 + c]? = _
    rw [List.getElem?_append_right (by simp [Kv.cells]; omega), show (i + 1) * 3 + c - k.cells.length = i * 3 + c by simp [Kv.cells]; omega]
    exact kvCells_nth r i c h hc

abbrev Gd (w : World) (g : Nat) (k : Kv) : Prop := ∃ A : Bl, SepE w A k ∧ ¬ A g
def leafK : Kv := ⟨(⟨#[]⟩, 0), .nil, none, 0⟩
theorem gd_leaf (w : World) (g : Nat) : Gd w g leafK := ⟨fun _ => False, ⟨⟨by decide, Nat.le_refl _, Nat.zero_le _, by simp [leafK, lenF]⟩, .inl rfl⟩, fun h => h⟩
abbrev GdK (w : World) (g : Nat) := { k : Kv // Gd w g k }
def encG {w : World} {g : Nat} (k : GdK w g) : List Value := k.1.cells
def cmpG {w : World} {g : Nat} (x y : GdK w g) : Int := cmpN x.1.tn y.1.tn
theorem swoG {w : World} {g : Nat} : Sort.SWO (ltOf (cmpG (w := w) (g := g))) where
  irrefl x := by
    have := cmpN_anti x.1.tn x.1.tn
    unfold ltOf cmpG
    rw [decide_eq_false_iff_not]
    omega
  trans x y z h1 h2 := by
    unfold ltOf cmpG at *
    rw [decide_eq_true_iff] at *
    exact (cmpN_cons x.1.tn y.1.tn z.1.tn).lt h1 h2
  ntrans x y z h1 h2 := by
    unfold ltOf cmpG at *
    rw [decide_eq_false_iff_not] at *
    have a1 := cmpN_anti x.1.tn y.1.tn
    have a2 := cmpN_anti y.1.tn z.1.tn
    have a3 := cmpN_anti x.1.tn z.1.tn
    have : leN z.1.tn x.1.tn := leN_trans (y := y.1.tn) (by unfold leN; omega) (by unfold leN; omega)
    unfold leN at this
    omega
theorem heap_sortK {α : Type} [Inhabited α] (enc : α → List Value) (w : World) (g m : Nat) (d : Array α) (os : Array Obj) {q : Nat} (hq : q < w.heap.size) :
    (sortWorldK enc 3 w g 0 m d os).heap[q]? = if q = g then (w.heap[q]?).map (Sort.onCells (Sort.putCells id 0 (Sort.flatK enc 3 d))) else w.heap[q]? := by
  unfold sortWorldK
  rw [Sort.heap_grow_old _ _ (by unfold Sort.putRowK; rw [Sort.size_putRow]; exact hq)]
  unfold Sort.putRowK Sort.putRow Sort.mapBlock
  simp only [Array.getElem?_modify, Sort.ahead]
  by_cases e : q = g
  · subst e; simp
  · rw [if_neg e, if_neg (fun h => e h.symm)]

set_option maxRecDepth 100000 in
theorem cmp_lays (w : World) (g n : Nat) [Inhabited (GdK w g)] : CmpLays Tryz.prog 87 #[] (encG (w := w) (g := g)) 3 cmpG g 0 n w := by
  intro m os dk _ x y
  have tm : ∀ k : GdK w g, TmAt (sortWorldK (encG (w := w) (g := g)) 3 w g 0 m dk os) k.1.x k.1.a k.1.c k.1.l := fun k => by
    obtain ⟨k, A, hA, hg⟩ := k
    refine SepTm.tm (SepTm.keep (A := A) (fun q hq hlt => ?_) hA)
    rw [heap_sortK _ _ _ _ _ _ hlt, if_neg (by intro e; subst e; exact hg hq)]
  refine (compare_all _ x.1.x y.1.x x.1.a y.1.a x.1.c y.1.c x.1.l y.1.l _ (Nat.le_refl _) (tm x) (tm y)).mono ?_
  rintro e w' ⟨rfl, os', rfl⟩
  exact ⟨rfl, 0, os', rfl⟩

theorem Tryz.enter50 : ∀ args w, (callFunc 87 args).run Tryz.prog w = .ok (.enter 87 args) w := enters_of Tryz.func87 (by kernel_rfl) rfl

set_option maxRecDepth 100000 in
theorem sort_terms (w : World) (g cap : Nat) (cur : Array Value) (ks : List Kv) (A : Bl) (hg : w.heap[g]? = some (Obj.cells cur 27 (0, 0))) (hc : ∀ (j : Nat) (u : Value), (kvCells ks)[j]? = some u → cur[j]? = some u) (hks : GL SepE w ks A) (hA : ¬ A g) (hn : ks.length < 4611686018427387904) :
    Calls Tryz.prog 92 #[.slice (some ⟨g, 0, none⟩) ks.length cap, .func (.func 87) #[] #[]] w fun e w' => e = .returned (.tuple #[]) ∧ ∃ (ms : List Kv) (cur' : Array Value), List.Perm ms ks ∧ Srt (ms.map Kv.tn) ∧ w'.heap[g]? = some (Obj.cells cur' 27 (0, 0)) ∧ cur'.size = cur.size ∧
      (∀ (j : Nat) (u : Value), (kvCells ms)[j]? = some u → cur'[j]? = some u) ∧ Turned (fun q => q = g) w w' := by
  letI : Inhabited (GdK w g) := ⟨⟨leafK, gd_leaf w g⟩⟩
  have hgd : ∀ k ∈ ks, Gd w g k := fun k hk => by
    obtain ⟨A1, h1, h2⟩ := hks.mem hk
    exact ⟨A1, h2, fun h => hA (h1 g h)⟩
  have hglt : g < w.heap.size := (Array.getElem?_eq_some_iff.1 hg).1
  let d : Array (GdK w g) := (ks.attachWith (Gd w g) hgd).toArray
  have hds : d.size = ks.length := by simp [d]
  have hdl : d.toList.map Subtype.val = ks := by simp [d]
  have cellAt : ∀ (d : Array (GdK w g)) (j : Nat), j < d.size * 3 → (kvCells (d.toList.map Subtype.val))[j]? = some (Sort.flatK encG 3 d)[j]! := fun d j hj => by
    rw [Sort.get_flatK _ _ _ _ hj]
    have hi : j / 3 < d.size := by omega
    have h1 : (d.toList.map Subtype.val)[j / 3]? = some (d[j / 3]!).1 := by
      rw [List.getElem?_map, Array.getElem?_toList, Array.getElem?_eq_getElem hi, getElem!_pos d _ hi]; rfl
    have h2 := kvCells_nth _ (j / 3) (j % 3) h1 (by omega)
    rw [show j / 3 * 3 + j % 3 = j by omega] at h2
    rw [h2]
    have hl : j % 3 < (encG d[j / 3]!).length := by show _ < 3; omega
    rw [getElem!_pos (encG d[j / 3]!) (j % 3) hl]
    exact List.getElem?_eq_getElem hl
  have hH : Sort.HoldsK encG 3 w g 0 d := fun j hj => by
    rw [Sort.size_flatK] at hj
    have h1 := cellAt d j hj
    rw [hdl] at h1
    refine ⟨?_, by simp [World.frozen?, hg]⟩
    rw [Nat.zero_add, cell_of_row w g j cur 27 (0, 0) hg]
    exact hc j _ h1
  have hs := AnyQ.slices_SortFunc Tryz.sortT 3 Tryz.isAgg27 Tryz.sizeOf27 encG (fun _ => rfl) (fun x v hv => kv_one x.1 v hv) cmpG swoG 87 #[] g 0 cap d w Tryz.enter50 (cmp_lays w g d.size) hH hglt (by rw [hds]; exact hn)
  rw [hds] at hs
  refine Calls.mono hs ?_
  rintro e w' ⟨rfl, d', n, os, hp, hso, rfl⟩
  obtain ⟨p1, _, p3⟩ := hp
  have hd's : d'.size = ks.length := p1.trans hds
  have hperm : List.Perm (d'.toList.map Subtype.val) ks := by
    have e1 : (d'.extract 0 ks.length).toList = d'.toList := by rw [← hd's]; simp
    have e2 : (d.extract 0 ks.length).toList = d.toList := by rw [← hds]; simp
    rw [e1, e2] at p3
    have := p3.map Subtype.val
    rwa [hdl] at this
  have hsz : (Sort.putCells id 0 (Sort.flatK encG 3 d') cur).size = cur.size := by simp [Sort.putCells]
  refine ⟨rfl, d'.toList.map Subtype.val, Sort.putCells id 0 (Sort.flatK encG 3 d') cur, hperm, ?_, ?_, hsz, ?_, ?_⟩
  · unfold Srt
    rw [List.pairwise_iff_getElem]
    intro i j hi hj hij
    simp only [List.length_map, Array.length_toList] at hi hj
    have h1 := hso i j (Nat.zero_le _) hij (by omega)
    unfold ltOf cmpG at h1
    rw [decide_eq_false_iff_not, getElem!_pos d' i hi, getElem!_pos d' j hj] at h1
    simp only [List.getElem_map, Array.getElem_toList]
    have := cmpN_anti (d'[i]).1.tn (d'[j]).1.tn
    unfold leN
    omega
  · rw [heap_sortK _ _ _ _ _ _ hglt, if_pos rfl, hg]
    rfl
  · intro j u hu
    have hj : j < d'.size * 3 := by
      rcases Nat.lt_or_ge j (d'.size * 3) with h' | h'
      · exact h'
      · rw [List.getElem?_eq_none (by rw [kvCells_len, List.length_map, Array.length_toList]; exact h')] at hu; cases hu
    have h1 := cellAt d' j hj
    rw [hu] at h1
    have hjc : j < cur.size := by
      obtain ⟨u', hu'⟩ := kvCells_get (ks := ks) (j := j) (by omega)
      have := hc j u' hu'
      exact (Array.getElem?_eq_some_iff.1 this).1
    unfold Sort.putCells
    rw [Array.getElem?_mapIdx, Array.getElem?_eq_getElem hjc, Option.map_some, if_pos ⟨Nat.zero_le _, by rw [Sort.size_flatK]; omega⟩, Nat.sub_zero]
    exact h1.symm
  · refine ⟨rfl, rfl, rfl, ?_, fun q hq hne => ?_⟩
    · unfold sortWorldK Sort.putRowK
      rw [Sort.size_grow, Sort.size_putRow]
      exact Nat.le_add_right _ _
    · rw [heap_sortK _ _ _ _ _ _ hq, if_neg hne]
end Go.Proofs.YtgidgmgpgfonnaaGreat
/- What Find and Unit of package sig answer. -/
namespace Go.Proofs.YtgidgmgpgfonnaaGreat
open Go.RowKit

set_option maxHeartbeats 400000 in
theorem sfind_any (a : Option Addr) (n cap : Nat) (l : List Sym) (nm : ByteArray) (w : World) (h : SigAt w a n l) :
    Calls Tryz.prog 124 #[.slice a n cap, .string nm] w fun e w' => FindRet l nm e ∧ Below w.heap.size w w' := by
  obtain ⟨hl, hm, hcells, _⟩ := h
  unfold maxLen at hm
  have HL : Hid (n = l.length) := hl
  clear hl
  have HC : Hid (∀ i (h : i < l.length), ∃ b off, a = some ⟨b, off, none⟩ ∧ SymAt w b (off + i * 4) l[i]) := hcells
  clear hcells
  go_enter Tryz.func124, Tryz.ntmps124
  go_wp2
  go_loopw [6, 7, 10] (fun _ _ i w' => ∃ k : Nat, k ≤ n ∧ i = .int .i64 k ∧ Below w.heap.size w w' ∧ ∀ j (hj : j < l.length), j < k → sameB l[j].name nm = false) (fun _ _ i _ => n - (intOf i).toNat)
  case atStart => exact ⟨0, Nat.zero_le _, rfl, Below.refl _ _, fun j _ h => absurd h (by omega)⟩
  case round =>
    obtain ⟨k, hk, rfl, hb, hno⟩ := hrel
    have HN : Hid (∀ j (hj : j < l.length), j < k → sameB l[j].name nm = false) := hno
    clear hno
    by_cases hlt : k < n
    · have hlk : k < l.length := by have := HL.out; omega
      obtain ⟨b, off, rfl, hsym⟩ := HC.out k hlk
      have hw := hsym.below hb
      have c0 := hw.name
      have c1 := hw.kind
      have c2 := hw.arity
      have c3 := hw.unit
      clear hw hsym
      cases ht : (l[k].name.toList == nm.toList)
      · go_wp2
        go_roundw
        case rel => exact ⟨k + 1, by omega, by go_num, hb.alloc hb.size _, fun j hj h => by
          rcases Nat.lt_succ_iff_lt_or_eq.1 h with h | rfl
          · exact HN.out j hj h
          · exact ht⟩
        case measure => simp [intOf]; omega
      · have hf : Hid (findL l nm = some k) := find_hit hlk ht HN.out
        go_wp2
        go_ret2
        exact ⟨by unfold FindRet; rw [findI_some hf.out, findB_some hf.out]; rfl, hb.alloc hb.size _⟩
    · have hf : Hid (findL l nm = none) := find_miss fun j hj => HN.out j hj (by have := HL.out; omega)
      go_wp2
      go_ret2
      exact ⟨by unfold FindRet; rw [findI_none hf.out, findB_none hf.out]; rfl, hb⟩

set_option maxHeartbeats 400000 in
theorem sunit_any (a : Option Addr) (n cap : Nat) (l : List Sym) (z : Int) (w : World) (h : SigAt w a n l) :
    Calls Tryz.prog 110 #[.slice a n cap, .int .i64 z] w fun e w' => UnitRet l z e ∧ Below w.heap.size w w' := by
  have HS : Hid (SigAt w a n l) := h
  have hm := h.small
  unfold maxLen at hm
  clear h
  by_cases h0 : z < 0
  · have hu : Hid (unitAt l z = none) := unit_out (by omega)
    go_enter Tryz.func110, Tryz.ntmps110
    go_wp2
    go_ret2
    exact ⟨by unfold UnitRet; rw [unitI_none hu.out, unitOk_none hu.out]; rfl, Below.refl _ _⟩
  · obtain ⟨k, rfl⟩ := Int.eq_ofNat_of_zero_le (by omega : 0 ≤ z)
    by_cases h1 : (n : Int) ≤ k
    · have hu : Hid (unitAt l k = none) := unit_out (by have := HS.out.len; omega)
      go_enter Tryz.func110, Tryz.ntmps110
      go_wp2
      go_ret2
      exact ⟨by unfold UnitRet; rw [unitI_none hu.out, unitOk_none hu.out]; rfl, Below.refl _ _⟩
    · have hlk : k < l.length := by have := HS.out.len; omega
      obtain ⟨b, off, rfl, hw⟩ := HS.out.cells k hlk
      have c1 := hw.kind
      have c3 := hw.unit
      clear hw
      cases hk : (l[k].kind != 3)
      · have hu : Hid (unitAt l k = findL l l[k].unit) := unit_is hlk (by simpa using hk)
        go_enter Tryz.func110, Tryz.ntmps110
        go_wp2_with fail
        refine (sfind_any _ _ _ l _ _ HS.out).mono ?_
        rintro e w1 ⟨he, hb⟩
        unfold FindRet at he
        subst he
        go_wp2
        go_ret2
        exact ⟨by unfold UnitRet; rw [unitI_is hu.out, unitOk_is hu.out]; rfl, hb⟩
      · have hu : Hid (unitAt l k = none) := unit_not hlk (by simpa using hk)
        go_enter Tryz.func110, Tryz.ntmps110
        go_wp2
        go_ret2
        exact ⟨by unfold UnitRet; rw [unitI_none hu.out, unitOk_none hu.out]; rfl, Below.refl _ _⟩

end Go.Proofs.YtgidgmgpgfonnaaGreat
/- What is put in is told there; what is told, put in, makes the term again; how many nodes there are then. -/
namespace Go.Proofs.YtgidgmgpgfonnaaGreat
open Go.RowKit Go.Deep

theorem kids_set : ∀ (n : Nat) (F : Fo) (t : Tn), n < lenF F → (kidsL (setF n F t))[n]? = some t
  | n, .nil, _, h => by simp [lenF] at h
  | 0, .node _ _ _ _ _, t, _ => by simp [setF, kidsL]
  | n + 1, .node _ _ _ _ r, t, h => by
    simp only [setF, kidsL, List.getElem?_cons_succ]
    exact kids_set n r t (by simp only [lenF] at h; omega)
theorem set_same : ∀ (n : Nat) (F : Fo) (t : Tn), (kidsL F)[n]? = some t → setF n F t = F
  | n, .nil, _, h => by simp [kidsL] at h
  | 0, .node _ _ _ _ _, t, h => by
    simp only [kidsL, List.getElem?_cons_zero, Option.some.injEq] at h
    subst h
    rfl
  | n + 1, .node _ _ _ _ r, t, h => by
    simp only [kidsL, List.getElem?_cons_succ] at h
    simp only [setF]
    rw [set_same n r t h]
theorem nodes_set : ∀ (n : Nat) (F : Fo) (t u : Tn), (kidsL F)[n]? = some t → nodesF (setF n F u) + nodesF t.2 = nodesF F + nodesF u.2
  | n, .nil, _, _, h => by simp [kidsL] at h
  | 0, .node _ _ _ l r, t, u, h => by
    simp only [kidsL, List.getElem?_cons_zero, Option.some.injEq] at h
    subst h
    simp only [setF, nodesF]
    omega
  | n + 1, .node _ _ _ _ r, t, u, h => by
    simp only [kidsL, List.getElem?_cons_succ] at h
    have := nodes_set n r t u h
    simp only [setF, nodesF]
    omega
theorem kidT_get {i : Int} {l : Fo} {k : Tn} (h : kidT i l = some k) : (0 ≤ i ∧ i < lenF l) ∧ (kidsL l)[i.toNat]? = some k := by
  unfold kidT at h
  split at h
  · exact ⟨by assumption, h⟩
  · cases h
theorem kidT_set {i : Int} {l : Fo} {k : Tn} (u : Tn) (h : kidT i l = some k) : kidT i (setF i.toNat l u) = some u := by
  obtain ⟨⟨h0, h1⟩, _⟩ := kidT_get h
  unfold kidT
  rw [len_set, if_pos ⟨h0, h1⟩]
  exact kids_set _ _ _ (by omega)
theorem put_some (u : Tn) : ∀ (ps : List Int) (t x : Tn), subT ps t = some x → ∃ y, putT u ps t = some y
  | [], _, _, _ => ⟨u, rfl⟩
  | i :: p, t, x, h => by
    simp only [subT] at h
    cases hk : kidT i t.2 with
    | none => rw [hk] at h; cases h
    | some k =>
      rw [hk] at h
      obtain ⟨y, hy⟩ := put_some u p k x h
      exact ⟨(t.1, setF i.toNat t.2 y), by simp only [putT, hk, hy]⟩
theorem back_at (u : Tn) : ∀ (ps : List Int) (t y : Tn), putT u ps t = some y → subT ps y = some u
  | [], _, _, h => by simp only [putT] at h; rw [subT, ← h]
  | i :: p, t, y, h => by
    simp only [putT] at h
    cases hk : kidT i t.2 with
    | none => rw [hk] at h; cases h
    | some k =>
      rw [hk] at h
      dsimp only at h
      cases hp : putT u p k with
      | none => rw [hp] at h; cases h
      | some k' =>
        rw [hp] at h
        simp only [Option.some.injEq] at h
        subst h
        simp only [subT, kidT_set k' hk]
        exact back_at u p k k' hp
theorem back_put : ∀ (ps : List Int) (t x : Tn), subT ps t = some x → putT x ps t = some t
  | [], _, _, h => by simp only [subT] at h; rw [putT, h]
  | i :: p, t, x, h => by
    simp only [subT] at h
    cases hk : kidT i t.2 with
    | none => rw [hk] at h; cases h
    | some k =>
      rw [hk] at h
      simp only [putT, hk, back_put p k x h]
      rw [set_same _ _ _ (kidT_get hk).2]
theorem back_size (u : Tn) : ∀ (ps : List Int) (t x y : Tn), subT ps t = some x → putT u ps t = some y → nodesF y.2 + nodesF x.2 = nodesF t.2 + nodesF u.2
  | [], _, _, _, h, h2 => by
    simp only [subT, Option.some.injEq] at h
    simp only [putT, Option.some.injEq] at h2
    subst h h2
    omega
  | i :: p, t, x, y, h, h2 => by
    simp only [subT] at h
    simp only [putT] at h2
    cases hk : kidT i t.2 with
    | none => rw [hk] at h; cases h
    | some k =>
      rw [hk] at h h2
      dsimp only at h2
      cases hp : putT u p k with
      | none => rw [hp] at h2; cases h2
      | some k' =>
        rw [hp] at h2
        simp only [Option.some.injEq] at h2
        subst h2
        have h3 := back_size u p k x k' h hp
        have h4 := nodes_set _ _ _ k' (kidT_get hk).2
        show nodesF (setF i.toNat t.2 k') + nodesF x.2 = nodesF t.2 + nodesF u.2
        omega

end Go.Proofs.YtgidgmgpgfonnaaGreat
/- Canonical forms, without any program: the axioms, cancelling, another argument in one place, another term at any place. -/
namespace Go.Proofs.YtgidgmgpgfonnaaGreat
open Go.RowKit Go.Deep

/-- The parts that a term's canonical form gives to a symbol. -/
def pc (S : Sg) (f : Int) (t : Tn) : List Tn := partsN S f (canonT S t)
theorem canonT_parts {S : Sg} {ar : Int → Nat} (hS : S.Ok ar) {t : Tn} (hj : S.joins t.1.2 = true) (hx : noName t.1.1 = true) (h : RightT S ar t) : List.Perm (pc S t.1.2 t) ((kidsL t.2).flatMap (pc S t.1.2)) := by
  have hc := canonL_can hS h.2
  have hn := h.1
  unfold nodeOk at hn
  rw [if_neg (by simp [hx]), if_pos hj, ← kids_len] at hn
  have hne : canonL S t.2 ≠ [] := fun e => by
    rw [canonL_map, List.map_eq_nil_iff] at e
    rw [e] at hn
    simp at hn
  have h1 := parts_join hj (flat_good hj hc) (canon1_join hx hj hc hne)
  refine (show List.Perm (pc S t.1.2 t) _ from h1).trans ?_
  rw [canonL_map, List.flatMap_map]
  exact List.Perm.refl _
theorem eq_iff {S : Sg} {ar : Int → Nat} (hS : S.Ok ar) {f : Int} (hj : S.joins f = true) {x y : Tn} (hx : RightT S ar x) (hy : RightT S ar y) : canonT S x = canonT S y ↔ List.Perm (pc S f x) (pc S f y) :=
  ⟨fun e => by unfold pc; rw [e], parts_inj hj (canonT_can hS hx) (canonT_can hS hy)⟩

/-! ### the axioms -/
def appT (f : Int) (l : List Tn) : Tn := ((noB, f), mkF l)
theorem right_app {S : Sg} {ar : Int → Nat} {f : Int} {l : List Tn} (hj : S.joins f = true) (h2 : 2 ≤ l.length) (h : ∀ t ∈ l, RightT S ar t) : RightT S ar (appT f l) := by
  refine ⟨?_, right_kids.2 (by rw [show kidsL (appT f l).2 = l from kids_mk l]; exact h)⟩
  unfold nodeOk appT
  dsimp only
  rw [if_neg (by simp [noName_noB]), if_pos hj, len_mk]
  exact h2
theorem pc_app {S : Sg} {ar : Int → Nat} (hS : S.Ok ar) {f : Int} {l : List Tn} (hj : S.joins f = true) (h2 : 2 ≤ l.length) (h : ∀ t ∈ l, RightT S ar t) : List.Perm (pc S f (appT f l)) (l.flatMap (pc S f)) := by
  have h1 := canonT_parts hS (t := appT f l) hj noName_noB (right_app hj h2 h)
  rw [show kidsL (appT f l).2 = l from kids_mk l] at h1
  exact h1
theorem right2 {S : Sg} {ar : Int → Nat} {f : Int} (hj : S.joins f = true) {x y : Tn} (hx : RightT S ar x) (hy : RightT S ar y) : RightT S ar (appT f [x, y]) := right_app hj (by simp) (by simp; exact ⟨hx, hy⟩)
theorem right3 {S : Sg} {ar : Int → Nat} {f : Int} (hj : S.joins f = true) {x y z : Tn} (hx : RightT S ar x) (hy : RightT S ar y) (hz : RightT S ar z) : RightT S ar (appT f [x, y, z]) := right_app hj (by simp) (by simp; exact ⟨hx, hy, hz⟩)
theorem pc2 {S : Sg} {ar : Int → Nat} (hS : S.Ok ar) {f : Int} (hj : S.joins f = true) {x y : Tn} (hx : RightT S ar x) (hy : RightT S ar y) : List.Perm (pc S f (appT f [x, y])) (pc S f x ++ pc S f y) := by
  have := pc_app hS hj (l := [x, y]) (by simp) (by simp; exact ⟨hx, hy⟩)
  simpa using this
theorem ax_turn {S : Sg} {ar : Int → Nat} (hS : S.Ok ar) {f : Int} (hj : S.joins f = true) {x y : Tn} (hx : RightT S ar x) (hy : RightT S ar y) : canonT S (appT f [x, y]) = canonT S (appT f [y, x]) :=
  (eq_iff hS hj (right2 hj hx hy) (right2 hj hy hx)).2 ((pc2 hS hj hx hy).trans (List.perm_append_comm.trans (pc2 hS hj hy hx).symm))
theorem pc3 {S : Sg} {ar : Int → Nat} (hS : S.Ok ar) {f : Int} (hj : S.joins f = true) {x y z : Tn} (hx : RightT S ar x) (hy : RightT S ar y) (hz : RightT S ar z) : List.Perm (pc S f (appT f [x, y, z])) (pc S f x ++ (pc S f y ++ pc S f z)) := by
  have := pc_app hS hj (l := [x, y, z]) (by simp) (by simp; exact ⟨hx, hy, hz⟩)
  simpa using this
theorem ax_flat {S : Sg} {ar : Int → Nat} (hS : S.Ok ar) {f : Int} (hj : S.joins f = true) {x y z : Tn} (hx : RightT S ar x) (hy : RightT S ar y) (hz : RightT S ar z) : canonT S (appT f [x, y, z]) = canonT S (appT f [x, appT f [y, z]]) :=
  (eq_iff hS hj (right3 hj hx hy hz) (right2 hj hx (right2 hj hy hz))).2
    ((pc3 hS hj hx hy hz).trans ((pc2 hS hj hx (right2 hj hy hz)).trans ((pc2 hS hj hy hz).append_left _)).symm)
theorem ax_left {S : Sg} {ar : Int → Nat} (hS : S.Ok ar) {f : Int} (hj : S.joins f = true) {x y z : Tn} (hx : RightT S ar x) (hy : RightT S ar y) (hz : RightT S ar z) : canonT S (appT f [x, appT f [y, z]]) = canonT S (appT f [appT f [x, y], z]) := by
  rw [← ax_flat hS hj hx hy hz]
  refine (eq_iff hS hj (right3 hj hx hy hz) (right2 hj (right2 hj hx hy) hz)).2 ((pc3 hS hj hx hy hz).trans ?_)
  refine ((pc2 hS hj (right2 hj hx hy) hz).trans (((pc2 hS hj hx hy).append_right _).trans ?_)).symm
  rw [List.append_assoc]
theorem cancels {S : Sg} {ar : Int → Nat} (hS : S.Ok ar) {f : Int} (hj : S.joins f = true) {x y z : Tn} (hx : RightT S ar x) (hy : RightT S ar y) (hz : RightT S ar z) : canonT S (appT f [x, y]) = canonT S (appT f [x, z]) ↔ canonT S y = canonT S z := by
  rw [eq_iff hS hj (right2 hj hx hy) (right2 hj hx hz), eq_iff hS hj hy hz]
  constructor
  · intro h
    exact (List.perm_append_left_iff _).1 ((pc2 hS hj hx hy).symm.trans (h.trans (pc2 hS hj hx hz)))
  · intro h
    exact (pc2 hS hj hx hy).trans ((h.append_left _).trans (pc2 hS hj hx hz).symm)
theorem right_const {S : Sg} {ar : Int → Nat} (hS : S.Ok ar) {f u : Int} (hu : S.unit f = some u) : RightT S ar (constT u) := by
  refine ⟨?_, trivial⟩
  unfold nodeOk constT
  dsimp only
  rw [if_neg (by simp [noName_noB]), if_neg (by simp [hS.free f u hu]), hS.none f u hu]
  rfl
theorem canon_const {S : Sg} {ar : Int → Nat} (hS : S.Ok ar) {f u : Int} (hu : S.unit f = some u) : canonT S (constT u) = constT u := by
  unfold canonT canon1 constT
  dsimp only
  rw [if_neg (by simp [noName_noB]), if_neg (by simp [hS.free f u hu])]
  rfl
theorem pc_const {S : Sg} {ar : Int → Nat} (hS : S.Ok ar) {f u : Int} (hj : S.joins f = true) (hu : S.unit f = some u) : pc S f (constT u) = [] := by
  unfold pc partsN
  rw [canon_const hS hu, if_neg (by simp [hj]), isUn_const hu]
  simp
theorem ax_unit {S : Sg} {ar : Int → Nat} (hS : S.Ok ar) {f u : Int} (hj : S.joins f = true) (hu : S.unit f = some u) {x : Tn} (hx : RightT S ar x) : canonT S (appT f [x, constT u]) = canonT S x := by
  refine (eq_iff hS hj (right2 hj hx (right_const hS hu)) hx).2 ((pc2 hS hj hx (right_const hS hu)).trans ?_)
  rw [pc_const hS hj hu, List.append_nil]
theorem ax_unit3 {S : Sg} {ar : Int → Nat} (hS : S.Ok ar) {f u : Int} (hj : S.joins f = true) (hu : S.unit f = some u) {x y : Tn} (hx : RightT S ar x) (hy : RightT S ar y) : canonT S (appT f [x, y, constT u]) = canonT S (appT f [x, y]) := by
  refine (eq_iff hS hj (right3 hj hx hy (right_const hS hu)) (right2 hj hx hy)).2 ((pc3 hS hj hx hy (right_const hS hu)).trans ((pc2 hS hj hx hy).trans ?_).symm)
  rw [pc_const hS hj hu, List.append_nil]

/-! ### another argument in one place -/
theorem kids_setF : ∀ (n : Nat) (F : Fo) (t : Tn), kidsL (setF n F t) = (kidsL F).set n t
  | n, .nil, _ => by cases n <;> rfl
  | 0, .node _ _ _ _ _, _ => rfl
  | n + 1, .node _ _ _ _ r, t => by simp only [setF, kidsL, List.set_cons_succ]; rw [kids_setF n r t]
theorem mkF_inj {l m : List Tn} (h : mkF l = mkF m) : l = m := by
  have := congrArg kidsL h
  rwa [kids_mk, kids_mk] at this
theorem set_split {α : Type} : ∀ {l : List α} {n : Nat} {a : α}, l[n]? = some a → ∃ l1 l2, l = l1 ++ a :: l2 ∧ ∀ b, l.set n b = l1 ++ b :: l2
  | [], _, _, h => by simp at h
  | x :: r, 0, a, h => by simp at h; subst h; exact ⟨[], r, rfl, fun _ => rfl⟩
  | x :: r, n + 1, a, h => by
    simp only [List.getElem?_cons_succ] at h
    obtain ⟨l1, l2, h1, h2⟩ := set_split h
    exact ⟨x :: l1, l2, by rw [h1]; rfl, fun b => by rw [List.set_cons_succ, h2]; rfl⟩
theorem right_set {S : Sg} {ar : Int → Nat} {t b : Tn} {n : Nat} (ht : RightT S ar t) (hb : RightT S ar b) : RightT S ar (t.1, setF n t.2 b) := by
  refine ⟨by rw [len_set]; exact ht.1, right_kids.2 (fun k hk => ?_)⟩
  rw [kids_setF] at hk
  rcases List.mem_or_eq_of_mem_set hk with h | h
  · exact right_kids.1 ht.2 k h
  · rw [h]; exact hb
theorem canon_free {S : Sg} {t : Tn} (hx : noName t.1.1 = true) (hj : S.joins t.1.2 = false) : canonT S t = ((noB, t.1.2), mkF ((kidsL t.2).map (canonT S))) := by
  unfold canonT canon1
  rw [if_neg (by simp [hx]), if_neg (by simp [hj]), canonL_map]
  rfl
theorem within {S : Sg} {ar : Int → Nat} (hS : S.Ok ar) {t a b : Tn} {n : Nat} (ht : RightT S ar t) (hb : RightT S ar b) (ha : (kidsL t.2)[n]? = some a) : canonT S (t.1, setF n t.2 b) = canonT S t ↔ canonT S b = canonT S a := by
  have hra : RightT S ar a := right_kids.1 ht.2 a (List.mem_of_getElem? ha)
  obtain ⟨l1, l2, e1, e2⟩ := set_split ha
  have ek : kidsL (setF n t.2 b) = l1 ++ b :: l2 := by rw [kids_setF, e2]
  have hn := ht.1
  unfold nodeOk at hn
  cases hx : noName t.1.1 with
  | false =>
    rw [if_pos hx] at hn
    have := congrArg List.length e1
    rw [kids_len, hn.2] at this
    simp at this
  | true =>
    cases hj : S.joins t.1.2 with
    | true =>
      rw [eq_iff hS hj (right_set ht hb) ht, eq_iff hS hj hb hra]
      have p1 := canonT_parts hS (t := (t.1, setF n t.2 b)) hj hx (right_set ht hb)
      have p2 := canonT_parts hS (t := t) hj hx ht
      dsimp only at p1
      rw [ek, List.flatMap_append, List.flatMap_cons] at p1
      rw [e1, List.flatMap_append, List.flatMap_cons] at p2
      constructor
      · intro h
        have := p1.symm.trans (h.trans p2)
        exact (List.perm_append_right_iff _).1 ((List.perm_append_left_iff _).1 this)
      · intro h
        exact p1.trans (((h.append_right _).append_left _).trans p2.symm)
    | false =>
      rw [canon_free (t := (t.1, setF n t.2 b)) hx hj, canon_free hx hj]
      dsimp only
      rw [ek, e1]
      constructor
      · intro h
        have h2 := mkF_inj (congrArg Prod.snd h)
        simp only [List.map_append, List.map_cons] at h2
        exact (List.cons.inj (List.append_cancel_left h2)).1
      · intro h
        simp only [List.map_append, List.map_cons]
        rw [h]

/-! ### another term at any place -/
theorem sub_right {S : Sg} {ar : Int → Nat} : ∀ (ps : List Int) {t x : Tn}, RightT S ar t → subT ps t = some x → RightT S ar x
  | [], t, x, ht, h => by simp only [subT, Option.some.injEq] at h; rw [← h]; exact ht
  | i :: p, t, x, ht, h => by
    simp only [subT] at h
    cases hk : kidT i t.2 with
    | none => rw [hk] at h; cases h
    | some k =>
      rw [hk] at h
      exact sub_right p (right_kids.1 ht.2 k (List.mem_of_getElem? (kidT_get hk).2)) h
theorem put_right {S : Sg} {ar : Int → Nat} {u : Tn} (hu : RightT S ar u) : ∀ (ps : List Int) {t y : Tn}, RightT S ar t → putT u ps t = some y → RightT S ar y
  | [], t, y, _, h => by simp only [putT, Option.some.injEq] at h; rw [← h]; exact hu
  | i :: p, t, y, ht, h => by
    simp only [putT] at h
    cases hk : kidT i t.2 with
    | none => rw [hk] at h; cases h
    | some k =>
      rw [hk] at h
      dsimp only at h
      cases hp : putT u p k with
      | none => rw [hp] at h; cases h
      | some k' =>
        rw [hp] at h
        simp only [Option.some.injEq] at h
        subst h
        exact right_set ht (put_right hu p (right_kids.1 ht.2 k (List.mem_of_getElem? (kidT_get hk).2)) hp)
theorem deep {S : Sg} {ar : Int → Nat} (hS : S.Ok ar) {u : Tn} (hu : RightT S ar u) : ∀ (ps : List Int) {t x y : Tn}, RightT S ar t → subT ps t = some x → putT u ps t = some y → (canonT S y = canonT S t ↔ canonT S u = canonT S x)
  | [], t, x, y, _, h, h2 => by
    simp only [subT, Option.some.injEq] at h
    simp only [putT, Option.some.injEq] at h2
    rw [← h, ← h2]
  | i :: p, t, x, y, ht, h, h2 => by
    simp only [subT] at h
    simp only [putT] at h2
    cases hk : kidT i t.2 with
    | none => rw [hk] at h; cases h
    | some k =>
      rw [hk] at h h2
      dsimp only at h2
      have hkr := right_kids.1 ht.2 k (List.mem_of_getElem? (kidT_get hk).2)
      cases hp : putT u p k with
      | none => rw [hp] at h2; cases h2
      | some k' =>
        rw [hp] at h2
        simp only [Option.some.injEq] at h2
        subst h2
        rw [within hS ht (put_right hu p hkr hp) (kidT_get hk).2]
        exact deep hS hu p hkr h hp
end Go.Proofs.YtgidgmgpgfonnaaGreat
