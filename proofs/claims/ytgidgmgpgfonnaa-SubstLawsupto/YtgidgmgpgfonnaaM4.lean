/- Texts laid together: RLst, PApp, ShelfS, ShelfC, TCmp, PSep, PSort, PUnit, TBackP, CanR, PCan. -/
import Derived.Deep.AppendLies
import Derived.Shelf.SlSortCmp.WholeK
import Derived.Test.YtgidgmgpgfonnaaProg
import Derived.Shelf.Small.Strs
import Derived.Shelf.Small.Wraps
import Derived.Test.YtgidgmgpgfonnaaRows
import Derived.WalkKit
import Derived.Sort.Grow
import Derived.WalkSpells
import Derived.WalkLawsBesides
import Derived.Test.YtgidgmgpgfonnaaM3
/- A list of terms under way: a row of its own, the terms' lists elsewhere; what the document's Clones answers. -/
namespace Go.Proofs.Ytgidgmgpgfonnaa
open Go.RowKit Go.Deep

structure Lst (B : Nat) (W : World) (v : Value) (ks : List Kv) : Prop where
  row : W.ownsRow B 27 3 v ks.length (kvCells ks)
  own : ∀ k ∈ ks, OwnTm false (fun q => B ≤ q ∧ some q ≠ v.ownBlock) W k.x k.a k.c k.l
set_option maxRecDepth 100000 in
theorem Lst.nil (B : Nat) (W : World) : Lst B W (.slice none 0 0) [] := ⟨World.ownsRow_nil _ _ _ _, by simp⟩
set_option maxRecDepth 100000 in
theorem Lst.below {B : Nat} {W W' : World} {v : Value} {ks : List Kv} (h : Lst B W v ks) (hb : Below W.heap.size W W') : Lst B W' v ks := ⟨owns_below h.row hb, fun k hk => (h.own k hk).below hb⟩
set_option maxRecDepth 100000 in
theorem Lst.base {B B' : Nat} {W : World} {v : Value} {ks : List Kv} (h : Lst B W v ks) (hB : B' ≤ B) : Lst B' W v ks := ⟨owns_base h.row hB, fun k hk => (h.own k hk).mono (fun q _ hq => ⟨by omega, hq.2⟩)⟩
set_option maxRecDepth 100000 in
theorem Lst.lt {B : Nat} {W : World} {v : Value} {ks : List Kv} {g : Nat} (h : Lst B W v ks) (hg : v.ownBlock = some g) : g < W.heap.size := by
  obtain ⟨cur, hc⟩ := (owns_cells h.row hg).2
  exact (Array.getElem?_eq_some_iff.1 hc).1
set_option maxRecDepth 100000 in
theorem Lst.grow {B : Nat} {W W1 W2 : World} {v v' : Value} {ks ms : List Kv} (h : Lst B W v ks) (hW : Below W.heap.size W W1) (hm : ∀ k ∈ ms, OwnTm false (fun q => W.heap.size ≤ q) W1 k.x k.a k.c k.l) (hB : B ≤ W.heap.size)
    (hg : W1.grownBy W2 v.ownBlock) (hat : v'.ownBlock = v.ownBlock ∨ v'.ownBlock = some W1.heap.size) (ho : W2.ownsRow B 27 3 v' (ks ++ ms).length (kvCells (ks ++ ms))) : Lst B W2 v' (ks ++ ms) := by
  refine ⟨ho, fun k hk => ?_⟩
  have h2 : OwnTm false (fun q => (B ≤ q ∧ some q ≠ v'.ownBlock) ∧ some q ≠ v.ownBlock) W1 k.x k.a k.c k.l := by
    rcases List.mem_append.1 hk with hk | hk
    · have h0 : OwnTm false (fun q => (B ≤ q ∧ some q ≠ v'.ownBlock) ∧ some q ≠ v.ownBlock) W k.x k.a k.c k.l := (h.own k hk).mono (fun q hq hp => ⟨⟨hp.1, by
        rcases hat with e | e
        · rw [e]; exact hp.2
        · rw [e]; intro e'; cases e'; have := hW.size; omega⟩, hp.2⟩)
      exact h0.below hW
    · refine (hm k hk).mono (fun q hq hp => ?_)
      have hne : some q ≠ v.ownBlock := fun e => by have := h.lt e.symm; omega
      refine ⟨⟨by omega, ?_⟩, hne⟩
      rcases hat with e | e
      · rw [e]; exact hne
      · rw [e]; intro e'; cases e'; omega
  exact (h2.keep (fun q hq hlt => hg.block q hlt hq.2)).mono (fun q _ hq => hq.1)
set_option maxRecDepth 100000 in
/-- append of what another slice holds: nil, or some. -/
theorem wpList_append_lst {ops : Array Oper} {rest : List Oper} {o : Oper} {a : Act} {Q : Exit → Act → World → Prop} {W : World} (hgd : o.guard = none) (s x : Operand)
    (ho : o.op = .call { callee := .builtin .append, args := #[s, x], argTypes := #[25, 25] }) (base : Nat) (v : Value) (ks : List Kv) (hs : a.eval s = v) (hown : W.ownsRow base 27 3 v ks.length (kvCells ks))
    (sa : Option Addr) (m c : Nat) (ms : List Kv) (hx : a.eval x = .slice sa m c) (hm : RowAt W sa m ms) (hnil : sa = none → c = 0) (hsome : sa ≠ none → 0 < m) (hbig : ks.length + m ≤ 2932031007400) (hbase : base ≤ W.heap.size)
    (h : ∀ v' w', w'.ownsRow base 27 3 v' (ks ++ ms).length (kvCells (ks ++ ms)) → W.grownBy w' v.ownBlock → (v'.ownBlock = v.ownBlock ∨ v'.ownBlock = some W.heap.size) → wpList Try.prog ops Q rest (a.put o.dst v') w') : wpList Try.prog ops Q (o :: rest) a W := by
  obtain ⟨i0, hi, hz0, hz1, hz2⟩ := info_parts Try.info27
  have hmax : maxLen = 9223372036854775807 := rfl
  rcases sa with _ | ⟨b, off, sp⟩
  · obtain rfl : ms = [] := by
      cases ms with
      | nil => rfl
      | cons k r =>
        obtain ⟨_, _, e, _⟩ := hm.get (j := 0) (k := k) rfl
        cases e
    obtain rfl := hm.len
    obtain rfl := hnil rfl
    refine wpList_append_own_none hgd s x 25 ho base 27 i0 3 Try.underlying25 hi v ks.length (kvCells ks) hs hown hx (h v W (by simpa using hown) ?_ (.inl rfl))
    exact ⟨rfl, rfl, rfl, Nat.le_refl _, fun _ _ _ => rfl⟩
  · have hlm := hm.len
    refine wpList_append_lies _ hgd s x 25 ho base 27 i0 _ 3 48 Try.underlying25 hi hz0 hz1 hz2 rfl (by decide) v ks.length (kvCells ks) hs hown ⟨b, off, sp⟩ m c (kvCells ms) hx (by rw [kvCells_len, hlm]) (fun j u hu => ?_) (kvCells_one ms) (hsome (by simp)) (by omega) (by omega) hbase _ rfl ?_
    · obtain ⟨b', off', e, hc⟩ := hm.cells j u hu
      cases e
      rw [← hc]
      congr 1
      unfold Addr.add
      split <;> simp_all
    · intro g cap w' h1 h2 h3 _
      refine h _ w' ?_ h2 ?_
      · rw [kvCells_append, List.length_append, ← hlm]
        exact h1
      · rcases h3 with h3 | h3
        · exact .inl h3.symm
        · exact .inr (by rw [h3]; rfl)

set_option maxRecDepth 100000 in
set_option maxHeartbeats 2000000 in
theorem clones_any (a : Option Addr) (F : Fo) (cap : Nat) (w : World) (hA : ArgsAt w a F) (hs : lenF F ≤ 2932031007319) :
    Calls Try.prog 85 #[.slice a (lenF F) cap] w fun e w' => ∃ v ks, e = .returned v ∧ Lst w.heap.size w' v ks ∧ (ks = [] → v = .slice none 0 0) ∧ ks.map Kv.tn = kidsL F ∧ Below w.heap.size w w' := by
  have HA : Hid (ArgsAt w a F) := hA
  clear hA
  go_enter Try.func85, Try.ntmps85
  go_wp2
  go_loopw [3, 4] (fun ov i wr => ∃ (j : Nat) (v : Value) (ks : List Kv), j ≤ lenF F ∧ v = ov ∧ i = .int .i64 j ∧ Lst w.heap.size wr v ks ∧ (ks = [] → v = .slice none 0 0) ∧ ks.map Kv.tn = (kidsL F).take j ∧ Below w.heap.size w wr) (fun _ i _ => lenF F - (intOf i).toNat)
  case atStart => exact ⟨0, _, [], Nat.zero_le _, rfl, rfl, Lst.nil _ _, fun _ => rfl, by simp, Below.refl _ _⟩
  case round =>
    obtain ⟨j, v, ks, hj, rfl, rfl, hL, hnil, hmap, hlow⟩ := hrel
    have HN : Hid (ks = [] → v = .slice none 0 0) := hnil
    have HL : Hid (Lst w.heap.size wr v ks) := hL
    have HM : Hid (ks.map Kv.tn = (kidsL F).take j) := hmap
    have HB : Hid (Below w.heap.size w wr) := hlow
    have hkl : ks.length = j := by
      have := congrArg List.length hmap
      rw [List.length_map, List.length_take, kids_len] at this
      omega
    clear hL hnil hmap hlow
    by_cases hlt : j < lenF F
    · obtain ⟨bb, oo, rfl, hkk⟩ := HA.out.get (by omega)
      obtain ⟨y, a1, c1, l1, kd⟩ := hkk.kid (k := j) hlt
      have kd' := kd.below HB.out
      have p0 := kd'.name; have p1 := kd'.sym; have p2 := kd'.list
      have KD : Hid (Kid wr F bb oo j y a1 c1 l1) := kd'
      have hj0 : (0 : Int) ≤ (j : Int) := by omega
      have hjn : (j : Int) < (lenF F : Int) := by omega
      clear kd kd' hkk
      have HC : Hid (∀ W, Below wr.heap.size wr W → Calls Try.prog 41 #[.agg #[.string y.1, .int .i64 y.2, .slice a1 (lenF l1) c1]] W fun e w' => ∃ a' c', e = .returned (.agg #[.string y.1, .int .i64 y.2, .slice a' (lenF l1) c']) ∧ RowTm W.heap.size w' y a' c' l1 ∧ Below W.heap.size W w') := fun W hW => rclone_any y l1 a1 c1 W (KD.out.at_.below hW)
      go_wp2_with (first
        | (go_at_call 41; refine (HC.out _ (Below.refl _ _)).mono ?_; rintro e w1 ⟨a', c', rfl, ho1, hb1⟩; have HO1 : Hid (OwnTm false (fun q => wr.heap.size ≤ q) w1 y a' c' l1) := ho1.own; have HB1 : Hid (Below wr.heap.size wr w1) := hb1; have hz1 := hb1.size; clear ho1 hb1)
        | (at_builtin; refine wpList_append_lst rfl _ _ rfl w.heap.size v ks rfl (owns_below HL.out.row (HB1.out.alloc hz1 _)) (some ⟨w1.heap.size, 0, none⟩) 1 1 [⟨y, l1, a', c'⟩] rfl (RowAt.new w1 ⟨y, l1, a', c'⟩) (fun e => by cases e) (fun _ => Nat.one_pos) (by omega) (by have := HB.out.size; rw [World.size_alloc]; omega) ?_; intro v2 w2 hown2 hgrow2 hat2; have HL2 : Hid (Lst w.heap.size w2 v2 (ks ++ [⟨y, l1, a', c'⟩])) := HL.out.grow (HB1.out.alloc hz1 _) (fun k hk => by simp only [List.mem_singleton] at hk; subst hk; exact HO1.out.below ((Below.refl _ _).alloc (Nat.le_refl _) _)) HB.out.size hgrow2 hat2 hown2; have HB2 : Hid (Below w.heap.size w w2) := HB.out.trans (((HB1.out.alloc hz1 _).mono HB.out.size).grown hgrow2 (by have := HB.out.size; rw [World.size_alloc]; omega) (fun k e => (owns_cells HL.out.row e).1)); clear hown2 hgrow2 hat2))
      go_roundw
      case rel =>
        obtain ⟨B1, O1, sp⟩ := KD.out.split
        exact ⟨j + 1, _, _, by omega, rfl, by go_num, HL2.out, fun e => by simp at e, by rw [kids_take sp, ← HM.out]; simp [Kv.tn], HB2.out⟩
      case measure => simp [intOf]; omega
    · obtain rfl : j = lenF F := by omega
      have HM' : Hid (ks.map Kv.tn = kidsL F) := by have := HM.out; rwa [List.take_of_length_le (by rw [kids_len]; exact Nat.le_refl _)] at this
      go_wp2
      go_ret
      exact ⟨v, ks, rfl, HL.out, HN.out, HM'.out, HB.out⟩
end Go.Proofs.Ytgidgmgpgfonnaa
/- append of what another slice of terms holds, be it nil, be it empty: where the new row lies. -/
namespace Go.Proofs.Ytgidgmgpgfonnaa
open Go.RowKit Go.Deep

theorem run_append_empty {P : Program} {w : World} (base : Nat) (t ty e : TypeId) (i : TypeInfo) (size : Nat) (ht : P.underlying t = some (.slice e)) (hi : P.info? e = some i)
    (v : Value) (n : Nat) (xs : List Value) (hown : w.ownsRow base e size v n xs) (ad : Addr) (c : Nat) :
    (Builtin.append_ #[t, t] ty #[v, .slice (some ad) 0 c]).run P w = .ok v w := by
  have h0 : (loadCells ad 0).run P w = .ok #[] w := rfl
  rcases hown.2 with ⟨rfl, rfl⟩ | ⟨g, cap, cur, rfl, _, _, hnc, _⟩
  · simp [Builtin.append_, run_underlying ht, sizeOf, typeInfo, hi, Builtin.lenOf, Builtin.firstCells, h0]
  · simp [Builtin.append_, run_underlying ht, sizeOf, typeInfo, hi, Builtin.lenOf, Builtin.firstCells, hnc, storeCells, h0]
theorem wpList_append_empty {P : Program} {w : World} {ops : Array Oper} {rest : List Oper} {o : Oper} {a : Act} {Q : Exit → Act → World → Prop} (hgd : o.guard = none) (s x : Operand) (t : TypeId)
    (ho : o.op = .call { callee := .builtin .append, args := #[s, x], argTypes := #[t, t] })
    (base : Nat) (e : TypeId) (i : TypeInfo) (size : Nat) (ht : P.underlying t = some (.slice e)) (hi : P.info? e = some i)
    (v : Value) (n : Nat) (xs : List Value) (hs : a.eval s = v) (hown : w.ownsRow base e size v n xs) (ad : Addr) (c : Nat) (hx : a.eval x = .slice (some ad) 0 c)
    (h : wpList P ops Q rest (a.put o.dst v) w) : wpList P ops Q (o :: rest) a w := by
  refine wpList_plain hgd fun K hK => ?_
  have hrun := run_append_empty (P := P) (w := w) base t o.type e i size ht hi v n xs hown ad c
  unfold Oper.wp
  simp [execOp, ho, resolve, invoke, builtin, hs, hx, hrun, Result.andThen]
  exact hK _ _ h

set_option maxRecDepth 100000 in
theorem wpList_append_all {ops : Array Oper} {rest : List Oper} {o : Oper} {a : Act} {Q : Exit → Act → World → Prop} {W : World} (hgd : o.guard = none) (s x : Operand)
    (ho : o.op = .call { callee := .builtin .append, args := #[s, x], argTypes := #[25, 25] }) (base : Nat) (v : Value) (ks : List Kv) (hs : a.eval s = v) (hown : W.ownsRow base 27 3 v ks.length (kvCells ks))
    (sa : Option Addr) (m c : Nat) (ms : List Kv) (hx : a.eval x = .slice sa m c) (hm : RowAt W sa m ms) (hnil : sa = none → c = 0) (hbig : ks.length + m ≤ 2932031007400) (hbase : base ≤ W.heap.size)
    (h : ∀ v' w', w'.ownsRow base 27 3 v' (ks ++ ms).length (kvCells (ks ++ ms)) → W.grownBy w' v.ownBlock → (v'.ownBlock = v.ownBlock ∨ v'.ownBlock = some W.heap.size) → wpList Try.prog ops Q rest (a.put o.dst v') w') : wpList Try.prog ops Q (o :: rest) a W := by
  by_cases h0 : sa ≠ none ∧ m = 0
  · obtain ⟨h1, rfl⟩ := h0
    obtain ⟨i0, hi, hz0, hz1, hz2⟩ := info_parts Try.info27
    obtain rfl : ms = [] := List.length_eq_zero_iff.1 hm.len.symm
    rcases sa with _ | ad
    · exact absurd rfl h1
    · refine wpList_append_empty hgd s x 25 ho base 27 i0 3 Try.underlying25 hi v ks.length (kvCells ks) hs hown ad c hx (h v W (by simpa using hown) ?_ (.inl rfl))
      exact ⟨rfl, rfl, rfl, Nat.le_refl _, fun _ _ _ => rfl⟩
  · exact wpList_append_lst hgd s x ho base v ks hs hown sa m c ms hx hm hnil (fun e => by have : ¬ m = 0 := fun e' => h0 ⟨e, e'⟩; omega) hbig hbase h
end Go.Proofs.Ytgidgmgpgfonnaa
/- What the library says of slices.SortFunc, laid at this program. -/
namespace Go.Proofs
open Go.Shelf
def Try.sortT_ren : Go.Shelf.Ren := ⟨fun | 6 => 88 | 15 => 95 | 14 => 94 | 28 => 107 | 29 => 108 | 20 => 99 | 21 => 100 | 22 => 101 | 23 => 102 | 24 => 103 | 25 => 104 | 26 => 105 | 27 => 106 | 46 => 113 | 47 => 114 | 48 => 115 | 49 => 116 | 50 => 117 | 57 => 122 | n => n, fun | 22 => 25 | 24 => 27 | 25 => 88 | 3 => 3 | 39 => 112 | 0 => 0 | 53 => 127 | 55 => 129 | 4 => 4 | 46 => 121 | 45 => 120 | 50 => 91 | 5 => 5 | 9 => 9 | 66 => 130 | 70 => 134 | 76 => 139 | 77 => 140 | n => n, fun | n => n⟩
theorem Try.sortT : Go.Proofs.SlLaysF0.n6 Try.prog Try.sortT_ren := {
  mixed := by kernel_rfl
  f6 := ⟨Try.f88.name, by decide, Try.func88.trans (congrArg some (by kernel_rfl))⟩
  f14 := ⟨Try.f94.name, by decide, Try.func94.trans (congrArg some (by kernel_rfl))⟩
  f15 := Try.func95.trans (congrArg some (by kernel_rfl))
  f20 := ⟨Try.f99.name, by decide, Try.func99.trans (congrArg some (by kernel_rfl))⟩
  f21 := ⟨Try.f100.name, by decide, Try.func100.trans (congrArg some (by kernel_rfl))⟩
  f22 := ⟨Try.f101.name, by decide, Try.func101.trans (congrArg some (by kernel_rfl))⟩
  f23 := ⟨Try.f102.name, by decide, Try.func102.trans (congrArg some (by kernel_rfl))⟩
  f24 := ⟨Try.f103.name, by decide, Try.func103.trans (congrArg some (by kernel_rfl))⟩
  f25 := ⟨Try.f104.name, by decide, Try.func104.trans (congrArg some (by kernel_rfl))⟩
  f26 := ⟨Try.f105.name, by decide, Try.func105.trans (congrArg some (by kernel_rfl))⟩
  f27 := ⟨Try.f106.name, by decide, Try.func106.trans (congrArg some (by kernel_rfl))⟩
  f28 := Try.func107.trans (congrArg some (by kernel_rfl))
  f29 := Try.func108.trans (congrArg some (by kernel_rfl))
  f46 := ⟨Try.f113.name, by decide, Try.func113.trans (congrArg some (by kernel_rfl))⟩
  f47 := Try.func114.trans (congrArg some (by kernel_rfl))
  f48 := Try.func115.trans (congrArg some (by kernel_rfl))
  f49 := ⟨Try.f116.name, by decide, Try.func116.trans (congrArg some (by kernel_rfl))⟩
  f50 := ⟨Try.f117.name, by decide, Try.func117.trans (congrArg some (by kernel_rfl))⟩
  f57 := ⟨Try.f122.name, by decide, Try.func122.trans (congrArg some (by kernel_rfl))⟩
  t0 := Try.underlying0
  a0 := Try.isAgg0
  z0 := Try.sizeOf0
  v0 := Try.zeroValue0
  t3 := Try.underlying3
  a3 := Try.isAgg3
  z3 := Try.sizeOf3
  v3 := Try.zeroValue3
  t4 := Try.underlying4
  a4 := Try.isAgg4
  z4 := Try.sizeOf4
  v4 := Try.zeroValue4
  t5 := Try.underlying5
  a5 := Try.isAgg5
  z5 := Try.sizeOf5
  v5 := Try.zeroValue5
  t9 := Try.underlying9
  a9 := Try.isAgg9
  z9 := Try.sizeOf9
  v9 := Try.zeroValue9
  t22 := Try.underlying25
  a22 := Try.isAgg25
  z22 := Try.sizeOf25
  v22 := Try.zeroValue25
  t25 := Try.underlying88
  a25 := Try.isAgg88
  z25 := Try.sizeOf88
  v25 := Try.zeroValue88
  t39 := Try.underlying112
  a39 := Try.isAgg112
  z39 := Try.sizeOf112
  v39 := Try.zeroValue112
  t45 := Try.underlying120
  a45 := Try.isAgg120
  z45 := Try.sizeOf120
  v45 := Try.zeroValue120
  t46 := Try.underlying121
  a46 := Try.isAgg121
  z46 := Try.sizeOf121
  v46 := Try.zeroValue121
  t50 := Try.underlying91
  a50 := Try.isAgg91
  z50 := Try.sizeOf91
  v50 := Try.zeroValue91
  t53 := Try.underlying127
  a53 := Try.isAgg127
  z53 := Try.sizeOf127
  v53 := Try.zeroValue127
  t55 := Try.underlying129
  a55 := Try.isAgg129
  z55 := Try.sizeOf129
  v55 := Try.zeroValue129
  t66 := Try.underlying130
  a66 := Try.isAgg130
  z66 := Try.sizeOf130
  v66 := Try.zeroValue130
  t70 := Try.underlying134
  a70 := Try.isAgg134
  z70 := Try.sizeOf134
  v70 := Try.zeroValue134
  t76 := Try.underlying139
  a76 := Try.isAgg139
  z76 := Try.sizeOf139
  v76 := Try.zeroValue139
  t77 := Try.underlying140
  a77 := Try.isAgg140
  z77 := Try.sizeOf140
  v77 := Try.zeroValue140 }
end Go.Proofs
/- What the library says of comparing texts and numbers, laid at this program. -/
namespace Go.Proofs
open Go.Shelf
def Try.lays213_ren : Go.Shelf.Ren := ⟨fun | 213 => 64 | 265 => 83 | n => n, fun | 9 => 9 | 3 => 3 | n => n, fun | n => n⟩
theorem Try.lays213 : Go.Proofs.Lays.n213 Try.prog Try.lays213_ren := {
  mixed := by kernel_rfl
  f213 := Try.func64.trans (congrArg some (by kernel_rfl))
  f265 := Try.func83.trans (congrArg some (by kernel_rfl))
  t3 := Try.underlying3
  a3 := Try.isAgg3
  z3 := Try.sizeOf3
  v3 := Try.zeroValue3
  t9 := Try.underlying9
  a9 := Try.isAgg9
  z9 := Try.sizeOf9
  v9 := Try.zeroValue9 }
open Go.RowKit in
theorem Try.bytealg_CompareString (a b : ByteArray) (w : World) :
    Calls Try.prog 64 #[.string a, .string b] w fun e w' => e = .returned (.int .i64 (Lib.compareBytes a.data.toList b.data.toList)) ∧ w' = w := Any.bytealg_CompareString Try.lays213 a b w
def Try.lays106_ren : Go.Shelf.Ren := ⟨fun | 106 => 45 | 213 => 64 | 265 => 83 | n => n, fun | 9 => 9 | 3 => 3 | n => n, fun | n => n⟩
theorem Try.lays106 : Go.Proofs.Lays.n106 Try.prog Try.lays106_ren := {
  mixed := by kernel_rfl
  f106 := Try.func45.trans (congrArg some (by kernel_rfl))
  f213 := Try.func64.trans (congrArg some (by kernel_rfl))
  f265 := Try.func83.trans (congrArg some (by kernel_rfl))
  t3 := Try.underlying3
  a3 := Try.isAgg3
  z3 := Try.sizeOf3
  v3 := Try.zeroValue3
  t9 := Try.underlying9
  a9 := Try.isAgg9
  z9 := Try.sizeOf9
  v9 := Try.zeroValue9 }
open Go.RowKit in
theorem Try.strings_Compare (a b : ByteArray) (w : World) :
    Calls Try.prog 45 #[.string a, .string b] w fun e w' => e = .returned (.int .i64 (Lib.compareBytes a.data.toList b.data.toList)) ∧ w' = w := Any.strings_Compare Try.lays106 a b w
def Try.lays215_ren : Go.Shelf.Ren := ⟨fun | 215 => 92 | n => n, fun | 3 => 3 | 4 => 4 | n => n, fun | n => n⟩
theorem Try.lays215 : Go.Proofs.Lays.n215 Try.prog Try.lays215_ren := {
  mixed := by kernel_rfl
  f215 := Try.func92.trans (congrArg some (by kernel_rfl))
  t3 := Try.underlying3
  a3 := Try.isAgg3
  z3 := Try.sizeOf3
  v3 := Try.zeroValue3
  t4 := Try.underlying4
  a4 := Try.isAgg4
  z4 := Try.sizeOf4
  v4 := Try.zeroValue4 }
open Go.RowKit in
theorem Try.cmp_isNaN_int (x : Int) (w : World) :
    Calls Try.prog 92 #[.int .i64 x] w fun e w' => e = .returned (.bool false) ∧ w' = w := Any.cmp_isNaN_int Try.lays215 x w
def Try.lays122_ren : Go.Shelf.Ren := ⟨fun | 122 => 79 | 215 => 92 | n => n, fun | 3 => 3 | 4 => 4 | n => n, fun | n => n⟩
theorem Try.lays122 : Go.Proofs.Lays.n122 Try.prog Try.lays122_ren := {
  mixed := by kernel_rfl
  f122 := Try.func79.trans (congrArg some (by kernel_rfl))
  f215 := Try.func92.trans (congrArg some (by kernel_rfl))
  t3 := Try.underlying3
  a3 := Try.isAgg3
  z3 := Try.sizeOf3
  v3 := Try.zeroValue3
  t4 := Try.underlying4
  a4 := Try.isAgg4
  z4 := Try.sizeOf4
  v4 := Try.zeroValue4 }
open Go.RowKit in
theorem Try.cmp_Compare_int (x y : Int) (w : World) :
    Calls Try.prog 79 #[.int .i64 x, .int .i64 y] w fun e w' => e = .returned (.int .i64 (Lib.compareInt x y)) ∧ w' = w := Any.cmp_Compare_int Try.lays122 x y w
end Go.Proofs
/- What Compare of package terms answers of any two terms. -/
namespace Go.Proofs.Ytgidgmgpgfonnaa
open Go.RowKit Go.Deep

/-- Nothing but new blocks. -/
def Grew (w w' : World) : Prop := ∃ os : Array Obj, w' = Sort.grow w os
set_option maxRecDepth 100000 in
theorem Grew.refl (w : World) : Grew w w := ⟨#[], by simp⟩
set_option maxRecDepth 100000 in
theorem Grew.size {w w' : World} (h : Grew w w') : w.heap.size ≤ w'.heap.size := by obtain ⟨os, rfl⟩ := h; simp
set_option maxRecDepth 100000 in
theorem Grew.trans {a b c : World} (h : Grew a b) (k : Grew b c) : Grew a c := by
  obtain ⟨os, rfl⟩ := h; obtain ⟨os', rfl⟩ := k
  exact ⟨os ++ os', by rw [Sort.grow_grow]⟩
set_option maxRecDepth 100000 in
theorem Grew.alloc {w w' : World} (h : Grew w w') (o : Obj) : Grew w (w'.alloc o) := h.trans ⟨#[o], Sort.alloc_eq_grow _ _⟩
set_option maxRecDepth 100000 in
theorem Grew.below {w w' : World} (h : Grew w w') : Below w.heap.size w w' := by
  have hs := h.size
  obtain ⟨os, rfl⟩ := h
  exact ⟨rfl, rfl, rfl, hs, fun k hk => Sort.heap_grow_old w os hk⟩

def CmpOk (k : Nat) : Prop := ∀ (x y : ByteArray × Int) (a a' : Option Addr) (c c' : Nat) (l m : Fo) (w : World), nodesF l ≤ k → TmAt w x a c l → TmAt w y a' c' m →
  Calls Try.prog 61 #[.agg #[.string x.1, .int .i64 x.2, .slice a (lenF l) c], .agg #[.string y.1, .int .i64 y.2, .slice a' (lenF m) c']] w
    fun e w' => e = .returned (.int .i64 (cmp1 x y (lenF l) (lenF m) (cmpF l m))) ∧ Grew w w'

set_option maxRecDepth 100000 in
set_option maxHeartbeats 1000000 in
theorem cmpfunc_any (k : Nat) (ih : ∀ j, j < k → CmpOk j) (F G : Fo) (n m c c' : Nat) (hF : nodesF F ≤ k) (hn : n = lenF F) (hm : m = lenF G) (hl : n = m) (hs : n ≤ 9223372036854775807) (a a' : Option Addr) (w : World) (hA : ArgsAt w a F) (hB : ArgsAt w a' G) :
    Calls Try.prog 80 #[.slice a n c, .slice a' m c', .func (.func 61) #[] #[]] w fun e w' => e = .returned (.int .i64 (cmpF F G)) ∧ Grew w w' := by
  subst hl
  have HA : Hid (ArgsAt w a F) := hA
  have HB : Hid (ArgsAt w a' G) := hB
  have HN : Hid (n = lenF F) := hn
  have HM : Hid (n = lenF G) := hm
  have IH : Hid (∀ j, j < k → CmpOk j) := ih
  clear hA hB hn hm ih
  go_enter Try.func80, Try.ntmps80
  go_wp2
  go_loopw [7, 8, 9, 10, 13] (fun _ _ _ _ i w' => ∃ k : Nat, k ≤ n ∧ i = .int .i64 k ∧ Grew w w' ∧ cmpF F G = cmpF (dropF k F) (dropF k G)) (fun _ _ _ _ i _ => n - (intOf i).toNat)
  case atStart => exact ⟨0, Nat.zero_le _, rfl, Grew.refl _, by rw [drop_zero, drop_zero]⟩
  case round =>
    obtain ⟨j, hj, rfl, hb, hcmp⟩ := hrel
    by_cases hlt : j < n
    · obtain ⟨b, o, rfl, hk1⟩ := HA.out.get (by have := HN.out; omega)
      obtain ⟨b', o', rfl, hk2⟩ := HB.out.get (by have := HM.out; omega)
      obtain ⟨x, a1, c1, l1, k1⟩ := hk1.kid (k := j) (by have := HN.out; omega)
      obtain ⟨y, a2, c2, l2, k2⟩ := hk2.kid (k := j) (by have := HM.out; omega)
      have k1' := k1.below hb.below
      have hb1 := hb.alloc (.cells #[.string x.1, .int .i64 x.2, .slice a1 (lenF l1) c1] 27)
      have k2' := k2.below hb1.below
      have p0 := k1'.name; have p1 := k1'.sym; have p2 := k1'.list
      have q0 := k2'.name; have q1 := k2'.sym; have q2 := k2'.list
      have hb2 := hb1.alloc (.cells #[.string y.1, .int .i64 y.2, .slice a2 (lenF l2) c2] 27)
      have HB2 : Hid (Grew w ((wr.alloc (.cells #[.string x.1, .int .i64 x.2, .slice a1 (lenF l1) c1] 27)).alloc (.cells #[.string y.1, .int .i64 y.2, .slice a2 (lenF l2) c2] 27))) := hb2
      have IHc := IH.out (nodesF l1) (by have := k1.less; omega) x y a1 a2 c1 c2 l1 l2 _ (Nat.le_refl _) (k1.below hb2.below).at_ (k2.below hb2.below).at_
      obtain ⟨B1, O1, s1⟩ := k1.split
      obtain ⟨B2, O2, s2⟩ := k2.split
      rw [s1, s2, cmpF] at hcmp
      have HC : Hid (cmpF F G = thenC (cmp1 x y (lenF l1) (lenF l2) (cmpF l1 l2)) (cmpF (dropF (j + 1) F) (dropF (j + 1) G))) := hcmp
      clear k1 k2 k1' k2' hk1 hk2 hcmp hb1 hb2 s1 s2
      go_wp2_with fail
      refine IHc.mono ?_
      rintro e w2 ⟨rfl, hb3⟩
      have HB3 : Hid (Grew w w2) := HB2.out.trans hb3
      clear IHc hb3
      cases hz : (cmp1 x y (lenF l1) (lenF l2) (cmpF l1 l2) != 0)
      · go_wp2
        go_roundw
        case rel => exact ⟨j + 1, by omega, by go_num, HB3.out, by rw [HC.out]; unfold thenC; rw [if_pos (by simpa using hz)]⟩
        case measure => simp [intOf]; omega
      · go_wp2
        go_ret
        refine ⟨?_, HB3.out⟩
        rw [HC.out]; unfold thenC; rw [if_neg (by simpa using hz)]; rfl
    · have hz : cmpF F G = 0 := by
        rw [hcmp, show j = n by omega]
        have e1 := drop_end F
        rw [← HN.out] at e1
        rw [e1]; rfl
      go_wp2
      go_ret
      exact ⟨by rw [hz]; rfl, hb⟩

set_option maxRecDepth 100000 in
set_option maxHeartbeats 1000000 in
theorem compare_all : ∀ k, CmpOk k := by
  intro k
  induction k using Nat.strongRecOn with
  | _ k ih =>
    intro x y a a' c c' l m w hk hA hB
    have HA : Hid (TmAt w x a c l) := hA
    have HB : Hid (TmAt w y a' c' m) := hB
    have IH : Hid (∀ j, j < k → CmpOk j) := ih
    clear hA hB ih
    have hb2 : Grew w ((w.alloc (.cells #[.string x.1, .int .i64 x.2, .slice a (lenF l) c] 27)).alloc (.cells #[.string y.1, .int .i64 y.2, .slice a' (lenF m) c'] 27)) := ((Grew.refl w).alloc _).alloc _
    have HB2 : Hid (Grew w ((w.alloc (.cells #[.string x.1, .int .i64 x.2, .slice a (lenF l) c] 27)).alloc (.cells #[.string y.1, .int .i64 y.2, .slice a' (lenF m) c'] 27))) := hb2
    clear hb2
    cases hx : x.1.toList.isEmpty <;> cases hy : y.1.toList.isEmpty
    · have hr : Hid (cmp1 x y (lenF l) (lenF m) (cmpF l m) = Lib.compareBytes x.1.data.toList y.1.data.toList) := by show _ = _; unfold cmp1 noName cmpS; rw [hx, hy]; rfl
      go_enter Try.func61, Try.ntmps61
      go_wp2_with fail
      refine (Try.strings_Compare _ _ _).mono ?_
      rintro e w2 ⟨rfl, rfl⟩
      go_wp2
      go_ret
      exact ⟨by rw [hr.out]; rfl, HB2.out⟩
    · have hr : Hid (cmp1 x y (lenF l) (lenF m) (cmpF l m) = -1) := by show _ = _; unfold cmp1 noName cmpS; rw [hx, hy]; rfl
      go_enter Try.func61, Try.ntmps61
      go_wp2
      go_ret
      exact ⟨by rw [hr.out]; rfl, HB2.out⟩
    · have hr : Hid (cmp1 x y (lenF l) (lenF m) (cmpF l m) = 1) := by show _ = _; unfold cmp1 noName cmpS; rw [hx, hy]; rfl
      go_enter Try.func61, Try.ntmps61
      go_wp2
      go_ret
      exact ⟨by rw [hr.out]; rfl, HB2.out⟩
    · cases hs : (x.2 != y.2)
      · cases hn : ((lenF l : Int) != (lenF m : Int))
        · have hr : Hid (cmp1 x y (lenF l) (lenF m) (cmpF l m) = cmpF l m) := by
            show _ = _; unfold cmp1 noName cmpS; rw [hx, hy]; simp at hs hn; simp [hs]; omega
          have hc := cmpfunc_any k IH.out l m (lenF l) (lenF m) c c' hk rfl rfl (by simp at hn; omega) (by have := HA.out.sizes.len; have := HA.out.sizes.cap; unfold maxLen at *; omega) a a' _ (HA.out.args.below HB2.out.below) (HB.out.args.below HB2.out.below)
          go_enter Try.func61, Try.ntmps61
          go_wp2_with fail
          refine hc.mono ?_
          rintro e w2 ⟨rfl, hb3⟩
          go_wp2
          go_ret
          exact ⟨by rw [hr.out]; rfl, HB2.out.trans hb3⟩
        · have hr : Hid (cmp1 x y (lenF l) (lenF m) (cmpF l m) = Lib.compareInt (lenF l) (lenF m)) := by
            show _ = _; unfold cmp1 noName cmpS; rw [hx, hy]; simp at hs hn; simp [hs]; omega
          go_enter Try.func61, Try.ntmps61
          go_wp2_with fail
          refine (Try.cmp_Compare_int _ _ _).mono ?_
          rintro e w2 ⟨rfl, rfl⟩
          go_wp2
          go_ret
          exact ⟨by rw [hr.out]; rfl, HB2.out⟩
      · have hr : Hid (cmp1 x y (lenF l) (lenF m) (cmpF l m) = Lib.compareInt x.2 y.2) := by
          show _ = _; unfold cmp1 noName cmpS; rw [hx, hy]; simp at hs; simp [hs]
        go_enter Try.func61, Try.ntmps61
        go_wp2_with fail
        refine (Try.cmp_Compare_int _ _ _).mono ?_
        rintro e w2 ⟨rfl, rfl⟩
        go_wp2
        go_ret
        exact ⟨by rw [hr.out]; rfl, HB2.out⟩
end Go.Proofs.Ytgidgmgpgfonnaa
/- Lists of terms in memory no two of which share a block; terms whose own list may still be written. -/
namespace Go.Proofs.Ytgidgmgpgfonnaa
open Go.RowKit Go.Deep

abbrev Bl := Nat → Prop
/-- Of these terms each has what E says, with blocks of its own among A. -/
def GL (E : World → Bl → Kv → Prop) (w : World) : List Kv → Bl → Prop
  | [], _ => True
  | k :: r, A => ∃ A1 A2 : Bl, (∀ q, A1 q → A q) ∧ (∀ q, A2 q → A q ∧ ¬ A1 q) ∧ E w A1 k ∧ GL E w r A2
structure Elem (E : World → Bl → Kv → Prop) : Prop where
  mono : ∀ {w : World} {A A' : Bl} {k : Kv}, (∀ q, A q → A' q) → E w A k → E w A' k
  keep : ∀ {w w' : World} {A : Bl} {k : Kv}, (∀ q, A q → q < w.heap.size → w'.heap[q]? = w.heap[q]?) → E w A k → E w' A k
  within : ∀ {w : World} {A : Bl} {k : Kv}, E w A k → E w (fun q => A q ∧ q < w.heap.size) k
variable {E : World → Bl → Kv → Prop}
theorem GL.mono {w : World} : ∀ {ks : List Kv} {A A' : Bl}, (∀ k, A k → A' k) → GL E w ks A → GL E w ks A'
  | [], _, _, _, _ => trivial
  | _ :: _, _, _, hA, ⟨A1, A2, h1, h2, h3, h4⟩ => ⟨A1, A2, fun k hk => hA k (h1 k hk), fun k hk => ⟨hA k (h2 k hk).1, (h2 k hk).2⟩, h3, h4⟩
theorem GL.keep (hE : Elem E) {w w' : World} : ∀ {ks : List Kv} {A : Bl}, (∀ k, A k → k < w.heap.size → w'.heap[k]? = w.heap[k]?) → GL E w ks A → GL E w' ks A
  | [], _, _, _ => trivial
  | _ :: _, _, hp, ⟨A1, A2, h1, h2, h3, h4⟩ => ⟨A1, A2, h1, h2, hE.keep (fun k hk hlt => hp k (h1 k hk) hlt) h3, GL.keep hE (fun k hk hlt => hp k (h2 k hk).1 hlt) h4⟩
theorem GL.within (hE : Elem E) {w : World} : ∀ {ks : List Kv} {A : Bl}, GL E w ks A → GL E w ks (fun q => A q ∧ q < w.heap.size)
  | [], _, _ => trivial
  | _ :: _, _, ⟨A1, A2, h1, h2, h3, h4⟩ => ⟨fun q => A1 q ∧ q < w.heap.size, fun q => A2 q ∧ q < w.heap.size, fun q hq => ⟨h1 q hq.1, hq.2⟩, fun q hq => ⟨⟨(h2 q hq.1).1, hq.2⟩, fun h => (h2 q hq.1).2 h.1⟩, hE.within h3, GL.within hE h4⟩
theorem GL.weak {E' : World → Bl → Kv → Prop} {w : World} (h : ∀ A k, E w A k → E' w A k) : ∀ {ks : List Kv} {A : Bl}, GL E w ks A → GL E' w ks A
  | [], _, _ => trivial
  | _ :: _, _, ⟨A1, A2, h1, h2, h3, h4⟩ => ⟨A1, A2, h1, h2, h A1 _ h3, GL.weak h h4⟩
theorem GL.perm {w : World} {ks ms : List Kv} (hp : List.Perm ks ms) : ∀ {A : Bl}, GL E w ks A → GL E w ms A := by
  induction hp with
  | nil => exact fun h => h
  | cons k _ ih => exact fun ⟨A1, A2, h1, h2, h3, h4⟩ => ⟨A1, A2, h1, h2, h3, ih h4⟩
  | swap a b l =>
    rintro A ⟨A1, A2, h1, h2, h3, B1, B2, k1, k2, k3, k4⟩
    refine ⟨B1, fun q => A1 q ∨ B2 q, fun q hq => (h2 q (k1 q hq)).1, fun q hq => ?_, k3, A1, B2, fun q hq => .inl hq, fun q hq => ⟨.inr hq, ?_⟩, h3, k4⟩
    · rcases hq with hq | hq
      · exact ⟨h1 q hq, fun hb => (h2 q (k1 q hb)).2 hq⟩
      · exact ⟨(h2 q (k2 q hq).1).1, (k2 q hq).2⟩
    · exact (h2 q (k2 q hq).1).2
  | trans _ _ ih1 ih2 => exact fun h => ih2 (ih1 h)
theorem GL.append {w : World} {B : Bl} {ms : List Kv} (hm : GL E w ms B) : ∀ {ks : List Kv} {A : Bl}, (∀ q, A q → ¬ B q) → GL E w ks A → GL E w (ks ++ ms) (fun q => A q ∨ B q)
  | [], _, _, _ => hm.mono fun _ hq => .inr hq
  | k :: r, A, hd, ⟨A1, A2, h1, h2, h3, h4⟩ => ⟨A1, fun q => A2 q ∨ B q, fun q hq => .inl (h1 q hq), fun q hq => by
      rcases hq with hq | hq
      · exact ⟨.inl (h2 q hq).1, (h2 q hq).2⟩
      · exact ⟨.inr hq, fun h => hd q (h1 q h) hq⟩, h3, GL.append hm (fun q hq => hd q (h2 q hq).1) h4⟩
theorem GL.one {w : World} {k : Kv} {A : Bl} (h : E w A k) : GL E w [k] A := ⟨A, fun _ => False, fun _ hq => hq, fun _ hq => hq.elim, h, trivial⟩
theorem GL.cons {w : World} {k : Kv} {ks : List Kv} {A B : Bl} (h : E w A k) (hk : GL E w ks B) (hd : ∀ q, A q → ¬ B q) : GL E w (k :: ks) (fun q => A q ∨ B q) := GL.append hk hd (GL.one h)
theorem GL.snoc {w : World} {k : Kv} {ks : List Kv} {A B : Bl} (hk : GL E w ks A) (h : E w B k) (hd : ∀ q, A q → ¬ B q) : GL E w (ks ++ [k]) (fun q => A q ∨ B q) := GL.append (GL.one h) hd hk
theorem GL.right {w : World} : ∀ {ks ms : List Kv} {A : Bl}, GL E w (ks ++ ms) A → GL E w ms A
  | [], _, _, h => h
  | _ :: _, _, _, ⟨_, _, _, h2, _, h4⟩ => (GL.right h4).mono fun q hq => (h2 q hq).1
theorem GL.left {w : World} {ks ms : List Kv} {A : Bl} (h : GL E w (ks ++ ms) A) : GL E w ks A := GL.right (h.perm List.perm_append_comm)
theorem GL.mem {w : World} {ks : List Kv} {A : Bl} {k : Kv} (h : GL E w ks A) (hk : k ∈ ks) : ∃ A1 : Bl, (∀ q, A1 q → A q) ∧ E w A1 k := by
  obtain ⟨l1, l2, rfl⟩ := List.append_of_mem hk
  obtain ⟨A1, A2, h1, _, h3, _⟩ := h.right
  exact ⟨A1, h1, h3⟩
theorem GL.filter {w : World} (p : Kv → Bool) : ∀ {ks : List Kv} {A : Bl}, GL E w ks A → GL E w (ks.filter p) A
  | [], _, _ => trivial
  | k :: r, A, ⟨A1, A2, h1, h2, h3, h4⟩ => by
    rw [List.filter_cons]
    have h5 := GL.filter p h4
    split
    · exact ⟨A1, A2, h1, h2, h3, h5⟩
    · exact h5.mono fun q hq => (h2 q hq).1

/-! ### terms, and terms whose own list may be written -/
def SepE (w : World) (A : Bl) (k : Kv) : Prop := SepTm w A k.x k.a k.c k.l
def RowK (w : World) (A : Bl) (k : Kv) : Prop := (k.a = none ∧ k.c = 0 ∧ lenF k.l = 0) ∨ ∃ g cur, k.a = some ⟨g, 0, none⟩ ∧ A g ∧ w.heap[g]? = some (Obj.cells cur 27 (0, 0)) ∧ cur.size = k.c * 3
def LoosE (w : World) (A : Bl) (k : Kv) : Prop := SepE w A k ∧ (noName k.x.1 = true → RowK w A k)
theorem sepE : Elem SepE := ⟨fun h => SepTm.mono h, fun h => SepTm.keep h, SepTm.within⟩
theorem RowK.mono {w : World} {A A' : Bl} {k : Kv} (hA : ∀ q, A q → A' q) (h : RowK w A k) : RowK w A' k := by
  rcases h with h | ⟨g, cur, h1, h2, h3, h4⟩
  · exact .inl h
  · exact .inr ⟨g, cur, h1, hA g h2, h3, h4⟩
theorem RowK.keep {w w' : World} {A : Bl} {k : Kv} (hp : ∀ q, A q → q < w.heap.size → w'.heap[q]? = w.heap[q]?) (h : RowK w A k) : RowK w' A k := by
  rcases h with h | ⟨g, cur, h1, h2, h3, h4⟩
  · exact .inl h
  · exact .inr ⟨g, cur, h1, h2, (hp g h2 (Array.getElem?_eq_some_iff.1 h3).1).trans h3, h4⟩
theorem loosE : Elem LoosE :=
  ⟨fun hA h => ⟨sepE.mono hA h.1, fun e => (h.2 e).mono hA⟩, fun hp h => ⟨sepE.keep hp h.1, fun e => (h.2 e).keep hp⟩, fun h => ⟨sepE.within h.1, fun e => by
    rcases h.2 e with h' | ⟨g, cur, h1, h2, h3, h4⟩
    · exact .inl h'
    · exact .inr ⟨g, cur, h1, ⟨h2, (Array.getElem?_eq_some_iff.1 h3).1⟩, h3, h4⟩⟩⟩
theorem gl_sepL {w : World} : ∀ {ks : List Kv} {A : Bl}, GL SepE w ks A ↔ SepL w ks A
  | [], _ => Iff.rfl
  | k :: r, A => by
    simp only [GL, SepL]
    constructor
    · rintro ⟨A1, A2, h1, h2, h3, h4⟩
      exact ⟨A1, A2, h1, h2, h3, gl_sepL.1 h4⟩
    · rintro ⟨A1, A2, h1, h2, h3, h4⟩
      exact ⟨A1, A2, h1, h2, h3, gl_sepL.2 h4⟩
/-- What lies there, term by term. -/
theorem sepKids_list {w : World} {b : Nat} : ∀ {F : Fo} {A : Bl} {o : Nat}, SepKids w F A b o → ∃ ks : List Kv, ks.map Kv.tn = kidsL F ∧ (∀ j u, (kvCells ks)[j]? = some u → w.cell? ⟨b, o + j, none⟩ = some u) ∧ GL SepE w ks A
  | .nil, A, o, _ => ⟨[], rfl, fun j u hu => by simp [kvCells] at hu, trivial⟩
  | .node _ _ x l r, A, o, ⟨A1, A2, h1, h2, ⟨a, c, c0, c1, c2, hs, hl⟩, hr⟩ => by
    obtain ⟨ks, k1, k2, k3⟩ := sepKids_list hr
    refine ⟨⟨x, l, a, c⟩ :: ks, by simp [kidsL, Kv.tn, k1], fun j u hu => ?_, A1, A2, h1, h2, ⟨hs, hl⟩, k3⟩
    have e : kvCells (⟨x, l, a, c⟩ :: ks) = .string x.1 :: .int .i64 x.2 :: .slice a (lenF l) c :: kvCells ks := rfl
    rw [e] at hu
    match j, hu with
    | 0, hu => cases hu; exact c0
    | 1, hu => cases hu; exact c1
    | 2, hu => cases hu; exact c2
    | j + 3, hu => have := k2 j u (by simpa using hu); rw [show o + (j + 3) = o + 3 + j by omega]; exact this
theorem kvCells_get {ks : List Kv} {j : Nat} (h : j < ks.length * 3) : ∃ u, (kvCells ks)[j]? = some u := ⟨_, List.getElem?_eq_getElem (by rw [kvCells_len]; exact h)⟩
/-- A term whose list may be written: its row, and its terms. -/
theorem LoosE.row {w : World} {A : Bl} {k : Kv} (h : LoosE w A k) (hn : noName k.x.1 = true) : ∃ ks : List Kv, ks.map Kv.tn = kidsL k.l ∧ (∀ B, (∀ q, A q → B ≤ q) → w.ownsRow B 27 3 (.slice k.a (lenF k.l) k.c) (lenF k.l) (kvCells ks)) ∧
    GL SepE w ks (fun q => A q ∧ some q ≠ (Value.slice k.a (lenF k.l) k.c).ownBlock) ∧ ∀ g, (Value.slice k.a (lenF k.l) k.c).ownBlock = some g → A g := by
  obtain ⟨hs, hr⟩ := h
  rcases hr hn with ⟨h1, h2, h3⟩ | ⟨g, cur, h1, h2, h3, h4⟩
  · have e : kidsL k.l = [] := by rw [len_nil h3]; rfl
    refine ⟨[], by rw [e]; rfl, fun B _ => ⟨by simp [kvCells, h3], .inl ⟨by rw [h1, h2, h3], h3⟩⟩, trivial, fun g hg => ?_⟩
    rw [h1] at hg
    cases hg
  · have hcap := hs.sizes.cap
    have hlen := hs.sizes.len
    have main : ∃ ks : List Kv, ks.map Kv.tn = kidsL k.l ∧ (∀ j u, (kvCells ks)[j]? = some u → w.cell? ⟨g, 0 + j, none⟩ = some u) ∧ GL SepE w ks (fun q => A q ∧ q ≠ g) := by
      rcases hs.list with e | ⟨g', cur', e1, e2, e3, e4⟩
      · exact ⟨[], by rw [e]; rfl, fun j u hu => by simp [kvCells] at hu, trivial⟩
      · rw [h1] at e1
        cases e1
        exact sepKids_list e4
    obtain ⟨ks, k1, k2, k3⟩ := main
    have hkl : ks.length = lenF k.l := by have := congrArg List.length k1; rwa [List.length_map, kids_len] at this
    refine ⟨ks, k1, fun B hB => ⟨by rw [kvCells_len, hkl], .inr ⟨g, k.c, cur, by rw [h1], hB g h2, h3, hlen, hcap, h4, ?_⟩⟩, k3.mono (fun q hq => ⟨hq.1, by rw [h1]; intro e; cases e; exact hq.2 rfl⟩), fun g' hg' => ?_⟩
    · apply List.ext_getElem?
      intro j
      by_cases hj : j < lenF k.l * 3
      · obtain ⟨u, hu⟩ := kvCells_get (ks := ks) (j := j) (by rw [hkl]; exact hj)
        have hc := k2 j u hu
        rw [Nat.zero_add, cell_of_row w g j cur 27 (0, 0) h3] at hc
        rw [List.getElem?_take_of_lt hj, hu, ← hc]
        simp
      · rw [List.getElem?_eq_none (by rw [List.length_take]; omega), List.getElem?_eq_none (by rw [kvCells_len, hkl]; omega)]
    · rw [h1] at hg'
      cases hg'
      exact h2
/-- And back: a row that may be written, and terms beside it. -/
theorem loosE_of {w : World} {B : Nat} {A : Bl} {x : ByteArray × Int} {v : Value} {ks : List Kv} (hx : x.1.size ≤ maxLen) (hown : w.ownsRow B 27 3 v ks.length (kvCells ks)) (hg : ∀ g, v.ownBlock = some g → A g) (hks : GL SepE w ks (fun q => A q ∧ some q ≠ v.ownBlock)) (hfew : ks.length * 48 ≤ 140737488351232) :
    ∃ a c, v = .slice a ks.length c ∧ LoosE w A ⟨x, mkF (ks.map Kv.tn), a, c⟩ := by
  have hlm : lenF (mkF (ks.map Kv.tn)) = ks.length := by rw [len_mk, List.length_map]
  rcases hown.2 with ⟨h1, h2⟩ | ⟨g, cap, cur, h1, h2, h3, h4, h5, h6, h7⟩
  · have e : ks = [] := List.length_eq_zero_iff.1 h2
    subst e
    exact ⟨none, 0, h1, ⟨⟨hx, Nat.le_refl _, Nat.zero_le _, by simp [mkF, lenF]⟩, .inl rfl⟩, fun _ => .inl ⟨rfl, rfl, rfl⟩⟩
  · refine ⟨some ⟨g, 0, none⟩, cap, h1, ⟨⟨hx, by rw [hlm]; exact h4, h5, by rw [hlm]; exact hfew⟩, .inr ⟨g, cur, rfl, hg g (by rw [h1]; rfl), h3, ?_⟩⟩, fun _ => .inr ⟨g, cur, rfl, hg g (by rw [h1]; rfl), h3, h6⟩⟩
    refine sepKids_of _ ks _ 0 (by rw [kids_mk]; rfl) (fun j u hu => ?_) (gl_sepL.1 (hks.mono fun q hq => ⟨hq.1, fun e => hq.2 (by rw [e, h1]; rfl)⟩))
    rw [h1] at hown
    exact owns_at hown j u hu
theorem SepE.own {w : World} {A : Bl} {k : Kv} (h : SepE w A k) : OwnTm false A w k.x k.a k.c k.l := by
  have go : ∀ (F : Fo) (A : Bl) (b o : Nat), SepKids w F A b o → OwnKids false A w F b o := by
    intro F
    induction F with
    | nil => intro _ _ _ _; trivial
    | node _ _ x l r ihl ihr =>
      rintro A b o ⟨A1, A2, h1, h2, ⟨a, c, c0, c1, c2, hs, hl⟩, hr⟩
      refine ⟨⟨a, c, c0, c1, c2, hs, ?_⟩, (ihr A2 b (o + 3) hr).mono (fun q _ hq => (h2 q hq).1)⟩
      rcases hl with e | ⟨g, cur, e1, e2, e3, e4⟩
      · exact .inl ⟨e, rfl⟩
      · exact .inr ⟨g, cur, e1, h1 g e2, e3, (by intro e; cases e), (ihl _ g 0 e4).mono (fun q _ hq => h1 q hq.1)⟩
  refine ⟨h.sizes, ?_⟩
  rcases h.list with e | ⟨g, cur, e1, e2, e3, e4⟩
  · exact .inl ⟨e, rfl⟩
  · exact .inr ⟨g, cur, e1, e2, e3, (by intro e; cases e), (go _ _ g 0 e4).mono (fun q _ hq => hq.1)⟩
end Go.Proofs.Ytgidgmgpgfonnaa
/- What slices.SortFunc makes of a row of terms by Compare of package terms: the row in order, all else as it was. -/
namespace Go.Proofs.Ytgidgmgpgfonnaa
open Go.RowKit Go.Deep

/-- Only blocks of A have turned. -/
structure Turned (A : Bl) (w w' : World) : Prop where
  os : w'.os = w.os
  tape : w'.tape = w.tape
  output : w'.output = w.output
  size : w.heap.size ≤ w'.heap.size
  block : ∀ k, k < w.heap.size → ¬ A k → w'.heap[k]? = w.heap[k]?
theorem Turned.refl (A : Bl) (w : World) : Turned A w w := ⟨rfl, rfl, rfl, Nat.le_refl _, fun _ _ _ => rfl⟩
theorem Turned.trans {A : Bl} {a b c : World} (h : Turned A a b) (k : Turned A b c) : Turned A a c :=
  ⟨k.os.trans h.os, k.tape.trans h.tape, k.output.trans h.output, Nat.le_trans h.size k.size, fun q hq hA => (k.block q (Nat.lt_of_lt_of_le hq h.size) hA).trans (h.block q hq hA)⟩
theorem Turned.mono {A A' : Bl} {w w' : World} (h : Turned A w w') (hA : ∀ q, q < w.heap.size → A q → A' q) : Turned A' w w' := ⟨h.os, h.tape, h.output, h.size, fun q hq hn => h.block q hq fun ha => hn (hA q hq ha)⟩
theorem Turned.of_below {w w' : World} (h : Below w.heap.size w w') (A : Bl) : Turned A w w' := ⟨h.os, h.tape, h.output, h.size, fun q hq _ => h.block q hq⟩
theorem Turned.below {A : Bl} {B : Nat} {w w' : World} (h : Turned A w w') (hA : ∀ q, A q → B ≤ q) (hB : B ≤ w.heap.size) : Below B w w' := ⟨h.os, h.tape, h.output, h.size, fun q hq => h.block q (by omega) (fun ha => by have := hA q ha; omega)⟩

theorem kvCells_nth : ∀ (ks : List Kv) (i c : Nat) {k : Kv}, ks[i]? = some k → c < 3 → (kvCells ks)[i * 3 + c]? = k.cells[c]?
  | [], _, _, _, h, _ => by simp at h
  | k :: r, 0, c, k', h, hc => by
    simp only [List.getElem?_cons_zero, Option.some.injEq] at h
    subst h
    show (k.cells ++ kvCells r)[0 * 3 + c]? = _
    rw [Nat.zero_mul, Nat.zero_add, List.getElem?_append_left (by simpa [Kv.cells] using hc)]
  | k :: r, i + 1, c, k', h, hc => by
    simp only [List.getElem?_cons_succ] at h
    show (k.cells ++ kvCells r)[(i + 1) * 3 + c]? = _
    rw [List.getElem?_append_right (by simp [Kv.cells]; omega), show (i + 1) * 3 + c - k.cells.length = i * 3 + c by simp [Kv.cells]; omega]
    exact kvCells_nth r i c h hc

abbrev Gd (w : World) (g : Nat) (k : Kv) : Prop := ∃ A : Bl, SepE w A k ∧ ¬ A g
def leafK : Kv := ⟨(⟨#[]⟩, 0), .nil, none, 0⟩
theorem gd_leaf (w : World) (g : Nat) : Gd w g leafK := ⟨fun _ => False, ⟨⟨by decide, Nat.le_refl _, Nat.zero_le _, by simp [leafK, lenF]⟩, .inl rfl⟩, fun h => h⟩
abbrev GdK (w : World) (g : Nat) := { k : Kv // Gd w g k }
def encG {w : World} {g : Nat} (k : GdK w g) : List Value := k.1.cells
def cmpG {w : World} {g : Nat} (x y : GdK w g) : Int := cmpN x.1.tn y.1.tn
theorem swoG {w : World} {g : Nat} : Sort.SWO (ltOf (cmpG (w := w) (g := g))) where
  irrefl x := by
    have := cmpN_anti x.1.tn x.1.tn
    unfold ltOf cmpG
    rw [decide_eq_false_iff_not]
    omega
  trans x y z h1 h2 := by
    unfold ltOf cmpG at *
    rw [decide_eq_true_iff] at *
    exact (cmpN_cons x.1.tn y.1.tn z.1.tn).lt h1 h2
  ntrans x y z h1 h2 := by
    unfold ltOf cmpG at *
    rw [decide_eq_false_iff_not] at *
    have a1 := cmpN_anti x.1.tn y.1.tn
    have a2 := cmpN_anti y.1.tn z.1.tn
    have a3 := cmpN_anti x.1.tn z.1.tn
    have : leN z.1.tn x.1.tn := leN_trans (y := y.1.tn) (by unfold leN; omega) (by unfold leN; omega)
    unfold leN at this
    omega
theorem heap_sortK {α : Type} [Inhabited α] (enc : α → List Value) (w : World) (g m : Nat) (d : Array α) (os : Array Obj) {q : Nat} (hq : q < w.heap.size) :
    (sortWorldK enc 3 w g 0 m d os).heap[q]? = if q = g then (w.heap[q]?).map (Sort.onCells (Sort.putCells id 0 (Sort.flatK enc 3 d))) else w.heap[q]? := by
  unfold sortWorldK
  rw [Sort.heap_grow_old _ _ (by unfold Sort.putRowK; rw [Sort.size_putRow]; exact hq)]
  unfold Sort.putRowK Sort.putRow Sort.mapBlock
  simp only [Array.getElem?_modify, Sort.ahead]
  by_cases e : q = g
  · subst e; simp
  · rw [if_neg e, if_neg (fun h => e h.symm)]

set_option maxRecDepth 100000 in
theorem cmp_lays (w : World) (g n : Nat) [Inhabited (GdK w g)] : CmpLays Try.prog 61 #[] (encG (w := w) (g := g)) 3 cmpG g 0 n w := by
  intro m os dk _ x y
  have tm : ∀ k : GdK w g, TmAt (sortWorldK (encG (w := w) (g := g)) 3 w g 0 m dk os) k.1.x k.1.a k.1.c k.1.l := fun k => by
    obtain ⟨k, A, hA, hg⟩ := k
    refine SepTm.tm (SepTm.keep (A := A) (fun q hq hlt => ?_) hA)
    rw [heap_sortK _ _ _ _ _ _ hlt, if_neg (by intro e; subst e; exact hg hq)]
  refine (compare_all _ x.1.x y.1.x x.1.a y.1.a x.1.c y.1.c x.1.l y.1.l _ (Nat.le_refl _) (tm x) (tm y)).mono ?_
  rintro e w' ⟨rfl, os', rfl⟩
  exact ⟨rfl, 0, os', rfl⟩

theorem Try.enter50 : ∀ args w, (callFunc 61 args).run Try.prog w = .ok (.enter 61 args) w := enters_of Try.func61 (by kernel_rfl) rfl

set_option maxRecDepth 100000 in
theorem sort_terms (w : World) (g cap : Nat) (cur : Array Value) (ks : List Kv) (A : Bl) (hg : w.heap[g]? = some (Obj.cells cur 27 (0, 0))) (hc : ∀ (j : Nat) (u : Value), (kvCells ks)[j]? = some u → cur[j]? = some u) (hks : GL SepE w ks A) (hA : ¬ A g) (hn : ks.length < 4611686018427387904) :
    Calls Try.prog 88 #[.slice (some ⟨g, 0, none⟩) ks.length cap, .func (.func 61) #[] #[]] w fun e w' => e = .returned (.tuple #[]) ∧ ∃ (ms : List Kv) (cur' : Array Value), List.Perm ms ks ∧ Srt (ms.map Kv.tn) ∧ w'.heap[g]? = some (Obj.cells cur' 27 (0, 0)) ∧ cur'.size = cur.size ∧
      (∀ (j : Nat) (u : Value), (kvCells ms)[j]? = some u → cur'[j]? = some u) ∧ Turned (fun q => q = g) w w' := by
  letI : Inhabited (GdK w g) := ⟨⟨leafK, gd_leaf w g⟩⟩
  have hgd : ∀ k ∈ ks, Gd w g k := fun k hk => by
    obtain ⟨A1, h1, h2⟩ := hks.mem hk
    exact ⟨A1, h2, fun h => hA (h1 g h)⟩
  have hglt : g < w.heap.size := (Array.getElem?_eq_some_iff.1 hg).1
  let d : Array (GdK w g) := (ks.attachWith (Gd w g) hgd).toArray
  have hds : d.size = ks.length := by simp [d]
  have hdl : d.toList.map Subtype.val = ks := by simp [d]
  have cellAt : ∀ (d : Array (GdK w g)) (j : Nat), j < d.size * 3 → (kvCells (d.toList.map Subtype.val))[j]? = some (Sort.flatK encG 3 d)[j]! := fun d j hj => by
    rw [Sort.get_flatK _ _ _ _ hj]
    have hi : j / 3 < d.size := by omega
    have h1 : (d.toList.map Subtype.val)[j / 3]? = some (d[j / 3]!).1 := by
      rw [List.getElem?_map, Array.getElem?_toList, Array.getElem?_eq_getElem hi, getElem!_pos d _ hi]; rfl
    have h2 := kvCells_nth _ (j / 3) (j % 3) h1 (by omega)
    rw [show j / 3 * 3 + j % 3 = j by omega] at h2
    rw [h2]
    have hl : j % 3 < (encG d[j / 3]!).length := by show _ < 3; omega
    rw [getElem!_pos (encG d[j / 3]!) (j % 3) hl]
    exact List.getElem?_eq_getElem hl
  have hH : Sort.HoldsK encG 3 w g 0 d := fun j hj => by
    rw [Sort.size_flatK] at hj
    have h1 := cellAt d j hj
    rw [hdl] at h1
    refine ⟨?_, by simp [World.frozen?, hg]⟩
    rw [Nat.zero_add, cell_of_row w g j cur 27 (0, 0) hg]
    exact hc j _ h1
  have hs := AnyQ.slices_SortFunc Try.sortT 3 Try.isAgg27 Try.sizeOf27 encG (fun _ => rfl) (fun x v hv => kv_one x.1 v hv) cmpG swoG 61 #[] g 0 cap d w Try.enter50 (cmp_lays w g d.size) hH hglt (by rw [hds]; exact hn)
  rw [hds] at hs
  refine Calls.mono hs ?_
  rintro e w' ⟨rfl, d', n, os, hp, hso, rfl⟩
  obtain ⟨p1, _, p3⟩ := hp
  have hd's : d'.size = ks.length := p1.trans hds
  have hperm : List.Perm (d'.toList.map Subtype.val) ks := by
    have e1 : (d'.extract 0 ks.length).toList = d'.toList := by rw [← hd's]; simp
    have e2 : (d.extract 0 ks.length).toList = d.toList := by rw [← hds]; simp
    rw [e1, e2] at p3
    have := p3.map Subtype.val
    rwa [hdl] at this
  have hsz : (Sort.putCells id 0 (Sort.flatK encG 3 d') cur).size = cur.size := by simp [Sort.putCells]
  refine ⟨rfl, d'.toList.map Subtype.val, Sort.putCells id 0 (Sort.flatK encG 3 d') cur, hperm, ?_, ?_, hsz, ?_, ?_⟩
  · unfold Srt
    rw [List.pairwise_iff_getElem]
    intro i j hi hj hij
    simp only [List.length_map, Array.length_toList] at hi hj
    have h1 := hso i j (Nat.zero_le _) hij (by omega)
    unfold ltOf cmpG at h1
    rw [decide_eq_false_iff_not, getElem!_pos d' i hi, getElem!_pos d' j hj] at h1
    simp only [List.getElem_map, Array.getElem_toList]
    have := cmpN_anti (d'[i]).1.tn (d'[j]).1.tn
    unfold leN
    omega
  · rw [heap_sortK _ _ _ _ _ _ hglt, if_pos rfl, hg]
    rfl
  · intro j u hu
    have hj : j < d'.size * 3 := by
      rcases Nat.lt_or_ge j (d'.size * 3) with h' | h'
      · exact h'
      · rw [List.getElem?_eq_none (by rw [kvCells_len, List.length_map, Array.length_toList]; exact h')] at hu; cases hu
    have h1 := cellAt d' j hj
    rw [hu] at h1
    have hjc : j < cur.size := by
      obtain ⟨u', hu'⟩ := kvCells_get (ks := ks) (j := j) (by omega)
      have := hc j u' hu'
      exact (Array.getElem?_eq_some_iff.1 this).1
    unfold Sort.putCells
    rw [Array.getElem?_mapIdx, Array.getElem?_eq_getElem hjc, Option.map_some, if_pos ⟨Nat.zero_le _, by rw [Sort.size_flatK]; omega⟩, Nat.sub_zero]
    exact h1.symm
  · refine ⟨rfl, rfl, rfl, ?_, fun q hq hne => ?_⟩
    · unfold sortWorldK Sort.putRowK
      rw [Sort.size_grow, Sort.size_putRow]
      exact Nat.le_add_right _ _
    · rw [heap_sortK _ _ _ _ _ _ hq, if_neg hne]
end Go.Proofs.Ytgidgmgpgfonnaa
/- What Find and Unit of package sig answer. -/
namespace Go.Proofs.Ytgidgmgpgfonnaa
open Go.RowKit

set_option maxHeartbeats 400000 in
theorem sfind_any (a : Option Addr) (n cap : Nat) (l : List Sym) (nm : ByteArray) (w : World) (h : SigAt w a n l) :
    Calls Try.prog 109 #[.slice a n cap, .string nm] w fun e w' => FindRet l nm e ∧ Below w.heap.size w w' := by
  obtain ⟨hl, hm, hcells, _⟩ := h
  unfold maxLen at hm
  have HL : Hid (n = l.length) := hl
  clear hl
  have HC : Hid (∀ i (h : i < l.length), ∃ b off, a = some ⟨b, off, none⟩ ∧ SymAt w b (off + i * 4) l[i]) := hcells
  clear hcells
  go_enter Try.func109, Try.ntmps109
  go_wp2
  go_loopw [6, 7, 10] (fun _ _ i w' => ∃ k : Nat, k ≤ n ∧ i = .int .i64 k ∧ Below w.heap.size w w' ∧ ∀ j (hj : j < l.length), j < k → sameB l[j].name nm = false) (fun _ _ i _ => n - (intOf i).toNat)
  case atStart => exact ⟨0, Nat.zero_le _, rfl, Below.refl _ _, fun j _ h => absurd h (by omega)⟩
  case round =>
    obtain ⟨k, hk, rfl, hb, hno⟩ := hrel
    have HN : Hid (∀ j (hj : j < l.length), j < k → sameB l[j].name nm = false) := hno
    clear hno
    by_cases hlt : k < n
    · have hlk : k < l.length := by have := HL.out; omega
      obtain ⟨b, off, rfl, hsym⟩ := HC.out k hlk
      have hw := hsym.below hb
      have c0 := hw.name
      have c1 := hw.kind
      have c2 := hw.arity
      have c3 := hw.unit
      clear hw hsym
      cases ht : (l[k].name.toList == nm.toList)
      · go_wp2
        go_roundw
        case rel => exact ⟨k + 1, by omega, by go_num, hb.alloc hb.size _, fun j hj h => by
          rcases Nat.lt_succ_iff_lt_or_eq.1 h with h | rfl
          · exact HN.out j hj h
          · exact ht⟩
        case measure => simp [intOf]; omega
      · have hf : Hid (findL l nm = some k) := find_hit hlk ht HN.out
        go_wp2
        go_ret2
        exact ⟨by unfold FindRet; rw [findI_some hf.out, findB_some hf.out]; rfl, hb.alloc hb.size _⟩
    · have hf : Hid (findL l nm = none) := find_miss fun j hj => HN.out j hj (by have := HL.out; omega)
      go_wp2
      go_ret2
      exact ⟨by unfold FindRet; rw [findI_none hf.out, findB_none hf.out]; rfl, hb⟩

set_option maxHeartbeats 400000 in
theorem sunit_any (a : Option Addr) (n cap : Nat) (l : List Sym) (z : Int) (w : World) (h : SigAt w a n l) :
    Calls Try.prog 96 #[.slice a n cap, .int .i64 z] w fun e w' => UnitRet l z e ∧ Below w.heap.size w w' := by
  have HS : Hid (SigAt w a n l) := h
  have hm := h.small
  unfold maxLen at hm
  clear h
  by_cases h0 : z < 0
  · have hu : Hid (unitAt l z = none) := unit_out (by omega)
    go_enter Try.func96, Try.ntmps96
    go_wp2
    go_ret2
    exact ⟨by unfold UnitRet; rw [unitI_none hu.out, unitOk_none hu.out]; rfl, Below.refl _ _⟩
  · obtain ⟨k, rfl⟩ := Int.eq_ofNat_of_zero_le (by omega : 0 ≤ z)
    by_cases h1 : (n : Int) ≤ k
    · have hu : Hid (unitAt l k = none) := unit_out (by have := HS.out.len; omega)
      go_enter Try.func96, Try.ntmps96
      go_wp2
      go_ret2
      exact ⟨by unfold UnitRet; rw [unitI_none hu.out, unitOk_none hu.out]; rfl, Below.refl _ _⟩
    · have hlk : k < l.length := by have := HS.out.len; omega
      obtain ⟨b, off, rfl, hw⟩ := HS.out.cells k hlk
      have c1 := hw.kind
      have c3 := hw.unit
      clear hw
      cases hk : (l[k].kind != 3)
      · have hu : Hid (unitAt l k = findL l l[k].unit) := unit_is hlk (by simpa using hk)
        go_enter Try.func96, Try.ntmps96
        go_wp2_with fail
        refine (sfind_any _ _ _ l _ _ HS.out).mono ?_
        rintro e w1 ⟨he, hb⟩
        unfold FindRet at he
        subst he
        go_wp2
        go_ret2
        exact ⟨by unfold UnitRet; rw [unitI_is hu.out, unitOk_is hu.out]; rfl, hb⟩
      · have hu : Hid (unitAt l k = none) := unit_not hlk (by simpa using hk)
        go_enter Try.func96, Try.ntmps96
        go_wp2
        go_ret2
        exact ⟨by unfold UnitRet; rw [unitI_none hu.out, unitOk_none hu.out]; rfl, Below.refl _ _⟩

end Go.Proofs.Ytgidgmgpgfonnaa
/- What is put in is told there; what is told, put in, makes the term again; how many nodes there are then. -/
namespace Go.Proofs.Ytgidgmgpgfonnaa
open Go.RowKit Go.Deep

theorem kids_set : ∀ (n : Nat) (F : Fo) (t : Tn), n < lenF F → (kidsL (setF n F t))[n]? = some t
  | n, .nil, _, h => by simp [lenF] at h
  | 0, .node _ _ _ _ _, t, _ => by simp [setF, kidsL]
  | n + 1, .node _ _ _ _ r, t, h => by
    simp only [setF, kidsL, List.getElem?_cons_succ]
    exact kids_set n r t (by simp only [lenF] at h; omega)
theorem set_same : ∀ (n : Nat) (F : Fo) (t : Tn), (kidsL F)[n]? = some t → setF n F t = F
  | n, .nil, _, h => by simp [kidsL] at h
  | 0, .node _ _ _ _ _, t, h => by
    simp only [kidsL, List.getElem?_cons_zero, Option.some.injEq] at h
    subst h
    rfl
  | n + 1, .node _ _ _ _ r, t, h => by
    simp only [kidsL, List.getElem?_cons_succ] at h
    simp only [setF]
    rw [set_same n r t h]
theorem nodes_set : ∀ (n : Nat) (F : Fo) (t u : Tn), (kidsL F)[n]? = some t → nodesF (setF n F u) + nodesF t.2 = nodesF F + nodesF u.2
  | n, .nil, _, _, h => by simp [kidsL] at h
  | 0, .node _ _ _ l r, t, u, h => by
    simp only [kidsL, List.getElem?_cons_zero, Option.some.injEq] at h
    subst h
    simp only [setF, nodesF]
    omega
  | n + 1, .node _ _ _ _ r, t, u, h => by
    simp only [kidsL, List.getElem?_cons_succ] at h
    have := nodes_set n r t u h
    simp only [setF, nodesF]
    omega
theorem kidT_get {i : Int} {l : Fo} {k : Tn} (h : kidT i l = some k) : (0 ≤ i ∧ i < lenF l) ∧ (kidsL l)[i.toNat]? = some k := by
  unfold kidT at h
  split at h
  · exact ⟨by assumption, h⟩
  · cases h
theorem kidT_set {i : Int} {l : Fo} {k : Tn} (u : Tn) (h : kidT i l = some k) : kidT i (setF i.toNat l u) = some u := by
  obtain ⟨⟨h0, h1⟩, _⟩ := kidT_get h
  unfold kidT
  rw [len_set, if_pos ⟨h0, h1⟩]
  exact kids_set _ _ _ (by omega)
theorem put_some (u : Tn) : ∀ (ps : List Int) (t x : Tn), subT ps t = some x → ∃ y, putT u ps t = some y
  | [], _, _, _ => ⟨u, rfl⟩
  | i :: p, t, x, h => by
    simp only [subT] at h
    cases hk : kidT i t.2 with
    | none => rw [hk] at h; cases h
    | some k =>
      rw [hk] at h
      obtain ⟨y, hy⟩ := put_some u p k x h
      exact ⟨(t.1, setF i.toNat t.2 y), by simp only [putT, hk, hy]⟩
theorem back_at (u : Tn) : ∀ (ps : List Int) (t y : Tn), putT u ps t = some y → subT ps y = some u
  | [], _, _, h => by simp only [putT] at h; rw [subT, ← h]
  | i :: p, t, y, h => by
    simp only [putT] at h
    cases hk : kidT i t.2 with
    | none => rw [hk] at h; cases h
    | some k =>
      rw [hk] at h
      dsimp only at h
      cases hp : putT u p k with
      | none => rw [hp] at h; cases h
      | some k' =>
        rw [hp] at h
        simp only [Option.some.injEq] at h
        subst h
        simp only [subT, kidT_set k' hk]
        exact back_at u p k k' hp
theorem back_put : ∀ (ps : List Int) (t x : Tn), subT ps t = some x → putT x ps t = some t
  | [], _, _, h => by simp only [subT] at h; rw [putT, h]
  | i :: p, t, x, h => by
    simp only [subT] at h
    cases hk : kidT i t.2 with
    | none => rw [hk] at h; cases h
    | some k =>
      rw [hk] at h
      simp only [putT, hk, back_put p k x h]
      rw [set_same _ _ _ (kidT_get hk).2]
theorem back_size (u : Tn) : ∀ (ps : List Int) (t x y : Tn), subT ps t = some x → putT u ps t = some y → nodesF y.2 + nodesF x.2 = nodesF t.2 + nodesF u.2
  | [], _, _, _, h, h2 => by
    simp only [subT, Option.some.injEq] at h
    simp only [putT, Option.some.injEq] at h2
    subst h h2
    omega
  | i :: p, t, x, y, h, h2 => by
    simp only [subT] at h
    simp only [putT] at h2
    cases hk : kidT i t.2 with
    | none => rw [hk] at h; cases h
    | some k =>
      rw [hk] at h h2
      dsimp only at h2
      cases hp : putT u p k with
      | none => rw [hp] at h2; cases h2
      | some k' =>
        rw [hp] at h2
        simp only [Option.some.injEq] at h2
        subst h2
        have h3 := back_size u p k x k' h hp
        have h4 := nodes_set _ _ _ k' (kidT_get hk).2
        show nodesF (setF i.toNat t.2 k') + nodesF x.2 = nodesF t.2 + nodesF u.2
        omega

end Go.Proofs.Ytgidgmgpgfonnaa
/- Canonical forms, without any program: the axioms, cancelling, another argument in one place, another term at any place. -/
namespace Go.Proofs.Ytgidgmgpgfonnaa
open Go.RowKit Go.Deep

/-- The parts that a term's canonical form gives to a symbol. -/
def pc (S : Sg) (f : Int) (t : Tn) : List Tn := partsN S f (canonT S t)
theorem canonT_parts {S : Sg} {ar : Int → Nat} (hS : S.Ok ar) {t : Tn} (hj : S.joins t.1.2 = true) (hx : noName t.1.1 = true) (h : RightT S ar t) : List.Perm (pc S t.1.2 t) ((kidsL t.2).flatMap (pc S t.1.2)) := by
  have hc := canonL_can hS h.2
  have hn := h.1
  unfold nodeOk at hn
  rw [if_neg (by simp [hx]), if_pos hj, ← kids_len] at hn
  have hne : canonL S t.2 ≠ [] := fun e => by
    rw [canonL_map, List.map_eq_nil_iff] at e
    rw [e] at hn
    simp at hn
  have h1 := parts_join hj (flat_good hj hc) (canon1_join hx hj hc hne)
  refine (show List.Perm (pc S t.1.2 t) _ from h1).trans ?_
  rw [canonL_map, List.flatMap_map]
  exact List.Perm.refl _
theorem eq_iff {S : Sg} {ar : Int → Nat} (hS : S.Ok ar) {f : Int} (hj : S.joins f = true) {x y : Tn} (hx : RightT S ar x) (hy : RightT S ar y) : canonT S x = canonT S y ↔ List.Perm (pc S f x) (pc S f y) :=
  ⟨fun e => by unfold pc; rw [e], parts_inj hj (canonT_can hS hx) (canonT_can hS hy)⟩

/-! ### the axioms -/
def appT (f : Int) (l : List Tn) : Tn := ((noB, f), mkF l)
theorem right_app {S : Sg} {ar : Int → Nat} {f : Int} {l : List Tn} (hj : S.joins f = true) (h2 : 2 ≤ l.length) (h : ∀ t ∈ l, RightT S ar t) : RightT S ar (appT f l) := by
  refine ⟨?_, right_kids.2 (by rw [show kidsL (appT f l).2 = l from kids_mk l]; exact h)⟩
  unfold nodeOk appT
  dsimp only
  rw [if_neg (by simp [noName_noB]), if_pos hj, len_mk]
  exact h2
theorem pc_app {S : Sg} {ar : Int → Nat} (hS : S.Ok ar) {f : Int} {l : List Tn} (hj : S.joins f = true) (h2 : 2 ≤ l.length) (h : ∀ t ∈ l, RightT S ar t) : List.Perm (pc S f (appT f l)) (l.flatMap (pc S f)) := by
  have h1 := canonT_parts hS (t := appT f l) hj noName_noB (right_app hj h2 h)
  rw [show kidsL (appT f l).2 = l from kids_mk l] at h1
  exact h1
theorem right2 {S : Sg} {ar : Int → Nat} {f : Int} (hj : S.joins f = true) {x y : Tn} (hx : RightT S ar x) (hy : RightT S ar y) : RightT S ar (appT f [x, y]) := right_app hj (by simp) (by simp; exact ⟨hx, hy⟩)
theorem right3 {S : Sg} {ar : Int → Nat} {f : Int} (hj : S.joins f = true) {x y z : Tn} (hx : RightT S ar x) (hy : RightT S ar y) (hz : RightT S ar z) : RightT S ar (appT f [x, y, z]) := right_app hj (by simp) (by simp; exact ⟨hx, hy, hz⟩)
theorem pc2 {S : Sg} {ar : Int → Nat} (hS : S.Ok ar) {f : Int} (hj : S.joins f = true) {x y : Tn} (hx : RightT S ar x) (hy : RightT S ar y) : List.Perm (pc S f (appT f [x, y])) (pc S f x ++ pc S f y) := by
  have := pc_app hS hj (l := [x, y]) (by simp) (by simp; exact ⟨hx, hy⟩)
  simpa using this
theorem ax_turn {S : Sg} {ar : Int → Nat} (hS : S.Ok ar) {f : Int} (hj : S.joins f = true) {x y : Tn} (hx : RightT S ar x) (hy : RightT S ar y) : canonT S (appT f [x, y]) = canonT S (appT f [y, x]) :=
  (eq_iff hS hj (right2 hj hx hy) (right2 hj hy hx)).2 ((pc2 hS hj hx hy).trans (List.perm_append_comm.trans (pc2 hS hj hy hx).symm))
theorem pc3 {S : Sg} {ar : Int → Nat} (hS : S.Ok ar) {f : Int} (hj : S.joins f = true) {x y z : Tn} (hx : RightT S ar x) (hy : RightT S ar y) (hz : RightT S ar z) : List.Perm (pc S f (appT f [x, y, z])) (pc S f x ++ (pc S f y ++ pc S f z)) := by
  have := pc_app hS hj (l := [x, y, z]) (by simp) (by simp; exact ⟨hx, hy, hz⟩)
  simpa using this
theorem ax_flat {S : Sg} {ar : Int → Nat} (hS : S.Ok ar) {f : Int} (hj : S.joins f = true) {x y z : Tn} (hx : RightT S ar x) (hy : RightT S ar y) (hz : RightT S ar z) : canonT S (appT f [x, y, z]) = canonT S (appT f [x, appT f [y, z]]) :=
  (eq_iff hS hj (right3 hj hx hy hz) (right2 hj hx (right2 hj hy hz))).2
    ((pc3 hS hj hx hy hz).trans ((pc2 hS hj hx (right2 hj hy hz)).trans ((pc2 hS hj hy hz).append_left _)).symm)
theorem ax_left {S : Sg} {ar : Int → Nat} (hS : S.Ok ar) {f : Int} (hj : S.joins f = true) {x y z : Tn} (hx : RightT S ar x) (hy : RightT S ar y) (hz : RightT S ar z) : canonT S (appT f [x, appT f [y, z]]) = canonT S (appT f [appT f [x, y], z]) := by
  rw [← ax_flat hS hj hx hy hz]
  refine (eq_iff hS hj (right3 hj hx hy hz) (right2 hj (right2 hj hx hy) hz)).2 ((pc3 hS hj hx hy hz).trans ?_)
  refine ((pc2 hS hj (right2 hj hx hy) hz).trans (((pc2 hS hj hx hy).append_right _).trans ?_)).symm
  rw [List.append_assoc]
theorem cancels {S : Sg} {ar : Int → Nat} (hS : S.Ok ar) {f : Int} (hj : S.joins f = true) {x y z : Tn} (hx : RightT S ar x) (hy : RightT S ar y) (hz : RightT S ar z) : canonT S (appT f [x, y]) = canonT S (appT f [x, z]) ↔ canonT S y = canonT S z := by
  rw [eq_iff hS hj (right2 hj hx hy) (right2 hj hx hz), eq_iff hS hj hy hz]
  constructor
  · intro h
    exact (List.perm_append_left_iff _).1 ((pc2 hS hj hx hy).symm.trans (h.trans (pc2 hS hj hx hz)))
  · intro h
    exact (pc2 hS hj hx hy).trans ((h.append_left _).trans (pc2 hS hj hx hz).symm)
theorem right_const {S : Sg} {ar : Int → Nat} (hS : S.Ok ar) {f u : Int} (hu : S.unit f = some u) : RightT S ar (constT u) := by
  refine ⟨?_, trivial⟩
  unfold nodeOk constT
  dsimp only
  rw [if_neg (by simp [noName_noB]), if_neg (by simp [hS.free f u hu]), hS.none f u hu]
  rfl
theorem canon_const {S : Sg} {ar : Int → Nat} (hS : S.Ok ar) {f u : Int} (hu : S.unit f = some u) : canonT S (constT u) = constT u := by
  unfold canonT canon1 constT
  dsimp only
  rw [if_neg (by simp [noName_noB]), if_neg (by simp [hS.free f u hu])]
  rfl
theorem pc_const {S : Sg} {ar : Int → Nat} (hS : S.Ok ar) {f u : Int} (hj : S.joins f = true) (hu : S.unit f = some u) : pc S f (constT u) = [] := by
  unfold pc partsN
  rw [canon_const hS hu, if_neg (by simp [hj]), isUn_const hu]
  simp
theorem ax_unit {S : Sg} {ar : Int → Nat} (hS : S.Ok ar) {f u : Int} (hj : S.joins f = true) (hu : S.unit f = some u) {x : Tn} (hx : RightT S ar x) : canonT S (appT f [x, constT u]) = canonT S x := by
  refine (eq_iff hS hj (right2 hj hx (right_const hS hu)) hx).2 ((pc2 hS hj hx (right_const hS hu)).trans ?_)
  rw [pc_const hS hj hu, List.append_nil]
theorem ax_unit3 {S : Sg} {ar : Int → Nat} (hS : S.Ok ar) {f u : Int} (hj : S.joins f = true) (hu : S.unit f = some u) {x y : Tn} (hx : RightT S ar x) (hy : RightT S ar y) : canonT S (appT f [x, y, constT u]) = canonT S (appT f [x, y]) := by
  refine (eq_iff hS hj (right3 hj hx hy (right_const hS hu)) (right2 hj hx hy)).2 ((pc3 hS hj hx hy (right_const hS hu)).trans ((pc2 hS hj hx hy).trans ?_).symm)
  rw [pc_const hS hj hu, List.append_nil]

/-! ### another argument in one place -/
theorem kids_setF : ∀ (n : Nat) (F : Fo) (t : Tn), kidsL (setF n F t) = (kidsL F).set n t
  | n, .nil, _ => by cases n <;> rfl
  | 0, .node _ _ _ _ _, _ => rfl
  | n + 1, .node _ _ _ _ r, t => by simp only [setF, kidsL, List.set_cons_succ]; rw [kids_setF n r t]
theorem mkF_inj {l m : List Tn} (h : mkF l = mkF m) : l = m := by
  have := congrArg kidsL h
  rwa [kids_mk, kids_mk] at this
theorem set_split {α : Type} : ∀ {l : List α} {n : Nat} {a : α}, l[n]? = some a → ∃ l1 l2, l = l1 ++ a :: l2 ∧ ∀ b, l.set n b = l1 ++ b :: l2
  | [], _, _, h => by simp at h
  | x :: r, 0, a, h => by simp at h; subst h; exact ⟨[], r, rfl, fun _ => rfl⟩
  | x :: r, n + 1, a, h => by
    simp only [List.getElem?_cons_succ] at h
    obtain ⟨l1, l2, h1, h2⟩ := set_split h
    exact ⟨x :: l1, l2, by rw [h1]; rfl, fun b => by rw [List.set_cons_succ, h2]; rfl⟩
theorem right_set {S : Sg} {ar : Int → Nat} {t b : Tn} {n : Nat} (ht : RightT S ar t) (hb : RightT S ar b) : RightT S ar (t.1, setF n t.2 b) := by
  refine ⟨by rw [len_set]; exact ht.1, right_kids.2 (fun k hk => ?_)⟩
  rw [kids_setF] at hk
  rcases List.mem_or_eq_of_mem_set hk with h | h
  · exact right_kids.1 ht.2 k h
  · rw [h]; exact hb
theorem canon_free {S : Sg} {t : Tn} (hx : noName t.1.1 = true) (hj : S.joins t.1.2 = false) : canonT S t = ((noB, t.1.2), mkF ((kidsL t.2).map (canonT S))) := by
  unfold canonT canon1
  rw [if_neg (by simp [hx]), if_neg (by simp [hj]), canonL_map]
  rfl
theorem within {S : Sg} {ar : Int → Nat} (hS : S.Ok ar) {t a b : Tn} {n : Nat} (ht : RightT S ar t) (hb : RightT S ar b) (ha : (kidsL t.2)[n]? = some a) : canonT S (t.1, setF n t.2 b) = canonT S t ↔ canonT S b = canonT S a := by
  have hra : RightT S ar a := right_kids.1 ht.2 a (List.mem_of_getElem? ha)
  obtain ⟨l1, l2, e1, e2⟩ := set_split ha
  have ek : kidsL (setF n t.2 b) = l1 ++ b :: l2 := by rw [kids_setF, e2]
  have hn := ht.1
  unfold nodeOk at hn
  cases hx : noName t.1.1 with
  | false =>
    rw [if_pos hx] at hn
    have := congrArg List.length e1
    rw [kids_len, hn.2] at this
    simp at this
  | true =>
    cases hj : S.joins t.1.2 with
    | true =>
      rw [eq_iff hS hj (right_set ht hb) ht, eq_iff hS hj hb hra]
      have p1 := canonT_parts hS (t := (t.1, setF n t.2 b)) hj hx (right_set ht hb)
      have p2 := canonT_parts hS (t := t) hj hx ht
      dsimp only at p1
      rw [ek, List.flatMap_append, List.flatMap_cons] at p1
      rw [e1, List.flatMap_append, List.flatMap_cons] at p2
      constructor
      · intro h
        have := p1.symm.trans (h.trans p2)
        exact (List.perm_append_right_iff _).1 ((List.perm_append_left_iff _).1 this)
      · intro h
        exact p1.trans (((h.append_right _).append_left _).trans p2.symm)
    | false =>
      rw [canon_free (t := (t.1, setF n t.2 b)) hx hj, canon_free hx hj]
      dsimp only
      rw [ek, e1]
      constructor
      · intro h
        have h2 := mkF_inj (congrArg Prod.snd h)
        simp only [List.map_append, List.map_cons] at h2
        exact (List.cons.inj (List.append_cancel_left h2)).1
      · intro h
        simp only [List.map_append, List.map_cons]
        rw [h]

/-! ### another term at any place -/
theorem sub_right {S : Sg} {ar : Int → Nat} : ∀ (ps : List Int) {t x : Tn}, RightT S ar t → subT ps t = some x → RightT S ar x
  | [], t, x, ht, h => by simp only [subT, Option.some.injEq] at h; rw [← h]; exact ht
  | i :: p, t, x, ht, h => by
    simp only [subT] at h
    cases hk : kidT i t.2 with
    | none => rw [hk] at h; cases h
    | some k =>
      rw [hk] at h
      exact sub_right p (right_kids.1 ht.2 k (List.mem_of_getElem? (kidT_get hk).2)) h
theorem put_right {S : Sg} {ar : Int → Nat} {u : Tn} (hu : RightT S ar u) : ∀ (ps : List Int) {t y : Tn}, RightT S ar t → putT u ps t = some y → RightT S ar y
  | [], t, y, _, h => by simp only [putT, Option.some.injEq] at h; rw [← h]; exact hu
  | i :: p, t, y, ht, h => by
    simp only [putT] at h
    cases hk : kidT i t.2 with
    | none => rw [hk] at h; cases h
    | some k =>
      rw [hk] at h
      dsimp only at h
      cases hp : putT u p k with
      | none => rw [hp] at h; cases h
      | some k' =>
        rw [hp] at h
        simp only [Option.some.injEq] at h
        subst h
        exact right_set ht (put_right hu p (right_kids.1 ht.2 k (List.mem_of_getElem? (kidT_get hk).2)) hp)
theorem deep {S : Sg} {ar : Int → Nat} (hS : S.Ok ar) {u : Tn} (hu : RightT S ar u) : ∀ (ps : List Int) {t x y : Tn}, RightT S ar t → subT ps t = some x → putT u ps t = some y → (canonT S y = canonT S t ↔ canonT S u = canonT S x)
  | [], t, x, y, _, h, h2 => by
    simp only [subT, Option.some.injEq] at h
    simp only [putT, Option.some.injEq] at h2
    rw [← h, ← h2]
  | i :: p, t, x, y, ht, h, h2 => by
    simp only [subT] at h
    simp only [putT] at h2
    cases hk : kidT i t.2 with
    | none => rw [hk] at h; cases h
    | some k =>
      rw [hk] at h h2
      dsimp only at h2
      have hkr := right_kids.1 ht.2 k (List.mem_of_getElem? (kidT_get hk).2)
      cases hp : putT u p k with
      | none => rw [hp] at h2; cases h2
      | some k' =>
        rw [hp] at h2
        simp only [Option.some.injEq] at h2
        subst h2
        rw [within hS ht (put_right hu p hkr hp) (kidT_get hk).2]
        exact deep hS hu p hkr h hp
end Go.Proofs.Ytgidgmgpgfonnaa
/- The program's own way to canonical forms, without any program: forms that are loose at the top, laid one behind the other, then put in order. -/
namespace Go.Proofs.Ytgidgmgpgfonnaa
open Go.RowKit Go.Deep

/-! ### two lists, one beside the other -/
def All2 {α β : Type} (R : α → β → Prop) : List α → List β → Prop
  | [], [] => True
  | a :: xs, b :: ys => R a b ∧ All2 R xs ys
  | _, _ => False
theorem All2.snoc {α β : Type} {R : α → β → Prop} {a : α} {b : β} (h : R a b) : ∀ {xs : List α} {ys : List β}, All2 R xs ys → All2 R (xs ++ [a]) (ys ++ [b])
  | [], [], _ => ⟨h, trivial⟩
  | [], _ :: _, k => k.elim
  | _ :: _, [], k => k.elim
  | _ :: _, _ :: _, k => ⟨k.1, All2.snoc h k.2⟩
theorem All2.len {α β : Type} {R : α → β → Prop} : ∀ {xs : List α} {ys : List β}, All2 R xs ys → xs.length = ys.length
  | [], [], _ => rfl
  | [], _ :: _, k => k.elim
  | _ :: _, [], k => k.elim
  | _ :: _, _ :: _, k => by simp [All2.len k.2]
theorem All2.mono {α β : Type} {R R' : α → β → Prop} : ∀ {xs : List α} {ys : List β}, (∀ a ∈ xs, ∀ b, R a b → R' a b) → All2 R xs ys → All2 R' xs ys
  | [], [], _, _ => trivial
  | [], _ :: _, _, k => k.elim
  | _ :: _, [], _, k => k.elim
  | a :: _, b :: _, h, k => ⟨h a (by simp) b k.1, All2.mono (fun x hx => h x (by simp [hx])) k.2⟩

/-! ### loose forms -/
def jn (S : Sg) (t : Tn) : Bool := noName t.1.1 && S.joins t.1.2
/-- The same but for the order at the top. -/
def Mod (S : Sg) (c r : Tn) : Prop := r.1 = c.1 ∧ if jn S c then List.Perm (kidsL r.2) (kidsL c.2) else r = c
/-- Put in order at the top. -/
def SetR (S : Sg) (r r' : Tn) : Prop := r'.1 = r.1 ∧ if jn S r then ∃ l, r'.2 = mkF l ∧ List.Perm l (kidsL r.2) ∧ Srt l else r' = r
theorem mod_set {S : Sg} {ar : Int → Nat} {c r r' : Tn} (hc : CanT S ar c) (h : Mod S c r) (k : SetR S r r') : r' = c := by
  obtain ⟨h1, h2⟩ := h
  obtain ⟨k1, k2⟩ := k
  have e : jn S r = jn S c := by unfold jn; rw [h1]
  rw [e] at k2
  cases hj : jn S c with
  | false =>
    rw [hj] at h2 k2
    simp only [Bool.false_eq_true, if_false] at h2 k2
    rw [k2, h2]
  | true =>
    rw [hj] at h2 k2
    simp only [if_true] at h2 k2
    obtain ⟨l, e1, e2, e3⟩ := k2
    unfold jn at hj
    rw [Bool.and_eq_true] at hj
    have hcan := hc.1
    unfold can1 at hcan
    rw [if_neg (by rw [hj.1]; simp), if_pos hj.2] at hcan
    have e4 : kidsL c.2 = l := srt_eq (can_kids hc.2) hcan.2.2.1 e3 (h2.symm.trans e2.symm)
    have e5 := can_mk_kids hc.2
    rw [e4] at e5
    exact Prod.ext (k1.trans h1) (e1.trans e5)
theorem set_size {S : Sg} {r r' : Tn} (k : SetR S r r') : sizeT r' = sizeT r := by
  obtain ⟨_, k2⟩ := k
  cases hj : jn S r with
  | false => rw [hj] at k2; simp only [Bool.false_eq_true, if_false] at k2; rw [k2]
  | true =>
    rw [hj] at k2
    simp only [if_true] at k2
    obtain ⟨l, e1, e2, _⟩ := k2
    unfold sizeT
    rw [e1, nodes_mk, nodes_sizes r.2, sizes_perm e2]
theorem mod_un {S : Sg} {ar : Int → Nat} (hS : S.Ok ar) {f : Int} {c r : Tn} (h : Mod S c r) : isUn S f c = isUn S f r := by
  obtain ⟨h1, h2⟩ := h
  have key : ∀ u, S.unit f = some u → c.1 = (noB, u) → r = c := fun u hu e => by
    have : jn S c = false := by unfold jn; rw [e]; simp [hS.free f u hu]
    rw [this] at h2
    simpa using h2
  cases hc : isUn S f c with
  | true =>
    obtain ⟨u, hu, rfl⟩ := isUn_some hc
    rw [key u hu rfl]
    exact hc.symm
  | false =>
    cases hr : isUn S f r with
    | false => rfl
    | true =>
      obtain ⟨u, hu, rfl⟩ := isUn_some hr
      rw [← key u hu h1.symm] at hc
      rw [hc] at hr
      exact hr
/-- What a term gives to its symbol's list, in some order. -/
def PartR (S : Sg) (f : Int) (r : Tn) (p : List Tn) : Prop := if headed f r then List.Perm p (kidsL r.2) else ∃ r', SetR S r r' ∧ p = [r']
def FlatR (S : Sg) (f : Int) : List Tn → List Tn → Prop
  | [], out => out = []
  | r :: rs, out => ∃ p q, PartR S f r p ∧ FlatR S f rs q ∧ List.Perm out (p ++ q)
theorem FlatR.snoc {S : Sg} {f : Int} {r : Tn} {p : List Tn} (hp : PartR S f r p) : ∀ {rs out out' : List Tn}, FlatR S f rs out → List.Perm out' (out ++ p) → FlatR S f (rs ++ [r]) out'
  | [], out, out', h, k => by
    have h : out = [] := h
    subst h
    exact ⟨p, [], hp, rfl, by simpa using k⟩
  | x :: rs, out, out', ⟨p', q', h1, h2, h3⟩, k => ⟨p', q' ++ p, h1, FlatR.snoc hp h2 (List.Perm.refl _), k.trans (by rw [← List.append_assoc]; exact h3.append_right p)⟩
theorem part_size {S : Sg} {f : Int} {r : Tn} {p : List Tn} (h : PartR S f r p) : sizes p ≤ sizeT r := by
  unfold PartR at h
  split at h
  · rw [sizes_perm h, ← nodes_sizes]; unfold sizeT; omega
  · obtain ⟨r', hr, rfl⟩ := h
    rw [sizes_cons, sizes_nil, set_size hr]; omega
theorem flat_sizes {S : Sg} {f : Int} : ∀ {rs out : List Tn}, FlatR S f rs out → sizes out ≤ sizes rs
  | [], out, h => by
    have h : out = [] := h
    subst h
    exact Nat.le_refl _
  | r :: rs, out, ⟨p, q, h1, h2, h3⟩ => by
    rw [sizes_perm h3, sizes_append, sizes_cons]
    have := part_size h1
    have := flat_sizes h2
    omega
theorem part_mod {S : Sg} {ar : Int → Nat} (hS : S.Ok ar) {f : Int} (hj : S.joins f = true) {c r : Tn} (hc : CanT S ar c) (h : Mod S c r) (hu : isUn S f r = false) {p : List Tn} (hp : PartR S f r p) : List.Perm p (partsN S f c) := by
  unfold partsN
  rw [if_neg (by simp [hj]), mod_un hS h, hu]
  have e : headed f r = headed f c := by unfold headed; rw [h.1]
  unfold PartR at hp
  rw [e] at hp
  cases hh : headed f c with
  | true =>
    rw [hh] at hp
    simp only [if_true] at hp
    have hjn : jn S c = true := by
      obtain ⟨e1, e2⟩ := headed_iff.1 hh
      unfold jn; rw [e1, e2, hj]; rfl
    have h2 := h.2
    rw [hjn] at h2
    simp only [if_true] at h2
    simpa using hp.trans h2
  | false =>
    rw [hh] at hp
    simp only [Bool.false_eq_true, if_false] at hp
    obtain ⟨r', hr, rfl⟩ := hp
    rw [mod_set hc h hr]
    simp
theorem flat_mod {S : Sg} {ar : Int → Nat} (hS : S.Ok ar) {f : Int} (hj : S.joins f = true) : ∀ {ts rs out : List Tn}, (∀ t ∈ ts, RightT S ar t) → All2 (fun t r => Mod S (canonT S t) r) ts rs → (∀ r ∈ rs, isUn S f r = false) → FlatR S f rs out → List.Perm out (ts.flatMap (pc S f))
  | [], [], out, _, _, _, h => by
    have h : out = [] := h
    subst h
    simp
  | [], _ :: _, _, _, h, _, _ => h.elim
  | _ :: _, [], _, _, h, _, _ => h.elim
  | t :: ts, r :: rs, out, ht, h, hu, ⟨p, q, h1, h2, h3⟩ => by
    rw [List.flatMap_cons]
    exact h3.trans ((part_mod hS hj (canonT_can hS (ht t (by simp))) h.1 (hu r (by simp)) h1).append (flat_mod hS hj (fun x hx => ht x (by simp [hx])) h.2 (fun x hx => hu x (by simp [hx])) h2))
def FlatOut (S : Sg) (f : Int) (rs : List Tn) (r : Tn) : Prop := rs = [r] ∨ (rs.length ≠ 1 ∧ ∃ out, FlatR S f rs out ∧ r = ((noB, f), mkF out))
theorem flatout_size {S : Sg} {f : Int} {rs : List Tn} {r : Tn} (h : FlatOut S f rs r) : sizeT r ≤ sizes rs + 1 := by
  rcases h with rfl | ⟨_, out, h1, rfl⟩
  · rw [sizes_cons, sizes_nil]; omega
  · unfold sizeT
    rw [nodes_mk]
    have := flat_sizes h1
    omega
theorem pc_pos {S : Sg} {ar : Int → Nat} (hS : S.Ok ar) {f : Int} (hj : S.joins f = true) {t r : Tn} (ht : RightT S ar t) (h : Mod S (canonT S t) r) (hu : isUn S f r = false) : 1 ≤ (pc S f t).length := by
  unfold pc partsN
  rw [if_neg (by simp [hj]), mod_un hS h, hu]
  cases hh : headed f (canonT S t) with
  | true => have := (can_head hj (canonT_can hS ht) hh).2.1; simp; omega
  | false => simp
theorem flat_long {S : Sg} {ar : Int → Nat} (hS : S.Ok ar) {f : Int} (hj : S.joins f = true) : ∀ {ts rs : List Tn}, (∀ t ∈ ts, RightT S ar t) → All2 (fun t r => Mod S (canonT S t) r) ts rs → (∀ r ∈ rs, isUn S f r = false) → rs.length ≤ (ts.flatMap (pc S f)).length
  | [], [], _, _, _ => by simp
  | [], _ :: _, _, h, _ => h.elim
  | _ :: _, [], _, h, _ => h.elim
  | t :: ts, r :: rs, ht, h, hu => by
    rw [List.flatMap_cons, List.length_append, List.length_cons]
    have := pc_pos hS hj (ht t (by simp)) h.1 (hu r (by simp))
    have := flat_long hS hj (fun x hx => ht x (by simp [hx])) h.2 (fun x hx => hu x (by simp [hx]))
    omega
theorem flatout_mod {S : Sg} {ar : Int → Nat} (hS : S.Ok ar) {f : Int} (hj : S.joins f = true) {ts rs : List Tn} {r : Tn} (ht : ∀ t ∈ ts, RightT S ar t) (h : All2 (fun t r => Mod S (canonT S t) r) ts rs) (hu : ∀ r ∈ rs, isUn S f r = false) (hn : rs ≠ []) (ho : FlatOut S f rs r) :
    ∃ c, joinL S f (ts.flatMap (pc S f)) = some c ∧ Mod S c r := by
  rcases ho with rfl | ⟨hl, out, h1, rfl⟩
  · match ts, h with
    | [t], h =>
      refine ⟨canonT S t, ?_, h.1⟩
      rw [List.flatMap_cons, List.flatMap_nil, List.append_nil]
      exact join_parts hj (canonT_can hS (ht t (by simp)))
    | [], h => exact h.elim
    | _ :: _ :: _, h => exact h.2.elim
  · have h2 : 2 ≤ (ts.flatMap (pc S f)).length := by
      have := flat_long hS hj ht h hu
      have : rs.length ≠ 0 := fun e => hn (List.length_eq_zero_iff.1 e)
      omega
    refine ⟨_, join_many S f h2, rfl, ?_⟩
    have : jn S ((noB, f), mkF (sortN (ts.flatMap (pc S f)))) = true := by unfold jn; simp [noName_noB, hj]
    rw [this]
    simp only [if_true]
    rw [kids_mk, kids_mk]
    exact (flat_mod hS hj ht h hu h1).trans (sortN_perm _).symm
theorem drop_units {S : Sg} {ar : Int → Nat} (hS : S.Ok ar) {f : Int} (hj : S.joins f = true) : ∀ {ts rs : List Tn}, (∀ t ∈ ts, RightT S ar t) → All2 (fun t r => Mod S (canonT S t) r) ts rs →
    ∃ ts', All2 (fun t r => Mod S (canonT S t) r) ts' (rs.filter fun r => !isUn S f r) ∧ (∀ t ∈ ts', RightT S ar t) ∧ ts.flatMap (pc S f) = ts'.flatMap (pc S f)
  | [], [], _, _ => ⟨[], trivial, by simp, rfl⟩
  | [], _ :: _, _, h => h.elim
  | _ :: _, [], _, h => h.elim
  | t :: ts, r :: rs, ht, h => by
    obtain ⟨ts', k1, k2, k3⟩ := drop_units hS hj (fun x hx => ht x (by simp [hx])) h.2
    cases hu : isUn S f r with
    | true =>
      refine ⟨ts', by simpa [List.filter_cons, hu] using k1, k2, ?_⟩
      rw [List.flatMap_cons, k3]
      have : pc S f t = [] := by
        unfold pc partsN
        rw [if_neg (by simp [hj]), mod_un hS h.1, hu]
        simp
      rw [this]
      rfl
    | false =>
      refine ⟨t :: ts', by simpa [List.filter_cons, hu] using ⟨h.1, k1⟩, fun x hx => ?_, by rw [List.flatMap_cons, List.flatMap_cons, k3]⟩
      rcases List.mem_cons.1 hx with rfl | hx
      · exact ht _ (by simp)
      · exact k2 x hx

/-! ### a symbol's term of loose forms -/
def LayR (S : Sg) (k f u : Int) (rs : List Tn) (r : Tn) : Prop :=
  if k = 1 then ∃ rs', All2 (SetR S) rs rs' ∧ r = ((noB, f), mkF rs')
  else if k = 2 then FlatOut S f rs r
  else ((rs.filter fun r => !isUn S f r) = [] ∧ r = constT u) ∨ ((rs.filter fun r => !isUn S f r) ≠ [] ∧ FlatOut S f (rs.filter fun r => !isUn S f r) r)
/-- A form of t, loose at the top; no greater than t, whatever t is. -/
def LooseR (S : Sg) (ar : Int → Nat) (t r : Tn) : Prop := sizeT r ≤ sizeT t ∧ (S.Ok ar → RightT S ar t → Mod S (canonT S t) r)
theorem loose_sizes {S : Sg} {ar : Int → Nat} : ∀ {ts rs : List Tn}, All2 (LooseR S ar) ts rs → sizes rs ≤ sizes ts
  | [], [], _ => Nat.le_refl _
  | [], _ :: _, h => h.elim
  | _ :: _, [], h => h.elim
  | t :: ts, r :: rs, h => by
    rw [sizes_cons, sizes_cons]
    have := h.1.1
    have := loose_sizes h.2
    omega
theorem loose_mods {S : Sg} {ar : Int → Nat} (hS : S.Ok ar) : ∀ {ts rs : List Tn}, (∀ t ∈ ts, RightT S ar t) → All2 (LooseR S ar) ts rs → All2 (fun t r => Mod S (canonT S t) r) ts rs
  | [], [], _, _ => trivial
  | [], _ :: _, _, h => h.elim
  | _ :: _, [], _, h => h.elim
  | t :: ts, r :: rs, ht, h => ⟨h.1.2 hS (ht t (by simp)), loose_mods hS (fun x hx => ht x (by simp [hx])) h.2⟩
theorem set_sizes {S : Sg} : ∀ {rs rs' : List Tn}, All2 (SetR S) rs rs' → sizes rs' = sizes rs
  | [], [], _ => rfl
  | [], _ :: _, h => h.elim
  | _ :: _, [], h => h.elim
  | r :: rs, r' :: rs', h => by rw [sizes_cons, sizes_cons, set_size h.1, set_sizes h.2]
theorem sizes_filter (p : Tn → Bool) : ∀ rs : List Tn, sizes (rs.filter p) ≤ sizes rs
  | [] => Nat.le_refl _
  | r :: rs => by
    have := sizes_filter p rs
    rw [List.filter_cons]
    split
    · rw [sizes_cons, sizes_cons]; omega
    · rw [sizes_cons]; omega
theorem lay_size {S : Sg} {k f u : Int} {rs : List Tn} {r : Tn} (h : LayR S k f u rs r) : sizeT r ≤ sizes rs + 1 := by
  unfold LayR at h
  split at h
  · obtain ⟨rs', h1, rfl⟩ := h
    unfold sizeT
    rw [nodes_mk, set_sizes h1]
    omega
  · split at h
    · exact flatout_size h
    · rcases h with ⟨_, rfl⟩ | ⟨_, h⟩
      · simp [sizeT, constT, nodesF]
      · have := flatout_size h
        have := sizes_filter (fun r => !isUn S f r) rs
        omega
theorem mods_set {S : Sg} {ar : Int → Nat} (hS : S.Ok ar) : ∀ {ts rs rs' : List Tn}, (∀ t ∈ ts, RightT S ar t) → All2 (fun t r => Mod S (canonT S t) r) ts rs → All2 (SetR S) rs rs' → rs' = ts.map (canonT S)
  | [], [], [], _, _, _ => rfl
  | [], _ :: _, _, _, h, _ => h.elim
  | _ :: _, [], _, _, h, _ => h.elim
  | [], [], _ :: _, _, _, h => h.elim
  | _ :: _, _ :: _, [], _, _, h => h.elim
  | t :: ts, r :: rs, r' :: rs', ht, h, k => by rw [List.map_cons, mod_set (canonT_can hS (ht t (by simp))) h.1 k.1, mods_set hS (fun x hx => ht x (by simp [hx])) h.2 k.2]
/-- What the kinds say of a symbol. -/
structure KindOk (S : Sg) (k f u : Int) : Prop where
  free : k = 1 ↔ S.joins f = false
  ac : k = 2 → S.unit f = none
  unit : ∀ v, S.unit f = some v → v = u
theorem lay_join {S : Sg} {ar : Int → Nat} (hS : S.Ok ar) {k f u : Int} (hk : KindOk S k f u) (hj : S.joins f = true) {ts rs : List Tn} {r : Tn} (ht : ∀ t ∈ ts, RightT S ar t) (h : All2 (LooseR S ar) ts rs) (hl : LayR S k f u rs r) (hn : ts ≠ [] ∨ S.unit f ≠ none) :
    ∃ c, joinL S f (ts.flatMap (pc S f)) = some c ∧ Mod S c r := by
  have hm := loose_mods hS ht h
  have k1 : k ≠ 1 := fun e => by have := hk.free.1 e; rw [hj] at this; cases this
  unfold LayR at hl
  rw [if_neg k1] at hl
  split at hl
  · rename_i k2
    have hnone := hk.ac k2
    have hun : ∀ r ∈ rs, isUn S f r = false := fun r _ => by unfold isUn; rw [hnone]
    have hrs : rs ≠ [] := fun e => by
      have := h.len
      rw [e] at this
      rcases hn with hn | hn
      · exact hn (List.length_eq_zero_iff.1 this)
      · exact hn hnone
    exact flatout_mod hS hj ht hm hun hrs hl
  · obtain ⟨ts', h1, h2, h3⟩ := drop_units hS hj ht hm
    rw [h3]
    have hun : ∀ r ∈ rs.filter (fun r => !isUn S f r), isUn S f r = false := fun r hr => by simpa using (List.mem_filter.1 hr).2
    rcases hl with ⟨e, rfl⟩ | ⟨e, hl⟩
    · rw [e] at h1
      have : ts' = [] := List.length_eq_zero_iff.1 h1.len
      subst this
      have hsome : ∃ v, S.unit f = some v := by
        cases hv : S.unit f with
        | some v => exact ⟨v, rfl⟩
        | none =>
          exfalso
          rcases hn with hn | hn
          · have hl2 := h.len
            match ts, rs, hn, hl2 with
            | t :: ts, r :: rs, _, _ =>
              have : r ∈ (r :: rs).filter (fun r => !isUn S f r) := List.mem_filter.2 ⟨by simp, by unfold isUn; rw [hv]; rfl⟩
              rw [e] at this
              cases this
          · exact hn hv
      obtain ⟨v, hv⟩ := hsome
      have hvu := hk.unit v hv
      subst hvu
      refine ⟨constT v, by simp [joinL, hv], rfl, ?_⟩
      have : jn S (constT v) = false := by unfold jn constT; simp [hS.free f v hv]
      rw [this]
      simp
    · exact flatout_mod hS hj h2 h1 hun e hl
theorem lay_loose {S : Sg} {ar : Int → Nat} {k u : Int} {x : ByteArray × Int} {F : Fo} (hk : KindOk S k x.2 u) (hx : noName x.1 = true) (hF : lenF F ≠ 0) {rs : List Tn} {r : Tn} (h : All2 (LooseR S ar) (kidsL F) rs) (hl : LayR S k x.2 u rs r) : LooseR S ar (x, F) r := by
  refine ⟨?_, fun hS hR => ?_⟩
  · have h1 := lay_size hl
    have h2 := loose_sizes h
    rw [← nodes_sizes] at h2
    unfold sizeT at *
    show nodesF r.2 + 1 ≤ nodesF F + 1
    omega
  · have ht : ∀ t ∈ kidsL F, RightT S ar t := right_kids.1 hR.2
    have hc : canonT S (x, F) = canon1 S x ((kidsL F).map (canonT S)) := by unfold canonT; rw [canonL_map]; rfl
    cases hj : S.joins x.2 with
    | false =>
      have k1 := hk.free.2 hj
      unfold LayR at hl
      rw [if_pos k1] at hl
      obtain ⟨rs', h1, rfl⟩ := hl
      have e := mods_set hS ht (loose_mods hS ht h) h1
      have hce : canonT S (x, F) = ((noB, x.2), mkF rs') := by
        rw [hc, e]
        unfold canon1
        rw [if_neg (by rw [hx]; simp), hj]
        simp
      rw [hce]
      refine ⟨rfl, ?_⟩
      have : jn S ((noB, x.2), mkF rs') = false := by unfold jn; simp [hj]
      rw [this]
      simp
    | true =>
      have hne : kidsL F ≠ [] := fun e => hF (by rw [← kids_len, e]; rfl)
      obtain ⟨c, h1, h2⟩ := lay_join hS hk hj ht h hl (.inl hne)
      have h3 := canon1_join (S := S) (ar := ar) (x := x) (cs := (kidsL F).map (canonT S)) hx hj (fun c hc => by
        obtain ⟨t, h4, rfl⟩ := List.mem_map.1 hc
        exact canonT_can hS (ht t h4)) (by simpa using hne)
      rw [List.flatMap_map] at h3
      have h4 : some c = some (canon1 S x ((kidsL F).map (canonT S))) := h1.symm.trans h3
      rw [hc, ← Option.some.inj h4]
      exact h2

/-! ### the kinds of a signature -/
def kindK (l : List Sym) (f : Int) : Int := match symAt l f with | some x => if 1 ≤ x.kind ∧ x.kind ≤ 3 then x.kind else 1 | none => 1
theorem kindK_range (l : List Sym) (f : Int) : 1 ≤ kindK l f ∧ kindK l f ≤ 3 := by
  unfold kindK
  split
  · split <;> omega
  · omega
theorem kindK_ok (l : List Sym) (f : Int) : KindOk (sgOf l) (kindK l f) f (unitI l f) := by
  refine ⟨?_, ?_, ?_⟩
  · show _ ↔ joinsAt l f = false
    unfold kindK joinsAt
    cases symAt l f with
    | none => simp
    | some x =>
      dsimp only
      rw [Bool.or_eq_false_iff, decide_eq_false_iff_not, decide_eq_false_iff_not]
      split <;> omega
  · intro h
    show (unitAt l f).map _ = none
    rw [Option.map_eq_none_iff]
    by_cases hin : 0 ≤ f ∧ f.toNat < l.length
    · obtain ⟨n, rfl⟩ := Int.eq_ofNat_of_zero_le hin.1
      have hn : n < l.length := by simpa using hin.2
      refine unit_not hn ?_
      unfold kindK at h
      rw [symAt_in hn] at h
      dsimp only at h
      intro e
      rw [e] at h
      simp at h
    · exact unit_out hin
  · intro v hv
    have hv : (unitAt l f).map (fun (i : Nat) => (i : Int)) = some v := hv
    unfold unitI
    cases hu : unitAt l f with
    | none => rw [hu] at hv; cases hv
    | some i => rw [hu] at hv; simpa using hv.symm
end Go.Proofs.Ytgidgmgpgfonnaa
