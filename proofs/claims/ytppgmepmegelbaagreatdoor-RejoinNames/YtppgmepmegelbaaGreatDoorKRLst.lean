import Derived.Test.YtppgmepmegelbaaGreatDoorTRClone
import Derived.Deep.AppendLies
import Derived.Shelf.SlSortCmp.WholeK
import Derived.Test.YtppgmepmegelbaaGreatDoorProg
import Derived.Test.YtppgmepmegelbaaGreatDoorTSep
import Derived.Test.YtppgmepmegelbaaGreatDoorTCmp
import Derived.Test.YtppgmepmegelbaaGreatDoorPKind
import Derived.Shelf.SlSortCmp.NoneTotal
import Derived.Test.YtppgmepmegelbaaGreatDoorKRjG
/- A list of terms under way: a row of its own, the terms' lists elsewhere; what the document's Clones answers. -/
namespace Go.Proofs.YtppgmepmegelbaaGreatDoor
open Go.RowKit Go.Deep

structure Lst (B : Nat) (W : World) (v : Value) (ks : List Kv) : Prop where
  row : W.ownsRow B 28 3 v ks.length (kvCells ks)
  own : ∀ k ∈ ks, OwnTm false (fun q => B ≤ q ∧ some q ≠ v.ownBlock) W k.x k.a k.c k.l
set_option maxRecDepth 100000 in
theorem Lst.nil (B : Nat) (W : World) : Lst B W (.slice none 0 0) [] := ⟨World.ownsRow_nil _ _ _ _, by simp⟩
set_option maxRecDepth 100000 in
theorem Lst.below {B : Nat} {W W' : World} {v : Value} {ks : List Kv} (h : Lst B W v ks) (hb : Below W.heap.size W W') : Lst B W' v ks := ⟨owns_below h.row hb, fun k hk => (h.own k hk).below hb⟩
set_option maxRecDepth 100000 in
theorem Lst.base {B B' : Nat} {W : World} {v : Value} {ks : List Kv} (h : Lst B W v ks) (hB : B' ≤ B) : Lst B' W v ks := ⟨owns_base h.row hB, fun k hk => (h.own k hk).mono (fun q _ hq => ⟨by omega, hq.2⟩)⟩
set_option maxRecDepth 100000 in
theorem Lst.lt {B : Nat} {W : World} {v : Value} {ks : List Kv} {g : Nat} (h : Lst B W v ks) (hg : v.ownBlock = some g) : g < W.heap.size := by
  obtain ⟨cur, hc⟩ := (owns_cells h.row hg).2
  exact (Array.getElem?_eq_some_iff.1 hc).1
set_option maxRecDepth 100000 in
theorem Lst.grow {B : Nat} {W W1 W2 : World} {v v' : Value} {ks ms : List Kv} (h : Lst B W v ks) (hW : Below W.heap.size W W1) (hm : ∀ k ∈ ms, OwnTm false (fun q => W.heap.size ≤ q) W1 k.x k.a k.c k.l) (hB : B ≤ W.heap.size)
    (hg : W1.grownBy W2 v.ownBlock) (hat : v'.ownBlock = v.ownBlock ∨ v'.ownBlock = some W1.heap.size) (ho : W2.ownsRow B 28 3 v' (ks ++ ms).length (kvCells (ks ++ ms))) : Lst B W2 v' (ks ++ ms) := by
  refine ⟨ho, fun k hk => ?_⟩
  have h2 : OwnTm false (fun q => (B ≤ q ∧ some q ≠ v'.ownBlock) ∧ some q ≠ v.ownBlock) W1 k.x k.a k.c k.l := by
    rcases List.mem_append.1 hk with hk | hk
    · have h0 : OwnTm false (fun q => (B ≤ q ∧ some q ≠ v'.ownBlock) ∧ some q ≠ v.ownBlock) W k.x k.a k.c k.l := (h.own k hk).mono (fun q hq hp => ⟨⟨hp.1, by
        rcases hat with e | e
        · rw [e]; exact hp.2
        · rw [e]; intro e'; cases e'; have := hW.size; omega⟩, hp.2⟩)
      exact h0.below hW
    · refine (hm k hk).mono (fun q hq hp => ?_)
      have hne : some q ≠ v.ownBlock := fun e => by have := h.lt e.symm; omega
      refine ⟨⟨by omega, ?_⟩, hne⟩
      rcases hat with e | e
      · rw [e]; exact hne
      · rw [e]; intro e'; cases e'; omega
  exact (h2.keep (fun q hq hlt => hg.block q hlt hq.2)).mono (fun q _ hq => hq.1)
set_option maxRecDepth 100000 in
/-- append of what another slice holds: nil, or some. -/
theorem wpList_append_lst {ops : Array Oper} {rest : List Oper} {o : Oper} {a : Act} {Q : Exit → Act → World → Prop} {W : World} (hgd : o.guard = none) (s x : Operand)
    (ho : o.op = .call { callee := .builtin .append, args := #[s, x], argTypes := #[26, 26] }) (base : Nat) (v : Value) (ks : List Kv) (hs : a.eval s = v) (hown : W.ownsRow base 28 3 v ks.length (kvCells ks))
    (sa : Option Addr) (m c : Nat) (ms : List Kv) (hx : a.eval x = .slice sa m c) (hm : RowAt W sa m ms) (hnil : sa = none → c = 0) (hsome : sa ≠ none → 0 < m) (hbig : ks.length + m ≤ 2932031007400) (hbase : base ≤ W.heap.size)
    (h : ∀ v' w', w'.ownsRow base 28 3 v' (ks ++ ms).length (kvCells (ks ++ ms)) → W.grownBy w' v.ownBlock → (v'.ownBlock = v.ownBlock ∨ v'.ownBlock = some W.heap.size) → wpList Tryz.prog ops Q rest (a.put o.dst v') w') : wpList Tryz.prog ops Q (o :: rest) a W := by
  obtain ⟨i0, hi, hz0, hz1, hz2⟩ := info_parts Tryz.info28
  have hmax : maxLen = 9223372036854775807 := rfl
  rcases sa with _ | ⟨b, off, sp⟩
  · obtain rfl : ms = [] := by
      cases ms with
      | nil => rfl
      | cons k r =>
        obtain ⟨_, _, e, _⟩ := hm.get (j := 0) (k := k) rfl
        cases e
    obtain rfl := hm.len
    obtain rfl := hnil rfl
    refine wpList_append_own_none hgd s x 26 ho base 28 i0 3 Tryz.underlying26 hi v ks.length (kvCells ks) hs hown hx (h v W (by simpa using hown) ?_ (.inl rfl))
    exact ⟨rfl, rfl, rfl, Nat.le_refl _, fun _ _ _ => rfl⟩
  · have hlm := hm.len
    refine wpList_append_lies _ hgd s x 26 ho base 28 i0 _ 3 48 Tryz.underlying26 hi hz0 hz1 hz2 rfl (by decide) v ks.length (kvCells ks) hs hown ⟨b, off, sp⟩ m c (kvCells ms) hx (by rw [kvCells_len, hlm]) (fun j u hu => ?_) (kvCells_one ms) (hsome (by simp)) (by omega) (by omega) hbase _ rfl ?_
    · obtain ⟨b', off', e, hc⟩ := hm.cells j u hu
      cases e
      rw [← hc]
      congr 1
      unfold Addr.add
      split <;> simp_all
    · intro g cap w' h1 h2 h3 _
      refine h _ w' ?_ h2 ?_
      · rw [kvCells_append, List.length_append, ← hlm]
        exact h1
      · rcases h3 with h3 | h3
        · exact .inl h3.symm
        · exact .inr (by rw [h3]; rfl)

set_option maxRecDepth 100000 in
set_option maxHeartbeats 2000000 in
theorem clones_any (a : Option Addr) (F : Fo) (cap : Nat) (w : World) (hA : ArgsAt w a F) (hs : lenF F ≤ 2932031007319) :
    Calls Tryz.prog 56 #[.slice a (lenF F) cap] w fun e w' => ∃ v ks, e = .returned v ∧ Lst w.heap.size w' v ks ∧ (ks = [] → v = .slice none 0 0) ∧ ks.map Kv.tn = kidsL F ∧ Below w.heap.size w w' := by
  have HA : Hid (ArgsAt w a F) := hA
  clear hA
  go_enter Tryz.func56, Tryz.ntmps56
  go_wp2
  go_loopw [3, 4] (fun ov i wr => ∃ (j : Nat) (v : Value) (ks : List Kv), j ≤ lenF F ∧ v = ov ∧ i = .int .i64 j ∧ Lst w.heap.size wr v ks ∧ (ks = [] → v = .slice none 0 0) ∧ ks.map Kv.tn = (kidsL F).take j ∧ Below w.heap.size w wr) (fun _ i _ => lenF F - (intOf i).toNat)
  case atStart => exact ⟨0, _, [], Nat.zero_le _, rfl, rfl, Lst.nil _ _, fun _ => rfl, by simp, Below.refl _ _⟩
  case round =>
    obtain ⟨j, v, ks, hj, rfl, rfl, hL, hnil, hmap, hlow⟩ := hrel
    have HN : Hid (ks = [] → v = .slice none 0 0) := hnil
    have HL : Hid (Lst w.heap.size wr v ks) := hL
    have HM : Hid (ks.map Kv.tn = (kidsL F).take j) := hmap
    have HB : Hid (Below w.heap.size w wr) := hlow
    have hkl : ks.length = j := by
      have := congrArg List.length hmap
      rw [List.length_map, List.length_take, kids_len] at this
      omega
    clear hL hnil hmap hlow
    by_cases hlt : j < lenF F
    · obtain ⟨bb, oo, rfl, hkk⟩ := HA.out.get (by omega)
      obtain ⟨y, a1, c1, l1, kd⟩ := hkk.kid (k := j) hlt
      have kd' := kd.below HB.out
      have p0 := kd'.name; have p1 := kd'.sym; have p2 := kd'.list
      have KD : Hid (Kid wr F bb oo j y a1 c1 l1) := kd'
      have hj0 : (0 : Int) ≤ (j : Int) := by omega
      have hjn : (j : Int) < (lenF F : Int) := by omega
      clear kd kd' hkk
      have HC : Hid (∀ W, Below wr.heap.size wr W → Calls Tryz.prog 54 #[.agg #[.string y.1, .int .i64 y.2, .slice a1 (lenF l1) c1]] W fun e w' => ∃ a' c', e = .returned (.agg #[.string y.1, .int .i64 y.2, .slice a' (lenF l1) c']) ∧ RowTm W.heap.size w' y a' c' l1 ∧ Below W.heap.size W w') := fun W hW => rclone_any y l1 a1 c1 W (KD.out.at_.below hW)
      go_wp2_with (first
        | (go_at_call 54; refine (HC.out _ (Below.refl _ _)).mono ?_; rintro e w1 ⟨a', c', rfl, ho1, hb1⟩; have HO1 : Hid (OwnTm false (fun q => wr.heap.size ≤ q) w1 y a' c' l1) := ho1.own; have HB1 : Hid (Below wr.heap.size wr w1) := hb1; have hz1 := hb1.size; clear ho1 hb1)
        | (at_builtin; refine wpList_append_lst rfl _ _ rfl w.heap.size v ks rfl (owns_below HL.out.row (HB1.out.alloc hz1 _)) (some ⟨w1.heap.size, 0, none⟩) 1 1 [⟨y, l1, a', c'⟩] rfl (RowAt.new w1 ⟨y, l1, a', c'⟩) (fun e => by cases e) (fun _ => Nat.one_pos) (by omega) (by have := HB.out.size; rw [World.size_alloc]; omega) ?_; intro v2 w2 hown2 hgrow2 hat2; have HL2 : Hid (Lst w.heap.size w2 v2 (ks ++ [⟨y, l1, a', c'⟩])) := HL.out.grow (HB1.out.alloc hz1 _) (fun k hk => by simp only [List.mem_singleton] at hk; subst hk; exact HO1.out.below ((Below.refl _ _).alloc (Nat.le_refl _) _)) HB.out.size hgrow2 hat2 hown2; have HB2 : Hid (Below w.heap.size w w2) := HB.out.trans (((HB1.out.alloc hz1 _).mono HB.out.size).grown hgrow2 (by have := HB.out.size; rw [World.size_alloc]; omega) (fun k e => (owns_cells HL.out.row e).1)); clear hown2 hgrow2 hat2))
      go_roundw
      case rel =>
        obtain ⟨B1, O1, sp⟩ := KD.out.split
        exact ⟨j + 1, _, _, by omega, rfl, by go_num, HL2.out, fun e => by simp at e, by rw [kids_take sp, ← HM.out]; simp [Kv.tn], HB2.out⟩
      case measure => simp [intOf]; omega
    · obtain rfl : j = lenF F := by omega
      have HM' : Hid (ks.map Kv.tn = kidsL F) := by have := HM.out; rwa [List.take_of_length_le (by rw [kids_len]; exact Nat.le_refl _)] at this
      go_wp2
      go_ret
      exact ⟨v, ks, rfl, HL.out, HN.out, HM'.out, HB.out⟩
end Go.Proofs.YtppgmepmegelbaaGreatDoor
/- append of what another slice of terms holds, be it nil, be it empty: where the new row lies. -/
namespace Go.Proofs.YtppgmepmegelbaaGreatDoor
open Go.RowKit Go.Deep

theorem run_append_empty {P : Program} {w : World} (base : Nat) (t ty e : TypeId) (i : TypeInfo) (size : Nat) (ht : P.underlying t = some (.slice e)) (hi : P.info? e = some i)
    (v : Value) (n : Nat) (xs : List Value) (hown : w.ownsRow base e size v n xs) (ad : Addr) (c : Nat) :
    (Builtin.append_ #[t, t] ty #[v, .slice (some ad) 0 c]).run P w = .ok v w := by
  have h0 : (loadCells ad 0).run P w = .ok #[] w := rfl
  rcases hown.2 with ⟨rfl, rfl⟩ | ⟨g, cap, cur, rfl, _, _, hnc, _⟩
  · simp [Builtin.append_, run_underlying ht, sizeOf, typeInfo, hi, Builtin.lenOf, Builtin.firstCells, h0]
  · simp [Builtin.append_, run_underlying ht, sizeOf, typeInfo, hi, Builtin.lenOf, Builtin.firstCells, hnc, storeCells, h0]
theorem wpList_append_empty {P : Program} {w : World} {ops : Array Oper} {rest : List Oper} {o : Oper} {a : Act} {Q : Exit → Act → World → Prop} (hgd : o.guard = none) (s x : Operand) (t : TypeId)
    (ho : o.op = .call { callee := .builtin .append, args := #[s, x], argTypes := #[t, t] })
    (base : Nat) (e : TypeId) (i : TypeInfo) (size : Nat) (ht : P.underlying t = some (.slice e)) (hi : P.info? e = some i)
    (v : Value) (n : Nat) (xs : List Value) (hs : a.eval s = v) (hown : w.ownsRow base e size v n xs) (ad : Addr) (c : Nat) (hx : a.eval x = .slice (some ad) 0 c)
    (h : wpList P ops Q rest (a.put o.dst v) w) : wpList P ops Q (o :: rest) a w := by
  refine wpList_plain hgd fun K hK => ?_
  have hrun := run_append_empty (P := P) (w := w) base t o.type e i size ht hi v n xs hown ad c
  unfold Oper.wp
  simp [execOp, ho, resolve, invoke, builtin, hs, hx, hrun, Result.andThen]
  exact hK _ _ h

set_option maxRecDepth 100000 in
theorem wpList_append_all {ops : Array Oper} {rest : List Oper} {o : Oper} {a : Act} {Q : Exit → Act → World → Prop} {W : World} (hgd : o.guard = none) (s x : Operand)
    (ho : o.op = .call { callee := .builtin .append, args := #[s, x], argTypes := #[26, 26] }) (base : Nat) (v : Value) (ks : List Kv) (hs : a.eval s = v) (hown : W.ownsRow base 28 3 v ks.length (kvCells ks))
    (sa : Option Addr) (m c : Nat) (ms : List Kv) (hx : a.eval x = .slice sa m c) (hm : RowAt W sa m ms) (hnil : sa = none → c = 0) (hbig : ks.length + m ≤ 2932031007400) (hbase : base ≤ W.heap.size)
    (h : ∀ v' w', w'.ownsRow base 28 3 v' (ks ++ ms).length (kvCells (ks ++ ms)) → W.grownBy w' v.ownBlock → (v'.ownBlock = v.ownBlock ∨ v'.ownBlock = some W.heap.size) → wpList Tryz.prog ops Q rest (a.put o.dst v') w') : wpList Tryz.prog ops Q (o :: rest) a W := by
  by_cases h0 : sa ≠ none ∧ m = 0
  · obtain ⟨h1, rfl⟩ := h0
    obtain ⟨i0, hi, hz0, hz1, hz2⟩ := info_parts Tryz.info28
    obtain rfl : ms = [] := List.length_eq_zero_iff.1 hm.len.symm
    rcases sa with _ | ad
    · exact absurd rfl h1
    · refine wpList_append_empty hgd s x 26 ho base 28 i0 3 Tryz.underlying26 hi v ks.length (kvCells ks) hs hown ad c hx (h v W (by simpa using hown) ?_ (.inl rfl))
      exact ⟨rfl, rfl, rfl, Nat.le_refl _, fun _ _ _ => rfl⟩
  · exact wpList_append_lst hgd s x ho base v ks hs hown sa m c ms hx hm hnil (fun e => by have : ¬ m = 0 := fun e' => h0 ⟨e, e'⟩; omega) hbig hbase h
end Go.Proofs.YtppgmepmegelbaaGreatDoor
/- What the library says of slices.SortFunc, laid at this program. -/
namespace Go.Proofs
open Go.Shelf
def Tryz.sortT_ren : Go.Shelf.Ren := ⟨fun | 6 => 66 | 15 => 52 | 14 => 89 | 28 => 81 | 29 => 82 | 20 => 112 | 21 => 113 | 22 => 114 | 23 => 115 | 24 => 116 | 25 => 117 | 26 => 118 | 27 => 119 | 46 => 133 | 47 => 97 | 48 => 98 | 49 => 134 | 50 => 135 | 57 => 143 | n => n, fun | 22 => 26 | 24 => 28 | 25 => 72 | 3 => 3 | 39 => 100 | 0 => 0 | 53 => 41 | 55 => 87 | 4 => 4 | 46 => 122 | 45 => 121 | 50 => 53 | 5 => 5 | 9 => 9 | 66 => 135 | 70 => 139 | 76 => 160 | 77 => 161 | n => n, fun | n => n⟩
theorem Tryz.sortT : Go.Proofs.SlLaysF0.n6 Tryz.prog Tryz.sortT_ren := {
  mixed := by kernel_rfl
  f6 := ⟨Tryz.f66.name, by decide, Tryz.func66.trans (congrArg some (by kernel_rfl))⟩
  f14 := ⟨Tryz.f89.name, by decide, Tryz.func89.trans (congrArg some (by kernel_rfl))⟩
  f15 := Tryz.func52.trans (congrArg some (by kernel_rfl))
  f20 := ⟨Tryz.f112.name, by decide, Tryz.func112.trans (congrArg some (by kernel_rfl))⟩
  f21 := ⟨Tryz.f113.name, by decide, Tryz.func113.trans (congrArg some (by kernel_rfl))⟩
  f22 := ⟨Tryz.f114.name, by decide, Tryz.func114.trans (congrArg some (by kernel_rfl))⟩
  f23 := ⟨Tryz.f115.name, by decide, Tryz.func115.trans (congrArg some (by kernel_rfl))⟩
  f24 := ⟨Tryz.f116.name, by decide, Tryz.func116.trans (congrArg some (by kernel_rfl))⟩
  f25 := ⟨Tryz.f117.name, by decide, Tryz.func117.trans (congrArg some (by kernel_rfl))⟩
  f26 := ⟨Tryz.f118.name, by decide, Tryz.func118.trans (congrArg some (by kernel_rfl))⟩
  f27 := ⟨Tryz.f119.name, by decide, Tryz.func119.trans (congrArg some (by kernel_rfl))⟩
  f28 := Tryz.func81.trans (congrArg some (by kernel_rfl))
  f29 := Tryz.func82.trans (congrArg some (by kernel_rfl))
  f46 := ⟨Tryz.f133.name, by decide, Tryz.func133.trans (congrArg some (by kernel_rfl))⟩
  f47 := Tryz.func97.trans (congrArg some (by kernel_rfl))
  f48 := Tryz.func98.trans (congrArg some (by kernel_rfl))
  f49 := ⟨Tryz.f134.name, by decide, Tryz.func134.trans (congrArg some (by kernel_rfl))⟩
  f50 := ⟨Tryz.f135.name, by decide, Tryz.func135.trans (congrArg some (by kernel_rfl))⟩
  f57 := ⟨Tryz.f143.name, by decide, Tryz.func143.trans (congrArg some (by kernel_rfl))⟩
  t0 := Tryz.underlying0
  a0 := Tryz.isAgg0
  z0 := Tryz.sizeOf0
  v0 := Tryz.zeroValue0
  t3 := Tryz.underlying3
  a3 := Tryz.isAgg3
  z3 := Tryz.sizeOf3
  v3 := Tryz.zeroValue3
  t4 := Tryz.underlying4
  a4 := Tryz.isAgg4
  z4 := Tryz.sizeOf4
  v4 := Tryz.zeroValue4
  t5 := Tryz.underlying5
  a5 := Tryz.isAgg5
  z5 := Tryz.sizeOf5
  v5 := Tryz.zeroValue5
  t9 := Tryz.underlying9
  a9 := Tryz.isAgg9
  z9 := Tryz.sizeOf9
  v9 := Tryz.zeroValue9
  t22 := Tryz.underlying26
  a22 := Tryz.isAgg26
  z22 := Tryz.sizeOf26
  v22 := Tryz.zeroValue26
  t25 := Tryz.underlying72
  a25 := Tryz.isAgg72
  z25 := Tryz.sizeOf72
  v25 := Tryz.zeroValue72
  t39 := Tryz.underlying100
  a39 := Tryz.isAgg100
  z39 := Tryz.sizeOf100
  v39 := Tryz.zeroValue100
  t45 := Tryz.underlying121
  a45 := Tryz.isAgg121
  z45 := Tryz.sizeOf121
  v45 := Tryz.zeroValue121
  t46 := Tryz.underlying122
  a46 := Tryz.isAgg122
  z46 := Tryz.sizeOf122
  v46 := Tryz.zeroValue122
  t50 := Tryz.underlying53
  a50 := Tryz.isAgg53
  z50 := Tryz.sizeOf53
  v50 := Tryz.zeroValue53
  t53 := Tryz.underlying41
  a53 := Tryz.isAgg41
  z53 := Tryz.sizeOf41
  v53 := Tryz.zeroValue41
  t55 := Tryz.underlying87
  a55 := Tryz.isAgg87
  z55 := Tryz.sizeOf87
  v55 := Tryz.zeroValue87
  t66 := Tryz.underlying135
  a66 := Tryz.isAgg135
  z66 := Tryz.sizeOf135
  v66 := Tryz.zeroValue135
  t70 := Tryz.underlying139
  a70 := Tryz.isAgg139
  z70 := Tryz.sizeOf139
  v70 := Tryz.zeroValue139
  t76 := Tryz.underlying160
  a76 := Tryz.isAgg160
  z76 := Tryz.sizeOf160
  v76 := Tryz.zeroValue160
  t77 := Tryz.underlying161
  a77 := Tryz.isAgg161
  z77 := Tryz.sizeOf161
  v77 := Tryz.zeroValue161 }
end Go.Proofs
/- What Clone of package terms makes: the term in new memory. -/
namespace Go.Proofs.YtppgmepmegelbaaGreatDoor
open Go.RowKit Go.Deep

def CloneOk (k : Nat) : Prop := ∀ (x : ByteArray × Int) (l : Fo) (a : Option Addr) (c : Nat) (w : World), nodesF l ≤ k → TmAt w x a c l →
  Calls Tryz.prog 21 #[.agg #[.string x.1, .int .i64 x.2, .slice a (lenF l) c]] w fun e w' => ∃ a' c', e = .returned (.agg #[.string x.1, .int .i64 x.2, .slice a' (lenF l) c']) ∧ SepTm w' (fun k => w.heap.size ≤ k) x a' c' l ∧ Below w.heap.size w w' ∧ (lenF l = 0 → a' = none ∧ c' = 0)

/-- A fresh row, some of whose places are filled. -/
structure Fill (w : World) (n : Nat) (W : World) (ks : List Kv) : Prop where
  low : Below w.heap.size w W
  row : ∃ cur, W.heap[w.heap.size]? = some (Obj.cells cur 28 (0, 0)) ∧ cur.size = n * 3 ∧ ∀ (i : Nat) (u : Value), (kvCells ks)[i]? = some u → cur[i]? = some u
  own : SepL W ks (fun q => w.heap.size < q ∧ q < W.heap.size)
theorem Fill.cell {w : World} {n : Nat} {W : World} {ks : List Kv} (h : Fill w n W ks) {i : Nat} (hi : i < n * 3) : ∃ v, W.cell? ⟨w.heap.size, i, none⟩ = some v := by
  obtain ⟨cur, h1, h2, _⟩ := h.row
  exact ⟨cur[i]'(by omega), by rw [cell_of_row W w.heap.size i cur 28 (0, 0) h1]; simp [show i < cur.size by omega]⟩
theorem Fill.frozen {w : World} {n : Nat} {W : World} {ks : List Kv} (h : Fill w n W ks) (i : Nat) : W.frozen? ⟨w.heap.size, i, none⟩ = false := by
  obtain ⟨cur, h1, _⟩ := h.row
  simp [World.frozen?, h1]
/-- What the callee has made is stored at its place. -/
theorem Fill.step {w wr w1 : World} {n : Nat} {ks : List Kv} {kv : Kv} (h : Fill w n wr ks) (hb : Below wr.heap.size wr w1) (hk : SepTm w1 (fun q => wr.heap.size ≤ q) kv.x kv.a kv.c kv.l) (hlt : ks.length < n) :
    Fill w n (((w1.setCell ⟨w.heap.size, ks.length * 3, none⟩ (.string kv.x.1)).setCell ⟨w.heap.size, ks.length * 3 + 1, none⟩ (.int .i64 kv.x.2)).setCell ⟨w.heap.size, ks.length * 3 + 2, none⟩ (.slice kv.a (lenF kv.l) kv.c)) (ks ++ [kv]) := by
  obtain ⟨cur, h1, h2, h3⟩ := h.row
  have hglt : w.heap.size < wr.heap.size := (Array.getElem?_eq_some_iff.1 h1).1
  have h1' : w1.heap[w.heap.size]? = some (Obj.cells cur 28 (0, 0)) := (hb.block _ hglt).trans h1
  have far : ∀ q, w.heap.size < q → (((w1.setCell ⟨w.heap.size, ks.length * 3, none⟩ (.string kv.x.1)).setCell ⟨w.heap.size, ks.length * 3 + 1, none⟩ (.int .i64 kv.x.2)).setCell ⟨w.heap.size, ks.length * 3 + 2, none⟩ (.slice kv.a (lenF kv.l) kv.c)).heap[q]? = w1.heap[q]? := fun q hq => by
    rw [Below.heap_setCell _ _ _ q (by show q ≠ w.heap.size; omega), Below.heap_setCell _ _ _ q (by show q ≠ w.heap.size; omega), Below.heap_setCell _ _ _ q (by show q ≠ w.heap.size; omega)]
  refine ⟨?_, ⟨_, block_set (block_set (block_set h1' _) _) _, by simp [h2], ?_⟩, ?_⟩
  · exact (((h.low.trans (hb.mono h.low.size)).setCell (p := ⟨w.heap.size, ks.length * 3, none⟩) (Nat.le_refl _) _).setCell (p := ⟨w.heap.size, ks.length * 3 + 1, none⟩) (Nat.le_refl _) _).setCell (p := ⟨w.heap.size, ks.length * 3 + 2, none⟩) (Nat.le_refl _) _
  · intro i u hu
    rw [kvCells_snoc] at hu
    have hl := kvCells_len ks
    have hkl : kv.cells.length = 3 := rfl
    have hi : i < ks.length * 3 + 3 := by
      rcases Nat.lt_or_ge i (ks.length * 3 + 3) with h' | h'
      · exact h'
      · rw [List.getElem?_eq_none (by rw [List.length_append]; omega)] at hu; cases hu
    simp only [Array.getElem?_setIfInBounds, Array.size_setIfInBounds]
    by_cases hc : i < ks.length * 3
    · rw [List.getElem?_append_left (by omega)] at hu
      rw [if_neg (by omega), if_neg (by omega), if_neg (by omega)]
      exact h3 i u hu
    · rw [List.getElem?_append_right (by omega), hl] at hu
      have hcase : i = ks.length * 3 ∨ i = ks.length * 3 + 1 ∨ i = ks.length * 3 + 2 := by omega
      rcases hcase with e | e | e
      · subst e
        rw [if_neg (by omega), if_neg (by omega), if_pos rfl, if_pos (by omega)]
        simpa [Kv.cells] using hu
      · subst e
        rw [if_neg (by omega), if_pos rfl, if_pos (by omega)]
        rw [show ks.length * 3 + 1 - ks.length * 3 = 1 by omega] at hu
        simpa [Kv.cells] using hu
      · subst e
        rw [if_pos rfl, if_pos (by omega)]
        rw [show ks.length * 3 + 2 - ks.length * 3 = 2 by omega] at hu
        simpa [Kv.cells] using hu
  · have h5 : SepL w1 ks (fun q => w.heap.size < q ∧ q < wr.heap.size) := h.own.keep (fun q hq hlt => hb.block q hlt)
    have h6 := SepL.snoc hk.within (fun q hq => by intro h'; have := hq.2; have := h'.1; omega) h5
    have hsz : (((w1.setCell ⟨w.heap.size, ks.length * 3, none⟩ (.string kv.x.1)).setCell ⟨w.heap.size, ks.length * 3 + 1, none⟩ (.int .i64 kv.x.2)).setCell ⟨w.heap.size, ks.length * 3 + 2, none⟩ (.slice kv.a (lenF kv.l) kv.c)).heap.size = w1.heap.size := by simp
    rw [hsz]
    have hbs := hb.size
    refine (h6.keep (fun q hq _ => far q ?_)).mono (fun q hq => ?_)
    · rcases hq with hq | hq
      · exact hq.1
      · have := hq.1; omega
    · rcases hq with hq | hq
      · exact ⟨hq.1, by omega⟩
      · exact ⟨by have := hq.1; omega, hq.2⟩
theorem Fill.done {w W : World} {x : ByteArray × Int} {l : Fo} {ks : List Kv} (h : Fill w (lenF l) W ks) (hks : ks.map (fun k => (k.x, k.l)) = kidsL l) (hx : x.1.size ≤ maxLen) (hn : lenF l ≤ maxLen) (hf : lenF l * 48 ≤ 140737488351232) :
    SepTm W (fun q => w.heap.size ≤ q) x (some ⟨w.heap.size, 0, none⟩) (lenF l) l := by
  obtain ⟨cur, h1, h2, h3⟩ := h.row
  refine ⟨⟨hx, Nat.le_refl _, hn, hf⟩, .inr ⟨w.heap.size, cur, rfl, Nat.le_refl _, h1, ?_⟩⟩
  refine sepKids_of l ks _ 0 hks (fun j u hu => ?_) (h.own.mono (fun q hq => ⟨by have := hq.1; omega, by have := hq.1; omega⟩))
  rw [Nat.zero_add, cell_of_row W w.heap.size j cur 28 (0, 0) h1]
  exact h3 j u hu

set_option maxRecDepth 100000 in
set_option maxHeartbeats 2000000 in
theorem cloneList_any (k : Nat) (ih : ∀ j, j < k → CloneOk j) (x : ByteArray × Int) (l : Fo) (a : Option Addr) (c : Nat) (w : World) (hk : nodesF l ≤ k) (hT : TmAt w x a c l) :
    Calls Tryz.prog 46 #[.slice a (lenF l) c] w fun e w' => ∃ a' c', e = .returned (.slice a' (lenF l) c') ∧ SepTm w' (fun k => w.heap.size ≤ k) x a' c' l ∧ Below w.heap.size w w' ∧ (lenF l = 0 → a' = none ∧ c' = 0) := by
  obtain ⟨i0, hi, hz0, hz1, hz2⟩ := info_parts Tryz.info28
  have HT : Hid (TmAt w x a c l) := hT
  have IH : Hid (∀ j, j < k → CloneOk j) := ih
  have hmax : maxLen = 9223372036854775807 := rfl
  have hn1 := hT.sizes.len
  have hn2 := hT.sizes.cap
  have hfew := hT.sizes.few
  clear hT ih
  by_cases h0 : lenF l = 0
  · have hl := len_nil h0
    subst hl
    go_enter Tryz.func46, Tryz.ntmps46
    go_wp2
    go_ret
    exact ⟨none, 0, rfl, ⟨⟨HT.out.sizes.name, by simp [lenF], by simp, by simp [lenF]⟩, .inl rfl⟩, Below.refl _ _, fun _ => ⟨rfl, rfl⟩⟩
  · obtain ⟨bb, oo, rfl, hkk⟩ := HT.out.args.get (by omega)
    have HKK : Hid (KidsAt w l bb oo) := hkk
    clear hkk
    have hne : ((lenF l : Int) == 0) = false := by simp; omega
    go_enter Tryz.func46, Tryz.ntmps46
    go_wp2_with (at_make; refine wpList_make_full _ rfl _ _ 26 rfl w.heap.size 28 i0 (.agg #[.string ⟨#[]⟩, .int .i64 0, .slice none 0 0]) 3 Tryz.underlying26 hi hz0 hz1 .i64 .i64 _ _ (lenF l) rfl rfl rfl rfl (by rw [hz2]; omega) (by omega) (Nat.le_refl _) ?_; intro w0 hown0 hgrow0)
    have F0 : Fill w (lenF l) w0 [] := by
      refine ⟨(Below.refl _ _).grown hgrow0 (Nat.le_refl _) (fun k e => by cases e), ?_, trivial⟩
      rcases hown0.2 with ⟨hv, _⟩ | ⟨g', cap', cur, hv, _, hh, _, _, hcs, _⟩
      · cases hv
      · cases hv
        exact ⟨cur, hh, hcs, fun i u hu => by simp [kvCells] at hu⟩
    clear hown0 hgrow0
    go_loopw [4, 5, 14] (fun _ _ i wr => ∃ (j : Nat) (ks : List Kv), j ≤ lenF l ∧ i = .int .i64 j ∧ ks.length = j ∧ Fill w (lenF l) wr ks ∧ ks.map (fun k => (k.x, k.l)) = (kidsL l).take j) (fun _ _ i _ => lenF l - (intOf i).toNat)
    case atStart => exact ⟨0, [], Nat.zero_le _, rfl, rfl, F0, by simp⟩
    case round =>
      obtain ⟨j, ks, hj, rfl, hkl, hF, hks⟩ := hrel
      have FR : Hid (Fill w (lenF l) wr ks) := hF
      have HKS : Hid (ks.map (fun k => (k.x, k.l)) = (kidsL l).take j) := hks
      clear hks F0
      by_cases hlt : j < lenF l
      · obtain ⟨y, a1, c1, l1, kd⟩ := HKK.out.kid (k := j) hlt
        have kd' := kd.below hF.low
        have p0 := kd'.name; have p1 := kd'.sym; have p2 := kd'.list
        have hb1 : Below wr.heap.size wr (wr.alloc (.cells #[.string y.1, .int .i64 y.2, .slice a1 (lenF l1) c1] 28)) := (Below.refl _ _).alloc (Nat.le_refl _) _
        have hC := IH.out (nodesF l1) (by have := kd.less; omega) y l1 a1 c1 _ (Nat.le_refl _) (kd'.at_.below hb1)
        have KD : Hid (Kid w l bb oo j y a1 c1 l1) := kd
        have HB1 : Hid (Below wr.heap.size wr (wr.alloc (.cells #[.string y.1, .int .i64 y.2, .slice a1 (lenF l1) c1] 28))) := hb1
        have hgl : w.heap.size < wr.heap.size := by obtain ⟨cur, h1, _⟩ := hF.row; exact (Array.getElem?_eq_some_iff.1 h1).1
        clear kd kd' hb1 hF
        go_wp2_with fail
        refine hC.mono ?_
        rintro e w2 ⟨a', c', rfl, ho2, hb2, hz2⟩
        clear hz2
        have HW2 : Hid (Below wr.heap.size wr w2) := HB1.out.trans (hb2.mono HB1.out.size)
        have HO2 : Hid (SepTm w2 (fun q => wr.heap.size ≤ q) y a' c' l1) := ho2.mono (fun q hq => by have := HB1.out.size; simp at hq; omega)
        have F2 : Fill w (lenF l) w2 ks := by
          obtain ⟨cur, h1, h2, h3⟩ := FR.out.row
          exact ⟨FR.out.low.trans (HW2.out.mono FR.out.low.size), ⟨cur, (HW2.out.block _ hgl).trans h1, h2, h3⟩, (FR.out.own.keep (fun q hq hlt => HW2.out.block q hlt)).mono (fun q hq => ⟨hq.1, Nat.lt_of_lt_of_le hq.2 HW2.out.size⟩)⟩
        obtain ⟨u0, v0⟩ := F2.cell (i := j * 3) (by omega)
        obtain ⟨u1, v1⟩ := F2.cell (i := j * 3 + 1) (by omega)
        obtain ⟨u2, v2⟩ := F2.cell (i := j * 3 + 2) (by omega)
        have f0 := F2.frozen (j * 3)
        have f1 := F2.frozen (j * 3 + 1)
        have f2 := F2.frozen (j * 3 + 2)
        clear hC ho2 hb2 F2 p0 p1 p2
        go_wp2
        go_roundw
        case rel =>
          obtain ⟨B1, O1, sp⟩ := KD.out.split
          have hst := FR.out.step (kv := ⟨y, l1, a', c'⟩) HW2.out HO2.out (by omega)
          rw [hkl] at hst
          exact ⟨j + 1, ks ++ [⟨y, l1, a', c'⟩], by omega, by go_num, by simp [hkl], hst, by rw [kids_take sp, ← HKS.out]; simp⟩
        case measure => simp [intOf]; omega
      · have e1 : j = lenF l := by omega
        go_wp2
        go_ret
        refine ⟨_, lenF l, rfl, FR.out.done (by rw [HKS.out, e1, ← kids_len, List.take_length]) HT.out.sizes.name (by omega) hfew, FR.out.low, fun e => absurd e h0⟩

set_option maxRecDepth 100000 in
set_option maxHeartbeats 2000000 in
theorem clone_all : ∀ k, CloneOk k := by
  intro k
  induction k using Nat.strongRecOn with
  | _ k ih =>
    intro x l a c w hk hT
    have HT : Hid (TmAt w x a c l) := hT
    obtain ⟨W0, hW0⟩ : ∃ W0, (w.alloc (.cells #[.string x.1, .int .i64 x.2, .slice a (lenF l) c] 28)).alloc (.cells #[.string ⟨#[]⟩, .int .i64 0, .slice none 0 0] 28) = W0 := ⟨_, rfl⟩
    have hb0 : Below w.heap.size w W0 := by rw [← hW0]; exact ((Below.refl _ w).alloc (Nat.le_refl _) _).alloc (by simp) _
    have b1 : XBox W0 w.heap.size x (.slice a (lenF l) c) := by rw [← hW0]; exact (Below.heap_alloc _ _ _ (by simp)).trans (World.alloc_heap_new w _)
    have b2 : XBox W0 (w.heap.size + 1) (⟨#[]⟩, 0) (.slice none 0 0) := by
      have := World.alloc_heap_new (w.alloc (.cells #[.string x.1, .int .i64 x.2, .slice a (lenF l) c] 28)) (.cells #[.string ⟨#[]⟩, .int .i64 0, .slice none 0 0] 28)
      rw [World.size_alloc] at this
      rw [← hW0]; exact this
    have hsz : W0.heap.size = w.heap.size + 2 := by rw [← hW0]; simp
    have hC := cloneList_any k ih x l a c W0 hk (hT.below hb0)
    clear hT ih
    have z2 := b1.c2
    go_enter Tryz.func21, Tryz.ntmps21
    go_wp2_with fail
    clear hW0 z2
    refine hC.mono ?_
    rintro e w2 ⟨a', c', rfl, ho2, hb2, hzz⟩
    have HZ : Hid (lenF l = 0 → a' = none ∧ c' = 0) := hzz
    clear hzz
    have B1 : XBox w2 w.heap.size x (.slice a (lenF l) c) := b1.below hb2
    have B2 : XBox w2 (w.heap.size + 1) (⟨#[]⟩, 0) (.slice none 0 0) := b2.below hb2
    have c2 := B1.c2
    have f2 := B1.f (k := 2)
    have X1 := B1.set (.slice a' (lenF l) c')
    have x0 := X1.c0; have x1 := X1.c1; have x2 := X1.c2
    have R1 := B2.other (p := ⟨w.heap.size, 2, none⟩) (by show w.heap.size + 1 ≠ w.heap.size; omega) (.slice a' (lenF l) c')
    have r0 := R1.c0; have r1 := R1.c1; have r2 := R1.c2
    have g0 := R1.f (k := 0); have g1 := R1.f (k := 1); have g2 := R1.f (k := 2)
    have HR1 : Hid (XBox (w2.setCell ⟨w.heap.size, 2, none⟩ (.slice a' (lenF l) c')) (w.heap.size + 1) (⟨#[]⟩, 0) (.slice none 0 0)) := R1
    have HO2 : Hid (SepTm w2 (fun k => W0.heap.size ≤ k) x a' c' l) := ho2
    have HB2 : Hid (Below w.heap.size w w2) := hb0.trans (hb2.mono hb0.size)
    have HSZ : Hid (W0.heap.size = w.heap.size + 2) := hsz
    clear hC ho2 hb2 B1 B2 b1 b2 X1 R1 hb0 hsz
    go_wp2
    refine bodyPost_ret (results_cell_row rfl _ _ (w.heap.size + 1) 28 #[.string x.1, .int .i64 x.2, .slice a' (lenF l) c'] (0, 0) _ rfl (HR1.out.all (x := x) _) Tryz.underlying28 rfl Tryz.size28) rfl ?_
    refine ⟨a', c', rfl, ?_, ?_, HZ.out⟩
    · refine (HO2.out.keep (fun q hq _ => ?_)).mono (fun q hq => by have := HSZ.out; omega)
      have := HSZ.out
      exact (sets_far (by omega) _ _ _).trans (Below.heap_setCell w2 _ _ q (by show q ≠ w.heap.size; omega))
    · exact sets_below (HB2.out.setCell (p := ⟨w.heap.size, 2, none⟩) (Nat.le_refl _) _) (by omega) _ _ _

theorem clone_any (x : ByteArray × Int) (l : Fo) (a : Option Addr) (c : Nat) (w : World) (hT : TmAt w x a c l) :
    Calls Tryz.prog 21 #[.agg #[.string x.1, .int .i64 x.2, .slice a (lenF l) c]] w fun e w' => ∃ a' c', e = .returned (.agg #[.string x.1, .int .i64 x.2, .slice a' (lenF l) c']) ∧ SepTm w' (fun k => w.heap.size ≤ k) x a' c' l ∧ Below w.heap.size w w' ∧ (lenF l = 0 → a' = none ∧ c' = 0) :=
  clone_all _ x l a c w (Nat.le_refl _) hT
end Go.Proofs.YtppgmepmegelbaaGreatDoor
/- Lists of terms in memory no two of which share a block; terms whose own list may still be written. -/
namespace Go.Proofs.YtppgmepmegelbaaGreatDoor
open Go.RowKit Go.Deep

abbrev Bl := Nat → Prop
/-- Of these terms each has what E says, with blocks of its own among A. -/
def GL (E : World → Bl → Kv → Prop) (w : World) : List Kv → Bl → Prop
  | [], _ => True
  | k :: r, A => ∃ A1 A2 : Bl, (∀ q, A1 q → A q) ∧ (∀ q, A2 q → A q ∧ ¬ A1 q) ∧ E w A1 k ∧ GL E w r A2
structure Elem (E : World → Bl → Kv → Prop) : Prop where
  mono : ∀ {w : World} {A A' : Bl} {k : Kv}, (∀ q, A q → A' q) → E w A k → E w A' k
  keep : ∀ {w w' : World} {A : Bl} {k : Kv}, (∀ q, A q → q < w.heap.size → w'.heap[q]? = w.heap[q]?) → E w A k → E w' A k
  within : ∀ {w : World} {A : Bl} {k : Kv}, E w A k → E w (fun q => A q ∧ q < w.heap.size) k
variable {E : World → Bl → Kv → Prop}
theorem GL.mono {w : World} : ∀ {ks : List Kv} {A A' : Bl}, (∀ k, A k → A' k) → GL E w ks A → GL E w ks A'
  | [], _, _, _, _ => trivial
  | _ :: _, _, _, hA, ⟨A1, A2, h1, h2, h3, h4⟩ => ⟨A1, A2, fun k hk => hA k (h1 k hk), fun k hk => ⟨hA k (h2 k hk).1, (h2 k hk).2⟩, h3, h4⟩
theorem GL.keep (hE : Elem E) {w w' : World} : ∀ {ks : List Kv} {A : Bl}, (∀ k, A k → k < w.heap.size → w'.heap[k]? = w.heap[k]?) → GL E w ks A → GL E w' ks A
  | [], _, _, _ => trivial
  | _ :: _, _, hp, ⟨A1, A2, h1, h2, h3, h4⟩ => ⟨A1, A2, h1, h2, hE.keep (fun k hk hlt => hp k (h1 k hk) hlt) h3, GL.keep hE (fun k hk hlt => hp k (h2 k hk).1 hlt) h4⟩
theorem GL.within (hE : Elem E) {w : World} : ∀ {ks : List Kv} {A : Bl}, GL E w ks A → GL E w ks (fun q => A q ∧ q < w.heap.size)
  | [], _, _ => trivial
  | _ :: _, _, ⟨A1, A2, h1, h2, h3, h4⟩ => ⟨fun q => A1 q ∧ q < w.heap.size, fun q => A2 q ∧ q < w.heap.size, fun q hq => ⟨h1 q hq.1, hq.2⟩, fun q hq => ⟨⟨(h2 q hq.1).1, hq.2⟩, fun h => (h2 q hq.1).2 h.1⟩, hE.within h3, GL.within hE h4⟩
theorem GL.weak {E' : World → Bl → Kv → Prop} {w : World} (h : ∀ A k, E w A k → E' w A k) : ∀ {ks : List Kv} {A : Bl}, GL E w ks A → GL E' w ks A
  | [], _, _ => trivial
  | _ :: _, _, ⟨A1, A2, h1, h2, h3, h4⟩ => ⟨A1, A2, h1, h2, h A1 _ h3, GL.weak h h4⟩
theorem GL.perm {w : World} {ks ms : List Kv} (hp : List.Perm ks ms) : ∀ {A : Bl}, GL E w ks A → GL E w ms A := by
  induction hp with
  | nil => exact fun h => h
  | cons k _ ih => exact fun ⟨A1, A2, h1, h2, h3, h4⟩ => ⟨A1, A2, h1, h2, h3, ih h4⟩
  | swap a b l =>
    rintro A ⟨A1, A2, h1, h2, h3, B1, B2, k1, k2, k3, k4⟩
    refine ⟨B1, fun q => A1 q ∨ B2 q, fun q hq => (h2 q (k1 q hq)).1, fun q hq => ?_, k3, A1, B2, fun q hq => .inl hq, fun q hq => ⟨.inr hq, ?_⟩, h3, k4⟩
    · rcases hq with hq | hq
      · exact ⟨h1 q hq, fun hb => (h2 q (k1 q hb)).2 hq⟩
      · exact ⟨(h2 q (k2 q hq).1).1, (k2 q hq).2⟩
    · exact (h2 q (k2 q hq).1).2
  | trans _ _ ih1 ih2 => exact fun h => ih2 (ih1 h)
theorem GL.append {w : World} {B : Bl} {ms : List Kv} (hm : GL E w ms B) : ∀ {ks : List Kv} {A : Bl}, (∀ q, A q → ¬ B q) → GL E w ks A → GL E w (ks ++ ms) (fun q => A q ∨ B q)
  | [], _, _, _ => hm.mono fun _ hq => .inr hq
  | k :: r, A, hd, ⟨A1, A2, h1, h2, h3, h4⟩ => ⟨A1, fun q => A2 q ∨ B q, fun q hq => .inl (h1 q hq), fun q hq => by
      rcases hq with hq | hq
      · exact ⟨.inl (h2 q hq).1, (h2 q hq).2⟩
      · exact ⟨.inr hq, fun h => hd q (h1 q h) hq⟩, h3, GL.append hm (fun q hq => hd q (h2 q hq).1) h4⟩
theorem GL.one {w : World} {k : Kv} {A : Bl} (h : E w A k) : GL E w [k] A := ⟨A, fun _ => False, fun _ hq => hq, fun _ hq => hq.elim, h, trivial⟩
theorem GL.cons {w : World} {k : Kv} {ks : List Kv} {A B : Bl} (h : E w A k) (hk : GL E w ks B) (hd : ∀ q, A q → ¬ B q) : GL E w (k :: ks) (fun q => A q ∨ B q) := GL.append hk hd (GL.one h)
theorem GL.snoc {w : World} {k : Kv} {ks : List Kv} {A B : Bl} (hk : GL E w ks A) (h : E w B k) (hd : ∀ q, A q → ¬ B q) : GL E w (ks ++ [k]) (fun q => A q ∨ B q) := GL.append (GL.one h) hd hk
theorem GL.right {w : World} : ∀ {ks ms : List Kv} {A : Bl}, GL E w (ks ++ ms) A → GL E w ms A
  | [], _, _, h => h
  | _ :: _, _, _, ⟨_, _, _, h2, _, h4⟩ => (GL.right h4).mono fun q hq => (h2 q hq).1
theorem GL.left {w : World} {ks ms : List Kv} {A : Bl} (h : GL E w (ks ++ ms) A) : GL E w ks A := GL.right (h.perm List.perm_append_comm)
theorem GL.mem {w : World} {ks : List Kv} {A : Bl} {k : Kv} (h : GL E w ks A) (hk : k ∈ ks) : ∃ A1 : Bl, (∀ q, A1 q → A q) ∧ E w A1 k := by
  obtain ⟨l1, l2, rfl⟩ := List.append_of_mem hk
  obtain ⟨A1, A2, h1, _, h3, _⟩ := h.right
  exact ⟨A1, h1, h3⟩
theorem GL.filter {w : World} (p : Kv → Bool) : ∀ {ks : List Kv} {A : Bl}, GL E w ks A → GL E w (ks.filter p) A
  | [], _, _ => trivial
  | k :: r, A, ⟨A1, A2, h1, h2, h3, h4⟩ => by
    rw [List.filter_cons]
    have h5 := GL.filter p h4
    split
    · exact ⟨A1, A2, h1, h2, h3, h5⟩
    · exact h5.mono fun q hq => (h2 q hq).1

/-! ### terms, and terms whose own list may be written -/
def SepE (w : World) (A : Bl) (k : Kv) : Prop := SepTm w A k.x k.a k.c k.l
def RowK (w : World) (A : Bl) (k : Kv) : Prop := (k.a = none ∧ k.c = 0 ∧ lenF k.l = 0) ∨ ∃ g cur, k.a = some ⟨g, 0, none⟩ ∧ A g ∧ w.heap[g]? = some (Obj.cells cur 28 (0, 0)) ∧ cur.size = k.c * 3
def LoosE (w : World) (A : Bl) (k : Kv) : Prop := SepE w A k ∧ (noName k.x.1 = true → RowK w A k)
theorem sepE : Elem SepE := ⟨fun h => SepTm.mono h, fun h => SepTm.keep h, SepTm.within⟩
theorem RowK.mono {w : World} {A A' : Bl} {k : Kv} (hA : ∀ q, A q → A' q) (h : RowK w A k) : RowK w A' k := by
  rcases h with h | ⟨g, cur, h1, h2, h3, h4⟩
  · exact .inl h
  · exact .inr ⟨g, cur, h1, hA g h2, h3, h4⟩
theorem RowK.keep {w w' : World} {A : Bl} {k : Kv} (hp : ∀ q, A q → q < w.heap.size → w'.heap[q]? = w.heap[q]?) (h : RowK w A k) : RowK w' A k := by
  rcases h with h | ⟨g, cur, h1, h2, h3, h4⟩
  · exact .inl h
  · exact .inr ⟨g, cur, h1, h2, (hp g h2 (Array.getElem?_eq_some_iff.1 h3).1).trans h3, h4⟩
theorem loosE : Elem LoosE :=
  ⟨fun hA h => ⟨sepE.mono hA h.1, fun e => (h.2 e).mono hA⟩, fun hp h => ⟨sepE.keep hp h.1, fun e => (h.2 e).keep hp⟩, fun h => ⟨sepE.within h.1, fun e => by
    rcases h.2 e with h' | ⟨g, cur, h1, h2, h3, h4⟩
    · exact .inl h'
    · exact .inr ⟨g, cur, h1, ⟨h2, (Array.getElem?_eq_some_iff.1 h3).1⟩, h3, h4⟩⟩⟩
theorem gl_sepL {w : World} : ∀ {ks : List Kv} {A : Bl}, GL SepE w ks A ↔ SepL w ks A
  | [], _ => Iff.rfl
  | k :: r, A => by
    simp only [GL, SepL]
    constructor
    · rintro ⟨A1, A2, h1, h2, h3, h4⟩
      exact ⟨A1, A2, h1, h2, h3, gl_sepL.1 h4⟩
    · rintro ⟨A1, A2, h1, h2, h3, h4⟩
      exact ⟨A1, A2, h1, h2, h3, gl_sepL.2 h4⟩
/-- What lies there, term by term. -/
theorem sepKids_list {w : World} {b : Nat} : ∀ {F : Fo} {A : Bl} {o : Nat}, SepKids w F A b o → ∃ ks : List Kv, ks.map Kv.tn = kidsL F ∧ (∀ j u, (kvCells ks)[j]? = some u → w.cell? ⟨b, o + j, none⟩ = some u) ∧ GL SepE w ks A
  | .nil, A, o, _ => ⟨[], rfl, fun j u hu => by simp [kvCells] at hu, trivial⟩
  | .node _ _ x l r, A, o, ⟨A1, A2, h1, h2, ⟨a, c, c0, c1, c2, hs, hl⟩, hr⟩ => by
    obtain ⟨ks, k1, k2, k3⟩ := sepKids_list hr
    refine ⟨⟨x, l, a, c⟩ :: ks, by simp [kidsL, Kv.tn, k1], fun j u hu => ?_, A1, A2, h1, h2, ⟨hs, hl⟩, k3⟩
    have e : kvCells (⟨x, l, a, c⟩ :: ks) = .string x.1 :: .int .i64 x.2 :: .slice a (lenF l) c :: kvCells ks := rfl
    rw [e] at hu
    match j, hu with
    | 0, hu => cases hu; exact c0
    | 1, hu => cases hu; exact c1
    | 2, hu => cases hu; exact c2
    | j + 3, hu => have := k2 j u (by simpa using hu); rw [show o + (j + 3) = o + 3 + j by omega]; exact this
theorem kvCells_get {ks : List Kv} {j : Nat} (h : j < ks.length * 3) : ∃ u, (kvCells ks)[j]? = some u := ⟨_, List.getElem?_eq_getElem (by rw [kvCells_len]; exact h)⟩
/-- A term whose list may be written: its row, and its terms. -/
theorem LoosE.row {w : World} {A : Bl} {k : Kv} (h : LoosE w A k) (hn : noName k.x.1 = true) : ∃ ks : List Kv, ks.map Kv.tn = kidsL k.l ∧ (∀ B, (∀ q, A q → B ≤ q) → w.ownsRow B 28 3 (.slice k.a (lenF k.l) k.c) (lenF k.l) (kvCells ks)) ∧
    GL SepE w ks (fun q => A q ∧ some q ≠ (Value.slice k.a (lenF k.l) k.c).ownBlock) ∧ ∀ g, (Value.slice k.a (lenF k.l) k.c).ownBlock = some g → A g := by
  obtain ⟨hs, hr⟩ := h
  rcases hr hn with ⟨h1, h2, h3⟩ | ⟨g, cur, h1, h2, h3, h4⟩
  · have e : kidsL k.l = [] := by rw [len_nil h3]; rfl
    refine ⟨[], by rw [e]; rfl, fun B _ => ⟨by simp [kvCells, h3], .inl ⟨by rw [h1, h2, h3], h3⟩⟩, trivial, fun g hg => ?_⟩
    rw [h1] at hg
    cases hg
  · have hcap := hs.sizes.cap
    have hlen := hs.sizes.len
    have main : ∃ ks : List Kv, ks.map Kv.tn = kidsL k.l ∧ (∀ j u, (kvCells ks)[j]? = some u → w.cell? ⟨g, 0 + j, none⟩ = some u) ∧ GL SepE w ks (fun q => A q ∧ q ≠ g) := by
      rcases hs.list with e | ⟨g', cur', e1, e2, e3, e4⟩
      · exact ⟨[], by rw [e]; rfl, fun j u hu => by simp [kvCells] at hu, trivial⟩
      · rw [h1] at e1
        cases e1
        exact sepKids_list e4
    obtain ⟨ks, k1, k2, k3⟩ := main
    have hkl : ks.length = lenF k.l := by have := congrArg List.length k1; rwa [List.length_map, kids_len] at this
    refine ⟨ks, k1, fun B hB => ⟨by rw [kvCells_len, hkl], .inr ⟨g, k.c, cur, by rw [h1], hB g h2, h3, hlen, hcap, h4, ?_⟩⟩, k3.mono (fun q hq => ⟨hq.1, by rw [h1]; intro e; cases e; exact hq.2 rfl⟩), fun g' hg' => ?_⟩
    · apply List.ext_getElem?
      intro j
      by_cases hj : j < lenF k.l * 3
      · obtain ⟨u, hu⟩ := kvCells_get (ks := ks) (j := j) (by rw [hkl]; exact hj)
        have hc := k2 j u hu
        rw [Nat.zero_add, cell_of_row w g j cur 28 (0, 0) h3] at hc
        rw [List.getElem?_take_of_lt hj, hu, ← hc]
        simp
      · rw [List.getElem?_eq_none (by rw [List.length_take]; omega), List.getElem?_eq_none (by rw [kvCells_len, hkl]; omega)]
    · rw [h1] at hg'
      cases hg'
      exact h2
/-- And back: a row that may be written, and terms beside it. -/
theorem loosE_of {w : World} {B : Nat} {A : Bl} {x : ByteArray × Int} {v : Value} {ks : List Kv} (hx : x.1.size ≤ maxLen) (hown : w.ownsRow B 28 3 v ks.length (kvCells ks)) (hg : ∀ g, v.ownBlock = some g → A g) (hks : GL SepE w ks (fun q => A q ∧ some q ≠ v.ownBlock)) (hfew : ks.length * 48 ≤ 140737488351232) :
    ∃ a c, v = .slice a ks.length c ∧ LoosE w A ⟨x, mkF (ks.map Kv.tn), a, c⟩ := by
  have hlm : lenF (mkF (ks.map Kv.tn)) = ks.length := by rw [len_mk, List.length_map]
  rcases hown.2 with ⟨h1, h2⟩ | ⟨g, cap, cur, h1, h2, h3, h4, h5, h6, h7⟩
  · have e : ks = [] := List.length_eq_zero_iff.1 h2
    subst e
    exact ⟨none, 0, h1, ⟨⟨hx, Nat.le_refl _, Nat.zero_le _, by simp [mkF, lenF]⟩, .inl rfl⟩, fun _ => .inl ⟨rfl, rfl, rfl⟩⟩
  · refine ⟨some ⟨g, 0, none⟩, cap, h1, ⟨⟨hx, by rw [hlm]; exact h4, h5, by rw [hlm]; exact hfew⟩, .inr ⟨g, cur, rfl, hg g (by rw [h1]; rfl), h3, ?_⟩⟩, fun _ => .inr ⟨g, cur, rfl, hg g (by rw [h1]; rfl), h3, h6⟩⟩
    refine sepKids_of _ ks _ 0 (by rw [kids_mk]; rfl) (fun j u hu => ?_) (gl_sepL.1 (hks.mono fun q hq => ⟨hq.1, fun e => hq.2 (by rw [e, h1]; rfl)⟩))
    rw [h1] at hown
    exact owns_at hown j u hu
theorem SepE.own {w : World} {A : Bl} {k : Kv} (h : SepE w A k) : OwnTm false A w k.x k.a k.c k.l := by
  have go : ∀ (F : Fo) (A : Bl) (b o : Nat), SepKids w F A b o → OwnKids false A w F b o := by
    intro F
    induction F with
    | nil => intro _ _ _ _; trivial
    | node _ _ x l r ihl ihr =>
      rintro A b o ⟨A1, A2, h1, h2, ⟨a, c, c0, c1, c2, hs, hl⟩, hr⟩
      refine ⟨⟨a, c, c0, c1, c2, hs, ?_⟩, (ihr A2 b (o + 3) hr).mono (fun q _ hq => (h2 q hq).1)⟩
      rcases hl with e | ⟨g, cur, e1, e2, e3, e4⟩
      · exact .inl ⟨e, rfl⟩
      · exact .inr ⟨g, cur, e1, h1 g e2, e3, (by intro e; cases e), (ihl _ g 0 e4).mono (fun q _ hq => h1 q hq.1)⟩
  refine ⟨h.sizes, ?_⟩
  rcases h.list with e | ⟨g, cur, e1, e2, e3, e4⟩
  · exact .inl ⟨e, rfl⟩
  · exact .inr ⟨g, cur, e1, e2, e3, (by intro e; cases e), (go _ _ g 0 e4).mono (fun q _ hq => hq.1)⟩
end Go.Proofs.YtppgmepmegelbaaGreatDoor
/- What slices.SortFunc makes of a row of terms by Compare of package terms: the row in order, all else as it was. -/
namespace Go.Proofs.YtppgmepmegelbaaGreatDoor
open Go.RowKit Go.Deep

/-- Only blocks of A have turned. -/
structure Turned (A : Bl) (w w' : World) : Prop where
  os : w'.os = w.os
  tape : w'.tape = w.tape
  output : w'.output = w.output
  size : w.heap.size ≤ w'.heap.size
  block : ∀ k, k < w.heap.size → ¬ A k → w'.heap[k]? = w.heap[k]?
theorem Turned.refl (A : Bl) (w : World) : Turned A w w := ⟨rfl, rfl, rfl, Nat.le_refl _, fun _ _ _ => rfl⟩
theorem Turned.trans {A : Bl} {a b c : World} (h : Turned A a b) (k : Turned A b c) : Turned A a c :=
  ⟨k.os.trans h.os, k.tape.trans h.tape, k.output.trans h.output, Nat.le_trans h.size k.size, fun q hq hA => (k.block q (Nat.lt_of_lt_of_le hq h.size) hA).trans (h.block q hq hA)⟩
theorem Turned.mono {A A' : Bl} {w w' : World} (h : Turned A w w') (hA : ∀ q, q < w.heap.size → A q → A' q) : Turned A' w w' := ⟨h.os, h.tape, h.output, h.size, fun q hq hn => h.block q hq fun ha => hn (hA q hq ha)⟩
theorem Turned.of_below {w w' : World} (h : Below w.heap.size w w') (A : Bl) : Turned A w w' := ⟨h.os, h.tape, h.output, h.size, fun q hq _ => h.block q hq⟩
theorem Turned.below {A : Bl} {B : Nat} {w w' : World} (h : Turned A w w') (hA : ∀ q, A q → B ≤ q) (hB : B ≤ w.heap.size) : Below B w w' := ⟨h.os, h.tape, h.output, h.size, fun q hq => h.block q (by omega) (fun ha => by have := hA q ha; omega)⟩

theorem kvCells_nth : ∀ (ks : List Kv) (i c : Nat) {k : Kv}, ks[i]? = some k → c < 3 → (kvCells ks)[i * 3 + c]? = k.cells[c]?
  | [], _, _, _, h, _ => by simp at h
  | k :: r, 0, c, k', h, hc => by
    simp only [List.getElem?_cons_zero, Option.some.injEq] at h
    subst h
    show (k.cells ++ kvCells r)[0 * 3 + c]? = _
    rw [Nat.zero_mul, Nat.zero_add, List.getElem?_append_left (by simpa [Kv.cells] using hc)]
  | k :: r, i + 1, c, k', h, hc => by
    simp only [List.getElem?_cons_succ] at h
    show (k.cells ++ kvCells r)[(i + 1) * 3 + c]? = _
    rw [List.getElem?_append_right (by simp [Kv.cells]; omega), show (i + 1) * 3 + c - k.cells.length = i * 3 + c by simp [Kv.cells]; omega]
    exact kvCells_nth r i c h hc

abbrev Gd (w : World) (g : Nat) (k : Kv) : Prop := ∃ A : Bl, SepE w A k ∧ ¬ A g
def leafK : Kv := ⟨(⟨#[]⟩, 0), .nil, none, 0⟩
theorem gd_leaf (w : World) (g : Nat) : Gd w g leafK := ⟨fun _ => False, ⟨⟨by decide, Nat.le_refl _, Nat.zero_le _, by simp [leafK, lenF]⟩, .inl rfl⟩, fun h => h⟩
abbrev GdK (w : World) (g : Nat) := { k : Kv // Gd w g k }
def encG {w : World} {g : Nat} (k : GdK w g) : List Value := k.1.cells
def cmpG {w : World} {g : Nat} (x y : GdK w g) : Int := cmpN x.1.tn y.1.tn
theorem swoG {w : World} {g : Nat} : Sort.SWO (ltOf (cmpG (w := w) (g := g))) where
  irrefl x := by
    have := cmpN_anti x.1.tn x.1.tn
    unfold ltOf cmpG
    rw [decide_eq_false_iff_not]
    omega
  trans x y z h1 h2 := by
    unfold ltOf cmpG at *
    rw [decide_eq_true_iff] at *
    exact (cmpN_cons x.1.tn y.1.tn z.1.tn).lt h1 h2
  ntrans x y z h1 h2 := by
    unfold ltOf cmpG at *
    rw [decide_eq_false_iff_not] at *
    have a1 := cmpN_anti x.1.tn y.1.tn
    have a2 := cmpN_anti y.1.tn z.1.tn
    have a3 := cmpN_anti x.1.tn z.1.tn
    have : leN z.1.tn x.1.tn := leN_trans (y := y.1.tn) (by unfold leN; omega) (by unfold leN; omega)
    unfold leN at this
    omega
theorem heap_sortK {α : Type} [Inhabited α] (enc : α → List Value) (w : World) (g m : Nat) (d : Array α) (os : Array Obj) {q : Nat} (hq : q < w.heap.size) :
    (sortWorldK enc 3 w g 0 m d os).heap[q]? = if q = g then (w.heap[q]?).map (Sort.onCells (Sort.putCells id 0 (Sort.flatK enc 3 d))) else w.heap[q]? := by
  unfold sortWorldK
  rw [Sort.heap_grow_old _ _ (by unfold Sort.putRowK; rw [Sort.size_putRow]; exact hq)]
  unfold Sort.putRowK Sort.putRow Sort.mapBlock
  simp only [Array.getElem?_modify, Sort.ahead]
  by_cases e : q = g
  · subst e; simp
  · rw [if_neg e, if_neg (fun h => e h.symm)]

set_option maxRecDepth 100000 in
theorem cmp_lays (w : World) (g n : Nat) [Inhabited (GdK w g)] : CmpLays Tryz.prog 67 #[] (encG (w := w) (g := g)) 3 cmpG g 0 n w := by
  intro m os dk _ x y
  have tm : ∀ k : GdK w g, TmAt (sortWorldK (encG (w := w) (g := g)) 3 w g 0 m dk os) k.1.x k.1.a k.1.c k.1.l := fun k => by
    obtain ⟨k, A, hA, hg⟩ := k
    refine SepTm.tm (SepTm.keep (A := A) (fun q hq hlt => ?_) hA)
    rw [heap_sortK _ _ _ _ _ _ hlt, if_neg (by intro e; subst e; exact hg hq)]
  refine (compare_all _ x.1.x y.1.x x.1.a y.1.a x.1.c y.1.c x.1.l y.1.l _ (Nat.le_refl _) (tm x) (tm y)).mono ?_
  rintro e w' ⟨rfl, os', rfl⟩
  exact ⟨rfl, 0, os', rfl⟩

theorem Tryz.enter50 : ∀ args w, (callFunc 67 args).run Tryz.prog w = .ok (.enter 67 args) w := enters_of Tryz.func67 (by kernel_rfl) rfl

set_option maxRecDepth 100000 in
theorem sort_terms (w : World) (g cap : Nat) (cur : Array Value) (ks : List Kv) (A : Bl) (hg : w.heap[g]? = some (Obj.cells cur 28 (0, 0))) (hc : ∀ (j : Nat) (u : Value), (kvCells ks)[j]? = some u → cur[j]? = some u) (hks : GL SepE w ks A) (hA : ¬ A g) (hn : ks.length < 4611686018427387904) :
    Calls Tryz.prog 66 #[.slice (some ⟨g, 0, none⟩) ks.length cap, .func (.func 67) #[] #[]] w fun e w' => e = .returned (.tuple #[]) ∧ ∃ (ms : List Kv) (cur' : Array Value), List.Perm ms ks ∧ Srt (ms.map Kv.tn) ∧ w'.heap[g]? = some (Obj.cells cur' 28 (0, 0)) ∧ cur'.size = cur.size ∧
      (∀ (j : Nat) (u : Value), (kvCells ms)[j]? = some u → cur'[j]? = some u) ∧ Turned (fun q => q = g) w w' := by
  letI : Inhabited (GdK w g) := ⟨⟨leafK, gd_leaf w g⟩⟩
  have hgd : ∀ k ∈ ks, Gd w g k := fun k hk => by
    obtain ⟨A1, h1, h2⟩ := hks.mem hk
    exact ⟨A1, h2, fun h => hA (h1 g h)⟩
  have hglt : g < w.heap.size := (Array.getElem?_eq_some_iff.1 hg).1
  let d : Array (GdK w g) := (ks.attachWith (Gd w g) hgd).toArray
  have hds : d.size = ks.length := by simp [d]
  have hdl : d.toList.map Subtype.val = ks := by simp [d]
  have cellAt : ∀ (d : Array (GdK w g)) (j : Nat), j < d.size * 3 → (kvCells (d.toList.map Subtype.val))[j]? = some (Sort.flatK encG 3 d)[j]! := fun d j hj => by
    rw [Sort.get_flatK _ _ _ _ hj]
    have hi : j / 3 < d.size := by omega
    have h1 : (d.toList.map Subtype.val)[j / 3]? = some (d[j / 3]!).1 := by
      rw [List.getElem?_map, Array.getElem?_toList, Array.getElem?_eq_getElem hi, getElem!_pos d _ hi]; rfl
    have h2 := kvCells_nth _ (j / 3) (j % 3) h1 (by omega)
    rw [show j / 3 * 3 + j % 3 = j by omega] at h2
    rw [h2]
    have hl : j % 3 < (encG d[j / 3]!).length := by show _ < 3; omega
    rw [getElem!_pos (encG d[j / 3]!) (j % 3) hl]
    exact List.getElem?_eq_getElem hl
  have hH : Sort.HoldsK encG 3 w g 0 d := fun j hj => by
    rw [Sort.size_flatK] at hj
    have h1 := cellAt d j hj
    rw [hdl] at h1
    refine ⟨?_, by simp [World.frozen?, hg]⟩
    rw [Nat.zero_add, cell_of_row w g j cur 28 (0, 0) hg]
    exact hc j _ h1
  have hs := AnyQ.slices_SortFunc Tryz.sortT 3 Tryz.isAgg28 Tryz.sizeOf28 encG (fun _ => rfl) (fun x v hv => kv_one x.1 v hv) cmpG swoG 67 #[] g 0 cap d w Tryz.enter50 (cmp_lays w g d.size) hH hglt (by rw [hds]; exact hn)
  rw [hds] at hs
  refine Calls.mono hs ?_
  rintro e w' ⟨rfl, d', n, os, hp, hso, rfl⟩
  obtain ⟨p1, _, p3⟩ := hp
  have hd's : d'.size = ks.length := p1.trans hds
  have hperm : List.Perm (d'.toList.map Subtype.val) ks := by
    have e1 : (d'.extract 0 ks.length).toList = d'.toList := by rw [← hd's]; simp
    have e2 : (d.extract 0 ks.length).toList = d.toList := by rw [← hds]; simp
    rw [e1, e2] at p3
    have := p3.map Subtype.val
    rwa [hdl] at this
  have hsz : (Sort.putCells id 0 (Sort.flatK encG 3 d') cur).size = cur.size := by simp [Sort.putCells]
  refine ⟨rfl, d'.toList.map Subtype.val, Sort.putCells id 0 (Sort.flatK encG 3 d') cur, hperm, ?_, ?_, hsz, ?_, ?_⟩
  · unfold Srt
    rw [List.pairwise_iff_getElem]
    intro i j hi hj hij
    simp only [List.length_map, Array.length_toList] at hi hj
    have h1 := hso i j (Nat.zero_le _) hij (by omega)
    unfold ltOf cmpG at h1
    rw [decide_eq_false_iff_not, getElem!_pos d' i hi, getElem!_pos d' j hj] at h1
    simp only [List.getElem_map, Array.getElem_toList]
    have := cmpN_anti (d'[i]).1.tn (d'[j]).1.tn
    unfold leN
    omega
  · rw [heap_sortK _ _ _ _ _ _ hglt, if_pos rfl, hg]
    rfl
  · intro j u hu
    have hj : j < d'.size * 3 := by
      rcases Nat.lt_or_ge j (d'.size * 3) with h' | h'
      · exact h'
      · rw [List.getElem?_eq_none (by rw [kvCells_len, List.length_map, Array.length_toList]; exact h')] at hu; cases hu
    have h1 := cellAt d' j hj
    rw [hu] at h1
    have hjc : j < cur.size := by
      obtain ⟨u', hu'⟩ := kvCells_get (ks := ks) (j := j) (by omega)
      have := hc j u' hu'
      exact (Array.getElem?_eq_some_iff.1 this).1
    unfold Sort.putCells
    rw [Array.getElem?_mapIdx, Array.getElem?_eq_getElem hjc, Option.map_some, if_pos ⟨Nat.zero_le _, by rw [Sort.size_flatK]; omega⟩, Nat.sub_zero]
    exact h1.symm
  · refine ⟨rfl, rfl, rfl, ?_, fun q hq hne => ?_⟩
    · unfold sortWorldK Sort.putRowK
      rw [Sort.size_grow, Sort.size_putRow]
      exact Nat.le_add_right _ _
    · rw [heap_sortK _ _ _ _ _ _ hq, if_neg hne]
end Go.Proofs.YtppgmepmegelbaaGreatDoor
/- What settle of package canon makes of a loose form. -/
namespace Go.Proofs.YtppgmepmegelbaaGreatDoor
open Go.RowKit Go.Deep

theorem LoosE.parts {w : World} {A : Bl} {k : Kv} (h : LoosE w A k) (hn : noName k.x.1 = true) : (k.a = none ∧ k.c = 0 ∧ lenF k.l = 0) ∨ ∃ (g : Nat) (cur : Array Value) (ks : List Kv), k.a = some ⟨g, 0, none⟩ ∧ A g ∧ w.heap[g]? = some (Obj.cells cur 28 (0, 0)) ∧ cur.size = k.c * 3 ∧ ks.map Kv.tn = kidsL k.l ∧
    (∀ (j : Nat) (u : Value), (kvCells ks)[j]? = some u → cur[j]? = some u) ∧ GL SepE w ks (fun q => A q ∧ q ≠ g) := by
  obtain ⟨hs, hr⟩ := h
  rcases hr hn with h1 | ⟨g, cur, h1, h2, h3, h4⟩
  · exact .inl h1
  · refine .inr ?_
    rcases hs.list with e | ⟨g', cur', e1, e2, e3, e4⟩
    · exact ⟨g, cur, [], h1, h2, h3, h4, by rw [e]; rfl, fun j u hu => by simp [kvCells] at hu, trivial⟩
    · rw [h1] at e1
      cases e1
      obtain ⟨ks, k1, k2, k3⟩ := sepKids_list e4
      refine ⟨g, cur, ks, h1, h2, h3, h4, k1, fun j u hu => ?_, k3⟩
      have := k2 j u hu
      rwa [Nat.zero_add, cell_of_row w g j cur 28 (0, 0) h3] at this
theorem LoosE.make {w : World} {A : Bl} {x : ByteArray × Int} {g c : Nat} {cur : Array Value} {ks : List Kv} (hx : x.1.size ≤ maxLen) (hg : A g) (hh : w.heap[g]? = some (Obj.cells cur 28 (0, 0))) (hc : cur.size = c * 3) (hcap : c ≤ maxLen) (hlen : ks.length ≤ c) (hfew : ks.length * 48 ≤ 140737488351232)
    (hcells : ∀ (j : Nat) (u : Value), (kvCells ks)[j]? = some u → cur[j]? = some u) (hks : GL SepE w ks (fun q => A q ∧ q ≠ g)) : LoosE w A ⟨x, mkF (ks.map Kv.tn), some ⟨g, 0, none⟩, c⟩ := by
  have hlm : lenF (mkF (ks.map Kv.tn)) = ks.length := by rw [len_mk, List.length_map]
  refine ⟨⟨⟨hx, by rw [hlm]; exact hlen, hcap, by rw [hlm]; exact hfew⟩, .inr ⟨g, cur, rfl, hg, hh, ?_⟩⟩, fun _ => .inr ⟨g, cur, rfl, hg, hh, hc⟩⟩
  refine sepKids_of _ ks _ 0 (by rw [kids_mk]; rfl) (fun j u hu => ?_) (gl_sepL.1 hks)
  rw [Nat.zero_add, cell_of_row w g j cur 28 (0, 0) hh]
  exact hcells j u hu

theorem sortNil_any (cap : Nat) (w : World) : Calls Tryz.prog 66 #[.slice none 0 cap, .func (.func 67) #[] #[]] w fun e w' => e = .returned (.tuple #[]) ∧ w' = w := AnyF.slices_SortFunc_none Tryz.sortT none cap _ w

set_option maxRecDepth 100000 in
set_option maxHeartbeats 1000000 in
theorem settle_any (S : Option Addr) (n cap : Nat) (l : List Sym) (k : Kv) (A : Bl) (w : World) (hS : SigAt w S n l) (hE : LoosE w A k) :
    Calls Tryz.prog 44 #[.slice S n cap, .agg #[.string k.x.1, .int .i64 k.x.2, .slice k.a (lenF k.l) k.c]] w fun e w' => ∃ F, e = .returned (.agg #[.string k.x.1, .int .i64 k.x.2, .slice k.a (lenF F) k.c]) ∧ lenF F = lenF k.l ∧ SetR (sgOf l) k.tn (k.x, F) ∧ LoosE w' A ⟨k.x, F, k.a, k.c⟩ ∧ Turned A w w' := by
  obtain ⟨⟨nm, s⟩, F, a, c⟩ := k
  have HE : Hid (LoosE w A ⟨(nm, s), F, a, c⟩) := hE
  have HK : Hid (∀ W, Below w.heap.size w W → Calls Tryz.prog 65 #[.slice S n cap, .int .i64 s] W fun e w' => e = .returned (.int .i64 (kindK l s)) ∧ w' = W) := fun W hW => kindAt_any S n cap l s W (hS.below hW)
  have hb2 : Below w.heap.size w ((w.alloc (.cells #[.string nm, .int .i64 s, .slice a (lenF F) c] 28)).alloc (.cells #[.string nm, .int .i64 s, .slice a (lenF F) c] 28)) := ((Below.refl _ w).alloc (Nat.le_refl _) _).alloc (by simp) _
  have HB2 : Hid (Below w.heap.size w ((w.alloc (.cells #[.string nm, .int .i64 s, .slice a (lenF F) c] 28)).alloc (.cells #[.string nm, .int .i64 s, .slice a (lenF F) c] 28))) := hb2
  have HLE : Hid (LoosE ((w.alloc (.cells #[.string nm, .int .i64 s, .slice a (lenF F) c] 28)).alloc (.cells #[.string nm, .int .i64 s, .slice a (lenF F) c] 28)) A ⟨(nm, s), F, a, c⟩) := loosE.keep (fun q _ hq => hb2.block q hq) hE
  have HX : Hid (XBox ((w.alloc (.cells #[.string nm, .int .i64 s, .slice a (lenF F) c] 28)).alloc (.cells #[.string nm, .int .i64 s, .slice a (lenF F) c] 28)) (w.heap.size + 1) (nm, s) (.slice a (lenF F) c)) := by
    have := World.alloc_heap_new (w.alloc (.cells #[.string nm, .int .i64 s, .slice a (lenF F) c] 28)) (.cells #[.string nm, .int .i64 s, .slice a (lenF F) c] 28)
    rw [World.size_alloc] at this
    exact this
  clear hE hS hb2
  cases hn : nm.toList.isEmpty
  · have hj : Hid (jn (sgOf l) ((nm, s), F) = false) := by show _ = _; unfold jn noName; rw [hn]; rfl
    go_enter Tryz.func44, Tryz.ntmps44
    go_wp2
    refine bodyPost_ret (results_cell_row rfl _ _ (w.heap.size + 1) 28 #[.string nm, .int .i64 s, .slice a (lenF F) c] (0, 0) _ rfl HX.out Tryz.underlying28 rfl Tryz.size28) rfl ?_
    exact ⟨F, rfl, rfl, ⟨rfl, by show if jn (sgOf l) ((nm, s), F) = true then _ else _; rw [hj.out]; simp [Kv.tn]⟩, HLE.out, Turned.of_below HB2.out A⟩
  · have hnn : Hid (noName nm = true) := hn
    cases hk : (kindK l s != 1)
    · have hj : Hid (jn (sgOf l) ((nm, s), F) = false) := by
        show _ = _
        have : (sgOf l).joins s = false := (kindK_ok l s).free.1 (by simpa using hk)
        unfold jn
        rw [this]
        simp
      go_enter Tryz.func44, Tryz.ntmps44
      go_wp2_with (go_at_call 65; refine (HK.out _ (((Below.refl _ w).alloc (Nat.le_refl _) _).alloc (by simp) _)).mono ?_; rintro e w2 ⟨rfl, rfl⟩)
      refine bodyPost_ret (results_cell_row rfl _ _ (w.heap.size + 1) 28 #[.string nm, .int .i64 s, .slice a (lenF F) c] (0, 0) _ rfl HX.out Tryz.underlying28 rfl Tryz.size28) rfl ?_
      exact ⟨F, rfl, rfl, ⟨rfl, by show if jn (sgOf l) ((nm, s), F) = true then _ else _; rw [hj.out]; simp [Kv.tn]⟩, HLE.out, Turned.of_below HB2.out A⟩
    · have hj : Hid (jn (sgOf l) ((nm, s), F) = true) := by
        show _ = _
        have : (sgOf l).joins s = true := by
          cases h : (sgOf l).joins s with
          | true => rfl
          | false => have := (kindK_ok l s).free.2 h; simp [this] at hk
        unfold jn
        rw [this, hnn.out]
        rfl
      have HSZ := HE.out.1.sizes
      have HSZ' : Hid (Sizes nm (lenF F) c) := HSZ
      clear HSZ
      rcases HE.out.parts hnn.out with ⟨ha, hc, hl⟩ | ⟨g, cur, ks, ha, hg, hh, hcs, hks, hcells, hgl⟩
      · have ha : a = none := ha
        have hc : c = 0 := hc
        have hl : lenF F = 0 := hl
        have hF := len_nil hl
        subst ha hc hF
        have HN : Hid (∀ W, Calls Tryz.prog 66 #[.slice none 0 0, .func (.func 67) #[] #[]] W fun e w' => e = .returned (.tuple #[]) ∧ w' = W) := fun W => sortNil_any 0 W
        go_enter Tryz.func44, Tryz.ntmps44
        go_wp2_with (first | (go_at_call 65; refine (HK.out _ (((Below.refl _ w).alloc (Nat.le_refl _) _).alloc (by simp) _)).mono ?_; rintro e w2 ⟨rfl, rfl⟩) | (go_at_call 66; refine (HN.out _).mono ?_; rintro e w3 ⟨rfl, rfl⟩))
        refine bodyPost_ret (results_cell_row rfl _ _ (w.heap.size + 1) 28 #[.string nm, .int .i64 s, .slice none 0 0] (0, 0) _ rfl HX.out Tryz.underlying28 rfl Tryz.size28) rfl ?_
        exact ⟨.nil, rfl, rfl, ⟨rfl, by show if jn (sgOf l) ((nm, s), .nil) = true then _ else _; rw [hj.out]; exact ⟨[], rfl, List.Perm.refl _, List.Pairwise.nil⟩⟩, HLE.out, Turned.of_below HB2.out A⟩
      · have ha : a = some ⟨g, 0, none⟩ := ha
        subst ha
        have hkl : ks.length = lenF F := by have := congrArg List.length hks; rwa [List.length_map, kids_len] at this
        have hglt : g < w.heap.size := (Array.getElem?_eq_some_iff.1 hh).1
        obtain ⟨W0, hW0⟩ : ∃ W0, (w.alloc (.cells #[.string nm, .int .i64 s, .slice (some ⟨g, 0, none⟩) (lenF F) c] 28)).alloc (.cells #[.string ⟨#[]⟩, .int .i64 0, .slice none 0 0] 28) = W0 := ⟨_, rfl⟩
        have hb0 : Below w.heap.size w W0 := by rw [← hW0]; exact ((Below.refl _ w).alloc (Nat.le_refl _) _).alloc (by simp) _
        have b1 : XBox W0 w.heap.size (nm, s) (.slice (some ⟨g, 0, none⟩) (lenF F) c) := by rw [← hW0]; exact (Below.heap_alloc _ _ _ (by simp)).trans (World.alloc_heap_new w _)
        have b2 : XBox W0 (w.heap.size + 1) (⟨#[]⟩, 0) (.slice none 0 0) := by
          have := World.alloc_heap_new (w.alloc (.cells #[.string nm, .int .i64 s, .slice (some ⟨g, 0, none⟩) (lenF F) c] 28)) (.cells #[.string ⟨#[]⟩, .int .i64 0, .slice none 0 0] 28)
          rw [World.size_alloc] at this
          rw [← hW0]; exact this
        have hsz : W0.heap.size = w.heap.size + 2 := by rw [← hW0]; simp
        have HSort : Hid (Calls Tryz.prog 66 #[.slice (some ⟨g, 0, none⟩) (lenF F) c, .func (.func 67) #[] #[]] W0 fun e w' => e = .returned (.tuple #[]) ∧ ∃ (ms : List Kv) (cur' : Array Value), List.Perm ms ks ∧ Srt (ms.map Kv.tn) ∧ w'.heap[g]? = some (Obj.cells cur' 28 (0, 0)) ∧ cur'.size = cur.size ∧
            (∀ (j : Nat) (u : Value), (kvCells ms)[j]? = some u → cur'[j]? = some u) ∧ Turned (fun q => q = g) W0 w') := by
          have := sort_terms W0 g c cur ks (fun q => A q ∧ q ≠ g) ((hb0.block g hglt).trans hh) hcells (hgl.keep sepE (fun q _ hq => hb0.block q hq)) (fun h => h.2 rfl) (by have := HSZ'.out.len; have := HSZ'.out.few; omega)
          rwa [hkl] at this
        have HKS : Hid (ks.map Kv.tn = kidsL F) := hks
        have HGL : Hid (GL SepE W0 ks (fun q => (A q ∧ q ≠ g) ∧ q < w.heap.size)) := (hgl.within sepE).keep sepE (fun q _ hq => hb0.block q hq)
        have HG : Hid (A g) := hg
        have HCS : Hid (cur.size = c * 3) := hcs
        have HB0 : Hid (Below w.heap.size w W0) := hb0
        have HW : Hid (W0.heap.size = w.heap.size + 2) := hsz
        have HKL : Hid (ks.length = lenF F) := hkl
        have HGLT : Hid (g < w.heap.size) := hglt
        have z0 := b1.c0; have z1 := b1.c1; have z2 := b1.c2
        have B1 : Hid (XBox W0 w.heap.size (nm, s) (.slice (some ⟨g, 0, none⟩) (lenF F) c)) := b1
        have B2 : Hid (XBox W0 (w.heap.size + 1) (⟨#[]⟩, 0) (.slice none 0 0)) := b2
        clear hks hgl hg hcs hb0 hsz hkl b1 b2 hcells hh HX HLE HB2 hglt
        go_enter Tryz.func44, Tryz.ntmps44
        go_wp2_with (first
          | (go_at_call 65; refine (HK.out _ HB0.out).mono ?_; rintro e w2 ⟨rfl, rfl⟩)
          | (go_at_call 66; clear hW0 z0 z1 z2; refine HSort.out.mono ?_; rintro e w3 ⟨rfl, ms, cur', hp, hsr, hh3, hcs3, hcells3, ht3⟩
             have X1 : XBox w3 w.heap.size (nm, s) (.slice (some ⟨g, 0, none⟩) (lenF F) c) := (ht3.block _ B1.out.lt (by have := HGLT.out; omega)).trans B1.out
             have X2 : XBox w3 (w.heap.size + 1) (⟨#[]⟩, 0) (.slice none 0 0) := (ht3.block _ B2.out.lt (by have := HGLT.out; omega)).trans B2.out
             have y0 := X1.c0; have y1 := X1.c1; have y2 := X1.c2
             have r0 := X2.c0; have r1 := X2.c1; have r2 := X2.c2
             have g0 := X2.f (k := 0); have g1 := X2.f (k := 1); have g2 := X2.f (k := 2)
             have HX2 : Hid (XBox w3 (w.heap.size + 1) (⟨#[]⟩, 0) (.slice none 0 0)) := X2
             have HP : Hid (List.Perm ms ks) := hp
             have HSR : Hid (Srt (ms.map Kv.tn)) := hsr
             have HH3 : Hid (w3.heap[g]? = some (Obj.cells cur' 28 (0, 0))) := hh3
             have HCS3 : Hid (cur'.size = cur.size) := hcs3
             have HCE3 : Hid (∀ (j : Nat) (u : Value), (kvCells ms)[j]? = some u → cur'[j]? = some u) := hcells3
             have HT3 : Hid (Turned (fun q => q = g) _ w3) := ht3
             clear hp hsr hh3 hcs3 hcells3 ht3 X1 X2))
        refine bodyPost_ret (results_cell_row rfl _ _ (w.heap.size + 1) 28 #[.string nm, .int .i64 s, .slice (some ⟨g, 0, none⟩) (lenF F) c] (0, 0) _ rfl (HX2.out.all (x := (nm, s)) _) Tryz.underlying28 rfl Tryz.size28) rfl ?_
        have hml : ms.length = lenF F := HP.out.length_eq.trans HKL.out
        have hlm : lenF (mkF (ms.map Kv.tn)) = lenF F := by rw [len_mk, List.length_map, hml]
        refine ⟨mkF (ms.map Kv.tn), by rw [hlm], hlm, ⟨rfl, ?_⟩, ?_, ?_⟩
        · show if jn (sgOf l) ((nm, s), F) = true then _ else _
          rw [hj.out]
          exact ⟨ms.map Kv.tn, rfl, by show List.Perm (ms.map Kv.tn) (kidsL F); rw [← HKS.out]; exact HP.out.map _, HSR.out⟩
        · have far : ∀ q, q < w.heap.size → (((w3.setCell ⟨w.heap.size + 1, 0, none⟩ (.string nm)).setCell ⟨w.heap.size + 1, 1, none⟩ (.int .i64 s)).setCell ⟨w.heap.size + 1, 2, none⟩ (.slice (some ⟨g, 0, none⟩) (lenF F) c)).heap[q]? = w3.heap[q]? := fun q hq => sets_far (by omega) _ _ _
          have hW := HW.out
          have h3 : GL SepE w3 ms (fun q => (A q ∧ q ≠ g) ∧ q < w.heap.size) := (HGL.out.perm HP.out.symm).keep sepE (fun q hq hlt => HT3.out.block q hlt hq.1.2)
          refine LoosE.make HSZ'.out.name HG.out ((far g HGLT.out).trans HH3.out) (HCS3.out.trans HCS.out) HSZ'.out.cap (by rw [hml]; exact HSZ'.out.len) (by rw [hml]; exact HSZ'.out.few) HCE3.out ?_
          exact (h3.keep sepE (fun q hq hlt => far q hq.2)).mono (fun q hq => hq.1)
        · have hW := HW.out
          have hs3 := HT3.out.size
          have hs0 := HB0.out.size
          refine ⟨HT3.out.os.trans HB0.out.os, HT3.out.tape.trans HB0.out.tape, HT3.out.output.trans HB0.out.output, by simp; omega, fun q hq hna => ?_⟩
          refine (sets_far (by omega) _ _ _).trans ((HT3.out.block q (by omega) (fun e => hna (by rw [e]; exact HG.out))).trans (HB0.out.block q hq))
end Go.Proofs.YtppgmepmegelbaaGreatDoor
