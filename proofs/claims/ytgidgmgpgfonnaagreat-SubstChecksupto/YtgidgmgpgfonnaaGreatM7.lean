/- Texts laid together: SApp, SGet, TRSize, SGrow, SPin, RParts, RJoin, RCanon. -/
import Derived.Laws.ResultCell
import Derived.Test.YtgidgmgpgfonnaaGreatM6
/- What Apply answers. -/
namespace Go.Proofs.YtgidgmgpgfonnaaGreat
open Go.RowKit Go.Deep Go.Shelf

/-- What Apply leaves. -/
def ApplyEnd (sg : List Sym) (lk : ByteArray → Option Tn) (x : ByteArray × Int) (l : Fo) (w : World) (e : Ending) (w' : World) : Prop := Below w.heap.size w w' ∧
      ((leftN lk x l 400 < 0 ∧ e = .returned (.tuple #[.agg #[.string ⟨#[]⟩, .int .i64 0, .slice none 0 0], .int .i64 73])) ∨
       (0 ≤ leftN lk x l 400 ∧ ∃ k : Kv, e = .returned (.tuple #[.agg #[.string k.x.1, .int .i64 k.x.2, .slice k.a (lenF k.l) k.c], .int .i64 0]) ∧ CanR sg (putN lk x l) k.tn ∧ LoosE w' (fun q => w.heap.size ≤ q) k))
theorem ApplyEnd.form {sg : List Sym} {lk : ByteArray → Option Tn} {x : ByteArray × Int} {l : Fo} {w : World} {e : Ending} {w' : World} (h : ApplyEnd sg lk x l w e w') : ∃ (k : Kv) (er : Int), e = .returned (.tuple #[.agg #[.string k.x.1, .int .i64 k.x.2, .slice k.a (lenF k.l) k.c], .int .i64 er]) ∧ Below w.heap.size w w' ∧
    ((leftN lk x l 400 < 0 ∧ k = ⟨(⟨#[]⟩, 0), .nil, none, 0⟩ ∧ er = 73) ∨ (0 ≤ leftN lk x l 400 ∧ er = 0 ∧ CanR sg (putN lk x l) k.tn ∧ LoosE w' (fun q => w.heap.size ≤ q) k)) := by
  rcases h with ⟨hb, ⟨h1, rfl⟩ | ⟨h1, k, rfl, h2, h3⟩⟩
  · exact ⟨⟨(⟨#[]⟩, 0), .nil, none, 0⟩, 73, rfl, hb, .inl ⟨h1, rfl, rfl⟩⟩
  · exact ⟨k, 0, rfl, hb, .inr ⟨h1, rfl, h2, h3⟩⟩
set_option maxRecDepth 100000 in
set_option maxHeartbeats 4000000 in
theorem papply_any (S : Option Addr) (n cap : Nat) (sg : List Sym) (p : Option Addr) (bcap : Nat) (bs : List Bn) (x : ByteArray × Int) (l : Fo) (a : Option Addr) (c : Nat) (w : World) (hS : SigAt w S n sg) (hB : BindsAt w p bs.length bs) (hn : bs.length ≤ 1048576) (hT : TmAt w x a c l) :
    Calls Tryz.prog 16 #[.slice S n cap, .slice p bs.length bcap, .agg #[.string x.1, .int .i64 x.2, .slice a (lenF l) c]] w (ApplyEnd sg (lkB bs) x l w) := by
  obtain ⟨W0, hW0⟩ : ∃ W0, (w.alloc (.cells #[.string x.1, .int .i64 x.2, .slice a (lenF l) c] 27)).alloc (.cells #[.string ⟨#[]⟩, .int .i64 0, .slice none 0 0] 27) = W0 := ⟨_, rfl⟩
  have hb0 : Below w.heap.size w W0 := by rw [← hW0]; exact ((Below.refl _ w).alloc (Nat.le_refl _) _).alloc (by simp) _
  have b1 : XBox W0 w.heap.size x (.slice a (lenF l) c) := by rw [← hW0]; exact (Below.heap_alloc _ _ _ (by simp)).trans (World.alloc_heap_new w _)
  have b2 : XBox W0 (w.heap.size + 1) (⟨#[]⟩, 0) (.slice none 0 0) := by
    have := World.alloc_heap_new (w.alloc (.cells #[.string x.1, .int .i64 x.2, .slice a (lenF l) c] 27)) (.cells #[.string ⟨#[]⟩, .int .i64 0, .slice none 0 0] 27)
    rw [World.size_alloc] at this
    rw [← hW0]; exact this
  have hsz : W0.heap.size = w.heap.size + 2 := by rw [← hW0]; simp
  have HTB : Hid (∀ W, Below w.heap.size w W → Calls Tryz.prog 26 #[.slice p bs.length bcap] W fun e w' => e = .returned (.map (some W.heap.size)) ∧ TabAt w' W.heap.size bs.length (lkB bs) ∧ Below W.heap.size W w') := hid fun W hW => table_any p bcap bs W (hB.below hW) hn
  have HAP : Hid (∀ W mv, Below w.heap.size w W → TabV W mv (lkB bs) → Calls Tryz.prog 27 #[mv, .slice S n cap, .agg #[.string x.1, .int .i64 x.2, .slice a (lenF l) c]] W (ApplyEnd sg (lkB bs) x l W)) := hid fun W mv hW hM => apply_any mv (lkB bs) S n cap sg x l a c W (hS.below hW) (hT.below hW) hM
  have HB0 := hid hb0; have HX := hid b1; have HY := hid b2
  have z0 := b1.c0; have z1 := b1.c1; have z2 := b1.c2
  clear hS hT hB b1 b2 hb0
  go_enter Tryz.func16, Tryz.ntmps16
  go_upto_region 1 with fail
  clear hW0
  go_region_with ((first
    | (go_at_call 26; refine Calls.mono (HTB.out _ HB0.out.drew) ?_; rintro e w1 ⟨rfl, htab, hb1⟩; have hb1' : Below W0.heap.size W0 w1 := ((Below.refl _ W0).drew).trans hb1; have HTA : Hid (TabAt w1 (w.heap.size + 2) bs.length (lkB bs)) := hid (by rw [← hsz]; exact htab); have HB1 := hid (HB0.out.trans (hb1'.mono HB0.out.size)); have X1 := HX.out.below hb1'; have HY1 := hid (HY.out.below hb1'); have hz1 : w.heap.size + 2 ≤ w1.heap.size := (by have := hb1'.size; omega); have y0 := X1.c0; have y1 := X1.c1; have y2 := X1.c2; clear htab hb1 hb1' X1)
    | (go_at_call 27; refine Calls.mono (HAP.out _ _ HB1.out (.inr ⟨_, _, rfl, HTA.out⟩)) ?_; intro e w2 he2; obtain ⟨k, er, rfl, hb2, hres⟩ := he2.form; have HRS := hid hres; have Y2 := HY1.out.below hb2; have HY2 := hid Y2; have HB2 := hid (HB1.out.trans (hb2.mono HB1.out.size)); have r0 := Y2.c0; have r1 := Y2.c1; have r2 := Y2.c2; have g0 := Y2.f (k := 0); have g1 := Y2.f (k := 1); have g2 := Y2.f (k := 2); clear Y2 hb2 hres he2)
    | fail))
  all_goals
    go_wp2_with fail
    refine bodyPost_ret (results_ct rfl rfl (load27 (HY2.out.all (x := k.x) _))) rfl ?_
    refine ⟨sets_below HB2.out (by omega) _ _ _, ?_⟩
    rcases HRS.out with ⟨h1, rfl, rfl⟩ | ⟨h1, rfl, h2, h3⟩
    · exact .inl ⟨h1, rfl⟩
    · exact .inr ⟨h1, k, rfl, h2, loosE.mono (fun q hq => by omega) (loosE.keep (fun q hq _ => sets_far (by omega) _ _ _) h3)⟩
end Go.Proofs.YtgidgmgpgfonnaaGreat
/- The document's Get. -/
namespace Go.Proofs.YtgidgmgpgfonnaaGreat
open Go.RowKit Go.Deep Go.Shelf

theorem name_eq {a b : ByteArray} (h : (a.toList == b.toList) = true) : a = b := by
  have h1 : a.toList = b.toList := eq_of_beq h
  rw [ByteArray.toList_eq, ByteArray.toList_eq] at h1
  exact Go.WideShapes.bytes_inj h1
/-- The first bind of a name. -/
def getB (bs : List Bn) (s : ByteArray) : Option Tn := (bs.find? fun b => decide (b.1 = s)).map (·.2)
/-- What Get tells: a term in memory, and whether it stands for the name. -/
def GetEnd (bs : List Bn) (s : ByteArray) (w : World) (e : Ending) (w' : World) : Prop := Below w.heap.size w w' ∧
  ((getB bs s = none ∧ e = .returned (.tuple #[.agg #[.string s, .int .i64 0, .slice none 0 0], .bool false])) ∨ ∃ t a c, getB bs s = some t ∧ TmAt w t.1 a c t.2 ∧ e = .returned (.tuple #[.agg #[.string t.1.1, .int .i64 t.1.2, .slice a (lenF t.2) c], .bool true]))
set_option maxRecDepth 100000 in
set_option maxHeartbeats 2000000 in
theorem rget_any (p : Option Addr) (bcap : Nat) (bs : List Bn) (s : ByteArray) (w : World) (hB : BindsAt w p bs.length bs) (hn : bs.length ≤ 1048576) :
    Calls Tryz.prog 34 #[.slice p bs.length bcap, .string s] w (GetEnd bs s w) := by
  have HB := hid hB
  have b0 := alloc_below0 w (.cells #[.string ⟨#[]⟩, .int .i64 0, .slice none 0 0] 27)
  have X0 : XBox (w.alloc (.cells #[.string ⟨#[]⟩, .int .i64 0, .slice none 0 0] 27)) w.heap.size (⟨#[]⟩, 0) (.slice none 0 0) := World.alloc_heap_new w _
  have HL := hid b0; have HX := hid X0
  clear hB b0 X0
  go_enter Tryz.func34, Tryz.ntmps34
  go_wp2_with fail
  generalize w.alloc (.cells #[.string ⟨#[]⟩, .int .i64 0, .slice none 0 0] 27) = V at HL HX ⊢
  go_loopw [6] (fun iv wr => ∃ i : Nat, i ≤ bs.length ∧ iv = .int .i64 i ∧ wr = V ∧ ∀ b ∈ bs.take i, b.1 ≠ s) (fun iv _ => bs.length - (intOf iv).toNat)
  case atStart => exact ⟨0, Nat.zero_le _, rfl, rfl, by simp⟩
  case round =>
    obtain ⟨i, hi, rfl, rfl, hno⟩ := hrel
    by_cases hlt : i < bs.length
    · obtain ⟨b1, o1, a1, c1, rfl, hbw⟩ := HB.out.cells i hlt
      have hbd := hbw.below HL.out
      obtain ⟨⟨vn, ⟨x, l⟩⟩, hyy⟩ : ∃ y, bs[i] = y := ⟨_, rfl⟩
      rw [hyy] at hbd hbw
      have p0 := hbd.var; have p1 := hbd.name; have p2 := hbd.sym; have p3 := hbd.list
      dsimp only at p0 p1 p2 p3
      have r0 := HX.out.c0; have r1 := HX.out.c1; have r2 := HX.out.c2
      have g0 := HX.out.f (k := 0); have g1 := HX.out.f (k := 1); have g2 := HX.out.f (k := 2)
      cases ht : (vn.toList == s.toList) with
      | true =>
        obtain rfl := name_eq ht
        have hf : bs.find? (fun b => decide (b.1 = vn)) = some (vn, (x, l)) := List.find?_eq_some_iff_append.2 ⟨by simp, bs.take i, bs.drop (i + 1), by rw [← hyy]; rw [← List.drop_eq_getElem_cons hlt, List.take_append_drop], fun b hb => by simpa using hno b hb⟩
        have hg : getB bs vn = some (x, l) := by
          unfold getB
          rw [hf]
          rfl
        have HG := hid hg
        have HT := hid hbw.tm
        clear hbd hbw HB hg hf
        go_wp2_with fail
        refine bodyPost_ret (results_ct rfl rfl (load27 (HX.out.all (x := x) _))) rfl ?_
        exact ⟨sets_below HL.out (by omega) _ _ _, .inr ⟨(x, l), a1, c1, HG.out, HT.out, rfl⟩⟩
      | false =>
        have hs : vn ≠ s := fun e => by rw [e] at ht; simp at ht
        clear hbd hbw HB
        go_wp2_with fail
        refine ⟨⟨i + 1, by omega, rfl, trivial, fun b hb => ?_⟩, by simp [intOf]; omega⟩
        rw [List.take_succ_eq_append_getElem hlt] at hb
        rcases List.mem_append.1 hb with hb | hb
        · exact hno b hb
        · rw [List.mem_singleton.1 hb, hyy]
          exact hs
    · have hg : getB bs s = none := by
        unfold getB
        rw [List.take_of_length_le (by omega)] at hno
        rw [List.find?_eq_none.2 (fun b hb => by simpa using hno b hb)]
        rfl
      have r0 := HX.out.c0; have r1 := HX.out.c1; have r2 := HX.out.c2
      have g0 := HX.out.f (k := 0); have g1 := HX.out.f (k := 1); have g2 := HX.out.f (k := 2)
      go_wp2_with fail
      refine bodyPost_ret (results_ct rfl rfl (load27 (HX.out.all (x := (s, 0)) _))) rfl ?_
      exact ⟨sets_below HL.out (by omega) _ _ _, .inl ⟨hg, rfl⟩⟩
end Go.Proofs.YtgidgmgpgfonnaaGreat
/- What the document's Size and Has answer of any term. -/
namespace Go.Proofs.YtgidgmgpgfonnaaGreat
open Go.RowKit Go.Deep

def RSizeOk (k : Nat) : Prop := ∀ (x : ByteArray × Int) (l : Fo) (a : Option Addr) (c : Nat) (w : World), nodesF l ≤ k → TmAt w x a c l → nodesF l + 1 ≤ 4611686018427387904 →
  Calls Tryz.prog 96 #[.agg #[.string x.1, .int .i64 x.2, .slice a (lenF l) c]] w fun e w' => e = .returned (.int .i64 ((nodesF l + 1 : Nat) : Int)) ∧ Below w.heap.size w w'

set_option maxRecDepth 100000 in
set_option maxHeartbeats 1000000 in
theorem rsize_all : ∀ k, RSizeOk k := by
  intro k
  induction k using Nat.strongRecOn with
  | _ k ih =>
    intro x l a c w hk hT hbig
    have HT : Hid (TmAt w x a c l) := hT
    have IH : Hid (∀ j, j < k → RSizeOk j) := ih
    have O0 : Hid (One w x a (lenF l) c (w.alloc (.cells #[.string x.1, .int .i64 x.2, .slice a (lenF l) c] 27))) := One.new _ _ _ _ _
    have hn := len_nodes l
    clear hT ih
    go_enter Tryz.func96, Tryz.ntmps96
    go_wp2
    go_loopw [3, 4] (fun q i wr => ∃ (j m : Nat), j ≤ lenF l ∧ q = .int .i64 (m : Int) ∧ i = .int .i64 j ∧ One w x a (lenF l) c wr ∧ m + nodesF (dropF j l) = nodesF l + 1) (fun _ i _ => lenF l - (intOf i).toNat)
    case atStart => exact ⟨0, 1, Nat.zero_le _, rfl, rfl, O0.out, by rw [drop_zero]; omega⟩
    case round =>
      obtain ⟨j, m, hj, rfl, rfl, hO, hm⟩ := hrel
      have t2 := hO.t.c2
      by_cases hlt : j < lenF l
      · obtain ⟨b1, o1, rfl, hk1⟩ := HT.out.args.get (by omega)
        obtain ⟨z, a1, c1, l1, kd⟩ := hk1.kid (k := j) hlt
        have kd' := kd.below hO.low
        obtain ⟨B1, O1, s1⟩ := kd.split
        rw [s1, nodesF] at hm
        have p0 := kd'.name; have p1 := kd'.sym; have p2 := kd'.list
        have hC := IH.out (nodesF l1) (by have := kd.less; omega) z l1 a1 c1 wr (Nat.le_refl _) kd'.at_ (by have := kd.less; omega)
        have HO : Hid (One w x (some ⟨b1, o1, none⟩) (lenF l) c wr) := hO
        clear kd kd' hk1 s1 hO
        go_wp2_with fail
        refine hC.mono ?_
        rintro e w2 ⟨rfl, hb⟩
        have HO2 : Hid (One w x (some ⟨b1, o1, none⟩) (lenF l) c w2) := HO.out.below hb
        clear hC hb p0 p1 p2 t2
        go_wp2
        go_roundw
        case rel => exact ⟨j + 1, m + (nodesF l1 + 1), by omega, by go_num, by go_num, HO2.out, by omega⟩
        case measure => simp [intOf]; omega
      · have e1 : j = lenF l := by omega
        rw [e1, drop_end, nodesF] at hm
        have hm' : m = nodesF l + 1 := by omega
        subst hm'
        go_wp2
        go_ret
        exact ⟨rfl, hO.low⟩

end Go.Proofs.YtgidgmgpgfonnaaGreat
/- The document's grown. -/
namespace Go.Proofs.YtgidgmgpgfonnaaGreat
open Go.RowKit Go.Deep Go.Shelf

/-- How many nodes stand for a name. -/
def szB (bs : List Bn) (s : ByteArray) : Nat := match getB bs s with | some t => nodesF t.2 + 1 | none => 1
def growF (bs : List Bn) : Fo → Int → Int
  | .nil, r => r
  | .node _ _ x l s, r => if r < 0 then r else growF bs s (if noName x.1 = true then growF bs l (r - 1) else r - szB bs x.1)
def growN (bs : List Bn) (x : ByteArray × Int) (l : Fo) (r : Int) : Int := if noName x.1 = true then growF bs l (r - 1) else r - szB bs x.1
theorem growF_neg (bs : List Bn) (F : Fo) (r : Int) (h : r < 0) : growF bs F r = r := by
  cases F with
  | nil => rfl
  | node => unfold growF; rw [if_pos h]
theorem growF_bd (bs : List Bn) (hs : ∀ s, szB bs s ≤ 1048577) : ∀ (F : Fo) (r : Int), -1048578 ≤ r → -1048578 ≤ growF bs F r ∧ growF bs F r ≤ r
  | .nil, r, h => ⟨h, Int.le_refl _⟩
  | .node _ _ x l s, r, h => by
    unfold growF
    split
    · omega
    · have h1 : -1048578 ≤ (if noName x.1 = true then growF bs l (r - 1) else r - szB bs x.1) ∧ (if noName x.1 = true then growF bs l (r - 1) else r - szB bs x.1) ≤ r := by
        split
        · have := growF_bd bs hs l (r - 1) (by omega)
          omega
        · have := hs x.1
          omega
      have h2 := growF_bd bs hs s _ h1.1
      omega
def GrowOk (bs : List Bn) (k : Nat) : Prop := ∀ (x : ByteArray × Int) (l : Fo) (a : Option Addr) (c : Nat) (p : Option Addr) (bcap : Nat) (room : Int) (w : World), nodesF l ≤ k → TmAt w x a c l → BindsAt w p bs.length bs → 0 ≤ room → room ≤ 400 →
  Calls Tryz.prog 79 #[.slice p bs.length bcap, .agg #[.string x.1, .int .i64 x.2, .slice a (lenF l) c], .int .i64 room] w fun e w' => e = .returned (.int .i64 (growN bs x l room)) ∧ Below w.heap.size w w'
set_option maxRecDepth 100000 in
set_option maxHeartbeats 2000000 in
theorem grow_all (bs : List Bn) (hn : bs.length ≤ 1048576) (hnd : ∀ b ∈ bs, nodesF b.2.2 ≤ 1048576) : ∀ k, GrowOk bs k := by
  have hsz : ∀ s, szB bs s ≤ 1048577 := fun s => by
    unfold szB
    cases h : getB bs s with
    | none => simp
    | some t =>
      unfold getB at h
      cases hf : bs.find? (fun b => decide (b.1 = s)) with
      | none => rw [hf] at h; cases h
      | some b =>
        rw [hf] at h
        have h1 : b.2 = t := Option.some.inj h
        have h2 := hnd b (List.mem_of_find?_eq_some hf)
        rw [h1] at h2
        simp only
        omega
  intro k
  induction k using Nat.strongRecOn with
  | _ k ih =>
    intro x l a c p bcap room w hk hT hB hr0 hr4
    have HT := hid hT
    have HB := hid hB
    have IH : Hid (∀ j, j < k → GrowOk bs j) := ih
    have O0 := hid (One.new w x a (lenF l) c)
    have b0 := alloc_below0 w (.cells #[.string x.1, .int .i64 x.2, .slice a (lenF l) c] 27)
    have hn0 := len_nodes l
    have hln : lenF l ≤ 2932031007402 := by have := hT.sizes.few; omega
    have t0 := O0.out.t.c0; have t1 := O0.out.t.c1; have t2 := O0.out.t.c2
    have HG := hid (rget_any p bcap bs x.1 (w.alloc (.cells #[.string x.1, .int .i64 x.2, .slice a (lenF l) c] 27)) (hB.below b0) hn)
    clear hT hB ih b0
    cases hnm : noName x.1 with
    | true =>
      have hnm' : x.1.toList.isEmpty = true := hnm
      have HN : Hid (growN bs x l room = growF bs l (room - 1)) := hid (by unfold growN; rw [if_pos hnm])
      clear HG
      go_enter Tryz.func79, Tryz.ntmps79
      go_wp2_with fail
      generalize w.alloc (.cells #[.string x.1, .int .i64 x.2, .slice a (lenF l) c] 27) = V at O0 t0 t1 t2 ⊢
      go_loopw [2, 9] (fun rv iv wr => ∃ (j : Nat) (r : Int), j ≤ lenF l ∧ rv = .int .i64 r ∧ iv = .int .i64 j ∧ -1048578 ≤ r ∧ r ≤ 400 ∧ One w x a (lenF l) c wr ∧ growF bs (dropF j l) r = growF bs l (room - 1)) (fun _ iv _ => lenF l - (intOf iv).toNat)
      case atStart => exact ⟨0, room - 1, Nat.zero_le _, rfl, rfl, by omega, by omega, O0.out, by rw [drop_zero]⟩
      case round =>
        obtain ⟨j, r, hj, rfl, rfl, hr1, hr2, hO, hm⟩ := hrel
        have HO := hid hO
        have t2 := hO.t.c2
        by_cases hlt : j < lenF l
        · obtain ⟨b1, o1, rfl, hk1⟩ := HT.out.args.get (by omega)
          obtain ⟨z, a1, c1, l1, kd⟩ := hk1.kid (k := j) hlt
          have kd' := kd.below hO.low
          obtain ⟨B1, O1', s1⟩ := kd.split
          rw [s1] at hm
          have p0 := kd'.name; have p1 := kd'.sym; have p2 := kd'.list
          by_cases hr : r < 0
          · rw [growF_neg bs _ r hr] at hm
            clear kd kd' s1 hk1 hO
            go_wp2_with fail
            go_ret
            exact ⟨by rw [HN.out, ← hm] <;> rfl, HO.out.low⟩
          · have HC := hid (IH.out (nodesF l1) (by have := kd.less; omega) z l1 a1 c1 p bcap r wr (Nat.le_refl _) kd'.at_ (HB.out.below hO.low) (by omega) hr2)
            have hstep : growF bs (dropF (j + 1) l) (growN bs z l1 r) = growF bs l (room - 1) := by
              rw [← hm]
              conv => rhs; unfold growF
              rw [if_neg hr]
              rfl
            have HS := hid hstep
            have hbd : -1048578 ≤ growN bs z l1 r ∧ growN bs z l1 r ≤ 400 := by
              unfold growN
              split
              · exact ⟨(growF_bd bs hsz l1 (r - 1) (by omega)).1, Int.le_trans (growF_bd bs hsz l1 (r - 1) (by omega)).2 (by omega)⟩
              · have := hsz z.1
                omega
            clear kd kd' s1 hk1 hO hstep
            go_wp2_with fail
            refine HC.out.mono ?_
            rintro e w3 ⟨rfl, hb3⟩
            have HO4 := hid (HO.out.below hb3)
            clear hb3 p0 p1 p2 t2
            go_wp2_with fail
            go_roundw
            case rel => exact ⟨j + 1, growN bs z l1 r, by omega, rfl, by go_num, hbd.1, hbd.2, HO4.out, HS.out⟩
            case measure => simp [intOf]; omega
        · have e1 : j = lenF l := by omega
          rw [e1, drop_end] at hm
          have hm' : r = growF bs l (room - 1) := hm
          go_wp2_with fail
          go_ret
          exact ⟨by rw [HN.out, hm'] <;> rfl, HO.out.low⟩
    | false =>
      have hnm' : x.1.toList.isEmpty = false := hnm
      have HN : Hid (growN bs x l room = room - szB bs x.1) := hid (by unfold growN; rw [if_neg (by rw [hnm]; decide)])
      go_enter Tryz.func79, Tryz.ntmps79
      go_wp2_with fail
      refine HG.out.mono ?_
      rintro e w1 ⟨hb1, hres⟩
      obtain ⟨t, a', c', bo, rfl, hT1, hs1⟩ : ∃ (t : Tn) (a' : Option Addr) (c' : Nat) (bo : Bool), e = .returned (.tuple #[.agg #[.string t.1.1, .int .i64 t.1.2, .slice a' (lenF t.2) c'], .bool bo]) ∧ TmAt w1 t.1 a' c' t.2 ∧ nodesF t.2 + 1 = szB bs x.1 := by
        rcases hres with ⟨h1, rfl⟩ | ⟨t, a', c', h1, h2, rfl⟩
        · exact ⟨((x.1, 0), .nil), none, 0, false, rfl, ⟨⟨HT.out.sizes.name, Nat.le_refl _, by simp, by simp [lenF]⟩, .inl rfl⟩, by unfold szB; rw [h1]; rfl⟩
        · exact ⟨t, a', c', true, rfl, h2.below hb1, by unfold szB; rw [h1]⟩
      have hsx := hsz x.1
      have bx := alloc_below0 w1 (.cells #[.string t.1.1, .int .i64 t.1.2, .slice a' (lenF t.2) c'] 27)
      have HC := hid (rsize_all (nodesF t.2) t.1 t.2 a' c' (w1.alloc (.cells #[.string t.1.1, .int .i64 t.1.2, .slice a' (lenF t.2) c'] 27)) (Nat.le_refl _) (hT1.below bx) (by omega))
      have hl1 := (O0.out.below hb1).low
      have HL := hid (hl1.trans (bx.mono hl1.size))
      clear hres hT1 bx hb1 hl1 HG t0 t1 t2
      go_wp2_with fail
      refine HC.out.mono ?_
      rintro e w3 ⟨rfl, hb3⟩
      have HL3 := hid (HL.out.trans (hb3.mono HL.out.size))
      clear hb3 HC
      rw [hs1]
      have hsx0 : (0 : Int) ≤ (szB bs x.1 : Int) := Int.natCast_nonneg _
      go_wp2_with fail
      go_ret
      exact ⟨by rw [HN.out] <;> rfl, HL3.out⟩
theorem grown_any (bs : List Bn) (hn : bs.length ≤ 1048576) (hnd : ∀ b ∈ bs, nodesF b.2.2 ≤ 1048576) (x : ByteArray × Int) (l : Fo) (a : Option Addr) (c : Nat) (p : Option Addr) (bcap : Nat) (w : World) (hT : TmAt w x a c l) (hB : BindsAt w p bs.length bs) :
    Calls Tryz.prog 56 #[.slice p bs.length bcap, .agg #[.string x.1, .int .i64 x.2, .slice a (lenF l) c]] w fun e w' => e = .returned (.bool (decide (growN bs x l 400 < 0))) ∧ Below w.heap.size w w' := by
  have O0 := hid (One.new w x a (lenF l) c)
  have b1 := alloc_below0 w (.cells #[.string x.1, .int .i64 x.2, .slice a (lenF l) c] 27)
  have HC := hid (grow_all bs hn hnd (nodesF l) x l a c p bcap 400 _ (Nat.le_refl _) (hT.below b1) (hB.below b1) (by omega) (by omega))
  have B1 := hid b1
  have t0 := O0.out.t.c0; have t1 := O0.out.t.c1; have t2 := O0.out.t.c2
  clear hT hB b1
  go_enter Tryz.func56, Tryz.ntmps56
  go_wp2_with fail
  refine HC.out.mono ?_
  rintro e w1 ⟨rfl, hb⟩
  have HL := hid (B1.out.trans (hb.mono B1.out.size))
  clear hb HC
  go_wp2_with fail
  go_ret
  exact ⟨rfl, HL.out⟩
end Go.Proofs.YtgidgmgpgfonnaaGreat
/- The document's PutIn. -/
namespace Go.Proofs.YtgidgmgpgfonnaaGreat
open Go.RowKit Go.Deep Go.Shelf

def getN (bs : List Bn) (s : ByteArray) : Tn := match getB bs s with | some t => t | none => ((s, 0), .nil)
/-- Terms in which the first binds' terms stand for variables. -/
def pinF (bs : List Bn) : Fo → Fo
  | .nil => .nil
  | .node B O x l r => if noName x.1 = true then .node B O x (pinF bs l) (pinF bs r) else .node B O (getN bs x.1).1 (getN bs x.1).2 (pinF bs r)
def pinN (bs : List Bn) (x : ByteArray × Int) (l : Fo) : Tn := if noName x.1 = true then (x, pinF bs l) else getN bs x.1
theorem pinF_len (bs : List Bn) : ∀ F : Fo, lenF (pinF bs F) = lenF F
  | .nil => rfl
  | .node _ _ x l r => by
    unfold pinF
    split
    · simp only [lenF]; rw [pinF_len bs r]
    · simp only [lenF]; rw [pinF_len bs r]
theorem pinF_kids (bs : List Bn) : ∀ F : Fo, kidsL (pinF bs F) = (kidsL F).map fun y => pinN bs y.1 y.2
  | .nil => rfl
  | .node _ _ x l r => by
    unfold pinF
    by_cases h : noName x.1 = true
    · rw [if_pos h]
      simp only [kidsL, List.map_cons]
      rw [pinF_kids bs r]
      unfold pinN
      rw [if_pos h]
    · rw [if_neg h]
      simp only [kidsL, List.map_cons]
      rw [pinF_kids bs r]
      unfold pinN
      rw [if_neg h]
theorem no_name {s : ByteArray} (h : noName s = true) : s = ⟨#[]⟩ := name_eq (by
  have h1 : s.toList = [] := List.isEmpty_iff.1 h
  rw [h1, ByteArray.toList_eq]
  rfl)
def PinOk (bs : List Bn) (k : Nat) : Prop := ∀ (x : ByteArray × Int) (l : Fo) (a : Option Addr) (c : Nat) (p : Option Addr) (bcap : Nat) (w : World), nodesF l ≤ k → TmAt w x a c l → BindsAt w p bs.length bs →
  Calls Tryz.prog 57 #[.slice p bs.length bcap, .agg #[.string x.1, .int .i64 x.2, .slice a (lenF l) c]] w fun e w' => ∃ a' c', e = .returned (.agg #[.string (pinN bs x l).1.1, .int .i64 (pinN bs x l).1.2, .slice a' (lenF (pinN bs x l).2) c']) ∧ RowTm w.heap.size w' (pinN bs x l).1 a' c' (pinN bs x l).2 ∧ Below w.heap.size w w'
set_option maxRecDepth 100000 in
set_option maxHeartbeats 4000000 in
theorem pin_all (bs : List Bn) (hbn : bs.length ≤ 1048576) : ∀ k, PinOk bs k := by
  intro k
  induction k using Nat.strongRecOn with
  | _ k ih =>
    intro x l a c p bcap w hk hT hBs
    obtain ⟨i0, hi, hz0, hz1, hz2⟩ := info_parts Tryz.info27
    have HT : Hid (TmAt w x a c l) := hT
    have HBs := hid hBs
    have IH : Hid (∀ j, j < k → PinOk bs j) := ih
    have hn : lenF l ≤ 9223372036854775807 := by have := hT.sizes.len; have := hT.sizes.cap; unfold maxLen at *; omega
    have hfew := hT.sizes.few
    clear hT ih hBs
    cases hnm : noName x.1 with
    | true =>
      have HP : Hid (pinN bs x l = (x, pinF bs l)) := hid (by unfold pinN; rw [if_pos hnm])
      have HX1 := hid (no_name hnm)
      have hnm' : x.1.toList.isEmpty = true := hnm
      go_enter Tryz.func57, Tryz.ntmps57
      go_wp2_with fail
      go_loopw [8] (fun i wr => ∃ (j : Nat) (v : Value) (ks : List Kv), j ≤ lenF l ∧ i = .int .i64 j ∧ Three w x a (lenF l) c wr v ∧ Built false w wr v j ks ∧ ks.map (fun k => (k.x, k.l)) = ((kidsL l).take j).map (fun y => pinN bs y.1 y.2)) (fun i _ => lenF l - (intOf i).toNat)
      case atStart => exact ⟨0, _, [], Nat.zero_le _, rfl, (by have h := Three.new w x a (lenF l) c; simp only [HX1.out] at h ⊢; exact h), ⟨World.ownsRow_nil _ _ _ _, by simp⟩, by simp⟩
      case round =>
        obtain ⟨j, v, ks, hj, rfl, hTh, hBu, hks⟩ := hrel
        have hb := hTh.low
        have bT := hTh.t
        have bX := hTh.x
        have hrow := hBu.row
        have t2 := bT.c2
        by_cases hlt : j < lenF l
        · obtain ⟨bb, oo, rfl, hkk⟩ := HT.out.args.get (by omega)
          obtain ⟨y, a1, c1, l1, kd⟩ := hkk.kid (k := j) hlt
          have kd' := kd.below hb
          have X0 : Hid (XBox wr (w.heap.size + 1 + 1) x v) := bX
          have cX := X0.out.c2
          have hbb : bb < w.heap.size := World.block_lt_of_cell? w _ kd.name
          have p0 := kd'.name; have p1 := kd'.sym; have p2 := kd'.list
          have hIH := IH.out (nodesF l1) (by have := kd.less; omega) y l1 a1 c1 p bcap wr.drew (Nat.le_refl _) (kd'.at_.kept (fun _ _ h => h)) (HBs.out.below hb.drew)
          obtain ⟨⟨y', m'⟩, hz⟩ : ∃ Z, pinN bs y l1 = Z := ⟨_, rfl⟩
          rw [hz] at hIH
          have HZ := hid hz
          have HIH : Hid (Calls Tryz.prog 57 #[.slice p bs.length bcap, .agg #[.string y.1, .int .i64 y.2, .slice a1 (lenF l1) c1]] wr.drew fun e w' => ∃ a' c', e = .returned (.agg #[.string y'.1, .int .i64 y'.2, .slice a' (lenF m') c']) ∧ RowTm wr.heap.size w' y' a' c' m' ∧ Below wr.heap.size wr.drew w') := hIH
          have HR : Hid (wr.ownsRow (w.heap.size + 3) 27 3 v j (kvCells ks)) := hrow
          have HB : Hid (Below w.heap.size w wr) := hb
          have TH : Hid (Three w x (some ⟨bb, oo, none⟩) (lenF l) c wr v) := hTh
          have BU : Hid (Built false w wr v j ks) := hBu
          have HK : Hid (ks.map (fun k => (k.x, k.l)) = ((kidsL l).take j).map (fun y => pinN bs y.1 y.2)) := hks
          have KD : Hid (Kid w l bb oo j y a1 c1 l1) := kd
          have hmax : maxLen = 9223372036854775807 := rfl
          have hXlt : w.heap.size + 1 + 1 < wr.heap.size := X0.out.lt
          clear hIH hz kd' hkk kd hrow hb hTh hBu hks bT bX
          go_wp2_with fail
          go_region_law
            ((first
              | (refine step_append_lies _ (by rfl) (.tmp 32) (.tmp 40) 25 (by rfl) (w.heap.size + 3) 27 i0 _ 3 48 Tryz.underlying25 hi hz0 hz1 hz2 rfl (by decide) v j (kvCells ks) (by rfl) (owns_below (owns_below HR.out HW1.out) ((Below.refl _ _).alloc (Nat.le_refl _) _)) ⟨w1.heap.size, 0, none⟩ 1 1 (Kv.cells ⟨y', m', a', c'⟩) (by rfl) rfl (World.news_of_block (heap_alloc_new w1 _)) (kv_one _) (by decide) (by omega) (by omega) (by have := HW1.out.size; simp; omega) _ rfl ?_; intro g3 cap3 w3 hown3 hgrow3 hat3 hlt3; have X3 : Hid (XBox w3 (w.heap.size + 1 + 1) x v) := X2.out.kept hgrow3 (fun e => by have := (owns_cells HR.out e.symm).1; omega); have cX3 := X3.out.c2; have fX3 := X3.out.f (k := 2); have HO3 : Hid (w3.ownsRow (w.heap.size + 3) 27 3 (.slice (some ⟨g3, 0, none⟩) (j + 1) cap3) (j + 1) (kvCells ks ++ Kv.cells ⟨y', m', a', c'⟩)) := hown3; have HG3 : Hid ((w1.alloc (.cells #[.string y'.1, .int .i64 y'.2, .slice a' (lenF m') c'] 27)).grownBy w3 v.ownBlock ∧ (v.ownBlock = some g3 ∨ g3 = w1.heap.size + 1)) := ⟨hgrow3, by simpa using hat3⟩; clear hown3 hgrow3 hat3)
              | (go_simp; go_wp2_with (go_at_call 57; refine HIH.out.mono ?_; rintro e w1 ⟨a', c', rfl, ho1, hb1⟩; have HO1 : Hid (OwnTm false (fun k => wr.heap.size ≤ k) w1 y' a' c' m') := ho1.own; have HW1 : Hid (Below wr.heap.size wr w1) := ((Below.refl _ wr).drew).trans hb1; have X1 : Hid (XBox w1 (w.heap.size + 1 + 1) x v) := X0.out.below HW1.out; have cX1 := X1.out.c2; have X2 : Hid (XBox (w1.alloc (.cells #[.string y'.1, .int .i64 y'.2, .slice a' (lenF m') c'] 27)) (w.heap.size + 1 + 1) x v) := X1.out.below ((Below.refl _ _).alloc (Nat.le_refl _) _); have cX2 := X2.out.c2; clear ho1 hb1))
              | fail))
          all_goals
            go_wp2
            go_roundw
            case rel =>
              obtain ⟨h1, h2⟩ := build_step (kv := ⟨y', m', a', c'⟩) TH.out BU.out HW1.out HO1.out HG3.out.1 HG3.out.2 HO3.out
              obtain ⟨B1, O1, sp⟩ := KD.out.split
              exact ⟨j + 1, _, _, by omega, by go_num, h1, h2, by rw [kids_take sp, List.map_append, List.map_append, HK.out]; show _ = _ ++ [pinN bs y l1]; rw [HZ.out]; rfl⟩
            case measure => simp [intOf]; omega
        · have hjl : j = lenF l := by omega
          subst hjl
          have hks' : ks.map (fun k => (k.x, k.l)) = kidsL (pinF bs l) := by rw [hks, ← kids_len, List.take_length, pinF_kids]
          obtain ⟨a3, c3, rfl, hrt⟩ := built_done (x := x) (l := pinF bs l) (by rw [pinF_len]; exact hBu) hks' HT.out.sizes.name (by rw [pinF_len]; exact HT.out.sizes.few)
          have x0 := bX.c0; have x1 := bX.c1; have x2 := bX.c2
          have R4 : XBox wr (w.heap.size + 1) (⟨#[]⟩, 0) (.slice none 0 0) := hTh.r
          have r0 := R4.c0
          have r1 := R4.c1
          have r2 := R4.c2
          have f0 := R4.f (k := 0)
          have f1 := R4.f (k := 1)
          have f2 := R4.f (k := 2)
          have HR4 : Hid (XBox wr (w.heap.size + 1) (⟨#[]⟩, 0) (.slice none 0 0)) := R4
          have HL : Hid (Below w.heap.size w wr) := hb
          have HRT : Hid (RowTm (w.heap.size + 3) wr x a3 c3 (pinF bs l)) := hrt
          clear R4 hTh hBu hks hks' hb bT bX hrow hrt
          go_wp2
          refine bodyPost_ret (results_cell_row rfl _ _ (w.heap.size + 1) 27 #[.string x.1, .int .i64 x.2, .slice a3 (lenF (pinF bs l)) c3] (0, 0) _ rfl (HR4.out.all (x := x) _) Tryz.underlying27 rfl Tryz.size27) rfl ?_
          rw [HP.out]
          refine ⟨a3, c3, rfl, ?_, sets_below HL.out (by omega) _ _ _⟩
          have h := HRT.out.keep (W' := (((wr.setCell ⟨w.heap.size + 1, 0, none⟩ (.string x.1)).setCell ⟨w.heap.size + 1, 1, none⟩ (.int .i64 x.2)).setCell ⟨w.heap.size + 1, 2, none⟩ (.slice a3 (lenF (pinF bs l)) c3))) (fun q hq _ => sets_far (by omega) _ _ _)
          exact ⟨h.sizes, by
            rcases h.list with h | ⟨g, cur, ha, hg, hc, hk⟩
            · exact .inl h
            · exact .inr ⟨g, cur, ha, by omega, hc, hk.mono (fun q _ hq => ⟨by omega, hq.2⟩)⟩⟩
    | false =>
      have hnm' : x.1.toList.isEmpty = false := hnm
      have HP : Hid (pinN bs x l = getN bs x.1) := hid (by unfold pinN; rw [if_neg (by rw [hnm]; decide)])
      obtain ⟨W0, hW0⟩ : ∃ W0, (w.alloc (.cells #[.string x.1, .int .i64 x.2, .slice a (lenF l) c] 27)).alloc (.cells #[.string ⟨#[]⟩, .int .i64 0, .slice none 0 0] 27) = W0 := ⟨_, rfl⟩
      have hb0 : Below w.heap.size w W0 := by rw [← hW0]; exact ((Below.refl _ w).alloc (Nat.le_refl _) _).alloc (by simp) _
      have b1 : XBox W0 w.heap.size x (.slice a (lenF l) c) := by rw [← hW0]; exact (Below.heap_alloc _ _ _ (by simp)).trans (World.alloc_heap_new w _)
      have b2 : XBox W0 (w.heap.size + 1) (⟨#[]⟩, 0) (.slice none 0 0) := by
        have := World.alloc_heap_new (w.alloc (.cells #[.string x.1, .int .i64 x.2, .slice a (lenF l) c] 27)) (.cells #[.string ⟨#[]⟩, .int .i64 0, .slice none 0 0] 27)
        rw [World.size_alloc] at this
        rw [← hW0]; exact this
      have hsz : W0.heap.size = w.heap.size + 2 := by rw [← hW0]; simp
      have HG := hid (rget_any p bcap bs x.1 W0 (HBs.out.below hb0) hbn)
      have z0 := b1.c0
      go_enter Tryz.func57, Tryz.ntmps57
      go_wp2_with fail
      clear hW0
      refine HG.out.mono ?_
      rintro e w1 ⟨hb1, hres⟩
      obtain ⟨t, a', c', bo, rfl, hT1, hs1⟩ : ∃ (t : Tn) (a' : Option Addr) (c' : Nat) (bo : Bool), e = .returned (.tuple #[.agg #[.string t.1.1, .int .i64 t.1.2, .slice a' (lenF t.2) c'], .bool bo]) ∧ TmAt w1 t.1 a' c' t.2 ∧ getN bs x.1 = t := by
        rcases hres with ⟨h1, rfl⟩ | ⟨t, a', c', h1, h2, rfl⟩
        · exact ⟨((x.1, 0), .nil), none, 0, false, rfl, ⟨⟨HT.out.sizes.name, Nat.le_refl _, by simp, by simp [lenF]⟩, .inl rfl⟩, by unfold getN; rw [h1]⟩
        · exact ⟨t, a', c', true, rfl, h2.below hb1, by unfold getN; rw [h1]⟩
      have bx := alloc_below0 w1 (.cells #[.string t.1.1, .int .i64 t.1.2, .slice a' (lenF t.2) c'] 27)
      have HC := hid (rclone_any t.1 t.2 a' c' (w1.alloc (.cells #[.string t.1.1, .int .i64 t.1.2, .slice a' (lenF t.2) c'] 27)) (hT1.below bx))
      have HY1 := hid ((b2.below hb1).below bx)
      have hl1 := hb0.trans (hb1.mono hb0.size)
      have HL := hid (hl1.trans (bx.mono hl1.size))
      have HS1 := hid hs1
      have hw1 : w.heap.size + 2 ≤ w1.heap.size := by have := hb1.size; omega
      clear hres hT1 bx hb1 hl1 HG z0 b1 b2 hs1 hb0
      go_wp2_with fail
      refine HC.out.mono ?_
      rintro e w3 ⟨a3, c3, rfl, hrt, hb3⟩
      have Y3 := HY1.out.below hb3
      have HY3 := hid Y3
      have HL3 := hid (HL.out.trans (hb3.mono HL.out.size))
      have r0 := Y3.c0; have r1 := Y3.c1; have r2 := Y3.c2
      have f0 := Y3.f (k := 0); have f1 := Y3.f (k := 1); have f2 := Y3.f (k := 2)
      have HRT := hid hrt
      clear Y3 hb3 HC hrt
      go_wp2_with fail
      refine bodyPost_ret (results_cell_row rfl _ _ (w.heap.size + 1) 27 #[.string t.1.1, .int .i64 t.1.2, .slice a3 (lenF t.2) c3] (0, 0) _ rfl (HY3.out.all (x := t.1) _) Tryz.underlying27 rfl Tryz.size27) rfl ?_
      rw [HP.out, HS1.out]
      refine ⟨a3, c3, rfl, ?_, sets_below HL3.out (by omega) _ _ _⟩
      have h := HRT.out.keep (W' := (((w3.setCell ⟨w.heap.size + 1, 0, none⟩ (.string t.1.1)).setCell ⟨w.heap.size + 1, 1, none⟩ (.int .i64 t.1.2)).setCell ⟨w.heap.size + 1, 2, none⟩ (.slice a3 (lenF t.2) c3))) (fun q hq _ => sets_far (by simp only [World.size_alloc] at hq; omega) _ _ _)
      exact ⟨h.sizes, by
        rcases h.list with h | ⟨g, cur, ha, hg, hc, hk⟩
        · exact .inl h
        · simp only [World.size_alloc] at hg hk
          exact .inr ⟨g, cur, ha, by omega, hc, hk.mono (fun q _ hq => ⟨by omega, hq.2⟩)⟩⟩
end Go.Proofs.YtgidgmgpgfonnaaGreat
/- What the document's Parts answers, of any term. -/
namespace Go.Proofs.YtgidgmgpgfonnaaGreat
open Go.RowKit Go.Deep

set_option maxRecDepth 100000 in
/-- A list of one new term. -/
theorem Lst.one {B : Nat} {W : World} (k : Kv) (hB : B ≤ W.heap.size) (h : OwnTm false (fun q => B ≤ q) W k.x k.a k.c k.l) : Lst B (W.alloc (.cells #[.string k.x.1, .int .i64 k.x.2, .slice k.a (lenF k.l) k.c] 27)) (.slice (some ⟨W.heap.size, 0, none⟩) 1 1) [k] := by
  refine ⟨⟨rfl, .inr ⟨W.heap.size, 1, _, rfl, hB, World.alloc_heap_new W _, Nat.le_refl _, by decide, rfl, rfl⟩⟩, fun k' hk => ?_⟩
  simp only [List.mem_singleton] at hk
  subst hk
  have h2 : OwnTm false (fun q => B ≤ q ∧ some q ≠ some W.heap.size) W k'.x k'.a k'.c k'.l := h.mono (fun q hq hp => ⟨hp, fun e => by cases e; omega⟩)
  exact h2.below ((Below.refl _ _).alloc (Nat.le_refl _) _)

set_option maxRecDepth 100000 in
set_option maxHeartbeats 2000000 in
theorem parts_any (a : Option Addr) (n cap : Nat) (l : List Sym) (f : Int) (t : Tn) (ta : Option Addr) (tc : Nat) (w : World) (hS : SigAt w a n l) (hT : TmAt w t.1 ta tc t.2) :
    Calls Tryz.prog 88 #[.slice a n cap, .int .i64 f, .agg #[.string t.1.1, .int .i64 t.1.2, .slice ta (lenF t.2) tc]] w fun e w' => ∃ v ks, e = .returned v ∧ Lst w.heap.size w' v ks ∧ (ks = [] → v = .slice none 0 0) ∧ ks.map Kv.tn = partsN (sgOf l) f t ∧ Below w.heap.size w w' := by
  obtain ⟨⟨nm, sy⟩, F⟩ := t
  have HS : Hid (SigAt w a n l) := hS
  have HT : Hid (TmAt w (nm, sy) ta tc F) := hT
  have hb := TBox.new w (nm, sy) ta (lenF F) tc
  have hlow : Hid (Below w.heap.size w (w.alloc (.cells #[.string nm, .int .i64 sy, .slice ta (lenF F) tc] 27))) := (Below.refl _ w).alloc (Nat.le_refl _) _
  have HJ : Hid (∀ W, Below w.heap.size w W → Calls Tryz.prog 70 #[.slice a n cap, .int .i64 f] W fun e w' => e = .returned (.bool (joinsAt l f)) ∧ Below W.heap.size W w') := fun W hW => joins_any a n cap l f W (HS.out.below hW)
  have HU : Hid (∀ W, Below w.heap.size w W → Calls Tryz.prog 89 #[.slice a n cap, .int .i64 f] W fun e w' => UnitRet l f e ∧ w' = W) := fun W hW => runit_any a n cap l f W (HS.out.below hW)
  have HC : Hid (∀ u W, Calls Tryz.prog 105 #[.agg #[.string nm, .int .i64 sy, .slice ta (lenF F) tc], .int .i64 u] W fun e w' => e = .returned (.bool (isConst ((nm, sy), F) u)) ∧ Below W.heap.size W w') := fun u W => constant_any ((nm, sy), F) ta tc u W (by have := HT.out.sizes.few; show lenF F ≤ _; omega)
  have HL : Hid (∀ W, Below w.heap.size w W → Calls Tryz.prog 36 #[.agg #[.string nm, .int .i64 sy, .slice ta (lenF F) tc]] W fun e w' => ∃ a' c', e = .returned (.agg #[.string nm, .int .i64 sy, .slice a' (lenF F) c']) ∧ RowTm W.heap.size w' (nm, sy) a' c' F ∧ Below W.heap.size W w') := fun W hW => rclone_any (nm, sy) F ta tc W (HT.out.below hW)
  have HK : Hid (∀ W, Below w.heap.size w W → Calls Tryz.prog 106 #[.slice ta (lenF F) tc] W fun e w' => ∃ v ks, e = .returned v ∧ Lst W.heap.size w' v ks ∧ (ks = [] → v = .slice none 0 0) ∧ ks.map Kv.tn = kidsL F ∧ Below W.heap.size W w') := fun W hW => clones_any ta F tc W (HT.out.args.below hW) (by have := HT.out.sizes.few; omega)
  clear hS hT
  cases hj : joinsAt l f
  · have e : Hid (partsN (sgOf l) f ((nm, sy), F) = [((nm, sy), F)]) := by show _ = _; unfold partsN; rw [if_pos (show (sgOf l).joins f = false from hj)]
    go_enter Tryz.func88, Tryz.ntmps88
    rw [hj] at HJ
    go_wp2_with (first
      | (go_at_call 70; refine (HJ.out _ hlow.out).mono ?_; rintro e w1 ⟨rfl, hb1⟩; have HB1 : Hid (Below w.heap.size w w1) := hlow.out.trans (hb1.mono (by simp)); have hbx := hb.below hb1; have HBX : Hid (TBox w1 w.heap.size (nm, sy) ta (lenF F) tc) := hbx; have c0 := hbx.c0; have c1 := hbx.c1; have c2 := hbx.c2; clear hb1 hbx)
      | (go_at_call 36; refine (HL.out _ HB1.out).mono ?_; rintro e w2 ⟨a', c', rfl, ho2, hb2⟩; have HO2 : Hid (RowTm w1.heap.size w2 (nm, sy) a' c' F) := ho2; have HB2 : Hid (Below w.heap.size w w2) := HB1.out.trans (hb2.mono HB1.out.size); clear ho2 hb2))
    go_ret
    refine ⟨_, [⟨(nm, sy), F, a', c'⟩], rfl, Lst.one ⟨(nm, sy), F, a', c'⟩ HB2.out.size (HO2.out.own.mono (fun q _ hq => Nat.le_trans HB1.out.size hq)), (fun h => by simp at h), by rw [e.out]; rfl, HB2.out.alloc HB2.out.size _⟩
  · have hj' : ¬ (sgOf l).joins f = false := by show ¬ joinsAt l f = false; rw [hj]; simp
    have rest : isUn (sgOf l) f ((nm, sy), F) = false → partsN (sgOf l) f ((nm, sy), F) = if headed f ((nm, sy), F) then kidsL F else [((nm, sy), F)] := fun h => by unfold partsN; rw [if_neg hj', if_neg (by rw [h]; simp)]
    have REST : Hid (isUn (sgOf l) f ((nm, sy), F) = false → partsN (sgOf l) f ((nm, sy), F) = if headed f ((nm, sy), F) then kidsL F else [((nm, sy), F)]) := rest
    have NONE : Hid (isUn (sgOf l) f ((nm, sy), F) = true → partsN (sgOf l) f ((nm, sy), F) = []) := fun h => by unfold partsN; rw [if_neg hj', if_pos h]
    clear rest hj'
    obtain ⟨ui, hui⟩ : ∃ ui, unitI l f = ui := ⟨_, rfl⟩
    cases huo : unitOk l f
    · have hun : Hid (isUn (sgOf l) f ((nm, sy), F) = false) := by show _ = _; unfold unitOk at huo; cases hq : unitAt l f with | none => simp [isUn, sgOf, hq] | some i => rw [hq] at huo; simp at huo
      cases hn : nm.toList.isEmpty
      · have e : Hid (partsN (sgOf l) f ((nm, sy), F) = [((nm, sy), F)]) := by show _ = _; rw [REST.out hun.out]; unfold headed noName; rw [hn]; simp
        go_enter Tryz.func88, Tryz.ntmps88
        rw [hj] at HJ
        go_wp2_with (first
          | (go_at_call 70; refine (HJ.out _ hlow.out).mono ?_; rintro e w1 ⟨rfl, hb1⟩; have HB1 : Hid (Below w.heap.size w w1) := hlow.out.trans (hb1.mono (by simp)); have hbx := hb.below hb1; have HBX : Hid (TBox w1 w.heap.size (nm, sy) ta (lenF F) tc) := hbx; have c0 := hbx.c0; have c1 := hbx.c1; have c2 := hbx.c2; clear hb1 hbx)
          | (go_at_call 89; refine (HU.out _ HB1.out).mono ?_; rintro e w9 ⟨he, hw9⟩; unfold UnitRet at he; rw [hui, huo] at he; subst he; rw [hw9]; clear hw9)
          | (go_at_call 36; refine (HL.out _ HB1.out).mono ?_; rintro e w2 ⟨a', c', rfl, ho2, hb2⟩; have HO2 : Hid (RowTm w1.heap.size w2 (nm, sy) a' c' F) := ho2; have HB2 : Hid (Below w.heap.size w w2) := HB1.out.trans (hb2.mono HB1.out.size); clear ho2 hb2))
        go_ret
        refine ⟨_, [⟨(nm, sy), F, a', c'⟩], rfl, Lst.one ⟨(nm, sy), F, a', c'⟩ HB2.out.size (HO2.out.own.mono (fun q _ hq => Nat.le_trans HB1.out.size hq)), (fun h => by simp at h), by rw [e.out]; rfl, HB2.out.alloc HB2.out.size _⟩
      · cases hs : (sy == f)
        · have e : Hid (partsN (sgOf l) f ((nm, sy), F) = [((nm, sy), F)]) := by show _ = _; rw [REST.out hun.out]; unfold headed; rw [hs]; simp
          go_enter Tryz.func88, Tryz.ntmps88
          rw [hj] at HJ
          go_wp2_with (first
            | (go_at_call 70; refine (HJ.out _ hlow.out).mono ?_; rintro e w1 ⟨rfl, hb1⟩; have HB1 : Hid (Below w.heap.size w w1) := hlow.out.trans (hb1.mono (by simp)); have hbx := hb.below hb1; have HBX : Hid (TBox w1 w.heap.size (nm, sy) ta (lenF F) tc) := hbx; have c0 := hbx.c0; have c1 := hbx.c1; have c2 := hbx.c2; clear hb1 hbx)
            | (go_at_call 89; refine (HU.out _ HB1.out).mono ?_; rintro e w9 ⟨he, hw9⟩; unfold UnitRet at he; rw [hui, huo] at he; subst he; rw [hw9]; clear hw9)
            | (go_at_call 36; refine (HL.out _ HB1.out).mono ?_; rintro e w2 ⟨a', c', rfl, ho2, hb2⟩; have HO2 : Hid (RowTm w1.heap.size w2 (nm, sy) a' c' F) := ho2; have HB2 : Hid (Below w.heap.size w w2) := HB1.out.trans (hb2.mono HB1.out.size); clear ho2 hb2))
          go_ret
          refine ⟨_, [⟨(nm, sy), F, a', c'⟩], rfl, Lst.one ⟨(nm, sy), F, a', c'⟩ HB2.out.size (HO2.out.own.mono (fun q _ hq => Nat.le_trans HB1.out.size hq)), (fun h => by simp at h), by rw [e.out]; rfl, HB2.out.alloc HB2.out.size _⟩
        · have e : Hid (partsN (sgOf l) f ((nm, sy), F) = kidsL F) := by show _ = _; rw [REST.out hun.out]; unfold headed noName; rw [hn, hs]; simp
          go_enter Tryz.func88, Tryz.ntmps88
          rw [hj] at HJ
          go_wp2_with (first
            | (go_at_call 70; refine (HJ.out _ hlow.out).mono ?_; rintro e w1 ⟨rfl, hb1⟩; have HB1 : Hid (Below w.heap.size w w1) := hlow.out.trans (hb1.mono (by simp)); have hbx := hb.below hb1; have HBX : Hid (TBox w1 w.heap.size (nm, sy) ta (lenF F) tc) := hbx; have c0 := hbx.c0; have c1 := hbx.c1; have c2 := hbx.c2; clear hb1 hbx)
            | (go_at_call 89; refine (HU.out _ HB1.out).mono ?_; rintro e w9 ⟨he, hw9⟩; unfold UnitRet at he; rw [hui, huo] at he; subst he; rw [hw9]; clear hw9)
            | (go_at_call 106; refine (HK.out _ HB1.out).mono ?_; rintro e w2 ⟨v, ks, rfl, ho2, hn2, hm2, hb2⟩; have HO2 : Hid (Lst w.heap.size w2 v ks) := ho2.base HB1.out.size; have HN2 : Hid (ks = [] → v = .slice none 0 0) := hn2; have HM2 : Hid (ks.map Kv.tn = kidsL F) := hm2; have HB2 : Hid (Below w.heap.size w w2) := HB1.out.trans (hb2.mono HB1.out.size); clear ho2 hn2 hm2 hb2))
          go_ret
          refine ⟨v, ks, rfl, HO2.out, HN2.out, by rw [HM2.out, e.out], HB2.out⟩
    · have hcc : Hid (isUn (sgOf l) f ((nm, sy), F) = isConst ((nm, sy), F) ui) := by
        show _ = _
        rw [← hui]
        unfold unitOk at huo
        cases hq : unitAt l f with
        | none => rw [hq] at huo; simp at huo
        | some i => simp [isUn, sgOf, unitI, hq]
      cases hcu : isConst ((nm, sy), F) ui
      · have hun : Hid (isUn (sgOf l) f ((nm, sy), F) = false) := by show _ = _; rw [hcc.out, hcu]
        cases hn : nm.toList.isEmpty
        · have e : Hid (partsN (sgOf l) f ((nm, sy), F) = [((nm, sy), F)]) := by show _ = _; rw [REST.out hun.out]; unfold headed noName; rw [hn]; simp
          go_enter Tryz.func88, Tryz.ntmps88
          rw [hj] at HJ
          go_wp2_with (first
            | (go_at_call 70; refine (HJ.out _ hlow.out).mono ?_; rintro e w1 ⟨rfl, hb1⟩; have HB1 : Hid (Below w.heap.size w w1) := hlow.out.trans (hb1.mono (by simp)); have hbx := hb.below hb1; have HBX : Hid (TBox w1 w.heap.size (nm, sy) ta (lenF F) tc) := hbx; have c0 := hbx.c0; have c1 := hbx.c1; have c2 := hbx.c2; clear hb1 hbx)
            | (go_at_call 89; refine (HU.out _ HB1.out).mono ?_; rintro e w9 ⟨he, hw9⟩; unfold UnitRet at he; rw [hui, huo] at he; subst he; rw [hw9]; clear hw9)
            | (go_at_call 105; refine (HC.out _ _).mono ?_; rintro e w3 ⟨he, hb3⟩; rw [hcu] at he; subst he; have HB3 : Hid (Below w.heap.size w w3) := HB1.out.trans (hb3.mono HB1.out.size); have hby := HBX.out.below hb3; have d0 := hby.c0; have d1 := hby.c1; have d2 := hby.c2; clear hb3 hby)
            | (go_at_call 36; refine (HL.out _ HB3.out).mono ?_; rintro e w2 ⟨a', c', rfl, ho2, hb2⟩; have HO2 : Hid (RowTm w3.heap.size w2 (nm, sy) a' c' F) := ho2; have HB2 : Hid (Below w.heap.size w w2) := HB3.out.trans (hb2.mono HB3.out.size); clear ho2 hb2))
          go_ret
          refine ⟨_, [⟨(nm, sy), F, a', c'⟩], rfl, Lst.one ⟨(nm, sy), F, a', c'⟩ HB2.out.size (HO2.out.own.mono (fun q _ hq => Nat.le_trans HB3.out.size hq)), (fun h => by simp at h), by rw [e.out]; rfl, HB2.out.alloc HB2.out.size _⟩
        · cases hs : (sy == f)
          · have e : Hid (partsN (sgOf l) f ((nm, sy), F) = [((nm, sy), F)]) := by show _ = _; rw [REST.out hun.out]; unfold headed; rw [hs]; simp
            go_enter Tryz.func88, Tryz.ntmps88
            rw [hj] at HJ
            go_wp2_with (first
              | (go_at_call 70; refine (HJ.out _ hlow.out).mono ?_; rintro e w1 ⟨rfl, hb1⟩; have HB1 : Hid (Below w.heap.size w w1) := hlow.out.trans (hb1.mono (by simp)); have hbx := hb.below hb1; have HBX : Hid (TBox w1 w.heap.size (nm, sy) ta (lenF F) tc) := hbx; have c0 := hbx.c0; have c1 := hbx.c1; have c2 := hbx.c2; clear hb1 hbx)
              | (go_at_call 89; refine (HU.out _ HB1.out).mono ?_; rintro e w9 ⟨he, hw9⟩; unfold UnitRet at he; rw [hui, huo] at he; subst he; rw [hw9]; clear hw9)
              | (go_at_call 105; refine (HC.out _ _).mono ?_; rintro e w3 ⟨he, hb3⟩; rw [hcu] at he; subst he; have HB3 : Hid (Below w.heap.size w w3) := HB1.out.trans (hb3.mono HB1.out.size); have hby := HBX.out.below hb3; have d0 := hby.c0; have d1 := hby.c1; have d2 := hby.c2; clear hb3 hby)
              | (go_at_call 36; refine (HL.out _ HB3.out).mono ?_; rintro e w2 ⟨a', c', rfl, ho2, hb2⟩; have HO2 : Hid (RowTm w3.heap.size w2 (nm, sy) a' c' F) := ho2; have HB2 : Hid (Below w.heap.size w w2) := HB3.out.trans (hb2.mono HB3.out.size); clear ho2 hb2))
            go_ret
            refine ⟨_, [⟨(nm, sy), F, a', c'⟩], rfl, Lst.one ⟨(nm, sy), F, a', c'⟩ HB2.out.size (HO2.out.own.mono (fun q _ hq => Nat.le_trans HB3.out.size hq)), (fun h => by simp at h), by rw [e.out]; rfl, HB2.out.alloc HB2.out.size _⟩
          · have e : Hid (partsN (sgOf l) f ((nm, sy), F) = kidsL F) := by show _ = _; rw [REST.out hun.out]; unfold headed noName; rw [hn, hs]; simp
            go_enter Tryz.func88, Tryz.ntmps88
            rw [hj] at HJ
            go_wp2_with (first
              | (go_at_call 70; refine (HJ.out _ hlow.out).mono ?_; rintro e w1 ⟨rfl, hb1⟩; have HB1 : Hid (Below w.heap.size w w1) := hlow.out.trans (hb1.mono (by simp)); have hbx := hb.below hb1; have HBX : Hid (TBox w1 w.heap.size (nm, sy) ta (lenF F) tc) := hbx; have c0 := hbx.c0; have c1 := hbx.c1; have c2 := hbx.c2; clear hb1 hbx)
              | (go_at_call 89; refine (HU.out _ HB1.out).mono ?_; rintro e w9 ⟨he, hw9⟩; unfold UnitRet at he; rw [hui, huo] at he; subst he; rw [hw9]; clear hw9)
              | (go_at_call 105; refine (HC.out _ _).mono ?_; rintro e w3 ⟨he, hb3⟩; rw [hcu] at he; subst he; have HB3 : Hid (Below w.heap.size w w3) := HB1.out.trans (hb3.mono HB1.out.size); have hby := HBX.out.below hb3; have d0 := hby.c0; have d1 := hby.c1; have d2 := hby.c2; clear hb3 hby)
              | (go_at_call 106; refine (HK.out _ HB3.out).mono ?_; rintro e w2 ⟨v, ks, rfl, ho2, hn2, hm2, hb2⟩; have HO2 : Hid (Lst w.heap.size w2 v ks) := ho2.base HB3.out.size; have HN2 : Hid (ks = [] → v = .slice none 0 0) := hn2; have HM2 : Hid (ks.map Kv.tn = kidsL F) := hm2; have HB2 : Hid (Below w.heap.size w w2) := HB3.out.trans (hb2.mono HB3.out.size); clear ho2 hn2 hm2 hb2))
            go_ret
            refine ⟨v, ks, rfl, HO2.out, HN2.out, by rw [HM2.out, e.out], HB2.out⟩
      · have e : Hid (partsN (sgOf l) f ((nm, sy), F) = []) := NONE.out (by rw [hcc.out, hcu])
        go_enter Tryz.func88, Tryz.ntmps88
        rw [hj] at HJ
        go_wp2_with (first
          | (go_at_call 70; refine (HJ.out _ hlow.out).mono ?_; rintro e w1 ⟨rfl, hb1⟩; have HB1 : Hid (Below w.heap.size w w1) := hlow.out.trans (hb1.mono (by simp)); have hbx := hb.below hb1; have HBX : Hid (TBox w1 w.heap.size (nm, sy) ta (lenF F) tc) := hbx; have c0 := hbx.c0; have c1 := hbx.c1; have c2 := hbx.c2; clear hb1 hbx)
          | (go_at_call 89; refine (HU.out _ HB1.out).mono ?_; rintro e w9 ⟨he, hw9⟩; unfold UnitRet at he; rw [hui, huo] at he; subst he; rw [hw9]; clear hw9)
          | (go_at_call 105; refine (HC.out _ _).mono ?_; rintro e w3 ⟨he, hb3⟩; rw [hcu] at he; subst he; have HB3 : Hid (Below w.heap.size w w3) := HB1.out.trans (hb3.mono HB1.out.size); have hby := HBX.out.below hb3; have d0 := hby.c0; have d1 := hby.c1; have d2 := hby.c2; clear hb3 hby))
        go_ret
        exact ⟨_, [], rfl, Lst.nil _ _, fun _ => rfl, by rw [e.out]; rfl, HB3.out⟩
end Go.Proofs.YtgidgmgpgfonnaaGreat
/- What the document's Join and Canon answer, of any terms. -/
namespace Go.Proofs.YtgidgmgpgfonnaaGreat
open Go.RowKit Go.Deep

set_option maxRecDepth 100000 in
/-- A list that is done, as a term's. -/
theorem Lst.term {B : Nat} {W : World} {v : Value} {ks : List Kv} {F : Fo} (x : ByteArray × Int) (h : Lst B W v ks) (hk : ks.map Kv.tn = kidsL F) (hx : x.1.size ≤ maxLen) (hf : lenF F * 48 ≤ 140737488351232) :
    ∃ a c, v = .slice a (lenF F) c ∧ OwnTm false (fun q => B ≤ q) W x a c F := by
  have hl : ks.length = lenF F := by have := congrArg List.length hk; rwa [List.length_map, kids_len] at this
  rcases h.row.2 with ⟨hv, h0⟩ | ⟨g, cap, cur, hv, hb, hg, hnc, hcm, hsz, hcur⟩
  · refine ⟨none, 0, by rw [← hl, h0]; exact hv, ⟨⟨hx, by omega, by simp, hf⟩, .inl ⟨len_nil (by omega), rfl⟩⟩⟩
  · have hrow := h.row
    rw [hv] at hrow
    refine ⟨_, cap, by rw [← hl]; exact hv, ⟨⟨hx, by omega, hcm, hf⟩, .inr ⟨g, cur, rfl, hb, hg, (fun e => by cases e), ownKids_of F ks 0 hk (owns_at hrow) (fun k hk => (h.own k hk).mono (fun q _ hq => hq.1))⟩⟩⟩
set_option maxRecDepth 100000 in
/-- What comes out of Parts: nil, or some. -/
theorem Lst.shape {B : Nat} {W : World} {v : Value} {ms : List Kv} (h : Lst B W v ms) (hn : ms = [] → v = .slice none 0 0) : ∃ a c, v = .slice a ms.length c ∧ RowAt W a ms.length ms ∧ (a = none → c = 0) ∧ (a ≠ none → 0 < ms.length) := by
  obtain ⟨a, c, rfl, _, _, h3, h4, _⟩ := row_of_owns h.row
  refine ⟨a, c, rfl, h3, fun e => (h4 e).2, fun e => ?_⟩
  cases ms with
  | nil => cases hn rfl; exact absurd rfl e
  | cons k r => simp
set_option maxRecDepth 100000 in
/-- What Sorted makes of a list. -/
theorem Lst.sorted {B : Nat} {W W' : World} {v v' : Value} {ks out : List Kv} (h : Lst B W v ks) (hB : B ≤ W.heap.size) (hb : Below W.heap.size W W') (ho : W'.ownsRow W.heap.size 27 3 v' out.length (kvCells out)) (hin : ∀ k ∈ out, k ∈ ks) : Lst B W' v' out := by
  refine ⟨owns_base ho hB, fun k hk => ?_⟩
  have h2 : OwnTm false (fun q => B ≤ q ∧ some q ≠ v'.ownBlock) W k.x k.a k.c k.l := (h.own k (hin k hk)).mono (fun q hq hp => ⟨hp.1, fun e => by have := (owns_cells ho e.symm).1; omega⟩)
  exact h2.below hb
def zeroT : Tn := ((noB, 0), .nil)
/-- One term, in new memory. -/
def JoinRet (B : Nat) (W : World) (r : Option Tn) (e : Ending) : Prop :=
  ∃ a c, e = .returned (.tuple #[.agg #[.string (r.getD zeroT).1.1, .int .i64 (r.getD zeroT).1.2, .slice a (lenF (r.getD zeroT).2) c], .bool r.isSome]) ∧ OwnTm false (fun q => B ≤ q) W (r.getD zeroT).1 a c (r.getD zeroT).2
def CanonOk (S : Option Addr) (n cap : Nat) (l : List Sym) (k : Nat) : Prop := ∀ (t : Tn) (a : Option Addr) (c : Nat) (w : World), nodesF t.2 ≤ k → SigAt w S n l → TmAt w t.1 a c t.2 →
  Calls Tryz.prog 49 #[.slice S n cap, .agg #[.string t.1.1, .int .i64 t.1.2, .slice a (lenF t.2) c]] w fun e w' => ∃ a' c', e = .returned (.agg #[.string (canonT (sgOf l) t).1.1, .int .i64 (canonT (sgOf l) t).1.2, .slice a' (lenF (canonT (sgOf l) t).2) c']) ∧ OwnTm false (fun q => w.heap.size ≤ q) w' (canonT (sgOf l) t).1 a' c' (canonT (sgOf l) t).2 ∧ Below w.heap.size w w'
def JoinOk (S : Option Addr) (n cap : Nat) (l : List Sym) (k : Nat) : Prop := ∀ (f : Int) (F : Fo) (a : Option Addr) (c : Nat) (w : World), nodesF F ≤ k → SigAt w S n l → ArgsAt w a F →
  Calls Tryz.prog 71 #[.slice S n cap, .int .i64 f, .slice a (lenF F) c] w fun e w' => JoinRet w.heap.size w' (joinN (sgOf l) f (canonL (sgOf l) F)) e ∧ Below w.heap.size w w'

set_option maxRecDepth 100000 in
theorem sizes_len : ∀ l : List Tn, l.length ≤ sizes l
  | [] => Nat.le_refl _
  | t :: r => by rw [sizes_cons, List.length_cons]; have := sizes_len r; unfold sizeT; omega
set_option maxRecDepth 100000 in
theorem sizes_take (l : List Tn) (j : Nat) : sizes (l.take j) ≤ sizes l := by
  have := sizes_append (l.take j) (l.drop j)
  rw [List.take_append_drop] at this
  omega
set_option maxRecDepth 100000 in
/-- How many parts there are, at most. -/
theorem flat_few (S : Sg) (f : Int) (F : Fo) (j : Nat) : (((canonL S F).take j).flatMap (partsN S f)).length ≤ nodesF F :=
  Nat.le_trans (sizes_len _) (Nat.le_trans (flat_size S f _) (Nat.le_trans (sizes_take _ j) (canonL_size S F)))
set_option maxRecDepth 100000 in
theorem canonL_take {S : Sg} {F : Fo} {k : Nat} {x : ByteArray × Int} {m : Fo} {B O : Nat} {r : Fo} (h : dropF k F = .node B O x m r) : (canonL S F).take (k + 1) = (canonL S F).take k ++ [canonT S (x, m)] := by
  rw [canonL_map, ← List.map_take, ← List.map_take, kids_take h]
  simp
set_option maxRecDepth 100000 in
/-- The answer, in the box that is the function's. -/
theorem ret_join {fn : Func} {R : Ending → World → Prop} {a : Act} {w : World} {p u B : Nat} {x : ByteArray × Int} {v : Value} (h : fn.results = #[.cell p 27, .tmp u]) (hp : a.tmps.getD p undef = .pointer (some ⟨B, 0, none⟩))
    (hx : XBox w B x v) (hd : a.defers = []) (hR : R (.returned (.tuple #[.agg #[.string x.1, .int .i64 x.2, v], a.tmps.getD u undef])) w) : bodyPost Tryz.prog fn R .ret a w := by
  refine bodyPost_ret ?_ hd hR
  rw [results_cell_tmp h, hp]
  rw [show (asAddr (.pointer (some ⟨B, 0, none⟩))).run Tryz.prog w = .ok ⟨B, 0, none⟩ w from rfl]
  simp only [Result.andThen_ok, run_loadVar_row w B 27 27 _ (0, 0) _ hx Tryz.underlying27 rfl Tryz.size27]
set_option maxRecDepth 100000 in
theorem own_nil {P : Nat → Prop} (W : World) (x : ByteArray × Int) (hx : x.1.size ≤ maxLen) : OwnTm false P W x none 0 .nil := ⟨⟨hx, Nat.le_refl _, by simp, by simp [lenF]⟩, .inl ⟨rfl, rfl⟩⟩
set_option maxRecDepth 100000 in
theorem OwnTm.sets {W : World} {B : Nat} {x : ByteArray × Int} {a : Option Addr} {c : Nat} {F : Fo} (h : OwnTm false (fun q => B + 1 ≤ q) W x a c F) (u v t : Value) : OwnTm false (fun q => B ≤ q) (((W.setCell ⟨B, 0, none⟩ u).setCell ⟨B, 1, none⟩ v).setCell ⟨B, 2, none⟩ t) x a c F :=
  (h.keep (fun q hq _ => sets_far (by omega) _ _ _)).mono (fun q _ hq => by omega)

set_option maxRecDepth 100000 in
set_option maxHeartbeats 2000000 in
theorem join_of {S : Option Addr} {n cap : Nat} {l : List Sym} {k : Nat} (hk : k ≤ 1048576) (ih : ∀ j, j < k → CanonOk S n cap l j) : JoinOk S n cap l k := by
  intro f F a c w hF hS hA
  have HS : Hid (SigAt w S n l) := hS
  have HA : Hid (ArgsAt w a F) := hA
  have IH : Hid (∀ j, j < k → CanonOk S n cap l j) := ih
  have HJ : Hid (∀ W, Below w.heap.size w W → Calls Tryz.prog 70 #[.slice S n cap, .int .i64 f] W fun e w' => e = .returned (.bool (joinsAt l f)) ∧ Below W.heap.size W w') := fun W hW => joins_any S n cap l f W (HS.out.below hW)
  have HU : Hid (∀ W, Below w.heap.size w W → Calls Tryz.prog 89 #[.slice S n cap, .int .i64 f] W fun e w' => UnitRet l f e ∧ w' = W) := fun W hW => runit_any S n cap l f W (HS.out.below hW)
  have HX0 : Hid (XBox (w.alloc (.cells #[.string ⟨#[]⟩, .int .i64 0, .slice none 0 0] 27)) w.heap.size (⟨#[]⟩, 0) (.slice none 0 0)) := World.alloc_heap_new w _
  have HB0 : Hid (Below w.heap.size w (w.alloc (.cells #[.string ⟨#[]⟩, .int .i64 0, .slice none 0 0] 27))) := (Below.refl _ w).alloc (Nat.le_refl _) _
  have hlF : lenF F ≤ 1048576 := Nat.le_trans (len_nodes F) (Nat.le_trans hF hk)
  clear hS hA ih
  cases hj : joinsAt l f
  · have e : Hid (joinN (sgOf l) f (canonL (sgOf l) F) = none) := by show _ = _; unfold joinN; rw [if_pos (show (sgOf l).joins f = false from hj)]
    rw [hj] at HJ
    go_enter Tryz.func71, Tryz.ntmps71
    go_wp2_with (first
      | (go_at_call 70; refine (HJ.out _ HB0.out).mono ?_; rintro e w1 ⟨rfl, hb1⟩; have HB1 : Hid (Below w.heap.size w w1) := HB0.out.trans (hb1.mono (by simp)); have hbx := HX0.out.below hb1; have HBX : Hid (XBox w1 w.heap.size (⟨#[]⟩, 0) (.slice none 0 0)) := hbx; have r0 := hbx.c0; have r1 := hbx.c1; have r2 := hbx.c2; have f0 := hbx.f (k := 0); have f1 := hbx.f (k := 1); have f2 := hbx.f (k := 2); clear hb1 hbx))
    refine ret_join (p := 6) (u := 7) rfl rfl (HBX.out.all (x := (⟨#[]⟩, 0)) (.slice none 0 0)) rfl ?_
    refine ⟨⟨none, 0, by rw [e.out]; rfl, ?_⟩, sets_below HB1.out (Nat.le_refl _) _ _ _⟩
    rw [e.out]
    exact (own_nil _ _ (by decide)).sets _ _ _
  · have e : Hid (joinN (sgOf l) f (canonL (sgOf l) F) = joinL (sgOf l) f ((canonL (sgOf l) F).flatMap (partsN (sgOf l) f))) := by show _ = _; unfold joinN; rw [if_neg (show ¬ (sgOf l).joins f = false by show ¬ joinsAt l f = false; rw [hj]; simp)]
    rw [hj] at HJ
    go_enter Tryz.func71, Tryz.ntmps71
    go_wp2_with (first
      | (go_at_call 70; refine (HJ.out _ HB0.out).mono ?_; rintro e w1 ⟨rfl, hb1⟩; have HB1 : Hid (Below w.heap.size w w1) := HB0.out.trans (hb1.mono (by simp)); have HX1 : Hid (XBox w1 w.heap.size (⟨#[]⟩, 0) (.slice none 0 0)) := HX0.out.below hb1; clear hb1))
    go_loopw [8, 9] (fun ov i wr => ∃ (j : Nat) (v : Value) (ks : List Kv), j ≤ lenF F ∧ v = ov ∧ i = .int .i64 j ∧ Lst (w.heap.size + 1) wr v ks ∧ XBox wr w.heap.size (⟨#[]⟩, 0) (.slice none 0 0) ∧ ks.map Kv.tn = ((canonL (sgOf l) F).take j).flatMap (partsN (sgOf l) f) ∧ Below w.heap.size w wr) (fun _ i _ => lenF F - (intOf i).toNat)
    case atStart => exact ⟨0, _, [], Nat.zero_le _, rfl, rfl, Lst.nil _ _, HX1.out, by simp, HB1.out⟩
    case round =>
      obtain ⟨j, v, ks, hj, rfl, rfl, hL, hX, hmap, hlow⟩ := hrel
      have HL : Hid (Lst (w.heap.size + 1) wr v ks) := hL
      have HX : Hid (XBox wr w.heap.size (⟨#[]⟩, 0) (.slice none 0 0)) := hX
      have HM : Hid (ks.map Kv.tn = ((canonL (sgOf l) F).take j).flatMap (partsN (sgOf l) f)) := hmap
      have HB : Hid (Below w.heap.size w wr) := hlow
      have hxl : w.heap.size + 1 ≤ wr.heap.size := hX.lt
      clear hL hX hmap hlow
      by_cases hlt : j < lenF F
      · obtain ⟨bb, oo, rfl, hkk⟩ := HA.out.get (by omega)
        obtain ⟨y, a1, c1, l1, kd⟩ := hkk.kid (k := j) hlt
        have kd' := kd.below HB.out
        have p0 := kd'.name; have p1 := kd'.sym; have p2 := kd'.list
        have KD : Hid (Kid wr F bb oo j y a1 c1 l1) := kd'
        have hj0 : (0 : Int) ≤ (j : Int) := by omega
        have hjn : (j : Int) < (lenF F : Int) := by omega
        clear kd kd' hkk
        obtain ⟨ct, hct⟩ : ∃ ct, canonT (sgOf l) (y, l1) = ct := ⟨_, rfl⟩
        have HC : Hid (∀ W, Below wr.heap.size wr W → Calls Tryz.prog 49 #[.slice S n cap, .agg #[.string y.1, .int .i64 y.2, .slice a1 (lenF l1) c1]] W fun e w' => ∃ a' c', e = .returned (.agg #[.string ct.1.1, .int .i64 ct.1.2, .slice a' (lenF ct.2) c']) ∧ OwnTm false (fun q => W.heap.size ≤ q) w' ct.1 a' c' ct.2 ∧ Below W.heap.size W w') := fun W hW => by
          have := IH.out (nodesF l1) (by have := KD.out.less; omega) (y, l1) a1 c1 W (Nat.le_refl _) ((HS.out.below HB.out).below hW) (KD.out.at_.below hW)
          rw [hct] at this
          exact this
        have HCT : Hid (canonT (sgOf l) (y, l1) = ct) := hct
        clear hct
        go_wp2_with (first
          | (go_at_call 49; refine (HC.out _ (Below.refl _ _)).mono ?_; rintro e w2 ⟨a', c', rfl, ho2, hb2⟩; have HO2 : Hid (OwnTm false (fun q => wr.heap.size ≤ q) w2 ct.1 a' c' ct.2) := ho2; have HB2 : Hid (Below wr.heap.size wr w2) := hb2; clear ho2 hb2)
          | (go_at_call 88; refine (parts_any S n cap l f ct a' c' w2 ((HS.out.below HB.out).below HB2.out) HO2.out.tm).mono ?_; rintro e w3 ⟨v3, ms, rfl, ho3, hn3, hm3, hb3⟩; obtain ⟨a3, c3, rfl, hr3, hnil3, hsome3⟩ := ho3.shape hn3; have HO3 : Hid (∀ q ∈ ms, OwnTm false (fun q => wr.heap.size ≤ q) w3 q.x q.a q.c q.l) := fun q hq => (ho3.own q hq).mono (fun b _ hb => Nat.le_trans HB2.out.size hb.1); have HB3 : Hid (Below wr.heap.size wr w3) := HB2.out.trans (hb3.mono HB2.out.size); have HM3 : Hid (ms.map Kv.tn = partsN (sgOf l) f ct) := hm3; have HR3 : Hid (RowAt w3 a3 ms.length ms) := hr3; have HN3 : Hid ((a3 = none → c3 = 0) ∧ (a3 ≠ none → 0 < ms.length)) := ⟨hnil3, hsome3⟩; have HMM : Hid ((ks ++ ms).map Kv.tn = ((canonL (sgOf l) F).take (j + 1)).flatMap (partsN (sgOf l) f)) := (by show _ = _; obtain ⟨B1, O1, sp⟩ := KD.out.split; rw [canonL_take sp, List.flatMap_append, ← HM.out, HCT.out, List.map_append, hm3]; simp); have hfew : ks.length + ms.length ≤ 1048576 := (by have h1 := flat_few (sgOf l) f F (j + 1); rw [← HMM.out, List.length_map, List.length_append] at h1; omega); clear ho3 hn3 hm3 hb3 hr3 hnil3 hsome3)
          | (at_builtin; refine wpList_append_lst rfl _ _ rfl (w.heap.size + 1) v ks rfl (owns_below HL.out.row HB3.out) a3 ms.length c3 ms rfl HR3.out HN3.out.1 HN3.out.2 (by omega) (by have := HB3.out.size; omega) ?_; intro v4 w4 hown4 hgrow4 hat4; have HL4 : Hid (Lst (w.heap.size + 1) w4 v4 (ks ++ ms)) := HL.out.grow HB3.out HO3.out hxl hgrow4 hat4 hown4; have HX4 : Hid (XBox w4 w.heap.size (⟨#[]⟩, 0) (.slice none 0 0)) := (HX.out.below HB3.out).kept hgrow4 (fun e => by have := (owns_cells HL.out.row e.symm).1; omega); have HB4 : Hid (Below w.heap.size w w4) := HB.out.trans ((HB3.out.mono HB.out.size).grown hgrow4 (by have := HB3.out.size; omega) (fun k e => by have := (owns_cells HL.out.row e).1; omega)); clear hown4 hgrow4 hat4))
        go_roundw
        case rel => exact ⟨j + 1, v4, ks ++ ms, by omega, rfl, by go_num, HL4.out, HX4.out, HMM.out, HB4.out⟩
        case measure => simp [intOf]; omega
      · obtain rfl : j = lenF F := by omega
        have HM' : Hid (ks.map Kv.tn = (canonL (sgOf l) F).flatMap (partsN (sgOf l) f)) := by
          have := HM.out
          rwa [List.take_of_length_le (by rw [canonL_map, List.length_map, kids_len]; exact Nat.le_refl _)] at this
        have hfew : ks.length ≤ 1048576 := by
          have h1 := flat_few (sgOf l) f F (lenF F)
          rw [← HM.out, List.length_map] at h1
          omega
        obtain ⟨oa, ocap, rfl, hoc, hocm, hot, honil, hosome⟩ := row_of_owns HL.out.row
        have HOT : Hid (RowAt wr oa ks.length ks) := hot
        have hbx := HX.out
        have r0 := hbx.c0; have r1 := hbx.c1; have r2 := hbx.c2; have f0 := hbx.f (k := 0); have f1 := hbx.f (k := 1); have f2 := hbx.f (k := 2)
        clear hbx hot HM
        rcases ks with _ | ⟨k1, _ | ⟨k2, r⟩⟩
        · cases huo : unitOk l f
          · have e2 : Hid (joinN (sgOf l) f (canonL (sgOf l) F) = none) := by
              show _ = _
              rw [e.out, ← HM'.out]
              unfold unitOk at huo
              show ((unitAt l f).map _).map constT = none
              cases hq : unitAt l f with
              | none => rfl
              | some i => rw [hq] at huo; simp at huo
            have HO : Hid (unitOk l f = false) := huo
            obtain ⟨ui, hui⟩ : ∃ ui, unitI l f = ui := ⟨_, rfl⟩
            have HI : Hid (unitI l f = ui) := hui
            clear huo hui
            go_wp2_with (first
              | (go_at_call 89; refine (HU.out _ HB.out).mono ?_; rintro e w9 ⟨he, hw9⟩; unfold UnitRet at he; rw [HI.out, HO.out] at he; subst he; rw [hw9]; clear hw9))
            refine ret_join (p := 6) (u := 7) rfl rfl (HX.out.all (x := (⟨#[]⟩, 0)) (.slice none 0 0)) rfl ?_
            refine ⟨⟨none, 0, by rw [e2.out]; rfl, ?_⟩, sets_below HB.out (Nat.le_refl _) _ _ _⟩
            rw [e2.out]
            exact (own_nil _ _ (by decide)).sets _ _ _
          · have HO : Hid (unitOk l f = true) := huo
            obtain ⟨ui, hui⟩ : ∃ ui, unitI l f = ui := ⟨_, rfl⟩
            have e2 : Hid (joinN (sgOf l) f (canonL (sgOf l) F) = some (constT ui)) := by
              show _ = _
              rw [e.out, ← HM'.out, ← hui]
              unfold unitOk at huo
              show ((unitAt l f).map _).map constT = _
              cases hq : unitAt l f with
              | none => rw [hq] at huo; simp at huo
              | some i => simp [unitI, hq]
            have HI : Hid (unitI l f = ui) := hui
            clear huo hui
            go_wp2_with (first
              | (go_at_call 89; refine (HU.out _ HB.out).mono ?_; rintro e w9 ⟨he, hw9⟩; unfold UnitRet at he; rw [HI.out, HO.out] at he; subst he; rw [hw9]; clear hw9))
            refine ret_join (p := 6) (u := 7) rfl rfl (HX.out.all (x := (⟨#[]⟩, ui)) (.slice none 0 0)) rfl ?_
            refine ⟨⟨none, 0, by rw [e2.out]; rfl, ?_⟩, sets_below HB.out (Nat.le_refl _) _ _ _⟩
            rw [e2.out]
            exact (own_nil _ _ (show noB.size ≤ maxLen by decide)).sets _ _ _
        · have e2 : Hid (joinN (sgOf l) f (canonL (sgOf l) F) = some (k1.x, k1.l)) := by show _ = _; rw [e.out, ← HM'.out]; rfl
          have HO1 : Hid (OwnTm false (fun q => w.heap.size + 1 ≤ q) wr k1.x k1.a k1.c k1.l) := (HL.out.own k1 (by simp)).mono (fun q _ hq => hq.1)
          obtain ⟨b, off, rfl, s0, s1, s2⟩ := HOT.out.get (j := 0) (k := k1) rfl
          obtain ⟨_, rfl, _⟩ := hosome _ _ _ rfl
          simp only [Nat.zero_mul, Nat.zero_add, Nat.add_zero] at s0 s1 s2
          clear honil hosome
          go_wp2
          refine ret_join (p := 6) (u := 7) rfl rfl (HX.out.all (x := k1.x) (.slice k1.a (lenF k1.l) k1.c)) rfl ?_
          refine ⟨⟨k1.a, k1.c, by rw [e2.out]; rfl, ?_⟩, sets_below HB.out (Nat.le_refl _) _ _ _⟩
          rw [e2.out]
          exact HO1.out.sets _ _ _
        · have e2 : Hid (joinN (sgOf l) f (canonL (sgOf l) F) = some ((noB, f), mkF (sortN ((k1 :: k2 :: r).map Kv.tn)))) := by show _ = _; rw [e.out, ← HM'.out]; rfl
          obtain ⟨ks, hks⟩ : ∃ ks, k1 :: k2 :: r = ks := ⟨_, rfl⟩
          have hlen : ks.length = r.length + 2 := by rw [← hks]; rfl
          clear honil hosome
          rw [hks] at e2 HM' hfew HL hoc HOT ⊢
          have HSo := sorted_any oa ks.length ocap ks wr HOT.out (fun q hq => (HL.out.own q hq).tm) (by omega)
          have HSO : Hid (Calls Tryz.prog 90 #[.slice oa ks.length ocap] wr fun e w' => ∃ v out, e = .returned v ∧ w'.ownsRow wr.heap.size 27 3 v out.length (kvCells out) ∧ (∀ k ∈ out, k ∈ ks) ∧ out.map Kv.tn = sortN (ks.map Kv.tn) ∧ Below wr.heap.size wr w') := HSo
          clear HSo hks
          obtain ⟨m, hm⟩ : ∃ m, ks.length = m := ⟨_, rfl⟩
          rw [hm] at HSO hfew hlen hoc ⊢
          have hm1 : ((m : Int) == 1) = false := by simp; omega
          have hm0 : ((m : Int) == 0) = false := by simp; omega
          clear hlen
          have HMm : Hid (ks.length = m) := hm
          clear hm
          go_wp2_with (first
            | (go_at_call 90; refine HSO.out.mono ?_; rintro e w5 ⟨v5, out, rfl, ho5, hi5, hm5, hb5⟩; have hl5 := HL.out.sorted hxl hb5 ho5 hi5; obtain ⟨a5, c5, rfl, hown5⟩ := hl5.term (F := mkF (sortN (ks.map Kv.tn))) (noB, f) (by rw [hm5, kids_mk]) (show noB.size ≤ maxLen by decide) (by rw [len_mk, sortN_len, List.length_map, HMm.out]; omega); have HO5 : Hid (OwnTm false (fun q => w.heap.size + 1 ≤ q) w5 (noB, f) a5 c5 (mkF (sortN (ks.map Kv.tn)))) := hown5; have HX5 : Hid (XBox w5 w.heap.size (⟨#[]⟩, 0) (.slice none 0 0)) := HX.out.below hb5; have HB5 : Hid (Below w.heap.size w w5) := HB.out.trans (hb5.mono HB.out.size); clear r0 r1 r2 f0 f1 f2; have r0 := HX5.out.c0; have r1 := HX5.out.c1; have r2 := HX5.out.c2; have f0 := HX5.out.f (k := 0); have f1 := HX5.out.f (k := 1); have f2 := HX5.out.f (k := 2); clear ho5 hi5 hm5 hb5 hl5 hown5))
          refine ret_join (p := 6) (u := 7) rfl rfl (HX5.out.all (x := (⟨#[]⟩, f)) (.slice a5 (lenF (mkF (sortN (ks.map Kv.tn)))) c5)) rfl ?_
          refine ⟨⟨a5, c5, by rw [e2.out]; rfl, ?_⟩, sets_below HB5.out (Nat.le_refl _) _ _ _⟩
          rw [e2.out]
          exact HO5.out.sets _ _ _
end Go.Proofs.YtgidgmgpgfonnaaGreat
/- What the document's Canon answers, of any term. -/
namespace Go.Proofs.YtgidgmgpgfonnaaGreat
open Go.RowKit Go.Deep

set_option maxRecDepth 100000 in
set_option maxHeartbeats 2000000 in
theorem canon_of {S : Option Addr} {n cap : Nat} {l : List Sym} {k : Nat} (ih : ∀ j, j < k → CanonOk S n cap l j) (hJ : JoinOk S n cap l k) : CanonOk S n cap l k := by
  rintro ⟨⟨nm, sy⟩, F⟩ a c w hF hS hT
  have HS : Hid (SigAt w S n l) := hS
  have HT : Hid (TmAt w (nm, sy) a c F) := hT
  have IH : Hid (∀ j, j < k → CanonOk S n cap l j) := ih
  have HJ : Hid (∀ W, Below w.heap.size w W → Calls Tryz.prog 70 #[.slice S n cap, .int .i64 sy] W fun e w' => e = .returned (.bool (joinsAt l sy)) ∧ w' = W) := fun W hW => joins_still S n cap l sy W (HS.out.below hW)
  have HJo : Hid (∀ W, Below w.heap.size w W → Calls Tryz.prog 71 #[.slice S n cap, .int .i64 sy, .slice a (lenF F) c] W fun e w' => JoinRet W.heap.size w' (joinN (sgOf l) sy (canonL (sgOf l) F)) e ∧ Below W.heap.size W w') := fun W hW => hJ sy F a c W hF (HS.out.below hW) (HT.out.args.below hW)
  have HB0 : Hid (Below w.heap.size w ((w.alloc (.cells #[.string nm, .int .i64 sy, .slice a (lenF F) c] 27)).alloc (.cells #[.string ⟨#[]⟩, .int .i64 0, .slice none 0 0] 27))) := ((Below.refl _ w).alloc (Nat.le_refl _) _).alloc (by simp) _
  have hfew := HT.out.sizes.few
  have hnm := HT.out.sizes.name
  clear hS hT ih hJ
  cases hn : nm.toList.isEmpty
  · have e : Hid (canonT (sgOf l) ((nm, sy), F) = ((nm, 0), .nil)) := by show _ = _; unfold canonT canon1; rw [if_pos (show noName ((nm, sy), F).1.1 = false from hn)]
    have HBn : Hid (Below w.heap.size w ((w.alloc (.cells #[.string nm, .int .i64 sy, .slice a (lenF F) c] 27)).alloc (.cells #[.string nm, .int .i64 0, .slice none 0 0] 27))) := ((Below.refl _ w).alloc (Nat.le_refl _) _).alloc (by simp) _
    go_enter Tryz.func49, Tryz.ntmps49
    go_wp2
    refine bodyPost_ret (results_cell_row rfl _ _ (w.heap.size + 1) 27 #[.string nm, .int .i64 0, .slice none 0 0] (0, 0) _ rfl (heap_alloc2_new w _ _) Tryz.underlying27 rfl Tryz.size27) rfl ?_
    refine ⟨none, 0, by rw [e.out]; rfl, ?_, HBn.out⟩
    rw [e.out]
    exact own_nil _ _ hnm
  · have hnb : nm = noB := noName_eq hn
    subst hnb
    have HXt : Hid (TBox ((w.alloc (.cells #[.string noB, .int .i64 sy, .slice a (lenF F) c] 27)).alloc (.cells #[.string ⟨#[]⟩, .int .i64 0, .slice none 0 0] 27)) w.heap.size (noB, sy) a (lenF F) c) := (TBox.new w (noB, sy) a (lenF F) c).below ((Below.refl _ _).alloc (Nat.le_refl _) _)
    have HXr : Hid (XBox ((w.alloc (.cells #[.string noB, .int .i64 sy, .slice a (lenF F) c] 27)).alloc (.cells #[.string ⟨#[]⟩, .int .i64 0, .slice none 0 0] 27)) (w.heap.size + 1) (⟨#[]⟩, 0) (.slice none 0 0)) := heap_alloc2_new w _ _
    cases hj : joinsAt l sy
    · obtain ⟨G, hG⟩ : ∃ G, mkF (canonL (sgOf l) F) = G := ⟨_, rfl⟩
      have e : Hid (canonT (sgOf l) ((noB, sy), F) = ((noB, sy), G)) := by show _ = _; unfold canonT canon1; rw [if_neg (show ¬ noName ((noB, sy), F).1.1 = false by show ¬ noName noB = false; rw [noName_noB]; simp), if_neg (show ¬ (sgOf l).joins ((noB, sy), F).1.2 = true by show ¬ joinsAt l sy = true; rw [hj]; simp), hG]
      have HGk : Hid (kidsL G = canonL (sgOf l) F) := by show _ = _; rw [← hG, kids_mk]
      have hGl : lenF G = lenF F := by rw [← hG, len_mk, canonL_map, List.length_map, kids_len]
      obtain ⟨i0, hi, hz0, hz1, hz2⟩ := info_parts Tryz.info27
      rw [hj] at HJ
      clear hG
      go_enter Tryz.func49, Tryz.ntmps49
      go_wp2_with (first
        | (go_at_call 70; refine (HJ.out _ HB0.out).mono ?_; rintro e w9 ⟨rfl, hw9⟩; rw [hw9]; clear hw9))
      go_loopw [8] (fun i wr => ∃ (j : Nat) (v : Value) (ks : List Kv), j ≤ lenF F ∧ i = .int .i64 j ∧ Three w (noB, sy) a (lenF F) c wr v ∧ Built false w wr v j ks ∧ ks.map (fun k => (k.x, k.l)) = (canonL (sgOf l) F).take j) (fun i _ => lenF F - (intOf i).toNat)
      case atStart => exact ⟨0, _, [], Nat.zero_le _, rfl, Three.new w (noB, sy) a (lenF F) c, ⟨World.ownsRow_nil _ _ _ _, by simp⟩, by simp⟩
      case round =>
        obtain ⟨j, v, ks, hj, rfl, hTh, hBu, hks⟩ := hrel
        have hb := hTh.low
        have bT := hTh.t
        have bX := hTh.x
        have hrow := hBu.row
        have t2 := bT.c2
        have hn : lenF F ≤ 9223372036854775807 := by omega
        by_cases hlt : j < lenF F
        · obtain ⟨bb, oo, rfl, hkk⟩ := HT.out.args.get (by omega)
          obtain ⟨y, a1, c1, l1, kd⟩ := hkk.kid (k := j) hlt
          have kd' := kd.below hb
          have X0 : Hid (XBox wr (w.heap.size + 1 + 1) (noB, sy) v) := bX
          have cX := X0.out.c2
          have hbb : bb < w.heap.size := World.block_lt_of_cell? w _ kd.name
          have p0 := kd'.name; have p1 := kd'.sym; have p2 := kd'.list
          obtain ⟨ct, hct⟩ : ∃ ct, canonT (sgOf l) (y, l1) = ct := ⟨_, rfl⟩
          have hIH := IH.out (nodesF l1) (by have := kd.less; omega) (y, l1) a1 c1 wr.drew (Nat.le_refl _) ((HS.out.below hb).below ((Below.refl _ wr).drew)) (kd'.at_.kept (fun _ _ h => h))
          rw [hct] at hIH
          have HIH : Hid (Calls Tryz.prog 49 #[.slice S n cap, .agg #[.string y.1, .int .i64 y.2, .slice a1 (lenF l1) c1]] wr.drew fun e w' => ∃ a' c', e = .returned (.agg #[.string ct.1.1, .int .i64 ct.1.2, .slice a' (lenF ct.2) c']) ∧ OwnTm false (fun q => wr.heap.size ≤ q) w' ct.1 a' c' ct.2 ∧ Below wr.heap.size wr.drew w') := hIH
          have HCT : Hid (canonT (sgOf l) (y, l1) = ct) := hct
          have HR : Hid (wr.ownsRow (w.heap.size + 3) 27 3 v j (kvCells ks)) := hrow
          have HB : Hid (Below w.heap.size w wr) := hb
          have TH : Hid (Three w (noB, sy) (some ⟨bb, oo, none⟩) (lenF F) c wr v) := hTh
          have BU : Hid (Built false w wr v j ks) := hBu
          have HK : Hid (ks.map (fun k => (k.x, k.l)) = (canonL (sgOf l) F).take j) := hks
          have KD : Hid (Kid w F bb oo j y a1 c1 l1) := kd
          have hmax : maxLen = 9223372036854775807 := rfl
          have hXlt : w.heap.size + 1 + 1 < wr.heap.size := X0.out.lt
          clear hIH kd' hkk kd hrow hb hTh hBu hks bT bX hct
          go_wp2_with fail
          go_region_law
            ((first
              | (refine step_append_lies _ (by rfl) _ _ 25 (by rfl) (w.heap.size + 3) 27 i0 _ 3 48 Tryz.underlying25 hi hz0 hz1 hz2 rfl (by decide) v j (kvCells ks) (by rfl) (owns_below (owns_below HR.out HW1.out) ((Below.refl _ _).alloc (Nat.le_refl _) _)) ⟨w1.heap.size, 0, none⟩ 1 1 (Kv.cells ⟨ct.1, ct.2, a', c'⟩) (by rfl) rfl (World.news_of_block (heap_alloc_new w1 _)) (kv_one _) (by decide) (by omega) (by omega) (by have := HW1.out.size; simp; omega) _ rfl ?_; intro g3 cap3 w3 hown3 hgrow3 hat3 hlt3; have X3 : Hid (XBox w3 (w.heap.size + 1 + 1) (noB, sy) v) := X2.out.kept hgrow3 (fun e => by have := (owns_cells HR.out e.symm).1; omega); have cX3 := X3.out.c2; have fX3 := X3.out.f (k := 2); have HO3 : Hid (w3.ownsRow (w.heap.size + 3) 27 3 (.slice (some ⟨g3, 0, none⟩) (j + 1) cap3) (j + 1) (kvCells ks ++ Kv.cells ⟨ct.1, ct.2, a', c'⟩)) := hown3; have HG3 : Hid ((w1.alloc (.cells #[.string ct.1.1, .int .i64 ct.1.2, .slice a' (lenF ct.2) c'] 27)).grownBy w3 v.ownBlock ∧ (v.ownBlock = some g3 ∨ g3 = w1.heap.size + 1)) := ⟨hgrow3, by simpa using hat3⟩; clear hown3 hgrow3 hat3)
              | (go_simp; go_wp2_with (go_at_call 49; refine HIH.out.mono ?_; rintro e w1 ⟨a', c', rfl, ho1, hb1⟩; have HO1 : Hid (OwnTm false (fun k => wr.heap.size ≤ k) w1 ct.1 a' c' ct.2) := ho1; have HW1 : Hid (Below wr.heap.size wr w1) := ((Below.refl _ wr).drew).trans hb1; have X1 : Hid (XBox w1 (w.heap.size + 1 + 1) (noB, sy) v) := X0.out.below HW1.out; have cX1 := X1.out.c2; have X2 : Hid (XBox (w1.alloc (.cells #[.string ct.1.1, .int .i64 ct.1.2, .slice a' (lenF ct.2) c'] 27)) (w.heap.size + 1 + 1) (noB, sy) v) := X1.out.below ((Below.refl _ _).alloc (Nat.le_refl _) _); have cX2 := X2.out.c2; clear ho1 hb1))
              | fail))
          all_goals
            go_wp2
            go_roundw
            case rel =>
              obtain ⟨h1, h2⟩ := build_step (kv := ⟨ct.1, ct.2, a', c'⟩) TH.out BU.out HW1.out HO1.out HG3.out.1 HG3.out.2 HO3.out
              obtain ⟨B1, O1, sp⟩ := KD.out.split
              exact ⟨j + 1, _, _, by omega, by go_num, h1, h2, by rw [canonL_take sp, ← HK.out, HCT.out]; simp⟩
            case measure => simp [intOf]; omega
        · have hjl : j = lenF F := by omega
          subst hjl
          have hks' : ks.map (fun k => (k.x, k.l)) = kidsL G := by rw [hks, HGk.out, List.take_of_length_le (by rw [canonL_map, List.length_map, kids_len]; exact Nat.le_refl _)]
          have hBu' : Built false w wr v (lenF G) ks := by rw [hGl]; exact hBu
          obtain ⟨a3, c3, rfl, hrt⟩ := built_done (x := (noB, sy)) hBu' hks' hnm (by rw [hGl]; exact hfew)
          have x0 := bX.c0; have x1 := bX.c1; have x2 := bX.c2
          have R4 : XBox wr (w.heap.size + 1) (⟨#[]⟩, 0) (.slice none 0 0) := hTh.r
          have r0 := R4.c0
          have r1 := R4.c1
          have r2 := R4.c2
          have f0 := R4.f (k := 0)
          have f1 := R4.f (k := 1)
          have f2 := R4.f (k := 2)
          have HR4 : Hid (XBox wr (w.heap.size + 1) (⟨#[]⟩, 0) (.slice none 0 0)) := R4
          have HL : Hid (Below w.heap.size w wr) := hb
          have HRT : Hid (RowTm (w.heap.size + 3) wr (noB, sy) a3 c3 G) := hrt
          clear R4 hTh hBu hBu' hks hks' hb bT bX hrow hrt
          go_wp2
          refine bodyPost_ret (results_cell_row rfl _ _ (w.heap.size + 1) 27 #[.string noB, .int .i64 sy, .slice a3 (lenF F) c3] (0, 0) _ rfl (HR4.out.all (x := (noB, sy)) _) Tryz.underlying27 rfl Tryz.size27) rfl ?_
          refine ⟨a3, c3, by rw [e.out, hGl], ?_, sets_below HL.out (by omega) _ _ _⟩
          rw [e.out]
          have h5 : OwnTm false (fun q => w.heap.size + 1 + 1 ≤ q) wr (noB, sy) a3 c3 G := HRT.out.own.mono (fun q _ hq => by omega)
          exact (h5.sets _ _ _).mono (fun q _ hq => by omega)
    · have e : Hid (canonT (sgOf l) ((noB, sy), F) = (joinN (sgOf l) sy (canonL (sgOf l) F)).getD (constT sy)) := by show _ = _; unfold canonT canon1; rw [if_neg (show ¬ noName ((noB, sy), F).1.1 = false by show ¬ noName noB = false; rw [noName_noB]; simp), if_pos (show (sgOf l).joins ((noB, sy), F).1.2 = true from hj)]
      rw [hj] at HJ
      obtain ⟨W0, hW0⟩ : ∃ W0, (w.alloc (.cells #[.string noB, .int .i64 sy, .slice a (lenF F) c] 27)).alloc (.cells #[.string ⟨#[]⟩, .int .i64 0, .slice none 0 0] 27) = W0 := ⟨_, rfl⟩
      rw [hW0] at HB0 HXt HXr
      obtain ⟨r, hr⟩ : ∃ r, joinN (sgOf l) sy (canonL (sgOf l) F) = r := ⟨_, rfl⟩
      rw [hr] at e HJo
      clear hr
      have t0 := HXt.out.c0; have t1 := HXt.out.c1; have t2 := HXt.out.c2
      have hz0 : W0.heap.size = w.heap.size + 1 + 1 := by rw [← hW0]; simp
      cases r with
      | none =>
        go_enter Tryz.func49, Tryz.ntmps49
        go_wp2_with (first
          | (rw [hW0])
          | (go_at_call 70; refine (HJ.out _ HB0.out).mono ?_; rintro e w9 ⟨rfl, hw9⟩; rw [hw9]; clear hw9)
          | (go_at_call 71; refine (HJo.out _ HB0.out).mono ?_; rintro e w2 ⟨⟨a2, c2, rfl, ho2⟩, hb2⟩; have HO2 : Hid (OwnTm false (fun q => w.heap.size + 1 + 1 ≤ q) w2 zeroT.1 a2 c2 zeroT.2) := ho2.mono (fun q _ hq => by rw [hz0] at hq; exact hq); have hba : Below w2.heap.size w2 (w2.alloc (.cells #[.string zeroT.1.1, .int .i64 zeroT.1.2, .slice a2 (lenF zeroT.2) c2] 27)) := (Below.refl _ _).alloc (Nat.le_refl _) _; have HB3 : Hid (Below w.heap.size w (w2.alloc (.cells #[.string zeroT.1.1, .int .i64 zeroT.1.2, .slice a2 (lenF zeroT.2) c2] 27))) := HB0.out.trans ((hb2.trans (hba.mono hb2.size)).mono HB0.out.size); have HO3 : Hid (OwnTm false (fun q => w.heap.size + 1 + 1 ≤ q) (w2.alloc (.cells #[.string zeroT.1.1, .int .i64 zeroT.1.2, .slice a2 (lenF zeroT.2) c2] 27)) zeroT.1 a2 c2 zeroT.2) := HO2.out.below hba; have ht := (HXt.out.below hb2).below hba; have hrr := (HXr.out.below hb2).below hba; have HR3 : Hid (XBox (w2.alloc (.cells #[.string zeroT.1.1, .int .i64 zeroT.1.2, .slice a2 (lenF zeroT.2) c2] 27)) (w.heap.size + 1) (⟨#[]⟩, 0) (.slice none 0 0)) := hrr; have q0 := ht.c0; have q1 := ht.c1; have q2 := ht.c2; have r0 := hrr.c0; have r1 := hrr.c1; have r2 := hrr.c2; have f0 := hrr.f (k := 0); have f1 := hrr.f (k := 1); have f2 := hrr.f (k := 2); clear ht hrr hba ho2 hb2))
        refine bodyPost_ret (results_cell_row rfl _ _ (w.heap.size + 1) 27 #[.string noB, .int .i64 sy, .slice none 0 0] (0, 0) _ rfl (HR3.out.all (x := (noB, sy)) _) Tryz.underlying27 rfl Tryz.size27) rfl ?_
        refine ⟨none, 0, by rw [e.out]; rfl, ?_, sets_below HB3.out (by omega) _ _ _⟩
        rw [e.out]
        exact own_nil _ _ (show noB.size ≤ maxLen by decide)
      | some t =>
        go_enter Tryz.func49, Tryz.ntmps49
        go_wp2_with (first
          | (rw [hW0])
          | (go_at_call 70; refine (HJ.out _ HB0.out).mono ?_; rintro e w9 ⟨rfl, hw9⟩; rw [hw9]; clear hw9)
          | (go_at_call 71; refine (HJo.out _ HB0.out).mono ?_; rintro e w2 ⟨⟨a2, c2, rfl, ho2⟩, hb2⟩; have HO2 : Hid (OwnTm false (fun q => w.heap.size + 1 + 1 ≤ q) w2 t.1 a2 c2 t.2) := ho2.mono (fun q _ hq => by rw [hz0] at hq; exact hq); have hba : Below w2.heap.size w2 (w2.alloc (.cells #[.string t.1.1, .int .i64 t.1.2, .slice a2 (lenF t.2) c2] 27)) := (Below.refl _ _).alloc (Nat.le_refl _) _; have HB3 : Hid (Below w.heap.size w (w2.alloc (.cells #[.string t.1.1, .int .i64 t.1.2, .slice a2 (lenF t.2) c2] 27))) := HB0.out.trans ((hb2.trans (hba.mono hb2.size)).mono HB0.out.size); have HO3 : Hid (OwnTm false (fun q => w.heap.size + 1 + 1 ≤ q) (w2.alloc (.cells #[.string t.1.1, .int .i64 t.1.2, .slice a2 (lenF t.2) c2] 27)) t.1 a2 c2 t.2) := HO2.out.below hba; have ht := (HXt.out.below hb2).below hba; have hrr := (HXr.out.below hb2).below hba; have HR3 : Hid (XBox (w2.alloc (.cells #[.string t.1.1, .int .i64 t.1.2, .slice a2 (lenF t.2) c2] 27)) (w.heap.size + 1) (⟨#[]⟩, 0) (.slice none 0 0)) := hrr; have q0 := ht.c0; have q1 := ht.c1; have q2 := ht.c2; have r0 := hrr.c0; have r1 := hrr.c1; have r2 := hrr.c2; have f0 := hrr.f (k := 0); have f1 := hrr.f (k := 1); have f2 := hrr.f (k := 2); clear ht hrr hba ho2 hb2))
        refine bodyPost_ret (results_cell_row rfl _ _ (w.heap.size + 1) 27 #[.string t.1.1, .int .i64 t.1.2, .slice a2 (lenF t.2) c2] (0, 0) _ rfl (HR3.out.all (x := t.1) _) Tryz.underlying27 rfl Tryz.size27) rfl ?_
        refine ⟨a2, c2, by rw [e.out]; rfl, ?_, sets_below HB3.out (by omega) _ _ _⟩
        rw [e.out]
        exact (HO3.out.sets _ _ _).mono (fun q _ hq => by omega)

set_option maxRecDepth 100000 in
theorem canon_all (S : Option Addr) (n cap : Nat) (l : List Sym) : ∀ k, k ≤ 1048576 → CanonOk S n cap l k := by
  intro k
  induction k using Nat.strongRecOn with
  | _ k ih =>
    intro hk
    have h : ∀ j, j < k → CanonOk S n cap l j := fun j hj => ih j hj (by omega)
    exact canon_of h (join_of hk h)
set_option maxRecDepth 100000 in
theorem join_all (S : Option Addr) (n cap : Nat) (l : List Sym) (k : Nat) (hk : k ≤ 1048576) : JoinOk S n cap l k := join_of hk fun j hj => canon_all S n cap l j (by omega)
end Go.Proofs.YtgidgmgpgfonnaaGreat
