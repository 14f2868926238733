import Derived.Test.YtfnfbljijkjkjaaGreatKSrP
/- The document's Get. -/
namespace Go.Proofs.YtfnfbljijkjkjaaGreat
open Go.RowKit Go.Deep Go.Shelf

theorem name_eq {a b : ByteArray} (h : (a.toList == b.toList) = true) : a = b := by
  have h1 : a.toList = b.toList := eq_of_beq h
  rw [ByteArray.toList_eq, ByteArray.toList_eq] at h1
  exact Go.WideShapes.bytes_inj h1
/-- The first bind of a name. -/
def getB (bs : List Bn) (s : ByteArray) : Option Tn := (bs.find? fun b => decide (b.1 = s)).map (·.2)
/-- What Get tells: a term in memory, and whether it stands for the name. -/
def GetEnd (bs : List Bn) (s : ByteArray) (w : World) (e : Ending) (w' : World) : Prop := Below w.heap.size w w' ∧
  ((getB bs s = none ∧ e = .returned (.tuple #[.agg #[.string s, .int .i64 0, .slice none 0 0], .bool false])) ∨ ∃ t a c, getB bs s = some t ∧ TmAt w t.1 a c t.2 ∧ e = .returned (.tuple #[.agg #[.string t.1.1, .int .i64 t.1.2, .slice a (lenF t.2) c], .bool true]))
set_option maxRecDepth 100000 in
set_option maxHeartbeats 2000000 in
theorem rget_any (p : Option Addr) (bcap : Nat) (bs : List Bn) (s : ByteArray) (w : World) (hB : BindsAt w p bs.length bs) (hn : bs.length ≤ 1048576) :
    Calls Tryz.prog 32 #[.slice p bs.length bcap, .string s] w (GetEnd bs s w) := by
  have HB := hid hB
  have b0 := alloc_below0 w (.cells #[.string ⟨#[]⟩, .int .i64 0, .slice none 0 0] 26)
  have X0 : XBox (w.alloc (.cells #[.string ⟨#[]⟩, .int .i64 0, .slice none 0 0] 26)) w.heap.size (⟨#[]⟩, 0) (.slice none 0 0) := World.alloc_heap_new w _
  have HL := hid b0; have HX := hid X0
  clear hB b0 X0
  go_enter Tryz.func32, Tryz.ntmps32
  go_wp2_with fail
  generalize w.alloc (.cells #[.string ⟨#[]⟩, .int .i64 0, .slice none 0 0] 26) = V at HL HX ⊢
  go_loopw [6] (fun iv wr => ∃ i : Nat, i ≤ bs.length ∧ iv = .int .i64 i ∧ wr = V ∧ ∀ b ∈ bs.take i, b.1 ≠ s) (fun iv _ => bs.length - (intOf iv).toNat)
  case atStart => exact ⟨0, Nat.zero_le _, rfl, rfl, by simp⟩
  case round =>
    obtain ⟨i, hi, rfl, rfl, hno⟩ := hrel
    by_cases hlt : i < bs.length
    · obtain ⟨b1, o1, a1, c1, rfl, hbw⟩ := HB.out.cells i hlt
      have hbd := hbw.below HL.out
      obtain ⟨⟨vn, ⟨x, l⟩⟩, hyy⟩ : ∃ y, bs[i] = y := ⟨_, rfl⟩
      rw [hyy] at hbd hbw
      have p0 := hbd.var; have p1 := hbd.name; have p2 := hbd.sym; have p3 := hbd.list
      dsimp only at p0 p1 p2 p3
      have r0 := HX.out.c0; have r1 := HX.out.c1; have r2 := HX.out.c2
      have g0 := HX.out.f (k := 0); have g1 := HX.out.f (k := 1); have g2 := HX.out.f (k := 2)
      cases ht : (vn.toList == s.toList) with
      | true =>
        obtain rfl := name_eq ht
        have hf : bs.find? (fun b => decide (b.1 = vn)) = some (vn, (x, l)) := List.find?_eq_some_iff_append.2 ⟨by simp, bs.take i, bs.drop (i + 1), by rw [← hyy]; rw [← List.drop_eq_getElem_cons hlt, List.take_append_drop], fun b hb => by simpa using hno b hb⟩
        have hg : getB bs vn = some (x, l) := by
          unfold getB
          rw [hf]
          rfl
        have HG := hid hg
        have HT := hid hbw.tm
        clear hbd hbw HB hg hf
        go_wp2_with fail
        refine bodyPost_ret (results_ct rfl rfl (load26 (HX.out.all (x := x) _))) rfl ?_
        exact ⟨sets_below HL.out (by omega) _ _ _, .inr ⟨(x, l), a1, c1, HG.out, HT.out, rfl⟩⟩
      | false =>
        have hs : vn ≠ s := fun e => by rw [e] at ht; simp at ht
        clear hbd hbw HB
        go_wp2_with fail
        refine ⟨⟨i + 1, by omega, rfl, trivial, fun b hb => ?_⟩, by simp [intOf]; omega⟩
        rw [List.take_succ_eq_append_getElem hlt] at hb
        rcases List.mem_append.1 hb with hb | hb
        · exact hno b hb
        · rw [List.mem_singleton.1 hb, hyy]
          exact hs
    · have hg : getB bs s = none := by
        unfold getB
        rw [List.take_of_length_le (by omega)] at hno
        rw [List.find?_eq_none.2 (fun b hb => by simpa using hno b hb)]
        rfl
      have r0 := HX.out.c0; have r1 := HX.out.c1; have r2 := HX.out.c2
      have g0 := HX.out.f (k := 0); have g1 := HX.out.f (k := 1); have g2 := HX.out.f (k := 2)
      go_wp2_with fail
      refine bodyPost_ret (results_ct rfl rfl (load26 (HX.out.all (x := (s, 0)) _))) rfl ?_
      exact ⟨sets_below HL.out (by omega) _ _ _, .inl ⟨hg, rfl⟩⟩
end Go.Proofs.YtfnfbljijkjkjaaGreat
/- The document's grown. -/
namespace Go.Proofs.YtfnfbljijkjkjaaGreat
open Go.RowKit Go.Deep Go.Shelf

/-- How many nodes stand for a name. -/
def szB (bs : List Bn) (s : ByteArray) : Nat := match getB bs s with | some t => nodesF t.2 + 1 | none => 1
def growF (bs : List Bn) : Fo → Int → Int
  | .nil, r => r
  | .node _ _ x l s, r => if r < 0 then r else growF bs s (if noName x.1 = true then growF bs l (r - 1) else r - szB bs x.1)
def growN (bs : List Bn) (x : ByteArray × Int) (l : Fo) (r : Int) : Int := if noName x.1 = true then growF bs l (r - 1) else r - szB bs x.1
theorem growF_neg (bs : List Bn) (F : Fo) (r : Int) (h : r < 0) : growF bs F r = r := by
  cases F with
  | nil => rfl
  | node => unfold growF; rw [if_pos h]
theorem growF_bd (bs : List Bn) (hs : ∀ s, szB bs s ≤ 1048577) : ∀ (F : Fo) (r : Int), -1048578 ≤ r → -1048578 ≤ growF bs F r ∧ growF bs F r ≤ r
  | .nil, r, h => ⟨h, Int.le_refl _⟩
  | .node _ _ x l s, r, h => by
    unfold growF
    split
    · omega
    · have h1 : -1048578 ≤ (if noName x.1 = true then growF bs l (r - 1) else r - szB bs x.1) ∧ (if noName x.1 = true then growF bs l (r - 1) else r - szB bs x.1) ≤ r := by
        split
        · have := growF_bd bs hs l (r - 1) (by omega)
          omega
        · have := hs x.1
          omega
      have h2 := growF_bd bs hs s _ h1.1
      omega
def GrowOk (bs : List Bn) (k : Nat) : Prop := ∀ (x : ByteArray × Int) (l : Fo) (a : Option Addr) (c : Nat) (p : Option Addr) (bcap : Nat) (room : Int) (w : World), nodesF l ≤ k → TmAt w x a c l → BindsAt w p bs.length bs → 0 ≤ room → room ≤ 400 →
  Calls Tryz.prog 25 #[.slice p bs.length bcap, .agg #[.string x.1, .int .i64 x.2, .slice a (lenF l) c], .int .i64 room] w fun e w' => e = .returned (.int .i64 (growN bs x l room)) ∧ Below w.heap.size w w'
set_option maxRecDepth 100000 in
set_option maxHeartbeats 2000000 in
theorem grow_all (bs : List Bn) (hn : bs.length ≤ 1048576) (hnd : ∀ b ∈ bs, nodesF b.2.2 ≤ 1048576) : ∀ k, GrowOk bs k := by
  have hsz : ∀ s, szB bs s ≤ 1048577 := fun s => by
    unfold szB
    cases h : getB bs s with
    | none => simp
    | some t =>
      unfold getB at h
      cases hf : bs.find? (fun b => decide (b.1 = s)) with
      | none => rw [hf] at h; cases h
      | some b =>
        rw [hf] at h
        have h1 : b.2 = t := Option.some.inj h
        have h2 := hnd b (List.mem_of_find?_eq_some hf)
        rw [h1] at h2
        simp only
        omega
  intro k
  induction k using Nat.strongRecOn with
  | _ k ih =>
    intro x l a c p bcap room w hk hT hB hr0 hr4
    have HT := hid hT
    have HB := hid hB
    have IH : Hid (∀ j, j < k → GrowOk bs j) := ih
    have O0 := hid (One.new w x a (lenF l) c)
    have b0 := alloc_below0 w (.cells #[.string x.1, .int .i64 x.2, .slice a (lenF l) c] 26)
    have hn0 := len_nodes l
    have hln : lenF l ≤ 2932031007402 := by have := hT.sizes.few; omega
    have t0 := O0.out.t.c0; have t1 := O0.out.t.c1; have t2 := O0.out.t.c2
    have HG := hid (rget_any p bcap bs x.1 (w.alloc (.cells #[.string x.1, .int .i64 x.2, .slice a (lenF l) c] 26)) (hB.below b0) hn)
    clear hT hB ih b0
    cases hnm : noName x.1 with
    | true =>
      have hnm' : x.1.toList.isEmpty = true := hnm
      have HN : Hid (growN bs x l room = growF bs l (room - 1)) := hid (by unfold growN; rw [if_pos hnm])
      clear HG
      go_enter Tryz.func25, Tryz.ntmps25
      go_wp2_with fail
      generalize w.alloc (.cells #[.string x.1, .int .i64 x.2, .slice a (lenF l) c] 26) = V at O0 t0 t1 t2 ⊢
      go_loopw [2, 9] (fun rv iv wr => ∃ (j : Nat) (r : Int), j ≤ lenF l ∧ rv = .int .i64 r ∧ iv = .int .i64 j ∧ -1048578 ≤ r ∧ r ≤ 400 ∧ One w x a (lenF l) c wr ∧ growF bs (dropF j l) r = growF bs l (room - 1)) (fun _ iv _ => lenF l - (intOf iv).toNat)
      case atStart => exact ⟨0, room - 1, Nat.zero_le _, rfl, rfl, by omega, by omega, O0.out, by rw [drop_zero]⟩
      case round =>
        obtain ⟨j, r, hj, rfl, rfl, hr1, hr2, hO, hm⟩ := hrel
        have HO := hid hO
        have t2 := hO.t.c2
        by_cases hlt : j < lenF l
        · obtain ⟨b1, o1, rfl, hk1⟩ := HT.out.args.get (by omega)
          obtain ⟨z, a1, c1, l1, kd⟩ := hk1.kid (k := j) hlt
          have kd' := kd.below hO.low
          obtain ⟨B1, O1', s1⟩ := kd.split
          rw [s1] at hm
          have p0 := kd'.name; have p1 := kd'.sym; have p2 := kd'.list
          by_cases hr : r < 0
          · rw [growF_neg bs _ r hr] at hm
            clear kd kd' s1 hk1 hO
            go_wp2_with fail
            go_ret
            exact ⟨by rw [HN.out, ← hm] <;> rfl, HO.out.low⟩
          · have HC := hid (IH.out (nodesF l1) (by have := kd.less; omega) z l1 a1 c1 p bcap r wr (Nat.le_refl _) kd'.at_ (HB.out.below hO.low) (by omega) hr2)
            have hstep : growF bs (dropF (j + 1) l) (growN bs z l1 r) = growF bs l (room - 1) := by
              rw [← hm]
              conv => rhs; unfold growF
              rw [if_neg hr]
              rfl
            have HS := hid hstep
            have hbd : -1048578 ≤ growN bs z l1 r ∧ growN bs z l1 r ≤ 400 := by
              unfold growN
              split
              · exact ⟨(growF_bd bs hsz l1 (r - 1) (by omega)).1, Int.le_trans (growF_bd bs hsz l1 (r - 1) (by omega)).2 (by omega)⟩
              · have := hsz z.1
                omega
            clear kd kd' s1 hk1 hO hstep
            go_wp2_with fail
            refine HC.out.mono ?_
            rintro e w3 ⟨rfl, hb3⟩
            have HO4 := hid (HO.out.below hb3)
            clear hb3 p0 p1 p2 t2
            go_wp2_with fail
            go_roundw
            case rel => exact ⟨j + 1, growN bs z l1 r, by omega, rfl, by go_num, hbd.1, hbd.2, HO4.out, HS.out⟩
            case measure => simp [intOf]; omega
        · have e1 : j = lenF l := by omega
          rw [e1, drop_end] at hm
          have hm' : r = growF bs l (room - 1) := hm
          go_wp2_with fail
          go_ret
          exact ⟨by rw [HN.out, hm'] <;> rfl, HO.out.low⟩
    | false =>
      have hnm' : x.1.toList.isEmpty = false := hnm
      have HN : Hid (growN bs x l room = room - szB bs x.1) := hid (by unfold growN; rw [if_neg (by rw [hnm]; decide)])
      go_enter Tryz.func25, Tryz.ntmps25
      go_wp2_with fail
      refine HG.out.mono ?_
      rintro e w1 ⟨hb1, hres⟩
      obtain ⟨t, a', c', bo, rfl, hT1, hs1⟩ : ∃ (t : Tn) (a' : Option Addr) (c' : Nat) (bo : Bool), e = .returned (.tuple #[.agg #[.string t.1.1, .int .i64 t.1.2, .slice a' (lenF t.2) c'], .bool bo]) ∧ TmAt w1 t.1 a' c' t.2 ∧ nodesF t.2 + 1 = szB bs x.1 := by
        rcases hres with ⟨h1, rfl⟩ | ⟨t, a', c', h1, h2, rfl⟩
        · exact ⟨((x.1, 0), .nil), none, 0, false, rfl, ⟨⟨HT.out.sizes.name, Nat.le_refl _, by simp, by simp [lenF]⟩, .inl rfl⟩, by unfold szB; rw [h1]; rfl⟩
        · exact ⟨t, a', c', true, rfl, h2.below hb1, by unfold szB; rw [h1]⟩
      have hsx := hsz x.1
      have bx := alloc_below0 w1 (.cells #[.string t.1.1, .int .i64 t.1.2, .slice a' (lenF t.2) c'] 26)
      have HC := hid (rsize_all (nodesF t.2) t.1 t.2 a' c' (w1.alloc (.cells #[.string t.1.1, .int .i64 t.1.2, .slice a' (lenF t.2) c'] 26)) (Nat.le_refl _) (hT1.below bx) (by omega))
      have hl1 := (O0.out.below hb1).low
      have HL := hid (hl1.trans (bx.mono hl1.size))
      clear hres hT1 bx hb1 hl1 HG t0 t1 t2
      go_wp2_with fail
      refine HC.out.mono ?_
      rintro e w3 ⟨rfl, hb3⟩
      have HL3 := hid (HL.out.trans (hb3.mono HL.out.size))
      clear hb3 HC
      rw [hs1]
      have hsx0 : (0 : Int) ≤ (szB bs x.1 : Int) := Int.natCast_nonneg _
      go_wp2_with fail
      go_ret
      exact ⟨by rw [HN.out] <;> rfl, HL3.out⟩
theorem grown_any (bs : List Bn) (hn : bs.length ≤ 1048576) (hnd : ∀ b ∈ bs, nodesF b.2.2 ≤ 1048576) (x : ByteArray × Int) (l : Fo) (a : Option Addr) (c : Nat) (p : Option Addr) (bcap : Nat) (w : World) (hT : TmAt w x a c l) (hB : BindsAt w p bs.length bs) :
    Calls Tryz.prog 11 #[.slice p bs.length bcap, .agg #[.string x.1, .int .i64 x.2, .slice a (lenF l) c]] w fun e w' => e = .returned (.bool (decide (growN bs x l 400 < 0))) ∧ Below w.heap.size w w' := by
  have O0 := hid (One.new w x a (lenF l) c)
  have b1 := alloc_below0 w (.cells #[.string x.1, .int .i64 x.2, .slice a (lenF l) c] 26)
  have HC := hid (grow_all bs hn hnd (nodesF l) x l a c p bcap 400 _ (Nat.le_refl _) (hT.below b1) (hB.below b1) (by omega) (by omega))
  have B1 := hid b1
  have t0 := O0.out.t.c0; have t1 := O0.out.t.c1; have t2 := O0.out.t.c2
  clear hT hB b1
  go_enter Tryz.func11, Tryz.ntmps11
  go_wp2_with fail
  refine HC.out.mono ?_
  rintro e w1 ⟨rfl, hb⟩
  have HL := hid (B1.out.trans (hb.mono B1.out.size))
  clear hb HC
  go_wp2_with fail
  go_ret
  exact ⟨rfl, HL.out⟩
end Go.Proofs.YtfnfbljijkjkjaaGreat
