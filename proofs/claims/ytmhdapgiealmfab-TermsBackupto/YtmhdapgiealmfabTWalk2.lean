/- What places of package terms hands out of a term that lies in lists of its own, to any loop that leaves such lists alone. -/
import Derived.Test.YtmhdapgiealmfabTSize
import Derived.Test.YtmhdapgiealmfabTSep
import Derived.Test.YtmhdapgiealmfabTLawN
namespace Go.Proofs.Ytmhdapgiealmfab
open Go.RowKit Go.Shelf Go.Deep

attribute [local go_sem] Oper.semAt_some

/-- A list of terms from the head of a block of its own. -/
def Row26 (w : World) (k : Nat) : Prop := ∃ cs, w.heap[k]? = some (Obj.cells cs 24 (0, 0))
/-- Those are as they were. -/
def Keeps26 (w W : World) : Prop := ∀ (k : Nat) (cs : Array Value) (fr : Nat × Nat), w.heap[k]? = some (Obj.cells cs 24 fr) → W.heap[k]? = some (Obj.cells cs 24 fr)
theorem Keeps26.trans {X Y Z : World} (h : Keeps26 X Y) (k : Keeps26 Y Z) : Keeps26 X Z := fun q cs fr hq => k q cs fr (h q cs fr hq)
theorem Keeps26.of_below {X Y : World} (h : Below X.heap.size X Y) : Keeps26 X Y := fun k _ _ hk => (h.block k (Array.getElem?_eq_some_iff.1 hk).1).trans hk
theorem Keeps26.of_mv {B : Nat} {X Y : World} (h : Mv B X Y) : Keeps26 X Y := fun k cs fr hk => h.cells k cs 24 fr hk (by decide) (by decide)
theorem Keeps26.of_leaves {n0 : Nat} {e : El} {X Y : World} (h : Leaves n0 e X Y) : Keeps26 X Y := fun k cs fr hk => h.kept k cs 24 fr hk (.inl rfl)
abbrev Own26 (w : World) (x : ByteArray × Int) (a : Option Addr) (c : Nat) (l : Fo) : Prop := OwnTm false (Row26 w) w x a c l
theorem SepKids.own26 {w : World} : ∀ {F : Fo} {A : Nat → Prop} {b o : Nat}, SepKids w F A b o → OwnKids false (Row26 w) w F b o
  | .nil, _, _, _, _ => trivial
  | .node _ _ _ l r, A, b, o, ⟨A1, A2, _, _, ⟨a, c, h0, h1, h2, hs, hl⟩, hr⟩ => ⟨⟨a, c, h0, h1, h2, hs, by
      rcases hl with h | ⟨g, cur, ha, _, hc, hk⟩
      · exact .inl ⟨h, rfl⟩
      · exact .inr ⟨g, cur, ha, ⟨cur, hc⟩, hc, (fun e => by cases e), SepKids.own26 hk⟩⟩, SepKids.own26 hr⟩
theorem SepTm.own26 {w : World} {A : Nat → Prop} {x : ByteArray × Int} {a : Option Addr} {c : Nat} {l : Fo} (h : SepTm w A x a c l) : Own26 w x a c l :=
  ⟨h.sizes, by
    rcases h.list with h | ⟨g, cur, ha, _, hc, hk⟩
    · exact .inl ⟨h, rfl⟩
    · exact .inr ⟨g, cur, ha, ⟨cur, hc⟩, hc, (fun e => by cases e), hk.own26⟩⟩
theorem OwnTm.in26 {w W : World} {x : ByteArray × Int} {a : Option Addr} {c : Nat} {l : Fo} (h : Own26 w x a c l) (hk : Keeps26 w W) : TmAt W x a c l :=
  (h.keep (w' := W) (fun k ⟨cs, hc⟩ _ => by rw [hc]; exact hk k cs _ hc)).tm
theorem own_at_drop {mk : Bool} {P : Nat → Prop} {w : World} {x : ByteArray × Int} {l r : Fo} {B O b : Nat} {a : Option Addr} {c : Nat} : ∀ {F : Fo} {o : Nat} (k : Nat), OwnKids mk P w F b o → dropF k F = .node B O x l r → w.cell? ⟨b, o + k * 3 + 2, none⟩ = some (.slice a (lenF l) c) → OwnTm mk P w x a c l
  | .nil, _, k, _, h, _ => by cases k <;> simp [dropF] at h
  | .node _ _ _ _ _, o, 0, ⟨⟨a', c', _, _, h2, hs, hl⟩, _⟩, h, hc => by
    simp only [dropF, BT.node.injEq] at h
    obtain ⟨_, _, rfl, rfl, _⟩ := h
    simp only [Nat.zero_mul, Nat.add_zero] at hc
    rw [h2] at hc
    simp only [Option.some.injEq, Value.slice.injEq, true_and] at hc
    obtain ⟨rfl, rfl⟩ := hc
    exact ⟨hs, hl⟩
  | .node _ _ _ _ r', o, k + 1, ⟨_, hr⟩, h, hc => by
    simp only [dropF] at h
    exact own_at_drop k hr h (by rw [show o + 3 + k * 3 + 2 = o + (k + 1) * 3 + 2 by omega]; exact hc)

theorem OwnKids.kid_own {mk : Bool} {P : Nat → Prop} {w : World} {F : Fo} {b o : Nat} (k : Nat) (h : OwnKids mk P w F b o) (hk : k < lenF F) : ∃ x a c l, Kid w F b o k x a c l ∧ OwnTm mk P w x a c l := by
  obtain ⟨x, a, c, l, kd⟩ := h.kids.kid (k := k) hk
  refine ⟨x, a, c, l, kd, ?_⟩
  obtain ⟨B, O, sp⟩ := kd.split
  exact own_at_drop k h sp kd.list
/-- The world without its heap. -/
def mt (w : World) : World := { w with heap := #[] }

def WalkOk2 (w0 : World) (b lp N : Nat) (Q : List Pl) (J Jx : List El → World → Prop) (k : Nat) : Prop :=
  ∀ (x : ByteArray × Int) (l : Fo) (a : Option Addr) (c : Nat) (path : List Int) (pre : List El) (v : Value) (W : World), nodesF l ≤ k → Own26 w0 x a c l → St (mt w0) b lp W path v → Keeps26 w0 W → J pre W → path.length ≤ pre.length → pre.length + nodesF l + 1 ≤ N → pre.map El.info ++ placesT path x l <+: Q →
    Calls Try.prog 25 #[.agg #[.string x.1, .int .i64 x.2, .slice a (lenF l) c], .pointer (some ⟨b, 0, none⟩), .pointer (some ⟨b + 1, 0, none⟩), .pointer (some ⟨b + 2, 0, none⟩)] W fun e W' =>
      (e = .returned (.bool true) ∧ ∃ ys v', J (pre ++ ys) W' ∧ ys.map El.info = placesT path x l ∧ St (mt w0) b lp W' path v' ∧ Keeps26 w0 W') ∨
      (e = .returned (.bool false) ∧ ∃ ys, ys.map El.info <+: placesT path x l ∧ Jx (pre ++ ys) W')

set_option maxRecDepth 100000 in
set_option maxHeartbeats 4000000 in
theorem walk_any2 (w0 : World) (b lp N M : Nat) (Q : List Pl) (J Jx : List El → World → Prop) (hM : (M + 1) * 8 ≤ 140737488355328)
    (hJ : ∀ s A B, J s A → Mv b A B → J s B) (hJM : ∀ s A, J s A → s.length ≤ M)
    (hY : ∀ m pre x W1, J pre W1 → Handed b x W1 → pre.length < N → (pre ++ [x]).map El.info <+: Q → YieldAt Fence.wide m Try.prog lp (El.encs x) W1 fun e W' =>
      (e = .returned (.bool true) ∧ J (pre ++ [x]) W' ∧ Leaves 0 x W1 W' ∧ KeepsFrom b W1 W') ∨ (e = .returned (.bool false) ∧ Jx (pre ++ [x]) W' ∧ KeepsFrom b W1 W')) :
    ∀ k, WalkOk2 w0 b lp N Q J Jx k := by
  intro k
  induction k using Nat.strongRecOn with
  | _ k ih =>
    intro x l a c path pre v W hk hT hS hK hj hpl hN hQ
    have hb0 : (mt w0).heap.size ≤ b := Nat.zero_le _
    refine (callsIn_wide (n := 4)).1 ?_
    have h1 : 1 ≤ 4 := by omega
    obtain ⟨i0, hi, hz0, hz1, hz2⟩ := info_parts Try.info3
    have hb1 : Below W.heap.size W (W.alloc (.cells #[.string x.1, .int .i64 x.2, .slice a (lenF l) c] 24)) := (Below.refl _ W).alloc (Nat.le_refl _) _
    have hS1 := hS.below hb1
    have hbW : b ≤ W.heap.size := Nat.le_of_lt hS.y.lt
    have hj1 := hJ _ _ _ hj (Mv.of_below hb1 hbW)
    have hF : Handed b ⟨path, x, l, v, a, c⟩ (W.alloc (.cells #[.string x.1, .int .i64 x.2, .slice a (lenF l) c] 24)) := ⟨hS1.row, hT.in26 (hK.trans (Keeps26.of_below hb1))⟩
    obtain ⟨fn, tmps, assign, body, hy, hR⟩ := hY 3 pre ⟨path, x, l, v, a, c⟩ _ hj1 hF (by omega) (List.IsPrefix.trans (by simp [El.info, placesT]) hQ)
    dsimp only [El.encs] at hy
    have cy := hS1.y.cell
    have cp := hS1.p.cell
    refine callsIn_of_wp Try.func25 rfl trivial ?_ rfl
    simp only [Try.ntmps25, List.size_toArray, List.length_cons, List.length_nil, Nat.reduceAdd, Nat.reduceSub, Array.replicate_succ, Array.replicate_zero, List.push_toArray, List.append_toArray, List.nil_append, List.cons_append]
    gi_wp2
    refine hR.mono ?_
    rintro e W1 (⟨rfl, hJ1, hk1, _⟩ | ⟨rfl, hx1, _⟩)
    · have hK2 : Keeps26 w0 W1 := (hK.trans (Keeps26.of_below hb1)).trans (Keeps26.of_leaves hk1)
      have hS2 : St (mt w0) b lp W1 path v := hS1.leaves (e := ⟨path, x, l, v, a, c⟩) hk1
      have hX := (TBox.new W x a (lenF l) c).leaves hk1
      have cx2 := hX.c2
      clear hS1 hj1 hF hR hy cy cp hX hS hj
      have hn : lenF l ≤ 9223372036854775807 := by have := hT.sizes.len; have := hT.sizes.cap; unfold maxLen at *; omega
      gi_wp2
      gi_loopw [6, 7, 16] (fun _ _ i wr => ∃ k : Nat, k ≤ lenF l ∧ i = .int .i64 k ∧ ∃ ys v', J (pre ++ ⟨path, x, l, v, a, c⟩ :: ys) wr ∧ ys.map El.info ++ placesF path k (dropF k l) = placesF path 0 l ∧ St (mt w0) b lp wr path v' ∧ Keeps26 w0 wr) (fun _ _ i _ => lenF l - (intOf i).toNat)
      case atStart => exact ⟨0, Nat.zero_le _, rfl, [], v, hJ1, by rw [drop_zero]; rfl, hS2, hK2⟩
      case round =>
        obtain ⟨j, hjn, rfl, ys, v2, hj2, hpl2, hS3, hK3⟩ := hrel
        by_cases hlt : j < lenF l
        · rcases hT.list with ⟨hnil, _⟩ | ⟨bb, cur, rfl, _, hcur, _, hks⟩
          · rw [hnil] at hlt; simp [lenF] at hlt
          obtain ⟨y, a1, c1, l1, kd, ko⟩ := hks.kid_own j hlt
          have hgg : wr.heap[bb]? = w0.heap[bb]? := (hK3 bb cur (0, 0) hcur).trans hcur.symm
          have p0 := (World.cell?_of_block hgg).trans kd.name
          have p1 := (World.cell?_of_block hgg).trans kd.sym
          have p2 := (World.cell?_of_block hgg).trans kd.list
          rw [Nat.zero_add] at p0 p1 p2
          obtain ⟨B1, O1, sp⟩ := kd.split
          have hlen2 := congrArg List.length hpl2
          rw [List.length_append, List.length_map, places_len, places_len, sp, nodesF] at hlen2
          have hM2 := hJM _ _ hj2
          simp only [List.length_append, List.length_cons] at hM2
          have hM3 : path.length + 1 ≤ M := by omega
          have hb4 : Below wr.heap.size wr (wr.alloc (.cells #[.string y.1, .int .i64 y.2, .slice a1 (lenF l1) c1] 24)) := (Below.refl _ wr).alloc (Nat.le_refl _) _
          have hb5 : Below wr.heap.size wr ((wr.alloc (.cells #[.string y.1, .int .i64 y.2, .slice a1 (lenF l1) c1] 24)).alloc (.cells #[.int .i64 (j : Int)] 3)) := hb4.alloc (by simp) _
          have hS4 := hS3.below hb4
          have hS5 := hS3.below hb5
          have hbr : b ≤ wr.heap.size := Nat.le_of_lt hS3.y.lt
          have hm5 := Mv.of_below hb5 hbr
          have hnews : ∀ (i : Nat) (u : Value), [Value.int .i64 (j : Int)][i]? = some u → ((wr.alloc (.cells #[.string y.1, .int .i64 y.2, .slice a1 (lenF l1) c1] 24)).alloc (.cells #[.int .i64 (j : Int)] 3)).cell? ((⟨wr.heap.size + 1, 0, none⟩ : Addr).add i) = some u := by
            have h := World.news_of_block (heap_alloc_new (wr.alloc (.cells #[.string y.1, .int .i64 y.2, .slice a1 (lenF l1) c1] 24)) (.cells #[.int .i64 (j : Int)] 3))
            rw [World.size_alloc] at h
            exact h
          have hone : ∀ u ∈ [Value.int .i64 (j : Int)], u.oneCell' = true := by intro u hu; simp at hu; subst hu; rfl
          have tY : TBox ((wr.alloc (.cells #[.string y.1, .int .i64 y.2, .slice a1 (lenF l1) c1] 24)).alloc (.cells #[.int .i64 (j : Int)] 3)) wr.heap.size y a1 (lenF l1) c1 :=
            (TBox.new wr y a1 (lenF l1) c1).mv (Mv.of_below (B := 0) ((Below.refl _ _).alloc (Nat.le_refl _) _) (Nat.zero_le _))
          have cp4 := hS4.p.cell
          have hmax : maxLen = 9223372036854775807 := rfl
          have SP : Hid (dropF j l = .node B1 O1 y l1 (dropF (j + 1) l)) := sp
          have KD : Hid (Kid w0 l bb 0 j y a1 c1 l1) := kd
          have KO : Hid (Own26 w0 y a1 c1 l1) := ko
          have PL2 : Hid (ys.map El.info ++ placesF path j (dropF j l) = placesF path 0 l) := hpl2
          clear kd ko sp hpl2 hks hcur hgg
          gi_wp2_with (gi_at_builtin; refine wpListIn_append_own _ rfl _ _ 25 rfl b 3 i0 (.int .i64 0) 1 8 Try.underlying25 hi hz0 hz1 hz2 rfl (by decide) v2 path.length (intsV path) rfl hS5.row ⟨wr.heap.size + 1, 0, none⟩ 1 1 [.int .i64 (j : Int)] rfl rfl hnews hone (by omega) (by omega) (by simp; omega) ?_; intro v' w1 hown' hgrow _; obtain ⟨g', cap', rfl⟩ := ownsRow_succ hown'; obtain ⟨hp1, hm6, hS6⟩ := hS5.push hb0 hgrow hown'; have hc1 := hp1.cell; have hf1 := hp1.frozen; have cw6 := hS6.w.cell; have hm7 := hm5.trans (hm6.trans (Mv.box hp1 (by omega) (.slice (some ⟨g', 0, none⟩) (path.length + 1) cap'))); have tY2 := (tY.mv hm6).mv (Mv.box hp1 (B := b) (by omega) (.slice (some ⟨g', 0, none⟩) (path.length + 1) cap')); have ty0 := tY2.c0; have ty1 := tY2.c1; have ty2 := tY2.c2)
          refine ⟨trivial, ?_⟩
          have hjj := hJ _ _ _ hj2 hm7
          refine (callsIn_wide.2 (ih (nodesF l1) (by have := KD.out.less; omega) y l1 a1 c1 (path ++ [(j : Int)]) _ _ _ (Nat.le_refl _) KO.out hS6 (hK3.trans (Keeps26.of_mv hm7)) hjj (by simp; omega) (by simp; omega) (List.IsPrefix.trans (by simp only [placesT]; rw [List.map_append, List.map_cons, ← PL2.out, SP.out, placesF]; simp [El.info]) hQ))).mono ?_
          clear hS3 hS4 hS5 hm5 tY cp4 hp1 hm6 hS6 hc1 hf1 cw6 hm7 tY2 ty0 ty1 ty2 hjj hj2 hb4 hb5 hnews hgrow hown'
          rintro e W3 (⟨rfl, zs, v3, hj3, hz3, hS7, hK7⟩ | ⟨rfl, zs, hz3, hx3⟩)
          · obtain ⟨g3, cap3, rfl, hcap3, hcm3, hm8, hS8⟩ := hS7.pop hb0
            have cp7 := hS7.p.cell
            have fp7 := hS7.p.frozen
            have hjj := hJ _ _ _ hj3 hm8
            clear hS7 hj3
            gi_wp2
            refine ⟨⟨j + 1, by omega, by go_num, ys ++ zs, _, by simpa using hjj, ?_, hS8, hK7.trans (Keeps26.of_mv hm8)⟩, by simp [intOf]; omega⟩
            rw [List.map_append, hz3, ← PL2.out, SP.out, placesF, placesT]
            simp
          · gi_wp2
            refine bodyPost_ret (results_tmp rfl _ _ _) rfl ?_
            refine .inr ⟨rfl, ⟨path, x, l, v, _, c⟩ :: ys ++ zs, ?_, by simpa using hx3⟩
            rw [List.map_append, List.map_cons]
            obtain ⟨t, ht⟩ := hz3
            refine ⟨t ++ placesF path (j + 1) (dropF (j + 1) l), ?_⟩
            rw [placesT, ← PL2.out, SP.out, placesF, ← placesT, ← ht]
            simp [El.info]
        · gi_wp2
          refine bodyPost_ret (results_tmp rfl _ _ _) rfl ?_
          refine .inl ⟨rfl, _, v2, hj2, ?_, hS3, hK3⟩
          have e1 : j = lenF l := by omega
          rw [e1, drop_end, placesF, List.append_nil] at hpl2
          simp [placesT, El.info, ← hpl2]
    · gi_wp2
      refine bodyPost_ret (results_tmp rfl _ _ _) rfl ?_
      exact .inr ⟨rfl, [⟨path, x, l, v, a, c⟩], by simp [placesT, El.info], hx1⟩

set_option maxRecDepth 100000 in
set_option maxHeartbeats 2000000 in
theorem places1_seq2 (w : World) (M Bt : Nat) (x : ByteArray × Int) (l : Fo) (a : Option Addr) (c : Nat) (hT : Own26 w x a c l) (hB : TBox w Bt x a (lenF l) c) (hM : (M + 1) * 8 ≤ 140737488355328) :
    SeqN Try.prog 24 #[.pointer (some ⟨Bt, 0, none⟩)] El.encs Handed (fun _ => Leaves 0) (fun ys => ys.map El.info = placesT [] x l) (fun ys => ys.map El.info <+: placesT [] x l) (nodesF l + 1) M w := by
  intro lp J Jx W hW hJ hJx hJM hY h0
  have hBW : TBox W Bt x a (lenF l) c := (hW.block Bt (Array.getElem?_eq_some_iff.1 hB).1).trans hB
  have hwalk := walk_any2 w W.heap.size lp (nodesF l + 1) M (placesT [] x l) J Jx hM hJ hJM hY (nodesF l)
  obtain ⟨W3, hW3⟩ : ∃ W3, ((W.alloc (.cells #[.func (.yield lp) #[] #[]] 44)).alloc (.cells #[.slice none 0 0] 25)).alloc (.cells #[.func (.func 25) #[] #[.pointer (some ⟨W.heap.size, 0, none⟩), .pointer (some ⟨W.heap.size + 1, 0, none⟩), .pointer (some ⟨W.heap.size + 1 + 1, 0, none⟩)]] 52) = W3 := ⟨_, rfl⟩
  have hb3 : Below W.heap.size W W3 := by rw [← hW3]; exact (((Below.refl _ W).alloc (Nat.le_refl _) _).alloc (by simp) _).alloc (by simp; omega) _
  have hK3 : Keeps26 w W3 := (Keeps26.of_below hW).trans (Keeps26.of_below hb3)
  have hS : St (mt w) W.heap.size lp W3 [] (.slice none 0 0) := by
    refine ⟨?_, ?_, ?_, World.ownsRow_nil _ _ _ _, ⟨(hb3.os.trans hW.os), (hb3.tape.trans hW.tape), (hb3.output.trans hW.output), Nat.zero_le _, fun k hk => absurd hk (Nat.not_lt_zero k)⟩⟩
    · rw [← hW3]; exact ((Boxed.new W 44 _).alloc _).alloc _
    · rw [← hW3]
      have := (Boxed.new (W.alloc (.cells #[.func (.yield lp) #[] #[]] 44)) 25 (.slice none 0 0)).alloc (.cells #[.func (.func 25) #[] #[.pointer (some ⟨W.heap.size, 0, none⟩), .pointer (some ⟨W.heap.size + 1, 0, none⟩), .pointer (some ⟨W.heap.size + 1 + 1, 0, none⟩)]] 52)
      rw [World.size_alloc] at this
      exact this
    · rw [← hW3]
      have := Boxed.new ((W.alloc (.cells #[.func (.yield lp) #[] #[]] 44)).alloc (.cells #[.slice none 0 0] 25)) 52 (.func (.func 25) #[] #[.pointer (some ⟨W.heap.size, 0, none⟩), .pointer (some ⟨W.heap.size + 1, 0, none⟩), .pointer (some ⟨W.heap.size + 1 + 1, 0, none⟩)])
      rw [World.size_alloc, World.size_alloc] at this
      exact this
  have hB3 : TBox W3 Bt x a (lenF l) c := (hb3.block Bt (Array.getElem?_eq_some_iff.1 hBW).1).trans hBW
  have t0 := hB3.c0; have t1 := hB3.c1; have t2 := hB3.c2
  have hj3 := hJ _ _ _ h0 (Mv.of_below hb3 (Nat.le_refl _))
  have hgo := hwalk x l a c [] [] (.slice none 0 0) W3 (Nat.le_refl _) hT hS hK3 hj3 (Nat.le_refl _) (by simp) (by simp)
  clear hwalk hY hBW hB3 hS hK3 hj3 hJ hJx hJM h0
  subst hW3
  clear hb3
  go_enter Try.func24, Try.ntmps24
  go_wp2_with fail
  refine hgo.mono ?_
  rintro e W4 (⟨rfl, ys, v', hj4, hy4, _, _⟩ | ⟨rfl, ys, hy4, hx4⟩)
  · go_wp2
    go_end0
    exact ⟨⟨_, rfl⟩, .inl ⟨ys, hy4, by simpa using hj4⟩⟩
  · go_wp2
    go_end0
    exact ⟨⟨_, rfl⟩, .inr ⟨ys, hy4, by simpa using hx4⟩⟩

end Go.Proofs.Ytmhdapgiealmfab
