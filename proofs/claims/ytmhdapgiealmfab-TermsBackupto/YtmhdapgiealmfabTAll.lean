/- What All's iterator of package terms hands out: every place and a copy of the term there, in new memory. -/
import Derived.Test.YtmhdapgiealmfabTAllA
import Derived.Stop.RegionWithIn
namespace Go.Proofs.Ytmhdapgiealmfab
open Go.RowKit Go.Shelf Go.Deep

attribute [local go_sem] Oper.semAt_some

/-- What a round must keep: terms, paths' boxes, functions; and rows of numbers of the iterator's own, but for the path that was handed out. -/
structure KpA (b : Nat) (e : El) (W W' : World) : Prop where
  low : Below 0 W W'
  kept : ∀ (k : Nat) (cs : Array Value) (t : TypeId) (fr : Nat × Nat), W.heap[k]? = some (Obj.cells cs t fr) → (t = 24 ∨ t = 25 ∨ t = 44 ∨ t = 52 ∨ (t = 3 ∧ b ≤ k ∧ some k ≠ e.pv.ownBlock)) → W'.heap[k]? = some (Obj.cells cs t fr)

theorem Own26.below {w W : World} {x : ByteArray × Int} {a : Option Addr} {c : Nat} {l : Fo} (h : Own26 w x a c l) (hb : Below w.heap.size w W) : Own26 W x a c l :=
  (OwnTm.below h hb).mono (fun k _ ⟨cs, hc⟩ => ⟨cs, Keeps26.of_below hb k cs _ hc⟩)
theorem Own26.cells {w W : World} {x : ByteArray × Int} {a : Option Addr} {c : Nat} {l : Fo} (h : Own26 w x a c l) (hk : Keeps26 w W) : Own26 W x a c l :=
  (OwnTm.keep (w' := W) (fun k ⟨cs, hc⟩ _ => by rw [hc]; exact hk k cs _ hc) h).mono (fun k _ ⟨cs, hc⟩ => ⟨cs, hk k cs _ hc⟩)
/-- What is so in memory when All's iterator hands it out. -/
structure HandedA (b : Nat) (e : El) (W : World) : Prop where
  row : W.ownsRow b 3 1 e.pv e.path.length (intsV e.path)
  own : Own26 W e.x e.a e.c e.l
theorem HandedA.cl {b B0 : Nat} {e : El} {W W' : World} (h : HandedA b e W) (hc : Cl B0 W W') : HandedA b e W' :=
  ⟨owns_block h.row (fun g hg => by obtain ⟨_, cur, hk⟩ := owns_cells h.row hg; rw [hk]; exact hc.cells _ _ _ _ hk), h.own.cells (fun k cs fr hk => hc.cells k cs 24 fr hk)⟩
theorem KpA.of_cl {b B0 : Nat} {e : El} {W W' : World} (hc : Cl B0 W W') : KpA b e W W' := ⟨hc.below.mono (Nat.zero_le _), fun k cs t fr h _ => hc.cells k cs t fr h⟩
theorem KpA.trans {b : Nat} {e : El} {X Y Z : World} (h : KpA b e X Y) (k : KpA b e Y Z) : KpA b e X Z := ⟨h.low.trans k.low, fun i cs t fr hi ht => k.kept i cs t fr (h.kept i cs t fr hi ht) ht⟩
theorem keepsFrom_below {B : Nat} {X Y : World} (h : Below X.heap.size X Y) : KeepsFrom B X Y := ⟨h.size, fun k _ _ hk _ => (h.block k (Array.getElem?_eq_some_iff.1 hk).1).trans hk⟩
theorem keepsFrom_mono {B B' : Nat} {X Y : World} (h : KeepsFrom B X Y) (hB : B ≤ B') : KeepsFrom B' X Y := ⟨h.size, fun k o hk ho hc => h.same k o (by omega) ho hc⟩
theorem keepsFrom_trans {B : Nat} {X Y Z : World} (h : KeepsFrom B X Y) (k : KeepsFrom B Y Z) : KeepsFrom B X Z := h.trans k
theorem row_lt {W : World} {base e size k : Nat} {v : Value} {xs : List Value} {g : Nat} (h : W.ownsRow base e size v k xs) (hg : v.ownBlock = some g) : g < W.heap.size := by
  obtain ⟨_, cur, hc⟩ := owns_cells h hg
  exact (Array.getElem?_eq_some_iff.1 hc).1

/-- What the inner iterator wants of a round, out of what the outer one's round keeps. -/
theorem leaves_of {b bi : Nat} {e e' : El} {W W2 W3 : World} (hF : Handed bi e W) (hb : Below W.heap.size W W2) (hle : b ≤ bi) (hF' : W2.ownsRow W.heap.size 3 1 e'.pv e'.path.length (intsV e'.path)) (hk : KpA b e' W2 W3) : Leaves 0 e W W3 := by
  refine ⟨(hb.mono (Nat.zero_le _)).trans hk.low, fun k cs t fr h ht => ?_⟩
  have h2 : W2.heap[k]? = some (Obj.cells cs t fr) := (hb.block k (Array.getElem?_eq_some_iff.1 h).1).trans h
  refine hk.kept k cs t fr h2 ?_
  rcases ht with h1 | h1 | h1 | h1 | h1
  · exact .inl h1
  · exact .inr (.inl h1)
  · exact .inr (.inr (.inl h1))
  · exact .inr (.inr (.inr (.inl h1)))
  · obtain ⟨hbk, cur, hc⟩ := owns_cells hF.row h1.symm
    rw [h] at hc
    cases hc
    refine .inr (.inr (.inr (.inr ⟨rfl, by omega, fun e1 => ?_⟩)))
    have := (owns_cells hF' e1.symm).1
    have := (Array.getElem?_eq_some_iff.1 h).1
    omega

theorem round_inRound {F : Fence} {n : Nat} {P : Program} {lq : Nat} {f : FuncId} {tmps : Array Value} {assign body : Code} {w : World} {R : Ending → World → Prop} (l : Nat) (h : RoundIn F n P lq f tmps assign body w R) : RoundIn (F.inRound l) n P lq f tmps assign body w R := h
theorem places_path : ∀ (F : Fo) (path : List Int) (i k : Nat) (q : Pl), (placesF path i F)[k]? = some q → q.1.length ≤ path.length + k + 1
  | .nil, _, _, _, _, h => by simp [placesF] at h
  | .node _ _ x l r, path, i, 0, q, h => by
    simp only [placesF, List.cons_append, List.getElem?_cons_zero, Option.some.injEq] at h
    subst h
    simp
  | .node _ _ x l r, path, i, k + 1, q, h => by
    simp only [placesF, List.cons_append, List.getElem?_cons_succ] at h
    by_cases hk : k < (placesF (path ++ [(i : Int)]) 0 l).length
    · rw [List.getElem?_append_left hk] at h
      have := places_path l _ _ _ _ h
      simp only [List.length_append, List.length_singleton] at this
      omega
    · rw [List.getElem?_append_right (by omega)] at h
      have := places_path r _ _ _ _ h
      omega
theorem places_path_pre {pre : List El} {e : El} {x : ByteArray × Int} {l : Fo} (h : (pre ++ [e]).map El.info <+: placesT [] x l) : e.path.length ≤ pre.length := by
  obtain ⟨t, ht⟩ := h
  have h2 : (placesT [] x l)[pre.length]? = some e.info := by rw [← ht]; simp
  unfold placesT at h2
  cases hp : pre.length with
  | zero =>
    rw [hp] at h2
    simp only [List.getElem?_cons_zero, Option.some.injEq] at h2
    have : e.path = [] := by rw [show e.path = e.info.1 from rfl, ← h2]
    simp [this]
  | succ k =>
    rw [hp, List.getElem?_cons_succ] at h2
    have := places_path l [] 0 k _ h2
    rw [show e.path = e.info.1 from rfl]
    simpa using this
theorem owns_base {W : World} {base base' e size k : Nat} {v : Value} {xs : List Value} (h : W.ownsRow base e size v k xs) (hb : base' ≤ base) : W.ownsRow base' e size v k xs := by
  refine ⟨h.1, ?_⟩
  rcases h.2 with h1 | ⟨g, cap, cur, rfl, h2, h3⟩
  · exact .inl h1
  · exact .inr ⟨g, cap, cur, rfl, by omega, h3⟩

/-- What the round of the outer loop leaves, as one Boolean. -/
theorem hand {W V V1 V2 : World} {lp N bi : Nat} {J Jx : List El → World → Prop} {P : List Pl} {pre pre' : List El} {e : El} {v1 : Value} {a2 : Option Addr} {c2 : Nat} (hinfo : pre'.map El.info = pre.map El.info)
    (hJ : ∀ s A B, J s A → Mv W.heap.size A B → J s B)
    (hY : ∀ m pre x W1, J pre W1 → HandedA W.heap.size x W1 → pre.length < N → (pre ++ [x]).map El.info <+: P → YieldAt Fence.wide m Try.prog lp (El.encs x) W1 fun e W' =>
      (e = .returned (.bool true) ∧ J (pre ++ [x]) W' ∧ KpA W.heap.size x W1 W' ∧ KeepsFrom W.heap.size W1 W') ∨ (e = .returned (.bool false) ∧ Jx (pre ++ [x]) W' ∧ KeepsFrom W.heap.size W1 W'))
    (hlen : pre'.length = pre.length) (hsp : (pre ++ [e]).map El.info <+: P) (hF : Handed bi e V) (m : Nat) (hj : J pre' V) (ho1 : V1.ownsRow V.heap.size 3 1 v1 e.path.length (intsV e.path)) (hb1 : Below V.heap.size V V1)
    (hS2 : SepTm V2 (fun k => V1.heap.size ≤ k) e.x a2 c2 e.l) (hb2 : Below V1.heap.size V1 V2) (hlt : pre.length < N) (hle : W.heap.size ≤ V.heap.size ∧ W.heap.size ≤ bi) :
    YieldAt Fence.wide m Try.prog lp #[v1, .agg #[.string e.x.1, .int .i64 e.x.2, .slice a2 (lenF e.l) c2]] V2 fun ee W' => ∃ bv, ee = .returned (.bool bv) ∧
      ((bv = true ∧ (∃ p, p.map El.info = (pre ++ [e]).map El.info ∧ J p W') ∧ Leaves 0 e V W') ∨ (bv = false ∧ ∃ p, p.map El.info = (pre ++ [e]).map El.info ∧ Jx p W')) ∧ KeepsFrom W.heap.size V W' := by
  have hb12 : Below V.heap.size V V2 := hb1.trans (hb2.mono hb1.size)
  have hinfo' : (pre' ++ [(⟨e.path, e.x, e.l, v1, a2, c2⟩ : El)]).map El.info = (pre ++ [e]).map El.info := by simp [hinfo, El.info]
  obtain ⟨fn, tmps, assign, body, hy, hR⟩ := hY m pre' ⟨e.path, e.x, e.l, v1, a2, c2⟩ V2 (hJ _ _ _ hj (Mv.of_below hb12 hle.1)) ⟨owns_base (owns_below ho1 hb2) hle.1, hS2.own26⟩ (by omega) (by rw [hinfo']; exact hsp)
  refine ⟨fn, tmps, assign, body, hy, hR.mono ?_⟩
  rintro ee W3 (⟨rfl, h1, h2, h3⟩ | ⟨rfl, h1, h3⟩)
  · exact ⟨true, rfl, .inl ⟨rfl, ⟨_, hinfo', h1⟩, leaves_of hF hb12 hle.2 (owns_below ho1 hb2) h2⟩, keepsFrom_trans (keepsFrom_below hb12) h3⟩
  · exact ⟨false, rfl, .inr ⟨rfl, _, hinfo', h1⟩, keepsFrom_trans (keepsFrom_below hb12) h3⟩

set_option maxRecDepth 100000 in
set_option maxHeartbeats 4000000 in
theorem all1_seq (w : World) (M Bt : Nat) (x : ByteArray × Int) (l : Fo) (a : Option Addr) (c : Nat) (hT : Own26 w x a c l) (hB : TBox w Bt x a (lenF l) c) (hM : (M + 1) * 8 ≤ 140737488355328) :
    SeqN Try.prog 15 #[.pointer (some ⟨Bt, 0, none⟩)] El.encs HandedA KpA (fun ys => ys.map El.info = placesT [] x l) (fun ys => ys.map El.info <+: placesT [] x l) (nodesF l + 1) M w := by
  intro lp J Jx W hW hJ hJx hJM hY h0
  refine (callsIn_wide (n := 6)).1 ?_
  have h1 : 1 ≤ 6 := by omega
  have hTW := Own26.below hT hW
  have hBW : TBox W Bt x a (lenF l) c := (hW.block Bt (Array.getElem?_eq_some_iff.1 hB).1).trans hB
  have hb1 : Below W.heap.size W (W.alloc (.cells #[.func (.yield lp) #[] #[]] 44)) := (Below.refl _ W).alloc (Nat.le_refl _) _
  have hBW1 : TBox (W.alloc (.cells #[.func (.yield lp) #[] #[]] 44)) Bt x a (lenF l) c := (hb1.block Bt (Array.getElem?_eq_some_iff.1 hBW).1).trans hBW
  have t0 := hBW1.c0; have t1 := hBW1.c1; have t2 := hBW1.c2
  refine callsIn_of_wp_marks Try.func15 rfl trivial ?_ rfl
  simp only [Try.ntmps15, List.size_toArray, List.length_cons, List.length_nil, Nat.reduceAdd, Nat.reduceSub, Array.replicate_succ, Array.replicate_zero, List.push_toArray, List.append_toArray, List.nil_append, List.cons_append]
  gi_wp2_with fail
  refine ⟨trivial, ?_⟩
  refine (callsIn_wide.2 (places_any x a (lenF l) c _)).mono ?_
  rintro e w' ⟨rfl, rfl⟩
  gi_wp2
  have bY := (Boxed.new W 44 (.func (.yield lp) #[] #[])).alloc (.cells #[.string x.1, .int .i64 x.2, .slice a (lenF l) c] 24)
  have bT := TBox.new (W.alloc (.cells #[.func (.yield lp) #[] #[]] 44)) x a (lenF l) c
  simp only [World.size_alloc] at bT
  have hb2 : Below W.heap.size W ((W.alloc (.cells #[.func (.yield lp) #[] #[]] 44)).alloc (.cells #[.string x.1, .int .i64 x.2, .slice a (lenF l) c] 24)) := hb1.alloc (by simp) _
  have hsz : ((W.alloc (.cells #[.func (.yield lp) #[] #[]] 44)).alloc (.cells #[.string x.1, .int .i64 x.2, .slice a (lenF l) c] 24)).heap.size = W.heap.size + 2 := by simp
  obtain ⟨W2, hW2⟩ : ∃ W2, (W.alloc (.cells #[.func (.yield lp) #[] #[]] 44)).alloc (.cells #[.string x.1, .int .i64 x.2, .slice a (lenF l) c] 24) = W2 := ⟨_, rfl⟩
  rw [hW2] at bY bT hb2 hsz ⊢
  clear hW2 t0 t1 t2 hBW1 hb1
  have hj0 := hJ _ _ _ h0 (Mv.of_below hb2 (Nat.le_refl _))
  refine range_ownN (gf := 24) (lb := #[.pointer (some ⟨W.heap.size + 1, 0, none⟩)]) rfl (enters_of Try.func24 (by kernel_rfl) rfl)
    (places1_seq2 W2 M (W.heap.size + 1) x l a c (Own26.below hTW hb2) bT hM) (Below.refl _ _) (fun _ => rfl)
    (fun _ _ _ h hc => h.cl hc) (fun _ _ _ hc => Leaves.of_cl hc (Nat.zero_le _)) (fun _ _ _ _ h k => h.trans k)
    (fun pre V => ∃ pre', pre'.map El.info = pre.map El.info ∧ J pre' V ∧ Boxed V W.heap.size 44 (.func (.yield lp) #[] #[]))
    (fun cc pre V => cc = .ret ∧ ∃ pre', pre'.map El.info = pre.map El.info ∧ Jx pre' V)
    (by rintro s A B ⟨p, q1, q2, q3⟩ hm; exact ⟨p, q1, hJ _ _ _ q2 (hm.mono (by omega)), boxed_mv q3 hm (by omega)⟩)
    (by rintro cc s A B ⟨q0, p, q1, q2⟩ hm; exact ⟨q0, p, q1, hJx _ _ _ q2 (hm.mono (by omega))⟩)
    (by rintro s A ⟨p, q1, q2, _⟩; have := hJM _ _ q2; have := congrArg List.length q1; simp only [List.length_map] at this; omega) ⟨[], rfl, hj0, bY⟩
    (fun e a' V => ∃ Bx, TBox V Bx e.x e.a (lenF e.l) e.c ∧ a' = { tmps := #[.func (.yield lp) #[] #[], .pointer (some ⟨Bt, 0, none⟩), .pointer (some ⟨W.heap.size, 0, none⟩), e.pv, .pointer (some ⟨Bx, 0, none⟩), .agg #[.string x.1, .int .i64 x.2, .slice a (lenF l) c], .func (.func 24) #[] #[.pointer (some ⟨W.heap.size + 1, 0, none⟩)], e.pv, .agg #[.string e.x.1, .int .i64 e.x.2, .slice e.a (lenF e.l) e.c], undef, undef, undef, undef, undef, undef, undef], defers := [] })
    (fun _ _ _ _ ⟨Bx, h, k⟩ hc => ⟨Bx, h.cl hc, k⟩) ?assign ?body ?done ?stop
  case assign =>
    rintro pre e V K _ _ hK m
    simp only [El.encs]
    gi_wp2
    exact hK _ _ ((Below.refl _ V).alloc (Nat.le_refl _) _) ⟨V.heap.size, TBox.new V e.x e.a (lenF e.l) e.c, by simp⟩
  case body =>
    rintro pre e a' V ⟨r, hr⟩ ⟨pre', hinfo, hj, by1⟩ hF ⟨Bx, hx, rfl⟩ hlt hsp m
    have y0 := by1.cell
    have x0 := hx.c0; have x1 := hx.c1; have x2 := hx.c2
    have hlen : pre'.length = pre.length := by have := congrArg List.length hinfo; simpa using this
    have hml := hJM _ _ hj
    have hpl : e.path.length ≤ pre.length := places_path_pre hsp
    have hVs : W2.heap.size + 1 < V.heap.size := (Array.getElem?_eq_some_iff.1 hr).1
    gi_wp2_with fail
    have hrow : V.drew.ownsRow (W2.heap.size + 2) 3 1 e.pv e.path.length (intsV e.path) := hF.row
    have hd : Below V.heap.size V V.drew := (Below.refl _ _).drew
    gi_region_with (first
      | (refine ⟨trivial, (fun h => by cases h), ?_⟩; gi_at_call 17; refine (CallsIn.inRound _ (callsIn_wide.2 (cloneInts_any e.pv e.path _ V.drew hrow (by omega)))).mono ?_; rintro ee V1 ⟨v1, rfl, ho1, hb1'⟩; have hb1 : Below V.heap.size V V1 := hd.trans hb1'; have y1 := below_cell hb1 _ _ y0; have z0 := below_cell hb1 _ _ x0; have z1 := below_cell hb1 _ _ x1; have z2 := below_cell hb1 _ _ x2)
      | (refine ⟨trivial, (fun h => by cases h), ?_⟩; gi_at_call 14; refine (CallsIn.inRound _ (callsIn_wide.2 (clone_any e.x e.l e.a e.c V1 (hF.at_.below hb1)))).mono ?_; rintro ee V2 ⟨a2, c2, rfl, hS2, hb2'⟩; have y2 := below_cell hb2' _ _ y1; obtain ⟨fn, tmps, assign, body, hy, hR⟩ := hand hinfo hJ hY hlen hsp hF (m - 1) hj ho1 hb1 hS2 hb2' hlt (by omega))
      | (refine ⟨(fun h => by cases h), ?_⟩; refine (round_inRound _ hR).mono ?_; rintro ee V3 ⟨bv, rfl, hb3, hk3⟩)
      | fail)
    all_goals
      cases bv
      · rcases hb3 with ⟨h, _⟩ | ⟨_, p, hp, hjx⟩
        · cases h
        gi_wp2
        exact ⟨keepsFrom_mono hk3 (by omega), rfl, p, hp, hjx⟩
      · rcases hb3 with ⟨_, ⟨p, hp, hjx⟩, hlv⟩ | ⟨h, _⟩
        · gi_wp2
          exact ⟨keepsFrom_mono hk3 (by omega), hlv, p, hp, hjx, hlv.kept _ _ _ _ by1 (by simp)⟩
        · cases h
  case done =>
    rintro ys V hS ⟨pre', hinfo, hj, _⟩ hK
    gi_wp2
    refine ⟨by simp, .inl ⟨_, _, rfl, run_takeDeferred hK, ?_⟩⟩
    refine ⟨_, results_none rfl _ _ _, ⟨_, rfl⟩, .inl ⟨pre', hinfo.trans hS, hJ _ _ _ hj (Cl.putObj (by omega) hK rfl _).mv⟩⟩
  case stop =>
    rintro cc pre V hSp ⟨rfl, pre', hinfo, hj⟩ hK
    gi_wp2
    refine ⟨by simp, .inl ⟨_, _, rfl, run_takeDeferred hK, ?_⟩⟩
    refine ⟨_, results_none rfl _ _ _, ⟨_, rfl⟩, .inr ⟨pre', by rw [hinfo]; exact hSp, hJx _ _ _ hj (Cl.putObj (by omega) hK rfl _).mv⟩⟩
end Go.Proofs.Ytmhdapgiealmfab
