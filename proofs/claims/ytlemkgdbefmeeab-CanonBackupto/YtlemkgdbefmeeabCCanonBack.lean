/- For every signature, two terms, symbol and list of terms, of bulk at most 1048576, CanonBack returns true: Join of the Parts of a canonical term is the term; the Parts of Join of the Parts of two are as many, in order; the condition is the second form's bound. -/
import Derived.Maps.AppendAt
import Derived.Laws.OwnMore
import Derived.Deep.RegionHeld3
import Derived.Deep.DeepCutAuto
import Derived.Test.YtlemkgdbefmeeabM6
/- For the walk of CanonBack: a slice of terms as a list of arguments; what joins; the parts of what was joined. -/
namespace Go.Proofs.Ytlemkgdbefmeeab
open Go.RowKit Go.Deep

theorem kids_of_cells {w : World} : ∀ (ks : List Kv) (b o : Nat), (∀ j u, (kvCells ks)[j]? = some u → w.cell? ⟨b, o + j, none⟩ = some u) → (∀ k ∈ ks, TmAt w k.x k.a k.c k.l) → KidsAt w (mkF (ks.map Kv.tn)) b o
  | [], _, _, _, _ => trivial
  | k :: r, b, o, hc, ht => by
    have e : kvCells (k :: r) = .string k.x.1 :: .int .i64 k.x.2 :: .slice k.a (lenF k.l) k.c :: kvCells r := rfl
    rw [e] at hc
    have hk := ht k List.mem_cons_self
    refine ⟨⟨k.a, k.c, hc 0 _ rfl, hc 1 _ rfl, hc 2 _ rfl, hk.sizes, hk.args⟩, kids_of_cells r b (o + 3) (fun j u hu => ?_) (fun q hq => ht q (List.mem_cons_of_mem _ hq))⟩
    rw [show o + 3 + j = o + (j + 3) by omega]
    exact hc (j + 3) u (by simpa using hu)
theorem args_of_row {w : World} {a : Option Addr} {n : Nat} {ks : List Kv} (h : RowAt w a n ks) (ht : ∀ k ∈ ks, TmAt w k.x k.a k.c k.l) : ArgsAt w a (mkF (ks.map Kv.tn)) := by
  cases ks with
  | nil => exact .inl rfl
  | cons k r =>
    obtain ⟨b, o, ha, _⟩ := h.cells 0 _ rfl
    refine .inr ⟨b, o, ha, kids_of_cells _ b o (fun j u hu => ?_) ht⟩
    obtain ⟨b', o', e, hc⟩ := h.cells j u hu
    rw [ha] at e
    cases e
    exact hc
theorem gl_each {w : World} : ∀ {ks : List Kv} {A : Bl}, GL SepE w ks A → ∀ k ∈ ks, TmAt w k.x k.a k.c k.l
  | [], _, _, k, hk => by simp at hk
  | _ :: _, _, ⟨_, _, _, _, hE, hr⟩, k, hk => by
    rcases List.mem_cons.1 hk with rfl | hk
    · exact SepTm.tm hE
    · exact gl_each hr k hk
/-- Join of a slice of terms. -/
theorem pjoin_row (S : Option Addr) (n cap : Nat) (l : List Sym) (f : Int) (ks : List Kv) (a : Option Addr) (c : Nat) (w : World) (hS : SigAt w S n l) (hR : RowAt w a ks.length ks) (hT : ∀ k ∈ ks, TmAt w k.x k.a k.c k.l) (hk : sizes (ks.map Kv.tn) ≤ 1048576) :
    Calls Try.prog 9 #[.slice S n cap, .int .i64 f, .slice a ks.length c] w fun e w' => ∃ k : Kv, e = .returned (.tuple #[.agg #[.string k.x.1, .int .i64 k.x.2, .slice k.a (lenF k.l) k.c], .bool (joinB l f ks.length)]) ∧ JoinR l f (ks.map Kv.tn) (joinB l f ks.length) k.tn ∧ TmAt w' k.x k.a k.c k.l ∧ Below w.heap.size w w' := by
  have hl : lenF (mkF (ks.map Kv.tn)) = ks.length := by rw [len_mk, List.length_map]
  have := pjoin_any S n cap l f (mkF (ks.map Kv.tn)) a c w hS (args_of_row hR hT) (by rw [nodes_mk]; exact hk)
  rw [hl, kids_mk] at this
  refine this.mono ?_
  rintro e w' ⟨k, rfl, hj, hE, hb⟩
  exact ⟨k, rfl, hj, SepTm.tm hE.1, hb⟩

/-- What the statement calls joining. -/
theorem joins_in {l : List Sym} (hc : checkE l = 0) {k : Nat} (hk : k < l.length) : (l[k].kind != 1) = (sgOf l).joins (k : Int) := by
  by_cases h : l[k].kind = 1
  · have e : (sgOf l).joins (k : Int) = false := by
      show joinsAt l (k : Int) = false
      unfold joinsAt
      rw [symAt_in hk]
      simp [h]
    rw [e]
    simp [h]
  · rw [joins_of hc hk h]
    simpa using h
theorem joins_out {l : List Sym} {f : Int} (h : ¬ (0 ≤ f ∧ f < l.length)) : (sgOf l).joins f = false := by
  show joinsAt l f = false
  unfold joinsAt symAt
  by_cases h0 : 0 ≤ f
  · rw [if_pos h0, List.getElem?_eq_none (by omega)]
  · rw [if_neg h0]
theorem kind_one {l : List Sym} {f : Int} (h : (sgOf l).joins f = false) : kindK l f = 1 := (kindK_ok l f).free.2 h
theorem joinB_not {l : List Sym} {f : Int} {n : Nat} (h : (sgOf l).joins f = false) : joinB l f n = false := by
  unfold joinB
  rw [kind_one h]
  rfl
theorem parts_not {l : List Sym} {f : Int} {t : Tn} (h : (sgOf l).joins f = false) : partsN (sgOf l) f t = [t] := by
  unfold partsN
  rw [if_pos h]

set_option maxRecDepth 100000 in
/-- append of what another slice holds, at a step of a statement that draws. -/
theorem step_append_kvs {ops : Array Oper} {o : Oper} {a : Act} {K : Act → World → Prop} {Q : Exit → Act → World → Prop} {E : Prop} {W : World} (hgd : o.guard = none) (s x : Operand)
    (ho : o.op = .call { callee := .builtin .append, args := #[s, x], argTypes := #[24, 24] }) (base : Nat) (v : Value) (ks : List Kv) (hs : a.eval s = v) (hown : W.ownsRow base 26 3 v ks.length (kvCells ks))
    (sa : Option Addr) (m c : Nat) (ms : List Kv) (hx : a.eval x = .slice sa m c) (hm : RowAt W sa m ms) (hnil : sa = none → c = 0) (hbig : ks.length + m ≤ 4194304) (hbase : base ≤ W.heap.size)
    (h : ∀ v' w', w'.ownsRow base 26 3 v' (ks ++ ms).length (kvCells (ks ++ ms)) → W.grownBy w' v.ownBlock → (v'.ownBlock = v.ownBlock ∨ v'.ownBlock = some W.heap.size) → K (a.put o.dst v') w') :
    if Region.wanted o (yielded ops a.tmps) = true then Oper.wp Try.prog o a W K Q else E := by
  have hw : Region.wanted o (yielded ops a.tmps) = true := by simp [Region.wanted, hgd]
  rw [if_pos hw]
  obtain ⟨i0, hi, hz0, hz1, hz2⟩ := info_parts Try.info26
  have hmax : maxLen = 9223372036854775807 := rfl
  rcases sa with _ | ⟨b, off, sp⟩
  · obtain rfl : ms = [] := by
      cases ms with
      | nil => rfl
      | cons k r =>
        obtain ⟨_, _, e, _⟩ := hm.get (j := 0) (k := k) rfl
        cases e
    obtain rfl := hm.len
    obtain rfl := hnil rfl
    have hrun := run_append_owned_none (P := Try.prog) (w := W) base 24 o.type 26 i0 3 Try.underlying24 hi v ks.length (kvCells ks) hown
    unfold Oper.wp
    simp [execOp, ho, resolve, invoke, builtin, hs, hx, hrun, Result.andThen]
    exact h v W (by simpa using hown) ⟨rfl, rfl, rfl, Nat.le_refl _, fun _ _ _ => rfl⟩ (.inl rfl)
  · have hlm := hm.len
    obtain ⟨v', w', hr, h2, h3, _, h5⟩ := run_append_own_at (P := Try.prog) W base 24 o.type 26 i0 _ 3 48 Try.underlying24 hi hz0 hz1 hz2 rfl (by decide) v ks.length (kvCells ks) hown ⟨b, off, sp⟩ m c (kvCells ms) (by rw [kvCells_len, hlm]) (fun j u hu => by
      obtain ⟨b', off', e, hc⟩ := hm.cells j u hu
      cases e
      rw [← hc]
      congr 1
      unfold Addr.add
      split <;> simp_all) (kvCells_one ms) (by omega) (by omega) hbase
    unfold Oper.wp execOp
    simp only [ho, resolve, invoke, builtin, Sem.run_bind, Sem.run_pure, Result.andThen_ok, List.map_toArray, List.map_cons, List.map_nil, hs, hx, hr]
    refine h v' w' ?_ h3 h5
    rw [kvCells_append, List.length_append, ← hlm]
    exact h2

/-- The list under way, and a box beside it. -/
structure Ch (wq W : World) (v : Value) (xs : List Kv) (ob : Option Nat) : Prop where
  low : Below wq.heap.size wq W
  row : W.ownsRow wq.heap.size 26 3 v xs.length (kvCells xs)
  box : ∀ g, ob = some g → XBox W g (⟨#[]⟩, 0) (.slice none 0 0) ∧ wq.heap.size ≤ g ∧ v.ownBlock ≠ some g
theorem Ch.lt {wq W : World} {v : Value} {xs : List Kv} {ob : Option Nat} (h : Ch wq W v xs ob) {g : Nat} (hg : v.ownBlock = some g) : g < W.heap.size := by
  obtain ⟨cur, hc⟩ := (owns_cells h.row hg).2
  exact (Array.getElem?_eq_some_iff.1 hc).1
theorem Ch.addbox {wq W : World} {v : Value} {xs : List Kv} (h : Ch wq W v xs none) : Ch wq (W.alloc (.cells #[.string ⟨#[]⟩, .int .i64 0, .slice none 0 0] 26)) v xs (some W.heap.size) :=
  ⟨h.low.alloc h.low.size _, owns_below h.row (alloc_below W _), fun g e => by
    cases e
    exact ⟨World.alloc_heap_new W _, h.low.size, fun e => by have := h.lt e; omega⟩⟩
theorem Ch.grow {wq W w' : World} {v v' : Value} {xs ms : List Kv} {ob : Option Nat} (h : Ch wq W v xs ob) (hg : W.grownBy w' v.ownBlock) (hat : v'.ownBlock = v.ownBlock ∨ v'.ownBlock = some W.heap.size) (ho : w'.ownsRow wq.heap.size 26 3 v' (xs ++ ms).length (kvCells (xs ++ ms))) : Ch wq w' v' (xs ++ ms) ob :=
  ⟨h.low.grown hg h.low.size (fun k e => (owns_cells h.row e).1), ho, fun g e => by
    obtain ⟨h1, h2, h3⟩ := h.box g e
    refine ⟨(hg.block g h1.lt (fun e => h3 e.symm)).trans h1, h2, ?_⟩
    rcases hat with e' | e'
    · rw [e']; exact h3
    · rw [e']; intro e''; cases e''; have := h1.lt; omega⟩
theorem Ch.new1 (wq : World) : Ch wq (wq.alloc (.cells #[] 26)) (.slice (some ⟨wq.heap.size, 0, none⟩) 0 0) [] none :=
  ⟨alloc_below wq _, row_empty26 wq, fun g e => by cases e⟩
theorem Ch.new2 (wq : World) : Ch wq ((wq.alloc (.cells #[.string ⟨#[]⟩, .int .i64 0, .slice none 0 0] 26)).alloc (.cells #[] 26)) (.slice (some ⟨wq.heap.size + 1, 0, none⟩) 0 0) [] (some wq.heap.size) := by
  have h := row_empty26 (wq.alloc (.cells #[.string ⟨#[]⟩, .int .i64 0, .slice none 0 0] 26))
  rw [World.size_alloc] at h
  refine ⟨(alloc_below wq _).alloc (by simp) _, owns_base h (by omega), fun g e => ?_⟩
  cases e
  exact ⟨XBox.below (W := wq.alloc (.cells #[.string ⟨#[]⟩, .int .i64 0, .slice none 0 0] 26)) (World.alloc_heap_new wq _) (alloc_below _ _), Nat.le_refl _, fun e => by simp [Value.ownBlock] at e⟩
theorem Ch.drew {wq W : World} {v : Value} {xs : List Kv} {ob : Option Nat} (h : Ch wq W v xs ob) : Ch wq W.drew v xs ob := ⟨h.low.drew, h.row, h.box⟩
/-- append of what lies in older memory. -/
theorem Ch.append {ops : Array Oper} {o : Oper} {a : Act} {K : Act → World → Prop} {Q : Exit → Act → World → Prop} {E : Prop} {wq W : World} {v : Value} {xs ms : List Kv} {ob : Option Nat} (hgd : o.guard = none) (s x : Operand)
    (ho : o.op = .call { callee := .builtin .append, args := #[s, x], argTypes := #[24, 24] }) (hC : Ch wq W v xs ob) (hs : a.eval s = v)
    {sa : Option Addr} {m c : Nat} (hx : a.eval x = .slice sa m c) (hm : RowAt wq sa m ms) (hnil : sa = none → c = 0) (hbig : xs.length + m ≤ 4194304)
    (h : ∀ v' w', Ch wq w' v' (xs ++ ms) ob → K (a.put o.dst v') w') : if Region.wanted o (yielded ops a.tmps) = true then Oper.wp Try.prog o a W K Q else E :=
  step_append_kvs hgd s x ho wq.heap.size v xs hs hC.row sa m c ms hx (hm.below hC.low) hnil hbig hC.low.size fun v' w' h1 h2 h3 => h v' w' (hC.grow h2 h3 h1)
/-- Join of a slice of terms, its memory told. -/
theorem pjoin_sep (S : Option Addr) (n cap : Nat) (l : List Sym) (f : Int) (ks : List Kv) (a : Option Addr) (c : Nat) (w : World) (hS : SigAt w S n l) (hR : RowAt w a ks.length ks) (hT : ∀ k ∈ ks, TmAt w k.x k.a k.c k.l) (hk : sizes (ks.map Kv.tn) ≤ 1048576) :
    Calls Try.prog 9 #[.slice S n cap, .int .i64 f, .slice a ks.length c] w fun e w' => ∃ k : Kv, e = .returned (.tuple #[.agg #[.string k.x.1, .int .i64 k.x.2, .slice k.a (lenF k.l) k.c], .bool (joinB l f ks.length)]) ∧ JoinR l f (ks.map Kv.tn) (joinB l f ks.length) k.tn ∧ SepTm w' (fun q => w.heap.size ≤ q) k.x k.a k.c k.l ∧ Below w.heap.size w w' := by
  have hl : lenF (mkF (ks.map Kv.tn)) = ks.length := by rw [len_mk, List.length_map]
  have := pjoin_any S n cap l f (mkF (ks.map Kv.tn)) a c w hS (args_of_row hR hT) (by rw [nodes_mk]; exact hk)
  rw [hl, kids_mk] at this
  refine this.mono ?_
  rintro e w' ⟨k, rfl, hj, hE, hb⟩
  exact ⟨k, rfl, hj, hE.1, hb⟩
/-- The parts of what was joined of the parts of two. -/
theorem parts_two {S : Sg} {ar : Int → Nat} (hS : S.Ok ar) {f : Int} {a b r : Tn} (hj : S.joins f = true) (ha : CanT S ar a) (hb : CanT S ar b) (h : joinL S f (partsN S f a ++ partsN S f b) = some r) :
    (partsN S f r).length = (partsN S f a).length + (partsN S f b).length ∧ Srt (partsN S f r) := by
  have hg : ∀ p ∈ partsN S f a ++ partsN S f b, Good S ar f p := fun p hp => by
    rcases List.mem_append.1 hp with h | h
    · exact parts_good hj ha p h
    · exact parts_good hj hb p h
  exact ⟨by rw [(parts_join hj hg h).length_eq, List.length_append], parts_srt hj (join_can hS hj hg h)⟩
/-- There is always something to join, or a unit. -/
theorem join_ok {S : Sg} {ar : Int → Nat} {f : Int} {a : Tn} (hj : S.joins f = true) (ha : CanT S ar a) (l : List Tn) : ∃ r, joinL S f (partsN S f a ++ l) = some r := by
  have h := join_parts hj ha
  cases hp : partsN S f a with
  | nil =>
    rw [hp] at h
    cases l with
    | nil => exact ⟨a, h⟩
    | cons x r =>
      cases r with
      | nil => exact ⟨_, rfl⟩
      | cons _ _ => exact ⟨_, rfl⟩
  | cons x r =>
    cases hl : r ++ l with
    | nil => exact ⟨x, by rw [List.cons_append, hl]; rfl⟩
    | cons y z => exact ⟨_, by rw [List.cons_append, hl]; rfl⟩
end Go.Proofs.Ytlemkgdbefmeeab
/- How a statement of layer 4 follows from its walk: the frame, of CanonBack. -/
namespace Go.Proofs.Ytlemkgdbefmeeab
open Go.ChangeShapes Go.WideShapes Go.ChangeAt Go.RowKit Go.Deep

def BackWalk : Prop := ∀ (S : Option Addr) (n cap : Nat) (l : List Sym) (A B : Tn) (a b : Option Addr) (c d : Nat) (f : Int) (La : Option Addr) (F : Fo) (lc : Nat) (W : World), TwoAt W S n l A B a b c d La F → n ≤ cap → nodesF A.2 + nodesF B.2 + nodesF F + 4 ≤ 1048576 →
  Calls Try.prog 3 #[.agg (twoC S n cap A B a b c d f La F lc)] W fun e W' => e = .returned (.bool true) ∧ Below W.heap.size W W'

set_option maxRecDepth 100000 in
theorem canonBack_contract (walk : BackWalk) (H : Type) (enc : TypeId × Value → H) (W : World) (base : Nat) (args : Array Value) (ds gs : List (DataW H)) (before : List MemPlace)
    (hval : ∀ (j : Nat) t v, Try.f3.params[j]? = some t → args[j]? = some v → Value.okWide Try.prog W .any base t v)
    (hW : DataW.Whole enc Try.prog Try.f3.params.toList Rows.canonBackSpec.vars false W args.toList ds gs before) (hk : Rows.uptoSmall H (ds ++ gs) = true) :
    Calls Try.prog 3 args W fun e W' => ∃ v, e = .returned v ∧ Rows.canonBackSpec.post enc Try.prog Try.f3 false true false false W args v W' := by
  have hW' := hW
  obtain ⟨p, q, hA0, hV, rfl, hfz, hnd⟩ := hW
  have hA : DataW.TrodAll enc Try.prog W 0 (fun _ => true) true Try.f3.params.toList args.toList ds p := hA0
  rw [Try.params3] at hA hval
  obtain ⟨v0, vs0, d0, ds0, p0, q0, hargs, rfl, rfl, h0, r0⟩ := trodAll_cons hA
  obtain ⟨rfl, rfl, rfl⟩ := trodAll_nil r0
  obtain rfl : args = #[v0] := by cases args; simp_all
  obtain ⟨rfl, rfl⟩ := trodVars_none hV
  have lt0 : ∀ x ∈ p0, x.block < W.heap.size := by obtain ⟨m, hm⟩ := h0; exact DataW.trod_lt m _ _ _ hm
  have hbulk : Rows.uptoBulk d0 ≤ 1048576 := by
    have h : Rows.uptoBulkAll ([d0] ++ []) ≤ 1048576 := of_decide_eq_true hk
    simp only [List.append_nil, Rows.uptoBulkAll] at h
    omega
  obtain ⟨S, n, cap, l, A, B, a, b, c, d, f, La, F, lc, rfl, hT, hc, hs⟩ := two_open (hval 0 28 v0 rfl rfl) h0 hbulk
  clear hA0
  refine (walk S n cap l A B a b c d f La F lc W hT hc hs).mono fun e W' ⟨he, bel⟩ => ?_
  subst he
  exact ⟨_, rfl, _, _, _, [], _, [], hW', trodAll_mk1 (shut_bool Try.underlying4 _), (trodAll_cons_mk (Below.trod laidOut (by kernel_rfl) (of_decide_eq_true (by kernel_rfl)) h0 bel lt0) trodAll_mk0), rfl, bel.frame _, fun h => by cases h⟩

set_option maxRecDepth 100000 in
theorem canonBack_lifted (walk : BackWalk) (os : Os) (started : os.Started) (H : Type) (enc : TypeId × Value → H) (F : Stop.Interp) :
    ReturnsInHanded {} Try.checked os 3 .any ((Rows.OpenSpec.upto Rows.canonBackSpec).pre6 enc Try.prog Try.f3 Rows.canonBackUptoRow.domain false) (((Rows.OpenSpec.upto Rows.canonBackSpec).at F).post enc Try.prog Try.f3 false true false false) := by
  refine returnsInHanded_of_cond (C := Try.checked) (s := Rows.OpenSpec.upto Rows.canonBackSpec) (k := Rows.uptoSmall) rfl own started (by kernel_rfl) Try.func3
    (OpenSpec.witness (enc := enc) (C := Try.checked) (s := Rows.OpenSpec.upto Rows.canonBackSpec) (k := Rows.uptoSmall) rfl false ⟨#[], #[.agg #[.slice none 0 0, .string .empty, .int .i64 0, .slice none 0 0, .string .empty, .int .i64 0, .slice none 0 0, .int .i64 0, .slice none 0 0]], []⟩ 3 (by kernel_rfl) (by kernel_rfl) (by kernel_rfl)
      (x := ([.agg [.nil, .agg [.lit (.string []), .lit (.int .i64 0), .nil], .agg [.lit (.string []), .lit (.int .i64 0), .nil], .lit (.int .i64 0), .nil]], [], [])) (by kernel_rfl) rfl (by kernel_rfl)) ?_
  intro W base args ds gs before hval hW _ hk _
  exact canonBack_contract walk H enc W base args ds gs before hval hW hk

set_option maxRecDepth 100000 in
theorem canonBack_of (walk : BackWalk) : Rows.CanonBackUptoSaid :=
  OpenClaim.holds_of_cond 3 Try.f3 rfl rfl rfl rfl rfl rfl rfl ⟨rfl, rfl, rfl, rfl, rfl⟩ rfl rfl rfl rfl rfl (by kernel_rfl) Try.func3 (by kernel_rfl)
    (of_decide_eq_true (by kernel_rfl)) (by unfold Func.isWrapper; first | (rw [if_pos (by decide +kernel)]; kernel_rfl) | (rw [if_neg (by decide +kernel)]; exact ⟨rfl, rfl⟩))
    (fun os started H enc _ F => canonBack_lifted walk os started H enc F)
end Go.Proofs.Ytlemkgdbefmeeab
namespace Go.Proofs.Ytlemkgdbefmeeab
open Go.RowKit Go.Deep

theorem wrap_in {z : Int} (h0 : 0 ≤ z) (h1 : z ≤ 9223372036854775807) : IntKind.i64.wrap z = z := by
  simp [IntKind.wrap, IntKind.bits, IntKind.signed]
  omega
theorem sep_ne {w : World} {n g : Nat} {x : ByteArray × Int} {a : Option Addr} {c : Nat} {l : Fo} (hg : g < n) (h : SepTm w (fun q => n ≤ q) x a c l) : SepTm w (fun q => q ≠ g) x a c l :=
  SepTm.mono (fun q hq e => by rw [e] at hq; exact absurd hq (Nat.not_le.2 hg)) h
theorem bl_over {w W : World} (h : Below w.heap.size w W) (o : Obj) : Below w.heap.size w (W.alloc o) := h.alloc h.size o

set_option maxRecDepth 100000 in
set_option maxHeartbeats 8000000 in
theorem back_walk : BackWalk := by
  intro S n cap l A B a b c d f La F lc w hT hcap hsz
  have HT := hid hT
  have HSZ := hid hsz
  clear hT hsz
  have I0 : Hid (InSt w (twoC S n cap A B a b c d f La F lc) (w.alloc (.cells (twoC S n cap A B a b c d f La F lc) 28))) := InSt.new w _
  have HRT := hid (fun W (hW : Below w.heap.size w W) => right_any S n cap l A B a b c d f La F lc W (HT.out.below hW))
  unfold twoC at I0 HRT ⊢
  go_enter Try.func3, Try.ntmps3
  go_wp2_with fail
  refine (head_any _).mono ?_
  rintro e w1 ⟨rfl, hb1⟩
  have I1 := hid (I0.out.below hb1)
  clear I0 hb1
  have i0 := I1.out.box.c 0 rfl; have i1 := I1.out.box.c 1 rfl; have i2 := I1.out.box.c 2 rfl; have i3 := I1.out.box.c 3 rfl; have i4 := I1.out.box.c 4 rfl; have i5 := I1.out.box.c 5 rfl; have i6 := I1.out.box.c 6 rfl; have i7 := I1.out.box.c 7 rfl; have i8 := I1.out.box.c 8 rfl
  go_wp2_with fail
  refine (HRT.out w1 I1.out.low).mono ?_
  rintro e w2 ⟨rfl, hb2⟩
  have I2 := hid (I1.out.below hb2)
  clear I1 hb2 i0 i1 i2 i3 i4 i5 i6 i7 i8 HRT
  cases hrt : (rightB l A && rightB l B && (kidsL F).all (rightB l))
  · go_wp2
    go_ret
    exact ⟨rfl, I2.out.low⟩
  · have hra : rightB l A = true := by simp only [Bool.and_eq_true] at hrt; exact hrt.1.1
    have hrb : rightB l B = true := by simp only [Bool.and_eq_true] at hrt; exact hrt.1.2
    obtain ⟨hOk, hRA⟩ := right_facts hra
    have hRB := (right_facts hrb).2
    have hchk : checkE l = 0 := by unfold rightB at hra; simp only [Bool.and_eq_true, beq_iff_eq] at hra; exact hra.1
    obtain ⟨T, hTe⟩ : ∃ T, canonT (sgOf l) A = T := ⟨_, rfl⟩
    have hCT : CanT (sgOf l) (arAt l) T := by rw [← hTe]; exact canonT_can hOk hRA
    have hTs : nodesF T.2 + 1 ≤ nodesF A.2 + 1 := by rw [← hTe]; exact canonT_size _ _
    have HOK := hid hOk; have HRA := hid hRA; have HRB := hid hRB; have HCK := hid hchk; have HTE := hid hTe; have HCT := hid hCT
    have hsz := HSZ.out
    have hns := HT.out.sig.small
    unfold maxLen at hns
    have HNL := hid HT.out.sig.len
    clear hra hrb hOk hRA hRB hchk hTe hCT hrt
    have i0 := I2.out.box.c 0 rfl; have i1 := I2.out.box.c 1 rfl; have i2 := I2.out.box.c 2 rfl; have i3 := I2.out.box.c 3 rfl
    go_wp2_with fail
    refine (pcanon_any S n cap l A a c w2 (HT.out.sig.below I2.out.low) (HT.out.a.below I2.out.low) (by omega)).mono ?_
    rintro e w3 ⟨⟨tx, tl, ta, tc⟩, rfl, hcan, hE, hb3⟩
    have hTe : (tx, tl) = T := (hcan.2 HOK.out HRA.out).trans HTE.out
    subst hTe
    dsimp only at hTs
    have B3 := alloc_below w3 (.cells #[.string tx.1, .int .i64 tx.2, .slice ta (lenF tl) tc] 26)
    have I3 := hid ((I2.out.below hb3).below B3)
    have T3 : Hid (TmAt (w3.alloc (.cells #[.string tx.1, .int .i64 tx.2, .slice ta (lenF tl) tc] 26)) tx ta tc tl) := hid ((SepTm.tm hE.1).below B3)
    have X3 : Hid (XBox (w3.alloc (.cells #[.string tx.1, .int .i64 tx.2, .slice ta (lenF tl) tc] 26)) w3.heap.size tx (.slice ta (lenF tl) tc)) := World.alloc_heap_new w3 _
    clear hcan hE hb3 B3 i0 i1 i2 i3 I2
    have i0 := I3.out.box.c 0 rfl; have i7 := I3.out.box.c 7 rfl
    have x0 := X3.out.c0; have x1 := X3.out.c1; have x2 := X3.out.c2
    go_wp2_with fail
    clear i0 i7 x0 x1 x2
    generalize w3.alloc (.cells #[.string tx.1, .int .i64 tx.2, .slice ta (lenF tl) tc] 26) = W3 at I3 T3 X3 ⊢
    refine (pparts_any S n cap l f (tx, tl) ta tc W3 (HT.out.sig.below I3.out.low) T3.out).mono ?_
    rintro e w4 ⟨pa, pc, ks, rfl, hks, hN, hb4⟩
    have hNT := gl_each hN.gl
    have hpl := hN.cap
    unfold maxLen at hpl
    have HKS := hid hks
    have hps : sizes (ks.map Kv.tn) ≤ nodesF tl + 1 := by rw [hks]; exact parts_size _ _ _
    have I4 := hid (I3.out.below hb4)
    have T4 := hid (T3.out.below hb4)
    have X4 := hid (X3.out.below hb4)
    have P4 := hid hN.row
    have PT4 := hid hNT
    have PN := hid hN.nil
    clear hb4 I3 T3 X3 hks hN hNT
    have i0 := I4.out.box.c 0 rfl; have i7 := I4.out.box.c 7 rfl
    go_wp2_with fail
    clear i0 i7
    refine (pjoin_row S n cap l f ks pa pc w4 (HT.out.sig.below I4.out.low) P4.out PT4.out (by omega)).mono ?_
    rintro e w5 ⟨⟨jx, jl, ja, jc⟩, rfl, hJ, hjt, hb5⟩
    have B5 := alloc_below w5 (.cells #[.string jx.1, .int .i64 jx.2, .slice ja (lenF jl) jc] 26)
    have I5 := hid ((I4.out.below hb5).below B5)
    have T5 := hid ((T4.out.below hb5).below B5)
    have X5 := hid ((X4.out.below hb5).below B5)
    have P5 := hid ((P4.out.below hb5).below B5)
    have PT5 := hid (fun k hk => ((PT4.out k hk).below hb5).below B5)
    have J5 : Hid (TmAt (w5.alloc (.cells #[.string jx.1, .int .i64 jx.2, .slice ja (lenF jl) jc] 26)) jx ja jc jl) := hid (hjt.below B5)
    have Z5 : Hid (XBox (w5.alloc (.cells #[.string jx.1, .int .i64 jx.2, .slice ja (lenF jl) jc] 26)) w5.heap.size jx (.slice ja (lenF jl) jc)) := World.alloc_heap_new w5 _
    have HJR := hid hJ
    clear hJ hjt hb5 B5 I4 T4 X4 P4 PT4
    go_upto_region 8 with fail
    generalize w5.alloc (.cells #[.string jx.1, .int .i64 jx.2, .slice ja (lenF jl) jc] 26) = W5 at I5 T5 X5 P5 PT5 J5 Z5 ⊢
    go_cut [9] (fun v wc => v = .bool ((sgOf l).joins f) ∧ Below W5.heap.size W5 wc)
    case first =>
      have i0 := I5.out.box.c 0 rfl; have i7 := I5.out.box.c 7 rfl
      by_cases h0 : 0 ≤ f
      · by_cases h1 : f < (n : Int)
        · obtain ⟨k, rfl⟩ := Int.eq_ofNat_of_zero_le h0
          have hkn : k < n := by omega
          have hkl : k < l.length := by have := HNL.out; omega
          obtain ⟨sb, so, rfl, hw⟩ := HT.out.sig.cells k hkl
          have c1 := (hw.below I5.out.low).kind
          clear hw
          go_wp2_with fail
          go_meet
          exact ⟨by rw [← joins_in HCK.out hkl], Below.refl _ _⟩
        · have h2 : (n : Int) ≤ f := by omega
          go_wp2_with fail
          go_meet
          exact ⟨by rw [joins_out (by have := HNL.out; omega)], Below.refl _ _⟩
      · have h2 : f < 0 := by omega
        go_wp2_with fail
        go_meet
        exact ⟨by rw [joins_out (by omega)], Below.refl _ _⟩
    case rest =>
      obtain ⟨rfl, hbc⟩ := hcut
      have I6 := hid (I5.out.below hbc); have T6 := hid (T5.out.below hbc); have X6 := hid (X5.out.below hbc); have P6 := hid (P5.out.below hbc); have PT6 := hid (fun k hk => (PT5.out k hk).below hbc); have J6 := hid (J5.out.below hbc); have Z6 := hid (Z5.out.below hbc)
      clear hbc I5 T5 X5 P5 PT5 J5 Z5
      have x0 := X6.out.c0; have x1 := X6.out.c1; have x2 := X6.out.c2
      cases hjo : (sgOf l).joins f with
      | false =>
        have hb0 : joinB l f ks.length = false := joinB_not hjo
        rw [hb0]
        have hone : ks.map Kv.tn = [(tx, tl)] := by rw [HKS.out]; exact parts_not hjo
        obtain ⟨kx, kl, ka, kc, rfl⟩ : ∃ kx kl ka kc, ks = [⟨kx, kl, ka, kc⟩] := by
          cases ks with
          | nil => cases hone
          | cons k r => cases r with
            | nil => exact ⟨k.x, k.l, k.a, k.c, rfl⟩
            | cons _ _ => simp at hone
        simp only [List.map_cons, List.map_nil, List.cons.injEq, and_true, Kv.tn, Prod.mk.injEq] at hone
        obtain ⟨rfl, rfl⟩ := hone
        obtain ⟨pb, po, hpa, r0, r1, r2⟩ := P6.out.get (j := 0) rfl
        rw [Nat.zero_mul, Nat.add_zero] at r0 r1 r2
        dsimp only at r0 r1 r2
        subst hpa
        have hk6 := PT6.out _ (List.mem_singleton.2 rfl)
        dsimp only at hk6
        have HE : Hid (∀ W, Below wc.heap.size wc W → Calls Try.prog 10 #[.agg #[.string kx.1, .int .i64 kx.2, .slice ka (lenF kl) kc], .agg #[.string kx.1, .int .i64 kx.2, .slice ta (lenF kl) tc]] W fun e w' => e = .returned (.bool true) ∧ Below W.heap.size W w') := hid fun W hW => by
          have := rexact_any (kx, kl) (kx, kl) ka ta kc tc W (hk6.below hW) (T6.out.below hW)
          rw [exN_self (kx, kl)] at this
          exact this
        have hne7 := later_some wc
        have d0 := later_cell x0; have d1 := later_cell x1; have d2 := later_cell x2
        have e0 := later_cell r0; have e1 := later_cell r1; have e2 := later_cell r2
        have LOW := hid I6.out.low
        clear x0 x1 x2 r0 r1 r2 hk6 HT HSZ HOK HRA HRB HCK HTE HCT HKS HJR HNL I6 T6 X6 P6 PT6 J6 Z6 PN hjo hb0
        simp only [List.length_cons, List.length_nil]
        go_wp2_with fail
        refine wp_region_later (by kernel_rfl) (by kernel_rfl) ?_
        repeat (go_big_quiet_step (first | (go_at_call 10; with_reducible refine calls_later (HE.out _ ?_); exact Later.below _) | fail))
        refine wpQuiet_nil ?_
        intro _ hw'
        obtain ⟨b3, hw''⟩ := hw'
        subst hw''
        clear d0 d1 d2 e0 e1 e2 hne7
        go_wp2
        go_ret
        exact ⟨rfl, LOW.out.trans (b3.below.mono LOW.out.size)⟩
      | true =>
        have hjr : joinB l f ks.length = true ∧ (jx, jl) = (tx, tl) := by
          have h := HJR.out.2.2 HOK.out (fun t ht => by rw [HKS.out] at ht; exact right_of_can (parts_good hjo HCT.out t ht).can)
          rw [HKS.out, join_back hjo HCT.out] at h
          cases hb : joinB l f ks.length with
          | false => rw [hb] at h; cases h
          | true => rw [hb] at h; simp only [if_true, Option.some.injEq] at h; exact ⟨rfl, h.symm⟩
        obtain ⟨hbt, hje⟩ := hjr
        simp only [Prod.mk.injEq] at hje
        obtain ⟨rfl, rfl⟩ := hje
        rw [hbt]
        have z0 := Z6.out.c0; have z1 := Z6.out.c1; have z2 := Z6.out.c2
        go_wp2_with fail
        have hx := rexact_any (jx, jl) (jx, jl) ja ta jc tc wc J6.out T6.out
        rw [exN_self (jx, jl)] at hx
        refine hx.mono ?_
        rintro e w7 ⟨rfl, hb7⟩
        have I7 := hid (I6.out.below hb7); have P7 := hid (P6.out.below hb7); have PT7 := hid (fun k hk => (PT6.out k hk).below hb7)
        clear hx hb7 z0 z1 z2 x0 x1 x2 I6 T6 X6 P6 PT6 J6 Z6 HJR hbt
        go_wp2_with fail
        obtain ⟨U, hU⟩ : ∃ U, canonT (sgOf l) B = U := ⟨_, rfl⟩
        have hCU : CanT (sgOf l) (arAt l) U := by rw [← hU]; exact canonT_can HOK.out HRB.out
        have hUs : nodesF U.2 + 1 ≤ nodesF B.2 + 1 := by rw [← hU]; exact canonT_size _ _
        have HCU := hid hCU
        have HJO := hid hjo
        have HCB : Hid (∀ W, Below w7.heap.size w7 W → Calls Try.prog 7 #[.slice S n cap, .agg #[.string B.1.1, .int .i64 B.1.2, .slice b (lenF B.2) d]] W fun e w' => ∃ ua uc, e = .returned (.agg #[.string U.1.1, .int .i64 U.1.2, .slice ua (lenF U.2) uc]) ∧ TmAt w' U.1 ua uc U.2 ∧ Below W.heap.size W w') := hid fun W hW => by
          have hW' := I7.out.low.trans (hW.mono I7.out.low.size)
          refine (pcanon_any S n cap l B b d W (HT.out.sig.below hW') (HT.out.b.below hW') (by omega)).mono ?_
          rintro e w' ⟨⟨ux, ul, ua, uc⟩, rfl, hcan, hE, hb⟩
          have he : (ux, ul) = U := (hcan.2 HOK.out HRB.out).trans hU
          subst he
          exact ⟨ua, uc, rfl, SepTm.tm hE.1, hb⟩
        have HPB : Hid (∀ W ua uc, Below w7.heap.size w7 W → TmAt W U.1 ua uc U.2 → Calls Try.prog 8 #[.slice S n cap, .int .i64 f, .agg #[.string U.1.1, .int .i64 U.1.2, .slice ua (lenF U.2) uc]] W fun e w' => ∃ (qa : Option Addr) (qc : Nat) (ms : List Kv), e = .returned (.slice qa ms.length qc) ∧ ms.map Kv.tn = partsN (sgOf l) f U ∧ RowAt w' qa ms.length ms ∧ (∀ k ∈ ms, TmAt w' k.x k.a k.c k.l) ∧ (qa = none → qc = 0) ∧ ms.length ≤ qc ∧ qc ≤ 9223372036854775807 ∧ Below W.heap.size W w') := hid fun W ua uc hW hT' => by
          have hW' := I7.out.low.trans (hW.mono I7.out.low.size)
          refine (pparts_any S n cap l f U ua uc W (HT.out.sig.below hW') hT').mono ?_
          rintro e w' ⟨qa, qc, ms, rfl, hm, hN, hb⟩
          exact ⟨qa, qc, ms, rfl, hm, hN.row, gl_each hN.gl, hN.nil, hN.cap.1, hN.cap.2, hb⟩
        have HI0 := hid (I7.out.box.c 0 rfl); have HI4 := hid (I7.out.box.c 4 rfl); have HI5 := hid (I7.out.box.c 5 rfl); have HI6 := hid (I7.out.box.c 6 rfl); have HI7 := hid (I7.out.box.c 7 rfl)
        clear hCU hU hjo
        go_upto_region 13 with fail
        go_cut [10] (fun v wc => ∃ (qa : Option Addr) (qc : Nat) (ms : List Kv), v = .slice qa ms.length qc ∧ ms.map Kv.tn = partsN (sgOf l) f U ∧ RowAt wc qa ms.length ms ∧ (∀ k ∈ ms, TmAt wc k.x k.a k.c k.l) ∧ (qa = none → qc = 0) ∧ ms.length ≤ qc ∧ qc ≤ 9223372036854775807 ∧ Below w7.heap.size w7 wc)
        case first =>
          go_region_held3 (fun w' => w'.cell? ⟨w.heap.size, 0, none⟩ = some (.slice S n cap) ∧ w'.cell? ⟨w.heap.size, 4, none⟩ = some (.string B.1.1) ∧ w'.cell? ⟨w.heap.size, 5, none⟩ = some (.int .i64 B.1.2) ∧ w'.cell? ⟨w.heap.size, 6, none⟩ = some (.slice b (lenF B.2) d) ∧ w'.cell? ⟨w.heap.size, 7, none⟩ = some (.int .i64 f)) ((first
            | (refine ⟨?_, ?_, ?_, ?_, ?_⟩ <;> (refine below_cell HB9.out _ _ ?_; first | exact HI0.out | exact HI4.out | exact HI5.out | exact HI6.out | exact HI7.out))
            | (refine ⟨?_, ?_, ?_, ?_, ?_⟩ <;> (refine below_cell HB8.out _ _ ?_; first | exact HI0.out | exact HI4.out | exact HI5.out | exact HI6.out | exact HI7.out))
            | (refine ⟨?_, ?_, ?_, ?_, ?_⟩ <;> first | exact HI0.out | exact HI4.out | exact HI5.out | exact HI6.out | exact HI7.out)
            | go_keep | fail)) ((first
            | (go_at_call 8; refine Calls.mono (HPB.out _ _ _ HB8.out HT8.out) ?_; rintro e w9 ⟨qa, qc, ms, rfl, hm1, hm2, hm3, hm4, hm5, hm6, hb9⟩; have HM := hid (And.intro hm1 (And.intro hm2 (And.intro hm3 (And.intro hm4 (And.intro hm5 hm6))))); have HB9 : Hid (Below w7.heap.size w7 w9) := HB8.out.trans (hb9.mono HB8.out.size); clear hm1 hm2 hm3 hm4 hm5 hm6 hb9)
            | (go_at_call 7; refine Calls.mono (HCB.out _ ((Below.refl _ w7).drew)) ?_; rintro e w8 ⟨ua, uc, rfl, ht8, hb8⟩; have HT8 := hid ht8; have HB8 : Hid (Below w7.heap.size w7 w8) := ((Below.refl _ w7).drew).trans hb8; clear ht8 hb8)
            | fail))
          all_goals (go_wp2_with fail; go_meet)
          all_goals exact ⟨qa, qc, ms, rfl, HM.out.1, HM.out.2.1, HM.out.2.2.1, HM.out.2.2.2.1, HM.out.2.2.2.2.1, HM.out.2.2.2.2.2, HB9.out⟩
        case rest =>
          obtain ⟨qa, qc, ms, rfl, hms, hqr, hqt, hqn, hq1, hq2, hbc⟩ := hcut
          obtain ⟨wq, hwq⟩ : ∃ wq, wq = wc := ⟨_, rfl⟩
          subst hwq
          have IQ := hid (I7.out.below hbc)
          have PQ := hid (P7.out.below hbc)
          have PTQ := hid (fun k hk => (PT7.out k hk).below hbc)
          have QQ := hid hqr
          have QTQ := hid hqt
          have QN := hid hqn
          have HMS := hid hms
          have hqs : sizes (ms.map Kv.tn) ≤ nodesF U.2 + 1 := by rw [hms]; exact parts_size _ _ _
          clear hbc hqr hqt hqn hms I7 P7 PT7 HCB HPB HI0 HI4 HI5 HI6 HI7
          have hsum : sizes ((ks ++ ms).map Kv.tn) ≤ 1048576 := by rw [List.map_append, sizes_append]; omega
          have hkl1 : ks.length ≤ 1048576 := by have h1 := sizes_len (ks.map Kv.tn); rw [List.length_map] at h1; omega
          have hml1 : ms.length ≤ 1048576 := by have h1 := sizes_len (ms.map Kv.tn); rw [List.length_map] at h1; omega
          have HJN : Hid (∀ W ga gc, Below wq.heap.size wq W → RowAt W ga (ks ++ ms).length (ks ++ ms) → Calls Try.prog 9 #[.slice S n cap, .int .i64 f, .slice ga (ks.length + ms.length) gc] W fun e w' => ∃ k : Kv, e = .returned (.tuple #[.agg #[.string k.x.1, .int .i64 k.x.2, .slice k.a (lenF k.l) k.c], .bool (joinB l f (ks.length + ms.length))]) ∧ JoinR l f ((ks ++ ms).map Kv.tn) (joinB l f (ks.length + ms.length)) k.tn ∧ SepTm w' (fun q => W.heap.size ≤ q) k.x k.a k.c k.l ∧ Below W.heap.size W w') := hid fun W ga gc hW hR => by
            have hW' := IQ.out.low.trans (hW.mono IQ.out.low.size)
            have hla : ks.length + ms.length = (ks ++ ms).length := List.length_append.symm
            rw [hla]
            refine pjoin_sep S n cap l f (ks ++ ms) ga gc W (HT.out.sig.below hW') hR (fun k hk => ?_) hsum
            rcases List.mem_append.1 hk with hk | hk
            · exact (PTQ.out k hk).below hW
            · exact (QTQ.out k hk).below hW
          have HI0 : Hid (wq.cell? ⟨w.heap.size, 0, none⟩ = some (.slice S n cap)) := hid (IQ.out.box.c 0 rfl)
          have HI7 : Hid (wq.cell? ⟨w.heap.size, 7, none⟩ = some (.int .i64 f)) := hid (IQ.out.box.c 7 rfl)
          have HL1 := hid hkl1; have HL2 := hid hml1
          clear hkl1 hml1
          go_upto_region 14 with fail
          go_cut [11, 12] (fun p ok wc => ∃ (g : Nat) (kv : Kv), p = .pointer (some ⟨g, 0, none⟩) ∧ ok = .bool (joinB l f (ks.length + ms.length)) ∧ XBox wc g kv.x (.slice kv.a (lenF kv.l) kv.c) ∧ TmAt wc kv.x kv.a kv.c kv.l ∧ JoinR l f ((ks ++ ms).map Kv.tn) (joinB l f (ks.length + ms.length)) kv.tn ∧ Below wq.heap.size wq wc)
          case first =>
            go_region_held3 (fun w' => w'.cell? ⟨w.heap.size, 0, none⟩ = some (.slice S n cap) ∧ w'.cell? ⟨w.heap.size, 7, none⟩ = some (.int .i64 f)) ((first
              | (refine ⟨?_, ?_⟩ <;> (with_reducible refine below_cell (w := wq) ?_ _ _ ?_; (solve | (repeat' first | (with_reducible exact Below.refl _ wq) | (with_reducible exact HB9.out) | (with_reducible exact HC8.out.low) | (with_reducible exact HC6.out.low) | (with_reducible refine Below.drew ?_) | (with_reducible refine bl_over ?_ _) | (with_reducible refine sets_below ?_ HGE.out _ _ _))); first | exact HI0.out | exact HI7.out))
              | fail)) ((first
              | (go_at_call 9; (with_reducible refine Calls.mono (HJN.out _ ga gc ?_ ?_) ?_); (first | (with_reducible exact HC8.out.low) | (exact HC8.out.addbox.low)); (first | (with_reducible exact HR8.out) | (with_reducible refine RowAt.below HR8.out (alloc_below _ _))); rintro e w9 ⟨⟨jx9, jl9, ja9, jc9⟩, rfl, hj9, hs9, hb9⟩; first
                  | (have HY9 := hid ((HC8.out.box _ rfl).1.below hb9); have HGE := hid (HC8.out.box _ rfl).2.1; have HS9 := hid (sep_ne (HC8.out.box _ rfl).1.lt hs9); have HB9 : Hid (Below wq.heap.size wq w9) := HC8.out.low.trans (hb9.mono HC8.out.low.size); have y0 := HY9.out.c0; have y1 := HY9.out.c1; have y2 := HY9.out.c2; have z0 := HY9.out.f (k := 0); have z1 := HY9.out.f (k := 1); have z2 := HY9.out.f (k := 2); have HJ9 := hid hj9; clear hj9 hs9 hb9)
                  | (have HY9 := hid ((HC8.out.addbox.box _ rfl).1.below hb9); have HGE := hid (HC8.out.addbox.box _ rfl).2.1; have HS9 := hid (sep_ne (HC8.out.addbox.box _ rfl).1.lt hs9); have HB9 : Hid (Below wq.heap.size wq w9) := HC8.out.addbox.low.trans (hb9.mono HC8.out.addbox.low.size); have y0 := HY9.out.c0; have y1 := HY9.out.c1; have y2 := HY9.out.c2; have z0 := HY9.out.f (k := 0); have z1 := HY9.out.f (k := 1); have z2 := HY9.out.f (k := 2); have HJ9 := hid hj9; clear hj9 hs9 hb9)
                  | (have HS9 := hid hs9; have HB9 : Hid (Below wq.heap.size wq w9) := HC8.out.low.trans (hb9.mono HC8.out.low.size); have HJ9 := hid hj9; clear hj9 hs9 hb9))
              | ((with_reducible refine Ch.append (wq := wq) ?_ (.tmp 107) (.tmp 108) ?_ HC6.out ?_ ?_ QQ.out QN.out ?_ ?_); (solve | rfl); (solve | rfl); (solve | rfl); (solve | rfl); (solve | (have := HL1.out; have := HL2.out; omega)); intro v8 w8 hc8; obtain ⟨ga, gc, rfl, hg1, hg2, hr8, hg3, hg4⟩ := row_of_owns hc8.row; have HR8 := hid hr8; have HC8 := hid hc8; clear hc8 hr8 hg1 hg2 hg3 hg4)
              | ((with_reducible refine Ch.append (wq := wq) ?_ (.tmp 107) (.tmp 108) ?_ HC6.out.addbox ?_ ?_ QQ.out QN.out ?_ ?_); (solve | rfl); (solve | rfl); (solve | rfl); (solve | rfl); (solve | (have := HL1.out; have := HL2.out; omega)); intro v8 w8 hc8; obtain ⟨ga, gc, rfl, hg1, hg2, hr8, hg3, hg4⟩ := row_of_owns hc8.row; have HR8 := hid hr8; have HC8 := hid hc8; clear hc8 hr8 hg1 hg2 hg3 hg4)
              | ((with_reducible refine Ch.append (wq := wq) ?_ (.tmp 105) (.tmp 106) ?_ (Ch.new1 wq).drew ?_ ?_ PQ.out PN.out ?_ ?_); (solve | rfl); (solve | rfl); (solve | rfl); (solve | rfl); (solve | (have := HL1.out; simp; omega)); intro v6 w6 hc6; have HC6 : Hid (Ch wq w6 v6 ks none) := hc6; clear hc6)
              | ((with_reducible refine Ch.append (wq := wq) ?_ (.tmp 105) (.tmp 106) ?_ (Ch.new2 wq).drew ?_ ?_ PQ.out PN.out ?_ ?_); (solve | rfl); (solve | rfl); (solve | rfl); (solve | rfl); (solve | (have := HL1.out; simp; omega)); intro v6 w6 hc6; have HC6 : Hid (Ch wq w6 v6 ks (some wq.heap.size)) := hc6; clear hc6)
              | ((with_reducible refine Ch.append (wq := wq) ?_ (.tmp 105) (.tmp 106) ?_ (Ch.new1 wq).addbox.drew ?_ ?_ PQ.out PN.out ?_ ?_); (solve | rfl); (solve | rfl); (solve | rfl); (solve | rfl); (solve | (have := HL1.out; simp; omega)); intro v6 w6 hc6; rw [World.size_alloc] at hc6; have HC6 : Hid (Ch wq w6 v6 ks (some (wq.heap.size + 1))) := hc6; clear hc6)
              | fail))
            all_goals (go_wp2_with fail; go_meet)
            all_goals first
              | exact ⟨w9.heap.size, ⟨jx9, jl9, ja9, jc9⟩, rfl, rfl, World.alloc_heap_new w9 _, (SepTm.tm HS9.out).below (alloc_below w9 _), HJ9.out, HB9.out.alloc HB9.out.size _⟩
              | exact ⟨_, ⟨jx9, jl9, ja9, jc9⟩, rfl, rfl, HY9.out.all (x := jx9) _, SepTm.tm (HS9.out.keep (fun q hq _ => sets_far hq _ _ _)), HJ9.out, sets_below HB9.out HGE.out _ _ _⟩
          case rest =>
            obtain ⟨gB, ⟨rx, rl, ra, rc⟩, rfl, rfl, hbx, hrt, hJ2, hbc⟩ := hcut
            obtain ⟨r0, hr0⟩ := join_ok HJO.out HCT.out (partsN (sgOf l) f U)
            have hjt : joinB l f (ks.length + ms.length) = true ∧ r0 = (rx, rl) := by
              have h := hJ2.2.2 HOK.out (fun t ht => by
                rw [List.map_append, HKS.out, HMS.out] at ht
                rcases List.mem_append.1 ht with ht | ht
                · exact right_of_can (parts_good HJO.out HCT.out t ht).can
                · exact right_of_can (parts_good HJO.out HCU.out t ht).can)
              rw [List.map_append, HKS.out, HMS.out, join_two HJO.out HCT.out HCU.out, hr0] at h
              cases hb : joinB l f (ks.length + ms.length) with
              | false => rw [hb] at h; cases h
              | true => rw [hb] at h; simp only [if_true, Option.some.injEq] at h; exact ⟨rfl, h⟩
            obtain ⟨hbt, rfl⟩ := hjt
            obtain ⟨hp1, hp2⟩ := parts_two HOK.out HJO.out HCT.out HCU.out hr0
            have HP2 := hid hp2
            have HP1 := hid hp1
            have IR := hid (IQ.out.below hbc)
            have XR := hid hbx
            have TR := hid hrt
            rw [hbt]
            clear hbx hrt hJ2 hbc hr0 hbt hp1 hp2 IQ PQ PTQ QQ QTQ QN HJN HI0 HI7
            have i0 := IR.out.box.c 0 rfl; have i7 := IR.out.box.c 7 rfl
            have x0 := XR.out.c0; have x1 := XR.out.c1; have x2 := XR.out.c2
            go_wp2_with fail
            refine (pparts_any S n cap l f (rx, rl) ra rc wc (HT.out.sig.below IR.out.low) TR.out).mono ?_
            rintro e wa ⟨va, vc, as1, rfl, has, hN, hba⟩
            have hal : as1.length = ks.length + ms.length := by
              have h1 := congrArg List.length has
              have h2 := congrArg List.length HKS.out
              have h3 := congrArg List.length HMS.out
              have h4 := HP1.out
              rw [List.length_map] at h1 h2 h3
              omega
            have HAS := hid has
            have AR := hid hN.row
            have AT := hid (gl_each hN.gl)
            have LOW := hid (IR.out.low.trans (hba.mono IR.out.low.size))
            have hac := hN.cap
            unfold maxLen at hac
            have HAL := hid hal
            have HL1' := HL1.out
            have HL2' := HL2.out
            have hal1 : as1.length ≤ 2097152 := by omega
            have hw1 : IntKind.i64.wrap ((ks.length : Int) + (ms.length : Int)) = (ks.length : Int) + (ms.length : Int) := wrap_in (by omega) (by omega)
            have hne : ((as1.length : Int) != (ks.length : Int) + (ms.length : Int)) = false := by rw [bne_eq_false_iff_eq]; omega
            clear hal has hN hba i0 i7 x0 x1 x2 HT HSZ HOK HRA HRB HCK HTE HCT HKS HMS HCU HJO HP1 IR XR TR HNL PN HL1 HL2
            go_wp2_with fail
            clear hw1 hne HL1' HL2' HAL
            go_loopw [14] (fun i wr => ∃ k : Nat, i = .int .i64 ((k : Int) + 1) ∧ k ≤ as1.length ∧ Below wa.heap.size wa wr) (fun i _ => as1.length + 1 - (intOf i).toNat)
            case atStart => exact ⟨0, rfl, Nat.zero_le _, Below.refl _ _⟩
            case round =>
              obtain ⟨k, rfl, hk, hlow⟩ := hrel
              have HB := hid hlow
              clear hlow
              by_cases hlt : k + 1 < as1.length
              · obtain ⟨p1, hp1⟩ : ∃ p1, as1[k]? = some p1 := ⟨_, List.getElem?_eq_getElem (by omega)⟩
                obtain ⟨p2, hp2⟩ : ∃ p2, as1[k + 1]? = some p2 := ⟨_, List.getElem?_eq_getElem hlt⟩
                obtain ⟨vb, vo, rfl, r0, r1, r2⟩ := (AR.out.below HB.out).get hp1
                obtain ⟨vb', vo', hve, s0, s1, s2⟩ := (AR.out.below HB.out).get hp2
                cases hve
                have ht1 := (AT.out p1 (List.mem_of_getElem? hp1)).below HB.out
                have ht2 := (AT.out p2 (List.mem_of_getElem? hp2)).below HB.out
                have hle : cmpN p1.tn p2.tn ≤ 0 := by
                  have h := HP2.out
                  rw [← HAS.out] at h
                  have h1 : (as1.map Kv.tn)[k]? = some p1.tn := by rw [List.getElem?_map, hp1]; rfl
                  have h2 : (as1.map Kv.tn)[k + 1]? = some p2.tn := by rw [List.getElem?_map, hp2]; rfl
                  obtain ⟨g1, e1⟩ := List.getElem?_eq_some_iff.1 h1
                  obtain ⟨g2, e2⟩ := List.getElem?_eq_some_iff.1 h2
                  have := List.pairwise_iff_getElem.1 h k (k + 1) g1 g2 (by omega)
                  rw [e1, e2] at this
                  exact this
                obtain ⟨x1, l1, a1, c1⟩ := p1
                obtain ⟨x2, l2, a2, c2⟩ := p2
                dsimp only at r0 r1 r2 s0 s1 s2 ht1 ht2
                obtain ⟨z, hz⟩ : ∃ z, cmp1 x1 x2 (lenF l1) (lenF l2) (cmpF l1 l2) = z := ⟨_, rfl⟩
                have hz0 : z ≤ 0 := by rw [← hz]; exact hle
                have HC : Hid (∀ W, Below wr.heap.size wr W → Calls Try.prog 11 #[.agg #[.string x1.1, .int .i64 x1.2, .slice a1 (lenF l1) c1], .agg #[.string x2.1, .int .i64 x2.2, .slice a2 (lenF l2) c2]] W fun e w' => e = .returned (.int .i64 z) ∧ Below W.heap.size W w') := hid fun W hW => by
                  have := rcompare_all _ x1 x2 a1 a2 c1 c2 l1 l2 W (Nat.le_refl _) (ht1.below hW) (ht2.below hW)
                  rw [hz] at this
                  exact this
                have hne := later_some wr
                have e0 := later_cell r0; have e1 := later_cell r1; have e2 := later_cell r2
                have g0 := later_cell s0; have g1 := later_cell s1; have g2 := later_cell s2
                have hw1 : IntKind.i64.wrap ((k : Int) + 1 - 1) = (k : Int) := by rw [show (k : Int) + 1 - 1 = (k : Int) by omega]; exact wrap_in (by omega) (by omega)
                have hk0 : (0 : Int) ≤ (k : Int) := by omega
                have hk1 : (k : Int) < (as1.length : Int) := by omega
                have hk2 : (0 : Int) ≤ (k : Int) + 1 := by omega
                have hk3 : (k : Int) + 1 < (as1.length : Int) := by omega
                have hk4 : ((k : Int) + 1).toNat = k + 1 := by omega
                have hz1 : decide (z > 0) = false := by simp; omega
                clear r0 r1 r2 s0 s1 s2 ht1 ht2 hle hz
                go_wp2_with fail
                refine wp_region_later (by kernel_rfl) (by kernel_rfl) ?_
                repeat (go_big_quiet_step (first | (go_at_call 11; with_reducible refine calls_later (HC.out _ ?_); exact Later.below _) | fail))
                refine wpQuiet_nil ?_
                intro _ hw'
                obtain ⟨b3, hw''⟩ := hw'
                subst hw''
                clear e0 e1 e2 g0 g1 g2 hne
                go_wp2
                go_roundw
                case rel => exact ⟨k + 1, by go_num, by omega, HB.out.trans (b3.below.mono HB.out.size)⟩
                case measure => simp [intOf]; omega
              · have hk3 : ¬ (k : Int) + 1 < (as1.length : Int) := by omega
                go_wp2
                go_ret
                exact ⟨rfl, LOW.out.trans (HB.out.mono LOW.out.size)⟩
theorem canonBack : Rows.CanonBackUptoSaid := canonBack_of back_walk
end Go.Proofs.Ytlemkgdbefmeeab
