/- For every signature and every term TermsChecks returns true: Check of package terms tells the first node that may not be, and why, as the document says, and what was handed in stays; no condition. -/
import Derived.Test.YtmhdapgiealmfaaTHead
import Derived.Test.YtmhdapgiealmfaaTOpen
import Derived.Test.YtmhdapgiealmfaaTChk
namespace Go.Proofs.Ytmhdapgiealmfaa
open Go.ChangeShapes Go.WideShapes Go.ChangeAt Go.RowKit Go.Deep

theorem list_of_each {α : Type} {p : Nat → α → Prop} : ∀ n : Nat, (∀ i, i < n → ∃ x, p i x) → ∃ l : List α, l.length = n ∧ ∀ i (h : i < l.length), p i l[i]
  | 0, _ => ⟨[], rfl, fun i h => absurd h (by simp)⟩
  | n + 1, h => by
    obtain ⟨l, hl, hp⟩ := list_of_each n (fun i hi => h i (by omega))
    obtain ⟨x, hx⟩ := h n (by omega)
    refine ⟨l ++ [x], by simp [hl], fun i hi => ?_⟩
    by_cases hin : i < l.length
    · rw [List.getElem_append_left hin]; exact hp i hin
    · have : i = n := by simp at hi; omega
      subst this
      rw [List.getElem_append_right (by omega)]
      simpa [hl] using hx
theorem Try.cells68 : Try.prog.cellsOf 68 = 4 := by kernel_rfl
theorem Try.cells66 : Try.prog.cellsOf 66 = 1 := by kernel_rfl

/-- One symbol's reading. -/
theorem sym_open {H : Type} {enc : TypeId × Value → H} {W : World} {base : Nat} {spare : Nat → Bool} {held : Bool} {fuel : Nat} {cs : List Value} {x : DataW H × List MemPlace}
    (h : DataW.trod enc Try.prog W base spare held fuel 68 cs = some x) : ∃ y : Sym, cs = [.string y.name, .int .i64 y.kind, .int .i64 y.arity, .string y.unit] := by
  obtain ⟨y0, y1, y2, y3, n, _, hl, h0, h1, h2, h3⟩ := Joins.trod_struct4 Try.underlying68 h
  rw [Try.cells68] at hl
  simp only [Try.cells9, Try.cells66, Try.cells3] at h0 h1 h2 h3
  match cs, hl with
  | [c0, c1, c2, c3], _ =>
    obtain ⟨s0, e0, _, f0⟩ := DataW.trod_string Try.underlying9 h0
    obtain ⟨n1, e1, _, _⟩ := DataW.trod_int Try.underlying66 h1
    obtain ⟨n2, e2, _, _⟩ := DataW.trod_int Try.underlying3 h2
    obtain ⟨s3, e3, _, f3⟩ := DataW.trod_string Try.underlying9 h3
    simp at e0 e1 e2 e3
    subst e0 e1 e2 e3
    exact ⟨⟨s0, n1, n2, s3⟩, rfl⟩
/-- A signature that came in. -/
theorem sig_open {H : Type} {enc : TypeId × Value → H} {W : World} {a : Option Addr} {len cap : Nat} {d : DataW H} {p : List MemPlace}
    (h : DataW.Trod enc Try.prog W 0 (fun _ => true) true 23 (.slice a len cap) d p) : ∃ l, SigAt W a len l := by
  obtain ⟨fuel, hf⟩ := h
  rcases DataW.trod_slice Try.underlying23 hf with ⟨hcs, _⟩ | ⟨x, l, c, elems, rest, n, _, hcs, hx, hb, hl, hm, hlen, hel, _, _⟩
  · simp [Value.cells] at hcs
    obtain ⟨rfl, rfl, rfl⟩ := hcs
    exact ⟨[], rfl, by simp, fun i hi => absurd hi (by simp)⟩
  · simp [Value.cells] at hcs
    obtain ⟨rfl, rfl, rfl⟩ := hcs
    rw [Try.cells68] at hel
    have each : ∀ i, i < len → ∃ y : Sym, ∃ cs, W.cells? 0 (x.add (i * 4)) 4 = some cs ∧ cs = [.string y.name, .int .i64 y.kind, .int .i64 y.arity, .string y.unit] := by
      intro i hi
      have h1 := hel i hi
      rw [List.getElem?_eq_getElem (by omega)] at h1
      cases hc : W.cells? 0 (x.add (i * 4)) 4 with
      | none => rw [hc] at h1; cases h1
      | some cs =>
        rw [hc] at h1
        obtain ⟨y, hy⟩ := sym_open h1
        exact ⟨y, cs, rfl, hy⟩
    obtain ⟨ll, hll, hp⟩ := list_of_each len each
    refine ⟨ll, hll.symm, by omega, fun i hi => ?_⟩
    obtain ⟨cs, h1, h2⟩ := hp i hi
    obtain ⟨b, off, spot⟩ := x
    have hspot : spot = none := by
      obtain ⟨cs0, h10, h20⟩ := hp 0 (by omega)
      obtain ⟨_, _, h30⟩ := World.cells?_some h10
      have := h30 0 (by omega)
      rw [h20] at this
      simpa [Addr.add] using World.cell?_spot this
    subst hspot
    refine ⟨b, off, rfl, ?_⟩
    rw [addr_add] at h1
    obtain ⟨_, _, h3⟩ := World.cells?_some h1
    subst h2
    have k0 := h3 0 (by omega)
    have k1 := h3 1 (by omega)
    have k2 := h3 2 (by omega)
    have k3 := h3 3 (by omega)
    rw [addr_add] at k0 k1 k2 k3
    exact ⟨k0, k1, k2, k3⟩

set_option maxHeartbeats 2000000 in
theorem termsChecks_walk (S : List Sym) (sa : Option Addr) (sn sc : Nat) (x : ByteArray × Int) (l : Fo) (a : Option Addr) (c : Nat) (w : World) (hS : SigAt w sa sn S) (hT : TmAt w x a c l) :
    Calls Try.prog 3 #[.slice sa sn sc, .agg #[.string x.1, .int .i64 x.2, .slice a (lenF l) c]] w fun e w' => e = .returned (.bool true) ∧ Below w.heap.size w w' := by
  have HS : Hid (SigAt w sa sn S) := hS
  have HT : Hid (TmAt w x a c l) := hT
  have O0 : Hid (One w x a (lenF l) c (w.alloc (.cells #[.string x.1, .int .i64 x.2, .slice a (lenF l) c] 26))) := One.new _ _ _ _ _
  clear hS hT
  go_enter Try.func3, Try.ntmps3
  go_wp2_with fail
  refine (head_any _).mono ?_
  rintro e w1 ⟨rfl, hb⟩
  have O1 : Hid (One w x a (lenF l) c w1) := O0.out.below hb
  clear hb O0
  have x0 := O1.out.t.c0; have x1 := O1.out.t.c1; have x2 := O1.out.t.c2
  go_wp2_with fail
  refine (lent_any x l a c w1 (HT.out.below O1.out.low)).mono ?_
  rintro e w2 ⟨a', c', rfl, ho2, hb⟩
  have O2 : Hid (One w x a (lenF l) c (w2.alloc (.cells #[.string x.1, .int .i64 x.2, .slice a' (lenF l) c'] 26))) := O1.out.below (hb.alloc hb.size _)
  have L2 : Hid (OwnTm true (fun k => w1.heap.size ≤ k) (w2.alloc (.cells #[.string x.1, .int .i64 x.2, .slice a' (lenF l) c'] 26)) x a' c' l) := ho2.below ((Below.refl _ _).alloc (Nat.le_refl _) _)
  have B2 : Hid (TBox (w2.alloc (.cells #[.string x.1, .int .i64 x.2, .slice a' (lenF l) c'] 26)) w2.heap.size x a' (lenF l) c') := TBox.new _ _ _ _ _
  clear hb ho2 O1 x0 x1 x2
  go_wp2_with fail
  refine (check_any S sa sn sc x l a' c' _ (HS.out.below O2.out.low) L2.out.tm).mono ?_
  rintro e w3 ⟨rfl, hb⟩
  have O3 : Hid (One w x a (lenF l) c w3) := O2.out.below hb
  have L3 : Hid (OwnTm true (fun k => w1.heap.size ≤ k) w3 x a' c' l) := L2.out.below hb
  have B3 : Hid (TBox w3 w2.heap.size x a' (lenF l) c') := B2.out.below hb
  clear hb O2 L2 B2
  have x0 := O3.out.t.c0; have x1 := O3.out.t.c1; have x2 := O3.out.t.c2
  have y0 := B3.out.c0; have y1 := B3.out.c1; have y2 := B3.out.c2
  go_wp2_with fail
  refine (kept_any _ x l a' a c' c w3 L3.out (HT.out.below O3.out.low)).mono ?_
  rintro e w4 ⟨rfl, hb⟩
  have O4 : Hid (One w x a (lenF l) c w4) := O3.out.below hb
  clear hb O3 L3 B3 x0 x1 x2 y0 y1 y2
  have x0 := O4.out.t.c0; have x1 := O4.out.t.c1; have x2 := O4.out.t.c2
  go_wp2_with fail
  refine (rcheck_any S sa sn sc x l a c w4 (HS.out.below O4.out.low) (HT.out.below O4.out.low)).mono ?_
  rintro e w5 ⟨rfl, hb⟩
  have T5 : Hid (Below w.heap.size w w5) := O4.out.low.trans (hb.mono O4.out.low.size)
  clear hb O4 x0 x1 x2
  go_wp2
  go_ret
  exact ⟨by simp, T5.out⟩

set_option maxRecDepth 100000 in
theorem termsChecks_lifted (os : Os) (started : os.Started) (H : Type) (enc : TypeId × Value → H) :
    ReturnsInHanded {} Try.checked os 3 .any (Rows.termsChecksSpec.pre6 enc Try.prog Try.f3 Rows.termsChecksRow.domain false) (Rows.termsChecksSpec.post enc Try.prog Try.f3 false true false false) := by
  refine returnsInHanded_of_change_sized (C := Try.checked) own started (by kernel_rfl) Try.func3
    (ChangeSpec.witness6 (enc := enc) (C := Try.checked) false ⟨#[], #[.slice none 0 0, .agg #[.string .empty, .int .i64 0, .slice none 0 0]], []⟩ 8 (by kernel_rfl) (by kernel_rfl) (by kernel_rfl) (by kernel_rfl)) ?_
  intro W base args ds gs before hval0 hW hcnd hsz0 _
  have hval : ∀ (j : Nat) t v, Try.f3.params[j]? = some t → args[j]? = some v → Value.okWide Try.prog W .any base t v := hval0
  have hsz : (DataW.weightsEach Try.prog (Try.f3.params.toList ++ Rows.termsChecksSpec.plain.varTypes Try.prog) (ds ++ gs)).all (· ≤ reachBytes) = true := hsz0
  have hW' := hW
  obtain ⟨p, q, hA0, hV, rfl, hfz, hnd⟩ := hW
  have hA : DataW.TrodAll enc Try.prog W 0 (fun _ => true) true Try.f3.params.toList args.toList ds p := hA0
  rw [Try.params3] at hA hval hsz
  obtain ⟨v0, vs0, d0, ds0, p0, q0, hargs, rfl, rfl, h0, r0⟩ := trodAll_cons hA
  obtain ⟨v1, vs1, d1, ds1, p1, q1, rfl, rfl, rfl, h1, r1⟩ := trodAll_cons r0
  obtain ⟨rfl, rfl, rfl⟩ := trodAll_nil r1
  obtain rfl : args = #[v0, v1] := by cases args; simp_all
  obtain ⟨rfl, rfl⟩ := trodVars_none hV
  have lt0 : ∀ x ∈ p0, x.block < W.heap.size := by obtain ⟨m, hm⟩ := h0; exact DataW.trod_lt m _ _ _ hm
  have lt1 : ∀ x ∈ p1, x.block < W.heap.size := by obtain ⟨m, hm⟩ := h1; exact DataW.trod_lt m _ _ _ hm
  obtain ⟨sa, sn, sc, rfl⟩ := okWide_slice Try.underlying23 (hval 0 23 v0 rfl rfl)
  obtain ⟨S, hS⟩ := sig_open h0
  obtain ⟨x, a, ca, l, rfl, hx, _⟩ := termv_open (hval 1 26 v1 rfl rfl) h1 (sz_of_weights hsz (j := 1) rfl rfl)
  clear hA0 hval0 hsz0
  refine (termsChecks_walk S sa sn sc x l a ca W hS hx).mono fun e W' ⟨he, bel⟩ => ?_
  subst he
  exact ⟨_, rfl, _, _, _, [], _, [], hW', trodAll_mk1 (shut_bool Try.underlying4 _), (trodAll_cons_mk (Below.trod laidOut (by kernel_rfl) (of_decide_eq_true (by kernel_rfl)) h0 bel lt0) (trodAll_cons_mk (Below.trod laidOut (by kernel_rfl) (of_decide_eq_true (by kernel_rfl)) h1 bel lt1) trodAll_mk0)), rfl, bel.frame _, fun h => by cases h⟩

theorem termsChecks_holds : Rows.TermsChecksSaid :=
  OpenClaim.holds_of_wide 3 Try.f3 rfl rfl rfl rfl rfl rfl rfl ⟨rfl, rfl, rfl, rfl, rfl⟩ rfl rfl rfl rfl rfl (by kernel_rfl) Try.func3 (by kernel_rfl)
    (of_decide_eq_true (by kernel_rfl)) (by unfold Func.isWrapper; first | (rw [if_pos (by decide +kernel)]; kernel_rfl) | (rw [if_neg (by decide +kernel)]; exact ⟨rfl, rfl⟩))
    (fun os started H enc _ => termsChecks_lifted os started H enc)
end Go.Proofs.Ytmhdapgiealmfaa
