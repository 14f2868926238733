/- For every signature, two terms and list of binds of bulk at most 1048576 together TextShows returns true: Show, ShowEquation and ShowBinds of package text answer as the document says of right terms, of others they end, and what was handed in stays; the condition is the second form's bound. -/
import Derived.Test.YtkcbhbkldcebiaaZShow
import Derived.Test.YtkcbhbkldcebiaaSOpen
import Derived.Test.YtkcbhbkldcebiaaRIs
import Derived.Test.YtkcbhbkldcebiaaTKept
import Derived.Test.YtkcbhbkldcebiaaZHead
namespace Go.Proofs.Ytkcbhbkldcebiaa
open Go.RowKit Go.Deep

/-- Its symbol is there. -/
def InX (l : List Sym) (x : ByteArray × Int) : Prop := x.1.size = 0 → 0 ≤ x.2 ∧ x.2 < l.length
def InF (l : List Sym) : Fo → Prop
  | .nil => True
  | .node _ _ x m r => InX l x ∧ InF l m ∧ InF l r
theorem inF_kids {l : List Sym} : ∀ {m : Fo}, InF l m → ∀ t ∈ kidsL m, InX l t.1 ∧ InF l t.2
  | .nil, _, t, ht => by cases ht
  | .node _ _ x m r, ⟨h1, h2, h3⟩, t, ht => by
    rcases List.mem_cons.1 ht with rfl | ht
    · exact ⟨h1, h2⟩
    · exact inF_kids h3 t ht
/-- What is written when some of the arguments are. -/
def docT (l : List Sym) (nm : List UInt8) (ts : List Tn) : List UInt8 := nm ++ (if ts.isEmpty then [] else [40] ++ showTs l true ts)
theorem docT_snoc (l : List Sym) (nm : List UInt8) (ts : List Tn) (t : Tn) : docT l nm (ts ++ [t]) = docT l nm ts ++ (if ts.isEmpty then [40] else [44]) ++ showN l t.1 t.2 := by
  unfold docT
  have h1 : (ts ++ [t]).isEmpty = false := by cases ts <;> rfl
  rw [h1, showTs_snoc]
  cases ts with
  | nil => simp [showTs]
  | cons => simp
theorem docT_len (l : List Sym) (nm : List UInt8) : ∀ (ts us : List Tn), (docT l nm ts).length ≤ (docT l nm (ts ++ us)).length
  | ts, [] => by simp
  | ts, u :: us => by
    have h1 := docT_len l nm (ts ++ [u]) us
    rw [List.append_assoc, List.singleton_append, docT_snoc] at h1
    simp only [List.length_append] at h1 ⊢
    omega
theorem docT_take (l : List Sym) (nm : List UInt8) (ts : List Tn) (j : Nat) : (docT l nm (ts.take j)).length ≤ (docT l nm ts).length := by
  have := docT_len l nm (ts.take j) (ts.drop j)
  rwa [List.take_append_drop] at this
def RShowOk (S : Option Addr) (n cap : Nat) (l : List Sym) (z : Nat) : Prop := ∀ (x : ByteArray × Int) (m : Fo) (a : Option Addr) (c : Nat) (w : World), nodesF m < z → InX l x → InF l m → SigAt w S n l → TmAt w x a c m → (showN l x m).length ≤ 140737488355328 →
  Calls Try.prog 24 #[.slice S n cap, .agg #[.string x.1, .int .i64 x.2, .slice a (lenF m) c]] w fun e w' => (∃ o : ByteArray, e = .returned (.string o) ∧ o.data.toList = showN l x m) ∧ Below w.heap.size w w'
theorem ba_app (a b : ByteArray) : (a ++ b).data.toList = a.data.toList ++ b.data.toList := by simp [ByteArray.data_append]
theorem ba_len {a : ByteArray} {l : List UInt8} (h : a.data.toList = l) : a.size = l.length := by rw [← h]; rfl

set_option maxRecDepth 100000 in
set_option maxHeartbeats 4000000 in
theorem rshow_of {S : Option Addr} {n cap : Nat} {l : List Sym} {z : Nat} (ih : ∀ y, y < z → RShowOk S n cap l y) : RShowOk S n cap l z := by
  intro x m a c w hz hix hif hS hT hlen
  obtain ⟨tn, ts⟩ := x
  have B0 := alloc_below0 w (.cells #[.string tn, .int .i64 ts, .slice a (lenF m) c] 28)
  have X0 : Hid (XBox (w.alloc (.cells #[.string tn, .int .i64 ts, .slice a (lenF m) c] 28)) w.heap.size (tn, ts) (.slice a (lenF m) c)) := World.alloc_heap_new w _
  have L0 := hid B0
  have HT := hid hT; have HS := hid hS; have IH := hid ih; have HF := hid hif
  have x0 := X0.out.c0; have x1 := X0.out.c1; have x2 := X0.out.c2
  dsimp only at x0 x1
  clear hT hS ih B0 hif
  by_cases hx : tn.size = 0
  · have hxe : tn.toList.isEmpty = true := empty_of hx
    obtain ⟨h0, h1⟩ := hix hx
    dsimp only at h0 h1
    obtain ⟨j, rfl⟩ : ∃ j : Nat, ts = j := ⟨ts.toNat, by omega⟩
    have hj : j < l.length := by omega
    obtain ⟨hl, hm, hcells, _⟩ := HS.out
    subst hl
    unfold maxLen at hm
    obtain ⟨sb, so, rfl, hsym⟩ := hcells j hj
    have c0 := below_cell L0.out _ _ hsym.name
    obtain ⟨nm, hnm⟩ : ∃ nm, l[j].name = nm := ⟨_, rfl⟩
    rw [hnm] at c0
    have hsn : showN l (tn, (j : Int)) m = docT l nm.data.toList (kidsL m) ++ (if lenF m = 0 then [] else [41]) := by
      have e : symB l (j : Int) = nm := by
        unfold symB
        rw [if_pos (by omega)]
        rw [← hnm]
        simp [List.getD, hj]
      unfold showN docT
      dsimp only
      rw [if_pos hx, e, showF_ts]
      by_cases hm0 : lenF m = 0
      · have : m = .nil := len_nil hm0
        subst this
        simp [lenF, kidsL]
      · rw [if_neg hm0, if_neg hm0]
        have : (kidsL m).isEmpty = false := by
          cases m with
          | nil => exact absurd rfl hm0
          | node => rfl
        rw [this]
        simp
    have HSN := hid hsn
    rw [hsn, List.length_append] at hlen
    clear hsn hcells hsym hix h0 h1 hnm
    have g1 : ¬ (j : Int) < 0 := by omega
    have g2 : ¬ (l.length : Int) ≤ (j : Int) := by omega
    have g3 : (j : Int) < (l.length : Int) := by omega
    have hmx := HT.out.sizes.few
    go_enter Try.func24, Try.ntmps24
    go_wp2_with fail
    generalize w.alloc (.cells #[.string tn, .int .i64 j, .slice a (lenF m) c] 28) = V0 at X0 L0 x0 x1 x2 c0 ⊢
    have hnl : nm.size ≤ 140737488355328 := by
      have : nm.data.toList.length = nm.size := rfl
      unfold docT at hlen
      rw [List.length_append] at hlen
      omega
    go_loopw [5, 6] (fun oo ov wr => ∃ (k : Nat) (o : ByteArray), ov = .int .i64 k ∧ k ≤ lenF m ∧ oo = .string o ∧ o.data.toList = docT l nm.data.toList ((kidsL m).take k) ∧ Below V0.heap.size V0 wr) (fun _ ov _ => lenF m - (intOf ov).toNat)
    case atStart => exact ⟨0, nm, rfl, Nat.zero_le _, rfl, by simp [docT], Below.refl _ _⟩
    case round =>
      obtain ⟨k, o, rfl, hk, rfl, ho, hbr⟩ := hrel
      have HBr := hid hbr
      have LWr := hid (L0.out.trans (hbr.mono L0.out.size))
      have Xr := X0.out.below hbr
      have y0 := Xr.c0; have y1 := Xr.c1; have y2 := Xr.c2
      dsimp only at y0 y1
      clear hbr x0 x1 x2 Xr c0
      have hosz := ba_len ho
      by_cases hlt : k < lenF m
      · obtain ⟨bb, oo, rfl, hkk⟩ := HT.out.args.get (by omega)
        obtain ⟨y, a1, c1, l1, kd⟩ := hkk.kid (k := k) hlt
        have kd' := kd.below LWr.out
        have p0 := kd'.name; have p1 := kd'.sym; have p2 := kd'.list
        have hst : (kidsL m).take (k + 1) = (kidsL m).take k ++ [(y, l1)] := by obtain ⟨B', O', hs⟩ := kd.split; exact kids_take hs
        have hmem : (y, l1) ∈ kidsL m := by
          have : (y, l1) ∈ (kidsL m).take (k + 1) := by rw [hst]; simp
          exact List.mem_of_mem_take this
        obtain ⟨hiy, hil⟩ := inF_kids HF.out _ hmem
        dsimp only at hiy hil
        have hsc := docT_snoc l nm.data.toList ((kidsL m).take k) (y, l1)
        rw [← hst] at hsc
        have hln : (docT l nm.data.toList ((kidsL m).take (k + 1))).length ≤ (docT l nm.data.toList (kidsL m)).length := docT_take _ _ _ _
        have hln2 := hln
        rw [hsc] at hln2
        simp only [List.length_append] at hln2
        dsimp only at hsc hln2
        have hless := kd.less
        have HSC := hid hsc
        have HK := hid (IH.out (nodesF l1 + 1) (by omega) y l1 a1 c1 wr (Nat.lt_succ_self _) hiy hil (HS.out.below LWr.out) (kd.at_.below LWr.out) (by omega))
        clear hsc hst kd kd' hkk hmem hiy hil hln
        have HO := hid ho; have HZ := hid hosz; have HL2 := hid hln2; have HLN := hid hlen
        by_cases hk0 : k = 0
        · subst hk0
          simp only [Nat.zero_mul, Nat.add_zero] at p0 p1 p2
          have hlo : o.size + 1 + (showN l y l1).length ≤ 140737488355328 := by
            have h1 : o.size + 1 + (showN l y l1).length ≤ (docT l nm.data.toList (kidsL m)).length := by rw [hosz]; simpa using hln2
            omega
          have hlo1 : o.size ≤ 140737488355328 := by omega
          have HLO := hid hlo
          clear hosz ho hln2 hlen hlo
          go_wp2_with fail
          refine HK.out.mono ?_
          rintro e w5 ⟨⟨o5, rfl, ho5⟩, hb5⟩
          have L5 := hid (HBr.out.trans (hb5.mono HBr.out.size))
          have HO5 := hid ho5
          have hlp : (o ++ (⟨#[40]⟩ : ByteArray)).size ≤ 140737488355328 := by
            have := HLO.out
            rw [ByteArray.size_append]; show o.size + 1 ≤ _; omega
          have hlq : o5.size ≤ 140737488355328 := by
            have := HLO.out; have := ba_len ho5; omega
          clear hb5 HK ho5
          go_wp2
          go_roundw
          case rel =>
            refine ⟨1, _, by go_num, by omega, rfl, ?_, L5.out⟩
            rw [HSC.out, ba_app, ba_app, HO.out, HO5.out]
            rfl
          case measure => simp [intOf]; omega
        · have hne : ((kidsL m).take k).isEmpty = false := by
            have : ((kidsL m).take k).length = k := by rw [List.length_take, kids_len]; omega
            cases h : (kidsL m).take k with
            | nil => rw [h] at this; simp at this; omega
            | cons => rfl
          have hk1 : ¬ (k : Int) = 0 := by omega
          have hlo : o.size + 1 + (showN l y l1).length ≤ 140737488355328 := by
            rw [hne] at hln2
            have h1 : o.size + 1 + (showN l y l1).length ≤ (docT l nm.data.toList (kidsL m)).length := by rw [hosz]; simpa using hln2
            omega
          have hlo1 : o.size ≤ 140737488355328 := by omega
          have HLO := hid hlo
          have HNE := hid hne
          clear hosz ho hln2 hlen hlo hne
          go_wp2_with fail
          refine HK.out.mono ?_
          rintro e w5 ⟨⟨o5, rfl, ho5⟩, hb5⟩
          have L5 := hid (HBr.out.trans (hb5.mono HBr.out.size))
          have HO5 := hid ho5
          have hlp : (o ++ (⟨#[44]⟩ : ByteArray)).size ≤ 140737488355328 := by
            have := HLO.out
            rw [ByteArray.size_append]; show o.size + 1 ≤ _; omega
          have hlq : o5.size ≤ 140737488355328 := by
            have := HLO.out; have := ba_len ho5; omega
          clear hb5 HK ho5
          go_wp2
          go_roundw
          case rel =>
            refine ⟨k + 1, _, by go_num, by omega, rfl, ?_, L5.out⟩
            rw [HSC.out, ba_app, ba_app, HO.out, HO5.out, HNE.out]
            rfl
          case measure => simp [intOf]; omega
      · have hkl : k = (kidsL m).length := by rw [kids_len]; omega
        have ho' : o.data.toList = docT l nm.data.toList (kidsL m) := by rw [ho, hkl, List.take_length]
        have hlo1 : o.size ≤ 140737488355328 := by rw [ba_len ho']; omega
        have HO := hid ho'
        have LW := hid (L0.out.trans (HBr.out.mono L0.out.size))
        by_cases hm0 : lenF m = 0
        · have hm0' : ((lenF m : Nat) : Int) = 0 := by omega
          have HM := hid hm0
          clear ho ho' hosz hlen hm0 hkl
          go_wp2
          go_ret
          refine ⟨⟨_, rfl, ?_⟩, LW.out⟩
          rw [HSN.out, if_pos HM.out, List.append_nil]
          exact HO.out
        · have hm0' : (0 : Int) < ((lenF m : Nat) : Int) := by omega
          have HM := hid hm0
          clear ho ho' hosz hlen hm0 hkl
          go_wp2
          go_ret
          refine ⟨⟨_, rfl, ?_⟩, LW.out⟩
          rw [HSN.out, if_neg HM.out, ba_app, HO.out]
  · have hsn : showN l (tn, ts) m = tn.data.toList := by unfold showN; rw [if_neg hx]
    have hxe : tn.toList.isEmpty = false := not_empty_of hx
    go_enter Try.func24, Try.ntmps24
    go_wp2
    go_ret
    exact ⟨⟨_, rfl, hsn.symm⟩, L0.out⟩
theorem rshow_all {S : Option Addr} {n cap : Nat} {l : List Sym} : ∀ z, RShowOk S n cap l z := by
  intro z
  induction z using Nat.strongRecOn with
  | _ z ih => exact rshow_of ih
end Go.Proofs.Ytkcbhbkldcebiaa

namespace Go.Proofs.Ytkcbhbkldcebiaa
open Go.RowKit Go.Deep

/-- A variable and the term bound to it. -/
abbrev Bn := ByteArray × Tn
structure BdAt (w : World) (b o : Nat) (x : Bn) (a : Option Addr) (c : Nat) : Prop where
  var : w.cell? ⟨b, o, none⟩ = some (.string x.1)
  name : w.cell? ⟨b, o + 1, none⟩ = some (.string x.2.1.1)
  sym : w.cell? ⟨b, o + 2, none⟩ = some (.int .i64 x.2.1.2)
  list : w.cell? ⟨b, o + 3, none⟩ = some (.slice a (lenF x.2.2) c)
  tm : TmAt w x.2.1 a c x.2.2
theorem BdAt.below {w w' : World} {b o : Nat} {x : Bn} {a : Option Addr} {c : Nat} (h : BdAt w b o x a c) (hb : Below w.heap.size w w') : BdAt w' b o x a c :=
  ⟨below_cell hb _ _ h.var, below_cell hb _ _ h.name, below_cell hb _ _ h.sym, below_cell hb _ _ h.list, h.tm.below hb⟩
/-- The slice with this address and length holds these binds. -/
structure BindsAt (w : World) (p : Option Addr) (n : Nat) (l : List Bn) : Prop where
  len : n = l.length
  small : n ≤ maxLen
  cells : ∀ i (h : i < l.length), ∃ b off a c, p = some ⟨b, off, none⟩ ∧ BdAt w b (off + i * 4) l[i] a c
  fits : ∀ x ∈ l, x.1.size ≤ maxLen
theorem BindsAt.below {w w' : World} {p : Option Addr} {n : Nat} {l : List Bn} (h : BindsAt w p n l) (hb : Below w.heap.size w w') : BindsAt w' p n l :=
  ⟨h.len, h.small, fun i hi => let ⟨b, off, a, c, h1, h2⟩ := h.cells i hi; ⟨b, off, a, c, h1, h2.below hb⟩, h.fits⟩
/-- The text of binds. -/
def bindsS (l : List Sym) : Bool → List Bn → List UInt8
  | _, [] => []
  | f, x :: r => (if f then [] else [44, 32]) ++ (x.1.data.toList ++ [32, 45, 62, 32] ++ showN l x.2.1 x.2.2) ++ bindsS l false r
theorem bindsS_snoc (l : List Sym) : ∀ (f : Bool) (ts : List Bn) (t : Bn), bindsS l f (ts ++ [t]) = bindsS l f ts ++ ((if f && ts.isEmpty then [] else [44, 32]) ++ (t.1.data.toList ++ [32, 45, 62, 32] ++ showN l t.2.1 t.2.2))
  | f, [], t => by cases f <;> simp [bindsS]
  | f, s :: ts, t => by
    show (if f then [] else [44, 32]) ++ (s.1.data.toList ++ [32, 45, 62, 32] ++ showN l s.2.1 s.2.2) ++ bindsS l false (ts ++ [t]) = (if f then [] else [44, 32]) ++ (s.1.data.toList ++ [32, 45, 62, 32] ++ showN l s.2.1 s.2.2) ++ bindsS l false ts ++ _
    rw [bindsS_snoc l false ts t]
    simp [List.append_assoc]
theorem bindsS_len (l : List Sym) (f : Bool) : ∀ (ts us : List Bn), (bindsS l f ts).length ≤ (bindsS l f (ts ++ us)).length
  | ts, [] => by simp
  | ts, u :: us => by
    have h1 := bindsS_len l f (ts ++ [u]) us
    rw [List.append_assoc, List.singleton_append, bindsS_snoc] at h1
    simp only [List.length_append] at h1 ⊢
    omega
theorem bindsS_take (l : List Sym) (f : Bool) (ts : List Bn) (j : Nat) : (bindsS l f (ts.take j)).length ≤ (bindsS l f ts).length := by
  have := bindsS_len l f (ts.take j) (ts.drop j)
  rwa [List.take_append_drop] at this
theorem take_next {α : Type} {l : List α} {i : Nat} (h : i < l.length) : l.take (i + 1) = l.take i ++ [l[i]] := by
  rw [List.take_add_one, List.getElem?_eq_getElem h]; rfl
theorem ba_of {o : ByteArray} {L : List UInt8} (h : o.data.toList = L) : o = ⟨L.toArray⟩ := by
  apply ByteArray.ext
  rw [← h, Array.toArray_toList]
theorem rshow_any (S : Option Addr) (n cap : Nat) (l : List Sym) (x : ByteArray × Int) (m : Fo) (a : Option Addr) (c : Nat) (w : World) (hx : InX l x) (hm : InF l m) (hS : SigAt w S n l) (hT : TmAt w x a c m) (hlen : (showN l x m).length ≤ 140737488355328) :
    Calls Try.prog 24 #[.slice S n cap, .agg #[.string x.1, .int .i64 x.2, .slice a (lenF m) c]] w fun e w' => e = .returned (.string ⟨(showN l x m).toArray⟩) ∧ Below w.heap.size w w' := by
  refine (rshow_all (nodesF m + 1) x m a c w (Nat.lt_succ_self _) hx hm hS hT hlen).mono ?_
  rintro e w' ⟨⟨o, rfl, ho⟩, hb⟩
  exact ⟨by rw [ba_of ho], hb⟩
/-- What is written of an equation. -/
def eqS (l : List Sym) (A B : Tn) : List UInt8 := showN l A.1 A.2 ++ [32, 61, 32] ++ showN l B.1 B.2
theorem ba_list (L : List UInt8) : (⟨L.toArray⟩ : ByteArray).data.toList = L := rfl

set_option maxRecDepth 100000 in
set_option maxHeartbeats 2000000 in
theorem rshowE_any (S : Option Addr) (n cap : Nat) (l : List Sym) (A B : Tn) (a b : Option Addr) (c d : Nat) (w : World) (hA : InX l A.1 ∧ InF l A.2) (hB : InX l B.1 ∧ InF l B.2) (hS : SigAt w S n l) (tA : TmAt w A.1 a c A.2) (tB : TmAt w B.1 b d B.2) (hlen : (eqS l A B).length ≤ 140737488355328) :
    Calls Try.prog 25 #[.slice S n cap, .agg #[.string A.1.1, .int .i64 A.1.2, .slice a (lenF A.2) c, .string B.1.1, .int .i64 B.1.2, .slice b (lenF B.2) d]] w fun e w' => e = .returned (.string ⟨(eqS l A B).toArray⟩) ∧ Below w.heap.size w w' := by
  have hl : (showN l A.1 A.2).length + 3 + (showN l B.1 B.2).length ≤ 140737488355328 := by
    unfold eqS at hlen
    simp only [List.length_append, List.length_cons, List.length_nil] at hlen
    omega
  have hs : ∃ o p : ByteArray, o = ⟨(showN l A.1 A.2).toArray⟩ ∧ p = ⟨(showN l B.1 B.2).toArray⟩ := ⟨_, _, rfl, rfl⟩
  obtain ⟨o, p, ho, hp⟩ := hs
  have HA : Hid (∀ W, Below w.heap.size w W → Calls Try.prog 24 #[.slice S n cap, .agg #[.string A.1.1, .int .i64 A.1.2, .slice a (lenF A.2) c]] W fun e w' => e = .returned (.string o) ∧ Below W.heap.size W w') := hid fun W hW => by
    rw [ho]; exact rshow_any S n cap l A.1 A.2 a c W hA.1 hA.2 (hS.below hW) (tA.below hW) (by omega)
  have HB : Hid (∀ W, Below w.heap.size w W → Calls Try.prog 24 #[.slice S n cap, .agg #[.string B.1.1, .int .i64 B.1.2, .slice b (lenF B.2) d]] W fun e w' => e = .returned (.string p) ∧ Below W.heap.size W w') := hid fun W hW => by
    rw [hp]; exact rshow_any S n cap l B.1 B.2 b d W hB.1 hB.2 (hS.below hW) (tB.below hW) (by omega)
  have hoz : o.size = (showN l A.1 A.2).length := by rw [ho]; rfl
  have hpz : p.size = (showN l B.1 B.2).length := by rw [hp]; rfl
  have hsum : o.size + 3 + p.size ≤ 140737488355328 := by omega
  have hres : (⟨(eqS l A B).toArray⟩ : ByteArray) = o ++ (⟨#[32, 61, 32]⟩ : ByteArray) ++ p := by
    refine (ba_of ?_).symm
    rw [ba_app, ba_app, ho, hp, ba_list, ba_list]
    rfl
  rw [hres]
  have h1 : (o ++ (⟨#[32, 61, 32]⟩ : ByteArray)).size = o.size + 3 := by rw [ByteArray.size_append]; rfl
  have h2 : (o ++ (⟨#[32, 61, 32]⟩ : ByteArray)).size + p.size ≤ 140737488355328 := by omega
  have h3 : o.size ≤ 140737488355328 := by omega
  have h4 : p.size ≤ 140737488355328 := by omega
  have h5 : (o ++ (⟨#[32, 61, 32]⟩ : ByteArray)).size ≤ 140737488355328 := by omega
  clear hlen hl ho hp hoz hpz hsum hres h1 hS tA tB hA hB
  have B0 := alloc_below0 w (.cells #[.string A.1.1, .int .i64 A.1.2, .slice a (lenF A.2) c, .string B.1.1, .int .i64 B.1.2, .slice b (lenF B.2) d] 35)
  have hn := World.alloc_heap_new w (.cells #[.string A.1.1, .int .i64 A.1.2, .slice a (lenF A.2) c, .string B.1.1, .int .i64 B.1.2, .slice b (lenF B.2) d] 35)
  have L0 := hid B0
  clear B0
  go_enter Try.func25, Try.ntmps25
  go_upto_region 1 with fail
  generalize w.alloc (.cells #[.string A.1.1, .int .i64 A.1.2, .slice a (lenF A.2) c, .string B.1.1, .int .i64 B.1.2, .slice b (lenF B.2) d] 35) = V0 at hn L0 ⊢
  have hne := later_some V0
  have d0 := later_cell (cell_box (i := 0) hn rfl); have d1 := later_cell (cell_box (i := 1) hn rfl); have d2 := later_cell (cell_box (i := 2) hn rfl)
  have d3 := later_cell (cell_box (i := 3) hn rfl); have d4 := later_cell (cell_box (i := 4) hn rfl); have d5 := later_cell (cell_box (i := 5) hn rfl)
  have HA1 : Hid (∀ W, Below V0.heap.size V0 W → Calls Try.prog 24 #[.slice S n cap, .agg #[.string A.1.1, .int .i64 A.1.2, .slice a (lenF A.2) c]] W fun e w' => e = .returned (.string o) ∧ Below W.heap.size W w') := hid fun W hW => HA.out W (L0.out.trans (hW.mono L0.out.size))
  have HB1 : Hid (∀ W, Below V0.heap.size V0 W → Calls Try.prog 24 #[.slice S n cap, .agg #[.string B.1.1, .int .i64 B.1.2, .slice b (lenF B.2) d]] W fun e w' => e = .returned (.string p) ∧ Below W.heap.size W w') := hid fun W hW => HB.out W (L0.out.trans (hW.mono L0.out.size))
  clear HA HB hn
  refine wp_region_later (by kernel_rfl) (by kernel_rfl) ?_
  repeat (go_big_quiet_step (first | (go_at_call 24; with_reducible refine calls_later (HA1.out _ ?_); exact Later.below _) | (go_at_call 24; with_reducible refine calls_later (HB1.out _ ?_); exact Later.below _) | fail))
  refine wpQuiet_nil ?_
  intro _ hw'
  obtain ⟨b3, hw''⟩ := hw'
  subst hw''
  clear d0 d1 d2 d3 d4 d5 hne
  go_wp2
  go_ret
  exact ⟨rfl, L0.out.trans (b3.below.mono L0.out.size)⟩

set_option maxRecDepth 100000 in
set_option maxHeartbeats 4000000 in
theorem rshowB_any (S : Option Addr) (n cap : Nat) (l : List Sym) (P : Option Addr) (m pc : Nat) (bl : List Bn) (w : World) (hS : SigAt w S n l) (hP : BindsAt w P m bl) (hin : ∀ x ∈ bl, InX l x.2.1 ∧ InF l x.2.2) (hlen : (bindsS l true bl).length ≤ 140737488355328) :
    Calls Try.prog 26 #[.slice S n cap, .slice P m pc] w fun e w' => e = .returned (.string ⟨(bindsS l true bl).toArray⟩) ∧ Below w.heap.size w w' := by
  have HS := hid hS; have HP := hid hP
  have hml := hP.len
  have hsm := hP.small
  unfold maxLen at hsm
  have HLN := hid hlen; have HIN := hid hin
  clear hS hP hlen hin
  go_enter Try.func26, Try.ntmps26
  go_wp2_with fail
  go_loopw [5, 6] (fun oo ov wr => ∃ (k : Nat) (o : ByteArray), ov = .int .i64 k ∧ k ≤ m ∧ oo = .string o ∧ o.data.toList = bindsS l true (bl.take k) ∧ Below w.heap.size w wr) (fun _ ov _ => m - (intOf ov).toNat)
  case atStart => exact ⟨0, ⟨#[]⟩, rfl, Nat.zero_le _, rfl, by simp [bindsS], Below.refl _ _⟩
  case round =>
    obtain ⟨k, o, rfl, hk, rfl, ho, hbr⟩ := hrel
    have HBr := hid hbr
    have HO := hid ho
    have hosz := ba_len ho
    clear hbr ho
    by_cases hlt : k < m
    · have hkl : k < bl.length := by omega
      obtain ⟨bb, off, ta, tc, rfl, bd0⟩ := HP.out.cells k hkl
      obtain ⟨x, hx⟩ : ∃ x, bl[k] = x := ⟨_, rfl⟩
      have hst := take_next hkl
      have hmem : bl[k] ∈ bl := List.getElem_mem hkl
      obtain ⟨hi1, hi2⟩ := HIN.out _ hmem
      have hfx := HP.out.fits _ hmem
      rw [hx] at bd0 hst hi1 hi2 hfx
      have hsn := bindsS_snoc l true (bl.take k) x
      rw [← hst] at hsn
      have hln := bindsS_take l true bl (k + 1)
      have hln2 := hln
      rw [hsn] at hln2
      simp only [List.length_append, List.length_cons, List.length_nil] at hln2
      have hvz : x.1.data.toList.length = x.1.size := rfl
      rw [hvz, ← hosz] at hln2
      have bd := bd0.below HBr.out
      obtain ⟨sh, hsh⟩ : ∃ sh : ByteArray, sh = ⟨(showN l x.2.1 x.2.2).toArray⟩ := ⟨_, rfl⟩
      have hshz : sh.size = (showN l x.2.1 x.2.2).length := by rw [hsh]; rfl
      rw [← hshz] at hln2
      have hLN := HLN.out
      have HC : Hid (∀ W, Below wr.heap.size wr W → Calls Try.prog 24 #[.slice S n cap, .agg #[.string x.2.1.1, .int .i64 x.2.1.2, .slice ta (lenF x.2.2) tc]] W fun e w' => e = .returned (.string sh) ∧ Below W.heap.size W w') := hid fun W hW => by
        rw [hsh]; exact rshow_any S n cap l x.2.1 x.2.2 ta tc W hi1 hi2 ((HS.out.below HBr.out).below hW) (bd.tm.below hW) (by omega)
      have hne := later_some wr
      have e0 := later_cell bd.var; have e1 := later_cell bd.name; have e2 := later_cell bd.sym; have e3 := later_cell bd.list
      have HSN := hid hsn; have HSH := hid hsh
      by_cases hk0 : k = 0
      · subst hk0
        have hb1 : o.size + x.1.size + 4 + sh.size ≤ 140737488355328 := by
          simp at hln2; omega
        have z1 : (o ++ x.1).size = o.size + x.1.size := ByteArray.size_append
        have z2 : (o ++ x.1 ++ (⟨#[32, 45, 62, 32]⟩ : ByteArray)).size = o.size + x.1.size + 4 := by rw [ByteArray.size_append, z1]; rfl
        have y0 : o.size ≤ 140737488355328 := by omega
        have y1 : (o ++ x.1).size ≤ 140737488355328 := by omega
        have y2 : (o ++ x.1 ++ (⟨#[32, 45, 62, 32]⟩ : ByteArray)).size ≤ 140737488355328 := by omega
        have y3 : sh.size ≤ 140737488355328 := by omega
        have y4 : x.1.size ≤ 140737488355328 := by omega
        have y5 : (o ++ x.1 ++ (⟨#[32, 45, 62, 32]⟩ : ByteArray)).size + sh.size ≤ 140737488355328 := by omega
        simp only [Nat.zero_mul, Nat.add_zero] at e0 e1 e2 e3
        clear hln2 hln hsn hsh hshz hosz hvz z1 z2 hb1 bd bd0 hi1 hi2 hst hmem hx hLN hfx
        go_wp2_with fail
        refine wp_region_later (by kernel_rfl) (by kernel_rfl) ?_
        repeat (go_big_quiet_step (first | (go_at_call 24; with_reducible refine calls_later (HC.out _ ?_); exact Later.below _) | fail))
        refine wpQuiet_nil ?_
        intro _ hw'
        obtain ⟨b3, hw''⟩ := hw'
        subst hw''
        clear e0 e1 e2 e3 hne
        go_wp2
        go_roundw
        case rel =>
          refine ⟨1, _, by go_num, by omega, rfl, ?_, HBr.out.trans (b3.below.mono HBr.out.size)⟩
          rw [HSN.out, ba_app, ba_app, ba_app, HO.out, HSH.out, ba_list]
          simp [bindsS]
        case measure => simp [intOf]; omega
      · have hne2 : (true && (bl.take k).isEmpty) = false := by
          have : (bl.take k).length = k := by rw [List.length_take]; omega
          cases h : bl.take k with
          | nil => rw [h] at this; simp at this; omega
          | cons => rfl
        have hk1 : (0 : Int) < (k : Int) := by omega
        have hb1 : o.size + 2 + x.1.size + 4 + sh.size ≤ 140737488355328 := by
          rw [hne2] at hln2
          simp at hln2
          omega
        have z0 : (o ++ (⟨#[44, 32]⟩ : ByteArray)).size = o.size + 2 := by rw [ByteArray.size_append]; rfl
        have z1 : (o ++ (⟨#[44, 32]⟩ : ByteArray) ++ x.1).size = o.size + 2 + x.1.size := by rw [ByteArray.size_append, z0]
        have z2 : (o ++ (⟨#[44, 32]⟩ : ByteArray) ++ x.1 ++ (⟨#[32, 45, 62, 32]⟩ : ByteArray)).size = o.size + 2 + x.1.size + 4 := by rw [ByteArray.size_append, z1]; rfl
        have y0 : o.size ≤ 140737488355328 := by omega
        have y00 : (o ++ (⟨#[44, 32]⟩ : ByteArray)).size ≤ 140737488355328 := by omega
        have y1 : (o ++ (⟨#[44, 32]⟩ : ByteArray) ++ x.1).size ≤ 140737488355328 := by omega
        have y2 : (o ++ (⟨#[44, 32]⟩ : ByteArray) ++ x.1 ++ (⟨#[32, 45, 62, 32]⟩ : ByteArray)).size ≤ 140737488355328 := by omega
        have y3 : sh.size ≤ 140737488355328 := by omega
        have y4 : x.1.size ≤ 140737488355328 := by omega
        have HNE := hid hne2
        clear hln2 hln hsn hsh hshz hosz hvz z0 z1 z2 hb1 bd bd0 hi1 hi2 hst hmem hx hLN hfx hne2
        go_wp2_with fail
        refine wp_region_later (by kernel_rfl) (by kernel_rfl) ?_
        repeat (go_big_quiet_step (first | (go_at_call 24; with_reducible refine calls_later (HC.out _ ?_); exact Later.below _) | fail))
        refine wpQuiet_nil ?_
        intro _ hw'
        obtain ⟨b3, hw''⟩ := hw'
        subst hw''
        clear e0 e1 e2 e3 hne
        go_wp2
        go_roundw
        case rel =>
          refine ⟨k + 1, _, by go_num, by omega, rfl, ?_, HBr.out.trans (b3.below.mono HBr.out.size)⟩
          rw [HSN.out, HNE.out, ba_app, ba_app, ba_app, ba_app, HO.out, HSH.out, ba_list]
          simp
        case measure => simp [intOf]; omega
    · have hkl : k = bl.length := by omega
      have ho := HO.out
      rw [hkl, List.take_length] at ho
      have HO2 := hid (ba_of ho)
      clear ho hosz hkl
      go_wp2
      go_ret
      exact ⟨congrArg (fun o => Ending.returned (.string o)) HO2.out, HBr.out⟩
end Go.Proofs.Ytkcbhbkldcebiaa

namespace Go.Proofs.Ytkcbhbkldcebiaa
open Go.RowKit Go.Deep

set_option maxRecDepth 100000 in
set_option maxHeartbeats 4000000 in
theorem showE_any (S : Option Addr) (n cap : Nat) (l : List Sym) (A B : Tn) (a b : Option Addr) (c d : Nat) (w : World) (hS : SigAt w S n l) (tA : TmAt w A.1 a c A.2) (tB : TmAt w B.1 b d B.2) (hlen : (eqS l A B).length ≤ 140737488355328) :
    Calls Try.prog 20 #[.slice S n cap, .agg #[.string A.1.1, .int .i64 A.1.2, .slice a (lenF A.2) c, .string B.1.1, .int .i64 B.1.2, .slice b (lenF B.2) d]] w fun e w' => e = .returned (.string ⟨(eqS l A B).toArray⟩) ∧ Below w.heap.size w w' := by
  have hl : (showN l A.1 A.2).length + 3 + (showN l B.1 B.2).length ≤ 140737488355328 := by
    unfold eqS at hlen
    simp only [List.length_append, List.length_cons, List.length_nil] at hlen
    omega
  obtain ⟨o, ho⟩ : ∃ o : Obj, o = .cells #[.string A.1.1, .int .i64 A.1.2, .slice a (lenF A.2) c, .string B.1.1, .int .i64 B.1.2, .slice b (lenF B.2) d] 35 := ⟨_, rfl⟩
  have B0 := alloc_below0 w o
  have hn0 := World.alloc_heap_new w o
  have B1 := alloc_below0 (w.alloc o) (.cells #[.pointer none, .slice none 0 0] 81)
  have hn1 := World.alloc_heap_new (w.alloc o) (.cells #[.pointer none, .slice none 0 0] 81)
  have L1 := B0.trans (B1.mono B0.size)
  rw [World.size_alloc] at hn1
  have hn2 : ((w.alloc o).alloc (.cells #[.pointer none, .slice none 0 0] 81)).heap[w.heap.size]? = some o := (B1.block _ (by rw [World.size_alloc]; omega)).trans hn0
  have hI : Lib.IsBuilderF 81 5 (w.heap.size + 1) (w.heap.size + 1) (Lib.byteCells []) ((w.alloc o).alloc (.cells #[.pointer none, .slice none 0 0] 81)) := .inl (Lib.BuilderAtF.of ⟨Nat.le_refl _, .slice none 0 0, hn1, World.ownsRow_nil _ _ _ _, by simp [Value.ownBlock]⟩)
  have HW : Hid (∀ (T : Tn) (ta : Option Addr) (tc : Nat) (acc : List UInt8) (W : World), TmAt w T.1 ta tc T.2 → Below w.heap.size w W → Lib.IsBuilderF 81 5 (w.heap.size + 1) (w.heap.size + 1) (Lib.byteCells acc) W → acc.length + (showN l T.1 T.2).length ≤ 140737488355328 →
      Calls Try.prog 45 #[.pointer (some ⟨w.heap.size + 1, 0, none⟩), .slice S n cap, .agg #[.string T.1.1, .int .i64 T.1.2, .slice ta (lenF T.2) tc]] W fun e w' => e = .returned (.tuple #[]) ∧ Lib.IsBuilderF 81 5 (w.heap.size + 1) (w.heap.size + 1) (Lib.byteCells (acc ++ showN l T.1 T.2)) w' ∧ Below (w.heap.size + 1) W w' ∧ Lib.OthersKept 5 (some (w.heap.size + 1)) W w') :=
    hid fun T ta tc acc W h1 h2 h3 h4 => write_all (w0 := w) (cap := cap) (b := w.heap.size + 1) (by omega) hS (nodesF T.2 + 1) T.1 T.2 ta tc acc W (Nat.lt_succ_self _) h1 h2 h3 h4
  subst ho
  have x0 := cell_box (i := 0) hn2 rfl; have x1 := cell_box (i := 1) hn2 rfl; have x2 := cell_box (i := 2) hn2 rfl
  have HI := hid hI; have HN := hid hn2; have HL := hid L1; have TA := hid tA; have TB := hid tB; have HLN := hid hl
  clear hI hn0 hn1 hn2 B0 B1 L1 tA tB hS hlen hl
  go_enter Try.func20, Try.ntmps20
  go_wp2_with fail
  refine (HW.out A a c [] _ TA.out HL.out HI.out (by have := HLN.out; simp; omega)).mono ?_
  rintro e w2 ⟨rfl, hb2, hl2, hk2⟩
  rw [List.nil_append] at hb2
  have N2 := hid (hk2 _ _ HN.out (fun e => by have := Option.some.inj e; omega) (fun c fz e => by cases e))
  have L2 := hid (HL.out.trans (hl2.mono (by omega)))
  have HB2 := hid hb2
  clear hb2 hl2 hk2 x0 x1 x2 HN
  go_wp2_with fail
  refine (str_any (w.heap.size + 1) _ ⟨#[32, 61, 32]⟩ w2 HB2.out (by have := HLN.out; simp; omega)).mono ?_
  rintro e w3 ⟨rfl, hb3, hl3, hk3⟩
  have hn3 := hk3 _ _ N2.out (fun e => by have := Option.some.inj e; omega) (fun c fz e => by cases e)
  have L3 := hid (L2.out.trans (hl3.mono (by omega)))
  have HB3 := hid hb3
  have y0 := cell_box (i := 3) hn3 rfl; have y1 := cell_box (i := 4) hn3 rfl; have y2 := cell_box (i := 5) hn3 rfl
  clear hb3 hl3 hk3 N2 hn3
  go_wp2_with fail
  refine (HW.out B b d _ w3 TB.out L3.out HB3.out (by have := HLN.out; simp; omega)).mono ?_
  rintro e w4 ⟨rfl, hb4, hl4, hk4⟩
  have L4 := hid (L3.out.trans (hl4.mono (by omega)))
  have HB4 := hid hb4
  clear hb4 hl4 hk4 y0 y1 y2
  go_wp2_with fail
  refine (Try.Builder_String_any_k (w.heap.size + 1) (w.heap.size + 1) (eqS l A B) w4 HB4.out (Nat.le_of_lt (isB_lt HB4.out))).mono ?_
  rintro e w5 ⟨rfl, hb5, hl5, hk5⟩
  have L5 := hid (L4.out.trans (hl5.mono (by omega)))
  clear hb5 hl5 hk5
  go_wp2
  go_ret
  exact ⟨rfl, L5.out⟩

set_option maxRecDepth 100000 in
set_option maxHeartbeats 1000000 in
theorem showB_any (S : Option Addr) (n cap : Nat) (l : List Sym) (P : Option Addr) (m pc : Nat) (bl : List Bn) (w : World) (hS : SigAt w S n l) (hP : BindsAt w P m bl) (hlen : (bindsS l true bl).length ≤ 140737488355328) :
    Calls Try.prog 21 #[.slice S n cap, .slice P m pc] w fun e w' => e = .returned (.string ⟨(bindsS l true bl).toArray⟩) ∧ Below w.heap.size w w' := by
  have HP := hid hP
  have hml := hP.len
  have hsm := hP.small
  subst hml
  unfold maxLen at hsm
  have B0 := alloc_below0 w (.cells #[.pointer none, .slice none 0 0] 81)
  have hn0 := World.alloc_heap_new w (.cells #[.pointer none, .slice none 0 0] 81)
  obtain ⟨b, hb⟩ : ∃ b, b = w.heap.size := ⟨_, rfl⟩
  rw [← hb] at hn0
  have hI : Lib.IsBuilderF 81 5 b b (Lib.byteCells []) (w.alloc (.cells #[.pointer none, .slice none 0 0] 81)) := .inl (Lib.BuilderAtF.of ⟨Nat.le_refl _, .slice none 0 0, hn0, World.ownsRow_nil _ _ _ _, by simp [Value.ownBlock]⟩)
  have HW : Hid (∀ (T : Tn) (ta : Option Addr) (tc : Nat) (acc : List UInt8) (W : World), TmAt w T.1 ta tc T.2 → Below w.heap.size w W → Lib.IsBuilderF 81 5 b b (Lib.byteCells acc) W → acc.length + (showN l T.1 T.2).length ≤ 140737488355328 →
      Calls Try.prog 45 #[.pointer (some ⟨b, 0, none⟩), .slice S n cap, .agg #[.string T.1.1, .int .i64 T.1.2, .slice ta (lenF T.2) tc]] W fun e w' => e = .returned (.tuple #[]) ∧ Lib.IsBuilderF 81 5 b b (Lib.byteCells (acc ++ showN l T.1 T.2)) w' ∧ Below b W w' ∧ Lib.OthersKept 5 (some b) W w') :=
    hid fun T ta tc acc W h1 h2 h3 h4 => write_all (w0 := w) (cap := cap) (b := b) (by omega) hS (nodesF T.2 + 1) T.1 T.2 ta tc acc W (Nat.lt_succ_self _) h1 h2 h3 h4
  have HI := hid hI; have HLN := hid hlen; have L0 := hid B0
  clear hI hlen B0 hS hP hn0
  go_enter Try.func21, Try.ntmps21
  go_wp2_with fail
  rw [← hb]
  have HQ : Hid (b = w.heap.size) := hb
  clear hb
  generalize w.alloc (.cells #[.pointer none, .slice none 0 0] 81) = V0 at HI L0 ⊢
  go_loopw [6, 7, 10] (fun _ _ ov wr => ∃ k : Nat, ov = .int .i64 k ∧ k ≤ bl.length ∧ Lib.IsBuilderF 81 5 b b (Lib.byteCells (bindsS l true (bl.take k))) wr ∧ Below w.heap.size w wr) (fun _ _ ov _ => bl.length - (intOf ov).toNat)
  case atStart => exact ⟨0, rfl, Nat.zero_le _, by simpa [bindsS] using HI.out, L0.out⟩
  case round =>
    obtain ⟨k, rfl, hk, hbr, hlr⟩ := hrel
    have HBr := hid hbr; have HLr := hid hlr
    clear hbr hlr
    by_cases hlt : k < bl.length
    · have hkl : k < bl.length := by omega
      obtain ⟨bb, off, ta, tc, rfl, bd0⟩ := HP.out.cells k hkl
      obtain ⟨x, hx⟩ : ∃ x, bl[k] = x := ⟨_, rfl⟩
      have hst := take_next hkl
      rw [hx] at bd0 hst
      have hsn := bindsS_snoc l true (bl.take k) x
      rw [← hst] at hsn
      have hln := bindsS_take l true bl (k + 1)
      have hln2 := hln
      rw [hsn] at hln2
      simp only [List.length_append, List.length_cons, List.length_nil] at hln2
      have bd := bd0.below HLr.out
      have e0 := bd.var; have e1 := bd.name; have e2 := bd.sym; have e3 := bd.list
      have hLN := HLN.out
      have HSN := hid hsn
      have TX := hid bd0.tm
      have hbw := isB_lt HBr.out
      have B1 := alloc_below0 wr (.cells #[.string x.1, .string x.2.1.1, .int .i64 x.2.1.2, .slice ta (lenF x.2.2) tc] 50)
      have N1 := hid (World.alloc_heap_new wr (.cells #[.string x.1, .string x.2.1.1, .int .i64 x.2.1.2, .slice ta (lenF x.2.2) tc] 50))
      have HB1 := hid (isB_alloc HBr.out (.cells #[.string x.1, .string x.2.1.1, .int .i64 x.2.1.2, .slice ta (lenF x.2.2) tc] 50))
      have L1 : Hid (Below w.heap.size w (wr.alloc (.cells #[.string x.1, .string x.2.1.1, .int .i64 x.2.1.2, .slice ta (lenF x.2.2) tc] 50))) := hid (HLr.out.trans (B1.mono HLr.out.size))
      have z0 := cell_box (i := 0) N1.out rfl
      by_cases hk0 : k = 0
      · subst hk0
        have hb1 : x.1.size + 4 + (showN l x.2.1 x.2.2).length ≤ 140737488355328 := by
          have hvz : x.1.data.toList.length = x.1.size := rfl
          rw [hvz] at hln2
          simp at hln2
          omega
        have HLB := hid hb1
        simp only [Nat.zero_mul, Nat.add_zero] at e0 e1 e2 e3
        have HB1' : Hid (Lib.IsBuilderF 81 5 b b (Lib.byteCells []) (wr.alloc (.cells #[.string x.1, .string x.2.1.1, .int .i64 x.2.1.2, .slice ta (lenF x.2.2) tc] 50))) := by
          have h := HB1.out
          simp only [List.take_zero, bindsS] at h
          exact h
        clear hln2 hln hsn hb1 bd bd0 hst hx hLN B1 HB1
        go_wp2_with fail
        generalize wr.alloc (.cells #[.string x.1, .string x.2.1.1, .int .i64 x.2.1.2, .slice ta (lenF x.2.2) tc] 50) = V1 at N1 HB1' L1 z0 ⊢
        refine (str_any b [] x.1 V1 HB1'.out (by have := HLB.out; have : x.1.data.toList.length = x.1.size := rfl; simp only [List.length_nil]; omega)).mono ?_
        rintro e w2 ⟨rfl, hb2, hl2, hk2⟩
        have N2 := hid (hk2 _ _ N1.out (fun e => by have := Option.some.inj e; omega) (fun c fz e => by cases e))
        have L2 := hid (L1.out.trans (hl2.mono (by have := HQ.out; omega)))
        have HB2 := hid hb2
        clear hb2 hl2 hk2 z0 N1 L1 HB1'
        go_wp2_with fail
        refine (str_any b _ ⟨#[32, 45, 62, 32]⟩ w2 HB2.out (by have := HLB.out; have : x.1.data.toList.length = x.1.size := rfl; simp only [List.length_append, List.length_nil, List.length_cons]; omega)).mono ?_
        rintro e w3 ⟨rfl, hb3, hl3, hk3⟩
        have hn3 := hk3 _ _ N2.out (fun e => by have := Option.some.inj e; omega) (fun c fz e => by cases e)
        have L3 := hid (L2.out.trans (hl3.mono (by have := HQ.out; omega)))
        have HB3 := hid hb3
        have y0 := cell_box (i := 1) hn3 rfl; have y1 := cell_box (i := 2) hn3 rfl; have y2 := cell_box (i := 3) hn3 rfl
        clear hb3 hl3 hk3 N2 hn3 L2 HB2
        go_wp2_with fail
        refine (HW.out x.2 ta tc _ w3 TX.out L3.out HB3.out (by have := HLB.out; have : x.1.data.toList.length = x.1.size := rfl; simp only [List.length_append, List.length_nil, List.length_cons]; omega)).mono ?_
        rintro e w4 ⟨rfl, hb4, hl4, hk4⟩
        have L4 := hid (L3.out.trans (hl4.mono (by have := HQ.out; omega)))
        have HB4 := hid hb4
        clear hb4 hl4 hk4 y0 y1 y2
        go_wp2
        go_roundw
        case rel =>
          refine ⟨1, by go_num, by omega, ?_, L4.out⟩
          rw [HSN.out]
          simpa [bindsS] using HB4.out
        case measure => simp [intOf]; omega
      · have hne2 : (true && (bl.take k).isEmpty) = false := by
          have : (bl.take k).length = k := by rw [List.length_take]; omega
          cases h : bl.take k with
          | nil => rw [h] at this; simp at this; omega
          | cons => rfl
        have hk1 : (0 : Int) < (k : Int) := by omega
        have hb1 : (bindsS l true (bl.take k)).length + 2 + x.1.size + 4 + (showN l x.2.1 x.2.2).length ≤ 140737488355328 := by
          have hvz : x.1.data.toList.length = x.1.size := rfl
          rw [hne2, hvz] at hln2
          simp at hln2
          omega
        have HLB := hid hb1
        have HNE := hid hne2
        clear hln2 hln hsn hb1 bd bd0 hst hx hLN B1 hne2
        go_wp2_with fail
        generalize wr.alloc (.cells #[.string x.1, .string x.2.1.1, .int .i64 x.2.1.2, .slice ta (lenF x.2.2) tc] 50) = V1 at N1 HB1 L1 z0 ⊢
        refine (str_any b _ ⟨#[44, 32]⟩ V1 HB1.out (by have := HLB.out; simp only [List.length_nil, List.length_cons]; omega)).mono ?_
        rintro e w1 ⟨rfl, hb1, hl1, hk1'⟩
        have hn1 := hk1' _ _ N1.out (fun e => by have := Option.some.inj e; omega) (fun c fz e => by cases e)
        have N1b := hid hn1
        have L1b := hid (L1.out.trans (hl1.mono (by have := HQ.out; omega)))
        have HB1b := hid hb1
        have v0 := cell_box (i := 0) hn1 rfl
        clear hb1 hl1 hk1' z0 N1 L1 HB1 hn1
        go_wp2_with fail
        refine (str_any b _ x.1 w1 HB1b.out (by have := HLB.out; have : x.1.data.toList.length = x.1.size := rfl; simp only [List.length_append, List.length_nil, List.length_cons]; omega)).mono ?_
        rintro e w2 ⟨rfl, hb2, hl2, hk2⟩
        have N2 := hid (hk2 _ _ N1b.out (fun e => by have := Option.some.inj e; omega) (fun c fz e => by cases e))
        have L2 := hid (L1b.out.trans (hl2.mono (by have := HQ.out; omega)))
        have HB2 := hid hb2
        clear hb2 hl2 hk2 v0 N1b L1b HB1b
        go_wp2_with fail
        refine (str_any b _ ⟨#[32, 45, 62, 32]⟩ w2 HB2.out (by have := HLB.out; have : x.1.data.toList.length = x.1.size := rfl; simp only [List.length_append, List.length_nil, List.length_cons]; omega)).mono ?_
        rintro e w3 ⟨rfl, hb3, hl3, hk3⟩
        have hn3 := hk3 _ _ N2.out (fun e => by have := Option.some.inj e; omega) (fun c fz e => by cases e)
        have L3 := hid (L2.out.trans (hl3.mono (by have := HQ.out; omega)))
        have HB3 := hid hb3
        have y0 := cell_box (i := 1) hn3 rfl; have y1 := cell_box (i := 2) hn3 rfl; have y2 := cell_box (i := 3) hn3 rfl
        clear hb3 hl3 hk3 N2 hn3 L2 HB2
        go_wp2_with fail
        refine (HW.out x.2 ta tc _ w3 TX.out L3.out HB3.out (by have := HLB.out; have : x.1.data.toList.length = x.1.size := rfl; simp only [List.length_append, List.length_nil, List.length_cons]; omega)).mono ?_
        rintro e w4 ⟨rfl, hb4, hl4, hk4⟩
        have L4 := hid (L3.out.trans (hl4.mono (by have := HQ.out; omega)))
        have HB4 := hid hb4
        clear hb4 hl4 hk4 y0 y1 y2
        go_wp2
        go_roundw
        case rel =>
          refine ⟨k + 1, by go_num, by omega, ?_, L4.out⟩
          rw [HSN.out, HNE.out]
          simpa [List.append_assoc] using HB4.out
        case measure => simp [intOf]; omega
    · have hkl : k = bl.length := by omega
      have HBe : Hid (Lib.IsBuilderF 81 5 b b (Lib.byteCells (bindsS l true bl)) wr) := by
        have h := HBr.out
        rw [hkl, List.take_length] at h
        exact h
      clear hkl
      go_wp2_with fail
      refine (Try.Builder_String_any_k b b (bindsS l true bl) wr HBe.out (Nat.le_of_lt (isB_lt HBe.out))).mono ?_
      rintro e w5 ⟨rfl, hb5, hl5, hk5⟩
      have L5 := hid (HLr.out.trans (hl5.mono (by have := HQ.out; omega)))
      clear hb5 hl5 hk5
      go_wp2
      go_ret
      exact ⟨rfl, L5.out⟩
end Go.Proofs.Ytkcbhbkldcebiaa

namespace Go.Proofs.Ytkcbhbkldcebiaa
open Go.ChangeShapes Go.WideShapes Go.ChangeAt Go.RowKit Go.Deep

/-- Names of bounded length. -/
def SmF : Fo → Prop
  | .nil => True
  | .node _ _ x m r => x.1.size ≤ 1048576 ∧ SmF m ∧ SmF r
theorem forest_sm {H : Type} {W : World} {b : Nat} : ∀ (ds : List (DataW H × List MemPlace)) (o : Nat),
    (∀ (i : Nat) (h : i < ds.length), ∃ (p : ByteArray × Int) (a : Option Addr) (c : Nat) (l : Fo), (W.cell? ⟨b, o + i * 3, none⟩ = some (.string p.1) ∧ W.cell? ⟨b, o + i * 3 + 1, none⟩ = some (.int .i64 p.2) ∧ W.cell? ⟨b, o + i * 3 + 2, none⟩ = some (.slice a (lenF l) c)) ∧ TmAt W p a c l ∧ nodesF l + 1 ≤ Rows.uptoBulk ds[i].1 ∧ p.1.size ≤ 1048576 ∧ SmF l) →
    ∃ F : Fo, lenF F = ds.length ∧ KidsAt W F b o ∧ nodesF F ≤ Rows.uptoBulkAll (ds.map (·.1)) ∧ SmF F
  | [], o, _ => ⟨.nil, rfl, trivial, Nat.zero_le _, trivial⟩
  | d :: r, o, h => by
    obtain ⟨F, hl, hk, hn, hs⟩ := forest_sm r (o + 3) (fun i hi => by
      obtain ⟨p, a, c, l, ⟨h0, h1, h2⟩, h3, h4⟩ := h (i + 1) (by simpa using hi)
      rw [show o + (i + 1) * 3 = o + 3 + i * 3 by omega] at h0 h1 h2
      exact ⟨p, a, c, l, ⟨h0, h1, h2⟩, h3, h4⟩)
    obtain ⟨p, a, c, l, ⟨h0, h1, h2⟩, h3, h4, h5, h6⟩ := h 0 (by simp)
    simp only [Nat.zero_mul, Nat.add_zero, List.getElem_cons_zero] at h0 h1 h2 h4
    refine ⟨.node 0 0 p l F, by simp [lenF, hl], ⟨⟨a, c, h0, h1, h2, h3.sizes, h3.args⟩, hk⟩, ?_, ⟨h5, h6, hs⟩⟩
    simp only [nodesF, List.map_cons, Rows.uptoBulkAll]
    omega

set_option maxRecDepth 100000 in
theorem term_sm {H : Type} {enc : TypeId × Value → H} {W : World} : ∀ (fuel : Nat) (cs : List Value) (x : DataW H × List MemPlace), DataW.trod enc Try.prog W 0 (fun _ => true) true fuel 28 cs = some x → Rows.uptoBulk x.1 ≤ 1048576 →
    ∃ (p : ByteArray × Int) (a : Option Addr) (c : Nat) (l : Fo), cs = [.string p.1, .int .i64 p.2, .slice a (lenF l) c] ∧ TmAt W p a c l ∧ nodesF l + 1 ≤ Rows.uptoBulk x.1 ∧ p.1.size ≤ 1048576 ∧ SmF l := by
  intro fuel
  induction fuel using Nat.strongRecOn with
  | _ fuel ih =>
    intro cs x h hz
    obtain ⟨xs, n, hfuel, hx, hl, hlen, hf⟩ := DataW.trod_struct Try.underlying28 h
    rw [Try.cells28] at hl
    match xs, hlen, cs, hl with
    | [y0, y1, y2], _, [v0, v1, v2], _ =>
      have g0 := hf 0 _ rfl
      have g1 := hf 1 _ rfl
      have g2 := hf 2 _ rfl
      simp [Try.cells9, Try.cells3, Try.cells26] at g0 g1 g2
      obtain ⟨s0, e0, k0, f0⟩ := DataW.trod_string Try.underlying9 g0
      obtain ⟨n1, e1, k1, _⟩ := DataW.trod_int Try.underlying3 g1
      simp at e0 e1
      subst e0 e1 hx
      have hs0 : s0.size ≤ 1048576 := by
        simp only [List.map_cons, List.map_nil, Rows.uptoBulk, Rows.uptoBulkAll, k0] at hz
        have e : s0.data.toList.length = s0.size := rfl
        omega
      rcases DataW.trod_slice Try.underlying26 g2 with ⟨hcs, h2⟩ | ⟨ad, len, c, elems, rest, n', hn', hcs, h2, _, hlc, hcm, hlen2, hel, _, _⟩
      · simp at hcs
        subst hcs
        exact ⟨(s0, n1), none, 0, .nil, rfl, ⟨⟨f0, by simp [lenF], by simp, by simp [lenF]⟩, .inl rfl⟩, by simp [nodesF, Rows.uptoBulk, Rows.uptoBulkAll], hs0, trivial⟩
      · simp at hcs
        subst hcs
        rw [Try.cells28] at hel
        have hb2 : Rows.uptoBulkAll (elems.map (·.1)) + 1 ≤ Rows.uptoBulk (DataW.agg (List.map (·.1) [y0, y1, y2])) := by
          simp only [List.map_cons, List.map_nil, Rows.uptoBulk, Rows.uptoBulkAll, h2]; omega
        have hsub : ∀ d ∈ elems, Rows.uptoBulk d.1 ≤ 1048576 := by
          intro d hd
          have := bulk_all (List.mem_map_of_mem (f := (·.1)) hd)
          simp only at hz
          omega
        have hfew : len * 48 ≤ 140737488351232 := by
          have := bulk_len (elems.map (·.1))
          rw [List.length_map, hlen2] at this
          simp only at hz
          omega
        have each : ∀ i (hi : i < elems.length), ∃ (p : ByteArray × Int) (a : Option Addr) (c : Nat) (l : Fo), W.cells? 0 (ad.add (i * 3)) 3 = some [.string p.1, .int .i64 p.2, .slice a (lenF l) c] ∧ TmAt W p a c l ∧ nodesF l + 1 ≤ Rows.uptoBulk elems[i].1 ∧ p.1.size ≤ 1048576 ∧ SmF l := by
          intro i hi
          have h1 := hel i (by omega)
          rw [List.getElem?_eq_getElem hi] at h1
          cases hc : W.cells? 0 (ad.add (i * 3)) 3 with
          | none => rw [hc] at h1; cases h1
          | some cs' =>
            rw [hc] at h1
            obtain ⟨p, a, c, l, rfl, h3, h4⟩ := ih n' (by omega) cs' elems[i] h1 (hsub _ (List.getElem_mem hi))
            exact ⟨p, a, c, l, rfl, h3, h4⟩
        by_cases hz0 : len = 0
        · subst hz0
          exact ⟨(s0, n1), some ad, c, .nil, rfl, ⟨⟨f0, by simp [lenF], hcm, by simp [lenF]⟩, .inl rfl⟩, by simp only [nodesF]; omega, hs0, trivial⟩
        · obtain ⟨b, off, spot⟩ := ad
          have hspot : spot = none := by
            obtain ⟨p, a, c, l, h3, _⟩ := each 0 (by omega)
            obtain ⟨_, _, h30⟩ := World.cells?_some h3
            have := h30 0 (by omega)
            simpa [Addr.add] using World.cell?_spot this
          subst hspot
          obtain ⟨F, hFl, hFk, hFn, hFs⟩ := forest_sm (W := W) (b := b) elems off (fun i hi => by
            obtain ⟨p, a, c, l, h3, h4, h5⟩ := each i hi
            rw [addr_add] at h3
            obtain ⟨_, _, h30⟩ := World.cells?_some h3
            have q0 := h30 0 (by omega)
            have q1 := h30 1 (by omega)
            have q2 := h30 2 (by omega)
            rw [addr_add] at q0 q1 q2
            exact ⟨p, a, c, l, ⟨q0, q1, q2⟩, h4, h5⟩)
          have hFl' : lenF F = len := by rw [hFl, hlen2]
          exact ⟨(s0, n1), some ⟨b, off, none⟩, c, F, by rw [hFl'], ⟨⟨f0, by omega, hcm, by rw [hFl']; exact hfew⟩, .inr ⟨b, off, rfl, hFk⟩⟩, Nat.le_trans (Nat.succ_le_succ hFn) hb2, hs0, hFs⟩

theorem Try.cells50 : Try.prog.cellsOf 50 = 4 := by kernel_rfl
theorem Try.cells43 : Try.prog.cellsOf 43 = 8 := by kernel_rfl
theorem Try.cells38 : Try.prog.cellsOf 38 = 1 := by kernel_rfl
theorem Try.cells23 : Try.prog.cellsOf 23 = 1 := by kernel_rfl
set_option maxRecDepth 100000 in
/-- One bind's reading. -/
theorem bind_sm {H : Type} {enc : TypeId × Value → H} {W : World} {fuel : Nat} {cs : List Value} {x : DataW H × List MemPlace} (h : DataW.trod enc Try.prog W 0 (fun _ => true) true fuel 50 cs = some x) (hz : Rows.uptoBulk x.1 ≤ 1048576) :
    ∃ (v : ByteArray) (p : ByteArray × Int) (a : Option Addr) (c : Nat) (l : Fo), cs = [.string v, .string p.1, .int .i64 p.2, .slice a (lenF l) c] ∧ TmAt W p a c l ∧ nodesF l + 2 ≤ Rows.uptoBulk x.1 ∧ v.size ≤ 1048576 ∧ p.1.size ≤ 1048576 ∧ SmF l := by
  obtain ⟨xs, n, hfuel, hx, hl, hlen, hf⟩ := DataW.trod_struct Try.underlying50 h
  rw [Try.cells50] at hl
  match xs, hlen, cs, hl with
  | [y0, y1], _, [v0, v1, v2, v3], _ =>
    have g0 := hf 0 _ rfl
    have g1 := hf 1 _ rfl
    simp [Try.cells9, Try.cells28] at g0 g1
    obtain ⟨s0, e0, k0, f0⟩ := DataW.trod_string Try.underlying9 g0
    simp at e0
    subst e0 hx
    have hd : s0.size + 1 + Rows.uptoBulk y1.1 + 1 ≤ 1048576 ∧ s0.size + 1 + Rows.uptoBulk y1.1 + 1 ≤ Rows.uptoBulk (DataW.agg (List.map (·.1) [y0, y1])) := by
      have e : s0.data.toList.length = s0.size := rfl
      simp only [List.map_cons, List.map_nil, Rows.uptoBulk, Rows.uptoBulkAll, k0] at hz ⊢
      omega
    obtain ⟨p, a, c, l, e1, h3, h4, h5, h6⟩ := term_sm n _ _ g1 (by omega)
    simp at e1
    obtain ⟨rfl, rfl, rfl⟩ := e1
    exact ⟨s0, p, a, c, l, rfl, h3, (show nodesF l + 2 ≤ Rows.uptoBulk (DataW.agg (List.map (·.1) [y0, y1])) by omega), by omega, h5, h6⟩
/-- How much there is of binds. -/
def totB : List Bn → Nat
  | [] => 0
  | x :: r => nodesF x.2.2 + 2 + totB r
theorem binds_of {H : Type} {W : World} {b : Nat} : ∀ (ds : List (DataW H × List MemPlace)) (o : Nat),
    (∀ (i : Nat) (h : i < ds.length), ∃ (x : Bn) (a : Option Addr) (c : Nat), BdAt W b (o + i * 4) x a c ∧ nodesF x.2.2 + 2 ≤ Rows.uptoBulk ds[i].1 ∧ x.1.size ≤ 1048576 ∧ x.2.1.1.size ≤ 1048576 ∧ SmF x.2.2) →
    ∃ bl : List Bn, bl.length = ds.length ∧ (∀ i (h : i < bl.length), ∃ a c, BdAt W b (o + i * 4) bl[i] a c) ∧ totB bl ≤ Rows.uptoBulkAll (ds.map (·.1)) ∧ ∀ x ∈ bl, x.1.size ≤ 1048576 ∧ x.2.1.1.size ≤ 1048576 ∧ SmF x.2.2
  | [], o, _ => ⟨[], rfl, fun i h => absurd h (by simp), Nat.zero_le _, fun x hx => by cases hx⟩
  | d :: r, o, h => by
    obtain ⟨bl, hl, hk, hn, hs⟩ := binds_of r (o + 4) (fun i hi => by
      obtain ⟨x, a, c, h1, h2⟩ := h (i + 1) (by simpa using hi)
      rw [show o + (i + 1) * 4 = o + 4 + i * 4 by omega] at h1
      exact ⟨x, a, c, h1, h2⟩)
    obtain ⟨x, a, c, h1, h2, h3⟩ := h 0 (by simp)
    simp only [Nat.zero_mul, Nat.add_zero, List.getElem_cons_zero] at h1 h2
    refine ⟨x :: bl, by simp [hl], fun i hi => ?_, ?_, fun y hy => ?_⟩
    · cases i with
      | zero => exact ⟨a, c, by simpa using h1⟩
      | succ i =>
        obtain ⟨a', c', h4⟩ := hk i (by simpa using hi)
        refine ⟨a', c', ?_⟩
        rw [show o + (i + 1) * 4 = o + 4 + i * 4 by omega]
        simpa using h4
    · simp only [totB, List.map_cons, Rows.uptoBulkAll]
      omega
    · rcases List.mem_cons.1 hy with rfl | hy
      · exact h3
      · exact hs y hy
set_option maxRecDepth 100000 in
/-- Binds that came in. -/
theorem binds_open {H : Type} {enc : TypeId × Value → H} {W : World} {fuel : Nat} {v : Value} {y : DataW H × List MemPlace} (hf : DataW.trod enc Try.prog W 0 (fun _ => true) true fuel 38 [v] = some y) (hz : Rows.uptoBulk y.1 ≤ 1048576) :
    ∃ P m pc bl, v = .slice P m pc ∧ BindsAt W P m bl ∧ totB bl ≤ 1048576 ∧ ∀ x ∈ bl, x.1.size ≤ 1048576 ∧ x.2.1.1.size ≤ 1048576 ∧ SmF x.2.2 := by
  rcases DataW.trod_slice Try.underlying38 hf with ⟨hcs, h2⟩ | ⟨ad, len, c, elems, rest, n', hn', hcs, h2, _, hlc, hcm, hlen2, hel, _, _⟩
  · simp at hcs
    subst hcs
    exact ⟨none, 0, 0, [], rfl, ⟨rfl, by simp, fun i h => absurd h (by simp), fun x hx => by cases hx⟩, by simp [totB], fun x hx => by cases hx⟩
  · simp at hcs
    subst hcs
    rw [Try.cells50] at hel
    have hb2 : Rows.uptoBulkAll (elems.map (·.1)) + 1 ≤ Rows.uptoBulk y.1 := by
      simp only [h2, Rows.uptoBulk]; omega
    by_cases hz0 : len = 0
    · subst hz0
      exact ⟨some ad, 0, c, [], rfl, ⟨rfl, by simp, fun i h => absurd h (by simp), fun x hx => by cases hx⟩, by simp [totB], fun x hx => by cases hx⟩
    · have each : ∀ i (hi : i < elems.length), ∃ (v : ByteArray) (p : ByteArray × Int) (a : Option Addr) (c : Nat) (l : Fo), W.cells? 0 (ad.add (i * 4)) 4 = some [.string v, .string p.1, .int .i64 p.2, .slice a (lenF l) c] ∧ TmAt W p a c l ∧ nodesF l + 2 ≤ Rows.uptoBulk elems[i].1 ∧ v.size ≤ 1048576 ∧ p.1.size ≤ 1048576 ∧ SmF l := by
        intro i hi
        have h1 := hel i (by omega)
        rw [List.getElem?_eq_getElem hi] at h1
        cases hc : W.cells? 0 (ad.add (i * 4)) 4 with
        | none => rw [hc] at h1; cases h1
        | some cs' =>
          rw [hc] at h1
          have := bulk_all (List.mem_map_of_mem (f := (·.1)) (List.getElem_mem hi))
          obtain ⟨v, p, a, c, l, rfl, h3⟩ := bind_sm h1 (by omega)
          exact ⟨v, p, a, c, l, rfl, h3⟩
      obtain ⟨b, off, spot⟩ := ad
      have hspot : spot = none := by
        obtain ⟨v, p, a, c, l, h3, _⟩ := each 0 (by omega)
        obtain ⟨_, _, h30⟩ := World.cells?_some h3
        have := h30 0 (by omega)
        simpa [Addr.add] using World.cell?_spot this
      subst hspot
      obtain ⟨bl, h3, h4, h5, h6⟩ := binds_of (W := W) (b := b) elems off (fun i hi => by
        obtain ⟨v, p, a, c, l, h3, h4, h5, h6, h7⟩ := each i hi
        rw [addr_add] at h3
        obtain ⟨_, _, h30⟩ := World.cells?_some h3
        have q0 := h30 0 (by omega)
        have q1 := h30 1 (by omega)
        have q2 := h30 2 (by omega)
        have q3 := h30 3 (by omega)
        rw [addr_add] at q0 q1 q2 q3
        exact ⟨(v, p, l), a, c, ⟨q0, q1, q2, q3, h4⟩, h5, h6, h7⟩)
      refine ⟨some ⟨b, off, none⟩, len, c, bl, rfl, ⟨by omega, by omega, fun i hi => ?_, fun x hx => ?_⟩, by omega, h6⟩
      · obtain ⟨a', c', h8⟩ := h4 i hi
        exact ⟨b, off, a', c', rfl, h8⟩
      · have := (h6 x hx).1
        have e : maxLen = 9223372036854775807 := rfl
        omega

set_option maxRecDepth 100000 in
/-- One symbol's reading. -/
theorem sym_sm {H : Type} {enc : TypeId × Value → H} {W : World} {base : Nat} {spare : Nat → Bool} {held : Bool} {fuel : Nat} {cs : List Value} {x : DataW H × List MemPlace}
    (h : DataW.trod enc Try.prog W base spare held fuel 90 cs = some x) (hz : Rows.uptoBulk x.1 ≤ 1048576) : ∃ y : Sym, cs = [.string y.name, .int .i64 y.kind, .int .i64 y.arity, .string y.unit] ∧ y.Fits ∧ y.name.size ≤ 1048576 := by
  obtain ⟨xs, n, hfuel, hx, hl, hlen, hf⟩ := DataW.trod_struct Try.underlying90 h
  rw [Try.cells90] at hl
  match xs, hlen, cs, hl with
  | [y0, y1, y2, y3], _, [c0, c1, c2, c3], _ =>
    have h0 := hf 0 _ rfl
    have h1 := hf 1 _ rfl
    have h2 := hf 2 _ rfl
    have h3 := hf 3 _ rfl
    simp [Try.cells9, Try.cells88, Try.cells3] at h0 h1 h2 h3
    obtain ⟨s0, e0, k0, f0⟩ := DataW.trod_string Try.underlying9 h0
    obtain ⟨n1, e1, _, _⟩ := DataW.trod_int Try.underlying88 h1
    obtain ⟨n2, e2, _, _⟩ := DataW.trod_int Try.underlying3 h2
    obtain ⟨s3, e3, _, f3⟩ := DataW.trod_string Try.underlying9 h3
    simp at e0 e1 e2 e3
    subst e0 e1 e2 e3 hx
    refine ⟨⟨s0, n1, n2, s3⟩, rfl, ⟨f0, f3⟩, ?_⟩
    simp only [List.map_cons, List.map_nil, Rows.uptoBulk, Rows.uptoBulkAll, k0] at hz
    have e : s0.data.toList.length = s0.size := rfl
    show s0.size ≤ _
    omega
set_option maxRecDepth 100000 in
theorem sig_sm {H : Type} {enc : TypeId × Value → H} {W : World} {fuel : Nat} {v : Value} {y : DataW H × List MemPlace}
    (hf : DataW.trod enc Try.prog W 0 (fun _ => true) true fuel 23 [v] = some y) (hz : Rows.uptoBulk y.1 ≤ 1048576) :
    ∃ a len cap l, v = .slice a len cap ∧ SigAt W a len l ∧ ∀ y ∈ l, y.name.size ≤ 1048576 := by
  rcases DataW.trod_slice Try.underlying23 hf with ⟨hcs, _⟩ | ⟨x, len, cap, elems, rest, n, _, hcs, hx, hb, hl, hm, hlen, hel, _, _⟩
  · simp at hcs
    subst hcs
    exact ⟨none, 0, 0, [], rfl, ⟨rfl, by simp, fun i hi => absurd hi (by simp), fun s hs => absurd hs (by simp)⟩, fun s hs => absurd hs (by simp)⟩
  · simp at hcs
    subst hcs
    rw [Try.cells90] at hel
    have hb2 : Rows.uptoBulkAll (elems.map (·.1)) + 1 ≤ Rows.uptoBulk y.1 := by
      simp only [hx, Rows.uptoBulk]; omega
    have each : ∀ i, i < len → ∃ y : Sym, (∃ cs, W.cells? 0 (x.add (i * 4)) 4 = some cs ∧ cs = [.string y.name, .int .i64 y.kind, .int .i64 y.arity, .string y.unit]) ∧ y.Fits ∧ y.name.size ≤ 1048576 := by
      intro i hi
      have h1 := hel i hi
      have hi' : i < elems.length := by omega
      rw [List.getElem?_eq_getElem hi'] at h1
      have := bulk_all (List.mem_map_of_mem (f := (·.1)) (List.getElem_mem hi'))
      cases hc : W.cells? 0 (x.add (i * 4)) 4 with
      | none => rw [hc] at h1; cases h1
      | some cs =>
        rw [hc] at h1
        obtain ⟨y, hy, hyf⟩ := sym_sm h1 (by omega)
        exact ⟨y, ⟨cs, rfl, hy⟩, hyf⟩
    obtain ⟨ll, hll, hp⟩ := list_of_each len each
    refine ⟨some x, len, cap, ll, rfl, ⟨hll.symm, by omega, fun i hi => ?_, fun y hy => ?_⟩, fun y hy => ?_⟩
    · obtain ⟨⟨cs, h1, h2⟩, _⟩ := hp i hi
      obtain ⟨b, off, spot⟩ := x
      have hspot : spot = none := by
        obtain ⟨⟨cs0, h10, h20⟩, _⟩ := hp 0 (by omega)
        obtain ⟨_, _, h30⟩ := World.cells?_some h10
        have := h30 0 (by omega)
        rw [h20] at this
        simpa [Addr.add] using World.cell?_spot this
      subst hspot
      refine ⟨b, off, rfl, ?_⟩
      rw [addr_add] at h1
      obtain ⟨_, _, h3⟩ := World.cells?_some h1
      subst h2
      have k0 := h3 0 (by omega)
      have k1 := h3 1 (by omega)
      have k2 := h3 2 (by omega)
      have k3 := h3 3 (by omega)
      rw [addr_add] at k0 k1 k2 k3
      exact ⟨k0, k1, k2, k3⟩
    · obtain ⟨i, hi, rfl⟩ := List.getElem_of_mem hy
      exact (hp i hi).2.1
    · obtain ⟨i, hi, rfl⟩ := List.getElem_of_mem hy
      exact (hp i hi).2.2

/-! ### how long texts are -/
theorem symB_len {l : List Sym} (h : ∀ y ∈ l, y.name.size ≤ 1048576) (i : Int) : (symB l i).data.toList.length ≤ 1048576 := by
  unfold symB
  split
  · rename_i hi
    have hj : i.toNat < l.length := by omega
    have e : l.getD i.toNat ⟨⟨#[]⟩, 0, 0, ⟨#[]⟩⟩ = l[i.toNat] := by simp [List.getD, hj]
    rw [e]
    exact h _ (List.getElem_mem hj)
  · show 1 ≤ _; omega
theorem showN_len {l : List Sym} (h : ∀ y ∈ l, y.name.size ≤ 1048576) {x : ByteArray × Int} {m : Fo} {k : Nat} (hx : x.1.size ≤ 1048576) (hm : (showF l true m).length ≤ k) : (showN l x m).length ≤ k + 1048578 := by
  unfold showN
  split
  · have := symB_len h x.2
    rw [List.length_append]
    split
    · simp only [List.length_nil]; omega
    · simp only [List.length_append, List.length_cons, List.length_nil]; omega
  · have : x.1.data.toList.length = x.1.size := rfl
    omega
theorem showF_len {l : List Sym} (h : ∀ y ∈ l, y.name.size ≤ 1048576) : ∀ (F : Fo) (f : Bool), SmF F → (showF l f F).length ≤ nodesF F * 1048579
  | .nil, _, _ => by simp [showF]
  | .node b o x m r, f, ⟨hx, hm, hr⟩ => by
    rw [showF_node]
    have h1 := showN_len (l := l) (x := x) (m := m) h hx (showF_len h m true hm)
    have h2 := showF_len h r false hr
    have h3 : (if f = true then ([] : List UInt8) else [44]).length ≤ 1 := by split <;> simp
    have h4 : nodesF (.node b o x m r) * 1048579 = nodesF m * 1048579 + nodesF r * 1048579 + 1048579 := by
      simp only [nodesF]; rw [Nat.add_mul, Nat.add_mul]
    simp only [List.length_append]
    omega
theorem show_short {l : List Sym} (h : ∀ y ∈ l, y.name.size ≤ 1048576) {x : ByteArray × Int} {m : Fo} (hx : x.1.size ≤ 1048576) (hm : SmF m) : (showN l x m).length ≤ (nodesF m + 1) * 1048579 := by
  have h1 := showN_len (l := l) (x := x) (m := m) h hx (showF_len h m true hm)
  have h2 : (nodesF m + 1) * 1048579 = nodesF m * 1048579 + 1048579 := Nat.succ_mul _ _
  omega
theorem binds_short {l : List Sym} (h : ∀ y ∈ l, y.name.size ≤ 1048576) : ∀ (bl : List Bn) (f : Bool), (∀ x ∈ bl, x.1.size ≤ 1048576 ∧ x.2.1.1.size ≤ 1048576 ∧ SmF x.2.2) → (bindsS l f bl).length ≤ totB bl * 1048590
  | [], _, _ => by simp [bindsS]
  | x :: r, f, hb => by
    have h1 := hb x (by simp)
    have h2 := show_short (l := l) h h1.2.1 h1.2.2
    have h3 := binds_short h r false (fun y hy => hb y (by simp [hy]))
    have h4 : (if f = true then ([] : List UInt8) else [44, 32]).length ≤ 2 := by split <;> simp
    have h5 : x.1.data.toList.length = x.1.size := rfl
    have h6 : totB (x :: r) * 1048590 = (nodesF x.2.2 + 1) * 1048590 + 1048590 + totB r * 1048590 := by
      simp only [totB]
      rw [Nat.add_mul, show nodesF x.2.2 + 2 = nodesF x.2.2 + 1 + 1 from rfl, Nat.add_mul (nodesF x.2.2 + 1) 1]
    have h7 : (nodesF x.2.2 + 1) * 1048579 ≤ (nodesF x.2.2 + 1) * 1048590 := Nat.mul_le_mul_left _ (by decide)
    show ((if f = true then ([] : List UInt8) else [44, 32]) ++ (x.1.data.toList ++ [32, 45, 62, 32] ++ showN l x.2.1 x.2.2) ++ bindsS l false r).length ≤ _
    simp only [List.length_append, List.length_cons, List.length_nil]
    omega
/-- A signature, two terms, binds. -/
def allC (S : Option Addr) (n cap : Nat) (A B : Tn) (a b : Option Addr) (c d : Nat) (P : Option Addr) (m pc : Nat) : Array Value :=
  #[.slice S n cap, .string A.1.1, .int .i64 A.1.2, .slice a (lenF A.2) c, .string B.1.1, .int .i64 B.1.2, .slice b (lenF B.2) d, .slice P m pc]
structure AllAt (w : World) (S : Option Addr) (n : Nat) (l : List Sym) (A B : Tn) (a b : Option Addr) (c d : Nat) (P : Option Addr) (m : Nat) (bl : List Bn) : Prop where
  sig : SigAt w S n l
  one : TmAt w A.1 a c A.2
  two : TmAt w B.1 b d B.2
  bs : BindsAt w P m bl
/-- Their texts are of bounded length. -/
structure AllSm (l : List Sym) (A B : Tn) (bl : List Bn) : Prop where
  one : (showN l A.1 A.2).length ≤ 70368744177664
  two : (eqS l A B).length ≤ 140737488355328
  bs : (bindsS l true bl).length ≤ 140737488355328
  few : nodesF A.2 + nodesF B.2 ≤ 1048576
set_option maxRecDepth 100000 in
theorem all_open {H : Type} {enc : TypeId × Value → H} {W : World} {r : Reach} {b0 : Nat} {v : Value} {dd : DataW H} {ps : List MemPlace} (hv : Value.okWide Try.prog W r b0 43 v)
    (h : DataW.Trod enc Try.prog W 0 (fun _ => true) true 43 v dd ps) (hz : Rows.uptoBulk dd ≤ 1048576) :
    ∃ (S : Option Addr) (n cap : Nat) (l : List Sym) (A B : Tn) (a b : Option Addr) (c d : Nat) (P : Option Addr) (m pc : Nat) (bl : List Bn), v = .agg (allC S n cap A B a b c d P m pc) ∧ AllAt W S n l A B a b c d P m bl ∧ AllSm l A B bl := by
  obtain ⟨cs, rfl, hsz⟩ := okWide_struct Try.underlying43 hv
  obtain ⟨fuel, hf⟩ := h
  obtain ⟨xs, n, hfuel, hx, hl, hlen, hff⟩ := DataW.trod_struct Try.underlying43 hf
  rw [Try.cells43] at hsz
  simp only [Value.cells] at hff hl
  obtain ⟨cl⟩ := cs
  match xs, hlen, cl, hsz with
  | [y0, y1, y2, y3], _, [v0, v1, v2, v3, v4, v5, v6, v7], _ =>
    have g0 := hff 0 _ rfl
    have g1 := hff 1 _ rfl
    have g2 := hff 2 _ rfl
    have g3 := hff 3 _ rfl
    simp [Try.cells23, Try.cells28, Try.cells38] at g0 g1 g2 g3
    have hd : Rows.uptoBulk y0.1 + Rows.uptoBulk y1.1 + Rows.uptoBulk y2.1 + Rows.uptoBulk y3.1 + 1 ≤ 1048576 := by
      have := congrArg Prod.fst hx
      simp only at this
      rw [this] at hz
      simp only [List.map_cons, List.map_nil, Rows.uptoBulk, Rows.uptoBulkAll] at hz
      omega
    obtain ⟨S, len, cap, l, rfl, hS, hSm⟩ := sig_sm g0 (by omega)
    obtain ⟨pa, a, c, la, ea, hA, na, sa, ta⟩ := term_sm n _ _ g1 (by omega)
    obtain ⟨pb, b, d, lb, eb, hB, nb, sb, tb⟩ := term_sm n _ _ g2 (by omega)
    obtain ⟨P, m, pc, bl, rfl, hP, nP, sP⟩ := binds_open g3 (by omega)
    simp at ea eb
    obtain ⟨rfl, rfl, rfl⟩ := ea
    obtain ⟨rfl, rfl, rfl⟩ := eb
    have e1 := show_short hSm sa ta
    have e2 := show_short hSm sb tb
    have e3 := binds_short hSm bl true sP
    have k1 : (nodesF la + 1) * 1048579 ≤ 1048576 * 1048579 := Nat.mul_le_mul_right _ (by omega)
    have k2 : (nodesF lb + 1) * 1048579 ≤ 1048576 * 1048579 := Nat.mul_le_mul_right _ (by omega)
    have k3 : totB bl * 1048590 ≤ 1048576 * 1048590 := Nat.mul_le_mul_right _ nP
    refine ⟨S, len, cap, l, (pa, la), (pb, lb), a, b, c, d, P, m, pc, bl, rfl, ⟨hS, hA, hB, hP⟩, ⟨by show (showN l pa la).length ≤ _; omega, ?_, by omega, by show nodesF la + nodesF lb ≤ _; omega⟩⟩
    show (showN l pa la ++ [32, 61, 32] ++ showN l pb lb).length ≤ _
    simp only [List.length_append, List.length_cons, List.length_nil]
    omega
end Go.Proofs.Ytkcbhbkldcebiaa

namespace Go.Proofs.Ytkcbhbkldcebiaa
open Go.RowKit Go.Deep

theorem thenC_zero {a b : Int} (h : thenC a b = 0) : a = 0 ∧ b = 0 := by
  unfold thenC at h
  split at h
  · rename_i h0; exact ⟨by simpa using h0, h⟩
  · rename_i h0; exact absurd h (by simpa using h0)
theorem node_in {l : List Sym} {x : ByteArray × Int} {n : Nat} (h : nodeErr l x n = 0) : InX l x := by
  intro hx
  have hn : noName x.1 = true := by
    unfold noName
    exact empty_of hx
  unfold nodeErr at h
  rw [if_neg (by simp [hn])] at h
  split at h
  · rename_i h0
    cases hs : l[x.2.toNat]? with
    | none => rw [hs] at h; dsimp only at h; exact absurd h (by decide)
    | some s =>
      have := (List.getElem?_eq_some_iff.1 hs).1
      omega
  · exact absurd h (by decide)
theorem err_in {l : List Sym} : ∀ {m : Fo}, errF l m = 0 → InF l m
  | .nil, _ => trivial
  | .node _ _ x m r, h => by
    obtain ⟨h1, h2⟩ := thenC_zero h
    obtain ⟨h3, h4⟩ := thenC_zero h1
    exact ⟨node_in h3, err_in h4, err_in h2⟩
theorem right_in {l : List Sym} {t : Tn} (h : rightB l t = true) : InX l t.1 ∧ InF l t.2 := by
  unfold rightB at h
  have h1 : errT l t.1 t.2 = 0 := by
    have := (Bool.and_eq_true _ _ ▸ h : _ ∧ _).2
    simpa using this
  obtain ⟨h2, h3⟩ := thenC_zero h1
  exact ⟨node_in h2, err_in h3⟩
/-- The argument's box as the walk goes. -/
structure StA (w : World) (cs : Array Value) (W : World) : Prop where
  low : Below w.heap.size w W
  lt : w.heap.size < W.heap.size
  box : W.heap[w.heap.size]? = some (.cells cs 43 (0, 0))
theorem StA.below {w W W' : World} {cs : Array Value} (h : StA w cs W) (hb : Below W.heap.size W W') : StA w cs W' :=
  ⟨h.low.trans (hb.mono h.low.size), Nat.lt_of_lt_of_le h.lt hb.size, (hb.block _ h.lt).trans h.box⟩
theorem StA.alloc {w W : World} {cs : Array Value} (h : StA w cs W) (o : Obj) : StA w cs (W.alloc o) := h.below (alloc_below0 W o)
/-- A lent term's box. -/
structure LnA (p : Nat) (W : World) (x : ByteArray × Int) (a : Option Addr) (c : Nat) (m : Fo) : Prop where
  box : XBox W p x (.slice a (lenF m) c)
  own : OwnTm true (fun _ => True) W x a c m
theorem LnA.below {p : Nat} {W W' : World} {x : ByteArray × Int} {a : Option Addr} {c : Nat} {m : Fo} (h : LnA p W x a c m) (hb : Below W.heap.size W W') : LnA p W' x a c m := ⟨h.box.below hb, h.own.below hb⟩

set_option maxRecDepth 100000 in
set_option maxHeartbeats 8000000 in
theorem textShows_walk (S : Option Addr) (n cap : Nat) (l : List Sym) (A B : Tn) (a b : Option Addr) (c d : Nat) (P : Option Addr) (m pc : Nat) (bl : List Bn) (w : World) (hT : AllAt w S n l A B a b c d P m bl) (hZ : AllSm l A B bl) :
    Calls Try.prog 6 #[.agg (allC S n cap A B a b c d P m pc)] w fun e w' => e = .returned (.bool true) ∧ Below w.heap.size w w' := by
  have hml := hT.bs.len
  subst hml
  have hsm := hT.bs.small
  unfold maxLen at hsm
  have HT := hid hT; have HZ := hid hZ
  unfold allC
  have I0 : Hid (StA w #[.slice S n cap, .string A.1.1, .int .i64 A.1.2, .slice a (lenF A.2) c, .string B.1.1, .int .i64 B.1.2, .slice b (lenF B.2) d, .slice P bl.length pc] (w.alloc (.cells #[.slice S n cap, .string A.1.1, .int .i64 A.1.2, .slice a (lenF A.2) c, .string B.1.1, .int .i64 B.1.2, .slice b (lenF B.2) d, .slice P bl.length pc] 43))) :=
    hid ⟨alloc_below0 w _, by rw [World.size_alloc]; omega, World.alloc_heap_new w _⟩
  clear hT hZ
  go_enter Try.func6, Try.ntmps6
  go_wp2_with fail
  generalize w.alloc (.cells #[.slice S n cap, .string A.1.1, .int .i64 A.1.2, .slice a (lenF A.2) c, .string B.1.1, .int .i64 B.1.2, .slice b (lenF B.2) d, .slice P bl.length pc] 43) = W0 at I0 ⊢
  obtain ⟨cs, hcs⟩ : ∃ cs : Array Value, cs = #[.slice S n cap, .string A.1.1, .int .i64 A.1.2, .slice a (lenF A.2) c, .string B.1.1, .int .i64 B.1.2, .slice b (lenF B.2) d, .slice P bl.length pc] := ⟨_, rfl⟩
  have HC : Hid (∀ W, StA w cs W → (W.cell? ⟨w.heap.size, 0, none⟩ = some (.slice S n cap)) ∧ (W.cell? ⟨w.heap.size, 1, none⟩ = some (.string A.1.1) ∧ W.cell? ⟨w.heap.size, 2, none⟩ = some (.int .i64 A.1.2) ∧ W.cell? ⟨w.heap.size, 3, none⟩ = some (.slice a (lenF A.2) c)) ∧ (W.cell? ⟨w.heap.size, 4, none⟩ = some (.string B.1.1) ∧ W.cell? ⟨w.heap.size, 5, none⟩ = some (.int .i64 B.1.2) ∧ W.cell? ⟨w.heap.size, 6, none⟩ = some (.slice b (lenF B.2) d)) ∧ W.cell? ⟨w.heap.size, 7, none⟩ = some (.slice P bl.length pc)) := hid fun W h => by
    have := h.box
    rw [hcs] at this
    exact ⟨cell_box this rfl, ⟨cell_box this rfl, cell_box this rfl, cell_box this rfl⟩, ⟨cell_box this rfl, cell_box this rfl, cell_box this rfl⟩, cell_box this rfl⟩
  rw [← hcs] at I0
  clear hcs
  refine (head_any W0).mono ?_
  rintro e w1 ⟨rfl, hb1⟩
  have I1 := hid (I0.out.below hb1)
  clear hb1 I0
  obtain ⟨i0, ⟨i1, i2, i3⟩, ⟨i4, i5, i6⟩, i7⟩ := HC.out w1 I1.out
  go_wp2_with fail
  refine (lent_any A.1 A.2 a c w1 (HT.out.one.below I1.out.low)).mono ?_
  rintro e w2 ⟨aa, ca, rfl, ho2, hb2⟩
  have B2 := alloc_below0 w2 (.cells #[.string A.1.1, .int .i64 A.1.2, .slice aa (lenF A.2) ca] 28)
  have X2 : XBox (w2.alloc (.cells #[.string A.1.1, .int .i64 A.1.2, .slice aa (lenF A.2) ca] 28)) w2.heap.size A.1 (.slice aa (lenF A.2) ca) := World.alloc_heap_new w2 _
  have M2 : Hid (LnA w2.heap.size (w2.alloc (.cells #[.string A.1.1, .int .i64 A.1.2, .slice aa (lenF A.2) ca] 28)) A.1 aa ca A.2) := hid ⟨X2, OwnTm.mono (fun _ _ _ => trivial) (ho2.below B2)⟩
  have I2 := hid ((I1.out.below hb2).below B2)
  clear ho2 hb2 B2 X2 I1 i0 i1 i2 i3 i4 i5 i6 i7
  obtain ⟨i0, ⟨i1, i2, i3⟩, ⟨i4, i5, i6⟩, i7⟩ := HC.out _ I2.out
  go_wp2_with fail
  generalize w2.alloc (.cells #[.string A.1.1, .int .i64 A.1.2, .slice aa (lenF A.2) ca] 28) = W2 at M2 I2 i0 i1 i2 i3 i4 i5 i6 i7 ⊢
  generalize w2.heap.size = pa at M2 ⊢
  refine (lent_any B.1 B.2 b d W2 (HT.out.two.below I2.out.low)).mono ?_
  rintro e w3 ⟨ab, cb, rfl, ho3, hb3⟩
  have B3 := alloc_below0 w3 (.cells #[.string B.1.1, .int .i64 B.1.2, .slice ab (lenF B.2) cb] 28)
  have X3 : XBox (w3.alloc (.cells #[.string B.1.1, .int .i64 B.1.2, .slice ab (lenF B.2) cb] 28)) w3.heap.size B.1 (.slice ab (lenF B.2) cb) := World.alloc_heap_new w3 _
  have N3 : Hid (LnA w3.heap.size (w3.alloc (.cells #[.string B.1.1, .int .i64 B.1.2, .slice ab (lenF B.2) cb] 28)) B.1 ab cb B.2) := hid ⟨X3, OwnTm.mono (fun _ _ _ => trivial) (ho3.below B3)⟩
  have I3 := hid ((I2.out.below hb3).below B3)
  have M3 := hid ((M2.out.below hb3).below B3)
  clear ho3 hb3 B3 X3 I2 M2 i0 i1 i2 i3 i4 i5 i6 i7
  obtain ⟨i0, _, _, i7⟩ := HC.out _ I3.out
  have m0 := M3.out.box.c0; have m1 := M3.out.box.c1; have m2 := M3.out.box.c2
  go_wp2_with fail
  generalize w3.alloc (.cells #[.string B.1.1, .int .i64 B.1.2, .slice ab (lenF B.2) cb] 28) = W3 at M3 N3 I3 i0 i7 m0 m1 m2 ⊢
  generalize w3.heap.size = pb at N3 ⊢
  refine (show_any S n cap l A.1 A.2 aa ca W3 (HT.out.sig.below I3.out.low) M3.out.own.tm (Nat.le_trans HZ.out.one (by decide))).mono ?_
  rintro e w4 ⟨rfl, hb4⟩
  have D4 : Hid (Below W3.heap.size W3 w4) := hid hb4
  clear hb4 i0 i7 m0 m1 m2
  obtain ⟨i0, _, _, i7⟩ := HC.out w4 (I3.out.below D4.out)
  have m0 := (M3.out.below D4.out).box.c0; have m1 := (M3.out.below D4.out).box.c1; have m2 := (M3.out.below D4.out).box.c2
  have n0 := (N3.out.below D4.out).box.c0; have n1 := (N3.out.below D4.out).box.c1; have n2 := (N3.out.below D4.out).box.c2
  go_wp2_with fail
  refine (showE_any S n cap l A B aa ab ca cb w4 (HT.out.sig.below (I3.out.below D4.out).low) (M3.out.below D4.out).own.tm (N3.out.below D4.out).own.tm HZ.out.two).mono ?_
  rintro e w5 ⟨rfl, hb5⟩
  have D5 : Hid (Below W3.heap.size W3 w5) := hid (D4.out.trans (hb5.mono D4.out.size))
  clear hb5 i0 i7 m0 m1 m2 n0 n1 n2 D4
  obtain ⟨i0, _, _, i7⟩ := HC.out w5 (I3.out.below D5.out)
  go_wp2_with fail
  refine (showB_any S n cap l P bl.length pc bl w5 (HT.out.sig.below (I3.out.below D5.out).low) (HT.out.bs.below (I3.out.below D5.out).low) HZ.out.bs).mono ?_
  rintro e w6 ⟨rfl, hb6⟩
  have D6 : Hid (Below W3.heap.size W3 w6) := hid (D5.out.trans (hb6.mono D5.out.size))
  clear hb6 i0 i7 D5
  obtain ⟨_, ⟨i1, i2, i3⟩, _, _⟩ := HC.out w6 (I3.out.below D6.out)
  have m0 := (M3.out.below D6.out).box.c0; have m1 := (M3.out.below D6.out).box.c1; have m2 := (M3.out.below D6.out).box.c2
  go_wp2_with fail
  refine (kept_any _ A.1 A.2 aa a ca c w6 (M3.out.below D6.out).own (HT.out.one.below (I3.out.below D6.out).low)).mono ?_
  rintro e w7 ⟨rfl, hb7⟩
  have D7 : Hid (Below W3.heap.size W3 w7) := hid (D6.out.trans (hb7.mono D6.out.size))
  clear hb7 i1 i2 i3 m0 m1 m2 D6
  obtain ⟨_, _, ⟨i4, i5, i6⟩, _⟩ := HC.out w7 (I3.out.below D7.out)
  have n0 := (N3.out.below D7.out).box.c0; have n1 := (N3.out.below D7.out).box.c1; have n2 := (N3.out.below D7.out).box.c2
  go_wp2_with fail
  refine (kept_any _ B.1 B.2 ab b cb d w7 (N3.out.below D7.out).own (HT.out.two.below (I3.out.below D7.out).low)).mono ?_
  rintro e w8 ⟨rfl, hb8⟩
  have I8 := hid ((I3.out.below D7.out).below hb8)
  clear hb8 i4 i5 i6 n0 n1 n2 D7 I3 M3 N3
  obtain ⟨i0, ⟨i1, i2, i3⟩, _, _⟩ := HC.out w8 I8.out
  go_wp2_with fail
  refine (rright_any S n cap l A a c w8 (HT.out.sig.below I8.out.low) (HT.out.one.below I8.out.low)).mono ?_
  rintro e w9 ⟨rfl, hb9⟩
  have I9 := hid (I8.out.below hb9)
  clear hb9 i0 i1 i2 i3 I8
  obtain ⟨i0, _, ⟨i4, i5, i6⟩, _⟩ := HC.out w9 I9.out
  go_wp2_with fail
  refine (rright_any S n cap l B b d w9 (HT.out.sig.below I9.out.low) (HT.out.two.below I9.out.low)).mono ?_
  rintro e wa ⟨rfl, hba⟩
  have Ia := hid (I9.out.below hba)
  clear hba i0 i4 i5 i6 I9
  obtain ⟨ra, hra⟩ : ∃ ra, rightB l A = ra := ⟨_, rfl⟩
  obtain ⟨rb, hrb⟩ : ∃ rb, rightB l B = rb := ⟨_, rfl⟩
  rw [hra, hrb]
  have RA := hid hra; have RB := hid hrb
  clear hra hrb
  cases ra with
  | false =>
    go_wp2
    go_ret
    exact ⟨rfl, Ia.out.low⟩
  | true =>
    cases rb with
    | false =>
      go_wp2
      go_ret
      exact ⟨rfl, Ia.out.low⟩
    | true =>
      obtain ⟨_, _, _, i7⟩ := HC.out wa Ia.out
      go_wp2_with fail
      go_loopw [13, 14] (fun iv _ wr => ∃ i : Nat, iv = .int .i64 i ∧ i ≤ bl.length ∧ StA w cs wr ∧ ∀ x ∈ bl.take i, rightB l x.2 = true) (fun iv _ _ => bl.length - (intOf iv).toNat)
      case atStart => exact ⟨0, rfl, Nat.zero_le _, Ia.out, fun x hx => by simp at hx⟩
      case round =>
        obtain ⟨i, rfl, hi, hst, hrt⟩ := hrel
        have Ir := hid hst; have HR := hid hrt
        clear hst hrt i7
        by_cases hlt : i < bl.length
        · obtain ⟨bb, off, ta, tc, rfl, bd0⟩ := HT.out.bs.cells i hlt
          obtain ⟨x, hx⟩ : ∃ x, bl[i] = x := ⟨_, rfl⟩
          have htk := take_next hlt
          rw [hx] at bd0 htk
          have bd := bd0.below Ir.out.low
          obtain ⟨rv, hrv⟩ : ∃ rv, rightB l x.2 = rv := ⟨_, rfl⟩
          have HN : Hid (∀ W, Below wr.heap.size wr W → Calls Try.prog 23 #[.slice S n cap, .agg #[.string x.2.1.1, .int .i64 x.2.1.2, .slice ta (lenF x.2.2) tc]] W fun e w' => e = .returned (.bool rv) ∧ Below W.heap.size W w') := hid fun W hW => by
            rw [← hrv]
            exact rright_any S n cap l x.2 ta tc W ((HT.out.sig.below Ir.out.low).below hW) (bd.tm.below hW)
          have HRV := hid hrv; have HTK := hid htk
          obtain ⟨j0, _, _, j7⟩ := HC.out wr Ir.out
          have hne := later_some wr
          have g0 := later_cell j0; have g7 := later_cell j7
          have e1 := later_cell bd.name; have e2 := later_cell bd.sym; have e3 := later_cell bd.list
          clear bd bd0 hx hrv htk
          go_wp2_with fail
          refine wp_region_later (by kernel_rfl) (by kernel_rfl) ?_
          repeat (go_big_quiet_step (first | (go_at_call 23; with_reducible refine calls_later (HN.out _ ?_); exact Later.below _) | fail))
          refine wpQuiet_nil ?_
          intro _ hw'
          obtain ⟨b3, hw''⟩ := hw'
          subst hw''
          have I3 := hid (Ir.out.below b3.below)
          clear g0 g7 e1 e2 e3 hne j0 j7
          cases rv with
          | false =>
            go_wp2
            go_ret
            exact ⟨rfl, I3.out.low⟩
          | true =>
            go_wp2
            go_roundw
            case rel =>
              refine ⟨i + 1, by go_num, by omega, I3.out, fun y hy => ?_⟩
              rw [HTK.out] at hy
              rcases List.mem_append.1 hy with hy | hy
              · exact HR.out y hy
              · rw [List.mem_singleton.1 hy]; exact HRV.out
            case measure => simp [intOf]; omega
        · have hil : i = bl.length := by omega
          have HIN : Hid (∀ x ∈ bl, InX l x.2.1 ∧ InF l x.2.2) := hid fun x hx => right_in (HR.out x (by rw [hil, List.take_length]; exact hx))
          clear hil
          obtain ⟨i0, ⟨i1, i2, i3⟩, _, j7⟩ := HC.out wr Ir.out
          go_wp2_with fail
          refine (rshow_any S n cap l A.1 A.2 a c wr (right_in RA.out).1 (right_in RA.out).2 (HT.out.sig.below Ir.out.low) (HT.out.one.below Ir.out.low) (Nat.le_trans HZ.out.one (by decide))).mono ?_
          rintro e wb ⟨rfl, hbb⟩
          have Ib := hid (Ir.out.below hbb)
          clear hbb i0 i1 i2 i3 j7
          obtain ⟨i0, ⟨i1, i2, i3⟩, ⟨i4, i5, i6⟩, j7⟩ := HC.out wb Ib.out
          go_wp2_with fail
          refine (rshowE_any S n cap l A B a b c d wb (right_in RA.out) (right_in RB.out) (HT.out.sig.below Ib.out.low) (HT.out.one.below Ib.out.low) (HT.out.two.below Ib.out.low) HZ.out.two).mono ?_
          rintro e wc ⟨rfl, hbc⟩
          have Ic := hid (Ib.out.below hbc)
          clear hbc i0 i1 i2 i3 i4 i5 i6 j7
          obtain ⟨i0, _, _, j7⟩ := HC.out wc Ic.out
          go_wp2_with fail
          refine (rshowB_any S n cap l P bl.length pc bl wc (HT.out.sig.below Ic.out.low) (HT.out.bs.below Ic.out.low) HIN.out HZ.out.bs).mono ?_
          rintro e wd ⟨rfl, hbd⟩
          have Id := hid (Ic.out.below hbd)
          clear hbd i0 j7
          go_wp2
          go_ret
          exact ⟨rfl, Id.out.low⟩
end Go.Proofs.Ytkcbhbkldcebiaa

namespace Go.Proofs.Ytkcbhbkldcebiaa
open Go.ChangeShapes Go.WideShapes Go.ChangeAt Go.RowKit Go.Deep

set_option maxRecDepth 100000 in
theorem textShows_contract (H : Type) (enc : TypeId × Value → H) (W : World) (base : Nat) (args : Array Value) (ds gs : List (DataW H)) (before : List MemPlace)
    (hval : ∀ (j : Nat) t v, Try.f6.params[j]? = some t → args[j]? = some v → Value.okWide Try.prog W .any base t v)
    (hW : DataW.Whole enc Try.prog Try.f6.params.toList Rows.textShowsSpec.vars false W args.toList ds gs before) (hk : Rows.uptoSmall H (ds ++ gs) = true) :
    Calls Try.prog 6 args W fun e W' => ∃ v, e = .returned v ∧ Rows.textShowsSpec.post enc Try.prog Try.f6 false true false false W args v W' := by
  have hW' := hW
  obtain ⟨p, q, hA0, hV, rfl, hfz, hnd⟩ := hW
  have hA : DataW.TrodAll enc Try.prog W 0 (fun _ => true) true Try.f6.params.toList args.toList ds p := hA0
  rw [Try.params6] at hA hval
  obtain ⟨v0, vs0, d0, ds0, p0, q0, hargs, rfl, rfl, h0, r0⟩ := trodAll_cons hA
  obtain ⟨rfl, rfl, rfl⟩ := trodAll_nil r0
  obtain rfl : args = #[v0] := by cases args; simp_all
  obtain ⟨rfl, rfl⟩ := trodVars_none hV
  have lt0 : ∀ x ∈ p0, x.block < W.heap.size := by obtain ⟨m, hm⟩ := h0; exact DataW.trod_lt m _ _ _ hm
  have hbulk : Rows.uptoBulk d0 ≤ 1048576 := by
    have h : Rows.uptoBulkAll ([d0] ++ []) ≤ 1048576 := of_decide_eq_true hk
    simp only [List.append_nil, Rows.uptoBulkAll] at h
    omega
  obtain ⟨S, n, cap, l, A, B, a, b, c, d, P, m, pc, bl, rfl, hT, hs⟩ := all_open (hval 0 43 v0 rfl rfl) h0 hbulk
  clear hA0
  refine (textShows_walk S n cap l A B a b c d P m pc bl W hT hs).mono fun e W' ⟨he, bel⟩ => ?_
  subst he
  exact ⟨_, rfl, _, _, _, [], _, [], hW', trodAll_mk1 (shut_bool Try.underlying4 _), (trodAll_cons_mk (Below.trod laidOut (by kernel_rfl) (of_decide_eq_true (by kernel_rfl)) h0 bel lt0) trodAll_mk0), rfl, bel.frame _, fun h => by cases h⟩

set_option maxRecDepth 100000 in
theorem textShows_lifted (os : Os) (started : os.Started) (H : Type) (enc : TypeId × Value → H) (F : Stop.Interp) :
    ReturnsInHanded {} Try.checked os 6 .any ((Rows.OpenSpec.upto Rows.textShowsSpec).pre6 enc Try.prog Try.f6 Rows.textShowsUptoRow.domain false) (((Rows.OpenSpec.upto Rows.textShowsSpec).at F).post enc Try.prog Try.f6 false true false false) := by
  refine returnsInHanded_of_cond (C := Try.checked) (s := Rows.OpenSpec.upto Rows.textShowsSpec) (k := Rows.uptoSmall) rfl own started (by kernel_rfl) Try.func6
    (OpenSpec.witness (enc := enc) (C := Try.checked) (s := Rows.OpenSpec.upto Rows.textShowsSpec) (k := Rows.uptoSmall) rfl false ⟨#[], #[.agg #[.slice none 0 0, .string .empty, .int .i64 0, .slice none 0 0, .string .empty, .int .i64 0, .slice none 0 0, .slice none 0 0]], []⟩ 8 (by kernel_rfl) (by kernel_rfl) (by kernel_rfl)
      (x := ([.agg [.nil, .agg [.lit (.string []), .lit (.int .i64 0), .nil], .agg [.lit (.string []), .lit (.int .i64 0), .nil], .nil]], [], [])) (by kernel_rfl) rfl (by kernel_rfl)) ?_
  intro W base args ds gs before hval hW _ hk _
  exact textShows_contract H enc W base args ds gs before hval hW hk

set_option maxRecDepth 100000 in
theorem textShows_holds : Rows.TextShowsUptoSaid :=
  OpenClaim.holds_of_cond 6 Try.f6 rfl rfl rfl rfl rfl rfl rfl ⟨rfl, rfl, rfl, rfl, rfl⟩ rfl rfl rfl rfl rfl (by kernel_rfl) Try.func6 (by kernel_rfl)
    (of_decide_eq_true (by kernel_rfl)) (by unfold Func.isWrapper; first | (rw [if_pos (by decide +kernel)]; kernel_rfl) | (rw [if_neg (by decide +kernel)]; exact ⟨rfl, rfl⟩))
    (fun os started H enc _ F => textShows_lifted os started H enc F)
end Go.Proofs.Ytkcbhbkldcebiaa
