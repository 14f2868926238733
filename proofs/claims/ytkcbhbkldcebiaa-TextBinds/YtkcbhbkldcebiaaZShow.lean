/- What write and Show make of a term: its text. -/
import Derived.Test.YtkcbhbkldcebiaaZRead
import Derived.Test.YtkcbhbkldcebiaaZBuild
namespace Go.Proofs.Ytkcbhbkldcebiaa
open Go.RowKit Go.Deep

/-- A symbol's name, as the program writes it. -/
def symB (l : List Sym) (i : Int) : ByteArray := if 0 ≤ i ∧ i < l.length then (l.getD i.toNat ⟨⟨#[]⟩, 0, 0, ⟨#[]⟩⟩).name else ⟨#[63]⟩
/-- The text of a list of terms, with commas between; of the first one no comma stands ahead. -/
def showF (l : List Sym) : Bool → Fo → List UInt8
  | _, .nil => []
  | f, .node _ _ x m r => (if f then [] else [44]) ++ (if x.1.size = 0 then (symB l x.2).data.toList ++ (match m with | .nil => [] | m => [40] ++ showF l true m ++ [41]) else x.1.data.toList) ++ showF l false r
/-- The text of a term. -/
def showN (l : List Sym) (x : ByteArray × Int) (m : Fo) : List UInt8 := if x.1.size = 0 then (symB l x.2).data.toList ++ (if lenF m = 0 then [] else [40] ++ showF l true m ++ [41]) else x.1.data.toList
def showTs (l : List Sym) : Bool → List Tn → List UInt8
  | _, [] => []
  | f, t :: ts => (if f then [] else [44]) ++ showN l t.1 t.2 ++ showTs l false ts
theorem showF_node (l : List Sym) (f : Bool) (b o : Nat) (x : ByteArray × Int) (m r : Fo) : showF l f (.node b o x m r) = (if f then [] else [44]) ++ showN l x m ++ showF l false r := by
  cases m with
  | nil => rfl
  | node b' o' x' m' r' =>
    show _ = (if f then [] else [44]) ++ (if x.1.size = 0 then (symB l x.2).data.toList ++ (if lenF (.node b' o' x' m' r') = 0 then [] else [40] ++ showF l true (.node b' o' x' m' r') ++ [41]) else x.1.data.toList) ++ showF l false r
    rw [if_neg (show ¬ lenF (.node b' o' x' m' r') = 0 by simp [lenF])]
    rfl
theorem showF_ts (l : List Sym) : ∀ (f : Bool) (m : Fo), showF l f m = showTs l f (kidsL m)
  | _, .nil => rfl
  | f, .node b o x m r => by
    rw [showF_node, showF_ts l false r]
    rfl
theorem showTs_snoc (l : List Sym) : ∀ (f : Bool) (ts : List Tn) (t : Tn), showTs l f (ts ++ [t]) = showTs l f ts ++ ((if f && ts.isEmpty then [] else [44]) ++ showN l t.1 t.2)
  | f, [], t => by cases f <;> simp [showTs]
  | f, s :: ts, t => by
    show (if f then [] else [44]) ++ showN l s.1 s.2 ++ showTs l false (ts ++ [t]) = (if f then [] else [44]) ++ showN l s.1 s.2 ++ showTs l false ts ++ _
    rw [showTs_snoc l false ts t]
    simp [List.append_assoc]
theorem showTs_len (l : List Sym) (f : Bool) : ∀ (ts us : List Tn), (showTs l f ts).length ≤ (showTs l f (ts ++ us)).length
  | ts, [] => by simp
  | ts, u :: us => by
    have h1 := showTs_len l f (ts ++ [u]) us
    rw [List.append_assoc, List.singleton_append, showTs_snoc] at h1
    simp only [List.length_append] at h1 ⊢
    omega
theorem showTs_take (l : List Sym) (f : Bool) (ts : List Tn) (j : Nat) : (showTs l f (ts.take j)).length ≤ (showTs l f ts).length := by
  have := showTs_len l f (ts.take j) (ts.drop j)
  rwa [List.take_append_drop] at this
theorem isB_drew {B b : Nat} {bs : List Value} {w : World} (h : Lib.IsBuilderF 81 5 B b bs w) : Lib.IsBuilderF 81 5 B b bs w.drew := h.elim (fun h => .inl h.drew) (fun h => .inr h.drew)
theorem isB_alloc {B b : Nat} {bs : List Value} {w : World} (h : Lib.IsBuilderF 81 5 B b bs w) (o : Obj) : Lib.IsBuilderF 81 5 B b bs (w.alloc o) := h.elim (fun h => .inl (h.alloc o)) (fun h => .inr (h.alloc o))
theorem isB_lt {B b : Nat} {bs : List Value} {w : World} (h : Lib.IsBuilderF 81 5 B b bs w) : b < w.heap.size := h.elim (fun h => h.lt) (fun h => h.lt)
theorem XBox.others {W W' : World} {B b : Nat} {x : ByteArray × Int} {v : Value} (h : XBox W B x v) (ho : Lib.OthersKept 5 (some b) W W') (hne : B ≠ b) : XBox W' B x v :=
  ho B _ h (fun e => hne (by cases e; rfl)) (fun c fz e => by cases e)

set_option maxRecDepth 100000 in
theorem nameOf_any (S : Option Addr) (n cap : Nat) (l : List Sym) (i : Int) (w : World) (hS : SigAt w S n l) :
    Calls Try.prog 66 #[.slice S n cap, .int .i64 i] w fun e w' => e = .returned (.string (symB l i)) ∧ w' = w := by
  obtain ⟨hl, hm, hcells, _⟩ := hS
  unfold maxLen at hm
  have HC := hid hcells
  clear hcells
  unfold symB
  by_cases hi : 0 ≤ i ∧ i < l.length
  · rw [if_pos hi]
    obtain ⟨j, rfl⟩ : ∃ j : Nat, i = j := ⟨i.toNat, by omega⟩
    have hj : j < l.length := by omega
    obtain ⟨b, off, rfl, hsym⟩ := HC.out j hj
    have c0 := hsym.name
    have e : (l.getD (j : Int).toNat ⟨⟨#[]⟩, 0, 0, ⟨#[]⟩⟩) = l[j] := by simp [List.getD, hj]
    rw [e]
    have h1 : ¬ (j : Int) < 0 := by omega
    have h2 : ¬ (n : Int) ≤ (j : Int) := by omega
    have h3 : (j : Int) < (n : Int) := by omega
    go_enter Try.func66, Try.ntmps66
    go_wp2
    go_ret
    exact ⟨rfl, rfl⟩
  · rw [if_neg hi]
    by_cases h0 : i < 0
    · go_enter Try.func66, Try.ntmps66
      go_wp2
      go_ret
      exact ⟨rfl, rfl⟩
    · have h1 : (n : Int) ≤ i := by omega
      go_enter Try.func66, Try.ntmps66
      go_wp2
      go_ret
      exact ⟨rfl, rfl⟩
theorem empty_of {s : ByteArray} (h : s.size = 0) : s.toList.isEmpty = true := by
  rw [ByteArray.toList_eq]
  exact List.isEmpty_iff.2 (List.eq_nil_of_length_eq_zero h)
theorem not_empty_of {s : ByteArray} (h : ¬ s.size = 0) : s.toList.isEmpty = false := by
  rw [ByteArray.toList_eq]
  cases he : s.data.toList with
  | nil => exact absurd (show s.data.toList.length = 0 by rw [he]; rfl) h
  | cons => rfl
/-- What write does. -/
def WriteOk (w0 : World) (b : Nat) (S : Option Addr) (n cap : Nat) (l : List Sym) (z : Nat) : Prop := ∀ (x : ByteArray × Int) (m : Fo) (a : Option Addr) (c : Nat) (acc : List UInt8) (w : World), nodesF m < z → TmAt w0 x a c m → Below w0.heap.size w0 w → Lib.IsBuilderF 81 5 b b (Lib.byteCells acc) w → acc.length + (showN l x m).length ≤ 140737488355328 →
  Calls Try.prog 45 #[.pointer (some ⟨b, 0, none⟩), .slice S n cap, .agg #[.string x.1, .int .i64 x.2, .slice a (lenF m) c]] w fun e w' => e = .returned (.tuple #[]) ∧ Lib.IsBuilderF 81 5 b b (Lib.byteCells (acc ++ showN l x m)) w' ∧ Below b w w' ∧ Lib.OthersKept 5 (some b) w w'
theorem byteCells_len (l : List UInt8) : (Lib.byteCells l).length = l.length := by simp [Lib.byteCells]
theorem byteCells_app (a b : List UInt8) : Lib.byteCells (a ++ b) = Lib.byteCells a ++ Lib.byteCells b := by simp [Lib.byteCells]
/-- WriteString and WriteByte, in bytes. -/
theorem str_any (b : Nat) (acc : List UInt8) (s : ByteArray) (w : World) (h : Lib.IsBuilderF 81 5 b b (Lib.byteCells acc) w) (hlen : acc.length + s.data.toList.length ≤ 140737488355328) :
    Calls Try.prog 47 #[.pointer (some ⟨b, 0, none⟩), .string s] w fun e w' => e = .returned (.tuple #[.int .i64 s.size, .nilIface]) ∧ Lib.IsBuilderF 81 5 b b (Lib.byteCells (acc ++ s.data.toList)) w' ∧ Below b w w' ∧ Lib.OthersKept 5 (some b) w w' := by
  refine (string_any b b _ s w h (by rw [byteCells_len]; have : s.data.toList.length = s.size := rfl; omega) (Nat.le_of_lt (isB_lt h))).mono ?_
  rintro e w' ⟨rfl, h1, h2, h3⟩
  exact ⟨rfl, by rw [byteCells_app, ← Lib.strCells_eq]; exact h1, h2, h3⟩
theorem chr_any (b : Nat) (acc : List UInt8) (c : UInt8) (w : World) (h : Lib.IsBuilderF 81 5 b b (Lib.byteCells acc) w) (hlen : acc.length + 1 ≤ 140737488355328) :
    Calls Try.prog 67 #[.pointer (some ⟨b, 0, none⟩), .int .u8 c.toNat] w fun e w' => e = .returned .nilIface ∧ Lib.IsBuilderF 81 5 b b (Lib.byteCells (acc ++ [c])) w' ∧ Below b w w' ∧ Lib.OthersKept 5 (some b) w w' := by
  refine (byte_any b b _ c.toNat w h (by rw [byteCells_len]; exact hlen) (Nat.le_of_lt (isB_lt h))).mono ?_
  rintro e w' ⟨rfl, h1, h2, h3⟩
  exact ⟨rfl, by rw [byteCells_app]; exact h1, h2, h3⟩

set_option maxRecDepth 100000 in
set_option maxHeartbeats 4000000 in
theorem write_of {w0 : World} {b : Nat} {S : Option Addr} {n cap : Nat} {l : List Sym} {z : Nat} (hb0 : w0.heap.size ≤ b) (hS : SigAt w0 S n l) (ih : ∀ y, y < z → WriteOk w0 b S n cap l y) : WriteOk w0 b S n cap l z := by
  intro x m a c acc w hz hT hL hB hlen
  have B0 := alloc_below0 w (.cells #[.string x.1, .int .i64 x.2, .slice a (lenF m) c] 28)
  have X0 : Hid (XBox (w.alloc (.cells #[.string x.1, .int .i64 x.2, .slice a (lenF m) c] 28)) w.heap.size x (.slice a (lenF m) c)) := World.alloc_heap_new w _
  have HB0 := hid (isB_alloc hB (.cells #[.string x.1, .int .i64 x.2, .slice a (lenF m) c] 28))
  have K0 : Hid (Lib.OthersKept 5 (some b) w (w.alloc (.cells #[.string x.1, .int .i64 x.2, .slice a (lenF m) c] 28))) := hid ((Lib.OthersKept.refl 5 (some b) w).alloc _)
  have hbw := isB_lt hB
  have L0 : Hid (Below b w (w.alloc (.cells #[.string x.1, .int .i64 x.2, .slice a (lenF m) c] 28))) := hid (B0.mono (Nat.le_of_lt hbw))
  have HT := hid hT; have HS := hid hS; have HL := hid hL; have IH := hid ih
  have x0 := X0.out.c0; have x1 := X0.out.c1; have x2 := X0.out.c2
  clear hT hS hL ih hB B0
  by_cases hx : x.1.size = 0
  · have hxe : x.1.toList.isEmpty = true := empty_of hx
    have hsn : showN l x m = (symB l x.2).data.toList ++ (if lenF m = 0 then [] else [40] ++ showF l true m ++ [41]) := by unfold showN; rw [if_pos hx]
    have HN : Hid (∀ W, Below w0.heap.size w0 W → Calls Try.prog 66 #[.slice S n cap, .int .i64 x.2] W fun e w' => e = .returned (.string (symB l x.2)) ∧ w' = W) := hid fun W hW => nameOf_any S n cap l x.2 W (HS.out.below hW)
    obtain ⟨nm, hnm⟩ : ∃ nm, symB l x.2 = nm := ⟨_, rfl⟩
    rw [hnm] at HN hsn
    obtain ⟨out, hout⟩ : ∃ out, showN l x m = out := ⟨_, rfl⟩
    rw [hout] at hlen hsn ⊢
    clear hnm hout
    have HSN := hid hsn
    have hlen1 : acc.length + nm.data.toList.length ≤ 140737488355328 := by rw [hsn, List.length_append] at hlen; omega
    clear hsn
    have LW : Hid (Below w0.heap.size w0 (w.alloc (.cells #[.string x.1, .int .i64 x.2, .slice a (lenF m) c] 28))) := hid (HL.out.alloc HL.out.size _)
    go_enter Try.func45, Try.ntmps45
    go_wp2_with fail
    generalize w.alloc (.cells #[.string x.1, .int .i64 x.2, .slice a (lenF m) c] 28) = V0 at X0 HB0 K0 L0 LW x0 x1 x2 ⊢
    refine (HN.out V0 LW.out).mono ?_
    rintro e w1 ⟨rfl, rfl⟩
    go_wp2_with fail
    refine (str_any b acc nm w1 HB0.out hlen1).mono ?_
    rintro e w2 ⟨rfl, hb2, hl2, hk2⟩
    have X2 := hid (X0.out.others hk2 (by omega))
    have HB2 := hid hb2
    have L2 := hid (L0.out.trans hl2)
    have K2 := hid (K0.out.trans hk2)
    have LW2 := hid (LW.out.trans (hl2.mono hb0))
    have y0 := X2.out.c0; have y1 := X2.out.c1; have y2 := X2.out.c2
    clear hb2 hl2 hk2 x0 x1 x2 HB0 L0 K0 LW X0
    by_cases hm0 : lenF m = 0
    · have hsn := HSN.out
      rw [if_pos hm0, List.append_nil] at hsn
      subst hsn
      go_wp2
      refine bodyPost_ret (results_none rfl _ _ _) rfl ?_
      exact ⟨rfl, HB2.out, L2.out, K2.out⟩
    · have hsn := HSN.out
      rw [if_neg hm0, showF_ts] at hsn
      have HOUT := hid hsn
      have HLN : Hid (acc.length + nm.data.toList.length + 2 + (showTs l true (kidsL m)).length ≤ 140737488355328) := by
        show acc.length + nm.data.toList.length + 2 + (showTs l true (kidsL m)).length ≤ 140737488355328
        rw [hsn] at hlen
        simp only [List.length_append, List.length_cons, List.length_nil] at hlen
        omega
      have hm0' : ((lenF m : Nat) : Int) ≠ 0 := by omega
      clear hsn hlen HSN hlen1
      go_wp2_with fail
      refine (chr_any b (acc ++ nm.data.toList) 40 w2 HB2.out (by have := HLN.out; rw [List.length_append]; omega)).mono ?_
      rintro e w3 ⟨rfl, hb3, hl3, hk3⟩
      have X3 := X2.out.others hk3 (by omega)
      have HB3 := hid hb3
      have L3 := hid (L2.out.trans hl3)
      have K3 := hid (K2.out.trans hk3)
      have v0 := X3.c0; have v1 := X3.c1; have v2 := X3.c2
      clear hb3 hl3 hk3 y0 y1 y2 HB2 L2 K2 LW2 X2 X3
      have hmx := HT.out.sizes.few
      go_wp2_with fail
      go_loopw [6, 7, 30] (fun _ _ ov wr => ∃ j : Nat, ov = .int .i64 j ∧ j ≤ lenF m ∧ Lib.IsBuilderF 81 5 b b (Lib.byteCells (acc ++ nm.data.toList ++ [40] ++ showTs l true ((kidsL m).take j))) wr ∧ Below b w wr ∧ Lib.OthersKept 5 (some b) w wr) (fun _ _ ov _ => lenF m - (intOf ov).toNat)
      case atStart => exact ⟨0, rfl, Nat.zero_le _, by simpa [showTs] using HB3.out, L3.out, K3.out⟩
      case round =>
        obtain ⟨j, rfl, hj, hbr, hlr, hkr⟩ := hrel
        have HBr := hid hbr; have HLr := hid hlr; have HKr := hid hkr
        clear hbr hlr hkr HB3 L3 K3 v0 v1 v2
        have LWr := hid (HL.out.trans (HLr.out.mono hb0))
        by_cases hlt : j < lenF m
        · obtain ⟨bb, oo, rfl, hkk⟩ := HT.out.args.get (by omega)
          obtain ⟨y, a1, c1, l1, kd⟩ := hkk.kid (k := j) hlt
          have kd' := kd.below LWr.out
          have p0 := kd'.name; have p1 := kd'.sym; have p2 := kd'.list
          have KD := hid kd
          have B1 := alloc_below0 wr (.cells #[.string y.1, .int .i64 y.2, .slice a1 (lenF l1) c1] 28)
          have Y1 : Hid (XBox (wr.alloc (.cells #[.string y.1, .int .i64 y.2, .slice a1 (lenF l1) c1] 28)) wr.heap.size y (.slice a1 (lenF l1) c1)) := World.alloc_heap_new wr _
          have HB1 := hid (isB_alloc HBr.out (.cells #[.string y.1, .int .i64 y.2, .slice a1 (lenF l1) c1] 28))
          have hbr := isB_lt HBr.out
          have L1 : Hid (Below b w (wr.alloc (.cells #[.string y.1, .int .i64 y.2, .slice a1 (lenF l1) c1] 28))) := hid (HLr.out.trans (B1.mono (Nat.le_of_lt hbr)))
          have K1 : Hid (Lib.OthersKept 5 (some b) w (wr.alloc (.cells #[.string y.1, .int .i64 y.2, .slice a1 (lenF l1) c1] 28))) := hid (HKr.out.alloc _)
          have hst : (kidsL m).take (j + 1) = (kidsL m).take j ++ [(y, l1)] := by obtain ⟨B', O', hs⟩ := kd.split; exact kids_take hs
          have hln : (showTs l true ((kidsL m).take (j + 1))).length ≤ (showTs l true (kidsL m)).length := showTs_take _ _ _ _
          have hsc := showTs_snoc l true ((kidsL m).take j) (y, l1)
          rw [← hst] at hsc
          have hless := kd.less
          have HSC := hid hsc
          have hln2 := hln
          rw [hsc] at hln2
          simp only [List.length_append] at hln2
          clear B1 kd kd' hkk hsc hst hln HBr HLr HKr LWr
          have z0 := Y1.out.c0; have z1 := Y1.out.c1; have z2 := Y1.out.c2
          by_cases hj0 : j = 0
          · subst hj0
            simp only [Nat.zero_mul, Nat.add_zero] at p0 p1 p2
            go_wp2_with fail
            generalize wr.alloc (.cells #[.string y.1, .int .i64 y.2, .slice a1 (lenF l1) c1] 28) = V1 at Y1 HB1 L1 K1 z0 z1 z2 ⊢
            have hi := IH.out (nodesF l1 + 1) (by omega) y l1 a1 c1 (acc ++ nm.data.toList ++ [40]) V1 (Nat.lt_succ_self _) KD.out.at_ (HL.out.trans (L1.out.mono hb0)) (by simpa [showTs] using HB1.out) (by have := HLN.out; simp only [List.length_append, List.length_cons, List.length_nil]; omega)
            refine hi.mono ?_
            rintro e w5 ⟨rfl, hb5, hl5, hk5⟩
            have HB5 := hid hb5; have L5 := hid (L1.out.trans hl5); have K5 := hid (K1.out.trans hk5)
            clear hi hb5 hl5 hk5
            go_wp2
            go_roundw
            case rel =>
              refine ⟨1, by go_num, by omega, ?_, L5.out, K5.out⟩
              rw [HSC.out]
              simpa [showTs] using HB5.out
            case measure => simp [intOf]; omega
          · have hj1 : (0 : Int) < (j : Int) := by omega
            go_wp2_with fail
            generalize wr.alloc (.cells #[.string y.1, .int .i64 y.2, .slice a1 (lenF l1) c1] 28) = V1 at Y1 HB1 L1 K1 z0 z1 z2 ⊢
            have hne : (true && ((kidsL m).take j).isEmpty) = false := by
              have : ((kidsL m).take j).length = j := by rw [List.length_take, kids_len]; omega
              cases h : (kidsL m).take j with
              | nil => rw [h] at this; simp at this; omega
              | cons => rfl
            rw [hne] at hln2
            refine (chr_any b _ 44 V1 HB1.out (by have := HLN.out; simp only [List.length_append, List.length_cons, List.length_nil] at hln2 ⊢; simp at hln2; omega)).mono ?_
            rintro e w4 ⟨rfl, hb4, hl4, hk4⟩
            have Y4 := Y1.out.others hk4 (by omega)
            have HB4 := hid hb4; have L4 := hid (L1.out.trans hl4); have K4 := hid (K1.out.trans hk4)
            have u0 := Y4.c0; have u1 := Y4.c1; have u2 := Y4.c2
            clear hb4 hl4 hk4 Y4 z0 z1 z2 Y1 HB1 L1 K1
            go_wp2_with fail
            have hi := IH.out (nodesF l1 + 1) (by omega) y l1 a1 c1 _ w4 (Nat.lt_succ_self _) KD.out.at_ (HL.out.trans (L4.out.mono hb0)) HB4.out (by have := HLN.out; simp only [List.length_append, List.length_cons, List.length_nil] at hln2 ⊢; simp at hln2; omega)
            refine hi.mono ?_
            rintro e w5 ⟨rfl, hb5, hl5, hk5⟩
            have HB5 := hid hb5; have L5 := hid (L4.out.trans hl5); have K5 := hid (K4.out.trans hk5)
            clear hi hb5 hl5 hk5
            go_wp2
            go_roundw
            case rel =>
              refine ⟨j + 1, by go_num, by omega, ?_, L5.out, K5.out⟩
              rw [HSC.out, hne]
              simpa [List.append_assoc] using HB5.out
            case measure => simp [intOf]; omega
        · have hjl : j = (kidsL m).length := by rw [kids_len]; omega
          have HBe : Hid (Lib.IsBuilderF 81 5 b b (Lib.byteCells (acc ++ nm.data.toList ++ [40] ++ showTs l true (kidsL m))) wr) := by
            have h := HBr.out
            rw [hjl, List.take_length] at h
            exact h
          go_wp2_with fail
          refine (chr_any b _ 41 wr HBe.out (by have := HLN.out; simp only [List.length_append, List.length_cons, List.length_nil]; omega)).mono ?_
          rintro e w4 ⟨rfl, hb4, hl4, hk4⟩
          have HB4 := hid hb4; have L4 := hid (HLr.out.trans hl4); have K4 := hid (HKr.out.trans hk4)
          clear hb4 hl4 hk4
          go_wp2
          go_end0
          refine ⟨rfl, ?_, L4.out, K4.out⟩
          rw [HOUT.out]
          simpa [List.append_assoc] using HB4.out
  · have hsn : showN l x m = x.1.data.toList := by unfold showN; rw [if_neg hx]
    rw [hsn] at hlen ⊢
    have hxe : x.1.toList.isEmpty = false := not_empty_of hx
    go_enter Try.func45, Try.ntmps45
    go_wp2_with fail
    generalize w.alloc (.cells #[.string x.1, .int .i64 x.2, .slice a (lenF m) c] 28) = V0 at X0 HB0 K0 L0 x0 x1 x2 ⊢
    refine (str_any b acc x.1 V0 HB0.out hlen).mono ?_
    rintro e w2 ⟨rfl, hb2, hl2, hk2⟩
    have HB2 := hid hb2
    have L2 := hid (L0.out.trans hl2)
    have K2 := hid (K0.out.trans hk2)
    clear hb2 hl2 hk2 HB0 L0 K0
    go_wp2
    refine bodyPost_ret (results_none rfl _ _ _) rfl ?_
    exact ⟨rfl, HB2.out, L2.out, K2.out⟩
theorem write_all {w0 : World} {b : Nat} {S : Option Addr} {n cap : Nat} {l : List Sym} (hb0 : w0.heap.size ≤ b) (hS : SigAt w0 S n l) : ∀ z, WriteOk w0 b S n cap l z := by
  intro z
  induction z using Nat.strongRecOn with
  | _ z ih => exact write_of hb0 hS ih

set_option maxRecDepth 100000 in
set_option maxHeartbeats 2000000 in
/-- Show of a term. -/
theorem show_any (S : Option Addr) (n cap : Nat) (l : List Sym) (x : ByteArray × Int) (m : Fo) (a : Option Addr) (c : Nat) (w : World) (hS : SigAt w S n l) (hT : TmAt w x a c m) (hlen : (showN l x m).length ≤ 140737488355328) :
    Calls Try.prog 19 #[.slice S n cap, .agg #[.string x.1, .int .i64 x.2, .slice a (lenF m) c]] w fun e w' => e = .returned (.string ⟨(showN l x m).toArray⟩) ∧ Below w.heap.size w w' := by
  have B0 := alloc_below0 w (.cells #[.string x.1, .int .i64 x.2, .slice a (lenF m) c] 28)
  have X0 : XBox (w.alloc (.cells #[.string x.1, .int .i64 x.2, .slice a (lenF m) c] 28)) w.heap.size x (.slice a (lenF m) c) := World.alloc_heap_new w _
  have B1 := alloc_below0 (w.alloc (.cells #[.string x.1, .int .i64 x.2, .slice a (lenF m) c] 28)) (.cells #[.pointer none, .slice none 0 0] 81)
  have X1 := X0.below B1
  have hn := World.alloc_heap_new (w.alloc (.cells #[.string x.1, .int .i64 x.2, .slice a (lenF m) c] 28)) (.cells #[.pointer none, .slice none 0 0] 81)
  have L1 := B0.trans (B1.mono B0.size)
  rw [World.size_alloc] at hn
  have hI : Lib.IsBuilderF 81 5 (w.heap.size + 1) (w.heap.size + 1) (Lib.byteCells []) ((w.alloc (.cells #[.string x.1, .int .i64 x.2, .slice a (lenF m) c] 28)).alloc (.cells #[.pointer none, .slice none 0 0] 81)) := .inl (Lib.BuilderAtF.of ⟨Nat.le_refl _, .slice none 0 0, hn, World.ownsRow_nil _ _ _ _, by simp [Value.ownBlock]⟩)
  have hc := write_all (w0 := w) (cap := cap) (b := w.heap.size + 1) (by omega) hS (nodesF m + 1) x m a c [] _ (Nat.lt_succ_self _) hT L1 hI (by simpa using hlen)
  have HC := hid hc; have HL := hid L1
  have x0 := X1.c0; have x1 := X1.c1; have x2 := X1.c2
  clear hc hI hn X0 B0 B1
  go_enter Try.func19, Try.ntmps19
  go_wp2_with fail
  refine HC.out.mono ?_
  rintro e w2 ⟨rfl, hb2, hl2, hk2⟩
  rw [List.nil_append] at hb2
  have L2 := hid (HL.out.trans (hl2.mono (by omega)))
  have HB2 := hid hb2
  clear hb2 hl2 hk2 x0 x1 x2
  go_wp2_with fail
  refine (Try.Builder_String_any_k (w.heap.size + 1) (w.heap.size + 1) (showN l x m) w2 HB2.out (Nat.le_of_lt (isB_lt HB2.out))).mono ?_
  rintro e w3 ⟨rfl, hb3, hl3, hk3⟩
  have L3 := hid (L2.out.trans (hl3.mono (by omega)))
  clear hb3 hl3 hk3
  go_wp2
  go_ret
  exact ⟨rfl, L3.out⟩
end Go.Proofs.Ytkcbhbkldcebiaa
