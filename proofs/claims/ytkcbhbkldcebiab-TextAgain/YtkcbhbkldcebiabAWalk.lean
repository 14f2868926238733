/- How the statement on reading again goes. -/
import Derived.Test.YtkcbhbkldcebiabAgain
import Derived.Test.YtkcbhbkldcebiabYPure
import Derived.Test.YtkcbhbkldcebiabZHead
import Derived.Test.YtkcbhbkldcebiabSOpen
namespace Go.Proofs.Ytkcbhbkldcebiab
open Go.RowKit Go.Deep

theorem end_err {s : ByteArray} {k : Nat} {q : Int × Nat} (h : endR s k = .error q) : q.1 ≠ 0 := by
  unfold endR at h
  cases hl : lookP s k with
  | error e => rw [hl] at h; cases h; exact look_err hl
  | ok r =>
    rw [hl] at h
    dsimp only at h
    split at h
    · cases h
    · cases h
      show (54 : Int) ≠ 0
      decide
theorem full_err {s : ByteArray} {l : List Sym} {q : Int × Nat} (h : fullR s l = .error q) : q.1 ≠ 0 := by
  unfold fullR at h
  cases hr : termR s l with
  | error e =>
    rw [hr] at h
    cases h
    unfold termR at hr
    split at hr
    · cases hr
      show (55 : Int) ≠ 0
      decide
    · cases hd : rdF s l (s.size + 1) false 0 with
      | error e =>
        rw [hd] at hr
        cases hr
        exact rdC_err s.size false 0 _ (Nat.zero_le _) (Nat.sub_le _ _) hd
      | ok p =>
        obtain ⟨F, k⟩ := p
        obtain ⟨x, m, rfl⟩ := rdC_node (Nat.zero_le _) hd
        rw [hd] at hr
        dsimp only at hr
        cases he : endR s k with
        | error e => rw [he] at hr; cases hr; exact end_err he
        | ok r => rw [he] at hr; cases hr
  | ok t =>
    rw [hr] at h
    dsimp only at h
    split at h
    · cases h
    · rename_i hc
      cases h
      exact hc
def TupEnd (w : World) (x : ByteArray × Int) (m : Fo) (er : Int) (p : Nat) (e : Ending) (w' : World) : Prop := ∃ a c, e = .returned (.tuple #[.agg #[.string x.1, .int .i64 x.2, .slice a (lenF m) c], .int .i64 er, .int .i64 p]) ∧ TmAt w' x a c m ∧ Below w.heap.size w w'
theorem no_blank {bs : List UInt8} (h : ∀ c ∈ bs, c ≠ 32) {j : Nat} (hj : j < (⟨bs.toArray⟩ : ByteArray).size) : ¬ ((((⟨bs.toArray⟩ : ByteArray)[j]'hj).toNat : Int) = 32) := by
  intro e
  have hj' : j < bs.length := hj
  refine h bs[j] (List.getElem_mem hj') (UInt8.toNat_inj.1 ?_)
  have e2 : ((⟨bs.toArray⟩ : ByteArray)[j]'hj) = bs[j] := rfl
  rw [e2] at e
  show bs[j].toNat = 32
  omega

set_option maxRecDepth 100000 in
set_option maxHeartbeats 8000000 in
theorem textAgain_walk (S : Option Addr) (n cap : Nat) (l : List Sym) (s : ByteArray) (w : World) (hS : SigAt w S n l) :
    Calls Try.prog 3 #[.slice S n cap, .string s] w fun e w' => e = .returned (.bool true) ∧ Below w.heap.size w w' := by
  have HS := hid hS
  clear hS
  cases hf : fullR s l with
  | error q =>
    have hq := full_err hf
    have HT : Hid (∀ W, Below w.heap.size w W → Calls Try.prog 5 #[.slice S n cap, .string s] W fun e w' => e = .returned (.tuple #[.agg #[.string ⟨#[]⟩, .int .i64 0, .slice none 0 0], .int .i64 q.1, .int .i64 q.2]) ∧ Below W.heap.size W w') := hid fun W hW => (term_any S n cap l s W (HS.out.below hW)).mono (fun e w' h => by rw [hf] at h; exact h)
    obtain ⟨q1, q2⟩ := q
    dsimp only at hq HT
    clear hf
    go_enter Try.func3, Try.ntmps3
    go_wp2_with fail
    refine (head_any w).mono ?_
    rintro e w1 ⟨rfl, hb1⟩
    go_wp2_with fail
    refine (HT.out w1 hb1).mono ?_
    rintro e w2 ⟨rfl, hb2⟩
    have L2 : Hid (Below w.heap.size w (w2.alloc (.cells #[.string ⟨#[]⟩, .int .i64 0, .slice none 0 0] 27))) := hid ((hb1.trans (hb2.mono hb1.size)).alloc (hb1.trans (hb2.mono hb1.size)).size _)
    clear hb1 hb2
    go_wp2_with fail
    go_wp2
    go_ret
    exact ⟨rfl, L2.out⟩
  | ok t =>
    obtain ⟨x, m⟩ := t
    obtain ⟨hg, hlen, hno, h800⟩ := full_again hf
    dsimp only at hg hlen hno
    have HT : Hid (∀ W, Below w.heap.size w W → Calls Try.prog 5 #[.slice S n cap, .string s] W fun e w' => TupEnd W x m 0 0 e w') := hid fun W hW => (term_any S n cap l s W (HS.out.below hW)).mono (fun e w' h => by rw [hf] at h; obtain ⟨⟨a, c, rfl, ho⟩, hb⟩ := h; exact ⟨a, c, rfl, ho.tm, hb⟩)
    have HW : Hid (∀ W a c, Below w.heap.size w W → TmAt W x a c m → Calls Try.prog 6 #[.slice S n cap, .agg #[.string x.1, .int .i64 x.2, .slice a (lenF m) c]] W fun e w' => e = .returned (.string ⟨(showN l x m).toArray⟩) ∧ Below W.heap.size W w') := hid fun W a c hW hT => show_any S n cap l x m a c W (HS.out.below hW) hT (by omega)
    have hsz : (⟨(showN l x m).toArray⟩ : ByteArray).size = (showN l x m).length := rfl
    have hbl : ∀ (j : Nat) (hj : j < (⟨(showN l x m).toArray⟩ : ByteArray).size), ¬ ((((⟨(showN l x m).toArray⟩ : ByteArray)[j]'hj).toNat : Int) = 32) := fun j hj => no_blank hno hj
    rw [← hsz] at hlen
    generalize (⟨(showN l x m).toArray⟩ : ByteArray) = sh at hg hlen hbl HW
    have HT2 : Hid (∀ W, Below w.heap.size w W → Calls Try.prog 5 #[.slice S n cap, .string sh] W fun e w' => TupEnd W x m 0 0 e w') := hid fun W hW => (term_any S n cap l sh W (HS.out.below hW)).mono (fun e w' h => by rw [hg] at h; obtain ⟨⟨a, c, rfl, ho⟩, hb⟩ := h; exact ⟨a, c, rfl, ho.tm, hb⟩)
    have HBL := hid hbl
    clear hf hg hno hsz hbl
    go_enter Try.func3, Try.ntmps3
    go_wp2_with fail
    refine (head_any w).mono ?_
    rintro e w1 ⟨rfl, hb1⟩
    have L1 := hid hb1
    clear hb1
    go_wp2_with fail
    refine (HT.out w1 L1.out).mono ?_
    rintro e w2 ⟨ta, tc, rfl, ht2, hb2⟩
    have B2 := alloc_below0 w2 (.cells #[.string x.1, .int .i64 x.2, .slice ta (lenF m) tc] 27)
    have X2 : Hid (XBox (w2.alloc (.cells #[.string x.1, .int .i64 x.2, .slice ta (lenF m) tc] 27)) w2.heap.size x (.slice ta (lenF m) tc)) := World.alloc_heap_new w2 _
    have T2 := hid (ht2.below B2)
    have L2 : Hid (Below w.heap.size w (w2.alloc (.cells #[.string x.1, .int .i64 x.2, .slice ta (lenF m) tc] 27))) := hid ((L1.out.trans (hb2.mono L1.out.size)).alloc (L1.out.trans (hb2.mono L1.out.size)).size _)
    have x0 := X2.out.c0; have x1 := X2.out.c1; have x2 := X2.out.c2
    clear ht2 hb2 B2
    go_wp2_with fail
    generalize w2.alloc (.cells #[.string x.1, .int .i64 x.2, .slice ta (lenF m) tc] 27) = V2 at X2 T2 L2 x0 x1 x2 ⊢
    refine (HW.out V2 ta tc L2.out T2.out).mono ?_
    rintro e w3 ⟨rfl, hb3⟩
    have X3 := hid (X2.out.below hb3)
    have T3 := hid (T2.out.below hb3)
    have L3 := hid (L2.out.trans (hb3.mono L2.out.size))
    clear hb3 X2 T2 L2 x0 x1 x2
    go_wp2_with fail
    refine (HT2.out w3 L3.out).mono ?_
    rintro e w4 ⟨ua, uc, rfl, ht4, hb4⟩
    have B4 := alloc_below0 w4 (.cells #[.string x.1, .int .i64 x.2, .slice ua (lenF m) uc] 27)
    have X4 := hid ((X3.out.below hb4).below B4)
    have Y4 : Hid (XBox (w4.alloc (.cells #[.string x.1, .int .i64 x.2, .slice ua (lenF m) uc] 27)) w4.heap.size x (.slice ua (lenF m) uc)) := World.alloc_heap_new w4 _
    have T4 := hid ((T3.out.below hb4).below B4)
    have U4 := hid (ht4.below B4)
    have L4 : Hid (Below w.heap.size w (w4.alloc (.cells #[.string x.1, .int .i64 x.2, .slice ua (lenF m) uc] 27))) := hid ((L3.out.trans (hb4.mono L3.out.size)).alloc (L3.out.trans (hb4.mono L3.out.size)).size _)
    clear ht4 hb4 B4 X3 T3 L3
    go_wp2_with fail
    generalize w4.alloc (.cells #[.string x.1, .int .i64 x.2, .slice ua (lenF m) uc] 27) = V4 at X4 Y4 T4 U4 L4 ⊢
    go_loopw [13] (fun ov wr => ∃ i : Nat, ov = .int .i64 i ∧ i ≤ sh.size ∧ wr = V4) (fun ov _ => sh.size - (intOf ov).toNat)
    case atStart => exact ⟨0, rfl, Nat.zero_le _, rfl⟩
    case round =>
      obtain ⟨i, rfl, hi, rfl⟩ := hrel
      by_cases hlt : i < sh.size
      · have hnb := HBL.out i hlt
        go_wp2
        exact ⟨⟨i + 1, by simp, by omega, trivial⟩, by simp [intOf]; omega⟩
      · have hil : i = sh.size := by omega
        subst hil
        have x0 := X4.out.c0; have x1 := X4.out.c1; have x2 := X4.out.c2
        have y0 := Y4.out.c0; have y1 := Y4.out.c1; have y2 := Y4.out.c2
        go_wp2_with fail
        refine (exact_any x m ta ua tc uc _ T4.out U4.out).mono ?_
        rintro e w5 ⟨rfl, hb5⟩
        have Y5 := Y4.out.below hb5
        have U5 := hid (U4.out.below hb5)
        have L5 := hid (L4.out.trans (hb5.mono L4.out.size))
        have z0 := Y5.c0; have z1 := Y5.c1; have z2 := Y5.c2
        clear hb5 Y5 x0 x1 x2 y0 y1 y2
        go_wp2_with fail
        refine (HW.out w5 ua uc L5.out U5.out).mono ?_
        rintro e w6 ⟨rfl, hb6⟩
        have L6 := hid (L5.out.trans (hb6.mono L5.out.size))
        clear hb6
        have hle : (sh.size : Int) ≤ (s.size : Int) := by omega
        go_wp2
        go_ret
        exact ⟨rfl, L6.out⟩
end Go.Proofs.Ytkcbhbkldcebiab
