import Derived.Test.YtfnfbljijkjkjaaGreatKUfM
/- set of the solver. -/
namespace Go.Proofs.YtfnfbljijkjkjaaGreat
open Go.RowKit Go.Shelf Go.Deep

/-- Is there room wherever a variable's term is put in? -/
def roomAll (nm : ByteArray) (t : Tn) (es : List Kv) (bs : List Bk) : Bool := es.all (roomK nm ((nodesF t.2 : Int) + 1)) && bs.all fun b => roomK nm ((nodesF t.2 : Int) + 1) b.2
set_option maxRecDepth 100000 in
set_option maxHeartbeats 8000000 in
theorem set_any (w0 : World) (B : Nat) (v1 v2 : Value) (n : Nat) (es : List Kv) (bs : List Bk) (w : World) (nm : ByteArray) (t : Tn) (a : Option Addr) (d : Nat) (hS : Sv w0 B v1 v2 n es bs w) (hT : TmO (S0 w0.heap.size) w t.1 a d t.2) (hM : nodesF t.2 ≤ 1048576) (hn : n ≤ 1073741824) (hnb : bs.length ≤ 1073741824) (hMe : ∀ k ∈ es, nodesF k.l ≤ 1048576) (hMb : ∀ b ∈ bs, nodesF b.2.l ≤ 1048576) :
    Calls Tryz.prog 31 #[.pointer (some ⟨B, 0, none⟩), .agg #[.string nm, .string t.1.1, .int .i64 t.1.2, .slice a (lenF t.2) d]] w fun e w' => e = .returned (.bool (roomAll nm t es bs)) ∧ Below w0.heap.size w0 w' ∧
      (roomAll nm t es bs = true → ∃ v2' es' bs', es'.map Kv.tn = es.map (fun k => w1T nm t k.tn) ∧ bs'.map btn = bs.map (fun b => (b.1, w1T nm t b.2.tn)) ++ [(nm, t)] ∧ Sv w0 B v1 v2' n es' bs' w') := by
  obtain ⟨⟨xn, xs⟩, l⟩ := t
  dsimp only at *
  have hb0 := alloc_below0 w (.cells #[.string nm, .string xn, .int .i64 xs, .slice a (lenF l) d] 38)
  have hX := Box.new w 38 #[.string nm, .string xn, .int .i64 xs, .slice a (lenF l) d]
  have HSZ := hid fun (W : World) (hW : Below w.heap.size w W) => size_any (xn, xs) l a d W ((tmO_tm hT).below hW) (by omega)
  have HB0 := hid hb0; have HX := hid hX; have HSV := hid hS; have HT := hid hT; have HME := hid hMe; have HMB := hid hMb
  have z0 := hX.c 0; have z1 := hX.c 1; have z2 := hX.c 2; have z3 := hX.c 3
  have hlt := hS.box.lt
  clear hX hb0 hT hS hMe hMb
  unfold roomAll
  cases h1 : es.all (roomK nm ((nodesF l : Int) + 1))
  · have HR1 := hid h1
    clear h1
    go_enter Tryz.func31, Tryz.ntmps31
    go_upto_region 1 with fail
    go_region_with ((first
      | (go_at_call 54; refine (HSZ.out _ HB0.out.drew).mono ?_; rintro e w1 ⟨rfl, hb1⟩; have hb1' : Below (w.alloc (.cells #[.string nm, .string xn, .int .i64 xs, .slice a (lenF l) d] 38)).heap.size (w.alloc (.cells #[.string nm, .string xn, .int .i64 xs, .slice a (lenF l) d] 38)) w1 := (Below.refl _ _).drew.trans hb1; have HB1 := hid (HB0.out.trans (hb1'.mono HB0.out.size)); have X1 := HX.out.below hb1'; have HX1 := hid X1; have y0 := X1.c 0; have y1 := X1.c 1; have y2 := X1.c 2; have y3 := X1.c 3; clear hb1 hb1' X1)
      | fail))
    all_goals
      have hba := alloc_below0 w1 (.cells #[.string nm, .string xn, .int .i64 xs, .slice a (lenF l) d, .int .i64 (nodesF l + 1)] 105)
      have HB2 := hid (HB1.out.trans (hba.mono HB1.out.size))
      have HX2 := hid (HX1.out.below hba)
      have HQB := hid (Box.new w1 105 #[.string nm, .string xn, .int .i64 xs, .slice a (lenF l) d, .int .i64 (nodesF l + 1)])
      have HS2 := hid (HSV.out.below HB2.out)
      have HT2 := hid (tmO_below HT.out HB2.out)
      clear z0 z1 z2 z3 y0 y1 y2 y3 hba
      generalize w1.alloc (.cells #[.string nm, .string xn, .int .i64 xs, .slice a (lenF l) d, .int .i64 (nodesF l + 1)] 105) = V at HB2 HX2 HQB HS2 HT2 ⊢
      have H55 := hid (sides_any nm ((xn, xs), l) a d (N := (nodesF l : Int) + 1) (by omega) w1.heap.size w0 B v1 v2 n es bs V HS2.out HQB.out HT2.out hn HME.out)
      rw [HR1.out] at H55
      go_wp2_with (go_at_call 55; refine H55.out.mono ?_; rintro e w3 ⟨rfl, hb3, _⟩; have HB3 := hid hb3; clear hb3)
      go_ret
      refine ⟨rfl, HB3.out, fun h => ?_⟩
      cases h
  · have HR1 := hid h1
    clear h1
    cases h2 : bs.all (fun b => roomK nm ((nodesF l : Int) + 1) b.2)
    · have HR2 := hid h2
      clear h2
      go_enter Tryz.func31, Tryz.ntmps31
      go_upto_region 1 with fail
      go_region_with ((first
        | (go_at_call 54; refine (HSZ.out _ HB0.out.drew).mono ?_; rintro e w1 ⟨rfl, hb1⟩; have hb1' : Below (w.alloc (.cells #[.string nm, .string xn, .int .i64 xs, .slice a (lenF l) d] 38)).heap.size (w.alloc (.cells #[.string nm, .string xn, .int .i64 xs, .slice a (lenF l) d] 38)) w1 := (Below.refl _ _).drew.trans hb1; have HB1 := hid (HB0.out.trans (hb1'.mono HB0.out.size)); have X1 := HX.out.below hb1'; have HX1 := hid X1; have y0 := X1.c 0; have y1 := X1.c 1; have y2 := X1.c 2; have y3 := X1.c 3; clear hb1 hb1' X1)
        | fail))
      all_goals
        have hba := alloc_below0 w1 (.cells #[.string nm, .string xn, .int .i64 xs, .slice a (lenF l) d, .int .i64 (nodesF l + 1)] 105)
        have HB2 := hid (HB1.out.trans (hba.mono HB1.out.size))
        have HX2 := hid (HX1.out.below hba)
        have HQB := hid (Box.new w1 105 #[.string nm, .string xn, .int .i64 xs, .slice a (lenF l) d, .int .i64 (nodesF l + 1)])
        have HS2 := hid (HSV.out.below HB2.out)
        have HT2 := hid (tmO_below HT.out HB2.out)
        clear z0 z1 z2 z3 y0 y1 y2 y3 hba
        generalize w1.alloc (.cells #[.string nm, .string xn, .int .i64 xs, .slice a (lenF l) d, .int .i64 (nodesF l + 1)] 105) = V at HB2 HX2 HQB HS2 HT2 ⊢
        have H55 := hid (sides_any nm ((xn, xs), l) a d (N := (nodesF l : Int) + 1) (by omega) w1.heap.size w0 B v1 v2 n es bs V HS2.out HQB.out HT2.out hn HME.out)
        rw [HR1.out] at H55
        have H56 := hid fun (W : World) (es' : List Kv) (hs : Sv w0 B v1 v2 n es' bs W) (hq : Box W w1.heap.size 105 #[.string nm, .string xn, .int .i64 xs, .slice a (lenF l) d, .int .i64 (nodesF l + 1)]) (ht : TmO (S0 w0.heap.size) W (xn, xs) a d l) => bound_any nm ((xn, xs), l) a d (N := (nodesF l : Int) + 1) (by omega) w1.heap.size w0 B v1 v2 n es' bs W hs hq ht hnb HMB.out
        simp only [HR2.out] at H56
        go_wp2_with (first
          | (go_at_call 55; refine H55.out.mono ?_; rintro e w3 ⟨rfl, _, hr3⟩; obtain ⟨hf3, es', hmp3, hs3⟩ := hr3 rfl; have H56' := hid (H56.out _ es' hs3 ((hf3.same _ HQB.out.lt (fun h => row_box HS2.out.r1 HQB.out (by decide) h)).trans HQB.out) (tmO_fr HT2.out hf3 (fun q o hq ho => (HS2.out.hid1 (.inl hq) ho).2))); clear hf3 hmp3 hs3 hr3)
          | (go_at_call 56; refine H56'.out.mono ?_; rintro e w4 ⟨rfl, hb4, _⟩; have HB4 := hid hb4; clear hb4))
        go_ret
        refine ⟨rfl, HB4.out, fun h => ?_⟩
        cases h
    · have HR2 := hid h2
      clear h2
      go_enter Tryz.func31, Tryz.ntmps31
      go_upto_region 1 with fail
      go_region_with ((first
        | (go_at_call 54; refine (HSZ.out _ HB0.out.drew).mono ?_; rintro e w1 ⟨rfl, hb1⟩; have hb1' : Below (w.alloc (.cells #[.string nm, .string xn, .int .i64 xs, .slice a (lenF l) d] 38)).heap.size (w.alloc (.cells #[.string nm, .string xn, .int .i64 xs, .slice a (lenF l) d] 38)) w1 := (Below.refl _ _).drew.trans hb1; have HB1 := hid (HB0.out.trans (hb1'.mono HB0.out.size)); have X1 := HX.out.below hb1'; have HX1 := hid X1; have y0 := X1.c 0; have y1 := X1.c 1; have y2 := X1.c 2; have y3 := X1.c 3; clear hb1 hb1' X1)
        | fail))
      all_goals
        have hba := alloc_below0 w1 (.cells #[.string nm, .string xn, .int .i64 xs, .slice a (lenF l) d, .int .i64 (nodesF l + 1)] 105)
        have HB2 := hid (HB1.out.trans (hba.mono HB1.out.size))
        have HX2 := hid (HX1.out.below hba)
        have HQB := hid (Box.new w1 105 #[.string nm, .string xn, .int .i64 xs, .slice a (lenF l) d, .int .i64 (nodesF l + 1)])
        have HS2 := hid (HSV.out.below HB2.out)
        have HT2 := hid (tmO_below HT.out HB2.out)
        clear z0 z1 z2 z3 y0 y1 y2 y3 hba
        generalize w1.alloc (.cells #[.string nm, .string xn, .int .i64 xs, .slice a (lenF l) d, .int .i64 (nodesF l + 1)] 105) = V at HB2 HX2 HQB HS2 HT2 ⊢
        have H55 := hid (sides_any nm ((xn, xs), l) a d (N := (nodesF l : Int) + 1) (by omega) w1.heap.size w0 B v1 v2 n es bs V HS2.out HQB.out HT2.out hn HME.out)
        rw [HR1.out] at H55
        have H56 := hid fun (W : World) (es' : List Kv) (hs : Sv w0 B v1 v2 n es' bs W) (hq : Box W w1.heap.size 105 #[.string nm, .string xn, .int .i64 xs, .slice a (lenF l) d, .int .i64 (nodesF l + 1)]) (ht : TmO (S0 w0.heap.size) W (xn, xs) a d l) => bound_any nm ((xn, xs), l) a d (N := (nodesF l : Int) + 1) (by omega) w1.heap.size w0 B v1 v2 n es' bs W hs hq ht hnb HMB.out
        simp only [HR2.out] at H56
        go_upto_region 4 with (first
          | (go_at_call 55; refine H55.out.mono ?_; rintro e w3 ⟨rfl, _, hr3⟩; obtain ⟨hf3, es', hmp3, hs3⟩ := hr3 rfl; have H56' := hid (H56.out _ es' hs3 ((hf3.same _ HQB.out.lt (fun h => row_box HS2.out.r1 HQB.out (by decide) h)).trans HQB.out) (tmO_fr HT2.out hf3 (fun q o hq ho => (HS2.out.hid1 (.inl hq) ho).2))); have HX3 := hid ((hf3.same _ HX2.out.lt (fun h => row_box HS2.out.r1 HX2.out (by decide) h)).trans HX2.out); have HT3 := hid (tmO_fr HT2.out hf3 (fun q o hq ho => (HS2.out.hid1 (.inl hq) ho).2)); have HMP3 := hid hmp3; have HS3 := hid hs3; clear hf3 hmp3 hs3 hr3)
          | (go_at_call 56; refine H56'.out.mono ?_; rintro e w4 ⟨rfl, _, hr4⟩; obtain ⟨hf4, bs', hmp4, hs4⟩ := hr4 trivial; have HMP4 := hid hmp4; have HS4 := hid hs4; have HT4 := hid (tmO_fr HT3.out hf4 (fun q o hq ho => (HS3.out.hid2 (.inl hq) ho).2)); have HF4 := hid hf4; clear hf4 hmp4 hs4 hr4))
        have HX4 : Hid (Box w4 w.heap.size 38 #[.string nm, .string xn, .int .i64 xs, .slice a (lenF l) d]) := hid ((HF4.out.same _ (Box.lt HX3.out) (fun h => by have := (HSV.out.r2.lt _ h).2; omega)).trans HX3.out)
        have r0 := Box.c HX4.out 0; have r1 := Box.c HX4.out 1; have r2 := Box.c HX4.out 2; have r3 := Box.c HX4.out 3
        have q0 : w4.drew.cell? ⟨w.heap.size, 0, none⟩ = some (.string nm) := r0
        have q1 : w4.drew.cell? ⟨w.heap.size, 1, none⟩ = some (.string xn) := r1
        have q2 : w4.drew.cell? ⟨w.heap.size, 2, none⟩ = some (.int .i64 xs) := r2
        have q3 : w4.drew.cell? ⟨w.heap.size, 3, none⟩ = some (.slice a (lenF l) d) := r3
        have HA := hid (add_any w0 B v1 v2 n es' bs' w4.drew nm ⟨(xn, xs), l, a, d⟩ (HS4.out.below (Below.refl _ _).drew) (tmO_below HT4.out (Below.refl _ _).drew) (by
          have := congrArg List.length HMP4.out
          rw [List.length_map, List.length_map] at this
          omega))
        dsimp only at HA
        go_region_with ((first
          | (go_at_call 57; refine HA.out.mono ?_; rintro e w5 ⟨⟨v5, rfl⟩, v2', hs5⟩; have HS5 := hid hs5; clear hs5)
          | fail))
        all_goals
          go_wp2_with fail
          go_ret
          refine ⟨rfl, HS5.out.low, fun _ => ⟨v2', es', bs' ++ [(nm, ⟨(xn, xs), l, a, d⟩)], HMP3.out, ?_, HS5.out⟩⟩
          rw [List.map_append, HMP4.out]
          rfl
end Go.Proofs.YtfnfbljijkjkjaaGreat
