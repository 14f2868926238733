/- An agenda's Push, where there is room. -/
import Derived.Test.YtchjdpmgocapjaaAtV
namespace Go.Proofs.Ytchjdpmgocapjaa.S
open Go.RowKit Go.Shelf

/-- What an operation leaves: the agenda as told, all else as it was. -/
def AgEnd (w w' : World) (A : Nat) (most last : Int) (L : List Th) (F : Nat → Prop) : Prop := ∃ F', AgAt w' A most last L F' ∧ Fr F w w' ∧ ∀ b, F' b → F b ∨ w.heap.size ≤ b
theorem AgEnd.same {w w' : World} {A : Nat} {most last : Int} {L : List Th} {F : Nat → Prop} (h : AgAt w A most last L F) (hb : Below w.heap.size w w') : AgEnd w w' A most last L F := ⟨F, h.below hb, Fr.of_below hb, fun _ h => .inl h⟩
theorem new_none (most : Int) (h : most < 1 ∨ 65536 < most) (w : World) : Calls Try.prog 8 #[.int .i64 most] w fun e w' => e = .returned (.tuple #[.pointer none, .int .i64 1]) ∧ w' = w := by
  go_enter Try.func8, Try.ntmps8
  by_cases h1 : most < 1
  · go_wp2_with fail
    go_ret2
    exact ⟨rfl, rfl⟩
  · have h2 : 65536 < most := by omega
    go_wp2_with fail
    go_ret2
    exact ⟨rfl, rfl⟩
theorem make_run (W : World) : (Instr.makeMap 61 none).run Try.prog W = .ok (.map (some W.heap.size)) (W.alloc (.map #[] 0)) := by
  simp [Instr.makeMap, Result.andThen]
theorem new_any (most : Int) (h1 : 1 ≤ most) (h2 : most ≤ 65536) (w : World) : Calls Try.prog 8 #[.int .i64 most] w fun e w' => ∃ A F, e = .returned (.tuple #[.pointer (some ⟨A, 0, none⟩), .int .i64 0]) ∧ AgAt w' A most 0 [] F ∧ Below w.heap.size w w' ∧ ∀ b, F b → w.heap.size ≤ b := by
  have hm := make_run w
  have hM := map_made w
  have HF : Hid (AgAt ((w.alloc (.map #[] 0)).alloc (.cells #[.int .i64 most, .int .i64 0, .slice none 0 0, .map (some w.heap.size)] 65)) (w.heap.size + 1) most 0 [] (fun b => b = w.heap.size ∨ b = w.heap.size + 1)) := hid (by
    have hsz : (w.alloc (.map #[] 0)).heap.size = w.heap.size + 1 := World.size_alloc _ _
    have hb := World.alloc_heap_new (w.alloc (.map #[] 0)) (.cells #[.int .i64 most, .int .i64 0, .slice none 0 0, .map (some w.heap.size)] 65)
    rw [hsz] at hb
    refine ⟨[], _, w.heap.size, 0, _, ⟨hb, .inl ⟨rfl, rfl⟩, MapAt.fr hM (Fr.of_below (A := fun _ => False) (alloc_below0 _ _)) (fun hx => hx), fun e he => absurd he (by simp), fun t _ => look_none t⟩, ab_none, by simp, (by simp; omega), h2, .inr rfl, .inl rfl, fun g hg => (by cases hg), fun k hk => absurd hk (Nat.not_lt_zero _), fun b hb => ?_⟩
    have : ((w.alloc (.map #[] 0)).alloc (.cells #[.int .i64 most, .int .i64 0, .slice none 0 0, .map (some w.heap.size)] 65)).heap.size = w.heap.size + 2 := by rw [World.size_alloc, World.size_alloc]
    omega)
  have HB : Hid (Below w.heap.size w ((w.alloc (.map #[] 0)).alloc (.cells #[.int .i64 most, .int .i64 0, .slice none 0 0, .map (some w.heap.size)] 65))) := hid (((Below.refl _ w).alloc (Nat.le_refl _) _).alloc (by rw [World.size_alloc]; omega) _)
  clear hM
  go_enter Try.func8, Try.ntmps8
  go_wp2_with fail
  go_ret2
  exact ⟨w.heap.size + 1, _, rfl, HF.out, HB.out, fun b hb => by rcases hb with h | h <;> omega⟩
end Go.Proofs.Ytchjdpmgocapjaa.S

namespace Go.Proofs.Ytchjdpmgocapjaa.S
open Go.RowKit Go.Shelf

/-- What Peek tells. -/
def peekV (L : List Th) : Value := if h : nxI L < L.length then .tuple #[.string L[nxI L].x, .int .i64 L[nxI L].tk, .bool true] else .tuple #[.string ⟨#[]⟩, .int .i64 0, .bool false]
set_option maxRecDepth 100000 in
theorem peek_any {w : World} {A : Nat} {most last : Int} {L : List Th} {F : Nat → Prop} (h : AgAt w A most last L F) : Calls Try.prog 26 #[.pointer (some ⟨A, 0, none⟩)] w fun e w' => e = .returned (peekV L) ∧ Below w.heap.size w w' := by
  have HL := hid (aLen_any h)
  obtain ⟨es, v, mb, n, D, h1, h2, _⟩ := h
  by_cases h0 : L.length = 0
  · have hp : peekV L = .tuple #[.string ⟨#[]⟩, .int .i64 0, .bool false] := by unfold peekV; rw [dif_neg (by omega)]
    rw [hp]
    rw [h0] at HL
    clear h1 h2 hp h0
    go_enter Try.func26, Try.ntmps26
    go_wp2_with fail
    refine HL.out.mono ?_
    rintro e w1 ⟨rfl, rfl⟩
    go_wp2_with fail
    go_ret3
    exact ⟨rfl, Below.refl _ _⟩
  · have hl := h2.len
    have hes : 0 < es.length := by omega
    obtain ⟨hn, he⟩ := h2.first hes
    have hp : peekV L = .tuple #[.string es[0].x, .int .i64 es[0].tk, .bool true] := by
      unfold peekV
      rw [dif_pos hn, ← he]
      rfl
    rw [hp]
    have hE := h1.q.ents 0 hes
    rcases h1.q with ⟨_, rfl⟩ | ⟨g, cap, rfl, hQ⟩
    · simp at hes
    · have cA := cell_box (i := 2) h1.box rfl
      have cg := hQ.cell 0 hes
      have e0 : w.drew.cell? ⟨es[0].b, 0, none⟩ = some (.string es[0].x) := cell_box hE rfl
      have e2 : w.drew.cell? ⟨es[0].b, 2, none⟩ = some (.int .i64 es[0].tk) := cell_box hE rfl
      have hne : ((L.length : Int) == 0) = false := by rw [beq_eq_false_iff_ne]; omega
      have hcap := hQ.fits
      generalize es[0] = e at *
      clear h1 h2 hp he hE hn hQ
      go_enter Try.func26, Try.ntmps26
      go_wp2_with fail
      refine HL.out.mono ?_
      rintro e w1 ⟨rfl, rfl⟩
      go_wp2_with fail
      go_region
      go_wp2_with fail
      go_ret3
      exact ⟨rfl, (Below.refl _ _).drew⟩
end Go.Proofs.Ytchjdpmgocapjaa.S

namespace Go.Proofs.Ytchjdpmgocapjaa.S
open Go.RowKit Go.Shelf

set_option maxRecDepth 100000 in
theorem push_full {w : World} {A : Nat} {most last : Int} {L : List Th} {F : Nat → Prop} (h : AgAt w A most last L F) (x : ByteArray) (wt : Int) (hf : most ≤ L.length) : Calls Try.prog 9 #[.pointer (some ⟨A, 0, none⟩), .string x, .int .i64 wt] w fun e w' => e = .returned (.tuple #[.int .i64 0, .int .i64 111]) ∧ AgEnd w w' A most last L F := by
  have HL := hid (aLen_any h.drew)
  have HE : Hid (AgEnd w w.drew A most last L F) := hid (AgEnd.same h ((Below.refl _ w).drew))
  obtain ⟨es, v, mb, n, D, h1, h2, _⟩ := h
  have c0 : w.drew.cell? ⟨A, 0, none⟩ = some (.int .i64 most) := cell_box h1.box rfl
  clear h1 h2
  go_enter Try.func9, Try.ntmps9
  go_wp2_with fail
  go_region_with ((first
    | (go_at_call 14; refine Calls.mono HL.out ?_; rintro e w3 ⟨rfl, rfl⟩)
    | fail))
  all_goals
    go_wp2_with fail
    go_ret2
    exact ⟨rfl, HE.out⟩
/-- Behind Push: the row has one entry more, the map too. -/
theorem push_end {w W2 w3 w4 : World} {A : Nat} {most last : Int} {es : List En} {v : Value} {mb n : Nat} {D : DataW Value} {L : List Th} {F : Nat → Prop} {e : En} (h1 : AgS w A most last es v mb n D) (h2 : Ab es L last) (hn : (n : Int) ≤ last) (hm : (es.length : Int) < most) (hmm : most ≤ 65536) (f1 : F A) (f2 : F mb) (f3 : ∀ g, v.ownBlock = some g → F g) (f4 : ∀ k (hk : k < es.length), F es[k].b) (f5 : ∀ b, F b → b < w.heap.size)
    (hf2 : Fr (fun b => b = A) w W2) (heb : w.heap.size ≤ e.b) (het : e.tk = last + 1) (box2 : W2.heap[A]? = some (.cells #[.int .i64 most, .int .i64 (last + 1), v, .map (some mb)] 65 (0, 0))) {g cap : Nat} (hQ : QAt w3 g cap (upE (es ++ [e]) es.length)) (hf3 : Fr (fun b => b = A ∨ b = e.b ∨ v.ownBlock = some b ∨ ∃ k, ∃ h : k < es.length, b = es[k].b) W2 w3)
    (hbx : ∀ cs t, W2.heap[A]? = some (.cells cs t (0, 0)) → w3.heap[A]? = some (.cells (cs.setIfInBounds 2 (.slice (some ⟨g, 0, none⟩) (es.length + 1) cap)) t (0, 0))) (hg : v.ownBlock = some g ∨ W2.heap.size ≤ g) (hM : MapAt w4 mb (n + 1) (D.put (keyL (last + 1)) (.held (.pointer (some ⟨e.b, 0, none⟩))))) (hf4 : Fr (fun q => q = mb) w3 w4) :
    AgEnd w w4 A most (last + 1) (L ++ [tri e]) F := by
  have b3 := hbx _ _ box2
  have hup := push_spec h2.heap e
  have hmem : ∀ q, q ∈ upE (es ++ [e]) es.length ↔ q ∈ es ∨ q = e := fun q => by rw [hup.1.mem_iff]; simp
  have hlen : (upE (es ++ [e]) es.length).length = es.length + 1 := by rw [hup.1.length_eq]; simp
  have hin : ∀ q ∈ es, ∃ k, ∃ hk : k < es.length, es[k] = q := fun q hq => by obtain ⟨k, hk, e⟩ := List.getElem_of_mem hq; exact ⟨k, hk, e⟩
  have hsz := hf2.low.size
  have hbe : ∀ k (hk : k < (upE (es ++ [e]) es.length).length), F (upE (es ++ [e]) es.length)[k].b ∨ (upE (es ++ [e]) es.length)[k].b = e.b := fun k hk => by
    rcases (hmem _).1 (List.getElem_mem hk) with h | h
    · obtain ⟨j, hj, ej⟩ := hin _ h
      rw [← ej]
      exact .inl (f4 j hj)
    · rw [h]
      exact .inr rfl
  have hmb := f5 _ f2
  have gmb : g ≠ mb := fun hx => by
    rcases hg with h | h
    · exact h1.v_mb (by rw [h, hx])
    · omega
  have ab := h2.push e het (by omega)
  have htk : ∀ q ∈ es, q.tk ≠ last + 1 := fun q hq => by
    have := (h2.tks _ (h2.perm.subset (List.mem_map.2 ⟨q, hq, rfl⟩))).2
    show (tri q).tk ≠ _
    omega
  have hS : AgS w4 A most (last + 1) (upE (es ++ [e]) es.length) (.slice (some ⟨g, 0, none⟩) (es.length + 1) cap) mb (n + 1) (D.put (keyL (last + 1)) (.held (.pointer (some ⟨e.b, 0, none⟩)))) := by
    refine ⟨(hf4.same A (Array.getElem?_eq_some_iff.1 b3).1 h1.mb_A).trans b3, .inr ⟨g, cap, by rw [hlen], hQ.fr hf4 gmb (fun k hk hx => ?_)⟩, hM, fun q hq => ?_, fun t ht => ?_⟩
    · rcases (hmem _).1 (List.getElem_mem hk) with h | h
      · obtain ⟨j, hj, ej⟩ := hin _ h
        rw [← ej] at hx
        exact h1.mb_e j hj hx
      · rw [h] at hx
        omega
    · rw [look_put (MapAt.is h1.map)]
      rcases (hmem q).1 hq with h | h
      · rw [if_neg (htk q h)]
        exact h1.here q h
      · rw [h, if_pos het]
    · rw [look_put (MapAt.is h1.map), if_neg]
      · exact h1.gone t (fun q hq => ht q ((hmem q).2 (.inl hq)))
      · intro hx
        exact ht e ((hmem e).2 (.inr rfl)) (by rw [het, hx])
  have hsz3 : w.heap.size ≤ w3.heap.size := Nat.le_trans hsz hf3.low.size
  refine ⟨fun b => F b ∨ b = e.b ∨ b = g, ⟨_, _, mb, n + 1, _, hS, ab, by omega, by rw [hlen]; omega, hmm, .inl f1, .inl f2, fun b hb => .inr (.inr (Option.some.inj hb).symm), fun k hk => (hbe k hk).imp id .inl, fun b hb => ?_⟩, ?_, fun b hb => ?_⟩
  · refine Nat.lt_of_lt_of_le ?_ hf4.low.size
    rcases hb with h | h | h
    · have := f5 b h; omega
    · obtain ⟨k, hk, ek⟩ := List.getElem_of_mem ((hmem e).2 (.inr rfl))
      have := (Array.getElem?_eq_some_iff.1 (hQ.ents k hk)).1
      rw [ek] at this
      omega
    · obtain ⟨cs, hc, _⟩ := hQ.row
      have := (Array.getElem?_eq_some_iff.1 hc).1
      omega
  · refine ⟨(hf2.low.trans hf3.low).trans hf4.low, fun k hk hF => ?_⟩
    have hkA : k ≠ A := fun hx => hF (by rw [hx]; exact f1)
    refine (hf4.same k (by omega) (fun hx => hF (by rw [hx]; exact f2))).trans ((hf3.same k (by omega) (fun hx => ?_)).trans (hf2.same k hk hkA))
    rcases hx with hx | hx | hx | ⟨j, hj, hx⟩
    · exact hkA hx
    · omega
    · exact hF (f3 k hx)
    · exact hF (by rw [hx]; exact f4 j hj)
  · rcases hb with h | h | h
    · exact .inl h
    · exact .inr (by omega)
    · rcases hg with h' | h'
      · exact .inl (f3 b (by rw [h', h]))
      · exact .inr (by omega)
end Go.Proofs.Ytchjdpmgocapjaa.S

namespace Go.Proofs.Ytchjdpmgocapjaa.S
open Go.RowKit Go.Shelf

set_option maxRecDepth 100000 in
set_option maxHeartbeats 4000000 in
theorem push_more {w : World} {A : Nat} {most last : Int} {L : List Th} {F : Nat → Prop} (h : AgAt w A most last L F) (x : ByteArray) (wt : Int) (hf : (L.length : Int) < most) (hl : last < 9223372036854775807) : Calls Try.prog 9 #[.pointer (some ⟨A, 0, none⟩), .string x, .int .i64 wt] w fun e w' => e = .returned (.tuple #[.int .i64 (last + 1), .int .i64 0]) ∧ AgEnd w w' A most (last + 1) (L ++ [⟨x, wt, last + 1⟩]) F := by
  have HL := hid (aLen_any h.drew)
  obtain ⟨es, v, mb, n, D, h1, h2, h3, h4, h5, f1, f2, f3, f4, f5⟩ := h
  have hlen := h2.len
  have c0 : w.drew.cell? ⟨A, 0, none⟩ = some (.int .i64 most) := cell_box h1.box rfl
  have hb0 : w.drew.heap[A]? = some (.cells #[.int .i64 most, .int .i64 last, v, .map (some mb)] 65 (0, 0)) := h1.box
  have fd : Fr (fun b => b = A) w w.drew := (Fr.refl _ w).drew
  have hszd : w.drew.heap.size = w.heap.size := rfl
  have h0 : 0 ≤ last := by omega
  have hcond : ((most : Int) ≤ (L.length : Int)) = False := by simp; omega
  have HH1 := hid h1; have HH2 := hid h2
  have HF3 := hid f3; have HF4 := hid f4; have HF5 := hid f5
  clear f3 f4 f5 h2 h1
  go_enter Try.func9, Try.ntmps9
  go_wp2_with fail
  go_region_with ((first
    | (go_at_call 14; refine Calls.mono HL.out ?_; rintro e w3 ⟨rfl, rfl⟩)
    | fail))
  all_goals
    generalize hw0 : w.drew = w0 at *
    have HW0 := hid hw0
    have c1 : w0.cell? ⟨A, 1, none⟩ = some (.int .i64 last) := cell_box hb0 rfl
    have g1 : w0.frozen? ⟨A, 1, none⟩ = false := free_box hb0
    have hb1 := block_set (k := 1) hb0 (.int .i64 (last + 1))
    have c2 : (w0.setCell ⟨A, 1, none⟩ (.int .i64 (last + 1))).cell? ⟨A, 1, none⟩ = some (.int .i64 (last + 1)) := cell_box hb1 rfl
    have fr1 : Fr (fun b => b = A) w (w0.setCell ⟨A, 1, none⟩ (.int .i64 (last + 1))) := fd.trans (fr_set _ _ _ _)
    have sz1 : (w0.setCell ⟨A, 1, none⟩ (.int .i64 (last + 1))).heap.size = w.heap.size := by rw [← hszd]; simp
    have b2 := alloc_below0 (w0.setCell ⟨A, 1, none⟩ (.int .i64 (last + 1))) (.cells #[.string x, .int .i64 wt, .int .i64 (last + 1), .int .i64 0] 68)
    have n2 := World.alloc_heap_new (w0.setCell ⟨A, 1, none⟩ (.int .i64 (last + 1))) (.cells #[.string x, .int .i64 wt, .int .i64 (last + 1), .int .i64 0] 68)
    rw [sz1] at n2
    have fr2 := fr1.trans (Fr.of_below b2)
    have hb2 := below_blk b2 hb1
    have S2 := HH1.out
    have hv2 := S2.q.fr fr2 (fun g hg hx => S2.v_A (by rw [hg, hx])) (fun k hk hx => S2.A_e k hk hx)
    have lts : ∀ k (hk : k < es.length), es[k].b < w.heap.size := fun k hk => (Array.getElem?_eq_some_iff.1 (S2.q.ents k hk)).1
    have hvl : ∀ g, v.ownBlock = some g → g < w.heap.size := fun g hg => by obtain ⟨cs, hc⟩ := S2.q.row hg; exact (Array.getElem?_eq_some_iff.1 hc).1
    have hAl : A < w.heap.size := (Array.getElem?_eq_some_iff.1 S2.box).1
    have HP := hid (hpush_any A v es ⟨w.heap.size, x, wt, last + 1⟩ 0 ((w0.setCell ⟨A, 1, none⟩ (.int .i64 (last + 1))).alloc (.cells #[.string x, .int .i64 wt, .int .i64 (last + 1), .int .i64 0] 68)) (cell_box hb2 rfl) (free_box hb2) hv2 n2 (by omega) (fun k hk hx => by have h9 := lts k hk; have h8 : es[k].b = w.heap.size := hx; omega) (fun hx => by have h9 : w.heap.size < w.heap.size := hvl _ hx; omega) S2.v_A (fun hx => by have h8 : A = w.heap.size := hx; omega) (fun k hk => S2.A_e k hk))
    have HFR2 := hid fr2; have HB2 := hid hb2; have HSZ := hid sz1; have HMP := hid (MapAt.fr S2.map fr2 (fun hx => S2.mb_A hx.symm))
    have hwb : w0.heap.size = w.heap.size := hszd
    have HLN := hid hlen; have HAL := hid hAl
    clear b2 n2 fr1 fr2 hb2 hb1 S2 hv2 lts hvl hAl sz1 fd hb0 hlen
    go_wp2_with fail
    refine HP.out.mono ?_
    rintro r w3 ⟨⟨u3, rfl⟩, g, cap, hQ, hgA, hA3, hf3, hbx, hg⟩
    have b3 := hbx _ _ HB2.out
    have k3 : w3.drew.cell? ⟨A, 3, none⟩ = some (.map (some mb)) := cell_box b3 rfl
    have hmem := (push_spec HH2.out.heap ⟨w.heap.size, x, wt, last + 1⟩).1.mem_iff.2 (show (⟨w.heap.size, x, wt, last + 1⟩ : En) ∈ es ++ [⟨w.heap.size, x, wt, last + 1⟩] by simp)
    obtain ⟨kk, hkk, ekk⟩ := List.getElem_of_mem hmem
    have hE3 := hQ.ents kk hkk
    rw [ekk] at hE3
    have k4 : w3.drew.cell? ⟨w.heap.size, 2, none⟩ = some (.int .i64 (last + 1)) := cell_box hE3 rfl
    have hM3 := MapAt.fr HMP.out hf3 (fun hx => by
      rcases hx with hx | hx | hx | ⟨j, hj, hx⟩
      · exact HH1.out.mb_A hx.symm
      · have h9 := HF5.out _ f2; have h8 : mb = w.heap.size := hx; omega
      · exact HH1.out.v_mb hx
      · exact HH1.out.mb_e j hj hx.symm)
    have hM4 : MapAt w3.drew mb n D := hM3
    obtain ⟨w4, hr4, hM5, hf4⟩ := put_run hM4 (by unfold maxLen; omega) (t := last + 1) (by unfold Is64; omega) (.pointer (some ⟨w.heap.size, 0, none⟩))
    have k5 : w4.cell? ⟨w.heap.size, 2, none⟩ = some (.int .i64 (last + 1)) := hf4.cell k4 (fun hx => by have h9 := HF5.out _ f2; have h8 : w.heap.size = mb := hx; omega)
    have HEND := hid (push_end (e := ⟨w.heap.size, x, wt, last + 1⟩) HH1.out HH2.out h3 (by rw [HLN.out]; exact hf) h5 f1 f2 HF3.out HF4.out HF5.out HFR2.out (Nat.le_refl _) rfl HB2.out hQ hf3 hbx (hg.imp id (fun h => h)) hM5 ((Fr.refl _ w3).drew.trans hf4))
    clear hQ hgA hA3 hf3 hbx hg b3 hmem ekk hE3 hM3 hM4 hM5 hf4
    go_wp2_with fail
    go_region_with ((first
      | fail))
    all_goals
      go_wp2_with fail
      go_ret2
      exact ⟨rfl, HEND.out⟩
end Go.Proofs.Ytchjdpmgocapjaa.S
