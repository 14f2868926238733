/- What fits and tableOf answer. -/
import Derived.Test.YtgcnjpiiofjljaaGreatDoorSLeft
namespace Go.Proofs.YtgcnjpiiofjljaaGreatDoor
open Go.RowKit Go.Deep

set_option maxRecDepth 100000 in
theorem fits_any (mv : Value) (lk : ByteArray → Option Tn) (x : ByteArray × Int) (l : Fo) (a : Option Addr) (c : Nat) (w : World) (hT : TmAt w x a c l) (hM : TabV w mv lk) :
    Calls Tryz.prog 52 #[mv, .agg #[.string x.1, .int .i64 x.2, .slice a (lenF l) c]] w fun e w' => e = .returned (.bool (decide (0 ≤ leftN lk x l 400))) ∧ Below w.heap.size w w' := by
  have O0 := hid (One.new w x a (lenF l) c)
  have b1 := alloc_below0 w (.cells #[.string x.1, .int .i64 x.2, .slice a (lenF l) c] 27)
  have HC := hid (left_any lk (nodesF l) x l a c mv 400 _ (Nat.le_refl _) (hT.below b1) (hM.below b1) (by omega) (by omega))
  have B1 := hid b1
  have t0 := O0.out.t.c0; have t1 := O0.out.t.c1; have t2 := O0.out.t.c2
  clear hT hM b1
  go_enter Tryz.func52, Tryz.ntmps52
  go_wp2_with fail
  refine HC.out.mono ?_
  rintro e w1 ⟨rfl, hb⟩
  have HL := hid (B1.out.trans (hb.mono B1.out.size))
  clear hb HC
  go_wp2_with fail
  go_ret
  exact ⟨rfl, HL.out⟩
abbrev Bn := ByteArray × Tn
/-- A bind's cells. -/
structure BdAt (w : World) (b o : Nat) (x : Bn) (a : Option Addr) (c : Nat) : Prop where
  var : w.cell? ⟨b, o, none⟩ = some (.string x.1)
  name : w.cell? ⟨b, o + 1, none⟩ = some (.string x.2.1.1)
  sym : w.cell? ⟨b, o + 2, none⟩ = some (.int .i64 x.2.1.2)
  list : w.cell? ⟨b, o + 3, none⟩ = some (.slice a (lenF x.2.2) c)
  tm : TmAt w x.2.1 a c x.2.2
theorem bd_cell {w w' : World} (hb : Below w.heap.size w w') : ∀ p v, w.cell? p = some v → w'.cell? p = some v := fun p v h => by
  rw [hb.cell (World.block_lt_of_cell? w p h)]; exact h
theorem BdAt.below {w w' : World} {b o : Nat} {x : Bn} {a : Option Addr} {c : Nat} (h : BdAt w b o x a c) (hb : Below w.heap.size w w') : BdAt w' b o x a c :=
  ⟨bd_cell hb _ _ h.var, bd_cell hb _ _ h.name, bd_cell hb _ _ h.sym, bd_cell hb _ _ h.list, h.tm.below hb⟩
/-- The slice with this address and length holds these binds. -/
structure BindsAt (w : World) (p : Option Addr) (n : Nat) (l : List Bn) : Prop where
  len : n = l.length
  small : n ≤ maxLen
  cells : ∀ i (h : i < l.length), ∃ b off a c, p = some ⟨b, off, none⟩ ∧ BdAt w b (off + i * 4) l[i] a c
  fits : ∀ x ∈ l, x.1.size ≤ maxLen
theorem BindsAt.below {w w' : World} {p : Option Addr} {n : Nat} {l : List Bn} (h : BindsAt w p n l) (hb : Below w.heap.size w w') : BindsAt w' p n l :=
  ⟨h.len, h.small, fun i hi => let ⟨b, off, a, c, h1, h2⟩ := h.cells i hi; ⟨b, off, a, c, h1, h2.below hb⟩, h.fits⟩
/-- What stands for a name: the last bind's term. -/
def lkB (l : List Bn) : ByteArray → Option Tn := l.foldl (fun lk b s => if s = b.1 then some b.2 else lk s) (fun _ => none)
theorem lkB_snoc (l : List Bn) (x : Bn) : lkB (l ++ [x]) = fun s => if s = x.1 then some x.2 else lkB l s := by unfold lkB; rw [List.foldl_append]; rfl
theorem lkB_take (l : List Bn) (i : Nat) (h : i < l.length) : lkB (l.take (i + 1)) = fun s => if s = l[i].1 then some l[i].2 else lkB (l.take i) s := by rw [List.take_succ_eq_append_getElem h, lkB_snoc]
/-- A table stays a table behind a store. -/
theorem TabAt.put {W : World} {b n : Nat} {lk : ByteArray → Option Tn} (h : TabAt W b n lk) (hn : n < maxLen) (s : ByteArray) (hs : s.size ≤ maxLen) (t : Tn) (a : Option Addr) (c : Nat) (ht : TmAt W t.1 a c t.2) :
    ∃ W', (Instr.mapUpdate 54 (.map (some b)) (.string s) (.agg #[.string t.1.1, .int .i64 t.1.2, .slice a (lenF t.2) c])).run Tryz.prog W = .ok () W' ∧ TabAt W' b (n + 1) (fun s' => if s' = s then some t else lk s') ∧ W.grownBy W' (some b) := by
  obtain ⟨D, hD, hl⟩ := h.ex
  have hM := hD.isMap
  obtain ⟨W', h1, h2, h3⟩ := put_run hD hn s hs (.agg #[.string t.1.1, .int .i64 t.1.2, .slice a (lenF t.2) c])
  have hk : ∀ p v, W.cell? p = some v → W'.cell? p = some v := fun p v hv => by
    obtain ⟨es, clock, hb, _⟩ := hD
    have hne : p.block ≠ b := fun e => by
      simp only [World.cell?, e, hb] at hv
      cases hv
    have hlt := World.block_lt_of_cell? W p hv
    have hsame : W'.heap[p.block]? = W.heap[p.block]? := h3.block _ hlt (fun e => hne (Option.some.inj e))
    simp only [World.cell?, hsame] at hv ⊢
    exact hv
  refine ⟨W', h1, ⟨_, h2, fun s' => ?_⟩, h3⟩
  by_cases e : s' = s
  · simp only [if_pos e]
    exact ⟨a, c, by rw [look_put hM, if_pos e]; rfl, ht.kept hk⟩
  · simp only [if_neg e]
    have h4 := hl s'
    rw [look_put hM, if_neg e]
    cases hs' : lk s' with
    | none => rw [hs'] at h4; exact h4
    | some t' =>
      rw [hs'] at h4
      obtain ⟨a', c', h5, h6⟩ := h4
      exact ⟨a', c', h5, h6.kept hk⟩
theorem map_low {w W W' : World} (hl : Below w.heap.size w W) (hg : W.grownBy W' (some w.heap.size)) : Below w.heap.size w W' := hl.trans ⟨hg.os, hg.tape, hg.output, hg.size, fun k hk => hg.block k (Nat.lt_of_lt_of_le hk hl.size) (fun e => by have := Option.some.inj e; omega)⟩
set_option maxRecDepth 100000 in
set_option maxHeartbeats 1000000 in
/-- tableOf. -/
theorem table_any (p : Option Addr) (cap : Nat) (bs : List Bn) (w : World) (hB : BindsAt w p bs.length bs) (hn : bs.length ≤ 1048576) :
    Calls Tryz.prog 36 #[.slice p bs.length cap] w fun e w' => e = .returned (.map (some w.heap.size)) ∧ TabAt w' w.heap.size bs.length (lkB bs) ∧ Below w.heap.size w w' := by
  have hmk := make_run w (bs.length : Int)
  have HM := hid (map_made w)
  have HL := hid (alloc_below0 w (.map #[] 0))
  have HB := hid hB
  clear hB
  go_enter Tryz.func36, Tryz.ntmps36
  go_wp2_with fail
  clear hmk
  generalize w.alloc (.map #[] 0) = V at HM HL ⊢
  go_loopw [11] (fun iv wr => ∃ i : Nat, i ≤ bs.length ∧ iv = .int .i64 i ∧ TabAt wr w.heap.size i (lkB (bs.take i)) ∧ Below w.heap.size w wr) (fun iv _ => bs.length - (intOf iv).toNat)
  case atStart => exact ⟨0, Nat.zero_le _, rfl, ⟨_, HM.out, fun s => rfl⟩, HL.out⟩
  case round =>
    obtain ⟨i, hi, rfl, htab, hlow⟩ := hrel
    by_cases hlt : i < bs.length
    · obtain ⟨b1, o1, a1, c1, rfl, hbd⟩ := (HB.out.below hlow).cells i hlt
      have hfit := HB.out.fits bs[i] (List.getElem_mem hlt)
      have hlk := lkB_take bs i hlt
      obtain ⟨⟨vn, ⟨x, l⟩⟩, hy⟩ : ∃ y, bs[i] = y := ⟨_, rfl⟩
      rw [hy] at hbd hfit hlk
      have p0 := hbd.var; have p1 := hbd.name; have p2 := hbd.sym; have p3 := hbd.list
      dsimp only at p0 p1 p2 p3 hfit hlk
      have bx := alloc_below0 wr (.cells #[.string vn, .string x.1, .int .i64 x.2, .slice a1 (lenF l) c1] 42)
      obtain ⟨W', hrun, htab', hgr⟩ := (htab.below bx).put (by unfold maxLen; omega) vn hfit (x, l) a1 c1 (hbd.tm.below bx)
      have HT' := hid htab'; have HG := hid (map_low (hlow.trans (bx.mono hlow.size)) hgr); have HLK := hid hlk
      clear hbd htab htab' hgr hlk hy bx
      go_wp2_with fail
      refine ⟨⟨i + 1, by omega, rfl, ?_, HG.out⟩, by simp [intOf]; omega⟩
      rw [HLK.out]
      exact HT'.out
    · have he : i = bs.length := by omega
      have ht : bs.take i = bs := List.take_of_length_le (by omega)
      rw [ht, he] at htab
      go_wp2
      go_ret
      exact ⟨rfl, htab, hlow⟩
end Go.Proofs.YtgcnjpiiofjljaaGreatDoor
