/- Picked: the rows of a mask, in new memory. -/
import Derived.Test.YteakakonjfcpmaaDoorPkOwn
namespace Go.Proofs.YteakakonjfcpmaaDoor
open Go.RowKit Go.Shelf

/-- Rows that a call has made, each in memory of its own. -/
def PRows (W : World) (base : Nat) (v : Value) (l : List (List Int)) : Prop :=
  ∃ vs : List Value, OwnZ W base 29 (.slice none 0 0) v vs ∧ vs.length = l.length ∧ ∀ i (h : i < l.length), ∃ q d, vs[i]? = some (.slice q l[i].length d) ∧ CRow W base q d l[i]
theorem CRow.own {w : World} {base : Nat} {q : Option Addr} {d : Nat} {ns : List Int} (h : CRow w base q d ns) {k : Nat} (hk : (Value.slice q ns.length d).ownBlock = some k) : base ≤ k ∧ ∃ cur, w.heap[k]? = some (.cells cur 3 (0, 0)) := by
  rcases h.2 with ⟨h1, _⟩ | ⟨g, cap, cur, h1, h2, h3, _⟩
  · rw [h1] at hk; cases hk
  · rw [h1] at hk
    cases hk
    exact ⟨h2, cur, h3⟩
theorem CRow.keep3 {w w' : World} {base : Nat} {q : Option Addr} {d : Nat} {ns : List Int} (h : CRow w base q d ns) (hs : ∀ (k : Nat) (cur : Array Value), w.heap[k]? = some (Obj.cells cur 3 (0, 0)) → w'.heap[k]? = w.heap[k]?) : CRow w' base q d ns :=
  ⟨h.1, by
    rcases h.2 with h0 | ⟨g, cap, cur, h1, h2, h3, h4⟩
    · exact .inl h0
    · exact .inr ⟨g, cap, cur, h1, h2, (hs g cur h3).trans h3, h4⟩⟩
theorem OwnZ.type {w : World} {base e : Nat} {z v : Value} {xs : List Value} (h : OwnZ w base e z v xs) {k : Nat} (hk : v.ownBlock = some k) : ∃ cur, w.heap[k]? = some (.cells cur e (0, 0)) := by
  rcases h with ⟨rfl, _⟩ | ⟨g, cap, rfl, h2, h3, h4, h5⟩
  · cases hk
  · cases hk
    exact ⟨_, h5⟩
theorem PRows.add {w0 w1 w2 : World} {base : Nat} {v v' : Value} {l : List (List Int)} {row : List Int} {q : Option Addr} {d : Nat} {vs : List Value} (hz : OwnZ w0 base 29 (.slice none 0 0) v vs) (hl : vs.length = l.length) (hr : ∀ i (h : i < l.length), ∃ q d, vs[i]? = some (.slice q l[i].length d) ∧ CRow w0 base q d l[i]) (hb : Below w0.heap.size w0 w1) (hc : CRow w1 base q d row)
    (hz2 : OwnZ w2 base 29 (.slice none 0 0) v' (vs ++ [.slice q row.length d])) (hf : Fr (fun k => v.ownBlock = some k) w1 w2) : PRows w2 base v' (l ++ [row]) := by
  have hk : ∀ {q : Option Addr} {d : Nat} {ns : List Int}, CRow w1 base q d ns → CRow w2 base q d ns := fun h => CRow.keep3 h (fun k cur hk => hf.same k (Array.getElem?_eq_some_iff.1 hk).1 (fun hA => by
    obtain ⟨cur', h1⟩ := (hz.below hb).type hA
    rw [hk] at h1
    injection h1 with h1
    injection h1 with _ h1
    exact absurd h1 (by decide)))
  refine ⟨_, hz2, by simp [hl], fun i hi => ?_⟩
  by_cases hlt : i < l.length
  · obtain ⟨q', d', h1, h2⟩ := hr i hlt
    refine ⟨q', d', ?_, ?_⟩
    · rw [List.getElem?_append_left (by omega), h1]
      simp [List.getElem_append_left hlt]
    · rw [List.getElem_append_left hlt]
      exact hk (h2.below hb)
  · have e1 : i = l.length := by simp at hi; omega
    subst e1
    refine ⟨q, d, ?_, ?_⟩
    · rw [List.getElem?_append_right (by omega)]
      simp [hl]
    · simp only [List.getElem_append_right (Nat.le_refl _), Nat.sub_self, List.getElem_singleton]
      exact hk hc
theorem PRows.rows {W : World} {base : Nat} {a : Option Addr} {n c : Nat} {l : List (List Int)} (h : PRows W base (.slice a n c) l) (hs : l.length ≤ maxLen) : RowsIn (fun b => base ≤ b ∧ b < W.heap.size) W a l := by
  obtain ⟨vs, hz, hl, hr⟩ := h
  refine ⟨hs, fun i hi => ?_⟩
  obtain ⟨q, d, h1, h2⟩ := hr i hi
  obtain ⟨g, hg, hb, hc⟩ := hz.cell (i := i) (by omega)
  rw [List.getElem?_eq_getElem (by omega)] at h1
  rw [Option.some.inj h1] at hc
  exact ⟨g, 0, q, d, hg, ⟨hb, World.block_lt_of_cell? W _ hc⟩, hc, h2.ints⟩
theorem PRows.form {W : World} {base : Nat} {v : Value} {l : List (List Int)} (h : PRows W base v l) : ∃ p c, v = .slice p l.length c := by
  obtain ⟨vs, hz, hl, _⟩ := h
  obtain ⟨p, c, h1⟩ := hz.form
  exact ⟨p, c, by rw [h1, hl]⟩
/-- The rows of a mask ahead of a place. -/
def pickTo (m : Int) (rs : List (List Int)) : Nat → List (List Int)
  | 0 => []
  | j + 1 => if hasB m j = true then pickTo m rs j ++ [rs.getD j []] else pickTo m rs j
theorem pickTo_len (m : Int) (rs : List (List Int)) : ∀ j, (pickTo m rs j).length ≤ j
  | 0 => Nat.le_refl _
  | j + 1 => by
    have := pickTo_len m rs j
    unfold pickTo
    split
    · simp; omega
    · omega
theorem Tryd.info29 : (Tryd.prog.info? 29).map (fun i => (i.zero, i.size, i.bytes)) = some (some (.slice none 0 0), 1, 24) := by kernel_rfl
set_option maxRecDepth 100000 in
set_option maxHeartbeats 4000000 in
theorem picked_any (a : Option Addr) (c : Nat) (rs : List (List Int)) (m : Int) (w : World) (hR : RowsAt w a rs) (hn : rs.length ≤ 1048576) (hr : ∀ r ∈ rs, r.length ≤ 1048576) :
    Calls Tryd.prog 20 #[.slice a rs.length c, .int .u32 m] w fun e w' => ∃ v, e = .returned v ∧ PRows w' w.heap.size v (pickTo m rs rs.length) ∧ Below w.heap.size w w' := by
  obtain ⟨i0, hi0, hz0, hz1, hz2⟩ := info_parts Tryd.info29
  have HR := hid hR; have HN := hid hr
  have hmax : maxLen = 9223372036854775807 := rfl
  clear hR hr
  go_enter Tryd.func20, Tryd.ntmps20
  go_wp2_with fail
  go_loopw [5, 10] (fun lv iv wr => ∃ (j : Nat), j ≤ rs.length ∧ iv = .int .i64 j ∧ PRows wr w.heap.size lv (pickTo m rs j) ∧ Below w.heap.size w wr) (fun _ iv _ => rs.length - (intOf iv).toNat)
  case atStart => exact ⟨0, Nat.zero_le _, rfl, ⟨[], OwnZ.nil _ _ _ _, rfl, fun i hi => absurd hi (Nat.not_lt_zero i)⟩, Below.refl _ _⟩
  case round =>
    obtain ⟨j, hj, rfl, hP, hb⟩ := hrel
    have HP := hid hP; have HB := hid hb
    by_cases hlt : j < rs.length
    · obtain ⟨b1, o1, p1, c1, rfl, hc, hrow⟩ := (HR.out.below hb).cells j hlt
      have hmem : rs[j] ∈ rs := List.getElem_mem hlt
      have hgd : rs.getD j [] = rs[j] := by rw [List.getD_eq_getElem?_getD, List.getElem?_eq_getElem hlt]; rfl
      have HSU : Hid (pickTo m rs (j + 1) = if hasB m j = true then pickTo m rs j ++ [rs[j]] else pickTo m rs j) := hid (by conv => lhs; unfold pickTo; rw [hgd])
      have HCL := hid (clone_any p1 c1 rs[j] wr hrow (HN.out _ hmem))
      obtain ⟨r, hr⟩ : ∃ r, rs[j] = r := ⟨_, rfl⟩
      rw [hr] at hc HCL HSU
      have HH := hid (has_any m j wr)
      obtain ⟨bv, hbv⟩ : ∃ bv, hasB m j = bv := ⟨_, rfl⟩
      rw [hbv] at HH HSU
      obtain ⟨vs, hzz, hlv, hrs⟩ := hP
      have HZ := hid hzz; have HLV := hid hlv; have HRS := hid hrs
      have hpl := pickTo_len m rs j
      clear hb hrow hmem hgd hr hbv hzz hrs
      cases bv
      · go_wp2_with fail
        refine HH.out.mono ?_
        rintro e w2 ⟨rfl, rfl⟩
        go_wp2_with fail
        go_roundw
        case rel => exact ⟨j + 1, by omega, by go_num, by rw [HSU.out]; exact HP.out, HB.out⟩
        case measure => simp [intOf]; omega
      · have hvl : vs.length ≤ 1048576 := by omega
        clear hlv
        go_wp2_with fail
        refine HH.out.mono ?_
        rintro e w2 ⟨rfl, rfl⟩
        go_wp2_with fail
        refine HCL.out.mono ?_
        rintro e w3 ⟨q, d, rfl, hc3, hb3⟩
        obtain ⟨g, cap, w4, hr4, hz4, hf4⟩ := app_one 27 27 29 i0 _ 24 Tryd.underlying27 hi0 hz0 hz1 hz2 rfl w.heap.size u5 vs (.slice q r.length d) w3 (HZ.out.below hb3) rfl (by omega) (by omega) (Nat.le_trans HB.out.size hb3.size)
        have HP4 := hid (PRows.add HZ.out HLV.out HRS.out hb3 (hc3.mono HB.out.size) hz4 hf4)
        have HB4 : Hid (Below w.heap.size w w4) := hid ((HB.out.trans (hb3.mono HB.out.size)).trans (hf4.below (fun k hk => (HZ.out.lt hk).1) (Nat.le_trans HB.out.size hb3.size)))
        clear hc3 hb3 hz4 hf4
        go_wp2_with (first
          | (at_builtin; refine Lib.wpList_append_run _ rfl _ _ _ _ rfl _ _ rfl rfl _ _ hr4 ?_; clear hr4)
          | fail)
        go_roundw
        case rel => exact ⟨j + 1, by omega, by go_num, by rw [HSU.out]; have h9 := HP4.out; rw [List.length_append, List.length_singleton] at h9; exact h9, HB4.out⟩
        case measure => simp [intOf]; omega
    · have e1 : j = rs.length := by omega
      rw [e1] at HP
      clear hP hb
      go_wp2_with fail
      go_ret
      exact ⟨_, rfl, HP.out, HB.out⟩
end Go.Proofs.YteakakonjfcpmaaDoor
