import Derived.Test.YtgidgmgpgfonnaaGreatKSCkP
/- Binds in memory: their cells; a list of binds under way; lent binds. -/
namespace Go.Proofs.YtgidgmgpgfonnaaGreat
open Go.RowKit Go.Deep

/-- A variable and the term bound to it, with where the term's list lies. -/
abbrev Bk := ByteArray × Kv
def bkCells (x : Bk) : List Value := [.string x.1, .string x.2.x.1, .int .i64 x.2.x.2, .slice x.2.a (lenF x.2.l) x.2.c]
def bkAll (l : List Bk) : List Value := l.flatMap bkCells
def bkBn (x : Bk) : Bn := (x.1, x.2.tn)
theorem bkAll_len : ∀ l : List Bk, (bkAll l).length = l.length * 4
  | [] => rfl
  | x :: r => by
    have := bkAll_len r
    simp only [bkAll, List.flatMap_cons, List.length_append, List.length_cons] at this ⊢
    simp only [bkCells, List.length_cons, List.length_nil]
    omega
theorem bkAll_snoc (l : List Bk) (x : Bk) : bkAll (l ++ [x]) = bkAll l ++ bkCells x := by simp [bkAll]
theorem bk_one (x : Bk) : ∀ u ∈ bkCells x, u.oneCell' = true := by
  intro u hu
  simp [bkCells] at hu
  rcases hu with rfl | rfl | rfl | rfl <;> rfl
theorem bkAll_at : ∀ (l : List Bk) (i : Nat) (h : i < l.length) (k : Nat), k < 4 → (bkAll l)[i * 4 + k]? = (bkCells l[i])[k]?
  | x :: r, 0, _, k, hk => by
    show (bkCells x ++ bkAll r)[0 * 4 + k]? = _
    rw [List.getElem?_append_left (by simp [bkCells]; omega)]
    simp
  | x :: r, i + 1, h, k, hk => by
    show (bkCells x ++ bkAll r)[(i + 1) * 4 + k]? = _
    rw [List.getElem?_append_right (by simp [bkCells]; omega)]
    have := bkAll_at r i (by simpa using h) k hk
    rw [show (i + 1) * 4 + k - (bkCells x).length = i * 4 + k by simp [bkCells]; omega]
    simpa using this
set_option maxRecDepth 100000 in
theorem Tryz.info43 : (Tryz.prog.info? 43).map (fun i => (i.zero, i.size, i.bytes)) = some (some (.agg #[.string ⟨#[]⟩, .string ⟨#[]⟩, .int .i64 0, .slice none 0 0]), 4, 64) := by kernel_rfl
set_option maxRecDepth 100000 in
/-- append of one bind. -/
theorem wpList_append_bk {ops : Array Oper} {rest : List Oper} {o : Oper} {a : Act} {Q : Exit → Act → World → Prop} {W : World} (hgd : o.guard = none) (s x : Operand)
    (ho : o.op = .call { callee := .builtin .append, args := #[s, x], argTypes := #[24, 24] }) (base : Nat) (v : Value) (bs : List Bk) (hs : a.eval s = v) (hown : W.ownsRow base 43 4 v bs.length (bkAll bs))
    (nb : Nat) (y : Bk) (hx : a.eval x = .slice (some ⟨nb, 0, none⟩) 1 1) (hm : ∀ j u, (bkCells y)[j]? = some u → W.cell? ((⟨nb, 0, none⟩ : Addr).add j) = some u) (hbig : bs.length ≤ 1048576) (hbase : base ≤ W.heap.size)
    (h : ∀ g' cap' w', w'.ownsRow base 43 4 (.slice (some ⟨g', 0, none⟩) (bs.length + 1) cap') (bs ++ [y]).length (bkAll (bs ++ [y])) → W.grownBy w' v.ownBlock → (some g' = v.ownBlock ∨ g' = W.heap.size) → wpList Tryz.prog ops Q rest (a.put o.dst (.slice (some ⟨g', 0, none⟩) (bs.length + 1) cap')) w') : wpList Tryz.prog ops Q (o :: rest) a W := by
  obtain ⟨i0, hi, hz0, hz1, hz2⟩ := info_parts Tryz.info43
  have hmax : maxLen = 9223372036854775807 := rfl
  refine wpList_append_lies _ hgd s x 24 ho base 43 i0 _ 4 64 Tryz.underlying24 hi hz0 hz1 hz2 rfl (by decide) v bs.length (bkAll bs) hs hown ⟨nb, 0, none⟩ 1 1 (bkCells y) hx rfl hm (bk_one y) (by decide) (by omega) (by omega) hbase _ rfl ?_
  intro g cap w' h1 h2 h3 _
  refine h g cap w' ?_ h2 ?_
  · rw [bkAll_snoc, List.length_append]
    exact h1
  · rcases h3 with h3 | h3
    · exact .inl h3.symm
    · exact .inr h3

/-- Binds under way: a row of its own, the terms' lists elsewhere. -/
structure LstB (mk : Bool) (B : Nat) (W : World) (v : Value) (ks : List Bk) : Prop where
  row : W.ownsRow B 43 4 v ks.length (bkAll ks)
  own : ∀ k ∈ ks, OwnTm mk (fun q => B ≤ q ∧ some q ≠ v.ownBlock) W k.2.x k.2.a k.2.c k.2.l
set_option maxRecDepth 100000 in
theorem LstB.nil (mk : Bool) (B : Nat) (W : World) : LstB mk B W (.slice none 0 0) [] := ⟨World.ownsRow_nil _ _ _ _, by simp⟩
set_option maxRecDepth 100000 in
theorem LstB.below {mk : Bool} {B : Nat} {W W' : World} {v : Value} {ks : List Bk} (h : LstB mk B W v ks) (hb : Below W.heap.size W W') : LstB mk B W' v ks := ⟨owns_below h.row hb, fun k hk => (h.own k hk).below hb⟩
set_option maxRecDepth 100000 in
theorem LstB.base {mk : Bool} {B B' : Nat} {W : World} {v : Value} {ks : List Bk} (h : LstB mk B W v ks) (hB : B' ≤ B) : LstB mk B' W v ks := ⟨owns_base h.row hB, fun k hk => (h.own k hk).mono (fun q _ hq => ⟨by omega, hq.2⟩)⟩
set_option maxRecDepth 100000 in
theorem LstB.lt {mk : Bool} {B : Nat} {W : World} {v : Value} {ks : List Bk} {g : Nat} (h : LstB mk B W v ks) (hg : v.ownBlock = some g) : g < W.heap.size := by
  obtain ⟨cur, hc⟩ := (owns_cells h.row hg).2
  exact (Array.getElem?_eq_some_iff.1 hc).1
set_option maxRecDepth 100000 in
theorem LstB.grow {mk : Bool} {B : Nat} {W W1 W2 : World} {v v' : Value} {ks ms : List Bk} (h : LstB mk B W v ks) (hW : Below W.heap.size W W1) (hm : ∀ k ∈ ms, OwnTm mk (fun q => W.heap.size ≤ q) W1 k.2.x k.2.a k.2.c k.2.l) (hB : B ≤ W.heap.size)
    (hg : W1.grownBy W2 v.ownBlock) (hat : v'.ownBlock = v.ownBlock ∨ v'.ownBlock = some W1.heap.size) (ho : W2.ownsRow B 43 4 v' (ks ++ ms).length (bkAll (ks ++ ms))) : LstB mk B W2 v' (ks ++ ms) := by
  refine ⟨ho, fun k hk => ?_⟩
  have h2 : OwnTm mk (fun q => (B ≤ q ∧ some q ≠ v'.ownBlock) ∧ some q ≠ v.ownBlock) W1 k.2.x k.2.a k.2.c k.2.l := by
    rcases List.mem_append.1 hk with hk | hk
    · have h0 : OwnTm mk (fun q => (B ≤ q ∧ some q ≠ v'.ownBlock) ∧ some q ≠ v.ownBlock) W k.2.x k.2.a k.2.c k.2.l := (h.own k hk).mono (fun q hq hp => ⟨⟨hp.1, by
        rcases hat with e | e
        · rw [e]; exact hp.2
        · rw [e]; intro e'; cases e'; have := hW.size; omega⟩, hp.2⟩)
      exact h0.below hW
    · refine (hm k hk).mono (fun q hq hp => ?_)
      have hne : some q ≠ v.ownBlock := fun e => by have := h.lt e.symm; omega
      refine ⟨⟨by omega, ?_⟩, hne⟩
      rcases hat with e | e
      · rw [e]; exact hne
      · rw [e]; intro e'; cases e'; omega
  exact (h2.keep (fun q hq hlt => hg.block q hlt hq.2)).mono (fun q _ hq => hq.1)
/-- One bind of a row. -/
theorem row_bd {B : Nat} {W : World} {ks : List Bk} {g n cap : Nat} (h : W.ownsRow B 43 4 (.slice (some ⟨g, 0, none⟩) n cap) n (bkAll ks)) (i : Nat) (hi : i < ks.length) (ht : TmAt W ks[i].2.x ks[i].2.a ks[i].2.c ks[i].2.l) : BdAt W g (0 + i * 4) (bkBn ks[i]) ks[i].2.a ks[i].2.c := by
  have hat := owns_at h
  have each : ∀ k u, k < 4 → (bkCells ks[i])[k]? = some u → W.cell? ⟨g, 0 + (i * 4 + k), none⟩ = some u := fun k u hk hu => hat _ u (by rw [bkAll_at ks i hi k hk]; exact hu)
  refine ⟨?_, ?_, ?_, ?_, ht⟩
  · have := each 0 _ (by decide) rfl
    rw [Nat.add_zero] at this
    exact this
  · have := each 1 _ (by decide) rfl
    rw [← Nat.add_assoc] at this
    exact this
  · have := each 2 _ (by decide) rfl
    rw [← Nat.add_assoc] at this
    exact this
  · have := each 3 _ (by decide) rfl
    rw [← Nat.add_assoc] at this
    exact this

/-- Lent binds: a row with a mark behind it, and lent terms. -/
structure LentB (w : World) (g cap : Nat) (bs : List Bn) : Prop where
  room : bs.length + 1 ≤ cap
  most : cap ≤ maxLen
  mark : w.cell? ⟨g, bs.length * 4, none⟩ = some (.string markB)
  cells : ∀ i (h : i < bs.length), ∃ a c, BdAt w g (0 + i * 4) bs[i] a c ∧ OwnTm true (fun _ => True) w bs[i].2.1 a c bs[i].2.2
  fits : ∀ x ∈ bs, x.1.size ≤ maxLen
theorem LentB.below {w w' : World} {g cap : Nat} {bs : List Bn} (h : LentB w g cap bs) (hb : Below w.heap.size w w') : LentB w' g cap bs :=
  ⟨h.room, h.most, bd_cell hb _ _ h.mark, fun i hi => let ⟨a, c, h1, h2⟩ := h.cells i hi; ⟨a, c, h1.below hb, h2.below hb⟩, h.fits⟩
theorem LentB.binds {w : World} {g cap : Nat} {bs : List Bn} (h : LentB w g cap bs) : BindsAt w (some ⟨g, 0, none⟩) bs.length bs :=
  ⟨rfl, by have := h.room; have := h.most; omega, fun i hi => let ⟨a, c, h1, _⟩ := h.cells i hi; ⟨g, 0, a, c, rfl, h1⟩, h.fits⟩
/-- A list of lent binds with a mark behind it. -/
theorem lent_of {B : Nat} {W : World} {ks : List Bk} {bs : List Bn} {m : Bk} {g cap : Nat} {P : Nat → Prop} (hm : m.1 = markB) (hr : W.ownsRow B 43 4 (.slice (some ⟨g, 0, none⟩) (ks.length + 1) cap) (ks.length + 1) (bkAll (ks ++ [m]))) (ho : ∀ k ∈ ks, OwnTm true P W k.2.x k.2.a k.2.c k.2.l) (hbs : ks.map bkBn = bs) (hf : ∀ x ∈ bs, x.1.size ≤ maxLen) : LentB W g cap bs := by
  have hl : ks.length = bs.length := by rw [← hbs, List.length_map]
  have hc : ks.length + 1 ≤ cap ∧ cap ≤ maxLen := owns_cap hr
  refine ⟨by omega, hc.2, ?_, fun i hi => ?_, hf⟩
  · have hat := owns_at hr (ks.length * 4) (.string m.1) (by rw [show ks.length * 4 = ks.length * 4 + 0 from rfl, bkAll_at (ks ++ [m]) ks.length (by simp) 0 (by decide)]; simp [bkCells])
    rw [← hl, ← hm]
    simpa using hat
  · have hi' : i < ks.length := by omega
    have e : (ks ++ [m])[i]'(by simp; omega) = ks[i] := List.getElem_append_left hi'
    have h2 := ho ks[i] (List.getElem_mem _)
    have h1 := row_bd hr i (by simp; omega) (by rw [e]; exact h2.tm)
    rw [e] at h1
    have e2 : bkBn ks[i] = bs[i] := by simp [← hbs]
    rw [e2] at h1
    refine ⟨_, _, h1, ?_⟩
    rw [← e2]
    exact h2.mono (fun _ _ _ => trivial)
end Go.Proofs.YtgidgmgpgfonnaaGreat
