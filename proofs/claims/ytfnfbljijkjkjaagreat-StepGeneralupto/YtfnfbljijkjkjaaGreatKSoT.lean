import Derived.StillTailTactics
import Derived.Test.YtfnfbljijkjkjaaGreatKSoF
/- Whichever side stands first, the same is done, plainly; and the walk of StepTurned, but for its head. -/
namespace Go.Proofs.YtfnfbljijkjkjaaGreat
open Go.RowKit Go.Deep

def swapP (p : Tn × Tn) : Tn × Tn := (p.2, p.1)
def turnW (V : Wy) : Wy := { V with ls := V.ls.map swapP }
theorem bytes_one : ∀ a b : List UInt8, Lib.compareBytes a b = -1 ∨ Lib.compareBytes a b = 0 ∨ Lib.compareBytes a b = 1
  | [], [] => .inr (.inl rfl)
  | [], _ :: _ => .inl rfl
  | _ :: _, [] => .inr (.inr rfl)
  | a :: as', b :: bs => by
    rw [Lib.compareBytes]
    split
    · exact .inl rfl
    · split
      · exact .inr (.inr rfl)
      · exact bytes_one as' bs
theorem zip_swap : ∀ l m : List Tn, (l.zip m).map swapP = m.zip l
  | [], [] => rfl
  | [], _ :: _ => rfl
  | _ :: _, [] => rfl
  | x :: l, y :: m => by simp only [List.zip_cons_cons, List.map_cons, zip_swap l m]; rfl
theorem ofVars_turn {l r : Tn} (hl : noName l.1.1 = false) (hr : noName r.1.1 = false) : ofVarsP l r = ofVarsP r l := by
  have e1 : cmpN l r = cmpS l.1.1 r.1.1 := by unfold cmpN cmp1; rw [if_pos hl, if_pos hr]
  have e2 := cmpN_anti l r
  unfold ofVarsP
  rw [e2]
  rcases bytes_one l.1.1.data.toList r.1.1.data.toList with h | h | h
  · have h' : cmpN l r = -1 := e1.trans h
    rw [h']; rfl
  · have h' : cmpN l r = 0 := e1.trans h
    rw [h']; rfl
  · have h' : cmpN l r = 1 := e1.trans h
    rw [h']; rfl
theorem turn_none {V : Wy} (h : V.ls = []) : turnW V = V := by
  obtain ⟨a, b, c, d, e⟩ := V
  dsimp only at h
  subst h; rfl
theorem look_turn (sg : List Sym) (l r : Tn) : turnW (lookP sg r l) = lookP sg l r := by
  unfold lookP
  by_cases hl : noName l.1.1 = false <;> by_cases hr : noName r.1.1 = false
  · rw [if_pos hr, if_pos hl, if_pos hl, if_pos hr, turn_none (ofVars_none _ _), ofVars_turn hr hl]
  · rw [if_neg hr, if_pos hl, if_pos hl, if_neg hr, turn_none (ofVar_none _ _)]
  · rw [if_pos hr, if_neg hl, if_neg hl, if_pos hr, turn_none (ofVar_none _ _)]
  · rw [if_neg hr, if_neg hl, if_neg hl, if_neg hr]
    by_cases hs : l.1.2 = r.1.2
    · rw [if_pos hs.symm, if_pos hs, hs]
      split
      · unfold sideP
        by_cases hn : lenF l.2 = lenF r.2
        · rw [if_pos hn, if_pos hn.symm]
          unfold turnW
          dsimp only
          rw [zip_swap]
        · rw [if_neg hn, if_neg (fun h => hn h.symm)]
          exact turn_none rfl
      · exact turn_none rfl
    · rw [if_neg (fun h => hs h.symm), if_neg hs]
      exact turn_none rfl
theorem one_turn (sg : List Sym) (l r : Tn) : turnW (oneP sg r l) = oneP sg l r := by
  unfold oneP
  rw [cmpN_anti l r]
  by_cases h : cmpN l r = 0
  · rw [if_pos h, if_pos (by omega)]; exact turn_none rfl
  · rw [if_neg h, if_neg (by omega)]; exact look_turn sg l r

/-- The program is there. -/
def HeadOk : Prop := ∀ w : World, Calls Tryz.prog 5 #[] w fun e w' => e = .returned (.bool true) ∧ Below w.heap.size w w'

/-- How far the second answer's equations are turned. -/
structure TuSt (wa : World) (base g n : Nat) (tk : Kv) (ks : List Kv) (ls : List (Tn × Tn)) (j : Nat) (ds : List Kv) (W : World) : Prop where
  low : Below wa.heap.size wa W
  row : EqRow W g n (ds ++ ks.drop (2 * j))
  len : ds.length = 2 * j
  tn : ds.map Kv.tn = flatL ((ls.take j).map swapP)
  mem : ∀ k ∈ ds, k ∈ ks
  sep : SepL W (tk :: ks) (fun q => base ≤ q ∧ q ≠ g)
theorem TuSt.below {wa : World} {base g n : Nat} {tk : Kv} {ks : List Kv} {ls : List (Tn × Tn)} {j : Nat} {ds : List Kv} {W W' : World} (h : TuSt wa base g n tk ks ls j ds W) (hb : Below W.heap.size W W') : TuSt wa base g n tk ks ls j ds W' :=
  ⟨h.low.trans (hb.mono h.low.size), h.row.below hb, h.len, h.tn, h.mem, h.sep.keep (fun q _ hq => hb.block q hq)⟩
theorem TuSt.drew {wa : World} {base g n : Nat} {tk : Kv} {ks : List Kv} {ls : List (Tn × Tn)} {j : Nat} {ds : List Kv} {W : World} (h : TuSt wa base g n tk ks ls j ds W) : TuSt wa base g n tk ks ls j ds W.drew := h.below (Below.refl _ W).drew
theorem tu_step {wa : World} {base g n : Nat} {tk : Kv} {ks : List Kv} {ls : List (Tn × Tn)} {j : Nat} {ds : List Kv} {W : World} {k1 k2 : Kv} (h : TuSt wa base g n tk ks ls j ds W) (hg : wa.heap.size ≤ g) (hj : j < n) (hn : ls.length = n) (hk : ks.map Kv.tn = flatL ls) (hd : ks.drop (2 * j) = k1 :: k2 :: ks.drop (2 * (j + 1))) :
    TuSt wa base g n tk ks ls (j + 1) (ds ++ [k2, k1]) (set6 W g (j * 6) k2 k1) := by
  have hfar : ∀ q, q ≠ g → (set6 W g (j * 6) k2 k1).heap[q]? = W.heap[q]? := fun q hq => set6_far hq _ _ _
  have hbl := set6_below h.low hg (j * 6) k2 k1
  have hrow : EqRow (set6 W g (j * 6) k2 k1) g n (ds ++ [k2, k1] ++ ks.drop (2 * (j + 1))) := by
    have h3 := h.row
    rw [hd, show ds ++ k1 :: k2 :: ks.drop (2 * (j + 1)) = ds ++ [k1, k2] ++ ks.drop (2 * (j + 1)) by simp] at h3
    exact h3.put (by rw [h.len]; omega) (by omega) k2 k1
  generalize set6 W g (j * 6) k2 k1 = V at hfar hbl hrow ⊢
  have hm : ∀ k ∈ ks.drop (2 * j), k ∈ ks := fun k hk => List.mem_of_mem_drop hk
  rw [hd] at hm
  obtain ⟨f1, f2⟩ := flat_at ls j (by omega)
  rw [← hk, List.getElem?_map] at f1 f2
  have g1 : ks[2 * j]? = some k1 := by have := congrArg (·[0]?) hd; simpa using this
  have g2 : ks[2 * j + 1]? = some k2 := by have := congrArg (·[1]?) hd; simpa using this
  rw [g1, Option.map_some, Option.some.injEq] at f1
  rw [g2, Option.map_some, Option.some.injEq] at f2
  refine ⟨hbl, hrow, by rw [List.length_append, h.len]; simp only [List.length_cons, List.length_nil]; omega, ?_, fun k hk => ?_, h.sep.keep (fun q hq _ => hfar q hq.2)⟩
  · rw [List.map_append, h.tn, List.take_succ_eq_append_getElem (by omega), List.map_append]
    show _ = flatL (_ ++ [swapP ls[j]])
    rw [flat_snoc]
    show _ ++ [k2.tn, k1.tn] = _ ++ [ls[j].2, ls[j].1]
    rw [f1, f2]
  · rcases List.mem_append.1 hk with hk | hk
    · exact h.mem k hk
    · simp only [List.mem_cons, List.not_mem_nil, or_false] at hk
      rcases hk with rfl | rfl
      · exact hm _ (by simp)
      · exact hm _ (by simp)
theorem tu_end {wa : World} {base g n : Nat} {tk : Kv} {ks : List Kv} {V : Wy} {ds : List Kv} {W : World} {lc : Nat} (h : TuSt wa base g n tk ks V.ls n ds W) (hn : V.ls.length = n) (hl : lc = n) (hk : ks.length = 2 * n) (ht : tk.tn = V.t) :
    WyAt W (.agg (wayC V.act V.bv tk.x tk.a (lenF tk.l) tk.c (some ⟨g, 0, none⟩) n lc V.sym)) (turnW V) := by
  obtain ⟨act, bv, t, ls, sym⟩ := V
  dsimp only at *
  subst hn hl ht
  have hts := h.sep.tms
  have hrow := h.row
  rw [List.drop_of_length_le (by omega), List.append_nil] at hrow
  refine ⟨tk.a, tk.c, ds, some ⟨g, 0, none⟩, ls.length, ?_, hts tk (by simp), ?_, fun k hk => hts k (by simp [h.mem k hk]), .inr ⟨g, rfl, fun i u hu => hrow.at hu⟩, ?_⟩
  · unfold turnW; dsimp only; rw [List.length_map]; rfl
  · rw [h.tn, List.take_length]; rfl
  · unfold turnW; dsimp only; rw [List.length_map]; exact Nat.le_refl _
end Go.Proofs.YtfnfbljijkjkjaaGreat
/- The walk of StepTurned. -/
namespace Go.Proofs.YtfnfbljijkjkjaaGreat
open Go.RowKit Go.Deep

end Go.Proofs.YtfnfbljijkjkjaaGreat
/- The signature of the examples; Size of the program. -/
namespace Go.Proofs.YtfnfbljijkjkjaaGreat
open Go.RowKit Go.Deep

def bA : ByteArray := ⟨#[97]⟩
def bOne : ByteArray := ⟨#[111, 110, 101]⟩
def bF : ByteArray := ⟨#[102]⟩
def bPlus : ByteArray := ⟨#[112, 108, 117, 115]⟩
def bTimes : ByteArray := ⟨#[116, 105, 109, 101, 115]⟩
def bX : ByteArray := ⟨#[88]⟩
def someL : List Sym := [⟨bA, 1, 0, ⟨#[]⟩⟩, ⟨bOne, 1, 0, ⟨#[]⟩⟩, ⟨bF, 1, 2, ⟨#[]⟩⟩, ⟨bPlus, 2, 2, ⟨#[]⟩⟩, ⟨bTimes, 3, 2, bOne⟩]

set_option maxRecDepth 100000 in
theorem some_any (w : World) : Calls Tryz.prog 17 #[] w fun e w' => ∃ g, e = .returned (.slice (some ⟨g, 0, none⟩) 5 5) ∧ SigAt w' (some ⟨g, 0, none⟩) 5 someL ∧ Below w.heap.size w w' := by
  go_enter Tryz.func17, Tryz.ntmps17
  go_wp2
  go_ret
  refine ⟨w.heap.size, rfl, ⟨rfl, by decide, fun i hi => ⟨w.heap.size, 0, rfl, ?_⟩, ?_⟩, (Below.refl _ w).alloc (Nat.le_refl _) _⟩
  · have hb := Box.new w 47 #[.string bA, .int .i64 1, .int .i64 0, .string ⟨#[]⟩, .string bOne, .int .i64 1, .int .i64 0, .string ⟨#[]⟩, .string bF, .int .i64 1, .int .i64 2, .string ⟨#[]⟩, .string bPlus, .int .i64 2, .int .i64 2, .string ⟨#[]⟩, .string bTimes, .int .i64 3, .int .i64 2, .string bOne]
    have hi : i < 5 := hi
    match i, hi with
    | 0, _ => exact ⟨hb.c 0, hb.c 1, hb.c 2, hb.c 3⟩
    | 1, _ => exact ⟨hb.c 4, hb.c 5, hb.c 6, hb.c 7⟩
    | 2, _ => exact ⟨hb.c 8, hb.c 9, hb.c 10, hb.c 11⟩
    | 3, _ => exact ⟨hb.c 12, hb.c 13, hb.c 14, hb.c 15⟩
    | 4, _ => exact ⟨hb.c 16, hb.c 17, hb.c 18, hb.c 19⟩
  · intro x hx
    simp only [someL, List.mem_cons, List.not_mem_nil, or_false] at hx
    rcases hx with rfl | rfl | rfl | rfl | rfl <;> exact ⟨by decide, by decide⟩

end Go.Proofs.YtfnfbljijkjkjaaGreat
