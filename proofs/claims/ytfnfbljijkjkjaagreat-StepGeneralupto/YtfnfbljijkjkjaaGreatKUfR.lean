import Derived.Test.YtfnfbljijkjkjaaGreatKUfQ
/- Free of the program: what its loop keeps. -/
namespace Go.Proofs.YtfnfbljijkjkjaaGreat
open Go.RowKit Go.Shelf Go.Deep

def tn2 (p : Eq2) : Tn × Tn := (p.1.tn, p.2.tn)
theorem unflat : ∀ (m : Nat) (ks : List Kv), ks.length = 2 * m → ∃ P : List Eq2, ks = flatK P ∧ P.length = m
  | 0, ks, h => ⟨[], List.eq_nil_of_length_eq_zero (by omega), rfl⟩
  | m + 1, [], h => by simp at h
  | m + 1, [_], h => by simp at h; omega
  | m + 1, a :: b :: r, h => by
    obtain ⟨P, h1, h2⟩ := unflat m r (by simp only [List.length_cons] at h; omega)
    exact ⟨(a, b) :: P, by rw [h1]; rfl, by rw [List.length_cons, h2]⟩
theorem flatK_tn (P : List Eq2) : (flatK P).map Kv.tn = flatL (P.map tn2) := by
  induction P with
  | nil => rfl
  | cons p r ih =>
    have e : flatK (p :: r) = p.1 :: p.2 :: flatK r := rfl
    have e2 : flatL ((p :: r).map tn2) = p.1.tn :: p.2.tn :: flatL (r.map tn2) := rfl
    rw [e, e2, List.map_cons, List.map_cons, ih]
theorem flatL_inj : ∀ {l m : List (Tn × Tn)}, flatL l = flatL m → l = m
  | [], [], _ => rfl
  | [], q :: m, h => by
    have e : flatL (q :: m) = q.1 :: q.2 :: flatL m := rfl
    rw [e] at h; cases h
  | p :: l, [], h => by
    have e : flatL (p :: l) = p.1 :: p.2 :: flatL l := rfl
    rw [e] at h; cases h
  | p :: l, q :: m, h => by
    have e : flatL (p :: l) = p.1 :: p.2 :: flatL l := rfl
    have e2 : flatL (q :: m) = q.1 :: q.2 :: flatL m := rfl
    rw [e, e2] at h
    obtain ⟨h1, h2⟩ := List.cons.inj h
    obtain ⟨h3, h4⟩ := List.cons.inj h2
    rw [flatL_inj h4, show p = q from Prod.ext h1 h3]
theorem flatL_map (f : Tn → Tn) (l : List (Tn × Tn)) : (flatL l).map f = flatL (l.map fun p => (f p.1, f p.2)) := by
  induction l with
  | nil => rfl
  | cons p r ih =>
    have e : flatL (p :: r) = p.1 :: p.2 :: flatL r := rfl
    have e2 : flatL ((p :: r).map fun p => (f p.1, f p.2)) = f p.1 :: f p.2 :: flatL (r.map fun p => (f p.1, f p.2)) := rfl
    rw [e, e2, List.map_cons, List.map_cons, ih]
/-- The sides with a variable put in, as equations again. -/
theorem put_eqs {r : List Eq2} {es' : List Kv} {nm : ByteArray} {T : Tn} (h : es'.map Kv.tn = (flatK r.reverse).map (fun k => w1T nm T k.tn)) : ∃ st : List Eq2, es' = flatK st.reverse ∧ st.map tn2 = putS nm T (r.map tn2) ∧ st.length = r.length := by
  have hl := congrArg List.length h
  rw [List.length_map, List.length_map, flatK_len, List.length_reverse] at hl
  obtain ⟨Q, h1, h2⟩ := unflat r.length es' hl
  subst h1
  refine ⟨Q.reverse, by rw [List.reverse_reverse], ?_, by rw [List.length_reverse, h2]⟩
  have e : (flatK r.reverse).map (fun k => w1T nm T k.tn) = ((flatK r.reverse).map Kv.tn).map (w1T nm T) := by rw [List.map_map]; rfl
  rw [e, flatK_tn, flatK_tn, flatL_map] at h
  have h3 := flatL_inj h
  rw [List.map_reverse, h3, List.map_reverse, ← List.map_reverse, List.reverse_reverse]
  rfl
theorem room_eqs (nm : ByteArray) (T : Tn) (r : List Eq2) (bs : List Bk) : roomAll nm T (flatK r.reverse) bs = roomS nm T (r.map tn2) (bs.map btn) := by
  unfold roomAll roomS
  congr 1
  · have e : ∀ r : List Eq2, (flatK r).all (roomK nm ((nodesF T.2 : Int) + 1)) = (r.map tn2).all fun p => roomT nm T p.1 && roomT nm T p.2 := by
      intro r
      induction r with
      | nil => rfl
      | cons p r ih =>
        have e : flatK (p :: r) = p.1 :: p.2 :: flatK r := rfl
        rw [e, List.all_cons, List.all_cons, ih, List.map_cons, List.all_cons, Bool.and_assoc]
        rfl
    rw [e, List.map_reverse, List.all_reverse]
  · rw [List.all_map]
    rfl
theorem put_binds {bs bs' : List Bk} {nm : ByteArray} {T : Tn} (h : bs'.map btn = bs.map (fun b => (b.1, w1T nm T b.2.tn)) ++ [(nm, T)]) : bs'.map btn = putB nm T (bs.map btn) ++ [(nm, T)] := by
  rw [h]
  unfold putB
  rw [List.map_map]
  rfl
theorem least_p (p : Nat → Prop) : ∀ n, p n → ∃ k, p k ∧ ∀ m, p m → k ≤ m := by
  classical
  intro n
  induction n using Nat.strongRecOn with
  | _ n ih =>
    intro hn
    by_cases h : ∃ m, m < n ∧ p m
    · obtain ⟨m, hm, hp⟩ := h
      exact ih m hm hp
    · exact ⟨n, hn, fun m hm => Nat.le_of_not_lt fun hlt => h ⟨m, hlt, hm⟩⟩
theorem count_of (I : Nat → World → Prop) : ∃ mu : World → Nat, ∀ W f, I f W → I (mu W) W ∧ mu W ≤ f := by
  classical
  refine ⟨fun W => if h : ∃ k, I k W ∧ ∀ m, I m W → k ≤ m then Classical.choose h else 0, fun W f hf => ?_⟩
  have h := least_p (fun k => I k W) f hf
  dsimp only
  rw [dif_pos h]
  exact ⟨(Classical.choose_spec h).1, (Classical.choose_spec h).2 f hf⟩
/-- What Free's loop keeps. -/
structure FSt (sg : List Sym) (R : Int × List Bn) (w : World) (B f : Nat) (W : World) : Prop where
  is : ∃ (st : List Eq2) (bs : List Bk) (v1 v2 : Value), FInv sg R f (st.map tn2) (bs.map btn) ∧ Sv w B v1 v2 st.length (flatK st.reverse) bs W ∧ ∀ b ∈ bs, b.1.size ≤ maxLen
def ToldOk : Prop := ∀ (w0 : World) (B : Nat) (v1 v2 : Value) (n : Nat) (es : List Kv) (bs : List Bk) (W : World), Sv w0 B v1 v2 n es bs W → bs.length ≤ 1048576 → (∀ b ∈ bs, b.1.size ≤ maxLen) →
  Calls Tryz.prog 30 #[.pointer (some ⟨B, 1, none⟩)] W fun e W' => ∃ p c ms, e = .returned (.slice p ms.length c) ∧ BindsAt W' p ms.length ms ∧ List.Perm ms (bs.map btn) ∧ ms.Pairwise (fun x y => 0 ≤ Lib.compareBytes y.1.data.toList x.1.data.toList) ∧ Below w0.heap.size w0 W'
def af2 (sg : List Sym) (p : Eq2) : Bool := afT sg p.1.x p.1.l && afT sg p.2.x p.2.l
/-- What Free leaves. -/
def FreeEnd (sg : List Sym) (P : List Eq2) (w : World) (e : Ending) (w' : World) : Prop := Below w.heap.size w w' ∧
  ((P.all (af2 sg) = false ∧ e = .returned (.tuple #[.slice none 0 0, .bool false, .int .i64 1])) ∨
   (P.all (af2 sg) = true ∧ ∃ f R, freeF sg f (P.map tn2) [] = some R ∧
     ((R = (1, []) ∧ e = .returned (.tuple #[.slice none 0 0, .bool false, .int .i64 0])) ∨ (R = (2, []) ∧ e = .returned (.tuple #[.slice none 0 0, .bool false, .int .i64 73])) ∨
      (∃ bs p c ms, R = (0, bs) ∧ e = .returned (.tuple #[.slice p ms.length c, .bool true, .int .i64 0]) ∧ BindsAt w' p ms.length ms ∧ List.Perm ms bs ∧ ms.Pairwise (fun x y => 0 ≤ Lib.compareBytes y.1.data.toList x.1.data.toList) ∧ bs.length ≤ 1048576))))
/-- Equations that are not too many. -/
def sizeP (P : List Eq2) : Nat := (P.map fun p => nodesF p.1.l + nodesF p.2.l + 3).sum
theorem nmF_len : ∀ F : Fo, (nmF F).length ≤ nodesF F
  | .nil => Nat.le_refl _
  | .node _ _ x l r => by
    have h1 := nmF_len l
    have h2 := nmF_len r
    rw [nmF, List.length_append, List.length_append, nodesF]
    split <;> simp only [List.length_nil, List.length_cons] <;> omega
theorem nmT_len (t : Tn) : (nmT t).length ≤ nodesF t.2 + 1 := by
  have h1 := nmF_len t.2
  unfold nmT
  rw [List.length_append]
  split <;> simp only [List.length_nil, List.length_cons] <;> omega
def allNm (P : List Eq2) : List ByteArray := P.flatMap fun p => nmT p.1.tn ++ nmT p.2.tn
theorem allNm_len : ∀ P : List Eq2, (allNm P).length ≤ sizeP P
  | [] => Nat.le_refl _
  | p :: r => by
    have ih := allNm_len r
    have h1 := nmT_len p.1.tn
    have h2 := nmT_len p.2.tn
    have e : allNm (p :: r) = (nmT p.1.tn ++ nmT p.2.tn) ++ allNm r := rfl
    have e2 : sizeP (p :: r) = (nodesF p.1.l + nodesF p.2.l + 3) + sizeP r := by simp [sizeP]
    rw [e, e2, List.length_append, List.length_append]
    have e3 : nodesF p.1.tn.2 = nodesF p.1.l := rfl
    have e4 : nodesF p.2.tn.2 = nodesF p.2.l := rfl
    omega
theorem sizeP_len : ∀ P : List Eq2, 3 * P.length ≤ sizeP P
  | [] => Nat.le_refl _
  | p :: r => by
    have ih := sizeP_len r
    have e2 : sizeP (p :: r) = (nodesF p.1.l + nodesF p.2.l + 3) + sizeP r := by simp [sizeP]
    rw [e2, List.length_cons]
    omega
theorem sizeP_mem : ∀ {P : List Eq2} {p : Eq2}, p ∈ P → nodesF p.1.l + nodesF p.2.l + 3 ≤ sizeP P
  | [], _, h => by cases h
  | q :: r, p, h => by
    have e2 : sizeP (q :: r) = (nodesF q.1.l + nodesF q.2.l + 3) + sizeP r := by simp [sizeP]
    rw [e2]
    rcases List.mem_cons.1 h with rfl | h
    · omega
    · have := sizeP_mem h; omega
theorem dp_first {M : Nat} : ∀ {P : List Eq2}, P.length + sizeP P ≤ M → DpOk M (P.map tn2)
  | [], _ => trivial
  | p :: r, h => by
    have e2 : sizeP (p :: r) = (nodesF p.1.l + nodesF p.2.l + 3) + sizeP r := by simp [sizeP]
    rw [e2, List.length_cons] at h
    refine ⟨?_, dp_first (by omega)⟩
    show (r.map tn2).length + 1 + nodesF p.1.l ≤ M
    rw [List.length_map]
    omega
theorem free_first {sg : List Sym} {P : List Eq2} (hok : ∀ p ∈ P, okT p.1.tn ∧ okT p.2.tn) (hs : sizeP P ≤ 1048576) : ∃ f R, freeF sg f (P.map tn2) [] = some R ∧ FInv sg R f (P.map tn2) [] := by
  have hl := sizeP_len P
  have hg : GoodS (allNm P) 2097152 (P.map tn2) := by
    refine ⟨fun q hq => ?_, fun q hq => ?_, fun q hq => ?_, dp_first (by omega)⟩
    all_goals obtain ⟨p, hp, rfl⟩ := List.mem_map.1 hq
    · exact hok p hp
    · exact ⟨fun s h => List.mem_flatMap.2 ⟨p, hp, List.mem_append_left _ h⟩, fun s h => List.mem_flatMap.2 ⟨p, hp, List.mem_append_right _ h⟩⟩
    · have := sizeP_mem hp
      show nodesF p.1.l ≤ _ ∧ nodesF p.2.l ≤ _
      omega
  obtain ⟨f, hf⟩ := free_ends sg _ (allNm P) (Nat.le_refl _) _ _ _ [] hg (Nat.le_refl _)
  obtain ⟨R, hR⟩ := Option.isSome_iff_exists.1 hf
  have := allNm_len P
  exact ⟨f, R, hR, hR, ⟨_, _, hg, by omega, by simp only [List.length_nil]; omega⟩, fun b hb => by cases hb⟩
end Go.Proofs.YtfnfbljijkjkjaaGreat
