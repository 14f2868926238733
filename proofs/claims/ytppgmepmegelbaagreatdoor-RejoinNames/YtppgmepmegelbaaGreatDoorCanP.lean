/- Canonical forms, without any program: what Canon, Parts and Join say of a term, and that one is canonical just if it is its own canonical form. -/
import Derived.Test.YtppgmepmegelbaaGreatDoorTPath
namespace Go.Proofs.YtppgmepmegelbaaGreatDoor
open Go.RowKit Go.Deep

/-! ### lists of terms and forests -/
def mkF : List Tn → Fo
  | [] => .nil
  | t :: r => .node 0 0 t.1 t.2 (mkF r)
theorem kids_mk : ∀ l : List Tn, kidsL (mkF l) = l
  | [] => rfl
  | t :: r => by simp only [mkF, kidsL]; rw [kids_mk r]
theorem len_mk (l : List Tn) : lenF (mkF l) = l.length := by rw [← kids_len, kids_mk]
def noB : ByteArray := ⟨#[]⟩
theorem bytes_eq {a b : ByteArray} (h : a.data.toList = b.data.toList) : a = b := by
  obtain ⟨⟨l⟩⟩ := a
  obtain ⟨⟨m⟩⟩ := b
  rw [show l = m from h]
theorem noName_eq {s : ByteArray} (h : noName s = true) : s = noB := by
  unfold noName at h
  rw [List.isEmpty_iff, ByteArray.toList_eq] at h
  exact bytes_eq h
theorem noName_noB : noName noB = true := by decide +kernel

/-! ### the order -/
def cmpN (x y : Tn) : Int := cmp1 x.1 y.1 (lenF x.2) (lenF y.2) (cmpF x.2 y.2)
theorem cmpN_anti (x y : Tn) : cmpN y x = - cmpN x y := by unfold cmpN; rw [cmpF_anti]; exact cmp1_anti _ _ _ _ _
theorem cmpN_cons (x y z : Tn) : Cons (cmpN x y) (cmpN y z) (cmpN x z) := cmp1_cons _ _ _ _ _ _ _ _ _ (fun a b => cmpF_cons _ _ _ a b)
def leN (x y : Tn) : Prop := cmpN x y ≤ 0
theorem leN_trans {x y z : Tn} (h : leN x y) (k : leN y z) : leN x z := by
  obtain ⟨c1, c2, c3, _⟩ := cmpN_cons x y z
  unfold leN at *
  by_cases e : cmpN x y = 0
  · rw [c1 e]; exact k
  · by_cases e2 : cmpN y z = 0
    · rw [c2 e2]; exact h
    · exact Int.le_of_lt (c3 (by omega) (by omega))
theorem leN_total (x y : Tn) : leN x y ∨ leN y x := by
  unfold leN
  rw [cmpN_anti x y]
  omega
/-- Behind all that are not greater. -/
def insN (x : Tn) : List Tn → List Tn
  | [] => [x]
  | y :: r => if cmpN y x > 0 then x :: y :: r else y :: insN x r
def sortN : List Tn → List Tn
  | l => l.foldl (fun out x => insN x out) []
abbrev Srt (l : List Tn) : Prop := l.Pairwise leN
theorem insN_perm (x : Tn) : ∀ l : List Tn, List.Perm (insN x l) (x :: l)
  | [] => List.Perm.refl _
  | y :: r => by
    unfold insN
    split
    · exact List.Perm.refl _
    · exact ((insN_perm x r).cons y).trans (List.Perm.swap x y r)
theorem insN_srt (x : Tn) : ∀ {l : List Tn}, Srt l → Srt (insN x l)
  | [], _ => by simp [insN]
  | y :: r, h => by
    unfold insN
    obtain ⟨h1, h2⟩ := List.pairwise_cons.1 h
    split
    · rename_i hgt
      have hxy : leN x y := by unfold leN; rw [cmpN_anti y x]; omega
      refine List.pairwise_cons.2 ⟨fun z hz => ?_, h⟩
      rcases List.mem_cons.1 hz with rfl | hz
      · exact hxy
      · exact leN_trans hxy (h1 z hz)
    · rename_i hgt
      refine List.pairwise_cons.2 ⟨fun z hz => ?_, insN_srt x h2⟩
      rcases List.mem_cons.1 ((insN_perm x r).mem_iff.1 hz) with rfl | hz
      · unfold leN; omega
      · exact h1 z hz
theorem sort_go_perm : ∀ (l out : List Tn), List.Perm (l.foldl (fun out x => insN x out) out) (out ++ l)
  | [], out => by simp
  | x :: l, out => by
    rw [List.foldl_cons]
    refine (sort_go_perm l (insN x out)).trans ?_
    refine ((insN_perm x out).append_right l).trans ?_
    exact List.perm_middle.symm
theorem sortN_perm (l : List Tn) : List.Perm (sortN l) l := by
  have := sort_go_perm l []
  rwa [List.nil_append] at this
theorem sort_go_srt : ∀ (l out : List Tn), Srt out → Srt (l.foldl (fun out x => insN x out) out)
  | [], _, h => h
  | x :: l, out, h => by rw [List.foldl_cons]; exact sort_go_srt l _ (insN_srt x h)
theorem sortN_srt (l : List Tn) : Srt (sortN l) := sort_go_srt l [] List.Pairwise.nil
theorem sortN_len (l : List Tn) : (sortN l).length = l.length := (sortN_perm l).length_eq

/-! ### what Canon says -/
/-- What is asked of a signature: which places join, and which unit they have. -/
structure Sg where
  joins : Int → Bool
  unit : Int → Option Int
def constT (u : Int) : Tn := ((noB, u), .nil)
def isConst (t : Tn) (u : Int) : Bool := noName t.1.1 && t.1.2 == u && lenF t.2 == 0
def isUn (S : Sg) (f : Int) (t : Tn) : Bool := match S.unit f with | some u => isConst t u | none => false
def headed (f : Int) (t : Tn) : Bool := noName t.1.1 && t.1.2 == f
def partsN (S : Sg) (f : Int) (t : Tn) : List Tn := if S.joins f = false then [t] else if isUn S f t then [] else if headed f t then kidsL t.2 else [t]
def joinL (S : Sg) (f : Int) : List Tn → Option Tn
  | [] => (S.unit f).map constT
  | [t] => some t
  | l => some ((noB, f), mkF (sortN l))
/-- Of canonical terms. -/
def joinN (S : Sg) (f : Int) (cs : List Tn) : Option Tn := if S.joins f = false then none else joinL S f (cs.flatMap (partsN S f))
def canon1 (S : Sg) (x : ByteArray × Int) (cs : List Tn) : Tn :=
  if noName x.1 = false then ((x.1, 0), .nil) else if S.joins x.2 then (joinN S x.2 cs).getD (constT x.2) else ((noB, x.2), mkF cs)
def canonL (S : Sg) : Fo → List Tn
  | .nil => []
  | .node _ _ x l r => canon1 S x (canonL S l) :: canonL S r
def canonT (S : Sg) (t : Tn) : Tn := canon1 S t.1 (canonL S t.2)
theorem canonL_map (S : Sg) : ∀ F : Fo, canonL S F = (kidsL F).map (canonT S)
  | .nil => rfl
  | .node _ _ x l r => by simp only [canonL, kidsL, List.map_cons, canonT]; rw [canonL_map S r]

/-! ### what is right -/
/-- What a right signature says of units: they don't join. -/
structure Sg.Ok (S : Sg) (ar : Int → Nat) : Prop where
  free : ∀ f u, S.unit f = some u → S.joins u = false
  none : ∀ f u, S.unit f = some u → ar u = 0
def nodeOk (S : Sg) (ar : Int → Nat) (x : ByteArray × Int) (n : Nat) : Prop := if noName x.1 = false then x.2 = 0 ∧ n = 0 else if S.joins x.2 then 2 ≤ n else n = ar x.2
def RightF (S : Sg) (ar : Int → Nat) : Fo → Prop
  | .nil => True
  | .node _ _ x l r => (nodeOk S ar x (lenF l) ∧ RightF S ar l) ∧ RightF S ar r
def RightT (S : Sg) (ar : Int → Nat) (t : Tn) : Prop := nodeOk S ar t.1 (lenF t.2) ∧ RightF S ar t.2
theorem right_kids {S : Sg} {ar : Int → Nat} : ∀ {F : Fo}, RightF S ar F ↔ ∀ k ∈ kidsL F, RightT S ar k
  | .nil => by simp [RightF, kidsL]
  | .node _ _ x l r => by
    simp only [RightF, kidsL, List.mem_cons]
    rw [right_kids (F := r)]
    constructor
    · rintro ⟨h1, h2⟩ k (rfl | hk)
      · exact h1
      · exact h2 k hk
    · exact fun h => ⟨h (x, l) (.inl rfl), fun k hk => h k (.inr hk)⟩

/-! ### canonical -/
/-- A node that is canonical above what is beneath it. -/
def can1 (S : Sg) (ar : Int → Nat) (x : ByteArray × Int) (ks : List Tn) : Prop :=
  if noName x.1 = false then x.2 = 0 ∧ ks = [] else x.1 = noB ∧ if S.joins x.2 then 2 ≤ ks.length ∧ Srt ks ∧ ∀ k ∈ ks, isUn S x.2 k = false ∧ headed x.2 k = false else ks.length = ar x.2
def CanF (S : Sg) (ar : Int → Nat) : Fo → Prop
  | .nil => True
  | .node b o x l r => (b = 0 ∧ o = 0) ∧ (can1 S ar x (kidsL l) ∧ CanF S ar l) ∧ CanF S ar r
def CanT (S : Sg) (ar : Int → Nat) (t : Tn) : Prop := can1 S ar t.1 (kidsL t.2) ∧ CanF S ar t.2
theorem can_kids {S : Sg} {ar : Int → Nat} : ∀ {F : Fo}, CanF S ar F → ∀ k ∈ kidsL F, CanT S ar k
  | .nil, _, _, h => by simp [kidsL] at h
  | .node _ _ _ _ _, ⟨_, h1, h2⟩, k, hk => by
    rcases List.mem_cons.1 hk with rfl | hk
    · exact h1
    · exact can_kids h2 k hk
theorem can_mk {S : Sg} {ar : Int → Nat} : ∀ {l : List Tn}, (∀ k ∈ l, CanT S ar k) → CanF S ar (mkF l)
  | [], _ => trivial
  | t :: _, h => ⟨⟨rfl, rfl⟩, h t List.mem_cons_self, can_mk (fun k hk => h k (List.mem_cons_of_mem _ hk))⟩
theorem can_mk_kids {S : Sg} {ar : Int → Nat} : ∀ {F : Fo}, CanF S ar F → mkF (kidsL F) = F
  | .nil, _ => rfl
  | .node _ _ _ _ _, ⟨⟨hb, ho⟩, _, h2⟩ => by subst hb ho; simp only [kidsL, mkF]; rw [can_mk_kids h2]

/-- Canonical terms that compare alike are one. -/
theorem canF_zero {S : Sg} {ar : Int → Nat} : ∀ {F G : Fo}, CanF S ar F → CanF S ar G → lenF F = lenF G → cmpF F G = 0 → F = G
  | .nil, .nil, _, _, _, _ => rfl
  | .nil, .node _ _ _ _ _, _, _, h, _ => by simp [lenF] at h
  | .node _ _ _ _ _, .nil, _, _, h, _ => by simp [lenF] at h
  | .node b o x l r, .node b' o' y m s, ⟨⟨hb, ho⟩, ⟨hx, hl⟩, hr⟩, ⟨⟨hb', ho'⟩, ⟨hy, hm⟩, hs⟩, hlen, h => by
    subst hb ho hb' ho'
    simp only [lenF, Nat.add_right_cancel_iff] at hlen
    rw [cmpF, thenC] at h
    split at h
    case isFalse hne => exact absurd h hne
    rename_i h1
    have hrs := canF_zero hr hs hlen h
    unfold cmp1 at h1
    unfold can1 at hx hy
    cases ex : noName x.1 <;> cases ey : noName y.1 <;> simp only [ex, ey, if_true, if_false, Bool.true_eq_false] at h1 hx hy
    · have hn : x.1 = y.1 := bytes_eq (bytes_zero h1)
      have e1 : l = .nil := len_nil (by rw [← kids_len, hx.2]; rfl)
      have e2 : m = .nil := len_nil (by rw [← kids_len, hy.2]; rfl)
      rw [hrs, e1, e2, show x = y from Prod.ext hn (hx.1.trans hy.1.symm)]
    · omega
    · omega
    · split at h1
      case isFalse hne => exact absurd (compareInt_zero h1) hne
      rename_i hs2
      split at h1
      case isFalse hne => exact absurd (by have := compareInt_zero h1; omega) hne
      rename_i hlm
      have hlm2 := canF_zero hl hm hlm h1
      rw [hrs, hlm2, show x = y from Prod.ext (hx.1.trans hy.1.symm) hs2]
theorem canT_zero {S : Sg} {ar : Int → Nat} {x y : Tn} (hx : CanT S ar x) (hy : CanT S ar y) (h : cmpN x y = 0) : x = y := by
  have h2 : BT.node 0 0 x.1 x.2 .nil = BT.node 0 0 y.1 y.2 .nil := canF_zero (F := .node 0 0 x.1 x.2 .nil) (G := .node 0 0 y.1 y.2 .nil) (S := S) (ar := ar) ⟨⟨rfl, rfl⟩, hx, trivial⟩ ⟨⟨rfl, rfl⟩, hy, trivial⟩ rfl (by
    rw [cmpF, thenC]
    have h' : cmp1 x.1 y.1 (lenF x.2) (lenF y.2) (cmpF x.2 y.2) = 0 := h
    rw [if_pos h', cmpF])
  simp only [BT.node.injEq, true_and, and_true] at h2
  exact Prod.ext h2.1 h2.2
/-- Terms in order are told by which they are. -/
theorem srt_eq {S : Sg} {ar : Int → Nat} {l m : List Tn} (hl : ∀ k ∈ l, CanT S ar k) (h1 : Srt l) (h2 : Srt m) (h : List.Perm l m) : l = m :=
  List.Perm.eq_of_pairwise (fun a b ha hb hab hba => canT_zero (hl a ha) (hl b (h.mem_iff.2 hb)) (by
    unfold leN at hab hba
    rw [cmpN_anti a b] at hba
    omega)) h1 h2 h
theorem sort_eq {S : Sg} {ar : Int → Nat} {l m : List Tn} (hl : ∀ k ∈ l, CanT S ar k) (h : List.Perm l m) : sortN l = sortN m :=
  srt_eq (fun k hk => hl k ((sortN_perm l).mem_iff.1 hk)) (sortN_srt l) (sortN_srt m) ((sortN_perm l).trans (h.trans (sortN_perm m).symm))
theorem sort_self {S : Sg} {ar : Int → Nat} {l : List Tn} (hl : ∀ k ∈ l, CanT S ar k) (h : Srt l) : sortN l = l :=
  srt_eq (fun k hk => hl k ((sortN_perm l).mem_iff.1 hk)) (sortN_srt l) h (sortN_perm l)
end Go.Proofs.YtppgmepmegelbaaGreatDoor
