/- Texts laid together: PCan, PKind, PSettle, PTog, PFlat. -/
import Derived.Shelf.SlSortCmp.NoneTotal
import Derived.Test.YtgidgmgpgfonnaaGreatM4
/- The program's own way to canonical forms, without any program: forms that are loose at the top, laid one behind the other, then put in order. -/
namespace Go.Proofs.YtgidgmgpgfonnaaGreat
open Go.RowKit Go.Deep

/-! ### two lists, one beside the other -/
def All2 {α β : Type} (R : α → β → Prop) : List α → List β → Prop
  | [], [] => True
  | a :: xs, b :: ys => R a b ∧ All2 R xs ys
  | _, _ => False
theorem All2.snoc {α β : Type} {R : α → β → Prop} {a : α} {b : β} (h : R a b) : ∀ {xs : List α} {ys : List β}, All2 R xs ys → All2 R (xs ++ [a]) (ys ++ [b])
  | [], [], _ => ⟨h, trivial⟩
  | [], _ :: _, k => k.elim
  | _ :: _, [], k => k.elim
  | _ :: _, _ :: _, k => ⟨k.1, All2.snoc h k.2⟩
theorem All2.len {α β : Type} {R : α → β → Prop} : ∀ {xs : List α} {ys : List β}, All2 R xs ys → xs.length = ys.length
  | [], [], _ => rfl
  | [], _ :: _, k => k.elim
  | _ :: _, [], k => k.elim
  | _ :: _, _ :: _, k => by simp [All2.len k.2]
theorem All2.mono {α β : Type} {R R' : α → β → Prop} : ∀ {xs : List α} {ys : List β}, (∀ a ∈ xs, ∀ b, R a b → R' a b) → All2 R xs ys → All2 R' xs ys
  | [], [], _, _ => trivial
  | [], _ :: _, _, k => k.elim
  | _ :: _, [], _, k => k.elim
  | a :: _, b :: _, h, k => ⟨h a (by simp) b k.1, All2.mono (fun x hx => h x (by simp [hx])) k.2⟩

/-! ### loose forms -/
def jn (S : Sg) (t : Tn) : Bool := noName t.1.1 && S.joins t.1.2
/-- The same but for the order at the top. -/
def Mod (S : Sg) (c r : Tn) : Prop := r.1 = c.1 ∧ if jn S c then List.Perm (kidsL r.2) (kidsL c.2) else r = c
/-- Put in order at the top. -/
def SetR (S : Sg) (r r' : Tn) : Prop := r'.1 = r.1 ∧ if jn S r then ∃ l, r'.2 = mkF l ∧ List.Perm l (kidsL r.2) ∧ Srt l else r' = r
theorem mod_set {S : Sg} {ar : Int → Nat} {c r r' : Tn} (hc : CanT S ar c) (h : Mod S c r) (k : SetR S r r') : r' = c := by
  obtain ⟨h1, h2⟩ := h
  obtain ⟨k1, k2⟩ := k
  have e : jn S r = jn S c := by unfold jn; rw [h1]
  rw [e] at k2
  cases hj : jn S c with
  | false =>
    rw [hj] at h2 k2
    simp only [Bool.false_eq_true, if_false] at h2 k2
    rw [k2, h2]
  | true =>
    rw [hj] at h2 k2
    simp only [if_true] at h2 k2
    obtain ⟨l, e1, e2, e3⟩ := k2
    unfold jn at hj
    rw [Bool.and_eq_true] at hj
    have hcan := hc.1
    unfold can1 at hcan
    rw [if_neg (by rw [hj.1]; simp), if_pos hj.2] at hcan
    have e4 : kidsL c.2 = l := srt_eq (can_kids hc.2) hcan.2.2.1 e3 (h2.symm.trans e2.symm)
    have e5 := can_mk_kids hc.2
    rw [e4] at e5
    exact Prod.ext (k1.trans h1) (e1.trans e5)
theorem set_size {S : Sg} {r r' : Tn} (k : SetR S r r') : sizeT r' = sizeT r := by
  obtain ⟨_, k2⟩ := k
  cases hj : jn S r with
  | false => rw [hj] at k2; simp only [Bool.false_eq_true, if_false] at k2; rw [k2]
  | true =>
    rw [hj] at k2
    simp only [if_true] at k2
    obtain ⟨l, e1, e2, _⟩ := k2
    unfold sizeT
    rw [e1, nodes_mk, nodes_sizes r.2, sizes_perm e2]
theorem mod_un {S : Sg} {ar : Int → Nat} (hS : S.Ok ar) {f : Int} {c r : Tn} (h : Mod S c r) : isUn S f c = isUn S f r := by
  obtain ⟨h1, h2⟩ := h
  have key : ∀ u, S.unit f = some u → c.1 = (noB, u) → r = c := fun u hu e => by
    have : jn S c = false := by unfold jn; rw [e]; simp [hS.free f u hu]
    rw [this] at h2
    simpa using h2
  cases hc : isUn S f c with
  | true =>
    obtain ⟨u, hu, rfl⟩ := isUn_some hc
    rw [key u hu rfl]
    exact hc.symm
  | false =>
    cases hr : isUn S f r with
    | false => rfl
    | true =>
      obtain ⟨u, hu, rfl⟩ := isUn_some hr
      rw [← key u hu h1.symm] at hc
      rw [hc] at hr
      exact hr
/-- What a term gives to its symbol's list, in some order. -/
def PartR (S : Sg) (f : Int) (r : Tn) (p : List Tn) : Prop := if headed f r then List.Perm p (kidsL r.2) else ∃ r', SetR S r r' ∧ p = [r']
def FlatR (S : Sg) (f : Int) : List Tn → List Tn → Prop
  | [], out => out = []
  | r :: rs, out => ∃ p q, PartR S f r p ∧ FlatR S f rs q ∧ List.Perm out (p ++ q)
theorem FlatR.snoc {S : Sg} {f : Int} {r : Tn} {p : List Tn} (hp : PartR S f r p) : ∀ {rs out out' : List Tn}, FlatR S f rs out → List.Perm out' (out ++ p) → FlatR S f (rs ++ [r]) out'
  | [], out, out', h, k => by
    have h : out = [] := h
    subst h
    exact ⟨p, [], hp, rfl, by simpa using k⟩
  | x :: rs, out, out', ⟨p', q', h1, h2, h3⟩, k => ⟨p', q' ++ p, h1, FlatR.snoc hp h2 (List.Perm.refl _), k.trans (by rw [← List.append_assoc]; exact h3.append_right p)⟩
theorem part_size {S : Sg} {f : Int} {r : Tn} {p : List Tn} (h : PartR S f r p) : sizes p ≤ sizeT r := by
  unfold PartR at h
  split at h
  · rw [sizes_perm h, ← nodes_sizes]; unfold sizeT; omega
  · obtain ⟨r', hr, rfl⟩ := h
    rw [sizes_cons, sizes_nil, set_size hr]; omega
theorem flat_sizes {S : Sg} {f : Int} : ∀ {rs out : List Tn}, FlatR S f rs out → sizes out ≤ sizes rs
  | [], out, h => by
    have h : out = [] := h
    subst h
    exact Nat.le_refl _
  | r :: rs, out, ⟨p, q, h1, h2, h3⟩ => by
    rw [sizes_perm h3, sizes_append, sizes_cons]
    have := part_size h1
    have := flat_sizes h2
    omega
theorem part_mod {S : Sg} {ar : Int → Nat} (hS : S.Ok ar) {f : Int} (hj : S.joins f = true) {c r : Tn} (hc : CanT S ar c) (h : Mod S c r) (hu : isUn S f r = false) {p : List Tn} (hp : PartR S f r p) : List.Perm p (partsN S f c) := by
  unfold partsN
  rw [if_neg (by simp [hj]), mod_un hS h, hu]
  have e : headed f r = headed f c := by unfold headed; rw [h.1]
  unfold PartR at hp
  rw [e] at hp
  cases hh : headed f c with
  | true =>
    rw [hh] at hp
    simp only [if_true] at hp
    have hjn : jn S c = true := by
      obtain ⟨e1, e2⟩ := headed_iff.1 hh
      unfold jn; rw [e1, e2, hj]; rfl
    have h2 := h.2
    rw [hjn] at h2
    simp only [if_true] at h2
    simpa using hp.trans h2
  | false =>
    rw [hh] at hp
    simp only [Bool.false_eq_true, if_false] at hp
    obtain ⟨r', hr, rfl⟩ := hp
    rw [mod_set hc h hr]
    simp
theorem flat_mod {S : Sg} {ar : Int → Nat} (hS : S.Ok ar) {f : Int} (hj : S.joins f = true) : ∀ {ts rs out : List Tn}, (∀ t ∈ ts, RightT S ar t) → All2 (fun t r => Mod S (canonT S t) r) ts rs → (∀ r ∈ rs, isUn S f r = false) → FlatR S f rs out → List.Perm out (ts.flatMap (pc S f))
  | [], [], out, _, _, _, h => by
    have h : out = [] := h
    subst h
    simp
  | [], _ :: _, _, _, h, _, _ => h.elim
  | _ :: _, [], _, _, h, _, _ => h.elim
  | t :: ts, r :: rs, out, ht, h, hu, ⟨p, q, h1, h2, h3⟩ => by
    rw [List.flatMap_cons]
    exact h3.trans ((part_mod hS hj (canonT_can hS (ht t (by simp))) h.1 (hu r (by simp)) h1).append (flat_mod hS hj (fun x hx => ht x (by simp [hx])) h.2 (fun x hx => hu x (by simp [hx])) h2))
def FlatOut (S : Sg) (f : Int) (rs : List Tn) (r : Tn) : Prop := rs = [r] ∨ (rs.length ≠ 1 ∧ ∃ out, FlatR S f rs out ∧ r = ((noB, f), mkF out))
theorem flatout_size {S : Sg} {f : Int} {rs : List Tn} {r : Tn} (h : FlatOut S f rs r) : sizeT r ≤ sizes rs + 1 := by
  rcases h with rfl | ⟨_, out, h1, rfl⟩
  · rw [sizes_cons, sizes_nil]; omega
  · unfold sizeT
    rw [nodes_mk]
    have := flat_sizes h1
    omega
theorem pc_pos {S : Sg} {ar : Int → Nat} (hS : S.Ok ar) {f : Int} (hj : S.joins f = true) {t r : Tn} (ht : RightT S ar t) (h : Mod S (canonT S t) r) (hu : isUn S f r = false) : 1 ≤ (pc S f t).length := by
  unfold pc partsN
  rw [if_neg (by simp [hj]), mod_un hS h, hu]
  cases hh : headed f (canonT S t) with
  | true => have := (can_head hj (canonT_can hS ht) hh).2.1; simp; omega
  | false => simp
theorem flat_long {S : Sg} {ar : Int → Nat} (hS : S.Ok ar) {f : Int} (hj : S.joins f = true) : ∀ {ts rs : List Tn}, (∀ t ∈ ts, RightT S ar t) → All2 (fun t r => Mod S (canonT S t) r) ts rs → (∀ r ∈ rs, isUn S f r = false) → rs.length ≤ (ts.flatMap (pc S f)).length
  | [], [], _, _, _ => by simp
  | [], _ :: _, _, h, _ => h.elim
  | _ :: _, [], _, h, _ => h.elim
  | t :: ts, r :: rs, ht, h, hu => by
    rw [List.flatMap_cons, List.length_append, List.length_cons]
    have := pc_pos hS hj (ht t (by simp)) h.1 (hu r (by simp))
    have := flat_long hS hj (fun x hx => ht x (by simp [hx])) h.2 (fun x hx => hu x (by simp [hx]))
    omega
theorem flatout_mod {S : Sg} {ar : Int → Nat} (hS : S.Ok ar) {f : Int} (hj : S.joins f = true) {ts rs : List Tn} {r : Tn} (ht : ∀ t ∈ ts, RightT S ar t) (h : All2 (fun t r => Mod S (canonT S t) r) ts rs) (hu : ∀ r ∈ rs, isUn S f r = false) (hn : rs ≠ []) (ho : FlatOut S f rs r) :
    ∃ c, joinL S f (ts.flatMap (pc S f)) = some c ∧ Mod S c r := by
  rcases ho with rfl | ⟨hl, out, h1, rfl⟩
  · match ts, h with
    | [t], h =>
      refine ⟨canonT S t, ?_, h.1⟩
      rw [List.flatMap_cons, List.flatMap_nil, List.append_nil]
      exact join_parts hj (canonT_can hS (ht t (by simp)))
    | [], h => exact h.elim
    | _ :: _ :: _, h => exact h.2.elim
  · have h2 : 2 ≤ (ts.flatMap (pc S f)).length := by
      have := flat_long hS hj ht h hu
      have : rs.length ≠ 0 := fun e => hn (List.length_eq_zero_iff.1 e)
      omega
    refine ⟨_, join_many S f h2, rfl, ?_⟩
    have : jn S ((noB, f), mkF (sortN (ts.flatMap (pc S f)))) = true := by unfold jn; simp [noName_noB, hj]
    rw [this]
    simp only [if_true]
    rw [kids_mk, kids_mk]
    exact (flat_mod hS hj ht h hu h1).trans (sortN_perm _).symm
theorem drop_units {S : Sg} {ar : Int → Nat} (hS : S.Ok ar) {f : Int} (hj : S.joins f = true) : ∀ {ts rs : List Tn}, (∀ t ∈ ts, RightT S ar t) → All2 (fun t r => Mod S (canonT S t) r) ts rs →
    ∃ ts', All2 (fun t r => Mod S (canonT S t) r) ts' (rs.filter fun r => !isUn S f r) ∧ (∀ t ∈ ts', RightT S ar t) ∧ ts.flatMap (pc S f) = ts'.flatMap (pc S f)
  | [], [], _, _ => ⟨[], trivial, by simp, rfl⟩
  | [], _ :: _, _, h => h.elim
  | _ :: _, [], _, h => h.elim
  | t :: ts, r :: rs, ht, h => by
    obtain ⟨ts', k1, k2, k3⟩ := drop_units hS hj (fun x hx => ht x (by simp [hx])) h.2
    cases hu : isUn S f r with
    | true =>
      refine ⟨ts', by simpa [List.filter_cons, hu] using k1, k2, ?_⟩
      rw [List.flatMap_cons, k3]
      have : pc S f t = [] := by
        unfold pc partsN
        rw [if_neg (by simp [hj]), mod_un hS h.1, hu]
        simp
      rw [this]
      rfl
    | false =>
      refine ⟨t :: ts', by simpa [List.filter_cons, hu] using ⟨h.1, k1⟩, fun x hx => ?_, by rw [List.flatMap_cons, List.flatMap_cons, k3]⟩
      rcases List.mem_cons.1 hx with rfl | hx
      · exact ht _ (by simp)
      · exact k2 x hx

/-! ### a symbol's term of loose forms -/
def LayR (S : Sg) (k f u : Int) (rs : List Tn) (r : Tn) : Prop :=
  if k = 1 then ∃ rs', All2 (SetR S) rs rs' ∧ r = ((noB, f), mkF rs')
  else if k = 2 then FlatOut S f rs r
  else ((rs.filter fun r => !isUn S f r) = [] ∧ r = constT u) ∨ ((rs.filter fun r => !isUn S f r) ≠ [] ∧ FlatOut S f (rs.filter fun r => !isUn S f r) r)
/-- A form of t, loose at the top; no greater than t, whatever t is. -/
def LooseR (S : Sg) (ar : Int → Nat) (t r : Tn) : Prop := sizeT r ≤ sizeT t ∧ (S.Ok ar → RightT S ar t → Mod S (canonT S t) r)
theorem loose_sizes {S : Sg} {ar : Int → Nat} : ∀ {ts rs : List Tn}, All2 (LooseR S ar) ts rs → sizes rs ≤ sizes ts
  | [], [], _ => Nat.le_refl _
  | [], _ :: _, h => h.elim
  | _ :: _, [], h => h.elim
  | t :: ts, r :: rs, h => by
    rw [sizes_cons, sizes_cons]
    have := h.1.1
    have := loose_sizes h.2
    omega
theorem loose_mods {S : Sg} {ar : Int → Nat} (hS : S.Ok ar) : ∀ {ts rs : List Tn}, (∀ t ∈ ts, RightT S ar t) → All2 (LooseR S ar) ts rs → All2 (fun t r => Mod S (canonT S t) r) ts rs
  | [], [], _, _ => trivial
  | [], _ :: _, _, h => h.elim
  | _ :: _, [], _, h => h.elim
  | t :: ts, r :: rs, ht, h => ⟨h.1.2 hS (ht t (by simp)), loose_mods hS (fun x hx => ht x (by simp [hx])) h.2⟩
theorem set_sizes {S : Sg} : ∀ {rs rs' : List Tn}, All2 (SetR S) rs rs' → sizes rs' = sizes rs
  | [], [], _ => rfl
  | [], _ :: _, h => h.elim
  | _ :: _, [], h => h.elim
  | r :: rs, r' :: rs', h => by rw [sizes_cons, sizes_cons, set_size h.1, set_sizes h.2]
theorem sizes_filter (p : Tn → Bool) : ∀ rs : List Tn, sizes (rs.filter p) ≤ sizes rs
  | [] => Nat.le_refl _
  | r :: rs => by
    have := sizes_filter p rs
    rw [List.filter_cons]
    split
    · rw [sizes_cons, sizes_cons]; omega
    · rw [sizes_cons]; omega
theorem lay_size {S : Sg} {k f u : Int} {rs : List Tn} {r : Tn} (h : LayR S k f u rs r) : sizeT r ≤ sizes rs + 1 := by
  unfold LayR at h
  split at h
  · obtain ⟨rs', h1, rfl⟩ := h
    unfold sizeT
    rw [nodes_mk, set_sizes h1]
    omega
  · split at h
    · exact flatout_size h
    · rcases h with ⟨_, rfl⟩ | ⟨_, h⟩
      · simp [sizeT, constT, nodesF]
      · have := flatout_size h
        have := sizes_filter (fun r => !isUn S f r) rs
        omega
theorem mods_set {S : Sg} {ar : Int → Nat} (hS : S.Ok ar) : ∀ {ts rs rs' : List Tn}, (∀ t ∈ ts, RightT S ar t) → All2 (fun t r => Mod S (canonT S t) r) ts rs → All2 (SetR S) rs rs' → rs' = ts.map (canonT S)
  | [], [], [], _, _, _ => rfl
  | [], _ :: _, _, _, h, _ => h.elim
  | _ :: _, [], _, _, h, _ => h.elim
  | [], [], _ :: _, _, _, h => h.elim
  | _ :: _, _ :: _, [], _, _, h => h.elim
  | t :: ts, r :: rs, r' :: rs', ht, h, k => by rw [List.map_cons, mod_set (canonT_can hS (ht t (by simp))) h.1 k.1, mods_set hS (fun x hx => ht x (by simp [hx])) h.2 k.2]
/-- What the kinds say of a symbol. -/
structure KindOk (S : Sg) (k f u : Int) : Prop where
  free : k = 1 ↔ S.joins f = false
  ac : k = 2 → S.unit f = none
  unit : ∀ v, S.unit f = some v → v = u
theorem lay_join {S : Sg} {ar : Int → Nat} (hS : S.Ok ar) {k f u : Int} (hk : KindOk S k f u) (hj : S.joins f = true) {ts rs : List Tn} {r : Tn} (ht : ∀ t ∈ ts, RightT S ar t) (h : All2 (LooseR S ar) ts rs) (hl : LayR S k f u rs r) (hn : ts ≠ [] ∨ S.unit f ≠ none) :
    ∃ c, joinL S f (ts.flatMap (pc S f)) = some c ∧ Mod S c r := by
  have hm := loose_mods hS ht h
  have k1 : k ≠ 1 := fun e => by have := hk.free.1 e; rw [hj] at this; cases this
  unfold LayR at hl
  rw [if_neg k1] at hl
  split at hl
  · rename_i k2
    have hnone := hk.ac k2
    have hun : ∀ r ∈ rs, isUn S f r = false := fun r _ => by unfold isUn; rw [hnone]
    have hrs : rs ≠ [] := fun e => by
      have := h.len
      rw [e] at this
      rcases hn with hn | hn
      · exact hn (List.length_eq_zero_iff.1 this)
      · exact hn hnone
    exact flatout_mod hS hj ht hm hun hrs hl
  · obtain ⟨ts', h1, h2, h3⟩ := drop_units hS hj ht hm
    rw [h3]
    have hun : ∀ r ∈ rs.filter (fun r => !isUn S f r), isUn S f r = false := fun r hr => by simpa using (List.mem_filter.1 hr).2
    rcases hl with ⟨e, rfl⟩ | ⟨e, hl⟩
    · rw [e] at h1
      have : ts' = [] := List.length_eq_zero_iff.1 h1.len
      subst this
      have hsome : ∃ v, S.unit f = some v := by
        cases hv : S.unit f with
        | some v => exact ⟨v, rfl⟩
        | none =>
          exfalso
          rcases hn with hn | hn
          · have hl2 := h.len
            match ts, rs, hn, hl2 with
            | t :: ts, r :: rs, _, _ =>
              have : r ∈ (r :: rs).filter (fun r => !isUn S f r) := List.mem_filter.2 ⟨by simp, by unfold isUn; rw [hv]; rfl⟩
              rw [e] at this
              cases this
          · exact hn hv
      obtain ⟨v, hv⟩ := hsome
      have hvu := hk.unit v hv
      subst hvu
      refine ⟨constT v, by simp [joinL, hv], rfl, ?_⟩
      have : jn S (constT v) = false := by unfold jn constT; simp [hS.free f v hv]
      rw [this]
      simp
    · exact flatout_mod hS hj h2 h1 hun e hl
theorem lay_loose {S : Sg} {ar : Int → Nat} {k u : Int} {x : ByteArray × Int} {F : Fo} (hk : KindOk S k x.2 u) (hx : noName x.1 = true) (hF : lenF F ≠ 0) {rs : List Tn} {r : Tn} (h : All2 (LooseR S ar) (kidsL F) rs) (hl : LayR S k x.2 u rs r) : LooseR S ar (x, F) r := by
  refine ⟨?_, fun hS hR => ?_⟩
  · have h1 := lay_size hl
    have h2 := loose_sizes h
    rw [← nodes_sizes] at h2
    unfold sizeT at *
    show nodesF r.2 + 1 ≤ nodesF F + 1
    omega
  · have ht : ∀ t ∈ kidsL F, RightT S ar t := right_kids.1 hR.2
    have hc : canonT S (x, F) = canon1 S x ((kidsL F).map (canonT S)) := by unfold canonT; rw [canonL_map]; rfl
    cases hj : S.joins x.2 with
    | false =>
      have k1 := hk.free.2 hj
      unfold LayR at hl
      rw [if_pos k1] at hl
      obtain ⟨rs', h1, rfl⟩ := hl
      have e := mods_set hS ht (loose_mods hS ht h) h1
      have hce : canonT S (x, F) = ((noB, x.2), mkF rs') := by
        rw [hc, e]
        unfold canon1
        rw [if_neg (by rw [hx]; simp), hj]
        simp
      rw [hce]
      refine ⟨rfl, ?_⟩
      have : jn S ((noB, x.2), mkF rs') = false := by unfold jn; simp [hj]
      rw [this]
      simp
    | true =>
      have hne : kidsL F ≠ [] := fun e => hF (by rw [← kids_len, e]; rfl)
      obtain ⟨c, h1, h2⟩ := lay_join hS hk hj ht h hl (.inl hne)
      have h3 := canon1_join (S := S) (ar := ar) (x := x) (cs := (kidsL F).map (canonT S)) hx hj (fun c hc => by
        obtain ⟨t, h4, rfl⟩ := List.mem_map.1 hc
        exact canonT_can hS (ht t h4)) (by simpa using hne)
      rw [List.flatMap_map] at h3
      have h4 : some c = some (canon1 S x ((kidsL F).map (canonT S))) := h1.symm.trans h3
      rw [hc, ← Option.some.inj h4]
      exact h2

/-! ### the kinds of a signature -/
def kindK (l : List Sym) (f : Int) : Int := match symAt l f with | some x => if 1 ≤ x.kind ∧ x.kind ≤ 3 then x.kind else 1 | none => 1
theorem kindK_range (l : List Sym) (f : Int) : 1 ≤ kindK l f ∧ kindK l f ≤ 3 := by
  unfold kindK
  split
  · split <;> omega
  · omega
theorem kindK_ok (l : List Sym) (f : Int) : KindOk (sgOf l) (kindK l f) f (unitI l f) := by
  refine ⟨?_, ?_, ?_⟩
  · show _ ↔ joinsAt l f = false
    unfold kindK joinsAt
    cases symAt l f with
    | none => simp
    | some x =>
      dsimp only
      rw [Bool.or_eq_false_iff, decide_eq_false_iff_not, decide_eq_false_iff_not]
      split <;> omega
  · intro h
    show (unitAt l f).map _ = none
    rw [Option.map_eq_none_iff]
    by_cases hin : 0 ≤ f ∧ f.toNat < l.length
    · obtain ⟨n, rfl⟩ := Int.eq_ofNat_of_zero_le hin.1
      have hn : n < l.length := by simpa using hin.2
      refine unit_not hn ?_
      unfold kindK at h
      rw [symAt_in hn] at h
      dsimp only at h
      intro e
      rw [e] at h
      simp at h
    · exact unit_out hin
  · intro v hv
    have hv : (unitAt l f).map (fun (i : Nat) => (i : Int)) = some v := hv
    unfold unitI
    cases hu : unitAt l f with
    | none => rw [hu] at hv; cases hv
    | some i => rw [hu] at hv; simpa using hv.symm
end Go.Proofs.YtgidgmgpgfonnaaGreat
/- What kindAt, headAt, gathers and isUnit of package canon answer. -/
namespace Go.Proofs.YtgidgmgpgfonnaaGreat
open Go.RowKit Go.Deep

set_option maxRecDepth 100000 in
set_option maxHeartbeats 400000 in
theorem kindAt_any (a : Option Addr) (n cap : Nat) (l : List Sym) (z : Int) (w : World) (h : SigAt w a n l) :
    Calls Tryz.prog 91 #[.slice a n cap, .int .i64 z] w fun e w' => e = .returned (.int .i64 (kindK l z)) ∧ w' = w := by
  have HS : Hid (SigAt w a n l) := h
  have hm := h.small
  unfold maxLen at hm
  clear h
  by_cases h0 : z < 0
  · have hu : Hid (kindK l z = 1) := by show _ = _; unfold kindK; rw [symAt_out (by omega)]
    go_enter Tryz.func91, Tryz.ntmps91
    go_wp2
    go_ret
    exact ⟨by rw [hu.out]; rfl, rfl⟩
  · obtain ⟨k, rfl⟩ := Int.eq_ofNat_of_zero_le (by omega : 0 ≤ z)
    by_cases h1 : (n : Int) ≤ k
    · have hu : Hid (kindK l k = 1) := by show _ = _; unfold kindK; rw [symAt_out (by have := HS.out.len; omega)]
      go_enter Tryz.func91, Tryz.ntmps91
      go_wp2
      go_ret
      exact ⟨by rw [hu.out]; rfl, rfl⟩
    · have hlk : k < l.length := by have := HS.out.len; omega
      obtain ⟨b, off, rfl, hw⟩ := HS.out.cells k hlk
      have c1 := hw.kind
      clear hw
      have hk : Hid (kindK l k = if 1 ≤ l[k].kind ∧ l[k].kind ≤ 3 then l[k].kind else 1) := by show _ = _; unfold kindK; rw [symAt_in hlk]
      by_cases h2 : l[k].kind < 1
      · go_enter Tryz.func91, Tryz.ntmps91
        go_wp2
        go_ret
        exact ⟨by rw [hk.out, if_neg (by omega)]; rfl, rfl⟩
      · by_cases h3 : 3 < l[k].kind
        · go_enter Tryz.func91, Tryz.ntmps91
          go_wp2
          go_ret
          exact ⟨by rw [hk.out, if_neg (by omega)]; rfl, rfl⟩
        · go_enter Tryz.func91, Tryz.ntmps91
          go_wp2
          go_ret
          exact ⟨by rw [hk.out, if_pos (by omega)]; rfl, rfl⟩

/-- A symbol with all that its arguments' laying hangs on. -/
def headV (a : Option Addr) (n cap : Nat) (l : List Sym) (f : Int) : Array Value := #[.slice a n cap, .int .i64 f, .int .i64 (kindK l f), .int .i64 (unitI l f), .bool (unitOk l f)]
/-- A struct's cells in a block of their own. -/
def Box (W : World) (B : Nat) (T : TypeId) (cs : Array Value) : Prop := W.heap[B]? = some (.cells cs T (0, 0))
theorem Box.new (W : World) (T : TypeId) (cs : Array Value) : Box (W.alloc (.cells cs T)) W.heap.size T cs := World.alloc_heap_new W _
theorem Box.c {W : World} {B : Nat} {T : TypeId} {cs : Array Value} (h : Box W B T cs) (k : Nat) : W.cell? ⟨B, k, none⟩ = cs[k]? := by simp [World.cell?, show W.heap[B]? = _ from h]
theorem Box.f {W : World} {B : Nat} {T : TypeId} {cs : Array Value} (h : Box W B T cs) (k : Nat) : W.frozen? ⟨B, k, none⟩ = false := by simp [World.frozen?, show W.heap[B]? = _ from h]
theorem Box.lt {W : World} {B : Nat} {T : TypeId} {cs : Array Value} (h : Box W B T cs) : B < W.heap.size := (Array.getElem?_eq_some_iff.1 h).1
theorem Box.below {W W' : World} {B : Nat} {T : TypeId} {cs : Array Value} (h : Box W B T cs) (hb : Below W.heap.size W W') : Box W' B T cs := (hb.block B h.lt).trans h
theorem Box.set {W : World} {B : Nat} {T : TypeId} {cs : Array Value} (h : Box W B T cs) (k : Nat) (u : Value) : Box (W.setCell ⟨B, k, none⟩ u) B T (cs.setIfInBounds k u) := block_set h u
theorem Box.all5 {W : World} {B : Nat} {T : TypeId} {a b c d e : Value} (h : Box W B T #[a, b, c, d, e]) (u0 u1 u2 u3 u4 : Value) : Box (((((W.setCell ⟨B, 0, none⟩ u0).setCell ⟨B, 1, none⟩ u1).setCell ⟨B, 2, none⟩ u2).setCell ⟨B, 3, none⟩ u3).setCell ⟨B, 4, none⟩ u4) B T #[u0, u1, u2, u3, u4] := ((((h.set 0 u0).set 1 u1).set 2 u2).set 3 u3).set 4 u4
theorem Tryz.size106 : (Tryz.prog.info? 106).map (·.size) = some 5 := by kernel_rfl
set_option maxRecDepth 100000 in
set_option maxHeartbeats 400000 in
theorem headAt_any (a : Option Addr) (n cap : Nat) (l : List Sym) (z : Int) (w : World) (h : SigAt w a n l) :
    Calls Tryz.prog 93 #[.slice a n cap, .int .i64 z] w fun e w' => e = .returned (.agg (headV a n cap l z)) ∧ Below w.heap.size w w' := by
  have HS : Hid (SigAt w a n l) := h
  clear h
  have HU : Hid (∀ W, Below w.heap.size w W → Calls Tryz.prog 110 #[.slice a n cap, .int .i64 z] W fun e w' => UnitRet l z e ∧ Below W.heap.size W w') := fun W hW => sunit_any a n cap l z W (HS.out.below hW)
  have HK : Hid (∀ W, Below w.heap.size w W → Calls Tryz.prog 91 #[.slice a n cap, .int .i64 z] W fun e w' => e = .returned (.int .i64 (kindK l z)) ∧ w' = W) := fun W hW => kindAt_any a n cap l z W (HS.out.below hW)
  go_enter Tryz.func93, Tryz.ntmps93
  go_wp2_with (first
    | (go_at_call 110; refine (HU.out _ ((Below.refl _ w).alloc (Nat.le_refl _) _)).mono ?_; rintro e w1 ⟨he, hb1⟩; have HB1 : Hid (Below w.heap.size w w1) := ((Below.refl _ w).alloc (Nat.le_refl _) _).trans (hb1.mono (by simp)); have HX : Box w1 w.heap.size 106 #[.slice none 0 0, .int .i64 0, .int .i64 0, .int .i64 0, .bool false] := (Box.new w 106 _).below hb1; have k0 := HX.c 0; have k1 := HX.c 1; have k2 := HX.c 2; have k3 := HX.c 3; have k4 := HX.c 4; have f0 := HX.f 0; have f1 := HX.f 1; have f2 := HX.f 2; have f3 := HX.f 3; have f4 := HX.f 4; have HXX : Hid (Box w1 w.heap.size 106 #[.slice none 0 0, .int .i64 0, .int .i64 0, .int .i64 0, .bool false]) := HX; unfold UnitRet at he; subst he; clear hb1 HX)
    | (go_at_call 91; refine (HK.out _ HB1.out).mono ?_; rintro e w2 ⟨rfl, rfl⟩))
  refine bodyPost_ret (results_cell_row rfl _ _ w.heap.size 106 (headV a n cap l z) (0, 0) _ rfl (HXX.out.all5 _ _ _ _ _) Tryz.underlying106 rfl Tryz.size106) rfl ?_
  refine ⟨rfl, ?_⟩
  exact ((((HB1.out.setCell (p := ⟨w.heap.size, 0, none⟩) (Nat.le_refl _) _).setCell (p := ⟨w.heap.size, 1, none⟩) (Nat.le_refl _) _).setCell (p := ⟨w.heap.size, 2, none⟩) (Nat.le_refl _) _).setCell (p := ⟨w.heap.size, 3, none⟩) (Nat.le_refl _) _).setCell (p := ⟨w.heap.size, 4, none⟩) (Nat.le_refl _) _
set_option maxRecDepth 100000 in
set_option maxHeartbeats 400000 in
theorem gathers_any (hv : Option Addr) (n cap : Nat) (f k u : Int) (hu : Bool) (t : Tn) (a : Option Addr) (c : Nat) (w : World) :
    Calls Tryz.prog 133 #[.agg #[.slice hv n cap, .int .i64 f, .int .i64 k, .int .i64 u, .bool hu], .agg #[.string t.1.1, .int .i64 t.1.2, .slice a (lenF t.2) c]] w fun e w' => e = .returned (.bool (!decide (k = 1) && headed f t)) ∧ Below w.heap.size w w' := by
  obtain ⟨⟨nm, s⟩, F⟩ := t
  have hr : Hid (headed f ((nm, s), F) = (nm.toList.isEmpty && s == f)) := rfl
  by_cases h1 : k = 1
  · go_enter Tryz.func133, Tryz.ntmps133
    go_wp2
    go_ret
    exact ⟨by simp [h1], ((Below.refl _ w).alloc (Nat.le_refl _) _).alloc (by simp) _⟩
  · cases h2 : nm.toList.isEmpty
    · go_enter Tryz.func133, Tryz.ntmps133
      go_wp2
      go_ret
      exact ⟨by rw [hr.out, h2]; simp, ((Below.refl _ w).alloc (Nat.le_refl _) _).alloc (by simp) _⟩
    · go_enter Tryz.func133, Tryz.ntmps133
      go_wp2
      go_ret
      exact ⟨by rw [hr.out, h2]; simp [h1], ((Below.refl _ w).alloc (Nat.le_refl _) _).alloc (by simp) _⟩
/-- A fixed term, which lies nowhere. -/
theorem tm_const (w : World) (u : Int) : TmAt w (noB, u) none 0 .nil := ⟨⟨by show noB.size ≤ maxLen; decide, Nat.le_refl _, Nat.zero_le _, by simp [lenF]⟩, .inl rfl⟩
set_option maxRecDepth 100000 in
set_option maxHeartbeats 400000 in
theorem same_any (x y : Tn) (a b : Option Addr) (c d : Nat) (w : World) (hS : TmAt w x.1 a c x.2) (hT : TmAt w y.1 b d y.2) :
    Calls Tryz.prog 67 #[.agg #[.string x.1.1, .int .i64 x.1.2, .slice a (lenF x.2) c], .agg #[.string y.1.1, .int .i64 y.1.2, .slice b (lenF y.2) d]] w fun e w' => e = .returned (.bool (cmpN x y == 0)) ∧ Below w.heap.size w w' := by
  obtain ⟨⟨xn, xs⟩, l⟩ := x
  obtain ⟨⟨yn, ys⟩, m⟩ := y
  obtain ⟨cv, hcv⟩ : ∃ cv, cmpN ((xn, xs), l) ((yn, ys), m) = cv := ⟨_, rfl⟩
  have HB0 : Hid (Below w.heap.size w ((w.alloc (.cells #[.string xn, .int .i64 xs, .slice a (lenF l) c] 27)).alloc (.cells #[.string yn, .int .i64 ys, .slice b (lenF m) d] 27))) := ((Below.refl _ w).alloc (Nat.le_refl _) _).alloc (by simp) _
  have HC : Hid (∀ V, Below w.heap.size w V → Calls Tryz.prog 87 #[.agg #[.string xn, .int .i64 xs, .slice a (lenF l) c], .agg #[.string yn, .int .i64 ys, .slice b (lenF m) d]] V fun e w' => e = .returned (.int .i64 cv) ∧ Below V.heap.size V w') := fun V hV => by
    have := compare_all _ (xn, xs) (yn, ys) a b c d l m V (Nat.le_refl _) (hS.below hV) (hT.below hV)
    rw [show cmp1 (xn, xs) (yn, ys) (lenF l) (lenF m) (cmpF l m) = cv from hcv] at this
    exact this.mono fun _ _ h => ⟨h.1, h.2.below⟩
  rw [hcv]
  clear hcv hS hT
  go_enter Tryz.func67, Tryz.ntmps67
  go_wp2_with (go_at_call 87; refine (HC.out _ HB0.out).mono ?_; rintro e w1 ⟨rfl, hb1⟩; have HB1 : Hid (Below w.heap.size w w1) := HB0.out.trans (hb1.mono HB0.out.size); clear hb1)
  go_ret
  exact ⟨rfl, HB1.out⟩
theorem cmp_const (t : Tn) (u : Int) : (cmpN t (constT u) == 0) = isConst t u := by
  obtain ⟨⟨nm, s⟩, F⟩ := t
  unfold cmpN isConst constT cmp1
  cases h1 : noName nm with
  | false => simp [noName_noB]
  | true =>
    simp only [noName_noB]
    by_cases h2 : s = u
    · subst h2
      by_cases h3 : lenF F = 0
      · rw [len_nil h3]; simp [lenF, cmpF]
      · have h4 : (Lib.compareInt (lenF F) 0 == 0) = false := by
          have : ¬ Lib.compareInt (lenF F) 0 = 0 := by unfold Lib.compareInt; split <;> omega
          simpa using this
        have h5 : (lenF F == 0) = false := by simpa using h3
        simp [lenF, h3, h4, h5]
    · have h4 : (Lib.compareInt s u == 0) = false := by
        have : ¬ Lib.compareInt s u = 0 := by unfold Lib.compareInt; split <;> omega
        simpa using this
      have h5 : (s == u) = false := by simpa using h2
      simp [h2, h4, h5]
def isUnB (l : List Sym) (f : Int) (t : Tn) : Bool := unitOk l f && isConst t (unitI l f)
theorem isUnB_eq (l : List Sym) (f : Int) (t : Tn) : isUnB l f t = isUn (sgOf l) f t := by
  unfold isUnB isUn unitOk unitI
  show _ = (match (unitAt l f).map (fun (i : Nat) => (i : Int)) with | some u => isConst t u | none => false)
  cases unitAt l f <;> simp
set_option maxRecDepth 100000 in
set_option maxHeartbeats 400000 in
theorem isUnit_any (hv : Option Addr) (n cap : Nat) (f k : Int) (l : List Sym) (t : Tn) (a : Option Addr) (c : Nat) (w : World) (hT : TmAt w t.1 a c t.2) :
    Calls Tryz.prog 136 #[.agg #[.slice hv n cap, .int .i64 f, .int .i64 k, .int .i64 (unitI l f), .bool (unitOk l f)], .agg #[.string t.1.1, .int .i64 t.1.2, .slice a (lenF t.2) c]] w fun e w' => e = .returned (.bool (isUnB l f t)) ∧ Below w.heap.size w w' := by
  obtain ⟨⟨nm, s⟩, F⟩ := t
  obtain ⟨u, hu⟩ : ∃ u, unitI l f = u := ⟨_, rfl⟩
  have hr : Hid (isUnB l f ((nm, s), F) = (unitOk l f && (cmpN ((nm, s), F) (constT u) == 0))) := by show _ = _; rw [cmp_const, ← hu]; rfl
  obtain ⟨r, hrr⟩ : ∃ r, (cmpN ((nm, s), F) (constT u) == 0) = r := ⟨_, rfl⟩
  have HC : Hid (∀ V, Below w.heap.size w V → Calls Tryz.prog 67 #[.agg #[.string nm, .int .i64 s, .slice a (lenF F) c], .agg #[.string ⟨#[]⟩, .int .i64 u, .slice none 0 0]] V fun e w' => e = .returned (.bool r) ∧ Below V.heap.size V w') := fun V hV => by
    have := same_any ((nm, s), F) (constT u) a none c 0 V (hT.below hV) (tm_const V u)
    rw [hrr] at this
    exact this
  rw [hrr] at hr
  rw [hu]
  clear hrr hu hT
  have HB0 : Hid (Below w.heap.size w ((w.alloc (.cells #[.slice hv n cap, .int .i64 f, .int .i64 k, .int .i64 u, .bool (unitOk l f)] 106)).alloc (.cells #[.string nm, .int .i64 s, .slice a (lenF F) c] 27))) := ((Below.refl _ w).alloc (Nat.le_refl _) _).alloc (by simp) _
  cases ho : unitOk l f
  · rw [ho] at hr HB0
    go_enter Tryz.func136, Tryz.ntmps136
    go_wp2
    go_ret
    exact ⟨by rw [hr.out]; rfl, HB0.out⟩
  · rw [ho] at hr HB0
    go_enter Tryz.func136, Tryz.ntmps136
    go_wp2_with (go_at_call 67; refine (HC.out _ HB0.out).mono ?_; rintro e w1 ⟨rfl, hb1⟩; have HB1 : Hid (Below w.heap.size w w1) := HB0.out.trans (hb1.mono HB0.out.size); clear hb1)
    go_ret
    exact ⟨by rw [hr.out]; rfl, HB1.out⟩
end Go.Proofs.YtgidgmgpgfonnaaGreat
/- What settle of package canon makes of a loose form. -/
namespace Go.Proofs.YtgidgmgpgfonnaaGreat
open Go.RowKit Go.Deep

theorem LoosE.parts {w : World} {A : Bl} {k : Kv} (h : LoosE w A k) (hn : noName k.x.1 = true) : (k.a = none ∧ k.c = 0 ∧ lenF k.l = 0) ∨ ∃ (g : Nat) (cur : Array Value) (ks : List Kv), k.a = some ⟨g, 0, none⟩ ∧ A g ∧ w.heap[g]? = some (Obj.cells cur 27 (0, 0)) ∧ cur.size = k.c * 3 ∧ ks.map Kv.tn = kidsL k.l ∧
    (∀ (j : Nat) (u : Value), (kvCells ks)[j]? = some u → cur[j]? = some u) ∧ GL SepE w ks (fun q => A q ∧ q ≠ g) := by
  obtain ⟨hs, hr⟩ := h
  rcases hr hn with h1 | ⟨g, cur, h1, h2, h3, h4⟩
  · exact .inl h1
  · refine .inr ?_
    rcases hs.list with e | ⟨g', cur', e1, e2, e3, e4⟩
    · exact ⟨g, cur, [], h1, h2, h3, h4, by rw [e]; rfl, fun j u hu => by simp [kvCells] at hu, trivial⟩
    · rw [h1] at e1
      cases e1
      obtain ⟨ks, k1, k2, k3⟩ := sepKids_list e4
      refine ⟨g, cur, ks, h1, h2, h3, h4, k1, fun j u hu => ?_, k3⟩
      have := k2 j u hu
      rwa [Nat.zero_add, cell_of_row w g j cur 27 (0, 0) h3] at this
theorem LoosE.make {w : World} {A : Bl} {x : ByteArray × Int} {g c : Nat} {cur : Array Value} {ks : List Kv} (hx : x.1.size ≤ maxLen) (hg : A g) (hh : w.heap[g]? = some (Obj.cells cur 27 (0, 0))) (hc : cur.size = c * 3) (hcap : c ≤ maxLen) (hlen : ks.length ≤ c) (hfew : ks.length * 48 ≤ 140737488351232)
    (hcells : ∀ (j : Nat) (u : Value), (kvCells ks)[j]? = some u → cur[j]? = some u) (hks : GL SepE w ks (fun q => A q ∧ q ≠ g)) : LoosE w A ⟨x, mkF (ks.map Kv.tn), some ⟨g, 0, none⟩, c⟩ := by
  have hlm : lenF (mkF (ks.map Kv.tn)) = ks.length := by rw [len_mk, List.length_map]
  refine ⟨⟨⟨hx, by rw [hlm]; exact hlen, hcap, by rw [hlm]; exact hfew⟩, .inr ⟨g, cur, rfl, hg, hh, ?_⟩⟩, fun _ => .inr ⟨g, cur, rfl, hg, hh, hc⟩⟩
  refine sepKids_of _ ks _ 0 (by rw [kids_mk]; rfl) (fun j u hu => ?_) (gl_sepL.1 hks)
  rw [Nat.zero_add, cell_of_row w g j cur 27 (0, 0) hh]
  exact hcells j u hu

theorem sortNil_any (cap : Nat) (w : World) : Calls Tryz.prog 92 #[.slice none 0 cap, .func (.func 87) #[] #[]] w fun e w' => e = .returned (.tuple #[]) ∧ w' = w := AnyF.slices_SortFunc_none Tryz.sortT none cap _ w

set_option maxRecDepth 100000 in
set_option maxHeartbeats 1000000 in
theorem settle_any (S : Option Addr) (n cap : Nat) (l : List Sym) (k : Kv) (A : Bl) (w : World) (hS : SigAt w S n l) (hE : LoosE w A k) :
    Calls Tryz.prog 72 #[.slice S n cap, .agg #[.string k.x.1, .int .i64 k.x.2, .slice k.a (lenF k.l) k.c]] w fun e w' => ∃ F, e = .returned (.agg #[.string k.x.1, .int .i64 k.x.2, .slice k.a (lenF F) k.c]) ∧ lenF F = lenF k.l ∧ SetR (sgOf l) k.tn (k.x, F) ∧ LoosE w' A ⟨k.x, F, k.a, k.c⟩ ∧ Turned A w w' := by
  obtain ⟨⟨nm, s⟩, F, a, c⟩ := k
  have HE : Hid (LoosE w A ⟨(nm, s), F, a, c⟩) := hE
  have HK : Hid (∀ W, Below w.heap.size w W → Calls Tryz.prog 91 #[.slice S n cap, .int .i64 s] W fun e w' => e = .returned (.int .i64 (kindK l s)) ∧ w' = W) := fun W hW => kindAt_any S n cap l s W (hS.below hW)
  have hb2 : Below w.heap.size w ((w.alloc (.cells #[.string nm, .int .i64 s, .slice a (lenF F) c] 27)).alloc (.cells #[.string nm, .int .i64 s, .slice a (lenF F) c] 27)) := ((Below.refl _ w).alloc (Nat.le_refl _) _).alloc (by simp) _
  have HB2 : Hid (Below w.heap.size w ((w.alloc (.cells #[.string nm, .int .i64 s, .slice a (lenF F) c] 27)).alloc (.cells #[.string nm, .int .i64 s, .slice a (lenF F) c] 27))) := hb2
  have HLE : Hid (LoosE ((w.alloc (.cells #[.string nm, .int .i64 s, .slice a (lenF F) c] 27)).alloc (.cells #[.string nm, .int .i64 s, .slice a (lenF F) c] 27)) A ⟨(nm, s), F, a, c⟩) := loosE.keep (fun q _ hq => hb2.block q hq) hE
  have HX : Hid (XBox ((w.alloc (.cells #[.string nm, .int .i64 s, .slice a (lenF F) c] 27)).alloc (.cells #[.string nm, .int .i64 s, .slice a (lenF F) c] 27)) (w.heap.size + 1) (nm, s) (.slice a (lenF F) c)) := by
    have := World.alloc_heap_new (w.alloc (.cells #[.string nm, .int .i64 s, .slice a (lenF F) c] 27)) (.cells #[.string nm, .int .i64 s, .slice a (lenF F) c] 27)
    rw [World.size_alloc] at this
    exact this
  clear hE hS hb2
  cases hn : nm.toList.isEmpty
  · have hj : Hid (jn (sgOf l) ((nm, s), F) = false) := by show _ = _; unfold jn noName; rw [hn]; rfl
    go_enter Tryz.func72, Tryz.ntmps72
    go_wp2
    refine bodyPost_ret (results_cell_row rfl _ _ (w.heap.size + 1) 27 #[.string nm, .int .i64 s, .slice a (lenF F) c] (0, 0) _ rfl HX.out Tryz.underlying27 rfl Tryz.size27) rfl ?_
    exact ⟨F, rfl, rfl, ⟨rfl, by show if jn (sgOf l) ((nm, s), F) = true then _ else _; rw [hj.out]; simp [Kv.tn]⟩, HLE.out, Turned.of_below HB2.out A⟩
  · have hnn : Hid (noName nm = true) := hn
    cases hk : (kindK l s != 1)
    · have hj : Hid (jn (sgOf l) ((nm, s), F) = false) := by
        show _ = _
        have : (sgOf l).joins s = false := (kindK_ok l s).free.1 (by simpa using hk)
        unfold jn
        rw [this]
        simp
      go_enter Tryz.func72, Tryz.ntmps72
      go_wp2_with (go_at_call 91; refine (HK.out _ (((Below.refl _ w).alloc (Nat.le_refl _) _).alloc (by simp) _)).mono ?_; rintro e w2 ⟨rfl, rfl⟩)
      refine bodyPost_ret (results_cell_row rfl _ _ (w.heap.size + 1) 27 #[.string nm, .int .i64 s, .slice a (lenF F) c] (0, 0) _ rfl HX.out Tryz.underlying27 rfl Tryz.size27) rfl ?_
      exact ⟨F, rfl, rfl, ⟨rfl, by show if jn (sgOf l) ((nm, s), F) = true then _ else _; rw [hj.out]; simp [Kv.tn]⟩, HLE.out, Turned.of_below HB2.out A⟩
    · have hj : Hid (jn (sgOf l) ((nm, s), F) = true) := by
        show _ = _
        have : (sgOf l).joins s = true := by
          cases h : (sgOf l).joins s with
          | true => rfl
          | false => have := (kindK_ok l s).free.2 h; simp [this] at hk
        unfold jn
        rw [this, hnn.out]
        rfl
      have HSZ := HE.out.1.sizes
      have HSZ' : Hid (Sizes nm (lenF F) c) := HSZ
      clear HSZ
      rcases HE.out.parts hnn.out with ⟨ha, hc, hl⟩ | ⟨g, cur, ks, ha, hg, hh, hcs, hks, hcells, hgl⟩
      · have ha : a = none := ha
        have hc : c = 0 := hc
        have hl : lenF F = 0 := hl
        have hF := len_nil hl
        subst ha hc hF
        have HN : Hid (∀ W, Calls Tryz.prog 92 #[.slice none 0 0, .func (.func 87) #[] #[]] W fun e w' => e = .returned (.tuple #[]) ∧ w' = W) := fun W => sortNil_any 0 W
        go_enter Tryz.func72, Tryz.ntmps72
        go_wp2_with (first | (go_at_call 91; refine (HK.out _ (((Below.refl _ w).alloc (Nat.le_refl _) _).alloc (by simp) _)).mono ?_; rintro e w2 ⟨rfl, rfl⟩) | (go_at_call 92; refine (HN.out _).mono ?_; rintro e w3 ⟨rfl, rfl⟩))
        refine bodyPost_ret (results_cell_row rfl _ _ (w.heap.size + 1) 27 #[.string nm, .int .i64 s, .slice none 0 0] (0, 0) _ rfl HX.out Tryz.underlying27 rfl Tryz.size27) rfl ?_
        exact ⟨.nil, rfl, rfl, ⟨rfl, by show if jn (sgOf l) ((nm, s), .nil) = true then _ else _; rw [hj.out]; exact ⟨[], rfl, List.Perm.refl _, List.Pairwise.nil⟩⟩, HLE.out, Turned.of_below HB2.out A⟩
      · have ha : a = some ⟨g, 0, none⟩ := ha
        subst ha
        have hkl : ks.length = lenF F := by have := congrArg List.length hks; rwa [List.length_map, kids_len] at this
        have hglt : g < w.heap.size := (Array.getElem?_eq_some_iff.1 hh).1
        obtain ⟨W0, hW0⟩ : ∃ W0, (w.alloc (.cells #[.string nm, .int .i64 s, .slice (some ⟨g, 0, none⟩) (lenF F) c] 27)).alloc (.cells #[.string ⟨#[]⟩, .int .i64 0, .slice none 0 0] 27) = W0 := ⟨_, rfl⟩
        have hb0 : Below w.heap.size w W0 := by rw [← hW0]; exact ((Below.refl _ w).alloc (Nat.le_refl _) _).alloc (by simp) _
        have b1 : XBox W0 w.heap.size (nm, s) (.slice (some ⟨g, 0, none⟩) (lenF F) c) := by rw [← hW0]; exact (Below.heap_alloc _ _ _ (by simp)).trans (World.alloc_heap_new w _)
        have b2 : XBox W0 (w.heap.size + 1) (⟨#[]⟩, 0) (.slice none 0 0) := by
          have := World.alloc_heap_new (w.alloc (.cells #[.string nm, .int .i64 s, .slice (some ⟨g, 0, none⟩) (lenF F) c] 27)) (.cells #[.string ⟨#[]⟩, .int .i64 0, .slice none 0 0] 27)
          rw [World.size_alloc] at this
          rw [← hW0]; exact this
        have hsz : W0.heap.size = w.heap.size + 2 := by rw [← hW0]; simp
        have HSort : Hid (Calls Tryz.prog 92 #[.slice (some ⟨g, 0, none⟩) (lenF F) c, .func (.func 87) #[] #[]] W0 fun e w' => e = .returned (.tuple #[]) ∧ ∃ (ms : List Kv) (cur' : Array Value), List.Perm ms ks ∧ Srt (ms.map Kv.tn) ∧ w'.heap[g]? = some (Obj.cells cur' 27 (0, 0)) ∧ cur'.size = cur.size ∧
            (∀ (j : Nat) (u : Value), (kvCells ms)[j]? = some u → cur'[j]? = some u) ∧ Turned (fun q => q = g) W0 w') := by
          have := sort_terms W0 g c cur ks (fun q => A q ∧ q ≠ g) ((hb0.block g hglt).trans hh) hcells (hgl.keep sepE (fun q _ hq => hb0.block q hq)) (fun h => h.2 rfl) (by have := HSZ'.out.len; have := HSZ'.out.few; omega)
          rwa [hkl] at this
        have HKS : Hid (ks.map Kv.tn = kidsL F) := hks
        have HGL : Hid (GL SepE W0 ks (fun q => (A q ∧ q ≠ g) ∧ q < w.heap.size)) := (hgl.within sepE).keep sepE (fun q _ hq => hb0.block q hq)
        have HG : Hid (A g) := hg
        have HCS : Hid (cur.size = c * 3) := hcs
        have HB0 : Hid (Below w.heap.size w W0) := hb0
        have HW : Hid (W0.heap.size = w.heap.size + 2) := hsz
        have HKL : Hid (ks.length = lenF F) := hkl
        have HGLT : Hid (g < w.heap.size) := hglt
        have z0 := b1.c0; have z1 := b1.c1; have z2 := b1.c2
        have B1 : Hid (XBox W0 w.heap.size (nm, s) (.slice (some ⟨g, 0, none⟩) (lenF F) c)) := b1
        have B2 : Hid (XBox W0 (w.heap.size + 1) (⟨#[]⟩, 0) (.slice none 0 0)) := b2
        clear hks hgl hg hcs hb0 hsz hkl b1 b2 hcells hh HX HLE HB2 hglt
        go_enter Tryz.func72, Tryz.ntmps72
        go_wp2_with (first
          | (go_at_call 91; refine (HK.out _ HB0.out).mono ?_; rintro e w2 ⟨rfl, rfl⟩)
          | (go_at_call 92; clear hW0 z0 z1 z2; refine HSort.out.mono ?_; rintro e w3 ⟨rfl, ms, cur', hp, hsr, hh3, hcs3, hcells3, ht3⟩
             have X1 : XBox w3 w.heap.size (nm, s) (.slice (some ⟨g, 0, none⟩) (lenF F) c) := (ht3.block _ B1.out.lt (by have := HGLT.out; omega)).trans B1.out
             have X2 : XBox w3 (w.heap.size + 1) (⟨#[]⟩, 0) (.slice none 0 0) := (ht3.block _ B2.out.lt (by have := HGLT.out; omega)).trans B2.out
             have y0 := X1.c0; have y1 := X1.c1; have y2 := X1.c2
             have r0 := X2.c0; have r1 := X2.c1; have r2 := X2.c2
             have g0 := X2.f (k := 0); have g1 := X2.f (k := 1); have g2 := X2.f (k := 2)
             have HX2 : Hid (XBox w3 (w.heap.size + 1) (⟨#[]⟩, 0) (.slice none 0 0)) := X2
             have HP : Hid (List.Perm ms ks) := hp
             have HSR : Hid (Srt (ms.map Kv.tn)) := hsr
             have HH3 : Hid (w3.heap[g]? = some (Obj.cells cur' 27 (0, 0))) := hh3
             have HCS3 : Hid (cur'.size = cur.size) := hcs3
             have HCE3 : Hid (∀ (j : Nat) (u : Value), (kvCells ms)[j]? = some u → cur'[j]? = some u) := hcells3
             have HT3 : Hid (Turned (fun q => q = g) _ w3) := ht3
             clear hp hsr hh3 hcs3 hcells3 ht3 X1 X2))
        refine bodyPost_ret (results_cell_row rfl _ _ (w.heap.size + 1) 27 #[.string nm, .int .i64 s, .slice (some ⟨g, 0, none⟩) (lenF F) c] (0, 0) _ rfl (HX2.out.all (x := (nm, s)) _) Tryz.underlying27 rfl Tryz.size27) rfl ?_
        have hml : ms.length = lenF F := HP.out.length_eq.trans HKL.out
        have hlm : lenF (mkF (ms.map Kv.tn)) = lenF F := by rw [len_mk, List.length_map, hml]
        refine ⟨mkF (ms.map Kv.tn), by rw [hlm], hlm, ⟨rfl, ?_⟩, ?_, ?_⟩
        · show if jn (sgOf l) ((nm, s), F) = true then _ else _
          rw [hj.out]
          exact ⟨ms.map Kv.tn, rfl, by show List.Perm (ms.map Kv.tn) (kidsL F); rw [← HKS.out]; exact HP.out.map _, HSR.out⟩
        · have far : ∀ q, q < w.heap.size → (((w3.setCell ⟨w.heap.size + 1, 0, none⟩ (.string nm)).setCell ⟨w.heap.size + 1, 1, none⟩ (.int .i64 s)).setCell ⟨w.heap.size + 1, 2, none⟩ (.slice (some ⟨g, 0, none⟩) (lenF F) c)).heap[q]? = w3.heap[q]? := fun q hq => sets_far (by omega) _ _ _
          have hW := HW.out
          have h3 : GL SepE w3 ms (fun q => (A q ∧ q ≠ g) ∧ q < w.heap.size) := (HGL.out.perm HP.out.symm).keep sepE (fun q hq hlt => HT3.out.block q hlt hq.1.2)
          refine LoosE.make HSZ'.out.name HG.out ((far g HGLT.out).trans HH3.out) (HCS3.out.trans HCS.out) HSZ'.out.cap (by rw [hml]; exact HSZ'.out.len) (by rw [hml]; exact HSZ'.out.few) HCE3.out ?_
          exact (h3.keep sepE (fun q hq hlt => far q hq.2)).mono (fun q hq => hq.1)
        · have hW := HW.out
          have hs3 := HT3.out.size
          have hs0 := HB0.out.size
          refine ⟨HT3.out.os.trans HB0.out.os, HT3.out.tape.trans HB0.out.tape, HT3.out.output.trans HB0.out.output, by simp; omega, fun q hq hna => ?_⟩
          refine (sets_far (by omega) _ _ _).trans ((HT3.out.block q (by omega) (fun e => hna (by rw [e]; exact HG.out))).trans (HB0.out.block q hq))
end Go.Proofs.YtgidgmgpgfonnaaGreat
/- What together of package canon makes of two lists. -/
namespace Go.Proofs.YtgidgmgpgfonnaaGreat
open Go.RowKit Go.Deep

theorem app_loosE {w w' : World} {A B : Bl} {v v' : Value} {ks ms : List Kv} {x : ByteArray × Int} (hx : x.1.size ≤ maxLen) (hks : GL SepE w ks (fun q => A q ∧ some q ≠ v.ownBlock)) (hv : ∀ g, v.ownBlock = some g → A g) (hms : GL SepE w ms B) (hd : ∀ q, A q → ¬ B q)
    (hown : w'.ownsRow 0 27 3 v' (ks ++ ms).length (kvCells (ks ++ ms))) (hg : w.grownBy w' v.ownBlock) (hat : v'.ownBlock = v.ownBlock ∨ v'.ownBlock = some w.heap.size) (hfew : (ks ++ ms).length * 48 ≤ 140737488351232) :
    ∃ a c, v' = .slice a (ks ++ ms).length c ∧ LoosE w' (fun q => A q ∨ B q ∨ w.heap.size ≤ q) ⟨x, mkF ((ks ++ ms).map Kv.tn), a, c⟩ ∧ Turned A w w' := by
  have h1 := (hms.within sepE).append (fun q hq h => hd q hq.1.1 h.1) (hks.within sepE)
  have h1' : GL SepE w (ks ++ ms) (fun q => (A q ∨ B q) ∧ some q ≠ v.ownBlock ∧ q < w.heap.size) := (GL.append (hms.within sepE) (fun q hq h => hd q hq.1.1 h.1) (hks.within sepE)).mono (fun q hq => by
    rcases hq with hq | hq
    · exact ⟨.inl hq.1.1, hq.1.2, hq.2⟩
    · exact ⟨.inr hq.1, fun e => hd q (hv q e.symm) hq.1, hq.2⟩)
  have h2 : GL SepE w' (ks ++ ms) (fun q => (A q ∨ B q) ∧ some q ≠ v.ownBlock ∧ q < w.heap.size) := h1'.keep sepE (fun q hq hlt => hg.block q hlt hq.2.1)
  obtain ⟨a, c, e1, e2⟩ := loosE_of (A := fun q => A q ∨ B q ∨ w.heap.size ≤ q) hx hown (fun g e => by
    rcases hat with h | h
    · exact .inl (hv g (by rw [← h, e]))
    · rw [h] at e; cases e; exact .inr (.inr (Nat.le_refl _))) (h2.mono (fun q hq => ⟨by rcases hq.1 with h | h; exact .inl h; exact .inr (.inl h), by
      rcases hat with h | h
      · rw [h]; exact hq.2.1
      · rw [h]; intro e; cases e; exact absurd hq.2.2 (Nat.lt_irrefl _)⟩)) hfew
  exact ⟨a, c, e1, e2, hg.os, hg.tape, hg.output, hg.size, fun q hq hn => hg.block q hq (fun e => hn (hv q e.symm))⟩

set_option maxRecDepth 100000 in
set_option maxHeartbeats 1000000 in
theorem together_any (ka kb : Kv) (A B : Bl) (w : World) (hA : LoosE w A ka) (hB : LoosE w B kb) (hna : noName ka.x.1 = true) (hnb : noName kb.x.1 = true) (hd : ∀ q, A q → ¬ B q) (hsm : lenF ka.l + lenF kb.l ≤ 4194304) :
    Calls Tryz.prog 134 #[.slice ka.a (lenF ka.l) ka.c, .slice kb.a (lenF kb.l) kb.c] w fun e w' => ∃ F a c, e = .returned (.slice a (lenF F) c) ∧ List.Perm (kidsL F) (kidsL ka.l ++ kidsL kb.l) ∧ LoosE w' (fun q => (A q ∨ B q) ∨ w.heap.size ≤ q) ⟨ka.x, F, a, c⟩ ∧ Turned (fun q => A q ∨ B q) w w' := by
  obtain ⟨ks, k1, k2, k3, k4⟩ := hA.row hna
  obtain ⟨ms, m1, m2, m3, m4⟩ := hB.row hnb
  obtain ⟨xa, la, aa, ca⟩ := ka
  obtain ⟨xb, lb, ab, cb⟩ := kb
  dsimp only at *
  have hkl : ks.length = lenF la := by have := congrArg List.length k1; rwa [List.length_map, kids_len] at this
  have hml : ms.length = lenF lb := by have := congrArg List.length m1; rwa [List.length_map, kids_len] at this
  have hxs : Hid (xa.1.size ≤ maxLen) := hA.1.sizes.name
  have hca := hA.1.sizes.cap
  have hcb := hB.1.sizes.cap
  have hla := hA.1.sizes.len
  have hlb := hB.1.sizes.len
  have ra := k2 0 (fun q _ => Nat.zero_le q)
  have rb := m2 0 (fun q _ => Nat.zero_le q)
  obtain ⟨a1, c1, e1, _, _, ra2, ra3, _⟩ := row_of_owns ra
  cases e1
  obtain ⟨b1, d1, e2, _, _, rb2, rb3, _⟩ := row_of_owns rb
  cases e2
  have HRA : Hid (w.ownsRow 0 27 3 (.slice aa (lenF la) ca) ks.length (kvCells ks)) := by show World.ownsRow _ _ _ _ _ _ _; rw [hkl]; exact ra
  have HRB : Hid (w.ownsRow 0 27 3 (.slice ab (lenF lb) cb) ms.length (kvCells ms)) := by show World.ownsRow _ _ _ _ _ _ _; rw [hml]; exact rb
  have HRA2 : Hid (RowAt w aa (lenF la) ks) := ra2
  have HRB2 : Hid (RowAt w ab (lenF lb) ms) := rb2
  have HA3 : Hid (aa = none → ca = 0) := fun e => (ra3 e).2
  have HB3 : Hid (ab = none → cb = 0) := fun e => (rb3 e).2
  have HK1 : Hid (ks.map Kv.tn = kidsL la) := k1
  have HM1 : Hid (ms.map Kv.tn = kidsL lb) := m1
  have HK3 : Hid (GL SepE w ks (fun q => A q ∧ some q ≠ (Value.slice aa (lenF la) ca).ownBlock)) := k3
  have HM3 : Hid (GL SepE w ms (fun q => B q ∧ some q ≠ (Value.slice ab (lenF lb) cb).ownBlock)) := m3
  have HK4 : Hid (∀ g, (Value.slice aa (lenF la) ca).ownBlock = some g → A g) := k4
  have HM4 : Hid (∀ g, (Value.slice ab (lenF lb) cb).ownBlock = some g → B g) := m4
  have HKL : Hid (ks.length = lenF la) := hkl
  have HML : Hid (ms.length = lenF lb) := hml
  clear hA hB k1 k2 k3 k4 m1 m2 m3 m4 ra rb ra2 ra3 rb2 rb3 hkl hml
  by_cases hlt : lenF la < lenF lb
  · go_enter Tryz.func134, Tryz.ntmps134
    go_wp2_with (at_builtin; refine wpList_append_all rfl _ _ rfl 0 (.slice ab (lenF lb) cb) ms rfl HRB.out aa (lenF la) ca ks rfl HRA2.out HA3.out (by have := HML.out; omega) (Nat.zero_le _) ?_; intro v' w' hown hgrow hat; obtain ⟨a', c', e', hL, hT⟩ := app_loosE (x := xa) hxs.out HM3.out HM4.out (HK3.out.mono (fun q hq => hq.1)) (fun q hq h => hd q h hq) hown hgrow hat (by rw [List.length_append, HML.out, HKL.out]; omega); clear hown hgrow hat)
    go_ret
    refine ⟨mkF ((ms ++ ks).map Kv.tn), a', c', by rw [len_mk, List.length_map, List.length_append]; rfl, ?_, loosE.mono (fun q hq => ?_) hL, hT.mono (fun q _ hq => .inr hq)⟩
    · rw [kids_mk, List.map_append, HM1.out, HK1.out]
      exact List.perm_append_comm
    · rcases hq with h | h | h
      · exact .inl (.inr h)
      · exact .inl (.inl h)
      · exact .inr h
  · go_enter Tryz.func134, Tryz.ntmps134
    go_wp2_with (at_builtin; refine wpList_append_all rfl _ _ rfl 0 (.slice aa (lenF la) ca) ks rfl HRA.out ab (lenF lb) cb ms rfl HRB2.out HB3.out (by have := HKL.out; omega) (Nat.zero_le _) ?_; intro v' w' hown hgrow hat; obtain ⟨a', c', e', hL, hT⟩ := app_loosE (x := xa) hxs.out HK3.out HK4.out (HM3.out.mono (fun q hq => hq.1)) (fun q hq h => hd q hq h) hown hgrow hat (by rw [List.length_append, HML.out, HKL.out]; omega); clear hown hgrow hat)
    go_ret
    refine ⟨mkF ((ks ++ ms).map Kv.tn), a', c', by rw [len_mk, List.length_map, List.length_append]; rfl, ?_, loosE.mono (fun q hq => ?_) hL, hT.mono (fun q _ hq => .inl hq)⟩
    · rw [kids_mk, List.map_append, HM1.out, HK1.out]
    · rcases hq with h | h | h
      · exact .inl (.inl h)
      · exact .inl (.inr h)
      · exact .inr h
end Go.Proofs.YtgidgmgpgfonnaaGreat
/- What flatten of package canon makes of loose forms. -/
namespace Go.Proofs.YtgidgmgpgfonnaaGreat
open Go.RowKit Go.Deep

/-- A signature that stays as long as the blocks below B do. -/
def SigLow (B : Nat) (w : World) (S : Option Addr) (n : Nat) (l : List Sym) : Prop := ∀ W, Below B w W → SigAt W S n l
theorem SigLow.of {w : World} {S : Option Addr} {n : Nat} {l : List Sym} (h : SigAt w S n l) : SigLow w.heap.size w S n l := fun _ hW => h.below hW
theorem SigLow.at_ {B : Nat} {w : World} {S : Option Addr} {n : Nat} {l : List Sym} (h : SigLow B w S n l) : SigAt w S n l := h w (Below.refl _ _)
theorem SigLow.below {B : Nat} {w w' : World} {S : Option Addr} {n : Nat} {l : List Sym} (h : SigLow B w S n l) (hb : Below B w w') : SigLow B w' S n l := fun W hW => h W (hb.trans hW)
/-- A row of terms that stays as long as none but the blocks of A turn. -/
def RowFix (A : Bl) (w : World) (a : Option Addr) (ks : List Kv) : Prop := ∀ W, Turned A w W → RowAt W a ks.length ks

theorem Turned.then {A X : Bl} {a b c : World} (h : Turned A a b) (k : Turned X b c) (hX : ∀ q, q < a.heap.size → X q → A q) : Turned A a c :=
  ⟨k.os.trans h.os, k.tape.trans h.tape, k.output.trans h.output, Nat.le_trans h.size k.size, fun q hq hA => (k.block q (Nat.lt_of_lt_of_le hq h.size) (fun hx => hA (hX q hq hx))).trans (h.block q hq hA)⟩
theorem psizes_len : ∀ l : List Tn, l.length ≤ sizes l
  | [] => Nat.le_refl _
  | t :: r => by rw [sizes_cons, List.length_cons]; have := psizes_len r; have : 1 ≤ sizeT t := by unfold sizeT; omega
                 omega
theorem kidsL_len (F : Fo) : lenF F ≤ sizes (kidsL F) := by rw [← kids_len]; exact psizes_len _
theorem psizes_take (l : List Tn) (j : Nat) : sizes (l.take j) ≤ sizes l := by
  have := sizes_append (l.take j) (l.drop j)
  rw [List.take_append_drop] at this
  omega
theorem sizes_mem {t : Tn} : ∀ {l : List Tn}, t ∈ l → sizeT t ≤ sizes l
  | x :: r, h => by
    rw [sizes_cons]
    rcases List.mem_cons.1 h with rfl | h
    · omega
    · have := sizes_mem h; omega
/-- The cells of a term of a row. -/
theorem RowAt.cells3 {w : World} {a : Option Addr} {ks : List Kv} (h : RowAt w a ks.length ks) {j : Nat} {k : Kv} (hk : ks[j]? = some k) : ∃ b o, a = some ⟨b, o, none⟩ ∧ w.cell? ⟨b, o + j * 3, none⟩ = some (.string k.x.1) ∧ w.cell? ⟨b, o + j * 3 + 1, none⟩ = some (.int .i64 k.x.2) ∧ w.cell? ⟨b, o + j * 3 + 2, none⟩ = some (.slice k.a (lenF k.l) k.c) := by
  obtain ⟨c0, c1, c2⟩ := kv_cells hk
  obtain ⟨b, o, e, h0⟩ := h.cells _ _ c0
  obtain ⟨b1, o1, e1, h1⟩ := h.cells _ _ c1
  obtain ⟨b2, o2, e2, h2⟩ := h.cells _ _ c2
  rw [e] at e1 e2
  cases e1
  cases e2
  exact ⟨b, o, e, h0, by rw [Nat.add_assoc]; exact h1, by rw [Nat.add_assoc]; exact h2⟩
theorem drop_cons {α : Type} {l : List α} {j : Nat} {x : α} (h : l[j]? = some x) : l.drop j = x :: l.drop (j + 1) := by
  obtain ⟨hj, rfl⟩ := List.getElem?_eq_some_iff.1 h
  exact List.drop_eq_getElem_cons hj
theorem take_snoc {α : Type} {l : List α} {j : Nat} {x : α} (h : l[j]? = some x) : l.take (j + 1) = l.take j ++ [x] := by
  rw [List.take_add_one, h]; rfl

/-- Where flatten stands before the term j. -/
structure FlatSt (S : Sg) (f : Int) (A : Bl) (w : World) (hv : Array Value) (ks : List Kv) (j : Nat) (kall : Kv) (W : World) : Prop where
  head : kall.x = (noB, f)
  gl : GL LoosE W (kall :: ks.drop j) (fun q => (A q ∧ q < w.heap.size) ∨ w.heap.size + 2 ≤ q)
  turned : Turned A w W
  fbox : Box W w.heap.size 106 hv
  rbox : XBox W (w.heap.size + 1) (⟨#[]⟩, 0) (.slice none 0 0)
  flat : FlatR S f ((ks.take j).map Kv.tn) (kidsL kall.l)
theorem FlatSt.size {S : Sg} {f : Int} {A : Bl} {w W : World} {hv : Array Value} {ks : List Kv} {j : Nat} {kall : Kv} (h : FlatSt S f A w hv ks j kall W) (hs : sizes (ks.map Kv.tn) ≤ 1048576) : lenF kall.l ≤ 1048576 := by
  have h1 := kidsL_len kall.l
  have h2 := flat_sizes h.flat
  have h3 := psizes_take (ks.map Kv.tn) j
  rw [← List.map_take] at h3
  omega
/-- A step: the list all and the term k have made another list. -/
theorem FlatSt.step {S : Sg} {f : Int} {A : Bl} {w W W2 W3 : World} {hv : Array Value} {ks : List Kv} {j : Nat} {kall k k' : Kv} {A1 A2 R2 : Bl} (h : FlatSt S f A w hv ks j kall W) (hk : ks[j]? = some k)
    (a1 : ∀ q, A1 q → ((A q ∧ q < w.heap.size) ∨ w.heap.size + 2 ≤ q) ∧ q < W.heap.size) (a2 : ∀ q, A2 q → ((A q ∧ q < w.heap.size) ∨ w.heap.size + 2 ≤ q) ∧ q < W.heap.size) (r2 : ∀ q, R2 q → (((A q ∧ q < w.heap.size) ∨ w.heap.size + 2 ≤ q) ∧ q < W.heap.size) ∧ ¬ A1 q ∧ ¬ A2 q)
    (hr : GL LoosE W (ks.drop (j + 1)) R2) (hb : Below W.heap.size W W2) (ht : Turned (fun q => A1 q ∨ A2 q) W2 W3) (hx : k'.x = (noB, f)) (hE : LoosE W3 (fun q => (A1 q ∨ A2 q) ∨ W2.heap.size ≤ q) k') {p : List Tn} (hp : PartR S f k.tn p) (hperm : List.Perm (kidsL k'.l) (kidsL kall.l ++ p)) : FlatSt S f A w hv ks (j + 1) k' W3 := by
  have hbs := hb.size
  have hfl := h.fbox.lt
  have hrl := h.rbox.lt
  have key : ∀ q, q < W.heap.size → ¬ A1 q → ¬ A2 q → W3.heap[q]? = W.heap[q]? := fun q hq n1 n2 => (ht.block q (by omega) (fun e => e.elim n1 n2)).trans (hb.block q hq)
  have nf : ∀ q, (q = w.heap.size ∨ q = w.heap.size + 1) → ¬ A1 q ∧ ¬ A2 q := fun q hq => ⟨fun h' => by rcases (a1 q h').1 with h | h <;> omega, fun h' => by rcases (a2 q h').1 with h | h <;> omega⟩
  refine ⟨hx, ?_, ?_, ?_, ?_, ?_⟩
  · have h3 : GL LoosE W3 (ks.drop (j + 1)) R2 := hr.keep loosE (fun q hq hlt => key q hlt (r2 q hq).2.1 (r2 q hq).2.2)
    refine (GL.cons hE h3 (fun q hq hR => ?_)).mono (fun q hq => ?_)
    · rcases hq with (hq | hq) | hq
      · exact (r2 q hR).2.1 hq
      · exact (r2 q hR).2.2 hq
      · have := (r2 q hR).1.2; omega
    · rcases hq with ((hq | hq) | hq) | hq
      · exact (a1 q hq).1
      · exact (a2 q hq).1
      · exact .inr (by omega)
      · exact (r2 q hq).1.1
  · refine (h.turned.then (Turned.of_below hb A) (fun q _ hq => hq)).then ht (fun q hq hx => ?_)
    rcases hx with hx | hx
    · rcases (a1 q hx).1 with h | h
      · exact h.1
      · omega
    · rcases (a2 q hx).1 with h | h
      · exact h.1
      · omega
  · exact (key _ hfl (nf _ (.inl rfl)).1 (nf _ (.inl rfl)).2).trans h.fbox
  · exact (key _ hrl (nf _ (.inr rfl)).1 (nf _ (.inr rfl)).2).trans h.rbox
  · rw [take_snoc hk, List.map_append]
    exact FlatR.snoc hp h.flat hperm
/-- The list all and the next term, apart. -/
theorem FlatSt.apart {S : Sg} {f : Int} {A : Bl} {w W : World} {hv : Array Value} {ks : List Kv} {j : Nat} {kall k : Kv} (h : FlatSt S f A w hv ks j kall W) (hk : ks[j]? = some k) : ∃ A1 A2 R2 : Bl, LoosE W A1 kall ∧ LoosE W A2 k ∧ GL LoosE W (ks.drop (j + 1)) R2 ∧ (∀ q, A1 q → ¬ A2 q) ∧
    (∀ q, A1 q → ((A q ∧ q < w.heap.size) ∨ w.heap.size + 2 ≤ q) ∧ q < W.heap.size) ∧ (∀ q, A2 q → ((A q ∧ q < w.heap.size) ∨ w.heap.size + 2 ≤ q) ∧ q < W.heap.size) ∧ (∀ q, R2 q → (((A q ∧ q < w.heap.size) ∨ w.heap.size + 2 ≤ q) ∧ q < W.heap.size) ∧ ¬ A1 q ∧ ¬ A2 q) := by
  have hg := h.gl.within loosE
  rw [drop_cons hk] at hg
  obtain ⟨A1, R1, a1, r1, e1, A2, R2, a2, r2, e2, g⟩ := hg
  exact ⟨A1, A2, R2, e1, e2, g, fun q hq h2 => (r1 q (a2 q h2)).2 hq, a1, fun q hq => (r1 q (a2 q hq)).1, fun q hq => ⟨(r1 q (r2 q hq).1).1, (r1 q (r2 q hq).1).2, (r2 q hq).2⟩⟩

theorem sepKids_mk {w : World} : ∀ {F : Fo} {A : Bl} {b o : Nat}, SepKids w F A b o → SepKids w (mkF (kidsL F)) A b o
  | .nil, _, _, _, _ => trivial
  | .node _ _ _ _ _, _, _, _, ⟨A1, A2, h1, h2, h3, h4⟩ => ⟨A1, A2, h1, h2, h3, sepKids_mk h4⟩
theorem len_mk_kids (F : Fo) : lenF (mkF (kidsL F)) = lenF F := by rw [len_mk, kids_len]
theorem LoosE.mk {w : World} {A : Bl} {k : Kv} (h : LoosE w A k) : LoosE w A ⟨k.x, mkF (kidsL k.l), k.a, k.c⟩ := by
  obtain ⟨⟨hs, hl⟩, hr⟩ := h
  refine ⟨⟨by rw [len_mk_kids]; exact hs, ?_⟩, fun hn => ?_⟩
  · rcases hl with e | ⟨g, cur, e1, e2, e3, e4⟩
    · left; show mkF (kidsL k.l) = _; rw [e]; rfl
    · exact .inr ⟨g, cur, e1, e2, e3, sepKids_mk e4⟩
  · rcases hr hn with ⟨h1, h2, h3⟩ | h'
    · exact .inl ⟨h1, h2, by show lenF (mkF (kidsL k.l)) = 0; rw [len_mk_kids]; exact h3⟩
    · exact .inr h'

set_option maxRecDepth 100000 in
set_option maxHeartbeats 2000000 in
theorem flatten_any (S : Option Addr) (n cap : Nat) (l : List Sym) (f : Int) (ks : List Kv) (a : Option Addr) (c B : Nat) (A : Bl) (w : World) (hS : SigLow B w S n l) (hB : B ≤ w.heap.size) (hA : ∀ q, A q → B ≤ q) (hrow : RowFix A w a ks) (hks : GL LoosE w ks A) (hk : kindK l f ≠ 1) (hsz : sizes (ks.map Kv.tn) ≤ 1048576) :
    Calls Tryz.prog 126 #[.agg (headV S n cap l f), .slice a ks.length c] w fun e w' => ∃ k : Kv, e = .returned (.agg #[.string k.x.1, .int .i64 k.x.2, .slice k.a (lenF k.l) k.c]) ∧ FlatOut (sgOf l) f (ks.map Kv.tn) k.tn ∧ LoosE w' (fun q => A q ∨ w.heap.size ≤ q) k ∧ Turned A w w' := by
  have HS : Hid (SigLow B w S n l) := hS
  have HA : Hid (∀ q, A q → B ≤ q) := hA
  have HR : Hid (RowFix A w a ks) := hrow
  have HKS : Hid (GL LoosE w ks A) := hks
  have HSZ : Hid (sizes (ks.map Kv.tn) ≤ 1048576) := hsz
  have hlen : ks.length ≤ 1048576 := by have := psizes_len (ks.map Kv.tn); rw [List.length_map] at this; omega
  obtain ⟨i0, hi, hz0, hz1, hz2⟩ := info_parts Tryz.info27
  have hmax : maxLen = 9223372036854775807 := rfl
  have HKD : Hid ((!decide (kindK l f = 1)) = true) := by show _ = _; simp [hk]
  clear hS hA hrow hks hsz hk
  unfold headV
  by_cases h1 : ks.length = 1
  · obtain ⟨k0, rfl⟩ := List.length_eq_one_iff.1 h1
    have hbb : ∀ o1 o2, Below w.heap.size w ((w.alloc o1).alloc o2) := fun o1 o2 => ((Below.refl _ w).alloc (Nat.le_refl _) o1).alloc (by simp) o2
    obtain ⟨bb, oo, rfl, p0, p1, p2⟩ := (HR.out _ (Turned.of_below (hbb (.cells #[.slice S n cap, .int .i64 f, .int .i64 (kindK l f), .int .i64 (unitI l f), .bool (unitOk l f)] 106) (.cells #[.string ⟨#[]⟩, .int .i64 0, .slice none 0 0] 27)) A)).cells3 (j := 0) (k := k0) rfl
    rw [Nat.zero_mul, Nat.add_zero] at p0 p1 p2
    have HBB : Hid (∀ o1 o2, Below w.heap.size w ((w.alloc o1).alloc o2)) := hbb
    have hX : XBox ((w.alloc (.cells #[.slice S n cap, .int .i64 f, .int .i64 (kindK l f), .int .i64 (unitI l f), .bool (unitOk l f)] 106)).alloc (.cells #[.string k0.x.1, .int .i64 k0.x.2, .slice k0.a (lenF k0.l) k0.c] 27)) (w.heap.size + 1) k0.x (.slice k0.a (lenF k0.l) k0.c) := by
      have := World.alloc_heap_new (w.alloc (.cells #[.slice S n cap, .int .i64 f, .int .i64 (kindK l f), .int .i64 (unitI l f), .bool (unitOk l f)] 106)) (.cells #[.string k0.x.1, .int .i64 k0.x.2, .slice k0.a (lenF k0.l) k0.c] 27)
      rw [World.size_alloc] at this
      exact this
    have HX := hid hX
    clear hbb hX
    go_enter Tryz.func126, Tryz.ntmps126
    go_wp2
    refine bodyPost_ret (results_cell_row rfl _ _ (w.heap.size + 1) 27 #[.string k0.x.1, .int .i64 k0.x.2, .slice k0.a (lenF k0.l) k0.c] (0, 0) _ rfl HX.out Tryz.underlying27 rfl Tryz.size27) rfl ?_
    obtain ⟨A1, h1, h2⟩ := HKS.out.mem (k := k0) (by simp)
    exact ⟨k0, rfl, .inl rfl, loosE.mono (fun q hq => .inl (h1 q hq)) (loosE.keep (fun q _ hq => (HBB.out _ _).block q hq) h2), Turned.of_below (HBB.out _ _) A⟩
  · have hne : ((ks.length : Int) == 1) = false := by simp; omega
    have HH1 : Hid (¬ ks.length = 1) := h1
    clear h1
    obtain ⟨kd, hkd⟩ : ∃ kd, kindK l f = kd := ⟨_, rfl⟩
    obtain ⟨un, hun⟩ : ∃ un, unitI l f = un := ⟨_, rfl⟩
    obtain ⟨uo, huo⟩ : ∃ uo, unitOk l f = uo := ⟨_, rfl⟩
    rw [hkd] at HKD
    rw [hkd, hun, huo]
    clear hkd hun huo
    have HB0 : Hid (Below w.heap.size w ((w.alloc (.cells #[.slice S n cap, .int .i64 f, .int .i64 kd, .int .i64 un, .bool uo] 106)).alloc (.cells #[.string ⟨#[]⟩, .int .i64 0, .slice none 0 0] 27))) := ((Below.refl _ w).alloc (Nat.le_refl _) _).alloc (by simp) _
    have HF0 : Hid (Box ((w.alloc (.cells #[.slice S n cap, .int .i64 f, .int .i64 kd, .int .i64 un, .bool uo] 106)).alloc (.cells #[.string ⟨#[]⟩, .int .i64 0, .slice none 0 0] 27)) w.heap.size 106 #[.slice S n cap, .int .i64 f, .int .i64 kd, .int .i64 un, .bool uo]) := (Box.new w 106 _).below ((Below.refl _ _).alloc (Nat.le_refl _) _)
    have HX0 : Hid (XBox ((w.alloc (.cells #[.slice S n cap, .int .i64 f, .int .i64 kd, .int .i64 un, .bool uo] 106)).alloc (.cells #[.string ⟨#[]⟩, .int .i64 0, .slice none 0 0] 27)) (w.heap.size + 1) (⟨#[]⟩, 0) (.slice none 0 0)) := by
      have := World.alloc_heap_new (w.alloc (.cells #[.slice S n cap, .int .i64 f, .int .i64 kd, .int .i64 un, .bool uo] 106)) (.cells #[.string ⟨#[]⟩, .int .i64 0, .slice none 0 0] 27)
      rw [World.size_alloc] at this
      exact this
    go_enter Tryz.func126, Tryz.ntmps126
    go_wp2_with (at_make; refine wpList_make_own _ rfl _ _ 25 rfl 0 27 i0 (.agg #[.string ⟨#[]⟩, .int .i64 0, .slice none 0 0]) 3 Tryz.underlying25 hi hz0 hz1 .i64 .i64 _ ks.length rfl rfl rfl (by rw [hz2]; omega) (by omega) (Nat.zero_le _) ?_; intro w0 hown0 hgrow0)
    have ST0 : Hid (FlatSt (sgOf l) f A w #[.slice S n cap, .int .i64 f, .int .i64 kd, .int .i64 un, .bool uo] ks 0 ⟨(noB, f), .nil, some ⟨w.heap.size + 1 + 1, 0, none⟩, ks.length⟩ w0) := by
      have hb3 : Below w.heap.size w w0 := HB0.out.grown hgrow0 (by simp; omega) (fun k e => by cases e)
      have hg0 : ∀ q, q < w.heap.size + 2 → w0.heap[q]? = ((w.alloc (.cells #[.slice S n cap, .int .i64 f, .int .i64 kd, .int .i64 un, .bool uo] 106)).alloc (.cells #[.string ⟨#[]⟩, .int .i64 0, .slice none 0 0] 27)).heap[q]? := fun q hq => hgrow0.block q (by simp; omega) (by simp)
      refine ⟨rfl, ?_, Turned.of_below hb3 A, (hg0 _ (by omega)).trans HF0.out, (hg0 _ (by omega)).trans HX0.out, rfl⟩
      have hrest : GL LoosE w0 ks (fun q => A q ∧ q < w.heap.size) := (HKS.out.within loosE).keep loosE (fun q _ hq => hb3.block q hq)
      have hall : LoosE w0 (fun q => q = w.heap.size + 2) ⟨(noB, f), .nil, some ⟨w.heap.size + 1 + 1, 0, none⟩, ks.length⟩ := by
        refine ⟨⟨⟨by show noB.size ≤ maxLen; decide, Nat.zero_le _, by show ks.length ≤ maxLen; omega, by simp [lenF]⟩, .inl rfl⟩, fun _ => ?_⟩
        rcases hown0.2 with ⟨hv, _⟩ | ⟨g', cap', cur, hv, _, hh, _, _, hcs, _⟩
        · cases hv
        · cases hv
          rw [World.size_alloc, World.size_alloc] at hh
          exact .inr ⟨w.heap.size + 1 + 1, cur, rfl, rfl, hh, hcs⟩
      refine (GL.cons hall hrest (fun q hq h => by have := h.2; omega)).mono (fun q hq => ?_)
      rcases hq with h | h
      · exact .inr (by omega)
      · exact .inl h
    clear hown0 hgrow0 HB0 HF0 HX0
    go_loopw [5, 7, 19] (fun ov _ i wr => ∃ (j : Nat) (k : Kv), j ≤ ks.length ∧ ov = .slice k.a (lenF k.l) k.c ∧ i = .int .i64 j ∧ FlatSt (sgOf l) f A w #[.slice S n cap, .int .i64 f, .int .i64 kd, .int .i64 un, .bool uo] ks j k wr) (fun _ _ i _ => ks.length - (intOf i).toNat)
    case atStart => exact ⟨0, _, Nat.zero_le _, rfl, rfl, ST0.out⟩
    case round =>
      obtain ⟨j, k, hj, rfl, rfl, hst⟩ := hrel
      have ST : Hid (FlatSt (sgOf l) f A w #[.slice S n cap, .int .i64 f, .int .i64 kd, .int .i64 un, .bool uo] ks j k wr) := hst
      clear hst
      by_cases hlt : j < ks.length
      · obtain ⟨kj, hkj⟩ : ∃ kj, ks[j]? = some kj := ⟨_, List.getElem?_eq_getElem hlt⟩
        obtain ⟨bb, oo, rfl, p0, p1, p2⟩ := (HR.out wr ST.out.turned).cells3 hkj
        obtain ⟨A1, A2, R2, e1, e2, g, d12, a1, a2, r2⟩ := ST.out.apart hkj
        have HKJ : Hid (ks[j]? = some kj) := hkj
        have HE1 : Hid (LoosE wr A1 k) := e1
        have HE2 : Hid (LoosE wr A2 kj) := e2
        have HGR : Hid (GL LoosE wr (ks.drop (j + 1)) R2) := g
        have HD : Hid (∀ q, A1 q → ¬ A2 q) := d12
        have HA1 : Hid (∀ q, A1 q → ((A q ∧ q < w.heap.size) ∨ w.heap.size + 2 ≤ q) ∧ q < wr.heap.size) := a1
        have HA2 : Hid (∀ q, A2 q → ((A q ∧ q < w.heap.size) ∨ w.heap.size + 2 ≤ q) ∧ q < wr.heap.size) := a2
        have HR2 : Hid (∀ q, R2 q → (((A q ∧ q < w.heap.size) ∨ w.heap.size + 2 ≤ q) ∧ q < wr.heap.size) ∧ ¬ A1 q ∧ ¬ A2 q) := r2
        have hb1 : Below wr.heap.size wr (wr.alloc (.cells #[.string kj.x.1, .int .i64 kj.x.2, .slice kj.a (lenF kj.l) kj.c] 27)) := (Below.refl _ _).alloc (Nat.le_refl _) _
        have HB1 : Hid (Below wr.heap.size wr (wr.alloc (.cells #[.string kj.x.1, .int .i64 kj.x.2, .slice kj.a (lenF kj.l) kj.c] 27))) := hb1
        have hX : XBox (wr.alloc (.cells #[.string kj.x.1, .int .i64 kj.x.2, .slice kj.a (lenF kj.l) kj.c] 27)) wr.heap.size kj.x (.slice kj.a (lenF kj.l) kj.c) := World.alloc_heap_new wr _
        have HX : Hid (XBox (wr.alloc (.cells #[.string kj.x.1, .int .i64 kj.x.2, .slice kj.a (lenF kj.l) kj.c] 27)) wr.heap.size kj.x (.slice kj.a (lenF kj.l) kj.c)) := hX
        have fb := ST.out.fbox.below hb1
        have q0 := fb.c 0; have q1 := fb.c 1; have q2 := fb.c 2; have q3 := fb.c 3; have q4 := fb.c 4
        have hfe : wr.heap.size ≠ w.heap.size := by have := ST.out.fbox.lt; omega
        have hll := ST.out.size HSZ.out
        obtain ⟨gb, hgb⟩ : ∃ gb, (!decide (kd = 1) && headed f kj.tn) = gb := ⟨_, rfl⟩
        have HC : Hid (∀ W, Calls Tryz.prog 133 #[.agg #[.slice S n cap, .int .i64 f, .int .i64 kd, .int .i64 un, .bool uo], .agg #[.string kj.x.1, .int .i64 kj.x.2, .slice kj.a (lenF kj.l) kj.c]] W fun e w' => e = .returned (.bool gb) ∧ Below W.heap.size W w') := fun W => by
          have := gathers_any S n cap f kd un uo kj.tn kj.a kj.c W
          rw [hgb] at this
          exact this
        have HGB : Hid ((!decide (kd = 1) && headed f kj.tn) = gb) := hgb
        clear hgb hkj e1 e2 g d12 a1 a2 r2 hb1 hX fb
        have arm : Hid (∀ w2, Below (wr.alloc (.cells #[.string kj.x.1, .int .i64 kj.x.2, .slice kj.a (lenF kj.l) kj.c] 27)).heap.size (wr.alloc (.cells #[.string kj.x.1, .int .i64 kj.x.2, .slice kj.a (lenF kj.l) kj.c] 27)) w2 → Below wr.heap.size wr w2 ∧ XBox w2 wr.heap.size kj.x (.slice kj.a (lenF kj.l) kj.c) ∧ Box w2 w.heap.size 106 #[.slice S n cap, .int .i64 f, .int .i64 kd, .int .i64 un, .bool uo]) := fun w2 hb2 => ⟨HB1.out.trans (hb2.mono HB1.out.size), HX.out.below hb2, (ST.out.fbox.below HB1.out).below hb2⟩
        cases gb
        · have hnh : headed f kj.tn = false := by have h1 := HKD.out; have h2 := HGB.out; rw [h1] at h2; simpa using h2
          have HNH : Hid (headed f kj.tn = false) := hnh
          have HSE : Hid (∀ w2, Below wr.heap.size wr w2 → Calls Tryz.prog 72 #[.slice S n cap, .agg #[.string kj.x.1, .int .i64 kj.x.2, .slice kj.a (lenF kj.l) kj.c]] w2 fun e w' => ∃ F, e = .returned (.agg #[.string kj.x.1, .int .i64 kj.x.2, .slice kj.a (lenF F) kj.c]) ∧ lenF F = lenF kj.l ∧ SetR (sgOf l) kj.tn (kj.x, F) ∧ LoosE w' A2 ⟨kj.x, F, kj.a, kj.c⟩ ∧ Turned A2 w2 w') := fun w2 hb => settle_any S n cap l kj A2 w2 (HS.out w2 ((ST.out.turned.below HA.out hB).trans (hb.mono (by have := ST.out.turned.size; omega)))) (loosE.keep (fun q _ hq => hb.block q hq) HE2.out)
          have AR : Hid (∀ w2 w3 o, Below wr.heap.size wr w2 → Turned A2 w2 w3 → LoosE (w3.alloc o) A1 k ∧ w2.heap.size ≤ w3.heap.size) := fun w2 w3 o hb ht => ⟨loosE.keep (fun q hq hlt => by
            have h2 := hb.size
            have h3 := ht.size
            exact (Below.heap_alloc _ _ _ (by omega)).trans ((ht.block q (by omega) (HD.out q hq)).trans (hb.block q hlt))) HE1.out, ht.size⟩
          have HNK : Hid (noName k.x.1 = true) := by show _ = _; rw [ST.out.head]; exact noName_noB
          have HXK : Hid (k.x.1.size ≤ maxLen) := HE1.out.1.sizes.name
          clear hnh
          go_wp2_with (first
            | (at_builtin; obtain ⟨la, l1, l2, l3, l4⟩ := (AR.out w2 w3 (.cells #[.string kj.x.1, .int .i64 kj.x.2, .slice kj.a (lenF F) kj.c] 27) HW2.out HT3.out).1.row HNK.out; have hl0 : la.length = lenF k.l := (by have := congrArg List.length l1; rwa [List.length_map, kids_len] at this); refine wpList_append_all rfl _ _ rfl 0 (.slice k.a (lenF k.l) k.c) la rfl (by rw [hl0]; exact l2 0 (fun q _ => Nat.zero_le q)) (some ⟨w3.heap.size, 0, none⟩) 1 1 [⟨kj.x, F, kj.a, kj.c⟩] rfl (RowAt.new w3 ⟨kj.x, F, kj.a, kj.c⟩) (fun e => by cases e) (by omega) (Nat.zero_le _) ?_; intro v' w5 hown hgrow hat; obtain ⟨a', c', e', hL, hT⟩ := app_loosE (x := k.x) (B := A2) HXK.out l3 l4 (GL.one (E := SepE) (sepE.keep (fun q _ hq => Below.heap_alloc _ _ _ hq) HE3.out.1)) HD.out hown hgrow hat (by rw [List.length_append, hl0]; simp; omega); have HL := hid hL; have HT5 := hid hT; have HL1 : Hid (la.map Kv.tn = kidsL k.l) := l1; have HEV : Hid (la.length = lenF k.l) := hl0; clear hown hgrow hat l1 l2 l3 l4 hL hT hl0; subst e')
            | (go_at_call 72; refine (HSE.out _ HW2.out).mono ?_; rintro e w3 ⟨F, rfl, hF, hset, hE3, ht3⟩; have HF3 : Hid (lenF F = lenF kj.l) := hF; have HST : Hid (SetR (sgOf l) kj.tn (kj.x, F)) := hset; have HE3 : Hid (LoosE w3 A2 ⟨kj.x, F, kj.a, kj.c⟩) := hE3; have HT3 : Hid (Turned A2 w2 w3) := ht3; clear hF hset hE3 ht3)
            | (go_at_call 133; refine (HC.out _).mono ?_; rintro e w2 ⟨rfl, hb2⟩; have ha := arm.out w2 hb2; have HW2 : Hid (Below wr.heap.size wr w2) := ha.1; have x0 := ha.2.1.c0; have x1 := ha.2.1.c1; have x2 := ha.2.1.c2; have y0 := ha.2.2.c 0; clear ha hb2 q0 q1 q2 q3 q4)
            | fail)
          go_roundw
          case rel =>
            have hm : kidsL (mkF ((la ++ [(⟨kj.x, F, kj.a, kj.c⟩ : Kv)]).map Kv.tn)) = kidsL k.l ++ [(kj.x, F)] := by rw [kids_mk, List.map_append, HL1.out]; rfl
            have hal := (Below.refl w3.heap.size w3).alloc (Nat.le_refl _) (.cells #[.string kj.x.1, .int .i64 kj.x.2, .slice kj.a (lenF F) kj.c] 27)
            have ht : Turned (fun q => A1 q ∨ A2 q) w2 w5 := ((HT3.out.mono (fun q _ hq => .inr hq)).trans (Turned.of_below hal _)).trans (HT5.out.mono (fun q _ hq => .inl hq))
            refine ⟨j + 1, ⟨k.x, mkF ((la ++ [(⟨kj.x, F, kj.a, kj.c⟩ : Kv)]).map Kv.tn), a', c'⟩, by omega, by simp [len_mk], by go_num, ST.out.step HKJ.out HA1.out HA2.out HR2.out HGR.out HW2.out ht ST.out.head (loosE.mono (fun q hq => ?_) HL.out) (p := [(kj.x, F)]) (by unfold PartR; rw [HNH.out]; exact ⟨_, HST.out, rfl⟩) (by rw [hm])⟩
            rcases hq with h | h | h
            · exact .inl (.inl h)
            · exact .inl (.inr h)
            · exact .inr (by have := HT3.out.size; rw [World.size_alloc] at h; omega)
          case measure => simp [intOf]; omega
        · have hh : headed f kj.tn = true := by have h2 := HGB.out; simp at h2; exact h2.2
          have HHH : Hid (headed f kj.tn = true) := hh
          have hnn : noName kj.x.1 = true := (headed_iff.1 hh).1
          have HTG : Hid (∀ w2, Below wr.heap.size wr w2 → Calls Tryz.prog 134 #[.slice k.a (lenF k.l) k.c, .slice kj.a (lenF kj.l) kj.c] w2 fun e w' => ∃ F a c, e = .returned (.slice a (lenF F) c) ∧ List.Perm (kidsL F) (kidsL k.l ++ kidsL kj.l) ∧ LoosE w' (fun q => (A1 q ∨ A2 q) ∨ w2.heap.size ≤ q) ⟨k.x, F, a, c⟩ ∧ Turned (fun q => A1 q ∨ A2 q) w2 w') := fun w2 hb => by
            refine together_any k kj A1 A2 w2 (loosE.keep (fun q _ hq => hb.block q hq) HE1.out) (loosE.keep (fun q _ hq => hb.block q hq) HE2.out) (by rw [ST.out.head]; exact noName_noB) hnn HD.out ?_
            have h1 := sizes_mem (List.mem_map_of_mem (f := Kv.tn) (List.mem_of_getElem? HKJ.out))
            have h2 := len_nodes kj.l
            have h3 : sizeT kj.tn = nodesF kj.l + 1 := rfl
            have h4 := HSZ.out
            omega
          clear hh hnn
          go_wp2_with (first
            | (go_at_call 134; refine (HTG.out _ HW2.out).mono ?_; rintro e w3 ⟨F, a', c', rfl, hp3, hE3, ht3⟩; have HP3 : Hid (List.Perm (kidsL F) (kidsL k.l ++ kidsL kj.l)) := hp3; have HE3 : Hid (LoosE w3 (fun q => (A1 q ∨ A2 q) ∨ w2.heap.size ≤ q) ⟨k.x, F, a', c'⟩) := hE3; have HT3 : Hid (Turned (fun q => A1 q ∨ A2 q) w2 w3) := ht3; clear hp3 hE3 ht3)
            | (go_at_call 133; refine (HC.out _).mono ?_; rintro e w2 ⟨rfl, hb2⟩; have ha := arm.out w2 hb2; have HW2 : Hid (Below wr.heap.size wr w2) := ha.1; have x0 := ha.2.1.c0; have x1 := ha.2.1.c1; have x2 := ha.2.1.c2; have y0 := ha.2.2.c 0; clear ha hb2 q0 q1 q2 q3 q4)
            | fail)
          go_roundw
          case rel => exact ⟨j + 1, ⟨k.x, F, a', c'⟩, by omega, rfl, by go_num, ST.out.step HKJ.out HA1.out HA2.out HR2.out HGR.out HW2.out HT3.out ST.out.head HE3.out (by unfold PartR; rw [HHH.out]; exact List.Perm.refl _) HP3.out⟩
          case measure => simp [intOf]; omega
      · have ej : j = ks.length := by omega
        have c1 : wr.cell? ⟨w.heap.size, 1, none⟩ = some (.int .i64 f) := ST.out.fbox.c 1
        have X2 := ST.out.rbox
        have r0 := X2.c0; have r1 := X2.c1; have r2 := X2.c2
        have g0 := X2.f (k := 0); have g1 := X2.f (k := 1); have g2 := X2.f (k := 2)
        clear X2
        go_wp2
        refine bodyPost_ret (results_cell_row rfl _ _ (w.heap.size + 1) 27 #[.string ⟨#[]⟩, .int .i64 f, .slice k.a (lenF k.l) k.c] (0, 0) _ rfl (ST.out.rbox.all (x := (⟨#[]⟩, f)) _) Tryz.underlying27 rfl Tryz.size27) rfl ?_
        obtain ⟨A1, R1, a1, r1, e1, _⟩ := ST.out.gl
        have hx := ST.out.head
        have hE := e1.mk
        rw [hx] at hE
        refine ⟨⟨(noB, f), mkF (kidsL k.l), k.a, k.c⟩, by rw [len_mk_kids]; rfl, .inr ⟨by rw [List.length_map]; exact HH1.out, kidsL k.l, ?_, rfl⟩, ?_, ?_⟩
        · have := ST.out.flat
          rwa [ej, List.take_length] at this
        · refine loosE.mono (fun q hq => ?_) (loosE.keep (fun q hq _ => sets_far ?_ _ _ _) hE)
          · rcases a1 q hq with h | h
            · exact .inl h.1
            · exact .inr (by omega)
          · rcases a1 q hq with h | h <;> omega
        · have hT := ST.out.turned
          exact ⟨hT.os, hT.tape, hT.output, by have := hT.size; simp; omega, fun q hq hn => (sets_far (by omega) _ _ _).trans (hT.block q hq hn)⟩
end Go.Proofs.YtgidgmgpgfonnaaGreat
