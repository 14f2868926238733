/- The program's own way to canonical forms, without any program: forms that are loose at the top, laid one behind the other, then put in order. -/
import Derived.Test.YtppgmepmegelbaaGreatDoorSgOf
import Derived.Test.YtppgmepmegelbaaGreatDoorCanS
import Derived.Test.YtppgmepmegelbaaGreatDoorCanR
namespace Go.Proofs.YtppgmepmegelbaaGreatDoor
open Go.RowKit Go.Deep

/-! ### two lists, one beside the other -/
def All2 {α β : Type} (R : α → β → Prop) : List α → List β → Prop
  | [], [] => True
  | a :: xs, b :: ys => R a b ∧ All2 R xs ys
  | _, _ => False
theorem All2.snoc {α β : Type} {R : α → β → Prop} {a : α} {b : β} (h : R a b) : ∀ {xs : List α} {ys : List β}, All2 R xs ys → All2 R (xs ++ [a]) (ys ++ [b])
  | [], [], _ => ⟨h, trivial⟩
  | [], _ :: _, k => k.elim
  | _ :: _, [], k => k.elim
  | _ :: _, _ :: _, k => ⟨k.1, All2.snoc h k.2⟩
theorem All2.len {α β : Type} {R : α → β → Prop} : ∀ {xs : List α} {ys : List β}, All2 R xs ys → xs.length = ys.length
  | [], [], _ => rfl
  | [], _ :: _, k => k.elim
  | _ :: _, [], k => k.elim
  | _ :: _, _ :: _, k => by simp [All2.len k.2]
theorem All2.mono {α β : Type} {R R' : α → β → Prop} : ∀ {xs : List α} {ys : List β}, (∀ a ∈ xs, ∀ b, R a b → R' a b) → All2 R xs ys → All2 R' xs ys
  | [], [], _, _ => trivial
  | [], _ :: _, _, k => k.elim
  | _ :: _, [], _, k => k.elim
  | a :: _, b :: _, h, k => ⟨h a (by simp) b k.1, All2.mono (fun x hx => h x (by simp [hx])) k.2⟩

/-! ### loose forms -/
def jn (S : Sg) (t : Tn) : Bool := noName t.1.1 && S.joins t.1.2
/-- The same but for the order at the top. -/
def Mod (S : Sg) (c r : Tn) : Prop := r.1 = c.1 ∧ if jn S c then List.Perm (kidsL r.2) (kidsL c.2) else r = c
/-- Put in order at the top. -/
def SetR (S : Sg) (r r' : Tn) : Prop := r'.1 = r.1 ∧ if jn S r then ∃ l, r'.2 = mkF l ∧ List.Perm l (kidsL r.2) ∧ Srt l else r' = r
theorem mod_set {S : Sg} {ar : Int → Nat} {c r r' : Tn} (hc : CanT S ar c) (h : Mod S c r) (k : SetR S r r') : r' = c := by
  obtain ⟨h1, h2⟩ := h
  obtain ⟨k1, k2⟩ := k
  have e : jn S r = jn S c := by unfold jn; rw [h1]
  rw [e] at k2
  cases hj : jn S c with
  | false =>
    rw [hj] at h2 k2
    simp only [Bool.false_eq_true, if_false] at h2 k2
    rw [k2, h2]
  | true =>
    rw [hj] at h2 k2
    simp only [if_true] at h2 k2
    obtain ⟨l, e1, e2, e3⟩ := k2
    unfold jn at hj
    rw [Bool.and_eq_true] at hj
    have hcan := hc.1
    unfold can1 at hcan
    rw [if_neg (by rw [hj.1]; simp), if_pos hj.2] at hcan
    have e4 : kidsL c.2 = l := srt_eq (can_kids hc.2) hcan.2.2.1 e3 (h2.symm.trans e2.symm)
    have e5 := can_mk_kids hc.2
    rw [e4] at e5
    exact Prod.ext (k1.trans h1) (e1.trans e5)
theorem set_size {S : Sg} {r r' : Tn} (k : SetR S r r') : sizeT r' = sizeT r := by
  obtain ⟨_, k2⟩ := k
  cases hj : jn S r with
  | false => rw [hj] at k2; simp only [Bool.false_eq_true, if_false] at k2; rw [k2]
  | true =>
    rw [hj] at k2
    simp only [if_true] at k2
    obtain ⟨l, e1, e2, _⟩ := k2
    unfold sizeT
    rw [e1, nodes_mk, nodes_sizes r.2, sizes_perm e2]
theorem mod_un {S : Sg} {ar : Int → Nat} (hS : S.Ok ar) {f : Int} {c r : Tn} (h : Mod S c r) : isUn S f c = isUn S f r := by
  obtain ⟨h1, h2⟩ := h
  have key : ∀ u, S.unit f = some u → c.1 = (noB, u) → r = c := fun u hu e => by
    have : jn S c = false := by unfold jn; rw [e]; simp [hS.free f u hu]
    rw [this] at h2
    simpa using h2
  cases hc : isUn S f c with
  | true =>
    obtain ⟨u, hu, rfl⟩ := isUn_some hc
    rw [key u hu rfl]
    exact hc.symm
  | false =>
    cases hr : isUn S f r with
    | false => rfl
    | true =>
      obtain ⟨u, hu, rfl⟩ := isUn_some hr
      rw [← key u hu h1.symm] at hc
      rw [hc] at hr
      exact hr
/-- What a term gives to its symbol's list, in some order. -/
def PartR (S : Sg) (f : Int) (r : Tn) (p : List Tn) : Prop := if headed f r then List.Perm p (kidsL r.2) else ∃ r', SetR S r r' ∧ p = [r']
def FlatR (S : Sg) (f : Int) : List Tn → List Tn → Prop
  | [], out => out = []
  | r :: rs, out => ∃ p q, PartR S f r p ∧ FlatR S f rs q ∧ List.Perm out (p ++ q)
theorem FlatR.snoc {S : Sg} {f : Int} {r : Tn} {p : List Tn} (hp : PartR S f r p) : ∀ {rs out out' : List Tn}, FlatR S f rs out → List.Perm out' (out ++ p) → FlatR S f (rs ++ [r]) out'
  | [], out, out', h, k => by
    have h : out = [] := h
    subst h
    exact ⟨p, [], hp, rfl, by simpa using k⟩
  | x :: rs, out, out', ⟨p', q', h1, h2, h3⟩, k => ⟨p', q' ++ p, h1, FlatR.snoc hp h2 (List.Perm.refl _), k.trans (by rw [← List.append_assoc]; exact h3.append_right p)⟩
theorem part_size {S : Sg} {f : Int} {r : Tn} {p : List Tn} (h : PartR S f r p) : sizes p ≤ sizeT r := by
  unfold PartR at h
  split at h
  · rw [sizes_perm h, ← nodes_sizes]; unfold sizeT; omega
  · obtain ⟨r', hr, rfl⟩ := h
    rw [sizes_cons, sizes_nil, set_size hr]; omega
theorem flat_sizes {S : Sg} {f : Int} : ∀ {rs out : List Tn}, FlatR S f rs out → sizes out ≤ sizes rs
  | [], out, h => by
    have h : out = [] := h
    subst h
    exact Nat.le_refl _
  | r :: rs, out, ⟨p, q, h1, h2, h3⟩ => by
    rw [sizes_perm h3, sizes_append, sizes_cons]
    have := part_size h1
    have := flat_sizes h2
    omega
theorem part_mod {S : Sg} {ar : Int → Nat} (hS : S.Ok ar) {f : Int} (hj : S.joins f = true) {c r : Tn} (hc : CanT S ar c) (h : Mod S c r) (hu : isUn S f r = false) {p : List Tn} (hp : PartR S f r p) : List.Perm p (partsN S f c) := by
  unfold partsN
  rw [if_neg (by simp [hj]), mod_un hS h, hu]
  have e : headed f r = headed f c := by unfold headed; rw [h.1]
  unfold PartR at hp
  rw [e] at hp
  cases hh : headed f c with
  | true =>
    rw [hh] at hp
    simp only [if_true] at hp
    have hjn : jn S c = true := by
      obtain ⟨e1, e2⟩ := headed_iff.1 hh
      unfold jn; rw [e1, e2, hj]; rfl
    have h2 := h.2
    rw [hjn] at h2
    simp only [if_true] at h2
    simpa using hp.trans h2
  | false =>
    rw [hh] at hp
    simp only [Bool.false_eq_true, if_false] at hp
    obtain ⟨r', hr, rfl⟩ := hp
    rw [mod_set hc h hr]
    simp
theorem flat_mod {S : Sg} {ar : Int → Nat} (hS : S.Ok ar) {f : Int} (hj : S.joins f = true) : ∀ {ts rs out : List Tn}, (∀ t ∈ ts, RightT S ar t) → All2 (fun t r => Mod S (canonT S t) r) ts rs → (∀ r ∈ rs, isUn S f r = false) → FlatR S f rs out → List.Perm out (ts.flatMap (pc S f))
  | [], [], out, _, _, _, h => by
    have h : out = [] := h
    subst h
    simp
  | [], _ :: _, _, _, h, _, _ => h.elim
  | _ :: _, [], _, _, h, _, _ => h.elim
  | t :: ts, r :: rs, out, ht, h, hu, ⟨p, q, h1, h2, h3⟩ => by
    rw [List.flatMap_cons]
    exact h3.trans ((part_mod hS hj (canonT_can hS (ht t (by simp))) h.1 (hu r (by simp)) h1).append (flat_mod hS hj (fun x hx => ht x (by simp [hx])) h.2 (fun x hx => hu x (by simp [hx])) h2))
def FlatOut (S : Sg) (f : Int) (rs : List Tn) (r : Tn) : Prop := rs = [r] ∨ (rs.length ≠ 1 ∧ ∃ out, FlatR S f rs out ∧ r = ((noB, f), mkF out))
theorem flatout_size {S : Sg} {f : Int} {rs : List Tn} {r : Tn} (h : FlatOut S f rs r) : sizeT r ≤ sizes rs + 1 := by
  rcases h with rfl | ⟨_, out, h1, rfl⟩
  · rw [sizes_cons, sizes_nil]; omega
  · unfold sizeT
    rw [nodes_mk]
    have := flat_sizes h1
    omega
theorem pc_pos {S : Sg} {ar : Int → Nat} (hS : S.Ok ar) {f : Int} (hj : S.joins f = true) {t r : Tn} (ht : RightT S ar t) (h : Mod S (canonT S t) r) (hu : isUn S f r = false) : 1 ≤ (pc S f t).length := by
  unfold pc partsN
  rw [if_neg (by simp [hj]), mod_un hS h, hu]
  cases hh : headed f (canonT S t) with
  | true => have := (can_head hj (canonT_can hS ht) hh).2.1; simp; omega
  | false => simp
theorem flat_long {S : Sg} {ar : Int → Nat} (hS : S.Ok ar) {f : Int} (hj : S.joins f = true) : ∀ {ts rs : List Tn}, (∀ t ∈ ts, RightT S ar t) → All2 (fun t r => Mod S (canonT S t) r) ts rs → (∀ r ∈ rs, isUn S f r = false) → rs.length ≤ (ts.flatMap (pc S f)).length
  | [], [], _, _, _ => by simp
  | [], _ :: _, _, h, _ => h.elim
  | _ :: _, [], _, h, _ => h.elim
  | t :: ts, r :: rs, ht, h, hu => by
    rw [List.flatMap_cons, List.length_append, List.length_cons]
    have := pc_pos hS hj (ht t (by simp)) h.1 (hu r (by simp))
    have := flat_long hS hj (fun x hx => ht x (by simp [hx])) h.2 (fun x hx => hu x (by simp [hx]))
    omega
theorem flatout_mod {S : Sg} {ar : Int → Nat} (hS : S.Ok ar) {f : Int} (hj : S.joins f = true) {ts rs : List Tn} {r : Tn} (ht : ∀ t ∈ ts, RightT S ar t) (h : All2 (fun t r => Mod S (canonT S t) r) ts rs) (hu : ∀ r ∈ rs, isUn S f r = false) (hn : rs ≠ []) (ho : FlatOut S f rs r) :
    ∃ c, joinL S f (ts.flatMap (pc S f)) = some c ∧ Mod S c r := by
  rcases ho with rfl | ⟨hl, out, h1, rfl⟩
  · match ts, h with
    | [t], h =>
      refine ⟨canonT S t, ?_, h.1⟩
      rw [List.flatMap_cons, List.flatMap_nil, List.append_nil]
      exact join_parts hj (canonT_can hS (ht t (by simp)))
    | [], h => exact h.elim
    | _ :: _ :: _, h => exact h.2.elim
  · have h2 : 2 ≤ (ts.flatMap (pc S f)).length := by
      have := flat_long hS hj ht h hu
      have : rs.length ≠ 0 := fun e => hn (List.length_eq_zero_iff.1 e)
      omega
    refine ⟨_, join_many S f h2, rfl, ?_⟩
    have : jn S ((noB, f), mkF (sortN (ts.flatMap (pc S f)))) = true := by unfold jn; simp [noName_noB, hj]
    rw [this]
    simp only [if_true]
    rw [kids_mk, kids_mk]
    exact (flat_mod hS hj ht h hu h1).trans (sortN_perm _).symm
theorem drop_units {S : Sg} {ar : Int → Nat} (hS : S.Ok ar) {f : Int} (hj : S.joins f = true) : ∀ {ts rs : List Tn}, (∀ t ∈ ts, RightT S ar t) → All2 (fun t r => Mod S (canonT S t) r) ts rs →
    ∃ ts', All2 (fun t r => Mod S (canonT S t) r) ts' (rs.filter fun r => !isUn S f r) ∧ (∀ t ∈ ts', RightT S ar t) ∧ ts.flatMap (pc S f) = ts'.flatMap (pc S f)
  | [], [], _, _ => ⟨[], trivial, by simp, rfl⟩
  | [], _ :: _, _, h => h.elim
  | _ :: _, [], _, h => h.elim
  | t :: ts, r :: rs, ht, h => by
    obtain ⟨ts', k1, k2, k3⟩ := drop_units hS hj (fun x hx => ht x (by simp [hx])) h.2
    cases hu : isUn S f r with
    | true =>
      refine ⟨ts', by simpa [List.filter_cons, hu] using k1, k2, ?_⟩
      rw [List.flatMap_cons, k3]
      have : pc S f t = [] := by
        unfold pc partsN
        rw [if_neg (by simp [hj]), mod_un hS h.1, hu]
        simp
      rw [this]
      rfl
    | false =>
      refine ⟨t :: ts', by simpa [List.filter_cons, hu] using ⟨h.1, k1⟩, fun x hx => ?_, by rw [List.flatMap_cons, List.flatMap_cons, k3]⟩
      rcases List.mem_cons.1 hx with rfl | hx
      · exact ht _ (by simp)
      · exact k2 x hx

/-! ### a symbol's term of loose forms -/
def LayR (S : Sg) (k f u : Int) (rs : List Tn) (r : Tn) : Prop :=
  if k = 1 then ∃ rs', All2 (SetR S) rs rs' ∧ r = ((noB, f), mkF rs')
  else if k = 2 then FlatOut S f rs r
  else ((rs.filter fun r => !isUn S f r) = [] ∧ r = constT u) ∨ ((rs.filter fun r => !isUn S f r) ≠ [] ∧ FlatOut S f (rs.filter fun r => !isUn S f r) r)
/-- A form of t, loose at the top; no greater than t, whatever t is. -/
def LooseR (S : Sg) (ar : Int → Nat) (t r : Tn) : Prop := sizeT r ≤ sizeT t ∧ (S.Ok ar → RightT S ar t → Mod S (canonT S t) r)
theorem loose_sizes {S : Sg} {ar : Int → Nat} : ∀ {ts rs : List Tn}, All2 (LooseR S ar) ts rs → sizes rs ≤ sizes ts
  | [], [], _ => Nat.le_refl _
  | [], _ :: _, h => h.elim
  | _ :: _, [], h => h.elim
  | t :: ts, r :: rs, h => by
    rw [sizes_cons, sizes_cons]
    have := h.1.1
    have := loose_sizes h.2
    omega
theorem loose_mods {S : Sg} {ar : Int → Nat} (hS : S.Ok ar) : ∀ {ts rs : List Tn}, (∀ t ∈ ts, RightT S ar t) → All2 (LooseR S ar) ts rs → All2 (fun t r => Mod S (canonT S t) r) ts rs
  | [], [], _, _ => trivial
  | [], _ :: _, _, h => h.elim
  | _ :: _, [], _, h => h.elim
  | t :: ts, r :: rs, ht, h => ⟨h.1.2 hS (ht t (by simp)), loose_mods hS (fun x hx => ht x (by simp [hx])) h.2⟩
theorem set_sizes {S : Sg} : ∀ {rs rs' : List Tn}, All2 (SetR S) rs rs' → sizes rs' = sizes rs
  | [], [], _ => rfl
  | [], _ :: _, h => h.elim
  | _ :: _, [], h => h.elim
  | r :: rs, r' :: rs', h => by rw [sizes_cons, sizes_cons, set_size h.1, set_sizes h.2]
theorem sizes_filter (p : Tn → Bool) : ∀ rs : List Tn, sizes (rs.filter p) ≤ sizes rs
  | [] => Nat.le_refl _
  | r :: rs => by
    have := sizes_filter p rs
    rw [List.filter_cons]
    split
    · rw [sizes_cons, sizes_cons]; omega
    · rw [sizes_cons]; omega
theorem lay_size {S : Sg} {k f u : Int} {rs : List Tn} {r : Tn} (h : LayR S k f u rs r) : sizeT r ≤ sizes rs + 1 := by
  unfold LayR at h
  split at h
  · obtain ⟨rs', h1, rfl⟩ := h
    unfold sizeT
    rw [nodes_mk, set_sizes h1]
    omega
  · split at h
    · exact flatout_size h
    · rcases h with ⟨_, rfl⟩ | ⟨_, h⟩
      · simp [sizeT, constT, nodesF]
      · have := flatout_size h
        have := sizes_filter (fun r => !isUn S f r) rs
        omega
theorem mods_set {S : Sg} {ar : Int → Nat} (hS : S.Ok ar) : ∀ {ts rs rs' : List Tn}, (∀ t ∈ ts, RightT S ar t) → All2 (fun t r => Mod S (canonT S t) r) ts rs → All2 (SetR S) rs rs' → rs' = ts.map (canonT S)
  | [], [], [], _, _, _ => rfl
  | [], _ :: _, _, _, h, _ => h.elim
  | _ :: _, [], _, _, h, _ => h.elim
  | [], [], _ :: _, _, _, h => h.elim
  | _ :: _, _ :: _, [], _, _, h => h.elim
  | t :: ts, r :: rs, r' :: rs', ht, h, k => by rw [List.map_cons, mod_set (canonT_can hS (ht t (by simp))) h.1 k.1, mods_set hS (fun x hx => ht x (by simp [hx])) h.2 k.2]
/-- What the kinds say of a symbol. -/
structure KindOk (S : Sg) (k f u : Int) : Prop where
  free : k = 1 ↔ S.joins f = false
  ac : k = 2 → S.unit f = none
  unit : ∀ v, S.unit f = some v → v = u
theorem lay_join {S : Sg} {ar : Int → Nat} (hS : S.Ok ar) {k f u : Int} (hk : KindOk S k f u) (hj : S.joins f = true) {ts rs : List Tn} {r : Tn} (ht : ∀ t ∈ ts, RightT S ar t) (h : All2 (LooseR S ar) ts rs) (hl : LayR S k f u rs r) (hn : ts ≠ [] ∨ S.unit f ≠ none) :
    ∃ c, joinL S f (ts.flatMap (pc S f)) = some c ∧ Mod S c r := by
  have hm := loose_mods hS ht h
  have k1 : k ≠ 1 := fun e => by have := hk.free.1 e; rw [hj] at this; cases this
  unfold LayR at hl
  rw [if_neg k1] at hl
  split at hl
  · rename_i k2
    have hnone := hk.ac k2
    have hun : ∀ r ∈ rs, isUn S f r = false := fun r _ => by unfold isUn; rw [hnone]
    have hrs : rs ≠ [] := fun e => by
      have := h.len
      rw [e] at this
      rcases hn with hn | hn
      · exact hn (List.length_eq_zero_iff.1 this)
      · exact hn hnone
    exact flatout_mod hS hj ht hm hun hrs hl
  · obtain ⟨ts', h1, h2, h3⟩ := drop_units hS hj ht hm
    rw [h3]
    have hun : ∀ r ∈ rs.filter (fun r => !isUn S f r), isUn S f r = false := fun r hr => by simpa using (List.mem_filter.1 hr).2
    rcases hl with ⟨e, rfl⟩ | ⟨e, hl⟩
    · rw [e] at h1
      have : ts' = [] := List.length_eq_zero_iff.1 h1.len
      subst this
      have hsome : ∃ v, S.unit f = some v := by
        cases hv : S.unit f with
        | some v => exact ⟨v, rfl⟩
        | none =>
          exfalso
          rcases hn with hn | hn
          · have hl2 := h.len
            match ts, rs, hn, hl2 with
            | t :: ts, r :: rs, _, _ =>
              have : r ∈ (r :: rs).filter (fun r => !isUn S f r) := List.mem_filter.2 ⟨by simp, by unfold isUn; rw [hv]; rfl⟩
              rw [e] at this
              cases this
          · exact hn hv
      obtain ⟨v, hv⟩ := hsome
      have hvu := hk.unit v hv
      subst hvu
      refine ⟨constT v, by simp [joinL, hv], rfl, ?_⟩
      have : jn S (constT v) = false := by unfold jn constT; simp [hS.free f v hv]
      rw [this]
      simp
    · exact flatout_mod hS hj h2 h1 hun e hl
theorem lay_loose {S : Sg} {ar : Int → Nat} {k u : Int} {x : ByteArray × Int} {F : Fo} (hk : KindOk S k x.2 u) (hx : noName x.1 = true) (hF : lenF F ≠ 0) {rs : List Tn} {r : Tn} (h : All2 (LooseR S ar) (kidsL F) rs) (hl : LayR S k x.2 u rs r) : LooseR S ar (x, F) r := by
  refine ⟨?_, fun hS hR => ?_⟩
  · have h1 := lay_size hl
    have h2 := loose_sizes h
    rw [← nodes_sizes] at h2
    unfold sizeT at *
    show nodesF r.2 + 1 ≤ nodesF F + 1
    omega
  · have ht : ∀ t ∈ kidsL F, RightT S ar t := right_kids.1 hR.2
    have hc : canonT S (x, F) = canon1 S x ((kidsL F).map (canonT S)) := by unfold canonT; rw [canonL_map]; rfl
    cases hj : S.joins x.2 with
    | false =>
      have k1 := hk.free.2 hj
      unfold LayR at hl
      rw [if_pos k1] at hl
      obtain ⟨rs', h1, rfl⟩ := hl
      have e := mods_set hS ht (loose_mods hS ht h) h1
      have hce : canonT S (x, F) = ((noB, x.2), mkF rs') := by
        rw [hc, e]
        unfold canon1
        rw [if_neg (by rw [hx]; simp), hj]
        simp
      rw [hce]
      refine ⟨rfl, ?_⟩
      have : jn S ((noB, x.2), mkF rs') = false := by unfold jn; simp [hj]
      rw [this]
      simp
    | true =>
      have hne : kidsL F ≠ [] := fun e => hF (by rw [← kids_len, e]; rfl)
      obtain ⟨c, h1, h2⟩ := lay_join hS hk hj ht h hl (.inl hne)
      have h3 := canon1_join (S := S) (ar := ar) (x := x) (cs := (kidsL F).map (canonT S)) hx hj (fun c hc => by
        obtain ⟨t, h4, rfl⟩ := List.mem_map.1 hc
        exact canonT_can hS (ht t h4)) (by simpa using hne)
      rw [List.flatMap_map] at h3
      have h4 : some c = some (canon1 S x ((kidsL F).map (canonT S))) := h1.symm.trans h3
      rw [hc, ← Option.some.inj h4]
      exact h2

/-! ### the kinds of a signature -/
def kindK (l : List Sym) (f : Int) : Int := match symAt l f with | some x => if 1 ≤ x.kind ∧ x.kind ≤ 3 then x.kind else 1 | none => 1
theorem kindK_range (l : List Sym) (f : Int) : 1 ≤ kindK l f ∧ kindK l f ≤ 3 := by
  unfold kindK
  split
  · split <;> omega
  · omega
theorem kindK_ok (l : List Sym) (f : Int) : KindOk (sgOf l) (kindK l f) f (unitI l f) := by
  refine ⟨?_, ?_, ?_⟩
  · show _ ↔ joinsAt l f = false
    unfold kindK joinsAt
    cases symAt l f with
    | none => simp
    | some x =>
      dsimp only
      rw [Bool.or_eq_false_iff, decide_eq_false_iff_not, decide_eq_false_iff_not]
      split <;> omega
  · intro h
    show (unitAt l f).map _ = none
    rw [Option.map_eq_none_iff]
    by_cases hin : 0 ≤ f ∧ f.toNat < l.length
    · obtain ⟨n, rfl⟩ := Int.eq_ofNat_of_zero_le hin.1
      have hn : n < l.length := by simpa using hin.2
      refine unit_not hn ?_
      unfold kindK at h
      rw [symAt_in hn] at h
      dsimp only at h
      intro e
      rw [e] at h
      simp at h
    · exact unit_out hin
  · intro v hv
    have hv : (unitAt l f).map (fun (i : Nat) => (i : Int)) = some v := hv
    unfold unitI
    cases hu : unitAt l f with
    | none => rw [hu] at hv; cases hv
    | some i => rw [hu] at hv; simpa using hv.symm
end Go.Proofs.YtppgmepmegelbaaGreatDoor
