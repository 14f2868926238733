/- For every signature, two terms, symbol and list of terms, of bulk at most 1048576, CanonAxioms returns true: of each AC and ACU symbol f of a right signature and right terms x, y, z: f(x, y) is Equal to f(y, x), f(x, f(y, z)) to f(f(x, y), z), f(x, y, z) to f(x, f(y, z)), and, with f's unit u, f(x, u) to x and f(x, y, u) to f(x, y); the condition is the second form's bound. -/
import Derived.WalkKit
import Derived.WalkSpells
import Derived.BigQuiet
import Derived.Deep.RegionHeld3
import Derived.Deep.DeepCutAuto
import Derived.Test.YtlemkgdbefmeeaaM7
/- For the walks whose regions draw and call app: a call of app at a slice laid for it, in any world; Equal of two right terms of one canonical form; what lies in memory, behind new blocks and draws. -/
namespace Go.Proofs.Ytlemkgdbefmeeaa
open Go.RowKit Go.Deep

theorem bx_drew {W : World} {B : Nat} {T : TypeId} {cs : Array Value} (h : Box W B T cs) : Box W.drew B T cs := h
theorem bx_over {W : World} {B : Nat} {T : TypeId} {cs : Array Value} (h : Box W B T cs) (o : Obj) : Box (W.alloc o) B T cs := h.below (alloc_below W o)
theorem bx_new {W : World} {B : Nat} {T : TypeId} {cs : Array Value} (h : B = W.heap.size) : Box (W.alloc (.cells cs T)) B T cs := by subst h; exact Box.new W T cs
theorem bl_over {w W : World} (h : Below w.heap.size w W) (o : Obj) : Below w.heap.size w (W.alloc o) := h.alloc h.size o
theorem bl_next {w W W' : World} (h : Below w.heap.size w W) (k : Below W.heap.size W W') : Below w.heap.size w W' := h.trans (k.mono h.size)
theorem tm_drew {W : World} {x : ByteArray × Int} {a : Option Addr} {c : Nat} {F : Fo} (h : TmAt W x a c F) : TmAt W.drew x a c F := h.below (Below.refl _ W).drew
theorem tm_over {W : World} {x : ByteArray × Int} {a : Option Addr} {c : Nat} {F : Fo} (h : TmAt W x a c F) (o : Obj) : TmAt (W.alloc o) x a c F := h.below (alloc_below W o)

theorem app_box (k g : Nat) (ks : List Kv) (W : World) (hn : ks.length ≤ 1048576) (hbx : Box W g 26 (kvCells ks).toArray) (hK : ∀ kv ∈ ks, TmAt W kv.x kv.a kv.c kv.l) :
    Calls Try.prog 27 #[.int .i64 k, .slice (some ⟨g, 0, none⟩) ks.length ks.length] W fun e w' => ∃ a' c', e = .returned (.agg #[.string noB, .int .i64 k, .slice a' ks.length c']) ∧ TmAt w' (noB, (k : Int)) a' c' (mkF (ks.map Kv.tn)) ∧ Below W.heap.size W w' := by
  refine (app_any k (some ⟨g, 0, none⟩) ks.length ks.length ks W ⟨rfl, fun q u hu => ⟨g, 0, rfl, ?_⟩⟩ hK hn).mono ?_
  · rw [Nat.zero_add, hbx.c q]
    simpa using hu
  · rintro e w' ⟨a', c', rfl, ho, hb⟩
    have hl : lenF (mkF (ks.map Kv.tn)) = ks.length := by rw [len_mk, List.length_map]
    rw [hl]
    exact ⟨a', c', rfl, ho.tm, hb⟩

theorem app2 (k g : Nat) (x1 x2 : ByteArray × Int) (l1 l2 : Fo) (n1 n2 : Nat) (a1 a2 : Option Addr) (c1 c2 : Nat) (W : World) (h1 : lenF l1 = n1) (h2 : lenF l2 = n2) (hbx : Box W g 26 #[.string x1.1, .int .i64 x1.2, .slice a1 n1 c1, .string x2.1, .int .i64 x2.2, .slice a2 n2 c2]) (t1 : TmAt W x1 a1 c1 l1) (t2 : TmAt W x2 a2 c2 l2) :
    Calls Try.prog 27 #[.int .i64 k, .slice (some ⟨g, 0, none⟩) 2 2] W fun e w' => ∃ a' c', e = .returned (.agg #[.string ⟨#[]⟩, .int .i64 k, .slice a' 2 c']) ∧ TmAt w' (noB, (k : Int)) a' c' (mkF [(x1, l1), (x2, l2)]) ∧ Below W.heap.size W w' := by
  subst h1 h2
  exact app_box k g [⟨x1, l1, a1, c1⟩, ⟨x2, l2, a2, c2⟩] W (by simp) hbx (by simpa using ⟨t1, t2⟩)
theorem app3 (k g : Nat) (x1 x2 x3 : ByteArray × Int) (l1 l2 l3 : Fo) (n1 n2 n3 : Nat) (a1 a2 a3 : Option Addr) (c1 c2 c3 : Nat) (W : World) (h1 : lenF l1 = n1) (h2 : lenF l2 = n2) (h3 : lenF l3 = n3) (hbx : Box W g 26 #[.string x1.1, .int .i64 x1.2, .slice a1 n1 c1, .string x2.1, .int .i64 x2.2, .slice a2 n2 c2, .string x3.1, .int .i64 x3.2, .slice a3 n3 c3]) (t1 : TmAt W x1 a1 c1 l1) (t2 : TmAt W x2 a2 c2 l2) (t3 : TmAt W x3 a3 c3 l3) :
    Calls Try.prog 27 #[.int .i64 k, .slice (some ⟨g, 0, none⟩) 3 3] W fun e w' => ∃ a' c', e = .returned (.agg #[.string ⟨#[]⟩, .int .i64 k, .slice a' 3 c']) ∧ TmAt w' (noB, (k : Int)) a' c' (mkF [(x1, l1), (x2, l2), (x3, l3)]) ∧ Below W.heap.size W w' := by
  subst h1 h2 h3
  exact app_box k g [⟨x1, l1, a1, c1⟩, ⟨x2, l2, a2, c2⟩, ⟨x3, l3, a3, c3⟩] W (by simp) hbx (by simpa using ⟨t1, t2, t3⟩)
theorem app0 (k c : Nat) (W : World) :
    Calls Try.prog 27 #[.int .i64 k, .slice none 0 c] W fun e w' => ∃ a' c', e = .returned (.agg #[.string ⟨#[]⟩, .int .i64 k, .slice a' 0 c']) ∧ TmAt w' (noB, (k : Int)) a' c' (mkF []) ∧ Below W.heap.size W w' := by
  refine (app_any k none 0 c [] W ⟨rfl, fun q u hu => by simp [kvCells] at hu⟩ (by simp) (by simp)).mono ?_
  rintro e w' ⟨a', c', rfl, ho, hb⟩
  exact ⟨a', c', rfl, ho.tm, hb⟩

theorem pequal_true (S : Option Addr) (n cap : Nat) (l : List Sym) (t u : Tn) (a b : Option Addr) (c d : Nat) (w : World) (hS : SigAt w S n l) (hT : TmAt w t.1 a c t.2) (hU : TmAt w u.1 b d u.2) (hk : nodesF t.2 ≤ 1048576) (hk' : nodesF u.2 ≤ 1048576)
    (hOk : (sgOf l).Ok (arAt l)) (ht : RightT (sgOf l) (arAt l) t) (hu : RightT (sgOf l) (arAt l) u) (he : canonT (sgOf l) t = canonT (sgOf l) u) :
    Calls Try.prog 13 #[.slice S n cap, .agg #[.string t.1.1, .int .i64 t.1.2, .slice a (lenF t.2) c], .agg #[.string u.1.1, .int .i64 u.1.2, .slice b (lenF u.2) d]] w fun e w' => e = .returned (.bool true) ∧ Below w.heap.size w w' := by
  refine (pequal_any S n cap l t u a b c d w hS hT hU hk hk').mono ?_
  rintro e w' ⟨r, s, hr, hs, rfl, hb⟩
  refine ⟨?_, hb⟩
  have h := (same_iff hOk ht hu).2 he
  rw [hr.2 hOk ht, hs.2 hOk hu, h]
  rfl
end Go.Proofs.Ytlemkgdbefmeeaa
/- A statement whose order is open and whose operations make memory: each operation is shown once, whatever came up beside it, and what it yields is told by a fact that later worlds keep. -/
namespace Go.Proofs.Ytlemkgdbefmeeaa
open Go.RowKit

/-- The slots of the operations laid: number k's yields x k. -/
def fillD : List (Option Tmp) → Act → (Nat → Value) → Nat → Act
  | [], a, _, _ => a
  | d :: ds, a, x, k => fillD ds (a.put d (x k)) x (k + 1)

/-- No slot is laid twice. -/
def onceD : List (Option Tmp) → Bool
  | [] => true
  | d :: ds => (d.isNone || !ds.contains d) && onceD ds

def setX (x : Nat → Value) (i : Nat) (v : Value) : Nat → Value := fun j => if j = i then v else x j

theorem fillD_congr {x y : Nat → Value} : ∀ (ds : List (Option Tmp)) (a : Act) (k : Nat), (∀ j, k ≤ j → x j = y j) → fillD ds a x k = fillD ds a y k
  | [], _, _, _ => rfl
  | d :: ds, a, k, h => by
    show fillD ds (a.put d (x k)) x (k + 1) = fillD ds (a.put d (y k)) y (k + 1)
    rw [h k (Nat.le_refl _)]
    exact fillD_congr ds _ (k + 1) fun j hj => h j (by omega)

theorem fillD_out {x : Nat → Value} {d : Option Tmp} {v : Value} : ∀ (ds : List (Option Tmp)) (a : Act) (k : Nat), (∀ t, d = some t → some t ∉ ds) → fillD ds (a.put d v) x k = (fillD ds a x k).put d v
  | [], _, _, _ => rfl
  | e :: ds, a, k, h => by
    show fillD ds ((a.put d v).put e (x k)) x (k + 1) = (fillD ds (a.put e (x k)) x (k + 1)).put d v
    rw [Act.put_comm a v (x k) (fun t ht => fun he => h t ht (by rw [he]; exact List.mem_cons_self))]
    exact fillD_out ds _ (k + 1) fun t ht hm => h t ht (List.mem_cons_of_mem _ hm)

theorem put_put (a : Act) (d : Option Tmp) (u v : Value) : (a.put d u).put d v = a.put d v := by
  cases d with
  | none => rfl
  | some t => simp [Act.put]

theorem onceD_out {d : Option Tmp} {ds : List (Option Tmp)} (h : onceD (d :: ds) = true) : ∀ t, d = some t → some t ∉ ds := by
  intro t ht hm
  unfold onceD at h
  simp only [Bool.and_eq_true, Bool.or_eq_true] at h
  rcases h.1 with h1 | h1
  · rw [ht] at h1; cases h1
  · rw [ht] at h1
    have : ds.contains (some t) = true := by simpa using hm
    rw [this] at h1; cases h1

theorem fillD_set {x : Nat → Value} {v : Value} {d : Option Tmp} : ∀ (ds : List (Option Tmp)) (a : Act) (k i : Nat), onceD ds = true → ds[i]? = some d →
    fillD ds a (setX x (k + i) v) k = (fillD ds a x k).put d v
  | [], _, _, _, _, h => by simp at h
  | e :: ds, a, k, 0, ho, h => by
    obtain rfl : e = d := by simpa using h
    show fillD ds (a.put e (setX x (k + 0) v k)) (setX x (k + 0) v) (k + 1) = (fillD ds (a.put e (x k)) x (k + 1)).put e v
    have e1 : setX x (k + 0) v k = v := by simp [setX]
    rw [e1, ← fillD_out ds _ _ (onceD_out ho), put_put]
    exact fillD_congr ds _ _ fun j hj => by simp only [setX]; rw [if_neg (by omega)]
  | e :: ds, a, k, i + 1, ho, h => by
    show fillD ds (a.put e (setX x (k + (i + 1)) v k)) (setX x (k + (i + 1)) v) (k + 1) = (fillD ds (a.put e (x k)) x (k + 1)).put d v
    have e1 : setX x (k + (i + 1)) v k = x k := by simp only [setX]; rw [if_neg (by omega)]
    have e2 : k + (i + 1) = k + 1 + i := by omega
    rw [e1, e2]
    exact fillD_set ds _ (k + 1) i (by unfold onceD at ho; simp only [Bool.and_eq_true] at ho; exact ho.2) (by simpa using h)

/-- What lies in a slot at the beginning. -/
def slotX (a : Act) : Option Tmp → Value
  | some t => a.tmps.getD t undef
  | none => undef
theorem put_slot (a : Act) (d : Option Tmp) : a.put d (slotX a d) = a := by
  cases d with
  | none => rfl
  | some t =>
    unfold Act.put slotX
    by_cases h : t < a.tmps.size
    · have : a.tmps.getD t undef = a.tmps[t] := by simp [Array.getD, h]
      simp only [this]
      rw [Array.setIfInBounds_def, dif_pos h, Array.set_getElem_self]
    · simp only [Array.setIfInBounds_def, dif_neg h]
theorem fillD_start (a : Act) : ∀ (ds : List (Option Tmp)) (x : Nat → Value) (k : Nat), (∀ i d, ds[i]? = some d → x (k + i) = slotX a d) → fillD ds a x k = a
  | [], _, _, _ => rfl
  | d :: ds, x, k, h => by
    show fillD ds (a.put d (x k)) x (k + 1) = a
    have h0 := h 0 d rfl
    rw [Nat.add_zero] at h0
    rw [h0, put_slot]
    exact fillD_start a ds x (k + 1) fun i e he => by rw [show k + 1 + i = k + (i + 1) by omega]; exact h (i + 1) e (by simpa using he)

/-- Those that an operation waits for. -/
def afterT (l : List Oper) (i : Nat) : List Nat := ((l[i]?).map fun o => (o.after.toList.filter fun e => Region.binds .any e).map (·.on)).getD []
def ancT (l : List Oper) : Nat → List Nat → List Nat
  | 0, s => s
  | f + 1, s => ancT l f (s ++ ((s.flatMap (afterT l)).eraseDups.filter fun j => !s.contains j))
/-- Those that have come up when number i may. -/
def preT (l : List Oper) (i : Nat) : List Nat := ancT l l.length (afterT l i).eraseDups
/-- Each waits for earlier ones alone. -/
def earlyT (l : List Oper) : Bool := (List.range l.length).all fun i => (afterT l i).all fun j => decide (j < i)

theorem mem_afterT {l : List Oper} {i : Nat} {o : Oper} (ho : l[i]? = some o) {j : Nat} : j ∈ afterT l i ↔ ∃ e ∈ o.after, Region.binds .any e = true ∧ e.on = j := by
  unfold afterT
  rw [ho]
  simp only [Option.map_some, Option.getD_some, List.mem_map, List.mem_filter, Array.mem_toList_iff]
  constructor
  · rintro ⟨e, ⟨h1, h2⟩, h3⟩; exact ⟨e, h1, h2, h3⟩
  · rintro ⟨e, h1, h2, h3⟩; exact ⟨e, ⟨h1, h2⟩, h3⟩

def Closed (l : List Oper) (listed : Array Bool) : Prop := ∀ i, listed.getD i false = true → ∀ j ∈ afterT l i, listed.getD j false = true

theorem anc_listed {l : List Oper} {listed : Array Bool} (hc : Closed l listed) : ∀ (f : Nat) (s : List Nat), (∀ j ∈ s, listed.getD j false = true) → ∀ j ∈ ancT l f s, listed.getD j false = true
  | 0, _, h, j, hj => h j hj
  | f + 1, s, h, j, hj => anc_listed hc f _ (fun k hk => by
      rcases List.mem_append.1 hk with hk | hk
      · exact h k hk
      · have hk' := (List.mem_filter.1 hk).1
        rw [List.mem_eraseDups] at hk'
        obtain ⟨m, hm, hkm⟩ := List.mem_flatMap.1 hk'
        exact hc m (h m hm) k hkm) j hj

section
variable {P : Program} {Q : Exit → Act → World → Prop}

theorem wpAny_inv {md : Region.Mode} {ops : Array Oper} (I : Array Bool → Act → World → Prop)
    (hstep : ∀ listed i a w, i ∈ Region.ready md ops listed → I listed a w → wpOp P ops Q i (I (listed.setIfInBounds i true)) a w)
    (hdone : ∀ listed a w, Region.ready md ops listed = [] → I listed a w → Q .normal a w) :
    ∀ (fuel : Nat) (listed : Array Bool) (a : Act) (w : World), I listed a w → listed.toList.count false ≤ fuel → wpAny P md ops Q fuel listed a w
  | 0, listed, a, w, hI, hf => by
    have hr : Region.ready md ops listed = [] := by
      rw [List.eq_nil_iff_forall_not_mem]
      intro i hi
      have h0 := (mem_ready.1 hi).1
      have hm : false ∈ listed.toList := by
        by_cases hlt : i < listed.size
        · have : listed[i] = false := by simpa [Array.getD, hlt] using h0
          rw [← this]; exact Array.getElem_mem_toList hlt
        · simp [Array.getD, hlt] at h0
      have := List.count_pos_iff.2 hm
      omega
    exact ⟨hr, hdone _ _ _ hr hI⟩
  | fuel + 1, listed, a, w, hI, hf => by
    refine ⟨fun hr => hdone _ _ _ hr hI, fun i hi => wpOp_mono (fun a' w' h' => wpAny_inv I hstep hdone fuel _ a' w' h' ?_) (hstep _ _ _ _ hi hI)⟩
    have h0 := (mem_ready.1 hi).1
    by_cases hlt : i < listed.size
    · have h1 : listed[i] = false := by simpa [Array.getD, hlt] using h0
      rw [Array.toList_setIfInBounds, List.count_set (by simpa using hlt)]
      simp only [Array.getElem_toList, h1]
      have hm : false ∈ listed.toList := by rw [← h1]; exact Array.getElem_mem_toList hlt
      have := List.count_pos_iff.2 hm
      have e1 : (if (false == false) = true then 1 else 0) = 1 := rfl
      have e2 : (if (true == false) = true then 1 else 0) = 0 := rfl
      rw [e1, e2]
      omega
    · simp [Array.getD, hlt] at h0

/-- It was so in an earlier world. -/
def Was (R : Value → World → Prop) (v : Value) (w : World) : Prop := ∃ b, Below b.heap.size b w ∧ R v b
theorem Was.later {R : Value → World → Prop} {v : Value} {w w' : World} (h : Was R v w) (hb : Below w.heap.size w w') : Was R v w' := by
  obtain ⟨b, hb1, h1⟩ := h
  exact ⟨b, hb1.trans (hb.mono hb1.size), h1⟩

/-- One operation, whatever came up beside it. -/
def StepT (P : Program) (Q : Exit → Act → World → Prop) (l : List Oper) (w : World) (R : Nat → Value → World → Prop) (mk : (Nat → Value) → Act) (i : Nat) (o : Oper) : Prop :=
  ∀ (x : Nat → Value) (w1 : World), Below w.heap.size w w1 → Shut (∀ j, (preT l i).contains j = true → Was (R j) (x j) w1) →
    ∀ K : Act → World → Prop, Shut (∀ v w2, Below w1.heap.size w1 w2 → R i v w2 → K ((mk x).put o.dst v) w2) →
      if Region.wanted o (yielded l.toArray (mk x).tmps) = true then Oper.wp P o (mk x) w1 K Q else K ((mk x).put o.dst undef) w1

/-- All of them, from number k on. -/
def StepsT (P : Program) (Q : Exit → Act → World → Prop) (l : List Oper) (w : World) (R : Nat → Value → World → Prop) (mk : (Nat → Value) → Act) : Nat → List Oper → Prop
  | _, [] => True
  | k, o :: os => StepT P Q l w R mk k o ∧ StepsT P Q l w R mk (k + 1) os

theorem StepsT.cons {l : List Oper} {w : World} {R : Nat → Value → World → Prop} {mk : (Nat → Value) → Act} {k : Nat} {o : Oper} {os : List Oper}
    (h : StepT P Q l w R mk k o) (hs : StepsT P Q l w R mk (k + 1) os) : StepsT P Q l w R mk k (o :: os) := ⟨h, hs⟩
theorem StepsT.nil {l : List Oper} {w : World} {R : Nat → Value → World → Prop} {mk : (Nat → Value) → Act} {k : Nat} : StepsT P Q l w R mk k [] := True.intro

theorem StepsT.at_ {l : List Oper} {w : World} {R : Nat → Value → World → Prop} {mk : (Nat → Value) → Act} : ∀ (os : List Oper) (k i : Nat) (o : Oper), StepsT P Q l w R mk k os → os[i]? = some o → StepT P Q l w R mk (k + i) o
  | [], _, _, _, _, h => by simp at h
  | o :: os, k, 0, o', hs, h => by
    obtain rfl : o = o' := by simpa using h
    exact hs.1
  | o :: os, k, i + 1, o', hs, h => by
    rw [show k + (i + 1) = k + 1 + i by omega]
    exact StepsT.at_ os (k + 1) i o' hs.2 (by simpa using h)

theorem wp_region_typed {id : Nat} {l : List Oper} {a : Act} {w : World} (ds : List (Option Tmp)) (R : Nat → Value → World → Prop) {mk : (Nat → Value) → Act}
    (hm : P.follows .mixedOrders = true) (hds : (l.map (·.dst)) = ds) (hon : onceD ds = true) (hea : earlyT l = true)
    (hmk : ∀ x, fillD ds a x 0 = mk x)
    (hsteps : StepsT P Q l w R mk 0 l)
    (hdone : ∀ (x : Nat → Value) (w' : World), Below w.heap.size w w' → Shut (∀ j, j < l.length → Was (R j) (x j) w') → Q .normal (mk x) w') :
    (Code.region id l.toArray true).wp P Q a w := by
  refine wp_region_any hm ?_
  refine wpAny_inv (fun listed a' w' => ∃ x, a' = mk x ∧ Below w.heap.size w w' ∧ listed.size = l.length ∧ Closed l listed ∧ ∀ j, listed.getD j false = true → Was (R j) (x j) w') ?_ ?_ _ _ _ _ ?_ ?_
  · rintro listed i a' w' hi ⟨x, rfl, hb, hsz, hc, hR⟩
    obtain ⟨h0, o, ho, hall⟩ := mem_ready.1 hi
    have ho' : l[i]? = some o := by simpa using ho
    have hil : i < l.length := (List.getElem?_eq_some_iff.1 ho').1
    have hst := StepsT.at_ l 0 i o hsteps ho'
    rw [Nat.zero_add] at hst
    have hpre : ∀ j, (preT l i).contains j = true → Was (R j) (x j) w' := fun j hj => by
      have hj' : j ∈ preT l i := by simpa using hj
      refine hR j (anc_listed hc _ _ ?_ j hj')
      intro m hm'
      rw [List.mem_eraseDups] at hm'
      obtain ⟨e, he, hbd, rfl⟩ := (mem_afterT ho').1 hm'
      exact hall e he hbd
    refine wpOp_step ho fun K' hK => hst x w' hb hpre K' fun v w2 hb2 hr => ?_
    refine hK _ _ ⟨setX x i v, ?_, hb.trans (hb2.mono hb.size), by rw [Array.size_setIfInBounds]; exact hsz, ?_, ?_⟩
    · have hd : ds[i]? = some o.dst := by rw [← hds, List.getElem?_map, ho']; rfl
      rw [← hmk, ← hmk]
      have := fillD_set (x := x) (v := v) ds a 0 i hon hd
      rw [Nat.zero_add] at this
      exact this.symm
    · intro j hj k hk
      by_cases hji : j = i
      · subst hji
        obtain ⟨e, he, hbd, rfl⟩ := (mem_afterT ho').1 hk
        exact getD_set_true (hall e he hbd)
      · refine getD_set_true (hc j ?_ k hk)
        rw [getD_set_ne false (Ne.symm hji)] at hj
        exact hj
    · intro j hj
      by_cases hji : j = i
      · subst hji
        have : setX x j v j = v := by simp [setX]
        rw [this]
        exact ⟨w2, Below.refl _ _, hr⟩
      · have : setX x i v j = x j := by simp only [setX]; rw [if_neg hji]
        rw [this]
        rw [getD_set_ne false (Ne.symm hji)] at hj
        exact (hR j hj).later hb2
  · rintro listed a' w' hr ⟨x, rfl, hb, hsz, hc, hR⟩
    refine hdone x w' hb ?_
    have hall : ∀ n, ∀ j, j < n → j < l.length → listed.getD j false = true := by
      intro n
      induction n with
      | zero => intro j hj; omega
      | succ n ih =>
        intro j hj hjl
        by_cases hjn : j < n
        · exact ih j hjn hjl
        · obtain rfl : j = n := by omega
          cases hv : listed.getD j false with
          | true => rfl
          | false =>
            exfalso
            have hjs : j < listed.size := by omega
            have hv' : listed.getD j true = false := by simpa [Array.getD, hjs] using hv
            have : j ∈ Region.ready .any l.toArray listed := mem_ready.2 ⟨hv', l[j], by simp [hjl], fun e he hbd => by
              have hmem : e.on ∈ afterT l j := (mem_afterT (List.getElem?_eq_getElem hjl)).2 ⟨e, he, hbd, rfl⟩
              have hlt : e.on < j := by
                unfold earlyT at hea
                have h1 := List.all_eq_true.1 hea j (List.mem_range.2 hjl)
                have h2 := List.all_eq_true.1 h1 e.on hmem
                simpa using h2
              exact ih e.on hlt (by omega)⟩
            rw [hr] at this
            cases this
    intro j hj
    exact hR j (hall (j + 1) j (by omega) hj)
  · refine ⟨fun i => slotX a (ds.getD i none), ?_, (Below.refl _ w).drew, by simp, ?_, ?_⟩
    · rw [← hmk]
      refine (fillD_start a ds _ 0 fun i d hd => ?_).symm
      rw [Nat.zero_add]
      show slotX a (ds.getD i none) = slotX a d
      rw [List.getD_eq_getElem?_getD, hd]; rfl
    · intro i hi
      exfalso
      revert hi
      simp [Array.getD]
    · intro i hi
      exfalso
      revert hi
      simp [Array.getD]
  · simp
end
end Go.Proofs.Ytlemkgdbefmeeaa
/- What the operations of a drawn statement yield: a value, a term, a slice of terms; app and Equal of what is known so. -/
namespace Go.Proofs.Ytlemkgdbefmeeaa
open Go.RowKit Go.Deep

def rV (u : Value) : Value → World → Prop := fun v _ => v = u
def rT (t : Tn) : Value → World → Prop := fun v W => ∃ a c, v = .agg #[.string t.1.1, .int .i64 t.1.2, .slice a (lenF t.2) c] ∧ TmAt W t.1 a c t.2
def rL (ts : List Tn) : Value → World → Prop := fun v W => ∃ (g : Nat) (ks : List Kv), v = .slice (some ⟨g, 0, none⟩) ks.length ks.length ∧ ks.map Kv.tn = ts ∧ Box W g 26 (kvCells ks).toArray ∧ ∀ kv ∈ ks, TmAt W kv.x kv.a kv.c kv.l

theorem unwanted {c : Bool} {A B : Prop} (h : c = false) (hb : B) : if c = true then A else B := by
  rw [h, if_neg Bool.false_ne_true]
  exact hb
theorem was_eq {u v : Value} {W : World} (h : Was (rV u) v W) : v = u := by
  obtain ⟨_, _, e⟩ := h
  exact e
theorem was_term {t : Tn} {v : Value} {W : World} (h : Was (rT t) v W) : rT t v W := by
  obtain ⟨b, hb, a, c, e, ht⟩ := h
  exact ⟨a, c, e, ht.below hb⟩
theorem was_list {ts : List Tn} {v : Value} {W : World} (h : Was (rL ts) v W) : rL ts v W := by
  obtain ⟨b, hb, g, ks, e, hm, hbx, hk⟩ := h
  exact ⟨g, ks, e, hm, hbx.below hb, fun kv hkv => (hk kv hkv).below hb⟩

theorem app_rl (k : Nat) (ts : List Tn) (v : Value) (W : World) (hn : ts.length ≤ 1048576) (h : rL ts v W) :
    Calls Try.prog 27 #[.int .i64 k, v] W fun e w' => ∃ u, e = .returned u ∧ rT (appT (k : Int) ts) u w' ∧ Below W.heap.size W w' := by
  obtain ⟨g, ks, rfl, rfl, hbx, hk⟩ := h
  refine (app_box k g ks W (by simpa using hn) hbx hk).mono ?_
  rintro e w' ⟨a', c', rfl, ht, hb⟩
  have hl : lenF (mkF (ks.map Kv.tn)) = ks.length := by rw [len_mk, List.length_map]
  exact ⟨_, rfl, ⟨a', c', by rw [show (appT (k : Int) (ks.map Kv.tn)).2 = mkF (ks.map Kv.tn) from rfl, hl]; rfl, ht⟩, hb⟩
theorem app_r0 (k c : Nat) (W : World) :
    Calls Try.prog 27 #[.int .i64 k, .slice none 0 c] W fun e w' => ∃ u, e = .returned u ∧ rT (appT (k : Int) []) u w' ∧ Below W.heap.size W w' := by
  refine (app0 k c W).mono ?_
  rintro e w' ⟨a', c', rfl, ht, hb⟩
  exact ⟨_, rfl, ⟨a', c', rfl, ht⟩, hb⟩
theorem equal_rt (S : Option Addr) (n cap : Nat) (l : List Sym) (t u : Tn) (v1 v2 : Value) (W : World) (hS : SigAt W S n l) (h1 : rT t v1 W) (h2 : rT u v2 W) (hk : nodesF t.2 ≤ 1048576) (hk' : nodesF u.2 ≤ 1048576)
    (hOk : (sgOf l).Ok (arAt l)) (ht : RightT (sgOf l) (arAt l) t) (hu : RightT (sgOf l) (arAt l) u) (he : canonT (sgOf l) t = canonT (sgOf l) u) :
    Calls Try.prog 13 #[.slice S n cap, v1, v2] W fun e w' => e = .returned (.bool true) ∧ Below W.heap.size W w' := by
  obtain ⟨a, c, rfl, ta⟩ := h1
  obtain ⟨b, d, rfl, tb⟩ := h2
  exact pequal_true S n cap l t u a b c d W hS ta tb hk hk' hOk ht hu he

theorem nodes0 (f : Int) : nodesF (appT f []).2 = 0 := rfl
theorem nodes2 (f : Int) (x y : Tn) : nodesF (appT f [x, y]).2 = nodesF x.2 + 1 + (nodesF y.2 + 1) := by
  show nodesF (mkF [x, y]) = _
  rw [nodes_mk, sizes_cons, sizes_cons, sizes_nil]
  unfold sizeT
  omega
theorem nodes3 (f : Int) (x y z : Tn) : nodesF (appT f [x, y, z]).2 = nodesF x.2 + 1 + (nodesF y.2 + 1) + (nodesF z.2 + 1) := by
  show nodesF (mkF [x, y, z]) = _
  rw [nodes_mk, sizes_cons, sizes_cons, sizes_cons, sizes_nil]
  unfold sizeT
  omega

/-- A slice laid of terms. -/
theorem rl2 {t u : Tn} {W : World} {a b : Option Addr} {c d : Nat} {W' : World} {g : Nat} (h1 : TmAt W t.1 a c t.2) (h2 : TmAt W u.1 b d u.2) (hb : Below W.heap.size W W')
    (hbx : Box W' g 26 #[.string t.1.1, .int .i64 t.1.2, .slice a (lenF t.2) c, .string u.1.1, .int .i64 u.1.2, .slice b (lenF u.2) d]) : rL [t, u] (.slice (some ⟨g, 0, none⟩) 2 2) W' :=
  ⟨g, [⟨t.1, t.2, a, c⟩, ⟨u.1, u.2, b, d⟩], rfl, rfl, hbx, by
    intro kv hkv
    simp only [List.mem_cons, List.not_mem_nil, or_false] at hkv
    rcases hkv with rfl | rfl
    · exact h1.below hb
    · exact h2.below hb⟩
theorem rl3 {t u z : Tn} {W : World} {a b e : Option Addr} {c d f : Nat} {W' : World} {g : Nat} (h1 : TmAt W t.1 a c t.2) (h2 : TmAt W u.1 b d u.2) (h3 : TmAt W z.1 e f z.2) (hb : Below W.heap.size W W')
    (hbx : Box W' g 26 #[.string t.1.1, .int .i64 t.1.2, .slice a (lenF t.2) c, .string u.1.1, .int .i64 u.1.2, .slice b (lenF u.2) d, .string z.1.1, .int .i64 z.1.2, .slice e (lenF z.2) f]) : rL [t, u, z] (.slice (some ⟨g, 0, none⟩) 3 3) W' :=
  ⟨g, [⟨t.1, t.2, a, c⟩, ⟨u.1, u.2, b, d⟩, ⟨z.1, z.2, e, f⟩], rfl, rfl, hbx, by
    intro kv hkv
    simp only [List.mem_cons, List.not_mem_nil, or_false] at hkv
    rcases hkv with rfl | rfl | rfl
    · exact h1.below hb
    · exact h2.below hb
    · exact h3.below hb⟩
end Go.Proofs.Ytlemkgdbefmeeaa
/- How a statement of layer 4 follows from its walk: the frame, of CanonAxioms. -/
namespace Go.Proofs.Ytlemkgdbefmeeaa
open Go.ChangeShapes Go.WideShapes Go.ChangeAt Go.RowKit Go.Deep

def AxiomsWalk : Prop := ∀ (S : Option Addr) (n cap : Nat) (l : List Sym) (A B : Tn) (a b : Option Addr) (c d : Nat) (f : Int) (La : Option Addr) (F : Fo) (lc : Nat) (W : World), TwoAt W S n l A B a b c d La F → n ≤ cap → nodesF A.2 + nodesF B.2 + nodesF F + 4 ≤ 1048576 →
  Calls Try.prog 6 #[.agg (twoC S n cap A B a b c d f La F lc)] W fun e W' => e = .returned (.bool true) ∧ Below W.heap.size W W'

set_option maxRecDepth 100000 in
theorem canonAxioms_contract (walk : AxiomsWalk) (H : Type) (enc : TypeId × Value → H) (W : World) (base : Nat) (args : Array Value) (ds gs : List (DataW H)) (before : List MemPlace)
    (hval : ∀ (j : Nat) t v, Try.f6.params[j]? = some t → args[j]? = some v → Value.okWide Try.prog W .any base t v)
    (hW : DataW.Whole enc Try.prog Try.f6.params.toList Rows.canonAxiomsSpec.vars false W args.toList ds gs before) (hk : Rows.uptoSmall H (ds ++ gs) = true) :
    Calls Try.prog 6 args W fun e W' => ∃ v, e = .returned v ∧ Rows.canonAxiomsSpec.post enc Try.prog Try.f6 false true false false W args v W' := by
  have hW' := hW
  obtain ⟨p, q, hA0, hV, rfl, hfz, hnd⟩ := hW
  have hA : DataW.TrodAll enc Try.prog W 0 (fun _ => true) true Try.f6.params.toList args.toList ds p := hA0
  rw [Try.params6] at hA hval
  obtain ⟨v0, vs0, d0, ds0, p0, q0, hargs, rfl, rfl, h0, r0⟩ := trodAll_cons hA
  obtain ⟨rfl, rfl, rfl⟩ := trodAll_nil r0
  obtain rfl : args = #[v0] := by cases args; simp_all
  obtain ⟨rfl, rfl⟩ := trodVars_none hV
  have lt0 : ∀ x ∈ p0, x.block < W.heap.size := by obtain ⟨m, hm⟩ := h0; exact DataW.trod_lt m _ _ _ hm
  have hbulk : Rows.uptoBulk d0 ≤ 1048576 := by
    have h : Rows.uptoBulkAll ([d0] ++ []) ≤ 1048576 := of_decide_eq_true hk
    simp only [List.append_nil, Rows.uptoBulkAll] at h
    omega
  obtain ⟨S, n, cap, l, A, B, a, b, c, d, f, La, F, lc, rfl, hT, hc, hs⟩ := two_open (hval 0 28 v0 rfl rfl) h0 hbulk
  clear hA0
  refine (walk S n cap l A B a b c d f La F lc W hT hc hs).mono fun e W' ⟨he, bel⟩ => ?_
  subst he
  exact ⟨_, rfl, _, _, _, [], _, [], hW', trodAll_mk1 (shut_bool Try.underlying4 _), (trodAll_cons_mk (Below.trod laidOut (by kernel_rfl) (of_decide_eq_true (by kernel_rfl)) h0 bel lt0) trodAll_mk0), rfl, bel.frame _, fun h => by cases h⟩

set_option maxRecDepth 100000 in
theorem canonAxioms_lifted (walk : AxiomsWalk) (os : Os) (started : os.Started) (H : Type) (enc : TypeId × Value → H) (F : Stop.Interp) :
    ReturnsInHanded {} Try.checked os 6 .any ((Rows.OpenSpec.upto Rows.canonAxiomsSpec).pre6 enc Try.prog Try.f6 Rows.canonAxiomsUptoRow.domain false) (((Rows.OpenSpec.upto Rows.canonAxiomsSpec).at F).post enc Try.prog Try.f6 false true false false) := by
  refine returnsInHanded_of_cond (C := Try.checked) (s := Rows.OpenSpec.upto Rows.canonAxiomsSpec) (k := Rows.uptoSmall) rfl own started (by kernel_rfl) Try.func6
    (OpenSpec.witness (enc := enc) (C := Try.checked) (s := Rows.OpenSpec.upto Rows.canonAxiomsSpec) (k := Rows.uptoSmall) rfl false ⟨#[], #[.agg #[.slice none 0 0, .string .empty, .int .i64 0, .slice none 0 0, .string .empty, .int .i64 0, .slice none 0 0, .int .i64 0, .slice none 0 0]], []⟩ 8 (by kernel_rfl) (by kernel_rfl) (by kernel_rfl)
      (x := ([.agg [.nil, .agg [.lit (.string []), .lit (.int .i64 0), .nil], .agg [.lit (.string []), .lit (.int .i64 0), .nil], .lit (.int .i64 0), .nil]], [], [])) (by kernel_rfl) rfl (by kernel_rfl)) ?_
  intro W base args ds gs before hval hW _ hk _
  exact canonAxioms_contract walk H enc W base args ds gs before hval hW hk

set_option maxRecDepth 100000 in
theorem canonAxioms_of (walk : AxiomsWalk) : Rows.CanonAxiomsUptoSaid :=
  OpenClaim.holds_of_cond 6 Try.f6 rfl rfl rfl rfl rfl rfl rfl ⟨rfl, rfl, rfl, rfl, rfl⟩ rfl rfl rfl rfl rfl (by kernel_rfl) Try.func6 (by kernel_rfl)
    (of_decide_eq_true (by kernel_rfl)) (by unfold Func.isWrapper; first | (rw [if_pos (by decide +kernel)]; kernel_rfl) | (rw [if_neg (by decide +kernel)]; exact ⟨rfl, rfl⟩))
    (fun os started H enc _ F => canonAxioms_lifted walk os started H enc F)
end Go.Proofs.Ytlemkgdbefmeeaa
namespace Go.Proofs.Ytlemkgdbefmeeaa
open Go.RowKit Go.Deep

set_option maxRecDepth 100000 in
set_option maxHeartbeats 8000000 in
theorem axioms_walk : AxiomsWalk := by
  intro S n cap l A B a b c d f La F lc w hT hcap hsz
  have HT := hid hT
  have HSZ := hid hsz
  clear hT hsz
  have I0 : Hid (InSt w (twoC S n cap A B a b c d f La F lc) (w.alloc (.cells (twoC S n cap A B a b c d f La F lc) 28))) := InSt.new w _
  have HRT := hid (fun W (hW : Below w.heap.size w W) => right_any S n cap l A B a b c d f La F lc W (HT.out.below hW))
  unfold twoC at I0 HRT ⊢
  go_enter Try.func6, Try.ntmps6
  go_wp2_with fail
  refine (head_any _).mono ?_
  rintro e w1 ⟨rfl, hb1⟩
  have I1 := hid (I0.out.below hb1)
  clear I0 hb1
  have i0 := I1.out.box.c 0 rfl; have i1 := I1.out.box.c 1 rfl; have i2 := I1.out.box.c 2 rfl; have i3 := I1.out.box.c 3 rfl; have i4 := I1.out.box.c 4 rfl; have i5 := I1.out.box.c 5 rfl; have i6 := I1.out.box.c 6 rfl; have i7 := I1.out.box.c 7 rfl; have i8 := I1.out.box.c 8 rfl
  go_wp2_with fail
  refine (HRT.out w1 I1.out.low).mono ?_
  rintro e w2 ⟨rfl, hb2⟩
  have I2 := hid (I1.out.below hb2)
  clear I1 hb2 i0 i1 i2 i3 i4 i5 i6 i7 i8
  have i8 := I2.out.box.c 8 rfl
  cases hrt : (rightB l A && rightB l B && (kidsL F).all (rightB l))
  · go_wp2
    go_ret
    exact ⟨rfl, I2.out.low⟩
  · by_cases h0 : lenF F = 0
    · have hz : ((lenF F : Int) == 0) = true := by simp [h0]
      go_wp2
      go_ret
      exact ⟨rfl, I2.out.low⟩
    · have hz : ((lenF F : Int) == 0) = false := by simpa using h0
      have hra : rightB l A = true := by simp only [Bool.and_eq_true] at hrt; exact hrt.1.1
      have hrb : rightB l B = true := by simp only [Bool.and_eq_true] at hrt; exact hrt.1.2
      have hrl : ∀ t ∈ kidsL F, rightB l t = true := by simp only [Bool.and_eq_true] at hrt; exact List.all_eq_true.1 hrt.2
      obtain ⟨Lb, Lo, hLa, hkk⟩ := HT.out.l.get (by omega)
      obtain ⟨y, ya, yc, yl, kd⟩ := hkk.kid (k := 0) (by omega)
      have hy : (kidsL F)[0]? = some (y, yl) := by
        obtain ⟨B1, O1, sp⟩ := kd.split
        rw [drop_zero] at sp
        rw [sp]; rfl
      have hry := hrl _ (List.mem_of_getElem? hy)
      have hyn := kd.less
      have HKD0 := hid kd
      have HRA := hid hra
      have HRB := hid hrb
      have HRY := hid hry
      subst hLa
      clear hra hrb hry hrl hkk hy kd
      have BA := alloc_below w2 (.cells #[.string A.1.1, .int .i64 A.1.2, .slice a (lenF A.2) c] 26)
      have BB := alloc_below (w2.alloc (.cells #[.string A.1.1, .int .i64 A.1.2, .slice a (lenF A.2) c] 26)) (.cells #[.string B.1.1, .int .i64 B.1.2, .slice b (lenF B.2) d] 26)
      have IA := I2.out.below BA
      have IB := IA.below BB
      have j1 := I2.out.box.c 1 rfl; have j2 := I2.out.box.c 2 rfl; have j3 := I2.out.box.c 3 rfl
      have j4 := IA.box.c 4 rfl; have j5 := IA.box.c 5 rfl; have j6 := IA.box.c 6 rfl; have j8 := IB.box.c 8 rfl
      have kdw := HKD0.out.below IB.low
      have y0 := kdw.name; have y1 := kdw.sym; have y2 := kdw.list
      rw [Nat.zero_mul, Nat.add_zero] at y0 y1 y2
      have BY := alloc_below ((w2.alloc (.cells #[.string A.1.1, .int .i64 A.1.2, .slice a (lenF A.2) c] 26)).alloc (.cells #[.string B.1.1, .int .i64 B.1.2, .slice b (lenF B.2) d] 26)) (.cells #[.string y.1, .int .i64 y.2, .slice ya (lenF yl) yc] 26)
      have I5 := hid (IB.below BY)
      have XA : Hid (Box (((w2.alloc (.cells #[.string A.1.1, .int .i64 A.1.2, .slice a (lenF A.2) c] 26)).alloc (.cells #[.string B.1.1, .int .i64 B.1.2, .slice b (lenF B.2) d] 26)).alloc (.cells #[.string y.1, .int .i64 y.2, .slice ya (lenF yl) yc] 26)) w2.heap.size 26 #[.string A.1.1, .int .i64 A.1.2, .slice a (lenF A.2) c]) := hid (bx_over (bx_over (Box.new w2 26 _) _) _)
      have XB : Hid (Box (((w2.alloc (.cells #[.string A.1.1, .int .i64 A.1.2, .slice a (lenF A.2) c] 26)).alloc (.cells #[.string B.1.1, .int .i64 B.1.2, .slice b (lenF B.2) d] 26)).alloc (.cells #[.string y.1, .int .i64 y.2, .slice ya (lenF yl) yc] 26)) (w2.heap.size + 1) 26 #[.string B.1.1, .int .i64 B.1.2, .slice b (lenF B.2) d]) := hid (bx_over (bx_new (by simp)) _)
      have XY : Hid (Box (((w2.alloc (.cells #[.string A.1.1, .int .i64 A.1.2, .slice a (lenF A.2) c] 26)).alloc (.cells #[.string B.1.1, .int .i64 B.1.2, .slice b (lenF B.2) d] 26)).alloc (.cells #[.string y.1, .int .i64 y.2, .slice ya (lenF yl) yc] 26)) (w2.heap.size + 1 + 1) 26 #[.string y.1, .int .i64 y.2, .slice ya (lenF yl) yc]) := hid (bx_new (by simp))
      have hl0 : (0 : Int) < (lenF F : Int) := by omega
      have hl1 : 0 < lenF F := by omega
      have hl2 : lenF F ≠ 0 := by omega
      clear BA BB IA IB kdw BY I2 HRT
      have LA := hid (HT.out.a.below I5.out.low)
      have LB := hid (HT.out.b.below I5.out.low)
      have LY := hid ((HKD0.out.at_).below I5.out.low)
      have LS := hid (HT.out.sig.below I5.out.low)
      have LI : Hid (Box _ w.heap.size 28 _) := hid I5.out.box
      have HNL := hid HT.out.sig.len
      have hns := HT.out.sig.small
      unfold maxLen at hns
      have L0 := hid I5.out.low
      clear HT HKD0
      have k0 := LI.out.c 0
      go_wp2_with fail
      clear k0 j1 j2 j3 j4 j5 j6 j8 y0 y1 y2 i8 hl0 hl1 hl2
      generalize ((w2.alloc (.cells #[.string A.1.1, .int .i64 A.1.2, .slice a (lenF A.2) c] 26)).alloc (.cells #[.string B.1.1, .int .i64 B.1.2, .slice b (lenF B.2) d] 26)).alloc (.cells #[.string y.1, .int .i64 y.2, .slice ya (lenF yl) yc] 26) = W5 at I5 XA XB XY LA LB LY LS LI L0 ⊢
      go_loopw [8] (fun i wr => ∃ k : Nat, k ≤ n ∧ i = .int .i64 k ∧ Below W5.heap.size W5 wr) (fun i _ => n - (intOf i).toNat)
      case atStart => exact ⟨0, Nat.zero_le _, rfl, Below.refl _ _⟩
      case round =>
        obtain ⟨k, hk, rfl, hst⟩ := hrel
        have ST := hid hst
        clear hst
        have j0 := (LI.out.below ST.out).c 0
        by_cases hlt : k < n
        · have hkl : k < l.length := by have := HNL.out; omega
          obtain ⟨sb, so, rfl, hw⟩ := LS.out.cells k hkl
          have c1 := (hw.below ST.out).kind
          clear hw
          by_cases hkd : l[k].kind = 1
          · rw [hkd] at c1
            have hkn : ((1 : Int) == 1) = true := rfl
            go_wp2
            go_roundw
            case rel => exact ⟨k + 1, by omega, by go_num, ST.out⟩
            case measure => simp [intOf]; omega
          · have HKD := hid hkd
            have hkn : (l[k].kind == 1) = false := by simpa using hkd
            have hj : (sgOf l).joins (k : Int) = true := joins_of (by have := HRA.out; unfold rightB at this; simp only [Bool.and_eq_true, beq_iff_eq] at this; exact this.1) hkl hkd
            obtain ⟨hOk, hRA⟩ := right_facts HRA.out
            have hRB := (right_facts HRB.out).2
            have hRY := (right_facts HRY.out).2
            have HJ := hid hj; have HOK := hid hOk; have RA := hid hRA; have RB := hid hRB; have RY := hid hRY
            have HZ : Hid (Below W5.heap.size W5 wr) := ST
            have Q0 : Hid (W5.cell? ⟨w.heap.size, 0, none⟩ = some (.slice (some ⟨sb, so, none⟩) n cap)) := hid (LI.out.c 0)
            have Qa0 : Hid (W5.cell? ⟨w2.heap.size, 0, none⟩ = some (.string A.1.1)) := hid (XA.out.c 0)
            have Qa1 : Hid (W5.cell? ⟨w2.heap.size, 1, none⟩ = some (.int .i64 A.1.2)) := hid (XA.out.c 1)
            have Qa2 : Hid (W5.cell? ⟨w2.heap.size, 2, none⟩ = some (.slice a (lenF A.2) c)) := hid (XA.out.c 2)
            have Qb0 : Hid (W5.cell? ⟨w2.heap.size + 1, 0, none⟩ = some (.string B.1.1)) := hid (XB.out.c 0)
            have Qb1 : Hid (W5.cell? ⟨w2.heap.size + 1, 1, none⟩ = some (.int .i64 B.1.2)) := hid (XB.out.c 1)
            have Qb2 : Hid (W5.cell? ⟨w2.heap.size + 1, 2, none⟩ = some (.slice b (lenF B.2) d)) := hid (XB.out.c 2)
            have Qy0 : Hid (W5.cell? ⟨w2.heap.size + 1 + 1, 0, none⟩ = some (.string y.1)) := hid (XY.out.c 0)
            have Qy1 : Hid (W5.cell? ⟨w2.heap.size + 1 + 1, 1, none⟩ = some (.int .i64 y.2)) := hid (XY.out.c 1)
            have Qy2 : Hid (W5.cell? ⟨w2.heap.size + 1 + 1, 2, none⟩ = some (.slice ya (lenF yl) yc)) := hid (XY.out.c 2)
            clear hkd hj hOk hRA hRB hRY HRA HRB HRY I5 hrt
            go_wp2_with fail
            clear j0 c1
            go_upto_region 12 with fail
            go_cut [9] (fun v wc => v = .bool true ∧ Below W5.heap.size W5 wc)
            case first =>
              refine wp_region_typed [some 52, some 53, some 54, some 55, some 56, some 57, some 58, some 59, some 60, some 61, some 62, some 63, some 64, some 9] (fun i => ([rV (.pointer (some ⟨w.heap.size, 0, none⟩)), rV (.slice (some ⟨sb, so, none⟩) n cap), rV (.int .i64 (k : Int)), rT A, rT B, rL [A, B], rT (appT (k : Int) [A, B]), rV (.int .i64 (k : Int)), rT B, rT A, rL [B, A], rT (appT (k : Int) [B, A]), rV (.bool true), rV (.bool true)] : List (Value → World → Prop)).getD i (fun _ _ => False)) (mk := ?mk12) (by kernel_rfl) (by rfl) (by kernel_rfl) (by kernel_rfl) ?hmk12 ?hsteps12 ?hdone12
              case hmk12 => intro x; simp only [fillD, Act.put, List.setIfInBounds_toArray, List.set_cons_zero, List.set_cons_succ]; rfl
              case hsteps12 =>
                refine StepsT.cons (fun x w1 hw hR K hK => ?_) ?_
                · rw [if_pos (by rfl)]; go_simp; exact hK.out _ _ (Below.refl _ _) rfl
                refine StepsT.cons (fun x w1 hw hR K hK => ?_) ?_
                · rw [if_pos (by rfl)]; have e0 : x 0 = .pointer (some ⟨w.heap.size, 0, none⟩) := was_eq (hR.out 0 (by kernel_rfl)); rw [e0] at hK ⊢; have q0 := below_cell (bl_next HZ.out hw) _ _ Q0.out; go_simp; exact hK.out _ _ (Below.refl _ _) rfl
                refine StepsT.cons (fun x w1 hw hR K hK => ?_) ?_
                · rw [if_pos (by rfl)]; go_simp; exact hK.out _ _ (Below.refl _ _) rfl
                refine StepsT.cons (fun x w1 hw hR K hK => ?_) ?_
                · rw [if_pos (by rfl)]; have q0 := below_cell (bl_next HZ.out hw) _ _ Qa0.out; have q1 := below_cell (bl_next HZ.out hw) _ _ Qa1.out; have q2 := below_cell (bl_next HZ.out hw) _ _ Qa2.out; go_simp; exact hK.out _ _ (Below.refl _ _) ⟨_, _, rfl, LA.out.below (bl_next HZ.out hw)⟩
                refine StepsT.cons (fun x w1 hw hR K hK => ?_) ?_
                · rw [if_pos (by rfl)]; have q0 := below_cell (bl_next HZ.out hw) _ _ Qb0.out; have q1 := below_cell (bl_next HZ.out hw) _ _ Qb1.out; have q2 := below_cell (bl_next HZ.out hw) _ _ Qb2.out; go_simp; exact hK.out _ _ (Below.refl _ _) ⟨_, _, rfl, LB.out.below (bl_next HZ.out hw)⟩
                refine StepsT.cons (fun x w1 hw hR K hK => ?_) ?_
                · rw [if_pos (by rfl)]; obtain ⟨a0, c0, e0, t0⟩ := was_term (t := A) (hR.out 3 (by kernel_rfl)); rw [e0] at hK ⊢; obtain ⟨a1, c1, e1, t1⟩ := was_term (t := B) (hR.out 4 (by kernel_rfl)); rw [e1] at hK ⊢; go_simp; exact hK.out _ _ (alloc_below _ _) (rl2 t0 t1 (alloc_below _ _) (bx_new rfl))
                refine StepsT.cons (fun x w1 hw hR K hK => ?_) ?_
                · rw [if_pos (by rfl)]; have e0 : x 2 = (.int .i64 (k : Int)) := was_eq (hR.out 2 (by kernel_rfl)); rw [e0] at hK ⊢; have r1 := was_list (ts := [A, B]) (hR.out 5 (by kernel_rfl)); go_simp; refine (app_rl k _ _ w1 (by simp) r1).mono ?_; rintro e w2 ⟨v, rfl, hv, hb⟩; go_wp2_with fail; exact hK.out _ _ hb hv
                refine StepsT.cons (fun x w1 hw hR K hK => ?_) ?_
                · rw [if_pos (by rfl)]; go_simp; exact hK.out _ _ (Below.refl _ _) rfl
                refine StepsT.cons (fun x w1 hw hR K hK => ?_) ?_
                · rw [if_pos (by rfl)]; have q0 := below_cell (bl_next HZ.out hw) _ _ Qb0.out; have q1 := below_cell (bl_next HZ.out hw) _ _ Qb1.out; have q2 := below_cell (bl_next HZ.out hw) _ _ Qb2.out; go_simp; exact hK.out _ _ (Below.refl _ _) ⟨_, _, rfl, LB.out.below (bl_next HZ.out hw)⟩
                refine StepsT.cons (fun x w1 hw hR K hK => ?_) ?_
                · rw [if_pos (by rfl)]; have q0 := below_cell (bl_next HZ.out hw) _ _ Qa0.out; have q1 := below_cell (bl_next HZ.out hw) _ _ Qa1.out; have q2 := below_cell (bl_next HZ.out hw) _ _ Qa2.out; go_simp; exact hK.out _ _ (Below.refl _ _) ⟨_, _, rfl, LA.out.below (bl_next HZ.out hw)⟩
                refine StepsT.cons (fun x w1 hw hR K hK => ?_) ?_
                · rw [if_pos (by rfl)]; obtain ⟨a0, c0, e0, t0⟩ := was_term (t := B) (hR.out 8 (by kernel_rfl)); rw [e0] at hK ⊢; obtain ⟨a1, c1, e1, t1⟩ := was_term (t := A) (hR.out 9 (by kernel_rfl)); rw [e1] at hK ⊢; go_simp; exact hK.out _ _ (alloc_below _ _) (rl2 t0 t1 (alloc_below _ _) (bx_new rfl))
                refine StepsT.cons (fun x w1 hw hR K hK => ?_) ?_
                · rw [if_pos (by rfl)]; have e0 : x 7 = (.int .i64 (k : Int)) := was_eq (hR.out 7 (by kernel_rfl)); rw [e0] at hK ⊢; have r1 := was_list (ts := [B, A]) (hR.out 10 (by kernel_rfl)); go_simp; refine (app_rl k _ _ w1 (by simp) r1).mono ?_; rintro e w2 ⟨v, rfl, hv, hb⟩; go_wp2_with fail; exact hK.out _ _ hb hv
                refine StepsT.cons (fun x w1 hw hR K hK => ?_) ?_
                · rw [if_pos (by rfl)]; have e0 : x 1 = (.slice (some ⟨sb, so, none⟩) n cap) := was_eq (hR.out 1 (by kernel_rfl)); rw [e0] at hK ⊢; have r1 := was_term (t := (appT (k : Int) [A, B])) (hR.out 6 (by kernel_rfl)); have r2 := was_term (t := (appT (k : Int) [B, A])) (hR.out 11 (by kernel_rfl)); have hz := HSZ.out; go_simp; refine (equal_rt (some ⟨sb, so, none⟩) n cap l (appT (k : Int) [A, B]) (appT (k : Int) [B, A]) _ _ w1 (LS.out.below (bl_next HZ.out hw)) r1 r2 ?_ ?_ HOK.out (right2 HJ.out RA.out RB.out) (right2 HJ.out RB.out RA.out) (ax_turn HOK.out HJ.out RA.out RB.out)).mono ?_; (solve | ((repeat first | rw [nodes2] | rw [nodes3] | rw [nodes0]); (try dsimp only); omega)); (solve | ((repeat first | rw [nodes2] | rw [nodes3] | rw [nodes0]); (try dsimp only); omega)); rintro e w2 ⟨rfl, hb⟩; go_wp2_with fail; exact hK.out _ _ hb rfl
                refine StepsT.cons (fun x w1 hw hR K hK => ?_) ?_
                · rw [if_pos (by rfl)]; have e0 : x 12 = (.bool true) := was_eq (hR.out 12 (by kernel_rfl)); rw [e0] at hK ⊢; go_simp; exact hK.out _ _ (Below.refl _ _) rfl
                exact StepsT.nil
              case hdone12 =>
                intro x w1 hw hR
                have e0 : x 13 = (.bool true) := was_eq (hR.out 13 (by decide))
                rw [e0]
                go_wp2_with fail; go_meet
                exact ⟨rfl, bl_next HZ.out hw⟩
            case rest =>
              obtain ⟨rfl, hbc⟩ := hcut
              clear HZ
              have HZ := hid hbc
              clear hbc
              go_upto_region 13 with fail
              go_cut [10] (fun v wc => v = .bool true ∧ Below W5.heap.size W5 wc)
              case first =>
                refine wp_region_typed [some 65, some 66, some 67, some 68, some 69, some 70, some 71, some 72, some 73, some 74, some 75, some 76, some 77, some 78, some 79, some 80, some 81, some 82, some 83, some 84, some 85, some 10] (fun i => ([rV (.pointer (some ⟨w.heap.size, 0, none⟩)), rV (.slice (some ⟨sb, so, none⟩) n cap), rV (.int .i64 (k : Int)), rT A, rV (.int .i64 (k : Int)), rT B, rT (y, yl), rL [B, (y, yl)], rT (appT (k : Int) [B, (y, yl)]), rL [A, (appT (k : Int) [B, (y, yl)])], rT (appT (k : Int) [A, (appT (k : Int) [B, (y, yl)])]), rV (.int .i64 (k : Int)), rV (.int .i64 (k : Int)), rT A, rT B, rL [A, B], rT (appT (k : Int) [A, B]), rT (y, yl), rL [(appT (k : Int) [A, B]), (y, yl)], rT (appT (k : Int) [(appT (k : Int) [A, B]), (y, yl)]), rV (.bool true), rV (.bool true)] : List (Value → World → Prop)).getD i (fun _ _ => False)) (mk := ?mk13) (by kernel_rfl) (by rfl) (by kernel_rfl) (by kernel_rfl) ?hmk13 ?hsteps13 ?hdone13
                case hmk13 => intro x; simp only [fillD, Act.put, List.setIfInBounds_toArray, List.set_cons_zero, List.set_cons_succ]; rfl
                case hsteps13 =>
                  refine StepsT.cons (fun x w1 hw hR K hK => ?_) ?_
                  · rw [if_pos (by rfl)]; go_simp; exact hK.out _ _ (Below.refl _ _) rfl
                  refine StepsT.cons (fun x w1 hw hR K hK => ?_) ?_
                  · rw [if_pos (by rfl)]; have e0 : x 0 = .pointer (some ⟨w.heap.size, 0, none⟩) := was_eq (hR.out 0 (by kernel_rfl)); rw [e0] at hK ⊢; have q0 := below_cell (bl_next HZ.out hw) _ _ Q0.out; go_simp; exact hK.out _ _ (Below.refl _ _) rfl
                  refine StepsT.cons (fun x w1 hw hR K hK => ?_) ?_
                  · rw [if_pos (by rfl)]; go_simp; exact hK.out _ _ (Below.refl _ _) rfl
                  refine StepsT.cons (fun x w1 hw hR K hK => ?_) ?_
                  · rw [if_pos (by rfl)]; have q0 := below_cell (bl_next HZ.out hw) _ _ Qa0.out; have q1 := below_cell (bl_next HZ.out hw) _ _ Qa1.out; have q2 := below_cell (bl_next HZ.out hw) _ _ Qa2.out; go_simp; exact hK.out _ _ (Below.refl _ _) ⟨_, _, rfl, LA.out.below (bl_next HZ.out hw)⟩
                  refine StepsT.cons (fun x w1 hw hR K hK => ?_) ?_
                  · rw [if_pos (by rfl)]; go_simp; exact hK.out _ _ (Below.refl _ _) rfl
                  refine StepsT.cons (fun x w1 hw hR K hK => ?_) ?_
                  · rw [if_pos (by rfl)]; have q0 := below_cell (bl_next HZ.out hw) _ _ Qb0.out; have q1 := below_cell (bl_next HZ.out hw) _ _ Qb1.out; have q2 := below_cell (bl_next HZ.out hw) _ _ Qb2.out; go_simp; exact hK.out _ _ (Below.refl _ _) ⟨_, _, rfl, LB.out.below (bl_next HZ.out hw)⟩
                  refine StepsT.cons (fun x w1 hw hR K hK => ?_) ?_
                  · rw [if_pos (by rfl)]; have q0 := below_cell (bl_next HZ.out hw) _ _ Qy0.out; have q1 := below_cell (bl_next HZ.out hw) _ _ Qy1.out; have q2 := below_cell (bl_next HZ.out hw) _ _ Qy2.out; go_simp; exact hK.out _ _ (Below.refl _ _) ⟨_, _, rfl, LY.out.below (bl_next HZ.out hw)⟩
                  refine StepsT.cons (fun x w1 hw hR K hK => ?_) ?_
                  · rw [if_pos (by rfl)]; obtain ⟨a0, c0, e0, t0⟩ := was_term (t := B) (hR.out 5 (by kernel_rfl)); rw [e0] at hK ⊢; obtain ⟨a1, c1, e1, t1⟩ := was_term (t := (y, yl)) (hR.out 6 (by kernel_rfl)); rw [e1] at hK ⊢; go_simp; exact hK.out _ _ (alloc_below _ _) (rl2 t0 t1 (alloc_below _ _) (bx_new rfl))
                  refine StepsT.cons (fun x w1 hw hR K hK => ?_) ?_
                  · rw [if_pos (by rfl)]; have e0 : x 4 = (.int .i64 (k : Int)) := was_eq (hR.out 4 (by kernel_rfl)); rw [e0] at hK ⊢; have r1 := was_list (ts := [B, (y, yl)]) (hR.out 7 (by kernel_rfl)); go_simp; refine (app_rl k _ _ w1 (by simp) r1).mono ?_; rintro e w2 ⟨v, rfl, hv, hb⟩; go_wp2_with fail; exact hK.out _ _ hb hv
                  refine StepsT.cons (fun x w1 hw hR K hK => ?_) ?_
                  · rw [if_pos (by rfl)]; obtain ⟨a0, c0, e0, t0⟩ := was_term (t := A) (hR.out 3 (by kernel_rfl)); rw [e0] at hK ⊢; obtain ⟨a1, c1, e1, t1⟩ := was_term (t := (appT (k : Int) [B, (y, yl)])) (hR.out 8 (by kernel_rfl)); rw [e1] at hK ⊢; go_simp; exact hK.out _ _ (alloc_below _ _) (rl2 t0 t1 (alloc_below _ _) (bx_new rfl))
                  refine StepsT.cons (fun x w1 hw hR K hK => ?_) ?_
                  · rw [if_pos (by rfl)]; have e0 : x 2 = (.int .i64 (k : Int)) := was_eq (hR.out 2 (by kernel_rfl)); rw [e0] at hK ⊢; have r1 := was_list (ts := [A, (appT (k : Int) [B, (y, yl)])]) (hR.out 9 (by kernel_rfl)); go_simp; refine (app_rl k _ _ w1 (by simp) r1).mono ?_; rintro e w2 ⟨v, rfl, hv, hb⟩; go_wp2_with fail; exact hK.out _ _ hb hv
                  refine StepsT.cons (fun x w1 hw hR K hK => ?_) ?_
                  · rw [if_pos (by rfl)]; go_simp; exact hK.out _ _ (Below.refl _ _) rfl
                  refine StepsT.cons (fun x w1 hw hR K hK => ?_) ?_
                  · rw [if_pos (by rfl)]; go_simp; exact hK.out _ _ (Below.refl _ _) rfl
                  refine StepsT.cons (fun x w1 hw hR K hK => ?_) ?_
                  · rw [if_pos (by rfl)]; have q0 := below_cell (bl_next HZ.out hw) _ _ Qa0.out; have q1 := below_cell (bl_next HZ.out hw) _ _ Qa1.out; have q2 := below_cell (bl_next HZ.out hw) _ _ Qa2.out; go_simp; exact hK.out _ _ (Below.refl _ _) ⟨_, _, rfl, LA.out.below (bl_next HZ.out hw)⟩
                  refine StepsT.cons (fun x w1 hw hR K hK => ?_) ?_
                  · rw [if_pos (by rfl)]; have q0 := below_cell (bl_next HZ.out hw) _ _ Qb0.out; have q1 := below_cell (bl_next HZ.out hw) _ _ Qb1.out; have q2 := below_cell (bl_next HZ.out hw) _ _ Qb2.out; go_simp; exact hK.out _ _ (Below.refl _ _) ⟨_, _, rfl, LB.out.below (bl_next HZ.out hw)⟩
                  refine StepsT.cons (fun x w1 hw hR K hK => ?_) ?_
                  · rw [if_pos (by rfl)]; obtain ⟨a0, c0, e0, t0⟩ := was_term (t := A) (hR.out 13 (by kernel_rfl)); rw [e0] at hK ⊢; obtain ⟨a1, c1, e1, t1⟩ := was_term (t := B) (hR.out 14 (by kernel_rfl)); rw [e1] at hK ⊢; go_simp; exact hK.out _ _ (alloc_below _ _) (rl2 t0 t1 (alloc_below _ _) (bx_new rfl))
                  refine StepsT.cons (fun x w1 hw hR K hK => ?_) ?_
                  · rw [if_pos (by rfl)]; have e0 : x 12 = (.int .i64 (k : Int)) := was_eq (hR.out 12 (by kernel_rfl)); rw [e0] at hK ⊢; have r1 := was_list (ts := [A, B]) (hR.out 15 (by kernel_rfl)); go_simp; refine (app_rl k _ _ w1 (by simp) r1).mono ?_; rintro e w2 ⟨v, rfl, hv, hb⟩; go_wp2_with fail; exact hK.out _ _ hb hv
                  refine StepsT.cons (fun x w1 hw hR K hK => ?_) ?_
                  · rw [if_pos (by rfl)]; have q0 := below_cell (bl_next HZ.out hw) _ _ Qy0.out; have q1 := below_cell (bl_next HZ.out hw) _ _ Qy1.out; have q2 := below_cell (bl_next HZ.out hw) _ _ Qy2.out; go_simp; exact hK.out _ _ (Below.refl _ _) ⟨_, _, rfl, LY.out.below (bl_next HZ.out hw)⟩
                  refine StepsT.cons (fun x w1 hw hR K hK => ?_) ?_
                  · rw [if_pos (by rfl)]; obtain ⟨a0, c0, e0, t0⟩ := was_term (t := (appT (k : Int) [A, B])) (hR.out 16 (by kernel_rfl)); rw [e0] at hK ⊢; obtain ⟨a1, c1, e1, t1⟩ := was_term (t := (y, yl)) (hR.out 17 (by kernel_rfl)); rw [e1] at hK ⊢; go_simp; exact hK.out _ _ (alloc_below _ _) (rl2 t0 t1 (alloc_below _ _) (bx_new rfl))
                  refine StepsT.cons (fun x w1 hw hR K hK => ?_) ?_
                  · rw [if_pos (by rfl)]; have e0 : x 11 = (.int .i64 (k : Int)) := was_eq (hR.out 11 (by kernel_rfl)); rw [e0] at hK ⊢; have r1 := was_list (ts := [(appT (k : Int) [A, B]), (y, yl)]) (hR.out 18 (by kernel_rfl)); go_simp; refine (app_rl k _ _ w1 (by simp) r1).mono ?_; rintro e w2 ⟨v, rfl, hv, hb⟩; go_wp2_with fail; exact hK.out _ _ hb hv
                  refine StepsT.cons (fun x w1 hw hR K hK => ?_) ?_
                  · rw [if_pos (by rfl)]; have e0 : x 1 = (.slice (some ⟨sb, so, none⟩) n cap) := was_eq (hR.out 1 (by kernel_rfl)); rw [e0] at hK ⊢; have r1 := was_term (t := (appT (k : Int) [A, (appT (k : Int) [B, (y, yl)])])) (hR.out 10 (by kernel_rfl)); have r2 := was_term (t := (appT (k : Int) [(appT (k : Int) [A, B]), (y, yl)])) (hR.out 19 (by kernel_rfl)); have hz := HSZ.out; go_simp; refine (equal_rt (some ⟨sb, so, none⟩) n cap l (appT (k : Int) [A, (appT (k : Int) [B, (y, yl)])]) (appT (k : Int) [(appT (k : Int) [A, B]), (y, yl)]) _ _ w1 (LS.out.below (bl_next HZ.out hw)) r1 r2 ?_ ?_ HOK.out (right2 HJ.out RA.out (right2 HJ.out RB.out RY.out)) (right2 HJ.out (right2 HJ.out RA.out RB.out) RY.out) (ax_left HOK.out HJ.out RA.out RB.out RY.out)).mono ?_; (solve | ((repeat first | rw [nodes2] | rw [nodes3] | rw [nodes0]); (try dsimp only); omega)); (solve | ((repeat first | rw [nodes2] | rw [nodes3] | rw [nodes0]); (try dsimp only); omega)); rintro e w2 ⟨rfl, hb⟩; go_wp2_with fail; exact hK.out _ _ hb rfl
                  refine StepsT.cons (fun x w1 hw hR K hK => ?_) ?_
                  · rw [if_pos (by rfl)]; have e0 : x 20 = (.bool true) := was_eq (hR.out 20 (by kernel_rfl)); rw [e0] at hK ⊢; go_simp; exact hK.out _ _ (Below.refl _ _) rfl
                  exact StepsT.nil
                case hdone13 =>
                  intro x w1 hw hR
                  have e0 : x 21 = (.bool true) := was_eq (hR.out 21 (by decide))
                  rw [e0]
                  go_wp2_with fail; go_meet
                  exact ⟨rfl, bl_next HZ.out hw⟩
              case rest =>
                obtain ⟨rfl, hbc⟩ := hcut
                clear HZ
                have HZ := hid hbc
                clear hbc
                go_upto_region 14 with fail
                go_cut [11] (fun v wc => v = .bool true ∧ Below W5.heap.size W5 wc)
                case first =>
                  refine wp_region_typed [some 86, some 87, some 88, some 89, some 90, some 91, some 92, some 93, some 94, some 95, some 96, some 97, some 98, some 99, some 100, some 101, some 102, some 103, some 11] (fun i => ([rV (.pointer (some ⟨w.heap.size, 0, none⟩)), rV (.slice (some ⟨sb, so, none⟩) n cap), rV (.int .i64 (k : Int)), rT A, rT B, rT (y, yl), rL [A, B, (y, yl)], rT (appT (k : Int) [A, B, (y, yl)]), rV (.int .i64 (k : Int)), rT A, rV (.int .i64 (k : Int)), rT B, rT (y, yl), rL [B, (y, yl)], rT (appT (k : Int) [B, (y, yl)]), rL [A, (appT (k : Int) [B, (y, yl)])], rT (appT (k : Int) [A, (appT (k : Int) [B, (y, yl)])]), rV (.bool true), rV (.bool true)] : List (Value → World → Prop)).getD i (fun _ _ => False)) (mk := ?mk14) (by kernel_rfl) (by rfl) (by kernel_rfl) (by kernel_rfl) ?hmk14 ?hsteps14 ?hdone14
                  case hmk14 => intro x; simp only [fillD, Act.put, List.setIfInBounds_toArray, List.set_cons_zero, List.set_cons_succ]; rfl
                  case hsteps14 =>
                    refine StepsT.cons (fun x w1 hw hR K hK => ?_) ?_
                    · rw [if_pos (by rfl)]; go_simp; exact hK.out _ _ (Below.refl _ _) rfl
                    refine StepsT.cons (fun x w1 hw hR K hK => ?_) ?_
                    · rw [if_pos (by rfl)]; have e0 : x 0 = .pointer (some ⟨w.heap.size, 0, none⟩) := was_eq (hR.out 0 (by kernel_rfl)); rw [e0] at hK ⊢; have q0 := below_cell (bl_next HZ.out hw) _ _ Q0.out; go_simp; exact hK.out _ _ (Below.refl _ _) rfl
                    refine StepsT.cons (fun x w1 hw hR K hK => ?_) ?_
                    · rw [if_pos (by rfl)]; go_simp; exact hK.out _ _ (Below.refl _ _) rfl
                    refine StepsT.cons (fun x w1 hw hR K hK => ?_) ?_
                    · rw [if_pos (by rfl)]; have q0 := below_cell (bl_next HZ.out hw) _ _ Qa0.out; have q1 := below_cell (bl_next HZ.out hw) _ _ Qa1.out; have q2 := below_cell (bl_next HZ.out hw) _ _ Qa2.out; go_simp; exact hK.out _ _ (Below.refl _ _) ⟨_, _, rfl, LA.out.below (bl_next HZ.out hw)⟩
                    refine StepsT.cons (fun x w1 hw hR K hK => ?_) ?_
                    · rw [if_pos (by rfl)]; have q0 := below_cell (bl_next HZ.out hw) _ _ Qb0.out; have q1 := below_cell (bl_next HZ.out hw) _ _ Qb1.out; have q2 := below_cell (bl_next HZ.out hw) _ _ Qb2.out; go_simp; exact hK.out _ _ (Below.refl _ _) ⟨_, _, rfl, LB.out.below (bl_next HZ.out hw)⟩
                    refine StepsT.cons (fun x w1 hw hR K hK => ?_) ?_
                    · rw [if_pos (by rfl)]; have q0 := below_cell (bl_next HZ.out hw) _ _ Qy0.out; have q1 := below_cell (bl_next HZ.out hw) _ _ Qy1.out; have q2 := below_cell (bl_next HZ.out hw) _ _ Qy2.out; go_simp; exact hK.out _ _ (Below.refl _ _) ⟨_, _, rfl, LY.out.below (bl_next HZ.out hw)⟩
                    refine StepsT.cons (fun x w1 hw hR K hK => ?_) ?_
                    · rw [if_pos (by rfl)]; obtain ⟨a0, c0, e0, t0⟩ := was_term (t := A) (hR.out 3 (by kernel_rfl)); rw [e0] at hK ⊢; obtain ⟨a1, c1, e1, t1⟩ := was_term (t := B) (hR.out 4 (by kernel_rfl)); rw [e1] at hK ⊢; obtain ⟨a2, c2, e2, t2⟩ := was_term (t := (y, yl)) (hR.out 5 (by kernel_rfl)); rw [e2] at hK ⊢; go_simp; exact hK.out _ _ (alloc_below _ _) (rl3 t0 t1 t2 (alloc_below _ _) (bx_new rfl))
                    refine StepsT.cons (fun x w1 hw hR K hK => ?_) ?_
                    · rw [if_pos (by rfl)]; have e0 : x 2 = (.int .i64 (k : Int)) := was_eq (hR.out 2 (by kernel_rfl)); rw [e0] at hK ⊢; have r1 := was_list (ts := [A, B, (y, yl)]) (hR.out 6 (by kernel_rfl)); go_simp; refine (app_rl k _ _ w1 (by simp) r1).mono ?_; rintro e w2 ⟨v, rfl, hv, hb⟩; go_wp2_with fail; exact hK.out _ _ hb hv
                    refine StepsT.cons (fun x w1 hw hR K hK => ?_) ?_
                    · rw [if_pos (by rfl)]; go_simp; exact hK.out _ _ (Below.refl _ _) rfl
                    refine StepsT.cons (fun x w1 hw hR K hK => ?_) ?_
                    · rw [if_pos (by rfl)]; have q0 := below_cell (bl_next HZ.out hw) _ _ Qa0.out; have q1 := below_cell (bl_next HZ.out hw) _ _ Qa1.out; have q2 := below_cell (bl_next HZ.out hw) _ _ Qa2.out; go_simp; exact hK.out _ _ (Below.refl _ _) ⟨_, _, rfl, LA.out.below (bl_next HZ.out hw)⟩
                    refine StepsT.cons (fun x w1 hw hR K hK => ?_) ?_
                    · rw [if_pos (by rfl)]; go_simp; exact hK.out _ _ (Below.refl _ _) rfl
                    refine StepsT.cons (fun x w1 hw hR K hK => ?_) ?_
                    · rw [if_pos (by rfl)]; have q0 := below_cell (bl_next HZ.out hw) _ _ Qb0.out; have q1 := below_cell (bl_next HZ.out hw) _ _ Qb1.out; have q2 := below_cell (bl_next HZ.out hw) _ _ Qb2.out; go_simp; exact hK.out _ _ (Below.refl _ _) ⟨_, _, rfl, LB.out.below (bl_next HZ.out hw)⟩
                    refine StepsT.cons (fun x w1 hw hR K hK => ?_) ?_
                    · rw [if_pos (by rfl)]; have q0 := below_cell (bl_next HZ.out hw) _ _ Qy0.out; have q1 := below_cell (bl_next HZ.out hw) _ _ Qy1.out; have q2 := below_cell (bl_next HZ.out hw) _ _ Qy2.out; go_simp; exact hK.out _ _ (Below.refl _ _) ⟨_, _, rfl, LY.out.below (bl_next HZ.out hw)⟩
                    refine StepsT.cons (fun x w1 hw hR K hK => ?_) ?_
                    · rw [if_pos (by rfl)]; obtain ⟨a0, c0, e0, t0⟩ := was_term (t := B) (hR.out 11 (by kernel_rfl)); rw [e0] at hK ⊢; obtain ⟨a1, c1, e1, t1⟩ := was_term (t := (y, yl)) (hR.out 12 (by kernel_rfl)); rw [e1] at hK ⊢; go_simp; exact hK.out _ _ (alloc_below _ _) (rl2 t0 t1 (alloc_below _ _) (bx_new rfl))
                    refine StepsT.cons (fun x w1 hw hR K hK => ?_) ?_
                    · rw [if_pos (by rfl)]; have e0 : x 10 = (.int .i64 (k : Int)) := was_eq (hR.out 10 (by kernel_rfl)); rw [e0] at hK ⊢; have r1 := was_list (ts := [B, (y, yl)]) (hR.out 13 (by kernel_rfl)); go_simp; refine (app_rl k _ _ w1 (by simp) r1).mono ?_; rintro e w2 ⟨v, rfl, hv, hb⟩; go_wp2_with fail; exact hK.out _ _ hb hv
                    refine StepsT.cons (fun x w1 hw hR K hK => ?_) ?_
                    · rw [if_pos (by rfl)]; obtain ⟨a0, c0, e0, t0⟩ := was_term (t := A) (hR.out 9 (by kernel_rfl)); rw [e0] at hK ⊢; obtain ⟨a1, c1, e1, t1⟩ := was_term (t := (appT (k : Int) [B, (y, yl)])) (hR.out 14 (by kernel_rfl)); rw [e1] at hK ⊢; go_simp; exact hK.out _ _ (alloc_below _ _) (rl2 t0 t1 (alloc_below _ _) (bx_new rfl))
                    refine StepsT.cons (fun x w1 hw hR K hK => ?_) ?_
                    · rw [if_pos (by rfl)]; have e0 : x 8 = (.int .i64 (k : Int)) := was_eq (hR.out 8 (by kernel_rfl)); rw [e0] at hK ⊢; have r1 := was_list (ts := [A, (appT (k : Int) [B, (y, yl)])]) (hR.out 15 (by kernel_rfl)); go_simp; refine (app_rl k _ _ w1 (by simp) r1).mono ?_; rintro e w2 ⟨v, rfl, hv, hb⟩; go_wp2_with fail; exact hK.out _ _ hb hv
                    refine StepsT.cons (fun x w1 hw hR K hK => ?_) ?_
                    · rw [if_pos (by rfl)]; have e0 : x 1 = (.slice (some ⟨sb, so, none⟩) n cap) := was_eq (hR.out 1 (by kernel_rfl)); rw [e0] at hK ⊢; have r1 := was_term (t := (appT (k : Int) [A, B, (y, yl)])) (hR.out 7 (by kernel_rfl)); have r2 := was_term (t := (appT (k : Int) [A, (appT (k : Int) [B, (y, yl)])])) (hR.out 16 (by kernel_rfl)); have hz := HSZ.out; go_simp; refine (equal_rt (some ⟨sb, so, none⟩) n cap l (appT (k : Int) [A, B, (y, yl)]) (appT (k : Int) [A, (appT (k : Int) [B, (y, yl)])]) _ _ w1 (LS.out.below (bl_next HZ.out hw)) r1 r2 ?_ ?_ HOK.out (right3 HJ.out RA.out RB.out RY.out) (right2 HJ.out RA.out (right2 HJ.out RB.out RY.out)) (ax_flat HOK.out HJ.out RA.out RB.out RY.out)).mono ?_; (solve | ((repeat first | rw [nodes2] | rw [nodes3] | rw [nodes0]); (try dsimp only); omega)); (solve | ((repeat first | rw [nodes2] | rw [nodes3] | rw [nodes0]); (try dsimp only); omega)); rintro e w2 ⟨rfl, hb⟩; go_wp2_with fail; exact hK.out _ _ hb rfl
                    refine StepsT.cons (fun x w1 hw hR K hK => ?_) ?_
                    · rw [if_pos (by rfl)]; have e0 : x 17 = (.bool true) := was_eq (hR.out 17 (by kernel_rfl)); rw [e0] at hK ⊢; go_simp; exact hK.out _ _ (Below.refl _ _) rfl
                    exact StepsT.nil
                  case hdone14 =>
                    intro x w1 hw hR
                    have e0 : x 18 = (.bool true) := was_eq (hR.out 18 (by decide))
                    rw [e0]
                    go_wp2_with fail; go_meet
                    exact ⟨rfl, bl_next HZ.out hw⟩
                case rest =>
                  obtain ⟨rfl, hbc⟩ := hcut
                  clear HZ
                  have HZ := hid hbc
                  clear hbc
                  have s0 := (LI.out.below HZ.out).c 0
                  go_wp2_with fail
                  refine (runit_any (some ⟨sb, so, none⟩) n cap l (k : Int) _ (LS.out.below HZ.out)).mono ?_
                  rintro e wu ⟨hue, rfl⟩
                  unfold UnitRet at hue
                  cases hun : unitAt l (k : Int) with
                  | none =>
                    rw [unitI_none hun, unitOk_none hun] at hue
                    subst hue
                    clear s0
                    go_wp2_with fail
                    go_upto_region 18 with fail
                    go_cut [152] (fun v wc => v = .bool false ∧ Below W5.heap.size W5 wc)
                    case first =>
                      refine wp_region_typed [some 121, some 122, some 123, some 124, some 125, some 126, some 127, some 128, some 129, some 130, some 131, some 132, some 133, some 134, some 135, some 136, some 137, some 138, some 139, some 140, some 141, some 142, some 143, some 144, some 145, some 146, some 147, some 148, some 149, some 150, some 151, some 152] (fun i => ([rV (.bool false), rV (.bool false), rV undef, rV undef, rV undef, rV undef, rV undef, rV undef, rV undef, rV undef, rV undef, rV undef, rV undef, rV undef, rV undef, rV undef, rV undef, rV undef, rV undef, rV undef, rV undef, rV undef, rV undef, rV undef, rV undef, rV undef, rV undef, rV undef, rV undef, rV undef, rV undef, rV (.bool false)] : List (Value → World → Prop)).getD i (fun _ _ => False)) (mk := ?mkN) (by kernel_rfl) (by rfl) (by kernel_rfl) (by kernel_rfl) ?hmkN ?hstepsN ?hdoneN
                      case hmkN => intro x; simp only [fillD, Act.put, List.setIfInBounds_toArray, List.set_cons_zero, List.set_cons_succ]; rfl
                      case hstepsN =>
                        refine StepsT.cons (fun x w1 hw hR K hK => ?_) ?_
                        · rw [if_pos (by rfl)]; go_simp; exact hK.out _ _ (Below.refl _ _) rfl
                        refine StepsT.cons (fun x w1 hw hR K hK => ?_) ?_
                        · rw [if_pos (by rfl)]; have e0 : x 0 = .bool false := was_eq (hR.out 0 (by kernel_rfl)); rw [e0] at hK ⊢; go_simp; exact hK.out _ _ (Below.refl _ _) rfl
                        refine StepsT.cons (fun x w1 hw hR K hK => ?_) ?_
                        · have g0 : x 1 = (.bool false) := was_eq (hR.out 1 (by kernel_rfl)); rw [g0] at hK ⊢; refine unwanted (by rfl) ?_; exact hK.out _ _ (Below.refl _ _) rfl
                        refine StepsT.cons (fun x w1 hw hR K hK => ?_) ?_
                        · have g0 : x 1 = (.bool false) := was_eq (hR.out 1 (by kernel_rfl)); rw [g0] at hK ⊢; refine unwanted (by rfl) ?_; exact hK.out _ _ (Below.refl _ _) rfl
                        refine StepsT.cons (fun x w1 hw hR K hK => ?_) ?_
                        · have g0 : x 1 = (.bool false) := was_eq (hR.out 1 (by kernel_rfl)); rw [g0] at hK ⊢; refine unwanted (by rfl) ?_; exact hK.out _ _ (Below.refl _ _) rfl
                        refine StepsT.cons (fun x w1 hw hR K hK => ?_) ?_
                        · have g0 : x 1 = (.bool false) := was_eq (hR.out 1 (by kernel_rfl)); rw [g0] at hK ⊢; refine unwanted (by rfl) ?_; exact hK.out _ _ (Below.refl _ _) rfl
                        refine StepsT.cons (fun x w1 hw hR K hK => ?_) ?_
                        · have g0 : x 1 = (.bool false) := was_eq (hR.out 1 (by kernel_rfl)); rw [g0] at hK ⊢; refine unwanted (by rfl) ?_; exact hK.out _ _ (Below.refl _ _) rfl
                        refine StepsT.cons (fun x w1 hw hR K hK => ?_) ?_
                        · have g0 : x 1 = (.bool false) := was_eq (hR.out 1 (by kernel_rfl)); rw [g0] at hK ⊢; refine unwanted (by rfl) ?_; exact hK.out _ _ (Below.refl _ _) rfl
                        refine StepsT.cons (fun x w1 hw hR K hK => ?_) ?_
                        · have g0 : x 1 = (.bool false) := was_eq (hR.out 1 (by kernel_rfl)); rw [g0] at hK ⊢; refine unwanted (by rfl) ?_; exact hK.out _ _ (Below.refl _ _) rfl
                        refine StepsT.cons (fun x w1 hw hR K hK => ?_) ?_
                        · have g0 : x 1 = (.bool false) := was_eq (hR.out 1 (by kernel_rfl)); rw [g0] at hK ⊢; refine unwanted (by rfl) ?_; exact hK.out _ _ (Below.refl _ _) rfl
                        refine StepsT.cons (fun x w1 hw hR K hK => ?_) ?_
                        · have g0 : x 1 = (.bool false) := was_eq (hR.out 1 (by kernel_rfl)); rw [g0] at hK ⊢; refine unwanted (by rfl) ?_; exact hK.out _ _ (Below.refl _ _) rfl
                        refine StepsT.cons (fun x w1 hw hR K hK => ?_) ?_
                        · have g0 : x 1 = (.bool false) := was_eq (hR.out 1 (by kernel_rfl)); rw [g0] at hK ⊢; refine unwanted (by rfl) ?_; exact hK.out _ _ (Below.refl _ _) rfl
                        refine StepsT.cons (fun x w1 hw hR K hK => ?_) ?_
                        · have g0 : x 1 = (.bool false) := was_eq (hR.out 1 (by kernel_rfl)); rw [g0] at hK ⊢; refine unwanted (by rfl) ?_; exact hK.out _ _ (Below.refl _ _) rfl
                        refine StepsT.cons (fun x w1 hw hR K hK => ?_) ?_
                        · have g0 : x 1 = (.bool false) := was_eq (hR.out 1 (by kernel_rfl)); rw [g0] at hK ⊢; refine unwanted (by rfl) ?_; exact hK.out _ _ (Below.refl _ _) rfl
                        refine StepsT.cons (fun x w1 hw hR K hK => ?_) ?_
                        · have g0 : x 13 = undef := was_eq (hR.out 13 (by kernel_rfl)); rw [g0] at hK ⊢; refine unwanted (by rfl) ?_; exact hK.out _ _ (Below.refl _ _) rfl
                        refine StepsT.cons (fun x w1 hw hR K hK => ?_) ?_
                        · have g0 : x 13 = undef := was_eq (hR.out 13 (by kernel_rfl)); rw [g0] at hK ⊢; refine unwanted (by rfl) ?_; exact hK.out _ _ (Below.refl _ _) rfl
                        refine StepsT.cons (fun x w1 hw hR K hK => ?_) ?_
                        · have g0 : x 13 = undef := was_eq (hR.out 13 (by kernel_rfl)); rw [g0] at hK ⊢; refine unwanted (by rfl) ?_; exact hK.out _ _ (Below.refl _ _) rfl
                        refine StepsT.cons (fun x w1 hw hR K hK => ?_) ?_
                        · have g0 : x 13 = undef := was_eq (hR.out 13 (by kernel_rfl)); rw [g0] at hK ⊢; refine unwanted (by rfl) ?_; exact hK.out _ _ (Below.refl _ _) rfl
                        refine StepsT.cons (fun x w1 hw hR K hK => ?_) ?_
                        · have g0 : x 13 = undef := was_eq (hR.out 13 (by kernel_rfl)); rw [g0] at hK ⊢; refine unwanted (by rfl) ?_; exact hK.out _ _ (Below.refl _ _) rfl
                        refine StepsT.cons (fun x w1 hw hR K hK => ?_) ?_
                        · have g0 : x 13 = undef := was_eq (hR.out 13 (by kernel_rfl)); rw [g0] at hK ⊢; refine unwanted (by rfl) ?_; exact hK.out _ _ (Below.refl _ _) rfl
                        refine StepsT.cons (fun x w1 hw hR K hK => ?_) ?_
                        · have g0 : x 13 = undef := was_eq (hR.out 13 (by kernel_rfl)); rw [g0] at hK ⊢; refine unwanted (by rfl) ?_; exact hK.out _ _ (Below.refl _ _) rfl
                        refine StepsT.cons (fun x w1 hw hR K hK => ?_) ?_
                        · have g0 : x 13 = undef := was_eq (hR.out 13 (by kernel_rfl)); rw [g0] at hK ⊢; refine unwanted (by rfl) ?_; exact hK.out _ _ (Below.refl _ _) rfl
                        refine StepsT.cons (fun x w1 hw hR K hK => ?_) ?_
                        · have g0 : x 13 = undef := was_eq (hR.out 13 (by kernel_rfl)); rw [g0] at hK ⊢; refine unwanted (by rfl) ?_; exact hK.out _ _ (Below.refl _ _) rfl
                        refine StepsT.cons (fun x w1 hw hR K hK => ?_) ?_
                        · have g0 : x 13 = undef := was_eq (hR.out 13 (by kernel_rfl)); rw [g0] at hK ⊢; refine unwanted (by rfl) ?_; exact hK.out _ _ (Below.refl _ _) rfl
                        refine StepsT.cons (fun x w1 hw hR K hK => ?_) ?_
                        · have g0 : x 13 = undef := was_eq (hR.out 13 (by kernel_rfl)); rw [g0] at hK ⊢; refine unwanted (by rfl) ?_; exact hK.out _ _ (Below.refl _ _) rfl
                        refine StepsT.cons (fun x w1 hw hR K hK => ?_) ?_
                        · have g0 : x 13 = undef := was_eq (hR.out 13 (by kernel_rfl)); rw [g0] at hK ⊢; refine unwanted (by rfl) ?_; exact hK.out _ _ (Below.refl _ _) rfl
                        refine StepsT.cons (fun x w1 hw hR K hK => ?_) ?_
                        · have g0 : x 13 = undef := was_eq (hR.out 13 (by kernel_rfl)); rw [g0] at hK ⊢; refine unwanted (by rfl) ?_; exact hK.out _ _ (Below.refl _ _) rfl
                        refine StepsT.cons (fun x w1 hw hR K hK => ?_) ?_
                        · have g0 : x 13 = undef := was_eq (hR.out 13 (by kernel_rfl)); rw [g0] at hK ⊢; refine unwanted (by rfl) ?_; exact hK.out _ _ (Below.refl _ _) rfl
                        refine StepsT.cons (fun x w1 hw hR K hK => ?_) ?_
                        · have g0 : x 13 = undef := was_eq (hR.out 13 (by kernel_rfl)); rw [g0] at hK ⊢; refine unwanted (by rfl) ?_; exact hK.out _ _ (Below.refl _ _) rfl
                        refine StepsT.cons (fun x w1 hw hR K hK => ?_) ?_
                        · have g0 : x 13 = undef := was_eq (hR.out 13 (by kernel_rfl)); rw [g0] at hK ⊢; refine unwanted (by rfl) ?_; exact hK.out _ _ (Below.refl _ _) rfl
                        refine StepsT.cons (fun x w1 hw hR K hK => ?_) ?_
                        · have g0 : x 1 = (.bool false) := was_eq (hR.out 1 (by kernel_rfl)); rw [g0] at hK ⊢; refine unwanted (by rfl) ?_; exact hK.out _ _ (Below.refl _ _) rfl
                        refine StepsT.cons (fun x w1 hw hR K hK => ?_) ?_
                        · rw [if_pos (by rfl)]; have e0 : x 1 = .bool false := was_eq (hR.out 1 (by kernel_rfl)); rw [e0] at hK ⊢; go_simp; exact hK.out _ _ (Below.refl _ _) rfl
                        exact StepsT.nil
                      case hdoneN =>
                        intro x w1 hw hR
                        have e0 : x 31 = .bool false := was_eq (hR.out 31 (by decide))
                        rw [e0]
                        go_wp2_with fail; go_meet
                        exact ⟨rfl, bl_next HZ.out hw⟩
                    case rest =>
                      obtain ⟨rfl, hbc⟩ := hcut
                      clear HZ
                      have HZ := hid hbc
                      clear hbc
                      go_wp2
                      go_roundw
                      case rel => exact ⟨k + 1, by omega, by go_num, HZ.out⟩
                      case measure => simp [intOf]; omega
                  | some u =>
                    have hu0 : (sgOf l).unit (k : Int) = some (u : Int) := by simp only [sgOf, hun, Option.map_some]
                    have HU := hid hu0
                    have eI : unitI l (k : Int) = (u : Int) := by simp [unitI, hun]
                    have eO : unitOk l (k : Int) = true := by simp [unitOk, hun]
                    rw [eI, eO] at hue
                    subst hue
                    clear s0 hu0 eI eO hun
                    go_wp2_with fail
                    go_upto_region 18 with fail
                    go_cut [152] (fun v wc => v = .bool false ∧ Below W5.heap.size W5 wc)
                    case first =>
                      refine wp_region_typed [some 121, some 122, some 123, some 124, some 125, some 126, some 127, some 128, some 129, some 130, some 131, some 132, some 133, some 134, some 135, some 136, some 137, some 138, some 139, some 140, some 141, some 142, some 143, some 144, some 145, some 146, some 147, some 148, some 149, some 150, some 151, some 152] (fun i => ([rV (.bool true), rV (.bool true), rV (.pointer (some ⟨w.heap.size, 0, none⟩)), rV (.slice (some ⟨sb, so, none⟩) n cap), rV (.int .i64 (k : Int)), rT A, rV (.int .i64 (u : Int)), rT (appT (u : Int) []), rL [A, (appT (u : Int) [])], rT (appT (k : Int) [A, (appT (u : Int) [])]), rT A, rV (.bool true), rV (.bool false), rV (.bool false), rV (.pointer (some ⟨w.heap.size, 0, none⟩)), rV (.slice (some ⟨sb, so, none⟩) n cap), rV (.int .i64 (k : Int)), rT A, rT B, rV (.int .i64 (u : Int)), rT (appT (u : Int) []), rL [A, B, (appT (u : Int) [])], rT (appT (k : Int) [A, B, (appT (u : Int) [])]), rV (.int .i64 (k : Int)), rT A, rT B, rL [A, B], rT (appT (k : Int) [A, B]), rV (.bool true), rV (.bool false), rV (.bool false), rV (.bool false)] : List (Value → World → Prop)).getD i (fun _ _ => False)) (mk := ?mk18) (by kernel_rfl) (by rfl) (by kernel_rfl) (by kernel_rfl) ?hmk18 ?hsteps18 ?hdone18
                      case hmk18 => intro x; simp only [fillD, Act.put, List.setIfInBounds_toArray, List.set_cons_zero, List.set_cons_succ]; rfl
                      case hsteps18 =>
                        refine StepsT.cons (fun x w1 hw hR K hK => ?_) ?_
                        · rw [if_pos (by rfl)]; go_simp; exact hK.out _ _ (Below.refl _ _) rfl
                        refine StepsT.cons (fun x w1 hw hR K hK => ?_) ?_
                        · rw [if_pos (by rfl)]; have e0 : x 0 = (.bool true) := was_eq (hR.out 0 (by kernel_rfl)); rw [e0] at hK ⊢; go_simp; exact hK.out _ _ (Below.refl _ _) rfl
                        refine StepsT.cons (fun x w1 hw hR K hK => ?_) ?_
                        · have g0 : x 1 = .bool true := was_eq (hR.out 1 (by kernel_rfl)); rw [g0] at hK ⊢; rw [if_pos (by rfl)]; go_simp; exact hK.out _ _ (Below.refl _ _) rfl
                        refine StepsT.cons (fun x w1 hw hR K hK => ?_) ?_
                        · have g0 : x 1 = .bool true := was_eq (hR.out 1 (by kernel_rfl)); rw [g0] at hK ⊢; rw [if_pos (by rfl)]; have e0 : x 2 = .pointer (some ⟨w.heap.size, 0, none⟩) := was_eq (hR.out 2 (by kernel_rfl)); rw [e0] at hK ⊢; have q0 := below_cell (bl_next HZ.out hw) _ _ Q0.out; go_simp; exact hK.out _ _ (Below.refl _ _) rfl
                        refine StepsT.cons (fun x w1 hw hR K hK => ?_) ?_
                        · have g0 : x 1 = .bool true := was_eq (hR.out 1 (by kernel_rfl)); rw [g0] at hK ⊢; rw [if_pos (by rfl)]; go_simp; exact hK.out _ _ (Below.refl _ _) rfl
                        refine StepsT.cons (fun x w1 hw hR K hK => ?_) ?_
                        · have g0 : x 1 = .bool true := was_eq (hR.out 1 (by kernel_rfl)); rw [g0] at hK ⊢; rw [if_pos (by rfl)]; have q0 := below_cell (bl_next HZ.out hw) _ _ Qa0.out; have q1 := below_cell (bl_next HZ.out hw) _ _ Qa1.out; have q2 := below_cell (bl_next HZ.out hw) _ _ Qa2.out; go_simp; exact hK.out _ _ (Below.refl _ _) ⟨_, _, rfl, LA.out.below (bl_next HZ.out hw)⟩
                        refine StepsT.cons (fun x w1 hw hR K hK => ?_) ?_
                        · have g0 : x 1 = .bool true := was_eq (hR.out 1 (by kernel_rfl)); rw [g0] at hK ⊢; rw [if_pos (by rfl)]; go_simp; exact hK.out _ _ (Below.refl _ _) rfl
                        refine StepsT.cons (fun x w1 hw hR K hK => ?_) ?_
                        · have g0 : x 1 = .bool true := was_eq (hR.out 1 (by kernel_rfl)); rw [g0] at hK ⊢; rw [if_pos (by rfl)]; have e0 : x 6 = (.int .i64 (u : Int)) := was_eq (hR.out 6 (by kernel_rfl)); rw [e0] at hK ⊢; go_simp; refine (app_r0 u 0 w1).mono ?_; rintro e w2 ⟨v, rfl, hv, hb⟩; go_wp2_with fail; exact hK.out _ _ hb hv
                        refine StepsT.cons (fun x w1 hw hR K hK => ?_) ?_
                        · have g0 : x 1 = .bool true := was_eq (hR.out 1 (by kernel_rfl)); rw [g0] at hK ⊢; rw [if_pos (by rfl)]; obtain ⟨a0, c0, e0, t0⟩ := was_term (t := A) (hR.out 5 (by kernel_rfl)); rw [e0] at hK ⊢; obtain ⟨a1, c1, e1, t1⟩ := was_term (t := (appT (u : Int) [])) (hR.out 7 (by kernel_rfl)); rw [e1] at hK ⊢; go_simp; exact hK.out _ _ (alloc_below _ _) (rl2 t0 t1 (alloc_below _ _) (bx_new rfl))
                        refine StepsT.cons (fun x w1 hw hR K hK => ?_) ?_
                        · have g0 : x 1 = .bool true := was_eq (hR.out 1 (by kernel_rfl)); rw [g0] at hK ⊢; rw [if_pos (by rfl)]; have e0 : x 4 = (.int .i64 (k : Int)) := was_eq (hR.out 4 (by kernel_rfl)); rw [e0] at hK ⊢; have r1 := was_list (ts := [A, (appT (u : Int) [])]) (hR.out 8 (by kernel_rfl)); go_simp; refine (app_rl k _ _ w1 (by simp) r1).mono ?_; rintro e w2 ⟨v, rfl, hv, hb⟩; go_wp2_with fail; exact hK.out _ _ hb hv
                        refine StepsT.cons (fun x w1 hw hR K hK => ?_) ?_
                        · have g0 : x 1 = .bool true := was_eq (hR.out 1 (by kernel_rfl)); rw [g0] at hK ⊢; rw [if_pos (by rfl)]; have q0 := below_cell (bl_next HZ.out hw) _ _ Qa0.out; have q1 := below_cell (bl_next HZ.out hw) _ _ Qa1.out; have q2 := below_cell (bl_next HZ.out hw) _ _ Qa2.out; go_simp; exact hK.out _ _ (Below.refl _ _) ⟨_, _, rfl, LA.out.below (bl_next HZ.out hw)⟩
                        refine StepsT.cons (fun x w1 hw hR K hK => ?_) ?_
                        · have g0 : x 1 = .bool true := was_eq (hR.out 1 (by kernel_rfl)); rw [g0] at hK ⊢; rw [if_pos (by rfl)]; have e0 : x 3 = (.slice (some ⟨sb, so, none⟩) n cap) := was_eq (hR.out 3 (by kernel_rfl)); rw [e0] at hK ⊢; have r1 := was_term (t := (appT (k : Int) [A, (appT (u : Int) [])])) (hR.out 9 (by kernel_rfl)); have r2 := was_term (t := A) (hR.out 10 (by kernel_rfl)); have hz := HSZ.out; go_simp; refine (equal_rt (some ⟨sb, so, none⟩) n cap l (appT (k : Int) [A, (appT (u : Int) [])]) A _ _ w1 (LS.out.below (bl_next HZ.out hw)) r1 r2 ?_ ?_ HOK.out (right2 HJ.out RA.out (right_const HOK.out HU.out)) RA.out (ax_unit HOK.out HJ.out HU.out RA.out)).mono ?_; (solve | ((repeat first | rw [nodes2] | rw [nodes3] | rw [nodes0]); (try dsimp only); omega)); (solve | ((repeat first | rw [nodes2] | rw [nodes3] | rw [nodes0]); (try dsimp only); omega)); rintro e w2 ⟨rfl, hb⟩; go_wp2_with fail; exact hK.out _ _ hb rfl
                        refine StepsT.cons (fun x w1 hw hR K hK => ?_) ?_
                        · have g0 : x 1 = .bool true := was_eq (hR.out 1 (by kernel_rfl)); rw [g0] at hK ⊢; rw [if_pos (by rfl)]; have e0 : x 11 = .bool true := was_eq (hR.out 11 (by kernel_rfl)); rw [e0] at hK ⊢; go_simp; exact hK.out _ _ (Below.refl _ _) rfl
                        refine StepsT.cons (fun x w1 hw hR K hK => ?_) ?_
                        · have g0 : x 1 = .bool true := was_eq (hR.out 1 (by kernel_rfl)); rw [g0] at hK ⊢; rw [if_pos (by rfl)]; have e0 : x 12 = (.bool false) := was_eq (hR.out 12 (by kernel_rfl)); rw [e0] at hK ⊢; go_simp; exact hK.out _ _ (Below.refl _ _) rfl
                        refine StepsT.cons (fun x w1 hw hR K hK => ?_) ?_
                        · have g0 : x 13 = .bool false := was_eq (hR.out 13 (by kernel_rfl)); rw [g0] at hK ⊢; rw [if_pos (by rfl)]; go_simp; exact hK.out _ _ (Below.refl _ _) rfl
                        refine StepsT.cons (fun x w1 hw hR K hK => ?_) ?_
                        · have g0 : x 13 = .bool false := was_eq (hR.out 13 (by kernel_rfl)); rw [g0] at hK ⊢; rw [if_pos (by rfl)]; have e0 : x 14 = .pointer (some ⟨w.heap.size, 0, none⟩) := was_eq (hR.out 14 (by kernel_rfl)); rw [e0] at hK ⊢; have q0 := below_cell (bl_next HZ.out hw) _ _ Q0.out; go_simp; exact hK.out _ _ (Below.refl _ _) rfl
                        refine StepsT.cons (fun x w1 hw hR K hK => ?_) ?_
                        · have g0 : x 13 = .bool false := was_eq (hR.out 13 (by kernel_rfl)); rw [g0] at hK ⊢; rw [if_pos (by rfl)]; go_simp; exact hK.out _ _ (Below.refl _ _) rfl
                        refine StepsT.cons (fun x w1 hw hR K hK => ?_) ?_
                        · have g0 : x 13 = .bool false := was_eq (hR.out 13 (by kernel_rfl)); rw [g0] at hK ⊢; rw [if_pos (by rfl)]; have q0 := below_cell (bl_next HZ.out hw) _ _ Qa0.out; have q1 := below_cell (bl_next HZ.out hw) _ _ Qa1.out; have q2 := below_cell (bl_next HZ.out hw) _ _ Qa2.out; go_simp; exact hK.out _ _ (Below.refl _ _) ⟨_, _, rfl, LA.out.below (bl_next HZ.out hw)⟩
                        refine StepsT.cons (fun x w1 hw hR K hK => ?_) ?_
                        · have g0 : x 13 = .bool false := was_eq (hR.out 13 (by kernel_rfl)); rw [g0] at hK ⊢; rw [if_pos (by rfl)]; have q0 := below_cell (bl_next HZ.out hw) _ _ Qb0.out; have q1 := below_cell (bl_next HZ.out hw) _ _ Qb1.out; have q2 := below_cell (bl_next HZ.out hw) _ _ Qb2.out; go_simp; exact hK.out _ _ (Below.refl _ _) ⟨_, _, rfl, LB.out.below (bl_next HZ.out hw)⟩
                        refine StepsT.cons (fun x w1 hw hR K hK => ?_) ?_
                        · have g0 : x 13 = .bool false := was_eq (hR.out 13 (by kernel_rfl)); rw [g0] at hK ⊢; rw [if_pos (by rfl)]; go_simp; exact hK.out _ _ (Below.refl _ _) rfl
                        refine StepsT.cons (fun x w1 hw hR K hK => ?_) ?_
                        · have g0 : x 13 = .bool false := was_eq (hR.out 13 (by kernel_rfl)); rw [g0] at hK ⊢; rw [if_pos (by rfl)]; have e0 : x 19 = (.int .i64 (u : Int)) := was_eq (hR.out 19 (by kernel_rfl)); rw [e0] at hK ⊢; go_simp; refine (app_r0 u 0 w1).mono ?_; rintro e w2 ⟨v, rfl, hv, hb⟩; go_wp2_with fail; exact hK.out _ _ hb hv
                        refine StepsT.cons (fun x w1 hw hR K hK => ?_) ?_
                        · have g0 : x 13 = .bool false := was_eq (hR.out 13 (by kernel_rfl)); rw [g0] at hK ⊢; rw [if_pos (by rfl)]; obtain ⟨a0, c0, e0, t0⟩ := was_term (t := A) (hR.out 17 (by kernel_rfl)); rw [e0] at hK ⊢; obtain ⟨a1, c1, e1, t1⟩ := was_term (t := B) (hR.out 18 (by kernel_rfl)); rw [e1] at hK ⊢; obtain ⟨a2, c2, e2, t2⟩ := was_term (t := (appT (u : Int) [])) (hR.out 20 (by kernel_rfl)); rw [e2] at hK ⊢; go_simp; exact hK.out _ _ (alloc_below _ _) (rl3 t0 t1 t2 (alloc_below _ _) (bx_new rfl))
                        refine StepsT.cons (fun x w1 hw hR K hK => ?_) ?_
                        · have g0 : x 13 = .bool false := was_eq (hR.out 13 (by kernel_rfl)); rw [g0] at hK ⊢; rw [if_pos (by rfl)]; have e0 : x 16 = (.int .i64 (k : Int)) := was_eq (hR.out 16 (by kernel_rfl)); rw [e0] at hK ⊢; have r1 := was_list (ts := [A, B, (appT (u : Int) [])]) (hR.out 21 (by kernel_rfl)); go_simp; refine (app_rl k _ _ w1 (by simp) r1).mono ?_; rintro e w2 ⟨v, rfl, hv, hb⟩; go_wp2_with fail; exact hK.out _ _ hb hv
                        refine StepsT.cons (fun x w1 hw hR K hK => ?_) ?_
                        · have g0 : x 13 = .bool false := was_eq (hR.out 13 (by kernel_rfl)); rw [g0] at hK ⊢; rw [if_pos (by rfl)]; go_simp; exact hK.out _ _ (Below.refl _ _) rfl
                        refine StepsT.cons (fun x w1 hw hR K hK => ?_) ?_
                        · have g0 : x 13 = .bool false := was_eq (hR.out 13 (by kernel_rfl)); rw [g0] at hK ⊢; rw [if_pos (by rfl)]; have q0 := below_cell (bl_next HZ.out hw) _ _ Qa0.out; have q1 := below_cell (bl_next HZ.out hw) _ _ Qa1.out; have q2 := below_cell (bl_next HZ.out hw) _ _ Qa2.out; go_simp; exact hK.out _ _ (Below.refl _ _) ⟨_, _, rfl, LA.out.below (bl_next HZ.out hw)⟩
                        refine StepsT.cons (fun x w1 hw hR K hK => ?_) ?_
                        · have g0 : x 13 = .bool false := was_eq (hR.out 13 (by kernel_rfl)); rw [g0] at hK ⊢; rw [if_pos (by rfl)]; have q0 := below_cell (bl_next HZ.out hw) _ _ Qb0.out; have q1 := below_cell (bl_next HZ.out hw) _ _ Qb1.out; have q2 := below_cell (bl_next HZ.out hw) _ _ Qb2.out; go_simp; exact hK.out _ _ (Below.refl _ _) ⟨_, _, rfl, LB.out.below (bl_next HZ.out hw)⟩
                        refine StepsT.cons (fun x w1 hw hR K hK => ?_) ?_
                        · have g0 : x 13 = .bool false := was_eq (hR.out 13 (by kernel_rfl)); rw [g0] at hK ⊢; rw [if_pos (by rfl)]; obtain ⟨a0, c0, e0, t0⟩ := was_term (t := A) (hR.out 24 (by kernel_rfl)); rw [e0] at hK ⊢; obtain ⟨a1, c1, e1, t1⟩ := was_term (t := B) (hR.out 25 (by kernel_rfl)); rw [e1] at hK ⊢; go_simp; exact hK.out _ _ (alloc_below _ _) (rl2 t0 t1 (alloc_below _ _) (bx_new rfl))
                        refine StepsT.cons (fun x w1 hw hR K hK => ?_) ?_
                        · have g0 : x 13 = .bool false := was_eq (hR.out 13 (by kernel_rfl)); rw [g0] at hK ⊢; rw [if_pos (by rfl)]; have e0 : x 23 = (.int .i64 (k : Int)) := was_eq (hR.out 23 (by kernel_rfl)); rw [e0] at hK ⊢; have r1 := was_list (ts := [A, B]) (hR.out 26 (by kernel_rfl)); go_simp; refine (app_rl k _ _ w1 (by simp) r1).mono ?_; rintro e w2 ⟨v, rfl, hv, hb⟩; go_wp2_with fail; exact hK.out _ _ hb hv
                        refine StepsT.cons (fun x w1 hw hR K hK => ?_) ?_
                        · have g0 : x 13 = .bool false := was_eq (hR.out 13 (by kernel_rfl)); rw [g0] at hK ⊢; rw [if_pos (by rfl)]; have e0 : x 15 = (.slice (some ⟨sb, so, none⟩) n cap) := was_eq (hR.out 15 (by kernel_rfl)); rw [e0] at hK ⊢; have r1 := was_term (t := (appT (k : Int) [A, B, (appT (u : Int) [])])) (hR.out 22 (by kernel_rfl)); have r2 := was_term (t := (appT (k : Int) [A, B])) (hR.out 27 (by kernel_rfl)); have hz := HSZ.out; go_simp; refine (equal_rt (some ⟨sb, so, none⟩) n cap l (appT (k : Int) [A, B, (appT (u : Int) [])]) (appT (k : Int) [A, B]) _ _ w1 (LS.out.below (bl_next HZ.out hw)) r1 r2 ?_ ?_ HOK.out (right3 HJ.out RA.out RB.out (right_const HOK.out HU.out)) (right2 HJ.out RA.out RB.out) (ax_unit3 HOK.out HJ.out HU.out RA.out RB.out)).mono ?_; (solve | ((repeat first | rw [nodes2] | rw [nodes3] | rw [nodes0]); (try dsimp only); omega)); (solve | ((repeat first | rw [nodes2] | rw [nodes3] | rw [nodes0]); (try dsimp only); omega)); rintro e w2 ⟨rfl, hb⟩; go_wp2_with fail; exact hK.out _ _ hb rfl
                        refine StepsT.cons (fun x w1 hw hR K hK => ?_) ?_
                        · have g0 : x 13 = .bool false := was_eq (hR.out 13 (by kernel_rfl)); rw [g0] at hK ⊢; rw [if_pos (by rfl)]; have e0 : x 28 = .bool true := was_eq (hR.out 28 (by kernel_rfl)); rw [e0] at hK ⊢; go_simp; exact hK.out _ _ (Below.refl _ _) rfl
                        refine StepsT.cons (fun x w1 hw hR K hK => ?_) ?_
                        · have g0 : x 1 = .bool true := was_eq (hR.out 1 (by kernel_rfl)); rw [g0] at hK ⊢; rw [if_pos (by rfl)]; have e0 : x 13 = (.bool false) := was_eq (hR.out 13 (by kernel_rfl)); rw [e0] at hK ⊢; have e1 : x 29 = (.bool false) := was_eq (hR.out 29 (by kernel_rfl)); rw [e1] at hK ⊢; go_simp; exact hK.out _ _ (Below.refl _ _) rfl
                        refine StepsT.cons (fun x w1 hw hR K hK => ?_) ?_
                        · rw [if_pos (by rfl)]; have e0 : x 1 = (.bool true) := was_eq (hR.out 1 (by kernel_rfl)); rw [e0] at hK ⊢; have e1 : x 30 = (.bool false) := was_eq (hR.out 30 (by kernel_rfl)); rw [e1] at hK ⊢; go_simp; exact hK.out _ _ (Below.refl _ _) rfl
                        exact StepsT.nil
                      case hdone18 =>
                        intro x w1 hw hR
                        have e0 : x 31 = (.bool false) := was_eq (hR.out 31 (by decide))
                        rw [e0]
                        go_wp2_with fail; go_meet
                        exact ⟨rfl, bl_next HZ.out hw⟩
                    case rest =>
                      obtain ⟨rfl, hbc⟩ := hcut
                      clear HZ
                      have HZ := hid hbc
                      clear hbc
                      go_wp2
                      go_roundw
                      case rel => exact ⟨k + 1, by omega, by go_num, HZ.out⟩
                      case measure => simp [intOf]; omega
        · go_wp2
          go_ret
          exact ⟨rfl, bl_next L0.out ST.out⟩
theorem canonAxioms : Rows.CanonAxiomsUptoSaid := canonAxioms_of axioms_walk
end Go.Proofs.Ytlemkgdbefmeeaa
