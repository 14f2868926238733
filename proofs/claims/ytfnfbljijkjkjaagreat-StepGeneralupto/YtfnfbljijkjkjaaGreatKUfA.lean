import Derived.Maps.AppendAt
import Derived.Lib.AppendZeros
import Derived.Deep.AppendLies
import Derived.Laws.AppendOwnNone
import Derived.Lib.SmallJoins
import Derived.Test.YtfnfbljijkjkjaaGreatKSpA
/- For Free: terms that lie apart from the solver's own blocks; one variable put in, plainly; what is left of the room. -/
namespace Go.Proofs.YtfnfbljijkjkjaaGreat
open Go.RowKit Go.Deep

/-! ### plain: one variable's term put in -/
def eqN (nm : ByteArray) (x : ByteArray × Int) : Bool := x.1.toList == nm.toList
def w1F (nm : ByteArray) (T : Tn) : Fo → Fo
  | .nil => .nil
  | .node B O x l r => if eqN nm x = true then .node B O T.1 T.2 (w1F nm T r) else .node B O x (w1F nm T l) (w1F nm T r)
def w1N (nm : ByteArray) (T : Tn) (x : ByteArray × Int) (l : Fo) : Tn := if eqN nm x = true then T else (x, w1F nm T l)
def h1F (nm : ByteArray) : Fo → Bool
  | .nil => false
  | .node _ _ x l r => (eqN nm x || h1F nm l) || h1F nm r
def h1N (nm : ByteArray) (x : ByteArray × Int) (l : Fo) : Bool := eqN nm x || h1F nm l
theorem w1F_not (nm : ByteArray) (T : Tn) : ∀ {F : Fo}, h1F nm F = false → w1F nm T F = F
  | .nil, _ => rfl
  | .node B O x l r, h => by
    rw [h1F, Bool.or_eq_false_iff, Bool.or_eq_false_iff] at h
    rw [w1F, if_neg (by simp [h.1.1]), w1F_not nm T h.1.2, w1F_not nm T h.2]
theorem w1N_not {nm : ByteArray} {T : Tn} {x : ByteArray × Int} {l : Fo} (h : h1N nm x l = false) : w1N nm T x l = (x, l) := by
  unfold h1N at h
  rw [Bool.or_eq_false_iff] at h
  unfold w1N
  rw [if_neg (by simp [h.1]), w1F_not nm T h.2]
theorem w1F_len (nm : ByteArray) (T : Tn) : ∀ F : Fo, lenF (w1F nm T F) = lenF F
  | .nil => rfl
  | .node _ _ x l r => by
    unfold w1F
    split
    · simp only [lenF]; rw [w1F_len nm T r]
    · simp only [lenF]; rw [w1F_len nm T r]
theorem w1F_kids (nm : ByteArray) (T : Tn) : ∀ F : Fo, kidsL (w1F nm T F) = (kidsL F).map fun y => w1N nm T y.1 y.2
  | .nil => rfl
  | .node _ _ x l r => by
    unfold w1F
    by_cases h : eqN nm x = true
    · rw [if_pos h]
      simp only [kidsL, List.map_cons]
      rw [w1F_kids nm T r]
      unfold w1N
      rw [if_pos h]
    · rw [if_neg h]
      simp only [kidsL, List.map_cons]
      rw [w1F_kids nm T r]
      unfold w1N
      rw [if_neg h]
theorem h1F_kids (nm : ByteArray) : ∀ F : Fo, h1F nm F = (kidsL F).any fun y => h1N nm y.1 y.2
  | .nil => rfl
  | .node _ _ x l r => by
    rw [h1F, kidsL, List.any_cons, h1F_kids nm r]
    rfl
def l1F (nm : ByteArray) (N : Int) : Fo → Int → Int
  | .nil, r => r
  | .node _ _ x l s, r => if r < 0 then r else l1F nm N s (if eqN nm x = true then r - N else l1F nm N l (r - 1))
def l1N (nm : ByteArray) (N : Int) (x : ByteArray × Int) (l : Fo) (r : Int) : Int := if eqN nm x = true then r - N else l1F nm N l (r - 1)
theorem l1F_neg (nm : ByteArray) (N : Int) (F : Fo) (r : Int) (h : r < 0) : l1F nm N F r = r := by
  cases F with
  | nil => rfl
  | node => unfold l1F; rw [if_pos h]
theorem l1F_bd (nm : ByteArray) {N : Int} (hN : 0 ≤ N ∧ N ≤ 1048577) : ∀ (F : Fo) (r : Int), -1048578 ≤ r → -1048578 ≤ l1F nm N F r ∧ l1F nm N F r ≤ r
  | .nil, r, h => ⟨h, Int.le_refl _⟩
  | .node _ _ x l s, r, h => by
    unfold l1F
    split
    · omega
    · have h1 : -1048578 ≤ (if eqN nm x = true then r - N else l1F nm N l (r - 1)) ∧ (if eqN nm x = true then r - N else l1F nm N l (r - 1)) ≤ r := by
        split
        · omega
        · have := l1F_bd nm hN l (r - 1) (by omega)
          omega
      have h2 := l1F_bd nm hN s _ h1.1
      omega
theorem l1N_bd (nm : ByteArray) {N : Int} (hN : 0 ≤ N ∧ N ≤ 1048577) (x : ByteArray × Int) (l : Fo) (r : Int) (h : 0 ≤ r) : -1048578 ≤ l1N nm N x l r ∧ l1N nm N x l r ≤ r := by
  unfold l1N
  split
  · omega
  · have := l1F_bd nm hN l (r - 1) (by omega); omega

/-! ### memory -/
def is26 : Obj → Bool
  | .cells _ e _ => e == 26
  | _ => false
/-- The world without the blocks that S leaves out. -/
def offW (S : Nat → Obj → Bool) (w : World) : World := { w with heap := w.heap.mapIdx fun i o => if S i o = true then o else .cells #[] 0 }
theorem off_heap (S : Nat → Obj → Bool) (w : World) (b : Nat) : (offW S w).heap[b]? = (w.heap[b]?).map fun o => if S b o = true then o else .cells #[] 0 := by
  show (w.heap.mapIdx _)[b]? = _
  rw [Array.getElem?_mapIdx]
theorem off_cell {S : Nat → Obj → Bool} {w : World} {p : Addr} {v : Value} (h : (offW S w).cell? p = some v) : ∃ o, w.heap[p.block]? = some o ∧ S p.block o = true ∧ w.cell? p = some v := by
  unfold World.cell? at h ⊢
  rw [off_heap] at h
  cases ho : w.heap[p.block]? with
  | none => rw [ho] at h; cases h
  | some o =>
    rw [ho] at h
    simp only [Option.map_some] at h
    by_cases hs : S p.block o = true
    · rw [if_pos hs] at h
      exact ⟨o, rfl, hs, h⟩
    · rw [if_neg hs] at h
      simp at h
theorem off_of {S : Nat → Obj → Bool} {w : World} {p : Addr} {v : Value} {o : Obj} (ho : w.heap[p.block]? = some o) (hs : S p.block o = true) (h : w.cell? p = some v) : (offW S w).cell? p = some v := by
  unfold World.cell? at h ⊢
  rw [off_heap, ho, Option.map_some, if_pos hs]
  rw [ho] at h
  exact h
/-- A term that lies apart from what S leaves out. -/
abbrev TmO (S : Nat → Obj → Bool) (w : World) (x : ByteArray × Int) (a : Option Addr) (c : Nat) (l : Fo) : Prop := TmAt (offW S w) x a c l
theorem tmO_tm {S : Nat → Obj → Bool} {w : World} {x : ByteArray × Int} {a : Option Addr} {c : Nat} {l : Fo} (h : TmO S w x a c l) : TmAt w x a c l := h.kept fun _ _ hc => (off_cell hc).elim fun _ h => h.2.2
theorem tmO_move {S S' : Nat → Obj → Bool} {w w' : World} {x : ByteArray × Int} {a : Option Addr} {c : Nat} {l : Fo} (h : TmO S w x a c l) (k : ∀ b o, w.heap[b]? = some o → S b o = true → w'.heap[b]? = some o ∧ S' b o = true) : TmO S' w' x a c l := h.kept fun p v hc => by
  obtain ⟨o, h1, h2, h3⟩ := off_cell hc
  obtain ⟨h4, h5⟩ := k _ _ h1 h2
  exact off_of h4 h5 ((World.cell?_of_block (h4.trans h1.symm)).trans h3)
theorem tmO_below {S : Nat → Obj → Bool} {w w' : World} {x : ByteArray × Int} {a : Option Addr} {c : Nat} {l : Fo} (h : TmO S w x a c l) (hb : Below w.heap.size w w') : TmO S w' x a c l :=
  tmO_move h fun b _ ho hs => ⟨(hb.block b (Array.getElem?_eq_some_iff.1 ho).1).trans ho, hs⟩
theorem tmO_fr {S : Nat → Obj → Bool} {A : Nat → Prop} {w w' : World} {x : ByteArray × Int} {a : Option Addr} {c : Nat} {l : Fo} (h : TmO S w x a c l) (hf : Fr A w w') (hA : ∀ b o, A b → w.heap[b]? = some o → S b o = false) : TmO S w' x a c l :=
  tmO_move h fun b o ho hs => ⟨(hf.same b (Array.getElem?_eq_some_iff.1 ho).1 (fun ha => by rw [hA b o ha ho] at hs; cases hs)).trans ho, hs⟩
theorem tmO_new {S : Nat → Obj → Bool} {w : World} {x : ByteArray × Int} {a : Option Addr} {c : Nat} {l : Fo} (h : TmAt w x a c l) (hS : ∀ b o, b < w.heap.size → S b o = true) : TmO S w x a c l := h.kept fun p v hc => by
  have hlt := World.block_lt_of_cell? w p hc
  exact off_of (Array.getElem?_eq_getElem hlt) (hS _ _ hlt) hc
/-- Terms out of their cells. -/
theorem kids_build {w : World} {b : Nat} : ∀ (F : Fo) (ks : List Kv) (o : Nat), kidsL F = ks.map Kv.tn → (∀ i u, (kvCells ks)[i]? = some u → w.cell? ⟨b, o + i, none⟩ = some u) → (∀ k ∈ ks, TmAt w k.x k.a k.c k.l) → KidsAt w F b o
  | .nil, _, _, _, _, _ => trivial
  | .node B O x l r, [], _, h, _, _ => by simp [kidsL] at h
  | .node B O x l r, k :: ks, o, h, hc, ht => by
    simp only [kidsL, List.map_cons, List.cons.injEq] at h
    obtain ⟨h1, h2⟩ := h
    obtain ⟨kx, kl, ka, kc⟩ := k
    have e : (x, l) = (kx, kl) := h1
    cases e
    have t := ht ⟨x, l, ka, kc⟩ (by simp)
    have c0 := hc 0 _ rfl
    have c1 := hc 1 _ rfl
    have c2 := hc 2 _ rfl
    refine ⟨⟨ka, kc, c0, c1, c2, t.sizes, t.args⟩, kids_build r ks (o + 3) h2 (fun i u hu => ?_) (fun q hq => ht q (List.mem_cons_of_mem _ hq))⟩
    have := hc (i + 3) u (by
      have e : kvCells (⟨x, l, ka, kc⟩ :: ks) = .string x.1 :: .int .i64 x.2 :: .slice ka (lenF l) kc :: kvCells ks := rfl
      rw [e]
      simp only [List.getElem?_cons_succ]
      exact hu)
    rwa [show o + (i + 3) = o + 3 + i by omega] at this

/-! ### what is left of the room -/
def ptC (nm : ByteArray) (T : Tn) (a : Option Addr) (c : Nat) (N : Int) : Array Value := #[.string nm, .string T.1.1, .int .i64 T.1.2, .slice a (lenF T.2) c, .int .i64 N]
def Left1Ok (nm : ByteArray) (T : Tn) (ta : Option Addr) (tc : Nat) (N : Int) (k : Nat) : Prop := ∀ (x : ByteArray × Int) (l : Fo) (a : Option Addr) (c Q : Nat) (room : Int) (w : World), nodesF l ≤ k → TmAt w x a c l → Box w Q 105 (ptC nm T ta tc N) → 0 ≤ room → room ≤ 400 →
  Calls Tryz.prog 96 #[.pointer (some ⟨Q, 0, none⟩), .agg #[.string x.1, .int .i64 x.2, .slice a (lenF l) c], .int .i64 room] w fun e w' => e = .returned (.int .i64 (l1N nm N x l room)) ∧ Below w.heap.size w w'
set_option maxRecDepth 100000 in
set_option maxHeartbeats 2000000 in
theorem left1_all (nm : ByteArray) (T : Tn) (ta : Option Addr) (tc : Nat) {N : Int} (hN : 0 ≤ N ∧ N ≤ 1048577) : ∀ k, Left1Ok nm T ta tc N k := by
  intro k
  induction k using Nat.strongRecOn with
  | _ k ih =>
    intro x l a c Q room w hk hT hQ hr0 hr4
    have HT := hid hT
    have HQ := hid hQ
    have IH : Hid (∀ j, j < k → Left1Ok nm T ta tc N j) := ih
    have O0 := hid (One.new w x a (lenF l) c)
    have hn0 := len_nodes l
    have hb0 := alloc_below0 w (.cells #[.string x.1, .int .i64 x.2, .slice a (lenF l) c] 26)
    have t0 := O0.out.t.c0
    have q0 : (w.alloc (.cells #[.string x.1, .int .i64 x.2, .slice a (lenF l) c] 26)).cell? ⟨Q, 0, none⟩ = some (.string nm) := (hQ.below hb0).c 0
    have q4 : (w.alloc (.cells #[.string x.1, .int .i64 x.2, .slice a (lenF l) c] 26)).cell? ⟨Q, 4, none⟩ = some (.int .i64 N) := (hQ.below hb0).c 4
    have hln : lenF l ≤ 2932031007402 := by have := hT.sizes.few; omega
    have hN1 := hN.1; have hN2 := hN.2
    clear hT ih hQ hb0
    go_enter Tryz.func96, Tryz.ntmps96
    go_upto_region 1 with fail
    generalize w.alloc (.cells #[.string x.1, .int .i64 x.2, .slice a (lenF l) c] 26) = V at O0 t0 q0 q4 ⊢
    have hls := later_some V
    have k0 := later_cell t0
    have k1 := later_cell q0
    refine wp_region_later (by kernel_rfl) (by kernel_rfl) ?_
    repeat (go_big_quiet_step (fail))
    refine wpQuiet_nil ?_
    intro _ hw'
    obtain ⟨v2, hw''⟩ := hw'
    subst hw''
    have O1 := hid (O0.out.below v2.below)
    have q5 := below_cell v2.below _ _ q4
    have HQ1 := hid (HQ.out.below (O0.out.low.trans (v2.below.mono O0.out.low.size)))
    clear k0 k1 hls t0 q0 q4
    generalize v2.now = V2 at O1 q5 HQ1 ⊢
    clear v2 O0
    cases heq : (x.1.toList == nm.toList)
    case true =>
      have e1 : l1N nm N x l room = room - N := by unfold l1N eqN; rw [heq, if_pos rfl]
      have HE1 := hid e1
      clear e1
      go_wp2_with fail
      go_ret
      exact ⟨by rw [HE1.out] <;> rfl, O1.out.low⟩
    case false =>
      have e1 : l1N nm N x l room = l1F nm N l (room - 1) := by unfold l1N eqN; rw [heq, if_neg (by simp)]
      have HE1 := hid e1
      clear e1
      have t2 := O1.out.t.c2
      go_wp2_with fail
      go_loopw [2, 28] (fun rv iv wr => ∃ (j : Nat) (r : Int), j ≤ lenF l ∧ rv = .int .i64 r ∧ iv = .int .i64 j ∧ -1048578 ≤ r ∧ r ≤ 400 ∧ One w x a (lenF l) c wr ∧ l1F nm N (dropF j l) r = l1F nm N l (room - 1)) (fun _ iv _ => lenF l - (intOf iv).toNat)
      case atStart => exact ⟨0, room - 1, Nat.zero_le _, rfl, rfl, by omega, by omega, O1.out, by rw [drop_zero]⟩
      case round =>
        obtain ⟨j, r, hj, rfl, rfl, hr1, hr2, hO, hm⟩ := hrel
        have HO := hid hO
        by_cases hlt : j < lenF l
        · obtain ⟨b1, o1, rfl, hk1⟩ := HT.out.args.get (by omega)
          obtain ⟨z, a1, c1, l1, kd⟩ := hk1.kid (k := j) hlt
          have kd' := kd.below hO.low
          obtain ⟨B1, O1', s1⟩ := kd.split
          rw [s1] at hm
          have p0 := kd'.name; have p1 := kd'.sym; have p2 := kd'.list
          by_cases hr : r < 0
          · rw [l1F_neg _ _ _ r hr] at hm
            clear kd kd' s1 hk1 hO
            go_wp2_with fail
            go_ret
            exact ⟨by rw [HE1.out, ← hm] <;> rfl, HO.out.low.trans ((alloc_below0 wr _).mono HO.out.low.size)⟩
          · have hal := alloc_below0 wr (.cells #[.string z.1, .int .i64 z.2, .slice a1 (lenF l1) c1] 26)
            have HC := hid (IH.out (nodesF l1) (by have := kd.less; omega) z l1 a1 c1 Q r _ (Nat.le_refl _) (kd'.at_.below hal) ((HQ.out.below hO.low).below hal) (by omega) hr2)
            have hstep : l1F nm N (dropF (j + 1) l) (l1N nm N z l1 r) = l1F nm N l (room - 1) := by
              rw [← hm]
              conv => rhs; unfold l1F
              rw [if_neg hr]
              rfl
            have HS := hid hstep
            have hbd := l1N_bd nm hN z l1 r (by omega)
            have HAL := hid hal
            clear kd kd' s1 hk1 hO hstep hal
            go_wp2_with fail
            refine HC.out.mono ?_
            rintro e w3 ⟨rfl, hb3⟩
            have HO4 := hid (HO.out.below (HAL.out.trans (hb3.mono HAL.out.size)))
            clear hb3 p0 p1 p2
            go_wp2_with fail
            go_roundw
            case rel => exact ⟨j + 1, l1N nm N z l1 r, by omega, rfl, by go_num, hbd.1, by omega, HO4.out, HS.out⟩
            case measure => simp [intOf]; omega
        · have e1 : j = lenF l := by omega
          rw [e1, drop_end] at hm
          have hm' : r = l1F nm N l (room - 1) := hm
          clear hO
          go_wp2_with fail
          go_ret
          exact ⟨by rw [HE1.out, ← hm'] <;> rfl, HO.out.low⟩
end Go.Proofs.YtfnfbljijkjkjaaGreat
/- slices.Clone of terms. -/
namespace Go.Proofs.YtfnfbljijkjkjaaGreat
open Go.RowKit Go.Shelf Go.Deep

/-- Terms' cells out of terms. -/
theorem kids_kvs {w : World} : ∀ {F : Fo} {b o : Nat}, KidsAt w F b o → ∃ ks : List Kv, ks.map Kv.tn = kidsL F ∧ (∀ i u, (kvCells ks)[i]? = some u → w.cell? ⟨b, o + i, none⟩ = some u) ∧ ∀ k ∈ ks, TmAt w k.x k.a k.c k.l
  | .nil, _, _, _ => ⟨[], rfl, fun i u h => by simp [kvCells] at h, fun k hk => by cases hk⟩
  | .node B O x l r, b, o, ⟨⟨a, c, h0, h1, h2, hc, hl⟩, hr⟩ => by
    obtain ⟨ks, e1, e2, e3⟩ := kids_kvs hr
    refine ⟨⟨x, l, a, c⟩ :: ks, by simp only [List.map_cons, kidsL, e1]; rfl, fun i u hu => ?_, fun k hk => ?_⟩
    · have e : kvCells (⟨x, l, a, c⟩ :: ks) = .string x.1 :: .int .i64 x.2 :: .slice a (lenF l) c :: kvCells ks := rfl
      rw [e] at hu
      match i, hu with
      | 0, hu => cases hu; exact h0
      | 1, hu => cases hu; exact h1
      | 2, hu => cases hu; exact h2
      | i + 3, hu =>
        simp only [List.getElem?_cons_succ] at hu
        have := e2 i u hu
        rwa [show o + 3 + i = o + (i + 3) by omega] at this
    · rcases List.mem_cons.1 hk with rfl | hk
      · exact ⟨hc, hl⟩
      · exact e3 k hk
theorem kv_ones (ks : List Kv) : ∀ u ∈ kvCells ks, u.oneCell' = true := by
  intro u hu
  obtain ⟨k, _, hk⟩ := List.mem_flatMap.1 hu
  have e : k.cells = [.string k.x.1, .int .i64 k.x.2, .slice k.a (lenF k.l) k.c] := rfl
  rw [e] at hk
  simp only [List.mem_cons, List.not_mem_nil, or_false] at hk
  rcases hk with rfl | rfl | rfl <;> rfl
theorem fr_grown {w w' : World} {r : Option Nat} (h : w.grownBy w' r) : Fr (fun q => r = some q) w w' := ⟨⟨h.os, h.tape, h.output, h.size, fun k hk => absurd hk (Nat.not_lt_zero k)⟩, fun k hk hA => h.block k hk (fun e => hA e.symm)⟩
theorem below_grown {w W W' : World} {r : Option Nat} (hb : Below w.heap.size w W) (h : W.grownBy W' r) (hr : ∀ k, r = some k → w.heap.size ≤ k) : Below w.heap.size w W' :=
  hb.trans ⟨h.os, h.tape, h.output, h.size, fun k hk => h.block k (Nat.lt_of_lt_of_le hk hb.size) (fun e => by have := hr k e.symm; omega)⟩
set_option maxRecDepth 100000 in
set_option maxHeartbeats 2000000 in
theorem clone_terms (b o c : Nat) (ks : List Kv) (w : World) (hc : ∀ i u, (kvCells ks)[i]? = some u → w.cell? ⟨b, o + i, none⟩ = some u) (hn : ks.length ≤ 1048576) :
    Calls Tryz.prog 106 #[.slice (some ⟨b, o, none⟩) ks.length c] w fun e w' => ∃ v, e = .returned v ∧ w'.ownsRow w.heap.size 26 3 v ks.length (kvCells ks) ∧ Below w.heap.size w w' := by
  have h1 : (binOp .eql 24 (.slice (some ⟨b, o, none⟩) ks.length c) (.slice none 0 0)).run Tryz.prog w = .ok (.bool false) w := rfl
  have b1 := alloc_below0 w (.cells #[] 26)
  have hE : (w.alloc (.cells #[] 26)).ownsRow w.heap.size 26 3 (.slice (some ⟨w.heap.size, 0, none⟩) 0 0) 0 [] := ⟨rfl, .inr ⟨w.heap.size, 0, #[], rfl, Nat.le_refl _, World.alloc_heap_new w _, Nat.le_refl _, Nat.zero_le _, rfl, rfl⟩⟩
  obtain ⟨i0, hi0, hz0, hz1, hz2⟩ := info_parts Tryz.info26
  obtain ⟨v', w1, hr1, hA1, hG1, _, _⟩ := run_append_own_at (P := Tryz.prog) (w.alloc (.cells #[] 26)) w.heap.size 24 24 26 i0 _ 3 48 Tryz.underlying24 hi0 hz0 hz1 hz2 rfl (by decide) _ 0 [] hE ⟨b, o, none⟩ ks.length c (kvCells ks) (kvCells_len ks)
    (fun j u hu => by rw [Addr.add_lit]; exact below_cell b1 _ _ (hc j u hu)) (kv_ones ks) (by unfold maxLen; omega) (by omega) b1.size
  have hb1 : Below w.heap.size w w1 := below_grown b1 hG1 (fun k hk => by have h7 : some w.heap.size = some k := hk; have := Option.some.inj h7; omega)
  rw [Nat.zero_add] at hA1
  rw [List.nil_append] at hA1
  have HA1 := hid hA1; have HB1 := hid hb1
  clear hE hG1 hA1 hb1 b1 hc
  go_enter Tryz.func106, Tryz.ntmps106
  go_wp2_with (first
    | (at_builtin; refine Lib.wpList_append_run _ rfl _ _ _ _ rfl _ _ rfl rfl _ _ hr1 ?_; clear hr1)
    | fail)
  go_ret
  exact ⟨_, rfl, HA1.out, HB1.out⟩
end Go.Proofs.YtfnfbljijkjkjaaGreat
