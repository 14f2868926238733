import Derived.Test.YtgidgmgpgfonnaaGreatKSInS
/- The walk of SubstApplies. -/
namespace Go.Proofs.YtgidgmgpgfonnaaGreat
open Go.RowKit Go.Deep

def zeroN : Tn := ((⟨#[]⟩, 0), .nil)
theorem ApplyEnd.form2 {sg : List Sym} {lk : ByteArray → Option Tn} {x : ByteArray × Int} {l : Fo} {w : World} {e : Ending} {w' : World} (h : ApplyEnd sg lk x l w e w') : ∃ (k : Kv) (er : Int), e = .returned (.tuple #[.agg #[.string k.x.1, .int .i64 k.x.2, .slice k.a (lenF k.l) k.c], .int .i64 er]) ∧ Below w.heap.size w w' ∧ LoosE w' (fun q => w.heap.size ≤ q) k ∧
    ((leftN lk x l 400 < 0 ∧ k.tn = zeroN ∧ er = 73) ∨ (0 ≤ leftN lk x l 400 ∧ er = 0 ∧ CanR sg (putN lk x l) k.tn)) := by
  rcases h with ⟨hb, ⟨h1, rfl⟩ | ⟨h1, k, rfl, h2, h3⟩⟩
  · exact ⟨⟨(noB, 0), .nil, none, 0⟩, 73, rfl, hb, loosE_const _ _ 0, .inl ⟨h1, rfl, rfl⟩⟩
  · exact ⟨k, 0, rfl, hb, h3, .inr ⟨h1, rfl, h2⟩⟩
theorem RApplyEnd.form2 {sg : List Sym} {bs : List Bn} {x : ByteArray × Int} {l : Fo} {w : World} {e : Ending} {w' : World} (h : RApplyEnd sg bs x l w e w') : ∃ (r : Tn) (a' : Option Addr) (c' : Nat) (er : Int), e = .returned (.tuple #[.agg #[.string r.1.1, .int .i64 r.1.2, .slice a' (lenF r.2) c'], .int .i64 er]) ∧ Below w.heap.size w w' ∧ TmAt w' r.1 a' c' r.2 ∧
    ((growN bs x l 400 < 0 ∧ r = zeroN ∧ er = 73) ∨ (0 ≤ growN bs x l 400 ∧ er = 0 ∧ r = canonT (sgOf sg) (pinN bs x l))) := by
  rcases h with ⟨hb, ⟨h1, rfl⟩ | ⟨h1, r, a', c', h2, rfl, h3⟩⟩
  · exact ⟨zeroN, none, 0, 73, rfl, hb, ⟨⟨by decide, by decide, by decide, by decide⟩, .inl rfl⟩, .inl ⟨h1, rfl, rfl⟩⟩
  · exact ⟨r, a', c', 0, rfl, hb, h3.tm, .inr ⟨h1, rfl, h2⟩⟩
/-- The program's Apply and the document's say the same. -/
theorem apply_same {sg : List Sym} {bs : List Bn} {x : ByteArray × Int} {l : Fo} {t r : Tn} {e f : Int} (hs : SubOk sg bs) (hr : rightB sg (x, l) = true) (h : (leftN (lkB bs) x l 400 < 0 ∧ t = zeroN ∧ e = 73) ∨ (0 ≤ leftN (lkB bs) x l 400 ∧ e = 0 ∧ CanR sg (putN (lkB bs) x l) t)) (k : (growN bs x l 400 < 0 ∧ r = zeroN ∧ f = 73) ∨ (0 ≤ growN bs x l 400 ∧ f = 0 ∧ r = canonT (sgOf sg) (pinN bs x l))) : t = r ∧ e = f := by
  obtain ⟨hok, hrt⟩ := right_facts hr
  have hfa := fits_alike hs.nodup x l hrt 400
  rcases h with ⟨h1, rfl, rfl⟩ | ⟨h1, rfl, h2⟩
  · rcases k with ⟨k1, rfl, rfl⟩ | ⟨k1, rfl, k2⟩
    · exact ⟨rfl, rfl⟩
    · exact absurd (hfa.2 k1) (by omega)
  · rcases k with ⟨k1, rfl, rfl⟩ | ⟨k1, rfl, k2⟩
    · exact absurd (hfa.1 h1) (by omega)
    · have e1 := putN_pin hs.nodup x l hrt
      rw [e1] at h2
      exact ⟨(h2.2 hok (pinN_right hs.rights x l hrt)).trans k2.symm, rfl⟩
end Go.Proofs.YtgidgmgpgfonnaaGreat
