/- Each word that is told is what its kind says. -/
import Derived.Test.YtfkfehkbdmemnaaWUpto
import Derived.Test.YtfkfehkbdmemnaaName
namespace Go.Proofs.Ytfkfehkbdmemnaa
open Go.RowKit

/-- Is a word what its kind says? -/
def FitsP (x : Wd) : Prop := (x.kind = 1 ∧ nameB x.text = true) ∨ (x.kind = 2 ∧ varB x.text = true) ∨ (x.kind = 3 ∧ x.text = ⟨#[40]⟩) ∨ (x.kind = 4 ∧ x.text = ⟨#[41]⟩) ∨ (x.kind = 5 ∧ x.text = ⟨#[44]⟩) ∨ (x.kind = 6 ∧ x.text = ⟨#[61]⟩) ∨ (x.kind = 7 ∧ x.text = ⟨#[45, 62]⟩)

theorem one_byte {s : ByteArray} {b : Nat} {c : UInt8} (hb : b < s.size) (h : bt s b = (c.toNat : Int)) : s.extract b (b + 1) = ⟨#[c]⟩ := by
  have hz : (s.extract b (b + 1)).size = 1 := by simp; omega
  refine ext_bt hz (fun j hj => ?_)
  obtain rfl : j = 0 := by omega
  rw [bt_ext s b (b + 1) 0 (by omega), if_pos (by omega), Nat.add_zero, h]
  rw [bt_of (s := ⟨#[c]⟩) (j := 0) (by show 0 < 1; omega)]
  rfl
theorem kindP_sign {s : ByteArray} {b : Nat} (h : 3 ≤ kindP s b) : (kindP s b = 3 ∧ bt s b = 40) ∨ (kindP s b = 4 ∧ bt s b = 41) ∨ (kindP s b = 5 ∧ bt s b = 44) ∨ (kindP s b = 6 ∧ bt s b = 61) ∨ kindP s b = 7 := by
  unfold kindP at h ⊢
  repeat' split at h
  all_goals first | omega | (simp_all; done)
theorem fits_word {s : ByteArray} {k z : Nat} {x : Wd} (h : IsWord s k x z) : FitsP x := by
  obtain ⟨hp, hlt, hk, hk0, ht, he, hok, hfr, hgt, hle, hsz, hsh⟩ := h
  have hf := fault_is hlt
  rw [hok, ← hk, ← ht] at hf
  have hlen : ¬ 12 < (x.text.size : Int) := by omega
  rw [fault_short hlen] at hf
  have hr := kindP_range s x.place
  rw [← hk] at hr
  by_cases h1 : x.kind = 1
  · left
    refine ⟨h1, ?_⟩
    rw [h1] at hf
    cases hn : nameB x.text
    · rw [hn] at hf; simp at hf
    · rfl
  by_cases h2 : x.kind = 2
  · right; left
    refine ⟨h2, ?_⟩
    rw [h2] at hf
    cases hn : varB x.text
    · rw [hn] at hf; simp at hf
    · rfl
  right; right
  have hs := kindP_sign (s := s) (b := x.place) (by rw [← hk]; omega)
  rw [← hk] at hs
  have e1 : ∀ c, x.kind = c → c ≠ 1 → c ≠ 2 → c ≠ 7 → endP s x.place = x.place + 1 := by
    intro c hc c1 c2 c7
    unfold endP lenK
    rw [← hk, hc]
    have b1 : (c == 1) = false := by simpa using c1
    have b2 : (c == 2) = false := by simpa using c2
    have b7 : (c == 7) = false := by simpa using c7
    rw [b1, b2, b7]; rfl
  rcases hs with ⟨hk3, hb⟩ | ⟨hk3, hb⟩ | ⟨hk3, hb⟩ | ⟨hk3, hb⟩ | hk3
  · refine .inl ⟨hk3, ?_⟩
    rw [ht, e1 3 hk3 (by omega) (by omega) (by omega)]; exact one_byte hlt hb
  · refine .inr (.inl ⟨hk3, ?_⟩)
    rw [ht, e1 4 hk3 (by omega) (by omega) (by omega)]; exact one_byte hlt hb
  · refine .inr (.inr (.inl ⟨hk3, ?_⟩))
    rw [ht, e1 5 hk3 (by omega) (by omega) (by omega)]; exact one_byte hlt hb
  · refine .inr (.inr (.inr (.inl ⟨hk3, ?_⟩)))
    rw [ht, e1 6 hk3 (by omega) (by omega) (by omega)]; exact one_byte hlt hb
  · refine .inr (.inr (.inr (.inr ⟨hk3, ?_⟩)))
    have hbb := kindP_seven (s := s) (b := x.place) (by rw [← hk]; exact hk3)
    have hE : endP s x.place = x.place + 2 := by
      unfold endP lenK
      rw [← hk, hk3]; rfl
    rw [ht, hE]
    have hz : (s.extract x.place (x.place + 2)).size = 2 := by simp; omega
    refine ext_bt hz (fun j hj => ?_)
    rw [hz] at hj
    rw [bt_ext s _ _ j (by omega), if_pos (by omega)]
    rcases j with _ | _ | j
    · rw [Nat.add_zero, hbb.1]; decide +kernel
    · rw [show x.place + (0 + 1) = x.place + 1 by omega, hbb.2]; decide +kernel
    · omega

set_option maxHeartbeats 1000000 in
theorem rfits_any (kd : Int) (tx : ByteArray) (pl : Nat) (w : World) (hz : tx.size ≤ maxLen) (hf : FitsP ⟨kd, tx, pl⟩) :
    Calls Try.prog 16 #[.agg #[.int .i64 kd, .string tx, .int .i64 pl]] w fun e w' => e = .returned (.bool true) ∧ Below w.heap.size w w' := by
  rcases hf with ⟨h, ht⟩ | ⟨h, ht⟩ | ⟨h, ht⟩ | ⟨h, ht⟩ | ⟨h, ht⟩ | ⟨h, ht⟩ | ⟨h, ht⟩
  · simp only at h ht
    subst h
    go_enter Try.func16, Try.ntmps16
    go_wp2_with (go_at_call 25; refine (rname_any _ _ hz).mono ?_; rintro e w' ⟨rfl, rfl⟩)
    go_ret
    exact ⟨rfl, (Below.refl _ _).alloc (Nat.le_refl _) _⟩
  · simp only at h ht
    subst h
    go_enter Try.func16, Try.ntmps16
    go_wp2_with (go_at_call 26; refine (rvar_any _ _ hz).mono ?_; rintro e w' ⟨rfl, rfl⟩)
    go_ret
    exact ⟨rfl, (Below.refl _ _).alloc (Nat.le_refl _) _⟩
  all_goals
    simp only at h ht
    subst h
    subst ht
    go_enter Try.func16, Try.ntmps16
    go_wp2
    go_ret
    exact ⟨rfl, (Below.refl _ _).alloc (Nat.le_refl _) _⟩
end Go.Proofs.Ytfkfehkbdmemnaa
