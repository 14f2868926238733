/- Words in memory; where the words of a text end. -/
import Derived.Test.YtfkfehkbdmemnaaWAll
import Derived.Deep.AppendLies
namespace Go.Proofs.Ytfkfehkbdmemnaa
open Go.RowKit Go.Shelf

def Wd.cells (x : Wd) : List Value := [.int .i64 x.kind, .string x.text, .int .i64 x.place]
def wdCells (ws : List Wd) : List Value := ws.flatMap Wd.cells
theorem wdCells_len (ws : List Wd) : (wdCells ws).length = ws.length * 3 := by
  induction ws with
  | nil => rfl
  | cons x r ih => simp only [wdCells, List.flatMap_cons, List.length_append, List.length_cons] at ih ⊢; rw [ih]; simp [Wd.cells]; omega
theorem wdCells_snoc (ws : List Wd) (x : Wd) : wdCells (ws ++ [x]) = wdCells ws ++ x.cells := by simp [wdCells]
theorem wd_one (x : Wd) : ∀ u ∈ x.cells, u.oneCell' = true := by
  intro u hu
  simp [Wd.cells] at hu
  rcases hu with rfl | rfl | rfl <;> rfl
theorem Try.info26 : (Try.prog.info? 26).map (fun i => (i.zero, i.size, i.bytes)) = some (some (.agg #[.int .i64 0, .string ⟨#[]⟩, .int .i64 0]), 3, 32) := by kernel_rfl

/-- Where the words end. -/
def endFrom (k : Int) (ws : List Wd) : Int := ws.foldl (fun _ x => ((x.place + x.text.size : Nat) : Int)) k
theorem endFrom_snoc (k : Int) (ws : List Wd) (x : Wd) : endFrom k (ws ++ [x]) = ((x.place + x.text.size : Nat) : Int) := by simp [endFrom]
theorem end_is (s : ByteArray) : ∀ n k, k ≤ s.size → s.size - k ≤ n → ∃ z, z ≤ s.size ∧ endFrom (k : Int) (wordsFrom s k) = (z : Int) ∧ nxStop (nx s z) = true ∧ (lst s k).2 = ((nx s z).to, (nx s z).err) := by
  intro n
  induction n with
  | zero =>
    intro k hk hn
    cases h : nxStop (nx s k)
    · have hw := (nx_word h).1
      have h1 := hw.gt; have h2 := hw.from'; have h3 := hw.le
      omega
    · exact ⟨k, hk, by rw [words_stop hk h]; rfl, h, by rw [lst_stop hk h]⟩
  | succ n ih =>
    intro k hk hn
    cases h : nxStop (nx s k)
    · have hw := (nx_word h).1
      have h1 := hw.gt; have h2 := hw.from'; have h3 := hw.le
      obtain ⟨z, hz, he, hs, hl⟩ := ih (nx s k).to h3 (by omega)
      refine ⟨z, hz, ?_, hs, by rw [lst_go hk h]; exact hl⟩
      rw [words_go hk h]
      unfold endFrom at he ⊢
      rw [List.foldl_cons, hw.size]
      exact he
    · exact ⟨k, hk, by rw [words_stop hk h]; rfl, h, by rw [lst_stop hk h]⟩

/-- What List answers. -/
def lstWords (s : ByteArray) : List Wd := if errOf s = 0 then wordsFrom s 0 else []
def lstAt (s : ByteArray) : Nat := if errOf s = 0 then 0 else errTo s
theorem end_all (s : ByteArray) : ∃ z, z ≤ s.size ∧ endFrom 0 (wordsFrom s 0) = (z : Int) ∧ nxStop (nx s z) = true ∧ errTo s = (nx s z).to ∧ errOf s = (nx s z).err := by
  obtain ⟨z, hz, he, hs, hl⟩ := end_is s s.size 0 (Nat.zero_le _) (by omega)
  exact ⟨z, hz, he, hs, by unfold errTo; rw [hl], by unfold errOf; rw [hl]⟩
theorem lst_small (s : ByteArray) : (lstWords s).length ≤ s.size := by
  unfold lstWords
  split
  · exact words_small s
  · simp
end Go.Proofs.Ytfkfehkbdmemnaa
