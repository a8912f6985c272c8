/-
  The constants of the laws' examples, computed; a text without an error is its pieces, one after another.
-/
import Derived.Test.YtledmagigkpbeaaDoorSC2
import Derived.Test.YtledmagigkpbeaaDoorMath9
import Derived.Test.YtledmagigkpbeaaDoorL
namespace Go.Proofs.YtledmagigkpbeaaDoor

def tx1 : ByteArray := ⟨#[100, 101, 102, 105, 110, 101, 32, 99, 108, 97, 115, 115, 32, 60, 112, 111, 105, 110, 116, 62, 32, 40, 60, 111, 98, 106, 101, 99, 116, 62, 41, 32, 101, 110, 100, 59]⟩
def tx2 : ByteArray := ⟨#[102, 40, 97, 32, 45, 32, 45, 51, 44, 32, 98, 45, 50, 41]⟩
def tx3 : ByteArray := ⟨#[35, 116, 114, 117, 101]⟩
def tx4 : ByteArray := ⟨#[48, 48, 55]⟩
def tx5 : ByteArray := ⟨#[97, 32, 47, 42, 32, 98, 32, 42, 47, 32, 99]⟩
def tx6 : ByteArray := ⟨#[97, 32, 98, 32, 99]⟩
def tx7 : ByteArray := ⟨#[97, 32, 100, 100, 32, 99]⟩
def ls6 : List (Nat × Nat × Nat) := [(1, 0, 1), (7, 1, 1), (1, 2, 1), (7, 3, 1), (1, 4, 1)]
def ls7 : List (Nat × Nat × Nat) := [(1, 0, 1), (7, 1, 1), (1, 2, 2), (7, 4, 1), (1, 5, 1)]
set_option maxRecDepth 100000 in
theorem pc1 : piecesR tx1 = ([(1, 0, 6), (7, 6, 1), (1, 7, 5), (7, 12, 1), (1, 13, 7), (7, 20, 1), (5, 21, 1), (1, 22, 8), (5, 30, 1), (7, 31, 1), (1, 32, 3), (5, 35, 1)], 0, 0) := by decide +kernel
set_option maxRecDepth 100000 in
theorem pc2 : piecesR tx2 = ([(1, 0, 1), (5, 1, 1), (1, 2, 1), (7, 3, 1), (5, 4, 1), (7, 5, 1), (2, 6, 2), (5, 8, 1), (7, 9, 1), (1, 10, 3), (5, 13, 1)], 0, 0) := by decide +kernel
set_option maxRecDepth 100000 in
theorem pc3 : piecesR tx3 = ([], 0, 12) := by decide +kernel
set_option maxRecDepth 100000 in
theorem pc4 : piecesR tx4 = ([], 0, 11) := by decide +kernel
set_option maxRecDepth 100000 in
theorem pc5 : piecesR tx5 = ([(1, 0, 1), (7, 1, 1), (8, 2, 7), (7, 9, 1), (1, 10, 1)], 0, 0) := by decide +kernel
set_option maxRecDepth 100000 in
theorem pc6 : piecesR tx6 = (ls6, 0, 0) := by decide +kernel
set_option maxRecDepth 100000 in
theorem pc7 : piecesR tx7 = (ls7, 0, 0) := by decide +kernel

theorem fault_pos {t : ByteArray} {i : Nat} {op : Bool} {c : Nat} (h : nextR t i op = .error c) : c ≠ 0 := by
  rintro rfl
  unfold nextR at h
  split at h
  · cases h
  · split at h
    · split at h
      · cases h
      · rename_i c hM
        simp only [Except.error.injEq] at h
        subst h
        exact absurd rfl (nested_err _ _ _ _ _ (Nat.le_refl _) hM)
    · split at h
      · cases h
      · split at h
        · cases h
        · rename_i hf
          simp only [Except.error.injEq] at h
          exact hf h
theorem cutF_pos {t : ByteArray} : ∀ (f i : Nat) (op : Bool) (n : Nat) (p : Nat × Nat), (cutF t f i op n).2 = some p → p.2 ≠ 0 := by
  intro f
  induction f with
  | zero => intro i op n p h; cases h
  | succ f ih =>
    intro i op n p h
    rw [cutF] at h
    split at h
    · cases hp : nextR t i op with
      | error c =>
        rw [hp] at h
        simp only [Option.some.injEq] at h
        subst h
        exact fault_pos hp
      | ok q =>
        rw [hp] at h
        simp only at h
        split at h
        · simp only [Option.some.injEq] at h
          subst h; simp
        · exact ih _ _ _ _ h
    · cases h

/-- A text without an error: its size, and its pieces one after another. -/
theorem pieces_ok {t : ByteArray} (h : (piecesR t).2.2 = 0) : t.size ≤ 20000 ∧ (piecesR t).2.1 = 0 ∧ cutAll t = ((piecesR t).1, none) ∧ ∃ op c, Steps t 0 false 0 (piecesR t).1 (t.size, op, c) := by
  by_cases hs : 20000 < t.size
  · simp [piecesR, hs] at h
  · cases hend : (cutAll t).2 with
    | none =>
      have hr : piecesR t = ((cutAll t).1, 0, 0) := by simp [piecesR, hend, hs]
      refine ⟨by omega, by rw [hr], by rw [hr]; exact Prod.ext rfl hend, ?_⟩
      rw [hr]
      exact cutF_steps (t.size + 1) 0 false 0 (by omega) (by omega) hend
    | some p =>
      have hr : piecesR t = ([], p.1, p.2) := by simp [piecesR, hend, hs]
      rw [hr] at h
      exact absurd h (cutF_pos _ _ _ _ _ hend)
theorem pieces_bad {t : ByteArray} (h : (piecesR t).2.2 ≠ 0) : (piecesR t).1 = [] := by
  by_cases hs : 20000 < t.size
  · simp [piecesR, hs]
  · cases hend : (cutAll t).2 with
    | none => simp [piecesR, hend, hs] at h
    | some p => simp [piecesR, hend, hs]
end Go.Proofs.YtledmagigkpbeaaDoor
