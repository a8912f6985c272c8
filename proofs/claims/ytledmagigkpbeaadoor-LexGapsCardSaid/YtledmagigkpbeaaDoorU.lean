/-
  A text with a splice; the pieces ahead of a splice; what two lists of pieces have in common.
-/
import Derived.Test.YtledmagigkpbeaaDoorSC2
namespace Go.Proofs.YtledmagigkpbeaaDoor
open Go.RowKit

def okS (t : ByteArray) (at' del : Int) : Bool := decide (0 ≤ at') && decide (at' ≤ (t.size : Int)) && decide (0 ≤ del) && decide (del ≤ (t.size : Int) - at')
/-- The text with a splice. -/
def spliceB (t : ByteArray) (a d : Nat) (ins : ByteArray) : ByteArray := t.extract 0 a ++ ins ++ t.extract (a + d) t.size

theorem change_ok (t ins : ByteArray) (a d : Nat) (h : a + d ≤ t.size) (hi : t.size + ins.size ≤ 9223372036854775807) (w : World) :
    Calls Tryd.prog 18 #[.string t, .agg #[.int .i64 (a : Int), .int .i64 (d : Int), .string ins]] w fun e w' =>
      e = .returned (.tuple #[.string (spliceB t a d ins), .int .i64 0]) ∧ Below w.heap.size w w' := by
  have hw : IntKind.i64.wrap ((a : Int) + (d : Int)) = (a : Int) + (d : Int) := IntWalk.i64_in _ (by omega)
  have h1 : ((a : Int) < 0) = False := by simp
  have h2 : ((d : Int) < 0) = False := by simp
  have h3 : (a : Int) + (d : Int) ≤ (t.size : Int) := by omega
  have h4 : (0 : Int) ≤ (a : Int) + (d : Int) := by omega
  have h5 : ((a : Int) + (d : Int)).toNat = a + d := by omega
  have h6 : a ≤ t.size := by omega
  have h6' : (t.size < a) = False := by simp; omega
  have h8 : (9223372036854775807 < a + ins.size) = False := by simp; omega
  have h9 : (9223372036854775807 < a + ins.size + (t.size - (a + d))) = False := by simp; omega
  have h7 : ((t.size : Int) - (a : Int) < (d : Int)) = False := by simp; omega
  go_enter Tryd.func18, Tryd.ntmps18
  go_wp2_with fail
  go_region_held3 (fun w' => w'.cell? ⟨w.heap.size, 0, none⟩ = some (.int .i64 (a : Int)) ∧ w'.cell? ⟨w.heap.size, 1, none⟩ = some (.int .i64 (d : Int)) ∧ w'.cell? ⟨w.heap.size, 2, none⟩ = some (.string ins)) (go_keep) (fail)
  all_goals go_wp2_with fail
  refine bodyPost_ret (v := .tuple #[.string (spliceB t a d ins), .int .i64 0]) ?_ rfl ⟨rfl, ?_⟩
  · simp [results, Tryd.results18, go_sem, spliceB]
  · exact ((Below.refl _ w).alloc (Nat.le_refl _) _).drew

theorem change_no (t ins : ByteArray) (a d : Int) (h : a < 0 ∨ (t.size : Int) < a ∨ d < 0 ∨ (t.size : Int) - a < d) (ht : t.size ≤ 9223372036854775807) (w : World) :
    Calls Tryd.prog 18 #[.string t, .agg #[.int .i64 a, .int .i64 d, .string ins]] w fun e w' =>
      e = .returned (.tuple #[.string ⟨#[]⟩, .int .i64 1]) ∧ Below w.heap.size w w' := by
  by_cases h1 : a < 0
  · have h1' : (a < 0) = True := by simp [h1]
    go_enter Tryd.func18, Tryd.ntmps18
    go_wp2_with fail
    refine bodyPost_ret (v := .tuple #[.string ⟨#[]⟩, .int .i64 1]) (by simp [results, Tryd.results18, go_sem]) rfl ⟨rfl, (Below.refl _ w).alloc (Nat.le_refl _) _⟩
  · have h1' : (a < 0) = False := by simp [h1]
    by_cases h2 : (t.size : Int) < a
    · have h2' : ((t.size : Int) < a) = True := by simp [h2]
      go_enter Tryd.func18, Tryd.ntmps18
      go_wp2_with fail
      refine bodyPost_ret (v := .tuple #[.string ⟨#[]⟩, .int .i64 1]) (by simp [results, Tryd.results18, go_sem]) rfl ⟨rfl, (Below.refl _ w).alloc (Nat.le_refl _) _⟩
    · have hw : IntKind.i64.wrap ((t.size : Int) - a) = (t.size : Int) - a := IntWalk.i64_in _ (by omega)
      have h2' : ((t.size : Int) < a) = False := by simp; omega
      by_cases h3 : d < 0
      · have h3' : (d < 0) = True := by simp [h3]
        go_enter Tryd.func18, Tryd.ntmps18
        go_wp2_with fail
        refine bodyPost_ret (v := .tuple #[.string ⟨#[]⟩, .int .i64 1]) (by simp [results, Tryd.results18, go_sem]) rfl ⟨rfl, (Below.refl _ w).alloc (Nat.le_refl _) _⟩
      · have h3' : (d < 0) = False := by simp [h3]
        have h4' : ((t.size : Int) - a < d) = True := by simp; omega
        go_enter Tryd.func18, Tryd.ntmps18
        go_wp2_with fail
        refine bodyPost_ret (v := .tuple #[.string ⟨#[]⟩, .int .i64 1]) (by simp [results, Tryd.results18, go_sem]) rfl ⟨rfl, (Below.refl _ w).alloc (Nat.le_refl _) _⟩
end Go.Proofs.YtledmagigkpbeaaDoor
