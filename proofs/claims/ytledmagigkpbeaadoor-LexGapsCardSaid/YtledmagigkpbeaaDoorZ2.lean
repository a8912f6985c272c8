/-
  The deferred closure of recut, which takes a refusal up.
-/
import Derived.Test.YtledmagigkpbeaaDoorZ
import Derived.Test.YtledmagigkpbeaaDoorY2
namespace Go.Proofs.YtledmagigkpbeaaDoor
open Go.RowKit Go.Shelf

set_option maxRecDepth 100000 in
theorem recatch_refusal (n i c : Nat) (bl : Nat) (w : World) (hs : bl + 2 < w.heap.size) (hl : ∃ v, w.cell? ⟨bl, 0, none⟩ = some v) (ha : ∃ v, w.cell? ⟨bl + 1, 0, none⟩ = some v) (he : ∃ v, w.cell? ⟨bl + 2, 0, none⟩ = some v)
    (hf : w.frozen? ⟨bl, 0, none⟩ = false ∧ w.frozen? ⟨bl + 1, 0, none⟩ = false ∧ w.frozen? ⟨bl + 2, 0, none⟩ = false) :
    CallsDIn Fence.wide n Tryd.prog 52 #[.pointer (some ⟨bl, 0, none⟩), .pointer (some ⟨bl + 1, 0, none⟩), .pointer (some ⟨bl + 2, 0, none⟩)]
      (.panicking ({ v := .iface 59 (.agg #[.int .i64 (i : Int), .int .i64 (c : Int)]), recovered := false } :: [])) w fun e u' w' =>
      e = .returned (.tuple #[]) ∧ u' = .panicking ({ v := .iface 59 (.agg #[.int .i64 (i : Int), .int .i64 (c : Int)]), recovered := true } :: []) ∧
      w'.cell? ⟨bl, 0, none⟩ = some (.slice none 0 0) ∧ w'.cell? ⟨bl + 1, 0, none⟩ = some (.int .i64 (i : Int)) ∧ w'.cell? ⟨bl + 2, 0, none⟩ = some (.int .i64 (c : Int)) ∧ Below bl w w' := by
  obtain ⟨v0, hl⟩ := hl
  obtain ⟨v1, ha⟩ := ha
  obtain ⟨v2, he⟩ := he
  obtain ⟨f0, f1, f2⟩ := hf
  have al := fun o => (Below.refl _ w).alloc (Nat.le_refl _) o
  have x0 : ∀ o, (w.alloc o).cell? ⟨bl, 0, none⟩ = some v0 := fun o => ((al o).cell (p := ⟨bl, 0, none⟩) (by simp; omega)).trans hl
  have x1 : ∀ o, (w.alloc o).cell? ⟨bl + 1, 0, none⟩ = some v1 := fun o => ((al o).cell (p := ⟨bl + 1, 0, none⟩) (by simp; omega)).trans ha
  have x2 : ∀ o, (w.alloc o).cell? ⟨bl + 2, 0, none⟩ = some v2 := fun o => ((al o).cell (p := ⟨bl + 2, 0, none⟩) (by simp; omega)).trans he
  have y0 : ∀ o, (w.alloc o).frozen? ⟨bl, 0, none⟩ = false := fun o => ((al o).frozen (p := ⟨bl, 0, none⟩) (by simp; omega)).trans f0
  have y1 : ∀ o, (w.alloc o).frozen? ⟨bl + 1, 0, none⟩ = false := fun o => ((al o).frozen (p := ⟨bl + 1, 0, none⟩) (by simp; omega)).trans f1
  have y2 : ∀ o, (w.alloc o).frozen? ⟨bl + 2, 0, none⟩ = false := fun o => ((al o).frozen (p := ⟨bl + 2, 0, none⟩) (by simp; omega)).trans f2
  have n0 : ¬ bl = w.heap.size := by omega
  have n1 : ¬ bl + 1 = w.heap.size := by omega
  have n2 : ¬ bl + 2 = w.heap.size := by omega
  clear al
  have hta := assert_yes (.agg #[.int .i64 (i : Int), .int .i64 (c : Int)])
  refine callsDIn_of_wpSIn Tryd.func52 rfl trivial fun c₀ cs hu => ?_
  apply wpSIn_seq
  apply wpSIn_region
  simp [wpOpsSIn, go_sem, recoverD, hu, hta, Tryd.ntmps52, Exit.thenS]
  refine wpSIn_of_wpIn rfl ?_
  simp only [Array.replicate_succ, Array.replicate_zero, List.push_toArray, List.append_toArray, List.nil_append, List.cons_append, List.setIfInBounds_toArray, List.set_cons_zero, List.set_cons_succ]
  gi_wp2_with fail
  gi_region
  all_goals gi_wp2_with fail
  all_goals
    simp [bodyPostS, results, Tryd.results52]
    refine ⟨?_, ?_, ?_, ?_⟩
    · rw [World.cell?_setCell_other _ _ _ _ (by simp), World.cell?_setCell_other _ _ _ _ (by simp)]; exact World.cell?_setCell_same' _ _ _ (by rw [x0]; rfl)
    · rw [World.cell?_setCell_other _ _ _ _ (by simp)]; exact World.cell?_setCell_same' _ _ _ (by rw [World.cell?_setCell_other _ _ _ _ (by simp), x1]; rfl)
    · exact World.cell?_setCell_same' _ _ _ (by rw [World.cell?_setCell_other _ _ _ _ (by simp), World.cell?_setCell_other _ _ _ _ (by simp), x2]; rfl)
    · exact ((((((Below.refl bl w).alloc (by omega) _).setCell (p := ⟨bl, 0, none⟩) (Nat.le_refl _) _).setCell (p := ⟨bl + 1, 0, none⟩) (by simp) _).setCell (p := ⟨bl + 2, 0, none⟩) (by simp) _)).drew

set_option maxRecDepth 100000 in
theorem recatch_none (n : Nat) (a0 a1 a2 : Value) (w : World) :
    CallsDIn Fence.wide n Tryd.prog 52 #[a0, a1, a2] .returning w fun e u' w' => e = .returned (.tuple #[]) ∧ u' = .returning ∧ Below w.heap.size w w' := by
  have hta := assert_nil
  refine callsDIn_of_wpSIn Tryd.func52 rfl trivial fun c₀ cs hu => ?_
  apply wpSIn_seq
  apply wpSIn_region
  simp [wpOpsSIn, go_sem, recoverD, hu, hta, Tryd.ntmps52, Exit.thenS]
  refine wpSIn_of_wpIn rfl ?_
  simp only [Array.replicate_succ, Array.replicate_zero, List.push_toArray, List.append_toArray, List.nil_append, List.cons_append, List.setIfInBounds_toArray, List.set_cons_zero, List.set_cons_succ]
  gi_wp2_with fail
  simp [bodyPostS, results, Tryd.results52]
  exact ⟨.returning, by rw [← hu], rfl, (Below.refl _ w).alloc (Nat.le_refl _) _⟩
end Go.Proofs.YtledmagigkpbeaaDoor
