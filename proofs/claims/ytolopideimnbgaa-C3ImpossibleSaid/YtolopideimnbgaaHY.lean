/-
  All: what catches; the model.
-/
import Derived.Test.YtolopideimnbgaaHU
import Derived.Test.YtolopideimnbgaaHW
namespace Go.Proofs.Ytolopideimnbgaa
open Go.RowKit

theorem three_set {w : World} {b : Nat} {u0 u1 u2 : Value} (v0 v1 v2 : Value) (c0 : w.cell? ⟨b, 0, none⟩ = some u0) (c1 : w.cell? ⟨b + 1, 0, none⟩ = some u1) (c2 : w.cell? ⟨b + 2, 0, none⟩ = some u2) :
    (((w.setCell ⟨b, 0, none⟩ v0).setCell ⟨b + 1, 0, none⟩ v1).setCell ⟨b + 2, 0, none⟩ v2).cell? ⟨b, 0, none⟩ = some v0 ∧ (((w.setCell ⟨b, 0, none⟩ v0).setCell ⟨b + 1, 0, none⟩ v1).setCell ⟨b + 2, 0, none⟩ v2).cell? ⟨b + 1, 0, none⟩ = some v1 ∧
    (((w.setCell ⟨b, 0, none⟩ v0).setCell ⟨b + 1, 0, none⟩ v1).setCell ⟨b + 2, 0, none⟩ v2).cell? ⟨b + 2, 0, none⟩ = some v2 ∧ Below b w (((w.setCell ⟨b, 0, none⟩ v0).setCell ⟨b + 1, 0, none⟩ v1).setCell ⟨b + 2, 0, none⟩ v2) := by
  obtain ⟨z0, z1, hb⟩ := two_set v0 v1 c0 c1
  refine ⟨?_, ?_, ?_, hb.setCell (p := ⟨b + 2, 0, none⟩) (by simp) _⟩
  · rw [World.cell?_setCell_other _ _ _ _ (by simp)]; exact z0
  · rw [World.cell?_setCell_other _ _ _ _ (by simp)]; exact z1
  · exact World.cell?_setCell_same' _ _ _ (by rw [World.cell?_setCell_other _ _ _ _ (by simp), World.cell?_setCell_other _ _ _ _ (by simp), c2]; rfl)
set_option maxRecDepth 100000 in
theorem catchA_yes (i : Nat) (bl : Nat) (w : World) (hs : bl + 2 < w.heap.size) (v0 v1 v2 : Value) (t0 t1 t2 : TypeId) (h0 : w.heap[bl]? = some (.cells #[v0] t0)) (h1 : w.heap[bl + 1]? = some (.cells #[v1] t1)) (h2 : w.heap[bl + 2]? = some (.cells #[v2] t2)) :
    CallsD Try.prog 60 #[.pointer (some ⟨bl, 0, none⟩), .pointer (some ⟨bl + 1, 0, none⟩), .pointer (some ⟨bl + 2, 0, none⟩)] (.panicking (impCh i)) w fun e u' w' =>
      e = .returned (.tuple #[]) ∧ u' = .panicking ({ v := .iface 82 (.agg #[.int .i64 (i : Int)]), recovered := true } :: []) ∧
      w'.cell? ⟨bl, 0, none⟩ = some (.slice none 0 0) ∧ w'.cell? ⟨bl + 1, 0, none⟩ = some (.int .i64 (i : Int)) ∧ w'.cell? ⟨bl + 2, 0, none⟩ = some (.int .i64 71) ∧ Below bl w w' := by
  have al := fun o => (Below.refl _ w).alloc (Nat.le_refl _) o
  have x0 : ∀ o, (w.alloc o).cell? ⟨bl, 0, none⟩ = some v0 := fun o => by rw [cellOf (((al o).block bl (by omega)).trans h0)]; rfl
  have x1 : ∀ o, (w.alloc o).cell? ⟨bl + 1, 0, none⟩ = some v1 := fun o => by rw [cellOf (((al o).block _ (by omega)).trans h1)]; rfl
  have x2 : ∀ o, (w.alloc o).cell? ⟨bl + 2, 0, none⟩ = some v2 := fun o => by rw [cellOf (((al o).block _ (by omega)).trans h2)]; rfl
  have y0 : ∀ o, (w.alloc o).frozen? ⟨bl, 0, none⟩ = false := fun o => frozenOf (((al o).block bl (by omega)).trans h0)
  have y1 : ∀ o, (w.alloc o).frozen? ⟨bl + 1, 0, none⟩ = false := fun o => frozenOf (((al o).block _ (by omega)).trans h1)
  have y2 : ∀ o, (w.alloc o).frozen? ⟨bl + 2, 0, none⟩ = false := fun o => frozenOf (((al o).block _ (by omega)).trans h2)
  have n0 : ¬ bl = w.heap.size := by omega
  have n1 : ¬ bl + 1 = w.heap.size := by omega
  have n2 : ¬ bl + 2 = w.heap.size := by omega
  clear al
  have hta := iassert_yes (.agg #[.int .i64 (i : Int)])
  unfold impCh
  refine callsD_of_wpS Try.func60 rfl fun c₀ cs hu => ?_
  apply wpS_seq
  apply wpS_region
  simp [wpOpsS, go_sem, recoverD, hu, hta, Try.ntmps60, Exit.thenS]
  refine wpS_of_wp ?_
  simp only [Array.replicate_succ, Array.replicate_zero, List.push_toArray, List.append_toArray, List.nil_append, List.cons_append, List.setIfInBounds_toArray, List.set_cons_zero, List.set_cons_succ]
  go_wp2_with fail
  have c0 := x0 (.cells #[.int .i64 (i : Int)] 82)
  have c1 := x1 (.cells #[.int .i64 (i : Int)] 82)
  have c2 := x2 (.cells #[.int .i64 (i : Int)] 82)
  have f0 := y0 (.cells #[.int .i64 (i : Int)] 82)
  have f1 := y1 (.cells #[.int .i64 (i : Int)] 82)
  have f2 := y2 (.cells #[.int .i64 (i : Int)] 82)
  have c3 : (w.alloc (.cells #[.int .i64 (i : Int)] 82)).cell? ⟨w.heap.size, 0, none⟩ = some (.int .i64 (i : Int)) := by rw [cellOf (heap_alloc_new w _)]; rfl
  have HB : Hid (Below bl w (w.alloc (.cells #[.int .i64 (i : Int)] 82))) := Lib.hid ((Below.refl bl w).alloc (by omega) _)
  generalize w.alloc (.cells #[.int .i64 (i : Int)] 82) = W1 at *
  clear x0 x1 x2 y0 y1 y2 hta h0 h1 h2
  have HT := Lib.hid (three_set (.slice none 0 0) (.int .i64 (i : Int)) (.int .i64 71) c0 c1 c2)
  have HT2 := Lib.hid (three_set (w := W1.drew) (.slice none 0 0) (.int .i64 (i : Int)) (.int .i64 71) c0 c1 c2)
  go_region
  all_goals go_wp2_with fail
  all_goals
    simp [bodyPostS, results, Try.results60]
    first
      | exact ⟨HT2.out.1, HT2.out.2.1, HT2.out.2.2.1, HB.out.trans ((Below.refl _ W1).drew.trans HT2.out.2.2.2)⟩
      | exact ⟨HT.out.1, HT.out.2.1, HT.out.2.2.1, (HB.out.trans HT.out.2.2.2).drew⟩
set_option maxRecDepth 100000 in
theorem catchA_none (a0 a1 a2 : Value) (w : World) :
    CallsD Try.prog 60 #[a0, a1, a2] .returning w fun e u' w' => e = .returned (.tuple #[]) ∧ u' = .returning ∧ Below w.heap.size w w' := by
  have hta := iassert_nil
  refine callsD_of_wpS Try.func60 rfl fun c₀ cs hu => ?_
  apply wpS_seq
  apply wpS_region
  simp [wpOpsS, go_sem, recoverD, hu, hta, Try.ntmps60, Exit.thenS]
  refine wpS_of_wp ?_
  simp only [Array.replicate_succ, Array.replicate_zero, List.push_toArray, List.append_toArray, List.nil_append, List.cons_append, List.setIfInBounds_toArray, List.set_cons_zero, List.set_cons_succ]
  go_wp2_with fail
  simp [bodyPostS, results, Try.results60]
  exact ⟨.returning, by rw [← hu], rfl, (Below.refl _ w).alloc (Nat.le_refl _) _⟩
end Go.Proofs.Ytolopideimnbgaa
