/-
  The tokens of a text.
-/
import Derived.Test.YtledmagigkpbeaaDoorP
import Derived.Test.YtledmagigkpbeaaDoorL
import Derived.Deep.RegionHeld3
namespace Go.Proofs.YtledmagigkpbeaaDoor
open Go.RowKit

/-- A token's number. -/
def numT (t : ByteArray) (x : Nat × Nat × Nat) : Int := if x.1 = 2 then (valO (cutB t x.2.1 x.2.2)).getD 0 else 0
def cellsT (t : ByteArray) (x : Nat × Nat × Nat) : List Value := [.int .i64 (x.1 : Int), .int .i64 (numT t x), .string (cutB t x.2.1 x.2.2), .int .i64 (x.2.1 : Int), .int .i64 0]
def flatT (t : ByteArray) (l : List (Nat × Nat × Nat)) : List Value := l.flatMap (cellsT t)

theorem two_firstB (w : World) (cs : Array Value) (tt : TypeId) (o : Obj) (b j : Nat) (v : Value) (h : b = w.heap.size) (hv : cs[j]? = some v) : ((w.alloc (.cells cs tt)).alloc o).cell? ⟨b, j, none⟩ = some v := by
  subst h; exact two_first w cs tt o j v hv
theorem two_frozenB (w : World) (cs : Array Value) (tt : TypeId) (o : Obj) (b j : Nat) (h : b = w.heap.size) : ((w.alloc (.cells cs tt)).alloc o).frozen? ⟨b, j, none⟩ = false := by
  subst h; exact two_frozen w cs tt o j
theorem new_frozen (w : World) (cs : Array Value) (tt : TypeId) (b j : Nat) (h : b = w.heap.size) : (w.alloc (.cells cs tt)).frozen? ⟨b, j, none⟩ = false := by
  subst h; simp

set_option maxHeartbeats 4000000 in
set_option maxRecDepth 100000 in
theorem token_any (t : ByteArray) (k a l : Nat) (hl : a + l ≤ t.size) (ht : t.size ≤ 1048576) (w : World) (E : Env w) :
    Calls Tryd.prog 33 #[.string t, .agg #[.int .i64 (k : Int), .int .i64 (a : Int), .int .i64 (l : Int)]] w fun e w' =>
      e = .returned (.agg #[.int .i64 (k : Int), .int .i64 (numT t (k, a, l)), .string (cutB t a l), .int .i64 (a : Int), .int .i64 0]) ∧ Below w.heap.size w w' := by
  have hw : IntKind.i64.wrap ((a : Int) + (l : Int)) = (a : Int) + (l : Int) := IntWalk.i64_in _ (by omega)
  have h3 : (a : Int) ≤ (a : Int) + (l : Int) := by omega
  have h4 : (a : Int) + (l : Int) ≤ (t.size : Int) := by omega
  have ht2 : ((a : Int) + (l : Int)).toNat = a + l := by omega
  have hv := fun W (hB : Below w.heap.size w W) => value_any (t.extract a (a + l)) (by simp; omega) W (E.below E.size hB)
  have HV := Lib.hid hv
  clear hv E
  by_cases hk : k = 2
  · have hN : Hid (numT t (k, a, l) = (valO (t.extract a (a + l))).getD 0) := Lib.hid (by simp [numT, hk, cutB])
    have hk' : ((k : Int) == 2) = true := by rw [hk]; rfl
    clear hk
    go_enter Tryd.func33, Tryd.ntmps33
    go_wp2_with fail
    go_region_held3 (fun w' => w'.cell? ⟨w.heap.size, 0, none⟩ = some (.int .i64 (k : Int)) ∧ w'.cell? ⟨w.heap.size, 1, none⟩ = some (.int .i64 (a : Int)) ∧ w'.cell? ⟨w.heap.size, 2, none⟩ = some (.int .i64 (l : Int))) (go_keep) (fail)
    all_goals go_wp2_with fail
    have hA : ∀ o1 o2 o3, Below w.heap.size w (((w.alloc o1).alloc o2).alloc o3).drew := fun o1 o2 o3 => ((((Below.refl _ w).alloc (Nat.le_refl _) o1).alloc (by simp) o2).alloc (by simp <;> omega) o3).drew
    refine (HV.out _ (hA _ _ _)).mono ?_
    rintro e w3 ⟨rfl, hb⟩
    have HB := Lib.hid ((hA _ _ _).trans (hb.mono (by simp <;> omega)))
    have g2 := fun (j : Nat) => hb.cell (p := ⟨w.heap.size + 1 + 1, j, none⟩) (by simp)
    have g1 := fun (j : Nat) => hb.cell (p := ⟨w.heap.size + 1, j, none⟩) (by simp <;> omega)
    have g2f := fun (j : Nat) => hb.frozen (p := ⟨w.heap.size + 1 + 1, j, none⟩) (by simp)
    have g1f := fun (j : Nat) => hb.frozen (p := ⟨w.heap.size + 1, j, none⟩) (by simp <;> omega)
    have a0 : w3.cell? ⟨w.heap.size + 1 + 1, 0, none⟩ = some (.int .i64 (k : Int)) := (g2 0).trans (new_cell _ _ _ _ _ _ (by simp) rfl)
    have a1 : w3.cell? ⟨w.heap.size + 1 + 1, 1, none⟩ = some (.int .i64 0) := (g2 1).trans (new_cell _ _ _ _ _ _ (by simp) rfl)
    have a2 : w3.cell? ⟨w.heap.size + 1 + 1, 2, none⟩ = some (.string (t.extract a (a + l))) := (g2 2).trans (new_cell _ _ _ _ _ _ (by simp) rfl)
    have a3 : w3.cell? ⟨w.heap.size + 1 + 1, 3, none⟩ = some (.int .i64 (a : Int)) := (g2 3).trans (new_cell _ _ _ _ _ _ (by simp) rfl)
    have a4 : w3.cell? ⟨w.heap.size + 1 + 1, 4, none⟩ = some (.int .i64 0) := (g2 4).trans (new_cell _ _ _ _ _ _ (by simp) rfl)
    have b0 : w3.cell? ⟨w.heap.size + 1, 0, none⟩ = some (.int .i64 0) := (g1 0).trans (two_firstB _ _ _ _ _ _ _ (by simp) rfl)
    have b1 : w3.cell? ⟨w.heap.size + 1, 1, none⟩ = some (.int .i64 0) := (g1 1).trans (two_firstB _ _ _ _ _ _ _ (by simp) rfl)
    have b2 : w3.cell? ⟨w.heap.size + 1, 2, none⟩ = some (.string ⟨#[]⟩) := (g1 2).trans (two_firstB _ _ _ _ _ _ _ (by simp) rfl)
    have b3 : w3.cell? ⟨w.heap.size + 1, 3, none⟩ = some (.int .i64 0) := (g1 3).trans (two_firstB _ _ _ _ _ _ _ (by simp) rfl)
    have b4 : w3.cell? ⟨w.heap.size + 1, 4, none⟩ = some (.int .i64 0) := (g1 4).trans (two_firstB _ _ _ _ _ _ _ (by simp) rfl)
    have fa : ∀ j, w3.frozen? ⟨w.heap.size + 1 + 1, j, none⟩ = false := fun j => (g2f j).trans (new_frozen _ _ _ _ _ (by simp))
    have fb : ∀ j, w3.frozen? ⟨w.heap.size + 1, j, none⟩ = false := fun j => (g1f j).trans (two_frozenB _ _ _ _ _ _ (by simp))
    clear g1 g2 g1f g2f hb hA
    go_wp2_with fail
    refine bodyPost_ret (v := .agg #[.int .i64 (k : Int), .int .i64 ((valO (t.extract a (a + l))).getD 0), .string (t.extract a (a + l)), .int .i64 (a : Int), .int .i64 0]) ?_ rfl ⟨by rw [hN.out]; rfl, ?_⟩
    · simp [results, Tryd.results33, go_sem, b0, b1, b2, b3, b4]
    · repeat (first | exact HB.out | refine Below.setCell ?_ (by simp <;> omega) _)
  · have hN : Hid (numT t (k, a, l) = 0) := Lib.hid (by simp [numT, hk])
    have hk' : ((k : Int) == 2) = false := by rw [beq_eq_false_iff_ne]; omega
    clear hk
    go_enter Tryd.func33, Tryd.ntmps33
    go_wp2_with fail
    go_region_held3 (fun w' => w'.cell? ⟨w.heap.size, 0, none⟩ = some (.int .i64 (k : Int)) ∧ w'.cell? ⟨w.heap.size, 1, none⟩ = some (.int .i64 (a : Int)) ∧ w'.cell? ⟨w.heap.size, 2, none⟩ = some (.int .i64 (l : Int))) (go_keep) (fail)
    all_goals go_wp2_with fail
    refine bodyPost_ret (v := .agg #[.int .i64 (k : Int), .int .i64 0, .string (t.extract a (a + l)), .int .i64 (a : Int), .int .i64 0]) ?_ rfl ⟨by rw [hN.out]; rfl, ?_⟩
    · simp [results, Tryd.results33, go_sem]
    · have hA : ∀ o1 o2 o3, Below w.heap.size w (((w.alloc o1).alloc o2).alloc o3).drew := fun o1 o2 o3 => ((((Below.refl _ w).alloc (Nat.le_refl _) o1).alloc (by simp) o2).alloc (by simp <;> omega) o3).drew
      repeat (first | exact hA _ _ _ | refine Below.setCell ?_ (by simp <;> omega) _)
end Go.Proofs.YtledmagigkpbeaaDoor
