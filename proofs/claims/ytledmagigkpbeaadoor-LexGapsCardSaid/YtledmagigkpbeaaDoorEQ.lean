/-
  Whether two lists of pieces are the same.
-/
import Derived.Test.YtledmagigkpbeaaDoorKN
namespace Go.Proofs.YtledmagigkpbeaaDoor
open Go.RowKit

def flatI (l : List (Int × Int × Int)) : List Value := l.flatMap fun x => [.int .i64 x.1, .int .i64 x.2.1, .int .i64 x.2.2]
theorem flatI_get (l : List (Int × Int × Int)) (k j : Nat) (x : Int × Int × Int) (hk : l[k]? = some x) (hj : j < 3) : (flatI l)[k * 3 + j]? = [Value.int .i64 x.1, .int .i64 x.2.1, .int .i64 x.2.2][j]? := by
  induction l generalizing k with
  | nil => simp at hk
  | cons y l ih =>
    have hc : flatI (y :: l) = [Value.int .i64 y.1, .int .i64 y.2.1, .int .i64 y.2.2] ++ flatI l := rfl
    have h3 : [Value.int .i64 y.1, .int .i64 y.2.1, .int .i64 y.2.2].length = 3 := rfl
    rw [hc]
    cases k with
    | zero =>
      simp at hk
      subst hk
      rw [List.getElem?_append_left (by omega)]
      simp
    | succ k =>
      rw [List.getElem?_append_right (by omega), h3, show (k + 1) * 3 + j - 3 = k * 3 + j by omega]
      exact ih k (by simpa using hk)
def intsP (l : List (Nat × Nat × Nat)) : List (Int × Int × Int) := l.map fun x => ((x.1 : Int), (x.2.1 : Int), (x.2.2 : Int))
theorem flatI_intsP (l : List (Nat × Nat × Nat)) : flatI (intsP l) = flatP l := by
  induction l with
  | nil => rfl
  | cons x l ih =>
    show [Value.int .i64 (x.1 : Int), .int .i64 (x.2.1 : Int), .int .i64 (x.2.2 : Int)] ++ flatI (intsP l) = cellsP x ++ flatP l
    rw [ih]; rfl
/-- Cells of a row of pieces of any numbers. -/
def IntsAt (w : World) (g : Nat) (l : List (Int × Int × Int)) : Prop := ∀ j u, (flatI l)[j]? = some u → w.cell? ⟨g, j, none⟩ = some u
theorem IntsAt.c0 {w : World} {g : Nat} {l : List (Int × Int × Int)} (h : IntsAt w g l) {k : Nat} {x : Int × Int × Int} (hx : l[k]? = some x) : w.cell? ⟨g, k * 3, none⟩ = some (.int .i64 x.1) :=
  h (k * 3 + 0) _ (by rw [flatI_get l k 0 x hx (by omega)]; rfl)
theorem IntsAt.c1 {w : World} {g : Nat} {l : List (Int × Int × Int)} (h : IntsAt w g l) {k : Nat} {x : Int × Int × Int} (hx : l[k]? = some x) : w.cell? ⟨g, k * 3 + 1, none⟩ = some (.int .i64 x.2.1) :=
  h (k * 3 + 1) _ (by rw [flatI_get l k 1 x hx (by omega)]; rfl)
theorem IntsAt.c2 {w : World} {g : Nat} {l : List (Int × Int × Int)} (h : IntsAt w g l) {k : Nat} {x : Int × Int × Int} (hx : l[k]? = some x) : w.cell? ⟨g, k * 3 + 2, none⟩ = some (.int .i64 x.2.2) :=
  h (k * 3 + 2) _ (by rw [flatI_get l k 2 x hx (by omega)]; rfl)

theorem run_neq_ints (x y : Int × Int × Int) (w : World) : (binOp .neq 33 (.agg #[.int .i64 x.1, .int .i64 x.2.1, .int .i64 x.2.2]) (.agg #[.int .i64 y.1, .int .i64 y.2.1, .int .i64 y.2.2])).run Tryd.prog w = .ok (.bool (!decide (x = y))) w := by
  rw [run_neq_struct, eq_pieceB]
  obtain ⟨x1, x2, x3⟩ := x
  obtain ⟨y1, y2, y3⟩ := y
  simp only [Result.andThen_ok, Prod.mk.injEq]
  congr 3
  by_cases h1 : x1 = y1 <;> by_cases h2 : x2 = y2 <;> by_cases h3 : x3 = y3 <;> simp [h1, h2, h3]
attribute [local go_sem 5000] run_neq_ints run_guard_piece

/-- Are they the same, as far as k? -/
theorem eq_of_all (l m : List (Int × Int × Int)) (hn : l.length = m.length) (h : ∀ k, k < l.length → l[k]? = m[k]?) : l = m := by
  apply List.ext_getElem? ; intro k
  by_cases hk : k < l.length
  · exact h k hk
  · rw [List.getElem?_eq_none (by omega), List.getElem?_eq_none (by omega)]

set_option maxHeartbeats 4000000 in
set_option maxRecDepth 100000 in
theorem equal_some (g h cl cm : Nat) (l m : List (Int × Int × Int)) (hlen : l.length = m.length) (hml : m.length ≤ 1048576) (w : World) (hg : g < w.heap.size) (hh : h < w.heap.size) (L : IntsAt w g l) (M : IntsAt w h m) :
    Calls Tryd.prog 34 #[.slice (some ⟨g, 0, none⟩) l.length cl, .slice (some ⟨h, 0, none⟩) m.length cm] w fun e w' => e = .returned (.bool (decide (l = m))) ∧ Below w.heap.size w w' := by
  have HM : Hid (m.length = l.length) := Lib.hid hlen.symm
  go_enter Tryd.func34, Tryd.ntmps34
  go_wp2_with fail
  go_loopw [13] (fun i wr => ∃ k : Nat, k ≤ m.length ∧ i = .int .i64 k ∧ Hid (∀ j, j < k → l[j]? = m[j]?) ∧ Hid (Below w.heap.size w wr)) (fun i _ => m.length - (intOf i).toNat)
  case atStart => exact ⟨0, by omega, rfl, Lib.hid (fun j hj => by omega), Lib.hid (Below.refl _ _)⟩
  case round =>
    obtain ⟨k, hk, rfl, ha, hbe⟩ := hrel
    by_cases hlt : k < m.length
    · obtain ⟨x, hx⟩ : ∃ x, l[k]? = some x := ⟨_, List.getElem?_eq_getElem (by omega)⟩
      obtain ⟨y, hy⟩ : ∃ y, m[k]? = some y := ⟨_, List.getElem?_eq_getElem (by omega)⟩
      have l0 : wr.cell? ⟨g, k * 3, none⟩ = some (.int .i64 x.1) := (hbe.out.cell (p := ⟨g, k * 3, none⟩) hg).trans (L.c0 hx)
      have l1 : wr.cell? ⟨g, k * 3 + 1, none⟩ = some (.int .i64 x.2.1) := (hbe.out.cell (p := ⟨g, k * 3 + 1, none⟩) hg).trans (L.c1 hx)
      have l2 : wr.cell? ⟨g, k * 3 + 2, none⟩ = some (.int .i64 x.2.2) := (hbe.out.cell (p := ⟨g, k * 3 + 2, none⟩) hg).trans (L.c2 hx)
      have m0 : wr.cell? ⟨h, k * 3, none⟩ = some (.int .i64 y.1) := (hbe.out.cell (p := ⟨h, k * 3, none⟩) hh).trans (M.c0 hy)
      have m1 : wr.cell? ⟨h, k * 3 + 1, none⟩ = some (.int .i64 y.2.1) := (hbe.out.cell (p := ⟨h, k * 3 + 1, none⟩) hh).trans (M.c1 hy)
      have m2 : wr.cell? ⟨h, k * 3 + 2, none⟩ = some (.int .i64 y.2.2) := (hbe.out.cell (p := ⟨h, k * 3 + 2, none⟩) hh).trans (M.c2 hy)
      have h1 : (k : Int) < (m.length : Int) := by omega
      have h2 : (k : Int) < (l.length : Int) := by omega
      have hw : IntKind.i64.wrap ((k : Int) + 1) = (k : Int) + 1 := IntWalk.i64_in _ (by omega)
      have HXY : Hid (l[k]? = some x ∧ m[k]? = some y) := Lib.hid ⟨hx, hy⟩
      clear hx hy
      go_wp2_with fail
      go_region_held3 (fun w' => w'.cell? ⟨g, k * 3, none⟩ = some (.int .i64 x.1) ∧ w'.cell? ⟨g, k * 3 + 1, none⟩ = some (.int .i64 x.2.1) ∧ w'.cell? ⟨g, k * 3 + 2, none⟩ = some (.int .i64 x.2.2) ∧ w'.cell? ⟨h, k * 3, none⟩ = some (.int .i64 y.1) ∧ w'.cell? ⟨h, k * 3 + 1, none⟩ = some (.int .i64 y.2.1) ∧ w'.cell? ⟨h, k * 3 + 2, none⟩ = some (.int .i64 y.2.2)) (go_keep) (fail)
      by_cases hxy : x = y
      · have hd : decide (x = y) = true := by simp [hxy]
        have HE := Lib.hid hxy
        clear hxy
        simp only [hd]
        go_wp2_with fail
        refine ⟨⟨k + 1, hlt, by simp, Lib.hid (fun j hj => ?_), Lib.hid hbe.out.drew⟩, by simp only [intOf]; omega⟩
        by_cases hjk : j = k
        · subst hjk; rw [HXY.out.1, HXY.out.2, HE.out]
        · exact ha.out j (by omega)
      · have hd : decide (x = y) = false := by simp [hxy]
        have HE : Hid (¬ l = m) := Lib.hid (fun e => hxy (by have := HXY.out.1; rw [e, HXY.out.2] at this; injection this with this; exact this.symm))
        clear hxy
        simp only [hd]
        go_wp2_with fail
        refine bodyPost_ret (v := .bool false) ?_ rfl ⟨by rw [decide_eq_false HE.out], hbe.out.drew⟩
        simp [results, Tryd.results34, go_sem]
    · have hkl : k = m.length := by omega
      have HE : Hid (l = m) := Lib.hid (eq_of_all l m hlen (fun j hj => ha.out j (by omega)))
      subst hkl
      go_wp2_with fail
      refine bodyPost_ret (v := .bool true) ?_ rfl ⟨by rw [decide_eq_true HE.out], hbe.out⟩
      simp [results, Tryd.results34, go_sem]
theorem equal_len (b1 b2 : Option Addr) (n1 c1 n2 c2 : Nat) (hne : n1 ≠ n2) (w : World) :
    Calls Tryd.prog 34 #[.slice b1 n1 c1, .slice b2 n2 c2] w fun e w' => e = .returned (.bool false) ∧ Below w.heap.size w w' := by
  have hne' : ((n1 : Int) != (n2 : Int)) = true := by rw [bne_iff_ne]; omega
  go_enter Tryd.func34, Tryd.ntmps34
  go_wp2_with fail
  refine bodyPost_ret (v := .bool false) ?_ rfl ⟨rfl, Below.refl _ _⟩
  simp [results, Tryd.results34, go_sem]
theorem equal_none (b1 b2 : Option Addr) (c1 c2 : Nat) (w : World) :
    Calls Tryd.prog 34 #[.slice b1 0 c1, .slice b2 0 c2] w fun e w' => e = .returned (.bool true) ∧ Below w.heap.size w w' := by
  go_enter Tryd.func34, Tryd.ntmps34
  go_wp2_with fail
  go_loopw [13] (fun i wr => i = .int .i64 0 ∧ wr = w) (fun _ _ => 0)
  case atStart => exact ⟨rfl, rfl⟩
  case round =>
    obtain ⟨rfl, rfl⟩ := hrel
    go_wp2_with fail
    refine bodyPost_ret (v := .bool true) ?_ rfl ⟨rfl, Below.refl _ _⟩
    simp [results, Tryd.results34, go_sem]
end Go.Proofs.YtledmagigkpbeaaDoor
