/-
  The list of the rules, and the longest token at the cursor.
-/
import Derived.Test.YtledmagigkpbeaaDoorR3
import Derived.Laws.EntriesVeiled
namespace Go.Proofs.YtledmagigkpbeaaDoor
open Go.RowKit

/-- The list of the rules: a kind and a function each. -/
def rulesV : Value := .agg #[.int .i64 1, .func (.func 78) #[] #[], .int .i64 2, .func (.func 79) #[] #[], .int .i64 3, .func (.func 80) #[] #[], .int .i64 4, .func (.func 81) #[] #[], .int .i64 5, .func (.func 82) #[] #[], .int .i64 6, .func (.func 83) #[] #[]]
theorem rules_any (w : World) :
    Calls Tryd.prog 61 #[] w fun e w' => e = .returned rulesV ∧ Below w.heap.size w w' := by
  go_enter Tryd.func61, Tryd.ntmps61
  go_wp2
  refine bodyPost_ret (v := rulesV) ?_ rfl ⟨rfl, (Below.refl _ _).alloc (Nat.le_refl _) _⟩
  simp [results, Tryd.results61, go_sem, rulesV]
theorem ruleAt0 (w : World) : (Instr.index 96 rulesV (.int .i64 0)).run Tryd.prog w = .ok (.agg #[.int .i64 1, .func (.func 78) #[] #[]]) w := by kernel_rfl
theorem ruleAt1 (w : World) : (Instr.index 96 rulesV (.int .i64 1)).run Tryd.prog w = .ok (.agg #[.int .i64 2, .func (.func 79) #[] #[]]) w := by kernel_rfl
theorem ruleAt2 (w : World) : (Instr.index 96 rulesV (.int .i64 2)).run Tryd.prog w = .ok (.agg #[.int .i64 3, .func (.func 80) #[] #[]]) w := by kernel_rfl
theorem ruleAt3 (w : World) : (Instr.index 96 rulesV (.int .i64 3)).run Tryd.prog w = .ok (.agg #[.int .i64 4, .func (.func 81) #[] #[]]) w := by kernel_rfl
theorem ruleAt4 (w : World) : (Instr.index 96 rulesV (.int .i64 4)).run Tryd.prog w = .ok (.agg #[.int .i64 5, .func (.func 82) #[] #[]]) w := by kernel_rfl
theorem ruleAt5 (w : World) : (Instr.index 96 rulesV (.int .i64 5)).run Tryd.prog w = .ok (.agg #[.int .i64 6, .func (.func 83) #[] #[]]) w := by kernel_rfl

/-- A cutter's cells. -/
structure IsCut (b i : Nat) (t : ByteArray) (op : Bool) (n : Nat) (w : World) : Prop where
  text : w.cell? ⟨b, 0, none⟩ = some (.string t)
  at' : w.cell? ⟨b, 1, none⟩ = some (.int .i64 (i : Int))
  op : w.cell? ⟨b, 2, none⟩ = some (.bool op)
  tok : w.cell? ⟨b, 3, none⟩ = some (.int .i64 (n : Int))
theorem IsCut.below {b i n : Nat} {t : ByteArray} {op : Bool} {w w' : World} {B : Nat} (h : IsCut b i t op n w) (hb : b < B) (hB : Below B w w') : IsCut b i t op n w' :=
  ⟨(hB.cell (p := ⟨b, 0, none⟩) hb).trans h.text, (hB.cell (p := ⟨b, 1, none⟩) hb).trans h.at', (hB.cell (p := ⟨b, 2, none⟩) hb).trans h.op, (hB.cell (p := ⟨b, 3, none⟩) hb).trans h.tok⟩

theorem ruleCall0 (b i n : Nat) (t : ByteArray) (op : Bool) (W : World) (_hb : b < W.heap.size) (hi : i < t.size) (_ht : t.size ≤ 1048576) (h : IsCut b i t op n W) :
    Calls Tryd.prog 78 #[.pointer (some ⟨b, 0, none⟩)] W fun e w' => e = .returned (.int .i64 (ruleN t i op 0 : Int)) ∧ Below W.heap.size W w' :=
  name_any b i t W (by omega) (by omega) h.text h.at'
theorem ruleCall1 (b i n : Nat) (t : ByteArray) (op : Bool) (W : World) (_hb : b < W.heap.size) (hi : i < t.size) (_ht : t.size ≤ 1048576) (h : IsCut b i t op n W) :
    Calls Tryd.prog 79 #[.pointer (some ⟨b, 0, none⟩)] W fun e w' => e = .returned (.int .i64 (ruleN t i op 1 : Int)) ∧ Below W.heap.size W w' :=
  integer_any b i op t W hi (by omega) h.text h.at' h.op
theorem ruleCall2 (b i n : Nat) (t : ByteArray) (op : Bool) (W : World) (_hb : b < W.heap.size) (hi : i < t.size) (_ht : t.size ≤ 1048576) (h : IsCut b i t op n W) :
    Calls Tryd.prog 80 #[.pointer (some ⟨b, 0, none⟩)] W fun e w' => e = .returned (.int .i64 (ruleN t i op 2 : Int)) ∧ Below W.heap.size W w' :=
  keyword_any b i t W _hb hi _ht h.text h.at'
theorem ruleCall3 (b i n : Nat) (t : ByteArray) (op : Bool) (W : World) (_hb : b < W.heap.size) (hi : i < t.size) (_ht : t.size ≤ 1048576) (h : IsCut b i t op n W) :
    Calls Tryd.prog 81 #[.pointer (some ⟨b, 0, none⟩)] W fun e w' => e = .returned (.int .i64 (ruleN t i op 3 : Int)) ∧ Below W.heap.size W w' :=
  ((hash_q b i t W (by omega) h.text h.at').mono fun _ _ ⟨he, q, hw⟩ => ⟨he, hw ▸ below_drewN (Below.refl _ _) q⟩)
theorem ruleCall4 (b i n : Nat) (t : ByteArray) (op : Bool) (W : World) (_hb : b < W.heap.size) (hi : i < t.size) (_ht : t.size ≤ 1048576) (h : IsCut b i t op n W) :
    Calls Tryd.prog 82 #[.pointer (some ⟨b, 0, none⟩)] W fun e w' => e = .returned (.int .i64 (ruleN t i op 4 : Int)) ∧ Below W.heap.size W w' :=
  sign_any b i t W hi _ht h.text h.at'
theorem ruleCall5 (b i n : Nat) (t : ByteArray) (op : Bool) (W : World) (_hb : b < W.heap.size) (hi : i < t.size) (_ht : t.size ≤ 1048576) (h : IsCut b i t op n W) :
    Calls Tryd.prog 83 #[.pointer (some ⟨b, 0, none⟩)] W fun e w' => e = .returned (.int .i64 (ruleN t i op 5 : Int)) ∧ Below W.heap.size W w' :=
  pattern_any b i t W _hb hi _ht h.text h.at'

structure LongRel (w : World) (i : Nat) (n : Nat → Nat) (k : Nat) (wr : World) : Prop where
  c0 : wr.cell? ⟨w.heap.size + 1, 0, none⟩ = some (.int .i64 ((bestTo n k).1 : Int))
  c1 : wr.cell? ⟨w.heap.size + 1, 1, none⟩ = some (.int .i64 (i : Int))
  c2 : wr.cell? ⟨w.heap.size + 1, 2, none⟩ = some (.int .i64 ((bestTo n k).2 : Int))
  r0 : wr.cell? ⟨w.heap.size, 0, none⟩ = some (.int .i64 0)
  r1 : wr.cell? ⟨w.heap.size, 1, none⟩ = some (.int .i64 0)
  r2 : wr.cell? ⟨w.heap.size, 2, none⟩ = some (.int .i64 0)
  f : ∀ o, wr.frozen? ⟨w.heap.size + 1, o, none⟩ = false
  g : ∀ o, wr.frozen? ⟨w.heap.size, o, none⟩ = false
  below : Below w.heap.size w wr
  size : w.heap.size + 1 < wr.heap.size
theorem LongRel.later {w : World} {i k : Nat} {n : Nat → Nat} {wr w' : World} (h : LongRel w i n k wr) (hb : Below wr.heap.size wr w') : LongRel w i n k w' :=
  have s := h.size
  have s2 := hb.size
  ⟨(hb.cell (p := ⟨_, 0, none⟩) h.size).trans h.c0, (hb.cell (p := ⟨_, 1, none⟩) h.size).trans h.c1, (hb.cell (p := ⟨_, 2, none⟩) h.size).trans h.c2,
   (hb.cell (p := ⟨_, 0, none⟩) (by simp; omega)).trans h.r0, (hb.cell (p := ⟨_, 1, none⟩) (by simp; omega)).trans h.r1, (hb.cell (p := ⟨_, 2, none⟩) (by simp; omega)).trans h.r2,
   fun o => (hb.frozen (p := ⟨_, o, none⟩) h.size).trans (h.f o), fun o => (hb.frozen (p := ⟨_, o, none⟩) (by simp; omega)).trans (h.g o),
   h.below.trans (hb.mono (by omega)), by omega⟩

theorem LongRel.keep {w : World} {i k : Nat} {n : Nat → Nat} {wr : World} (h : LongRel w i n k wr) (hk : ¬ (bestTo n k).2 < n k) : LongRel w i n (k + 1) wr := by
  have e : bestTo n (k + 1) = bestTo n k := by rw [bestTo, if_neg hk]
  exact ⟨by rw [e]; exact h.c0, h.c1, by rw [e]; exact h.c2, h.r0, h.r1, h.r2, h.f, h.g, h.below, h.size⟩
theorem LongRel.take {w : World} {i k : Nat} {n : Nat → Nat} {wr : World} (h : LongRel w i n k wr) (hk : (bestTo n k).2 < n k) :
    LongRel w i n (k + 1) ((wr.setCell ⟨w.heap.size + 1, 0, none⟩ (.int .i64 ((k + 1 : Nat) : Int))).setCell ⟨w.heap.size + 1, 2, none⟩ (.int .i64 (n k : Int))) := by
  have e : bestTo n (k + 1) = (k + 1, n k) := by rw [bestTo, if_pos hk]
  refine ⟨?_, ?_, ?_, ?_, ?_, ?_, ?_, ?_, ?_, ?_⟩
  · rw [e, World.cell?_setCell_other _ _ _ _ (by simp)]; exact World.cell?_setCell_same' _ _ _ (by rw [h.c0]; rfl)
  · rw [World.cell?_setCell_other _ _ _ _ (by simp), World.cell?_setCell_other _ _ _ _ (by simp)]; exact h.c1
  · rw [e]; exact World.cell?_setCell_same' _ _ _ (by rw [World.cell?_setCell_other _ _ _ _ (by simp), h.c2]; rfl)
  · rw [World.cell?_setCell_other _ _ _ _ (by simp), World.cell?_setCell_other _ _ _ _ (by simp)]; exact h.r0
  · rw [World.cell?_setCell_other _ _ _ _ (by simp), World.cell?_setCell_other _ _ _ _ (by simp)]; exact h.r1
  · rw [World.cell?_setCell_other _ _ _ _ (by simp), World.cell?_setCell_other _ _ _ _ (by simp)]; exact h.r2
  · intro o; rw [World.frozen?_setCell, World.frozen?_setCell]; exact h.f o
  · intro o; rw [World.frozen?_setCell, World.frozen?_setCell]; exact h.g o
  · exact (h.below.setCell (p := ⟨w.heap.size + 1, 0, none⟩) (by simp) _).setCell (p := ⟨w.heap.size + 1, 2, none⟩) (by simp) _
  · simpa using h.size

set_option maxHeartbeats 8000000 in
set_option maxRecDepth 100000 in
theorem longest_any (b i n : Nat) (t : ByteArray) (op : Bool) (w : World) (hb0 : b < w.heap.size) (hi : i < t.size) (ht : t.size ≤ 1048576) (h : IsCut b i t op n w) :
    Calls Tryd.prog 48 #[.pointer (some ⟨b, 0, none⟩)] w fun e w' => e = .returned (.agg #[.int .i64 ((bestTo (ruleN t i op) 6).1 : Int), .int .i64 (i : Int), .int .i64 ((bestTo (ruleN t i op) 6).2 : Int)]) ∧ Below w.heap.size w w' := by
  have hat : ∀ o, (w.alloc o).cell? ⟨b, 1, none⟩ = some (.int .i64 (i : Int)) := fun o => (((Below.refl _ w).alloc (Nat.le_refl _) o).cell (p := ⟨b, 1, none⟩) hb0).trans h.at'
  have H := Lib.hid h; clear h
  go_enter Tryd.func48, Tryd.ntmps48
  go_wp2_with (go_at_call 61; refine (rules_any _).mono ?_; rintro e w1 ⟨rfl, hb1⟩)
  have hL0 : LongRel w i (ruleN t i op) 0 w1 := by
    have hBB : Below w.heap.size w w1 := (((Below.refl _ w).alloc (Nat.le_refl _) _).alloc (by simp) _).trans (hb1.mono (by simp; omega))
    have s1 := hb1.size
    simp only [World.size_alloc] at s1
    exact ⟨(hb1.cell (p := ⟨_, 0, none⟩) (by simp)).trans (by simp [bestTo]), (hb1.cell (p := ⟨_, 1, none⟩) (by simp)).trans (by simp), (hb1.cell (p := ⟨_, 2, none⟩) (by simp)).trans (by simp [bestTo]),
      (hb1.cell (p := ⟨_, 0, none⟩) (by simp; omega)).trans (by simp), (hb1.cell (p := ⟨_, 1, none⟩) (by simp; omega)).trans (by simp), (hb1.cell (p := ⟨_, 2, none⟩) (by simp; omega)).trans (by simp),
      fun o => (hb1.frozen (p := ⟨_, o, none⟩) (by simp)).trans (by simp), fun o => (hb1.frozen (p := ⟨_, o, none⟩) (by simp; omega)).trans (by simp), hBB, by omega⟩
  clear hat hb1
  have HL := Lib.hid hL0; clear hL0
  go_loopw [14] (fun i' wr => ∃ k : Nat, k ≤ 6 ∧ i' = .int .i64 k ∧ Hid (LongRel w i (ruleN t i op) k wr)) (fun i' _ => 6 - (intOf i').toNat)
  case atStart => exact ⟨0, by omega, rfl, HL⟩
  case round =>
    obtain ⟨k, hk, rfl, hr⟩ := hrel
    have hcs : k = 0 ∨ k = 1 ∨ k = 2 ∨ k = 3 ∨ k = 4 ∨ k = 5 ∨ k = 6 := by omega
    rcases hcs with rfl | rfl | rfl | rfl | rfl | rfl | rfl
    · have hBa : Below w.heap.size w (wr.alloc (.cells #[.int .i64 1, .func (.func 78) #[] #[]] 95)) := hr.out.below.alloc (by have := hr.out.size; omega) _
      have hcall := ruleCall0 b i n t op (wr.alloc (.cells #[.int .i64 1, .func (.func 78) #[] #[]] 95)) (by have := hr.out.size; simp; omega) hi ht (H.out.below hb0 hBa)
      have hx := ruleAt0
      have HC := Lib.hid hcall; clear hcall hBa
      by_cases hlt : (bestTo (ruleN t i op) 0).2 < ruleN t i op 0
      all_goals
        go_wp2_with fail
        refine HC.out.mono ?_
        rintro e w2 ⟨rfl, hb2⟩
        clear hx HC
        have hBB : Below wr.heap.size wr w2 := ((Below.refl _ wr).alloc (Nat.le_refl _) _).trans (hb2.mono (by simp))
        have d := hr.out.later hBB
        have k0 : w2.cell? ⟨wr.heap.size, 0, none⟩ = some (.int .i64 1) := (hb2.cell (p := ⟨_, 0, none⟩) (by simp)).trans (by simp)
        have e0 := d.c0; have e2 := d.c2; have e6 := d.f
        have D := Lib.hid d
        clear d hb2 hBB
        go_wp2_with fail
        go_roundw
        case rel => exact ⟨1, by omega, by go_num, Lib.hid (by first | exact D.out.take hlt | exact D.out.keep hlt)⟩
        case measure => simp [intOf]
    · have hBa : Below w.heap.size w (wr.alloc (.cells #[.int .i64 2, .func (.func 79) #[] #[]] 95)) := hr.out.below.alloc (by have := hr.out.size; omega) _
      have hcall := ruleCall1 b i n t op (wr.alloc (.cells #[.int .i64 2, .func (.func 79) #[] #[]] 95)) (by have := hr.out.size; simp; omega) hi ht (H.out.below hb0 hBa)
      have hx := ruleAt1
      have HC := Lib.hid hcall; clear hcall hBa
      by_cases hlt : (bestTo (ruleN t i op) 1).2 < ruleN t i op 1
      all_goals
        go_wp2_with fail
        refine HC.out.mono ?_
        rintro e w2 ⟨rfl, hb2⟩
        clear hx HC
        have hBB : Below wr.heap.size wr w2 := ((Below.refl _ wr).alloc (Nat.le_refl _) _).trans (hb2.mono (by simp))
        have d := hr.out.later hBB
        have k0 : w2.cell? ⟨wr.heap.size, 0, none⟩ = some (.int .i64 2) := (hb2.cell (p := ⟨_, 0, none⟩) (by simp)).trans (by simp)
        have e0 := d.c0; have e2 := d.c2; have e6 := d.f
        have D := Lib.hid d
        clear d hb2 hBB
        go_wp2_with fail
        go_roundw
        case rel => exact ⟨2, by omega, by go_num, Lib.hid (by first | exact D.out.take hlt | exact D.out.keep hlt)⟩
        case measure => simp [intOf]
    · have hBa : Below w.heap.size w (wr.alloc (.cells #[.int .i64 3, .func (.func 80) #[] #[]] 95)) := hr.out.below.alloc (by have := hr.out.size; omega) _
      have hcall := ruleCall2 b i n t op (wr.alloc (.cells #[.int .i64 3, .func (.func 80) #[] #[]] 95)) (by have := hr.out.size; simp; omega) hi ht (H.out.below hb0 hBa)
      have hx := ruleAt2
      have HC := Lib.hid hcall; clear hcall hBa
      by_cases hlt : (bestTo (ruleN t i op) 2).2 < ruleN t i op 2
      all_goals
        go_wp2_with fail
        refine HC.out.mono ?_
        rintro e w2 ⟨rfl, hb2⟩
        clear hx HC
        have hBB : Below wr.heap.size wr w2 := ((Below.refl _ wr).alloc (Nat.le_refl _) _).trans (hb2.mono (by simp))
        have d := hr.out.later hBB
        have k0 : w2.cell? ⟨wr.heap.size, 0, none⟩ = some (.int .i64 3) := (hb2.cell (p := ⟨_, 0, none⟩) (by simp)).trans (by simp)
        have e0 := d.c0; have e2 := d.c2; have e6 := d.f
        have D := Lib.hid d
        clear d hb2 hBB
        go_wp2_with fail
        go_roundw
        case rel => exact ⟨3, by omega, by go_num, Lib.hid (by first | exact D.out.take hlt | exact D.out.keep hlt)⟩
        case measure => simp [intOf]
    · have hBa : Below w.heap.size w (wr.alloc (.cells #[.int .i64 4, .func (.func 81) #[] #[]] 95)) := hr.out.below.alloc (by have := hr.out.size; omega) _
      have hcall := ruleCall3 b i n t op (wr.alloc (.cells #[.int .i64 4, .func (.func 81) #[] #[]] 95)) (by have := hr.out.size; simp; omega) hi ht (H.out.below hb0 hBa)
      have hx := ruleAt3
      have HC := Lib.hid hcall; clear hcall hBa
      by_cases hlt : (bestTo (ruleN t i op) 3).2 < ruleN t i op 3
      all_goals
        go_wp2_with fail
        refine HC.out.mono ?_
        rintro e w2 ⟨rfl, hb2⟩
        clear hx HC
        have hBB : Below wr.heap.size wr w2 := ((Below.refl _ wr).alloc (Nat.le_refl _) _).trans (hb2.mono (by simp))
        have d := hr.out.later hBB
        have k0 : w2.cell? ⟨wr.heap.size, 0, none⟩ = some (.int .i64 4) := (hb2.cell (p := ⟨_, 0, none⟩) (by simp)).trans (by simp)
        have e0 := d.c0; have e2 := d.c2; have e6 := d.f
        have D := Lib.hid d
        clear d hb2 hBB
        go_wp2_with fail
        go_roundw
        case rel => exact ⟨4, by omega, by go_num, Lib.hid (by first | exact D.out.take hlt | exact D.out.keep hlt)⟩
        case measure => simp [intOf]
    · have hBa : Below w.heap.size w (wr.alloc (.cells #[.int .i64 5, .func (.func 82) #[] #[]] 95)) := hr.out.below.alloc (by have := hr.out.size; omega) _
      have hcall := ruleCall4 b i n t op (wr.alloc (.cells #[.int .i64 5, .func (.func 82) #[] #[]] 95)) (by have := hr.out.size; simp; omega) hi ht (H.out.below hb0 hBa)
      have hx := ruleAt4
      have HC := Lib.hid hcall; clear hcall hBa
      by_cases hlt : (bestTo (ruleN t i op) 4).2 < ruleN t i op 4
      all_goals
        go_wp2_with fail
        refine HC.out.mono ?_
        rintro e w2 ⟨rfl, hb2⟩
        clear hx HC
        have hBB : Below wr.heap.size wr w2 := ((Below.refl _ wr).alloc (Nat.le_refl _) _).trans (hb2.mono (by simp))
        have d := hr.out.later hBB
        have k0 : w2.cell? ⟨wr.heap.size, 0, none⟩ = some (.int .i64 5) := (hb2.cell (p := ⟨_, 0, none⟩) (by simp)).trans (by simp)
        have e0 := d.c0; have e2 := d.c2; have e6 := d.f
        have D := Lib.hid d
        clear d hb2 hBB
        go_wp2_with fail
        go_roundw
        case rel => exact ⟨5, by omega, by go_num, Lib.hid (by first | exact D.out.take hlt | exact D.out.keep hlt)⟩
        case measure => simp [intOf]
    · have hBa : Below w.heap.size w (wr.alloc (.cells #[.int .i64 6, .func (.func 83) #[] #[]] 95)) := hr.out.below.alloc (by have := hr.out.size; omega) _
      have hcall := ruleCall5 b i n t op (wr.alloc (.cells #[.int .i64 6, .func (.func 83) #[] #[]] 95)) (by have := hr.out.size; simp; omega) hi ht (H.out.below hb0 hBa)
      have hx := ruleAt5
      have HC := Lib.hid hcall; clear hcall hBa
      by_cases hlt : (bestTo (ruleN t i op) 5).2 < ruleN t i op 5
      all_goals
        go_wp2_with fail
        refine HC.out.mono ?_
        rintro e w2 ⟨rfl, hb2⟩
        clear hx HC
        have hBB : Below wr.heap.size wr w2 := ((Below.refl _ wr).alloc (Nat.le_refl _) _).trans (hb2.mono (by simp))
        have d := hr.out.later hBB
        have k0 : w2.cell? ⟨wr.heap.size, 0, none⟩ = some (.int .i64 6) := (hb2.cell (p := ⟨_, 0, none⟩) (by simp)).trans (by simp)
        have e0 := d.c0; have e2 := d.c2; have e6 := d.f
        have D := Lib.hid d
        clear d hb2 hBB
        go_wp2_with fail
        go_roundw
        case rel => exact ⟨6, by omega, by go_num, Lib.hid (by first | exact D.out.take hlt | exact D.out.keep hlt)⟩
        case measure => simp [intOf]
    · have d := hr.out
      have e0 := d.c0; have e1 := d.c1; have e2 := d.c2; have e3 := d.r0; have e4 := d.r1; have e5 := d.r2; have e6 := d.f; have e7 := d.g
      have eB := Lib.hid d.below
      clear d H HL hi ht hk
      go_wp2_with fail
      refine bodyPost_ret (v := .agg #[.int .i64 ((bestTo (ruleN t i op) 6).1 : Int), .int .i64 (i : Int), .int .i64 ((bestTo (ruleN t i op) 6).2 : Int)]) ?_ rfl ⟨rfl, ?_⟩
      · simp [results, Tryd.results48, go_sem, *]
      · exact ((eB.out.setCell (p := ⟨w.heap.size, 0, none⟩) (Nat.le_refl _) _).setCell (p := ⟨w.heap.size, 1, none⟩) (Nat.le_refl _) _).setCell (p := ⟨w.heap.size, 2, none⟩) (Nat.le_refl _) _
end Go.Proofs.YtledmagigkpbeaaDoor
