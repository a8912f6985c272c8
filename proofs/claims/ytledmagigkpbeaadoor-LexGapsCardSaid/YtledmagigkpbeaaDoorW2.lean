/-
  The piece at the cursor where a token stands, and all of 'next'.
-/
import Derived.Test.YtledmagigkpbeaaDoorW
import Derived.Test.YtledmagigkpbeaaDoorMath4
namespace Go.Proofs.YtledmagigkpbeaaDoor
open Go.RowKit

set_option maxHeartbeats 4000000 in
set_option maxRecDepth 100000 in
theorem next_token (b i n : Nat) (t : ByteArray) (op : Bool) (w : World) (E : Env w) (hb0 : b < w.heap.size) (hi : i < t.size) (ht : t.size ≤ 1048576) (h : IsCut b i t op n w)
    (hA : Lib.hasPrefix (restB t i).data.toList [47, 47] = false) (hB : Lib.hasPrefix (restB t i).data.toList [47, 42] = false) (hC : bBlank (aheadB t i) = false) :
    Calls Tryd.prog 29 #[.pointer (some ⟨b, 0, none⟩)] w fun e w' => e = nextEnd i (nextR t i op) ∧ Below w.heap.size w w' := by
  have hw := fun o => h.below hb0 ((Below.refl _ w).alloc (Nat.le_refl _) o)
  have hbg := fun o => begins_any b i t ⟨#[47, 47]⟩ (w.alloc o) (by omega) (hw o).text (hw o).at'
  have hbg2 := fun o q => begins_any b i t ⟨#[47, 42]⟩ ((w.alloc o).drewN q) (by omega) (hw o).text (hw o).at'
  have ha := fun o q => ahead0_q b i t ((w.alloc o).drewN q) (by omega) (hw o).text (hw o).at'
  have hk := fun W => isBlank_any (aheadB t i) W
  have hl := fun W (hB : Below w.heap.size w W) => longest_any b i n t op W (by have := hB.size; omega) hi ht (h.below hb0 hB)
  have hbb := best_bounds t i op hi
  have hf := fun W (hB : Below w.heap.size w W) => fault_any b i n (bestTo (ruleN t i op) 6).1 (bestTo (ruleN t i op) 6).2 t op W (E.below E.size hB) (by have := hB.size; omega) hbb.1 hbb.2 ht (h.below hb0 hB)
  have hat := fun W (hB : Below w.heap.size w W) => (h.below hb0 hB).at'
  have HN : Hid (nextR t i op = if faultN t i (bestTo (ruleN t i op) 6).1 (bestTo (ruleN t i op) 6).2 = 0 then .ok (bestTo (ruleN t i op) 6) else .error (faultN t i (bestTo (ruleN t i op) 6).1 (bestTo (ruleN t i op) 6).2)) := Lib.hid (by simp [nextR, hA, hB, hC])
  simp only [hA] at hbg
  simp only [hB] at hbg2
  simp only [hC] at hk
  generalize bestTo (ruleN t i op) 6 = p at *
  generalize faultN t i p.1 p.2 = f at *
  have Hb := Lib.hid hbg; have Hb2 := Lib.hid hbg2; have Hl := Lib.hid hl; have Ha := Lib.hid ha; have Hk := Lib.hid hk; have Hf := Lib.hid hf; have Hat := Lib.hid hat
  clear hbg hbg2 hl hw h hA hB hC hi ht ha hk hf hat hbb E
  have HB : ∀ o q, Hid (Below w.heap.size w ((w.alloc o).drewN q)) := fun o q => Lib.hid (below_drewN ((Below.refl _ w).alloc (Nat.le_refl _) _) _)
  by_cases hf0 : f = 0
  · subst hf0
    go_enter Tryd.func29, Tryd.ntmps29
    go_wp2_with fail
    refine (Hb.out _).mono ?_
    rintro e w1 ⟨rfl, q, rfl⟩
    go_wp2_with fail
    refine (Hb2.out _ _).mono ?_
    rintro e w1 ⟨rfl, q2, rfl⟩
    go_wp2_with fail
    refine (Ha.out _ _).mono ?_
    rintro e w1 ⟨rfl, q3, rfl⟩
    go_wp2_with fail
    refine (Hk.out _).mono ?_
    rintro e w1 ⟨rfl, rfl⟩
    go_wp2_with fail
    refine (Hl.out _ (HB _ _).out).mono ?_
    rintro e w1 ⟨rfl, hb1⟩
    have c0 := fun (o : Nat) (v : Value) (hv : v = .int .i64 0) => True
    have r0 : w1.cell? ⟨w.heap.size, 0, none⟩ = some (.int .i64 0) := (hb1.cell (p := ⟨_, 0, none⟩) (by simp)).trans (by simp)
    have r1 : w1.cell? ⟨w.heap.size, 1, none⟩ = some (.int .i64 0) := (hb1.cell (p := ⟨_, 1, none⟩) (by simp)).trans (by simp)
    have r2 : w1.cell? ⟨w.heap.size, 2, none⟩ = some (.int .i64 0) := (hb1.cell (p := ⟨_, 2, none⟩) (by simp)).trans (by simp)
    have rf : ∀ o, w1.frozen? ⟨w.heap.size, o, none⟩ = false := fun o => (hb1.frozen (p := ⟨_, o, none⟩) (by simp)).trans (by simp)
    have hs1 : w.heap.size < w1.heap.size := by have := hb1.size; simp at this; omega
    have HB1 := Lib.hid ((HB _ _).out.trans (hb1.mono (by simp)))
    clear hb1 c0
    go_wp2_with fail
    refine (Hf.out _ (HB1.out.alloc HB1.out.size _)).mono ?_
    rintro e w2 ⟨rfl, hb2⟩
    have d0 : w2.cell? ⟨w1.heap.size, 0, none⟩ = some (.int .i64 (p.1 : Int)) := (hb2.cell (p := ⟨_, 0, none⟩) (by simp)).trans (by simp)
    have d1 : w2.cell? ⟨w1.heap.size, 1, none⟩ = some (.int .i64 (i : Int)) := (hb2.cell (p := ⟨_, 1, none⟩) (by simp)).trans (by simp)
    have d2 : w2.cell? ⟨w1.heap.size, 2, none⟩ = some (.int .i64 (p.2 : Int)) := (hb2.cell (p := ⟨_, 2, none⟩) (by simp)).trans (by simp)
    have hBB : Below w1.heap.size w1 w2 := ((Below.refl _ w1).alloc (Nat.le_refl _) _).trans (hb2.mono (by simp))
    have s0 : w2.cell? ⟨w.heap.size, 0, none⟩ = some (.int .i64 0) := (hBB.cell (p := ⟨_, 0, none⟩) hs1).trans r0
    have s1 : w2.cell? ⟨w.heap.size, 1, none⟩ = some (.int .i64 0) := (hBB.cell (p := ⟨_, 1, none⟩) hs1).trans r1
    have s2 : w2.cell? ⟨w.heap.size, 2, none⟩ = some (.int .i64 0) := (hBB.cell (p := ⟨_, 2, none⟩) hs1).trans r2
    have sf : ∀ o, w2.frozen? ⟨w.heap.size, o, none⟩ = false := fun o => (hBB.frozen (p := ⟨_, o, none⟩) hs1).trans (rf o)
    have HB2 := Lib.hid (HB1.out.trans (hBB.mono HB1.out.size))
    clear hb2 hBB r0 r1 r2 rf
    go_wp2_with fail
    refine bodyPost_ret (v := .agg #[.int .i64 (p.1 : Int), .int .i64 (i : Int), .int .i64 (p.2 : Int)]) ?_ rfl ⟨by rw [HN.out]; rfl, ?_⟩
    · simp [results, Tryd.results29, go_sem, *]
    · exact ((HB2.out.setCell (p := ⟨w.heap.size, 0, none⟩) (Nat.le_refl _) _).setCell (p := ⟨w.heap.size, 1, none⟩) (Nat.le_refl _) _).setCell (p := ⟨w.heap.size, 2, none⟩) (Nat.le_refl _) _
  · have hf1 : ((f : Int) != 0) = true := by rw [bne_iff_ne]; omega
    have HF := Lib.hid hf0; clear hf0
    go_enter Tryd.func29, Tryd.ntmps29
    go_wp2_with fail
    refine (Hb.out _).mono ?_
    rintro e w1 ⟨rfl, q, rfl⟩
    go_wp2_with fail
    refine (Hb2.out _ _).mono ?_
    rintro e w1 ⟨rfl, q2, rfl⟩
    go_wp2_with fail
    refine (Ha.out _ _).mono ?_
    rintro e w1 ⟨rfl, q3, rfl⟩
    go_wp2_with fail
    refine (Hk.out _).mono ?_
    rintro e w1 ⟨rfl, rfl⟩
    go_wp2_with fail
    refine (Hl.out _ (HB _ _).out).mono ?_
    rintro e w1 ⟨rfl, hb1⟩
    have HB1 := Lib.hid ((HB _ _).out.trans (hb1.mono (by simp)))
    clear hb1
    go_wp2_with fail
    refine (Hf.out _ (HB1.out.alloc HB1.out.size _)).mono ?_
    rintro e w2 ⟨rfl, hb2⟩
    have HB2 := Lib.hid ((HB1.out.alloc HB1.out.size _).trans (hb2.mono (by have := HB1.out.size; simp; omega)))
    clear hb2
    have hat2 := Hat.out w2 HB2.out
    go_wp2_with fail
    exact ⟨rfl, by rw [HN.out, if_neg HF.out]; rfl, HB2.out⟩

theorem next_any (b i n : Nat) (t : ByteArray) (op : Bool) (w : World) (E : Env w) (hb0 : b < w.heap.size) (hi : i < t.size) (ht : t.size ≤ 1048576) (h : IsCut b i t op n w) :
    Calls Tryd.prog 29 #[.pointer (some ⟨b, 0, none⟩)] w fun e w' => e = nextEnd i (nextR t i op) ∧ Below w.heap.size w w' := by
  cases hA : Lib.hasPrefix (restB t i).data.toList [47, 47]
  · cases hB : Lib.hasPrefix (restB t i).data.toList [47, 42]
    · cases hC : bBlank (aheadB t i)
      · exact next_token b i n t op w E hb0 hi ht h hA hB hC
      · exact next_blank b i n t op w hb0 hi ht h hA hB hC
    · cases hM : nestedGo (restB t i) 0 0 with
      | ok m => exact next_nest b i n t op w hb0 hi ht h hA hB m hM
      | error m => exact next_bad b i n t op w hb0 hi ht h hA hB m hM
  · exact next_line b i n t op w hb0 hi h hA
end Go.Proofs.YtledmagigkpbeaaDoor
