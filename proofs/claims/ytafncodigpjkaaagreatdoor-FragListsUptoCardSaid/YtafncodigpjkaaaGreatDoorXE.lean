/-
  The piece at the cursor.
  The piece at the cursor where a token stands, and all of 'next'.
  A cutter is moved behind a piece.
-/
import Derived.Test.YtafncodigpjkaaaGreatDoorXD
import Derived.Test.YtafncodigpjkaaaGreatDoorXA
import Derived.Deep.DeepCutAuto
namespace Go.Proofs.YtafncodigpjkaaaGreatDoor
section
open Go.RowKit

def nextEnd (i : Nat) : Except Nat (Nat × Nat) → Ending
  | .ok p => .returned (.agg #[.int .i64 (p.1 : Int), .int .i64 (i : Int), .int .i64 (p.2 : Int)])
  | .error c => refusedEnd i c

theorem IsCut.drewN {b i n : Nat} {t : ByteArray} {op : Bool} {w : World} (h : IsCut b i t op n w) (q : Nat) : IsCut b i t op n (w.drewN q) := ⟨h.text, h.at', h.op, h.tok⟩

set_option maxHeartbeats 4000000 in
set_option maxRecDepth 100000 in
theorem next_line (b i n : Nat) (t : ByteArray) (op : Bool) (w : World) (hb0 : b < w.heap.size) (hi : i < t.size) (h : IsCut b i t op n w)
    (hA : Lib.hasPrefix (restB t i).data.toList [47, 47] = true) :
    Calls Tryz.prog 116 #[.pointer (some ⟨b, 0, none⟩)] w fun e w' => e = nextEnd i (nextR t i op) ∧ Below w.heap.size w w' := by
  have hw := fun o => h.below hb0 ((Below.refl _ w).alloc (Nat.le_refl _) o)
  have hbg := fun o => begins_any b i t ⟨#[47, 47]⟩ (w.alloc o) (by omega) (hw o).text (hw o).at'
  have hl := fun o q => line_any b i t ((w.alloc o).drewN q) (by omega) (hw o).text (hw o).at'
  have hat := fun o => (hw o).at'
  have HN : Hid (nextR t i op = .ok (8, lineN (restB t i))) := Lib.hid (by simp [nextR, hA])
  simp only [hA] at hbg
  have Hb := Lib.hid hbg; have Hl := Lib.hid hl
  clear hbg hl hw h hA hi
  go_enter Tryz.func116, Tryz.ntmps116
  go_wp2_with fail
  refine (Hb.out _).mono ?_
  rintro e w1 ⟨rfl, q, rfl⟩
  go_wp2_with fail
  go_region_with (go_at_call 130; refine (Hl.out _ _).mono ?_; rintro e w2 ⟨rfl, q2, rfl⟩)
  all_goals
    go_wp2_with fail
    refine bodyPost_ret (v := .agg #[.int .i64 8, .int .i64 (i : Int), .int .i64 (lineN (restB t i) : Int)]) ?_ rfl ⟨by rw [HN.out]; rfl, ?_⟩
    · simp [results, Tryz.results116, go_sem]
    · exact (((below_drewN ((Below.refl _ w).alloc (Nat.le_refl _) _) _).setCell (p := ⟨w.heap.size, 0, none⟩) (Nat.le_refl _) _).setCell (p := ⟨w.heap.size, 1, none⟩) (Nat.le_refl _) _).setCell (p := ⟨w.heap.size, 2, none⟩) (Nat.le_refl _) _

set_option maxHeartbeats 4000000 in
set_option maxRecDepth 100000 in
theorem next_nest (b i n : Nat) (t : ByteArray) (op : Bool) (w : World) (hb0 : b < w.heap.size) (hi : i < t.size) (ht : t.size ≤ 140737488351232) (h : IsCut b i t op n w)
    (hA : Lib.hasPrefix (restB t i).data.toList [47, 47] = false) (hB : Lib.hasPrefix (restB t i).data.toList [47, 42] = true) (m : Nat) (hM : nestedGo (restB t i) 0 0 = .ok m) :
    Calls Tryz.prog 116 #[.pointer (some ⟨b, 0, none⟩)] w fun e w' => e = nextEnd i (nextR t i op) ∧ Below w.heap.size w w' := by
  have hw := fun o => h.below hb0 ((Below.refl _ w).alloc (Nat.le_refl _) o)
  have hbg := fun o => begins_any b i t ⟨#[47, 47]⟩ (w.alloc o) (by omega) (hw o).text (hw o).at'
  have hbg2 := fun o q => begins_any b i t ⟨#[47, 42]⟩ ((w.alloc o).drewN q) (by omega) (hw o).text (hw o).at'
  have hl := fun o q => nested_q b i t ((w.alloc o).drewN q) (by omega) (by omega) (hw o).text (hw o).at'
  have hat := fun o => (hw o).at'
  have HN : Hid (nextR t i op = .ok (8, m)) := Lib.hid (by simp [nextR, hA, hB, hM])
  simp only [hA] at hbg
  simp only [hB] at hbg2
  simp only [hM, nestedEnd] at hl
  have Hb := Lib.hid hbg; have Hb2 := Lib.hid hbg2; have Hl := Lib.hid hl
  clear hbg hbg2 hl hw h hA hB hM hi ht
  go_enter Tryz.func116, Tryz.ntmps116
  go_wp2_with fail
  refine (Hb.out _).mono ?_
  rintro e w1 ⟨rfl, q, rfl⟩
  go_wp2_with fail
  refine (Hb2.out _ _).mono ?_
  rintro e w1 ⟨rfl, q2, rfl⟩
  go_wp2_with fail
  go_region_with (go_at_call 131; refine (Hl.out _ _).mono ?_; rintro e w2 ⟨rfl, q3, rfl⟩)
  all_goals
    go_wp2_with fail
    refine bodyPost_ret (v := .agg #[.int .i64 8, .int .i64 (i : Int), .int .i64 (m : Int)]) ?_ rfl ⟨by rw [HN.out]; rfl, ?_⟩
    · simp [results, Tryz.results116, go_sem]
    · exact (((below_drewN ((Below.refl _ w).alloc (Nat.le_refl _) _) _).setCell (p := ⟨w.heap.size, 0, none⟩) (Nat.le_refl _) _).setCell (p := ⟨w.heap.size, 1, none⟩) (Nat.le_refl _) _).setCell (p := ⟨w.heap.size, 2, none⟩) (Nat.le_refl _) _

set_option maxHeartbeats 4000000 in
set_option maxRecDepth 100000 in
theorem next_bad (b i n : Nat) (t : ByteArray) (op : Bool) (w : World) (hb0 : b < w.heap.size) (hi : i < t.size) (ht : t.size ≤ 140737488351232) (h : IsCut b i t op n w)
    (hA : Lib.hasPrefix (restB t i).data.toList [47, 47] = false) (hB : Lib.hasPrefix (restB t i).data.toList [47, 42] = true) (m : Nat) (hM : nestedGo (restB t i) 0 0 = .error m) :
    Calls Tryz.prog 116 #[.pointer (some ⟨b, 0, none⟩)] w fun e w' => e = nextEnd i (nextR t i op) ∧ Below w.heap.size w w' := by
  have hw := fun o => h.below hb0 ((Below.refl _ w).alloc (Nat.le_refl _) o)
  have hbg := fun o => begins_any b i t ⟨#[47, 47]⟩ (w.alloc o) (by omega) (hw o).text (hw o).at'
  have hbg2 := fun o q => begins_any b i t ⟨#[47, 42]⟩ ((w.alloc o).drewN q) (by omega) (hw o).text (hw o).at'
  have hl := fun o q => nested_q b i t ((w.alloc o).drewN q) (by omega) (by omega) (hw o).text (hw o).at'
  have hat := fun o => (hw o).at'
  have HN : Hid (nextR t i op = .error m) := Lib.hid (by simp [nextR, hA, hB, hM])
  simp only [hA] at hbg
  simp only [hB] at hbg2
  simp only [hM, nestedEnd, refusedEnd] at hl
  have Hb := Lib.hid hbg; have Hb2 := Lib.hid hbg2; have Hl := Lib.hid hl
  clear hbg hbg2 hl hw h hA hB hM hi ht
  go_enter Tryz.func116, Tryz.ntmps116
  go_wp2_with fail
  refine (Hb.out _).mono ?_
  rintro e w1 ⟨rfl, q, rfl⟩
  go_wp2_with fail
  refine (Hb2.out _ _).mono ?_
  rintro e w1 ⟨rfl, q2, rfl⟩
  go_wp2_with fail
  refine wp_region_any (by kernel_rfl) ?_
  change wpAny _ _ _ _ _ _ _ (World.drew _)
  refine wpAny_take (i := 0) (v := ?_) rfl (by kernel_rfl) (by kernel_rfl) (by kernel_rfl) (fun _ _ _ h => h) (Or.inl ⟨by rfl, ?hy0⟩) ?_
  case hy0 => intro w; go_simp; try with_reducible rfl
  refine wpAny_take (i := 1) (v := ?_) rfl (by kernel_rfl) (by kernel_rfl) (by kernel_rfl) (fun _ _ _ h => h) (Or.inl ⟨by rfl, ?hy1⟩) ?_
  case hy1 => intro w; go_simp; try with_reducible rfl
  refine wpAny_take (i := 2) (v := ?_) rfl (by kernel_rfl) (by kernel_rfl) (by kernel_rfl) (fun _ _ _ h => h) (Or.inl ⟨by rfl, ?hy2⟩) ?_
  case hy2 => intro w; go_simp; try with_reducible rfl
  refine wpAny_take (i := 3) (v := ?_) rfl (by kernel_rfl) (by kernel_rfl) (by kernel_rfl) (fun _ _ _ h => h) (Or.inl ⟨by rfl, ?hy3⟩) ?_
  case hy3 => intro w; go_simp; try with_reducible rfl
  refine wpAny_take (i := 5) (v := ?_) rfl (by kernel_rfl) (by kernel_rfl) (by kernel_rfl) (fun _ _ _ h => h) (Or.inl ⟨by rfl, ?hy5⟩) ?_
  case hy5 => intro w; go_simp; try with_reducible rfl
  refine wpAny_ready (rs := [4, 6]) (by kernel_rfl) (by simp) ?_
  refine AllReady.cons rfl (fun K hK => ?_) (AllReady.cons rfl (fun K hK => ?_) AllReady.nil)
  · go_simp
    refine hK _ _ ?_
    clear hK K
    refine wpAny_ready (rs := [6]) (by kernel_rfl) (by simp) ?_
    refine AllReady.cons rfl (fun K hK => ?_) AllReady.nil
    go_simp; go_wp2_with (go_at_call 131; refine (Hl.out _ _).mono ?_; rintro e w2 ⟨rfl, q3, rfl⟩); exact ⟨rfl, by rw [HN.out]; rfl, below_drewN ((Below.refl _ w).alloc (Nat.le_refl _) _) _⟩
  · go_simp; go_wp2_with (go_at_call 131; refine (Hl.out _ _).mono ?_; rintro e w2 ⟨rfl, q3, rfl⟩); exact ⟨rfl, by rw [HN.out]; rfl, below_drewN ((Below.refl _ w).alloc (Nat.le_refl _) _) _⟩

set_option maxHeartbeats 4000000 in
set_option maxRecDepth 100000 in
theorem next_blank (b i n : Nat) (t : ByteArray) (op : Bool) (w : World) (hb0 : b < w.heap.size) (hi : i < t.size) (ht : t.size ≤ 140737488351232) (h : IsCut b i t op n w)
    (hA : Lib.hasPrefix (restB t i).data.toList [47, 47] = false) (hB : Lib.hasPrefix (restB t i).data.toList [47, 42] = false) (hC : bBlank (aheadB t i) = true) :
    Calls Tryz.prog 116 #[.pointer (some ⟨b, 0, none⟩)] w fun e w' => e = nextEnd i (nextR t i op) ∧ Below w.heap.size w w' := by
  have hw := fun o => h.below hb0 ((Below.refl _ w).alloc (Nat.le_refl _) o)
  have hbg := fun o => begins_any b i t ⟨#[47, 47]⟩ (w.alloc o) (by omega) (hw o).text (hw o).at'
  have hbg2 := fun o q => begins_any b i t ⟨#[47, 42]⟩ ((w.alloc o).drewN q) (by omega) (hw o).text (hw o).at'
  have ha := fun o q => ahead0_q b i t ((w.alloc o).drewN q) (by omega) (hw o).text (hw o).at'
  have hl := fun o q => blanks_q b i t ((w.alloc o).drewN q) (by omega) (by omega) (hw o).text (hw o).at'
  have hat := fun o => (hw o).at'
  have HN : Hid (nextR t i op = .ok (7, blanksN t i)) := Lib.hid (by simp [nextR, hA, hB, hC])
  have hk := fun W => isBlank_any (aheadB t i) W
  simp only [hA] at hbg
  simp only [hB] at hbg2
  simp only [hC] at hk
  have Hb := Lib.hid hbg; have Hb2 := Lib.hid hbg2; have Hl := Lib.hid hl; have Ha := Lib.hid ha; have Hk := Lib.hid hk
  clear hbg hbg2 hl hw h hA hB hC hi ht ha hk
  go_enter Tryz.func116, Tryz.ntmps116
  go_wp2_with fail
  refine (Hb.out _).mono ?_
  rintro e w1 ⟨rfl, q, rfl⟩
  go_wp2_with fail
  refine (Hb2.out _ _).mono ?_
  rintro e w1 ⟨rfl, q2, rfl⟩
  go_wp2_with fail
  refine (Ha.out _ _).mono ?_
  rintro e w1 ⟨rfl, q3, rfl⟩
  go_wp2_with fail
  refine (Hk.out _).mono ?_
  rintro e w1 ⟨rfl, rfl⟩
  go_wp2_with fail
  go_region_with (go_at_call 134; refine (Hl.out _ _).mono ?_; rintro e w2 ⟨rfl, q4, rfl⟩)
  all_goals
    go_wp2_with fail
    refine bodyPost_ret (v := .agg #[.int .i64 7, .int .i64 (i : Int), .int .i64 (blanksN t i : Int)]) ?_ rfl ⟨by rw [HN.out]; rfl, ?_⟩
    · simp [results, Tryz.results116, go_sem]
    · exact (((below_drewN ((Below.refl _ w).alloc (Nat.le_refl _) _) _).setCell (p := ⟨w.heap.size, 0, none⟩) (Nat.le_refl _) _).setCell (p := ⟨w.heap.size, 1, none⟩) (Nat.le_refl _) _).setCell (p := ⟨w.heap.size, 2, none⟩) (Nat.le_refl _) _

end

section
open Go.RowKit

set_option maxHeartbeats 4000000 in
set_option maxRecDepth 100000 in
theorem next_token (b i n : Nat) (t : ByteArray) (op : Bool) (w : World) (E : Env w) (hb0 : b < w.heap.size) (hi : i < t.size) (ht : t.size ≤ 140737488351232) (h : IsCut b i t op n w)
    (hA : Lib.hasPrefix (restB t i).data.toList [47, 47] = false) (hB : Lib.hasPrefix (restB t i).data.toList [47, 42] = false) (hC : bBlank (aheadB t i) = false) :
    Calls Tryz.prog 116 #[.pointer (some ⟨b, 0, none⟩)] w fun e w' => e = nextEnd i (nextR t i op) ∧ Below w.heap.size w w' := by
  have hw := fun o => h.below hb0 ((Below.refl _ w).alloc (Nat.le_refl _) o)
  have hbg := fun o => begins_any b i t ⟨#[47, 47]⟩ (w.alloc o) (by omega) (hw o).text (hw o).at'
  have hbg2 := fun o q => begins_any b i t ⟨#[47, 42]⟩ ((w.alloc o).drewN q) (by omega) (hw o).text (hw o).at'
  have ha := fun o q => ahead0_q b i t ((w.alloc o).drewN q) (by omega) (hw o).text (hw o).at'
  have hk := fun W => isBlank_any (aheadB t i) W
  have hl := fun W (hB : Below w.heap.size w W) => longest_any b i n t op W (by have := hB.size; omega) hi ht (h.below hb0 hB)
  have hbb := best_bounds t i op hi
  have hf := fun W (hB : Below w.heap.size w W) => fault_any b i n (bestTo (ruleN t i op) 6).1 (bestTo (ruleN t i op) 6).2 t op W (E.below E.size hB) (by have := hB.size; omega) hbb.1 hbb.2 ht (h.below hb0 hB)
  have hat := fun W (hB : Below w.heap.size w W) => (h.below hb0 hB).at'
  have HN : Hid (nextR t i op = if faultN t i (bestTo (ruleN t i op) 6).1 (bestTo (ruleN t i op) 6).2 = 0 then .ok (bestTo (ruleN t i op) 6) else .error (faultN t i (bestTo (ruleN t i op) 6).1 (bestTo (ruleN t i op) 6).2)) := Lib.hid (by simp [nextR, hA, hB, hC])
  simp only [hA] at hbg
  simp only [hB] at hbg2
  simp only [hC] at hk
  generalize bestTo (ruleN t i op) 6 = p at *
  generalize faultN t i p.1 p.2 = f at *
  have Hb := Lib.hid hbg; have Hb2 := Lib.hid hbg2; have Hl := Lib.hid hl; have Ha := Lib.hid ha; have Hk := Lib.hid hk; have Hf := Lib.hid hf; have Hat := Lib.hid hat
  clear hbg hbg2 hl hw h hA hB hC hi ht ha hk hf hat hbb E
  have HB : ∀ o q, Hid (Below w.heap.size w ((w.alloc o).drewN q)) := fun o q => Lib.hid (below_drewN ((Below.refl _ w).alloc (Nat.le_refl _) _) _)
  by_cases hf0 : f = 0
  · subst hf0
    go_enter Tryz.func116, Tryz.ntmps116
    go_wp2_with fail
    refine (Hb.out _).mono ?_
    rintro e w1 ⟨rfl, q, rfl⟩
    go_wp2_with fail
    refine (Hb2.out _ _).mono ?_
    rintro e w1 ⟨rfl, q2, rfl⟩
    go_wp2_with fail
    refine (Ha.out _ _).mono ?_
    rintro e w1 ⟨rfl, q3, rfl⟩
    go_wp2_with fail
    refine (Hk.out _).mono ?_
    rintro e w1 ⟨rfl, rfl⟩
    go_wp2_with fail
    refine (Hl.out _ (HB _ _).out).mono ?_
    rintro e w1 ⟨rfl, hb1⟩
    have c0 := fun (o : Nat) (v : Value) (hv : v = .int .i64 0) => True
    have r0 : w1.cell? ⟨w.heap.size, 0, none⟩ = some (.int .i64 0) := (hb1.cell (p := ⟨_, 0, none⟩) (by simp)).trans (by simp)
    have r1 : w1.cell? ⟨w.heap.size, 1, none⟩ = some (.int .i64 0) := (hb1.cell (p := ⟨_, 1, none⟩) (by simp)).trans (by simp)
    have r2 : w1.cell? ⟨w.heap.size, 2, none⟩ = some (.int .i64 0) := (hb1.cell (p := ⟨_, 2, none⟩) (by simp)).trans (by simp)
    have rf : ∀ o, w1.frozen? ⟨w.heap.size, o, none⟩ = false := fun o => (hb1.frozen (p := ⟨_, o, none⟩) (by simp)).trans (by simp)
    have hs1 : w.heap.size < w1.heap.size := by have := hb1.size; simp at this; omega
    have HB1 := Lib.hid ((HB _ _).out.trans (hb1.mono (by simp)))
    clear hb1 c0
    go_wp2_with fail
    refine (Hf.out _ (HB1.out.alloc HB1.out.size _)).mono ?_
    rintro e w2 ⟨rfl, hb2⟩
    have d0 : w2.cell? ⟨w1.heap.size, 0, none⟩ = some (.int .i64 (p.1 : Int)) := (hb2.cell (p := ⟨_, 0, none⟩) (by simp)).trans (by simp)
    have d1 : w2.cell? ⟨w1.heap.size, 1, none⟩ = some (.int .i64 (i : Int)) := (hb2.cell (p := ⟨_, 1, none⟩) (by simp)).trans (by simp)
    have d2 : w2.cell? ⟨w1.heap.size, 2, none⟩ = some (.int .i64 (p.2 : Int)) := (hb2.cell (p := ⟨_, 2, none⟩) (by simp)).trans (by simp)
    have hBB : Below w1.heap.size w1 w2 := ((Below.refl _ w1).alloc (Nat.le_refl _) _).trans (hb2.mono (by simp))
    have s0 : w2.cell? ⟨w.heap.size, 0, none⟩ = some (.int .i64 0) := (hBB.cell (p := ⟨_, 0, none⟩) hs1).trans r0
    have s1 : w2.cell? ⟨w.heap.size, 1, none⟩ = some (.int .i64 0) := (hBB.cell (p := ⟨_, 1, none⟩) hs1).trans r1
    have s2 : w2.cell? ⟨w.heap.size, 2, none⟩ = some (.int .i64 0) := (hBB.cell (p := ⟨_, 2, none⟩) hs1).trans r2
    have sf : ∀ o, w2.frozen? ⟨w.heap.size, o, none⟩ = false := fun o => (hBB.frozen (p := ⟨_, o, none⟩) hs1).trans (rf o)
    have HB2 := Lib.hid (HB1.out.trans (hBB.mono HB1.out.size))
    clear hb2 hBB r0 r1 r2 rf
    go_wp2_with fail
    refine bodyPost_ret (v := .agg #[.int .i64 (p.1 : Int), .int .i64 (i : Int), .int .i64 (p.2 : Int)]) ?_ rfl ⟨by rw [HN.out]; rfl, ?_⟩
    · simp [results, Tryz.results116, go_sem, *]
    · exact ((HB2.out.setCell (p := ⟨w.heap.size, 0, none⟩) (Nat.le_refl _) _).setCell (p := ⟨w.heap.size, 1, none⟩) (Nat.le_refl _) _).setCell (p := ⟨w.heap.size, 2, none⟩) (Nat.le_refl _) _
  · have hf1 : ((f : Int) != 0) = true := by rw [bne_iff_ne]; omega
    have HF := Lib.hid hf0; clear hf0
    go_enter Tryz.func116, Tryz.ntmps116
    go_wp2_with fail
    refine (Hb.out _).mono ?_
    rintro e w1 ⟨rfl, q, rfl⟩
    go_wp2_with fail
    refine (Hb2.out _ _).mono ?_
    rintro e w1 ⟨rfl, q2, rfl⟩
    go_wp2_with fail
    refine (Ha.out _ _).mono ?_
    rintro e w1 ⟨rfl, q3, rfl⟩
    go_wp2_with fail
    refine (Hk.out _).mono ?_
    rintro e w1 ⟨rfl, rfl⟩
    go_wp2_with fail
    refine (Hl.out _ (HB _ _).out).mono ?_
    rintro e w1 ⟨rfl, hb1⟩
    have HB1 := Lib.hid ((HB _ _).out.trans (hb1.mono (by simp)))
    clear hb1
    go_wp2_with fail
    refine (Hf.out _ (HB1.out.alloc HB1.out.size _)).mono ?_
    rintro e w2 ⟨rfl, hb2⟩
    have HB2 := Lib.hid ((HB1.out.alloc HB1.out.size _).trans (hb2.mono (by have := HB1.out.size; simp; omega)))
    clear hb2
    have hat2 := Hat.out w2 HB2.out
    go_wp2_with fail
    exact ⟨rfl, by rw [HN.out, if_neg HF.out]; rfl, HB2.out⟩

theorem next_any (b i n : Nat) (t : ByteArray) (op : Bool) (w : World) (E : Env w) (hb0 : b < w.heap.size) (hi : i < t.size) (ht : t.size ≤ 140737488351232) (h : IsCut b i t op n w) :
    Calls Tryz.prog 116 #[.pointer (some ⟨b, 0, none⟩)] w fun e w' => e = nextEnd i (nextR t i op) ∧ Below w.heap.size w w' := by
  cases hA : Lib.hasPrefix (restB t i).data.toList [47, 47]
  · cases hB : Lib.hasPrefix (restB t i).data.toList [47, 42]
    · cases hC : bBlank (aheadB t i)
      · exact next_token b i n t op w E hb0 hi ht h hA hB hC
      · exact next_blank b i n t op w hb0 hi ht h hA hB hC
    · cases hM : nestedGo (restB t i) 0 0 with
      | ok m => exact next_nest b i n t op w hb0 hi ht h hA hB m hM
      | error m => exact next_bad b i n t op w hb0 hi ht h hA hB m hM
  · exact next_line b i n t op w hb0 hi h hA
end

section
open Go.RowKit

/-- All blocks but b lie as they lay; new ones may have come. -/
structure KeptBut (b : Nat) (w w' : World) : Prop where
  os : w'.os = w.os
  tape : w'.tape = w.tape
  output : w'.output = w.output
  size : w.heap.size ≤ w'.heap.size
  block : ∀ k, k < w.heap.size → k ≠ b → w'.heap[k]? = w.heap[k]?
theorem KeptBut.refl (b : Nat) (w : World) : KeptBut b w w := ⟨rfl, rfl, rfl, Nat.le_refl _, fun _ _ _ => rfl⟩
theorem KeptBut.trans {b : Nat} {x y z : World} (h : KeptBut b x y) (k : KeptBut b y z) : KeptBut b x z :=
  ⟨k.os.trans h.os, k.tape.trans h.tape, k.output.trans h.output, Nat.le_trans h.size k.size, fun j hj hn => (k.block j (Nat.lt_of_lt_of_le hj h.size) hn).trans (h.block j hj hn)⟩
theorem KeptBut.of_below {b : Nat} {w w' : World} (h : Below w.heap.size w w') : KeptBut b w w' := ⟨h.os, h.tape, h.output, h.size, fun k hk _ => h.block k hk⟩
theorem KeptBut.setCell {b o : Nat} {x w : World} (h : KeptBut b x w) (v : Value) : KeptBut b x (w.setCell ⟨b, o, none⟩ v) := by
  have hs : (w.setCell ⟨b, o, none⟩ v).heap.size = w.heap.size := by simp
  have hz := (Below.refl 0 w).setCell (p := ⟨b, o, none⟩) (Nat.zero_le _) v
  refine ⟨hz.os.trans h.os, hz.tape.trans h.tape, hz.output.trans h.output, by rw [hs]; exact h.size, fun k hk hn => ?_⟩
  · rw [Below.heap_setCell w ⟨b, o, none⟩ v k hn]; exact h.block k hk hn
theorem KeptBut.below {b B : Nat} {w w' : World} (h : KeptBut b w w') (hB : B ≤ b) (hs : B ≤ w.heap.size) : Below B w w' :=
  ⟨h.os, h.tape, h.output, h.size, fun k hk => h.block k (by omega) (by omega)⟩
theorem KeptBut.cell {b c o : Nat} {w w' : World} (h : KeptBut b w w') (hc : c < w.heap.size) (hn : c ≠ b) : w'.cell? ⟨c, o, none⟩ = w.cell? ⟨c, o, none⟩ := World.cell?_of_block (w := w) (h.block c hc hn)
theorem KeptBut.frozen {b c o : Nat} {w w' : World} (h : KeptBut b w w') (hc : c < w.heap.size) (hn : c ≠ b) : w'.frozen? ⟨c, o, none⟩ = w.frozen? ⟨c, o, none⟩ := World.frozen?_of_block (w := w) (h.block c hc hn)

/-- A cutter that may be written. -/
def CutFree (b : Nat) (w : World) : Prop := ∀ o, w.frozen? ⟨b, o, none⟩ = false

theorem CutFree.below {b B : Nat} {w w' : World} (h : CutFree b w) (hb : b < B) (hB : Below B w w') : CutFree b w' := fun o => (hB.frozen (p := ⟨b, o, none⟩) hb).trans (h o)
theorem CutFree.setCell {b c : Nat} {w : World} (h : CutFree b w) (o : Nat) (v : Value) : CutFree b (w.setCell ⟨c, o, none⟩ v) := fun j => by rw [World.frozen?_setCell]; exact h j
theorem IsCut.setAt {b i n j : Nat} {t : ByteArray} {op : Bool} {w : World} (h : IsCut b i t op n w) : IsCut b j t op n (w.setCell ⟨b, 1, none⟩ (.int .i64 (j : Int))) :=
  ⟨by rw [World.cell?_setCell_other _ _ _ _ (by simp)]; exact h.text, World.cell?_setCell_same' _ _ _ (by rw [h.at']; rfl), by rw [World.cell?_setCell_other _ _ _ _ (by simp)]; exact h.op, by rw [World.cell?_setCell_other _ _ _ _ (by simp)]; exact h.tok⟩
theorem new_cell (w : World) (cs : Array Value) (tt : TypeId) (b j : Nat) (v : Value) (h : b = w.heap.size) (hv : cs[j]? = some v) : (w.alloc (.cells cs tt)).cell? ⟨b, j, none⟩ = some v := by
  subst h; simpa using hv
end

end Go.Proofs.YtafncodigpjkaaaGreatDoor
