/-
  The piece at the cursor.
-/
import Derived.Test.YtledmagigkpbeaaDoorT
import Derived.Test.YtledmagigkpbeaaDoorMath3
import Derived.Deep.DeepCutAuto
namespace Go.Proofs.YtledmagigkpbeaaDoor
open Go.RowKit

def nextEnd (i : Nat) : Except Nat (Nat × Nat) → Ending
  | .ok p => .returned (.agg #[.int .i64 (p.1 : Int), .int .i64 (i : Int), .int .i64 (p.2 : Int)])
  | .error c => refusedEnd i c

theorem IsCut.drewN {b i n : Nat} {t : ByteArray} {op : Bool} {w : World} (h : IsCut b i t op n w) (q : Nat) : IsCut b i t op n (w.drewN q) := ⟨h.text, h.at', h.op, h.tok⟩

set_option maxHeartbeats 4000000 in
set_option maxRecDepth 100000 in
theorem next_line (b i n : Nat) (t : ByteArray) (op : Bool) (w : World) (hb0 : b < w.heap.size) (hi : i < t.size) (h : IsCut b i t op n w)
    (hA : Lib.hasPrefix (restB t i).data.toList [47, 47] = true) :
    Calls Tryd.prog 29 #[.pointer (some ⟨b, 0, none⟩)] w fun e w' => e = nextEnd i (nextR t i op) ∧ Below w.heap.size w w' := by
  have hw := fun o => h.below hb0 ((Below.refl _ w).alloc (Nat.le_refl _) o)
  have hbg := fun o => begins_any b i t ⟨#[47, 47]⟩ (w.alloc o) (by omega) (hw o).text (hw o).at'
  have hl := fun o q => line_any b i t ((w.alloc o).drewN q) (by omega) (hw o).text (hw o).at'
  have hat := fun o => (hw o).at'
  have HN : Hid (nextR t i op = .ok (8, lineN (restB t i))) := Lib.hid (by simp [nextR, hA])
  simp only [hA] at hbg
  have Hb := Lib.hid hbg; have Hl := Lib.hid hl
  clear hbg hl hw h hA hi
  go_enter Tryd.func29, Tryd.ntmps29
  go_wp2_with fail
  refine (Hb.out _).mono ?_
  rintro e w1 ⟨rfl, q, rfl⟩
  go_wp2_with fail
  go_region_with (go_at_call 43; refine (Hl.out _ _).mono ?_; rintro e w2 ⟨rfl, q2, rfl⟩)
  all_goals
    go_wp2_with fail
    refine bodyPost_ret (v := .agg #[.int .i64 8, .int .i64 (i : Int), .int .i64 (lineN (restB t i) : Int)]) ?_ rfl ⟨by rw [HN.out]; rfl, ?_⟩
    · simp [results, Tryd.results29, go_sem]
    · exact (((below_drewN ((Below.refl _ w).alloc (Nat.le_refl _) _) _).setCell (p := ⟨w.heap.size, 0, none⟩) (Nat.le_refl _) _).setCell (p := ⟨w.heap.size, 1, none⟩) (Nat.le_refl _) _).setCell (p := ⟨w.heap.size, 2, none⟩) (Nat.le_refl _) _

set_option maxHeartbeats 4000000 in
set_option maxRecDepth 100000 in
theorem next_nest (b i n : Nat) (t : ByteArray) (op : Bool) (w : World) (hb0 : b < w.heap.size) (hi : i < t.size) (ht : t.size ≤ 1048576) (h : IsCut b i t op n w)
    (hA : Lib.hasPrefix (restB t i).data.toList [47, 47] = false) (hB : Lib.hasPrefix (restB t i).data.toList [47, 42] = true) (m : Nat) (hM : nestedGo (restB t i) 0 0 = .ok m) :
    Calls Tryd.prog 29 #[.pointer (some ⟨b, 0, none⟩)] w fun e w' => e = nextEnd i (nextR t i op) ∧ Below w.heap.size w w' := by
  have hw := fun o => h.below hb0 ((Below.refl _ w).alloc (Nat.le_refl _) o)
  have hbg := fun o => begins_any b i t ⟨#[47, 47]⟩ (w.alloc o) (by omega) (hw o).text (hw o).at'
  have hbg2 := fun o q => begins_any b i t ⟨#[47, 42]⟩ ((w.alloc o).drewN q) (by omega) (hw o).text (hw o).at'
  have hl := fun o q => nested_q b i t ((w.alloc o).drewN q) (by omega) (by omega) (hw o).text (hw o).at'
  have hat := fun o => (hw o).at'
  have HN : Hid (nextR t i op = .ok (8, m)) := Lib.hid (by simp [nextR, hA, hB, hM])
  simp only [hA] at hbg
  simp only [hB] at hbg2
  simp only [hM, nestedEnd] at hl
  have Hb := Lib.hid hbg; have Hb2 := Lib.hid hbg2; have Hl := Lib.hid hl
  clear hbg hbg2 hl hw h hA hB hM hi ht
  go_enter Tryd.func29, Tryd.ntmps29
  go_wp2_with fail
  refine (Hb.out _).mono ?_
  rintro e w1 ⟨rfl, q, rfl⟩
  go_wp2_with fail
  refine (Hb2.out _ _).mono ?_
  rintro e w1 ⟨rfl, q2, rfl⟩
  go_wp2_with fail
  go_region_with (go_at_call 44; refine (Hl.out _ _).mono ?_; rintro e w2 ⟨rfl, q3, rfl⟩)
  all_goals
    go_wp2_with fail
    refine bodyPost_ret (v := .agg #[.int .i64 8, .int .i64 (i : Int), .int .i64 (m : Int)]) ?_ rfl ⟨by rw [HN.out]; rfl, ?_⟩
    · simp [results, Tryd.results29, go_sem]
    · exact (((below_drewN ((Below.refl _ w).alloc (Nat.le_refl _) _) _).setCell (p := ⟨w.heap.size, 0, none⟩) (Nat.le_refl _) _).setCell (p := ⟨w.heap.size, 1, none⟩) (Nat.le_refl _) _).setCell (p := ⟨w.heap.size, 2, none⟩) (Nat.le_refl _) _

set_option maxHeartbeats 4000000 in
set_option maxRecDepth 100000 in
theorem next_bad (b i n : Nat) (t : ByteArray) (op : Bool) (w : World) (hb0 : b < w.heap.size) (hi : i < t.size) (ht : t.size ≤ 1048576) (h : IsCut b i t op n w)
    (hA : Lib.hasPrefix (restB t i).data.toList [47, 47] = false) (hB : Lib.hasPrefix (restB t i).data.toList [47, 42] = true) (m : Nat) (hM : nestedGo (restB t i) 0 0 = .error m) :
    Calls Tryd.prog 29 #[.pointer (some ⟨b, 0, none⟩)] w fun e w' => e = nextEnd i (nextR t i op) ∧ Below w.heap.size w w' := by
  have hw := fun o => h.below hb0 ((Below.refl _ w).alloc (Nat.le_refl _) o)
  have hbg := fun o => begins_any b i t ⟨#[47, 47]⟩ (w.alloc o) (by omega) (hw o).text (hw o).at'
  have hbg2 := fun o q => begins_any b i t ⟨#[47, 42]⟩ ((w.alloc o).drewN q) (by omega) (hw o).text (hw o).at'
  have hl := fun o q => nested_q b i t ((w.alloc o).drewN q) (by omega) (by omega) (hw o).text (hw o).at'
  have hat := fun o => (hw o).at'
  have HN : Hid (nextR t i op = .error m) := Lib.hid (by simp [nextR, hA, hB, hM])
  simp only [hA] at hbg
  simp only [hB] at hbg2
  simp only [hM, nestedEnd, refusedEnd] at hl
  have Hb := Lib.hid hbg; have Hb2 := Lib.hid hbg2; have Hl := Lib.hid hl
  clear hbg hbg2 hl hw h hA hB hM hi ht
  go_enter Tryd.func29, Tryd.ntmps29
  go_wp2_with fail
  refine (Hb.out _).mono ?_
  rintro e w1 ⟨rfl, q, rfl⟩
  go_wp2_with fail
  refine (Hb2.out _ _).mono ?_
  rintro e w1 ⟨rfl, q2, rfl⟩
  go_wp2_with fail
  refine wp_region_any (by kernel_rfl) ?_
  change wpAny _ _ _ _ _ _ _ (World.drew _)
  refine wpAny_take (i := 0) (v := ?_) rfl (by kernel_rfl) (by kernel_rfl) (by kernel_rfl) (fun _ _ _ h => h) (Or.inl ⟨by rfl, ?hy0⟩) ?_
  case hy0 => intro w; go_simp; try with_reducible rfl
  refine wpAny_take (i := 1) (v := ?_) rfl (by kernel_rfl) (by kernel_rfl) (by kernel_rfl) (fun _ _ _ h => h) (Or.inl ⟨by rfl, ?hy1⟩) ?_
  case hy1 => intro w; go_simp; try with_reducible rfl
  refine wpAny_take (i := 2) (v := ?_) rfl (by kernel_rfl) (by kernel_rfl) (by kernel_rfl) (fun _ _ _ h => h) (Or.inl ⟨by rfl, ?hy2⟩) ?_
  case hy2 => intro w; go_simp; try with_reducible rfl
  refine wpAny_take (i := 3) (v := ?_) rfl (by kernel_rfl) (by kernel_rfl) (by kernel_rfl) (fun _ _ _ h => h) (Or.inl ⟨by rfl, ?hy3⟩) ?_
  case hy3 => intro w; go_simp; try with_reducible rfl
  refine wpAny_take (i := 5) (v := ?_) rfl (by kernel_rfl) (by kernel_rfl) (by kernel_rfl) (fun _ _ _ h => h) (Or.inl ⟨by rfl, ?hy5⟩) ?_
  case hy5 => intro w; go_simp; try with_reducible rfl
  refine wpAny_ready (rs := [4, 6]) (by kernel_rfl) (by simp) ?_
  refine AllReady.cons rfl (fun K hK => ?_) (AllReady.cons rfl (fun K hK => ?_) AllReady.nil)
  · go_simp
    refine hK _ _ ?_
    clear hK K
    refine wpAny_ready (rs := [6]) (by kernel_rfl) (by simp) ?_
    refine AllReady.cons rfl (fun K hK => ?_) AllReady.nil
    go_simp; go_wp2_with (go_at_call 44; refine (Hl.out _ _).mono ?_; rintro e w2 ⟨rfl, q3, rfl⟩); exact ⟨rfl, by rw [HN.out]; rfl, below_drewN ((Below.refl _ w).alloc (Nat.le_refl _) _) _⟩
  · go_simp; go_wp2_with (go_at_call 44; refine (Hl.out _ _).mono ?_; rintro e w2 ⟨rfl, q3, rfl⟩); exact ⟨rfl, by rw [HN.out]; rfl, below_drewN ((Below.refl _ w).alloc (Nat.le_refl _) _) _⟩

set_option maxHeartbeats 4000000 in
set_option maxRecDepth 100000 in
theorem next_blank (b i n : Nat) (t : ByteArray) (op : Bool) (w : World) (hb0 : b < w.heap.size) (hi : i < t.size) (ht : t.size ≤ 1048576) (h : IsCut b i t op n w)
    (hA : Lib.hasPrefix (restB t i).data.toList [47, 47] = false) (hB : Lib.hasPrefix (restB t i).data.toList [47, 42] = false) (hC : bBlank (aheadB t i) = true) :
    Calls Tryd.prog 29 #[.pointer (some ⟨b, 0, none⟩)] w fun e w' => e = nextEnd i (nextR t i op) ∧ Below w.heap.size w w' := by
  have hw := fun o => h.below hb0 ((Below.refl _ w).alloc (Nat.le_refl _) o)
  have hbg := fun o => begins_any b i t ⟨#[47, 47]⟩ (w.alloc o) (by omega) (hw o).text (hw o).at'
  have hbg2 := fun o q => begins_any b i t ⟨#[47, 42]⟩ ((w.alloc o).drewN q) (by omega) (hw o).text (hw o).at'
  have ha := fun o q => ahead0_q b i t ((w.alloc o).drewN q) (by omega) (hw o).text (hw o).at'
  have hl := fun o q => blanks_q b i t ((w.alloc o).drewN q) (by omega) (by omega) (hw o).text (hw o).at'
  have hat := fun o => (hw o).at'
  have HN : Hid (nextR t i op = .ok (7, blanksN t i)) := Lib.hid (by simp [nextR, hA, hB, hC])
  have hk := fun W => isBlank_any (aheadB t i) W
  simp only [hA] at hbg
  simp only [hB] at hbg2
  simp only [hC] at hk
  have Hb := Lib.hid hbg; have Hb2 := Lib.hid hbg2; have Hl := Lib.hid hl; have Ha := Lib.hid ha; have Hk := Lib.hid hk
  clear hbg hbg2 hl hw h hA hB hC hi ht ha hk
  go_enter Tryd.func29, Tryd.ntmps29
  go_wp2_with fail
  refine (Hb.out _).mono ?_
  rintro e w1 ⟨rfl, q, rfl⟩
  go_wp2_with fail
  refine (Hb2.out _ _).mono ?_
  rintro e w1 ⟨rfl, q2, rfl⟩
  go_wp2_with fail
  refine (Ha.out _ _).mono ?_
  rintro e w1 ⟨rfl, q3, rfl⟩
  go_wp2_with fail
  refine (Hk.out _).mono ?_
  rintro e w1 ⟨rfl, rfl⟩
  go_wp2_with fail
  go_region_with (go_at_call 47; refine (Hl.out _ _).mono ?_; rintro e w2 ⟨rfl, q4, rfl⟩)
  all_goals
    go_wp2_with fail
    refine bodyPost_ret (v := .agg #[.int .i64 7, .int .i64 (i : Int), .int .i64 (blanksN t i : Int)]) ?_ rfl ⟨by rw [HN.out]; rfl, ?_⟩
    · simp [results, Tryd.results29, go_sem]
    · exact (((below_drewN ((Below.refl _ w).alloc (Nat.le_refl _) _) _).setCell (p := ⟨w.heap.size, 0, none⟩) (Nat.le_refl _) _).setCell (p := ⟨w.heap.size, 1, none⟩) (Nat.le_refl _) _).setCell (p := ⟨w.heap.size, 2, none⟩) (Nat.le_refl _) _

end Go.Proofs.YtledmagigkpbeaaDoor
