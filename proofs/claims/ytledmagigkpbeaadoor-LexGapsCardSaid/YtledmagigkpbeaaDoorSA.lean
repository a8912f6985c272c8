/-
  The laws' examples hold.
-/
import Derived.Test.YtledmagigkpbeaaDoorSA0
import Derived.BigQuiet
namespace Go.Proofs.YtledmagigkpbeaaDoor
open Go.RowKit Go.Shelf

set_option maxHeartbeats 4000000 in
set_option maxRecDepth 100000 in
theorem sane_any (w : World) (E : Env w) : Calls Tryd.prog 9 #[] w fun e w' => e = .returned (.bool true) ∧ Below w.heap.size w w' := by
  have H1 := Lib.hid (fun W E => scan_row tx1 8 tk1 (by omega) (by rw [pc1]) (by rw [pc1]) W E)
  have H2 := Lib.hid (fun W E => scan_row tx2 8 tk2 (by omega) (by rw [pc2]) (by rw [pc2]) W E)
  have H3 := Lib.hid (fun W E => scan_bad tx3 0 12 (by rw [pc3]) (by rw [pc3]) W E)
  have H4 := Lib.hid (fun W E => scan_bad tx4 0 11 (by rw [pc4]) (by rw [pc4]) W E)
  have H5 := Lib.hid (fun W E => pieces_row tx5 5 (by rw [pc5]; rfl) (by omega) (by rw [pc5]) (by rw [pc5]) W E)
  have HE := Lib.hid (fun (W : World) (h : Below w.heap.size w W) => E.below E.size h)
  have HEZ := Lib.hid E.size
  clear E
  go_enter Tryd.func9, Tryd.ntmps9
  go_wp2_with fail
  refine (H1.out _ (HE.out _ (Below.refl _ _))).mono ?_
  rintro e w1 ⟨g1, k1, rfl, z1, c1, b1⟩
  have B1 := Lib.hid b1; have C1 := Lib.hid (c1 _ _ tc1)
  clear c1 b1
  go_wp2_with fail
  refine (H2.out _ (HE.out _ B1.out)).mono ?_
  rintro e w2 ⟨g2, k2, rfl, z2, c2, b2⟩
  have B2 := Lib.hid (B1.out.trans (b2.mono B1.out.size)); have C12 := Lib.hid ((b2.cell (p := ⟨g1, 12, none⟩) z1).trans C1.out)
  have C2 := Lib.hid (c2 _ _ tc2); have C3 := Lib.hid (c2 _ _ tc3); have y1 := b2.size
  clear c2 b2 B1 C1
  go_wp2_with fail
  refine (H3.out _ (HE.out _ B2.out)).mono ?_
  rintro e w3 ⟨v3, rfl, b3⟩
  have B3 := Lib.hid (B2.out.trans (b3.mono B2.out.size)); have C13 := Lib.hid ((b3.cell (p := ⟨g1, 12, none⟩) (by simp; omega)).trans C12.out)
  have C22 := Lib.hid ((b3.cell (p := ⟨g2, 21, none⟩) z2).trans C2.out); have C23 := Lib.hid ((b3.cell (p := ⟨g2, 32, none⟩) z2).trans C3.out); have y2 := b3.size
  clear b3 B2 C12 C2 C3
  go_wp2_with fail
  refine (H4.out _ (HE.out _ B3.out)).mono ?_
  rintro e w4 ⟨v4, rfl, b4⟩
  have B4 := Lib.hid (B3.out.trans (b4.mono B3.out.size)); have C14 := Lib.hid ((b4.cell (p := ⟨g1, 12, none⟩) (by simp; omega)).trans C13.out)
  have C24 := Lib.hid ((b4.cell (p := ⟨g2, 21, none⟩) (by simp; omega)).trans C22.out); have C25 := Lib.hid ((b4.cell (p := ⟨g2, 32, none⟩) (by simp; omega)).trans C23.out); have y3 := b4.size
  clear b4 B3 C13 C22 C23
  go_wp2_with fail
  refine (H5.out _ (HE.out _ B4.out)).mono ?_
  rintro e w5 ⟨g5, k5, rfl, z5, c5, b5⟩
  have B5 := Lib.hid (B4.out.trans (b5.mono B4.out.size)); have C15 := Lib.hid ((b5.cell (p := ⟨g1, 12, none⟩) (by simp; omega)).trans C14.out)
  have C26 := Lib.hid ((b5.cell (p := ⟨g2, 21, none⟩) (by simp; omega)).trans C24.out); have C27 := Lib.hid ((b5.cell (p := ⟨g2, 32, none⟩) (by simp; omega)).trans C25.out); have y4 := b5.size
  have C5 : Hid (w5.cell? ⟨g5, 8, none⟩ = some (.int .i64 7)) := Lib.hid (c5.c2 (k := 2) (x := (8, 2, 7)) (by rw [pc5]; rfl))
  clear b5 c5 B4 C14 C24 C25
  go_wp2_with fail
  refine (upd_sane _ _ (HE.out _ (B5.out.alloc B5.out.size _)) (row_ls6 w5)).mono ?_
  rintro e w6 ⟨⟨p6, k6⟩, rfl, b6⟩
  have hz6 : (w5.alloc (.cells #[.int .i64 1, .int .i64 0, .int .i64 1, .int .i64 7, .int .i64 1, .int .i64 1, .int .i64 1, .int .i64 2, .int .i64 1, .int .i64 7, .int .i64 3, .int .i64 1, .int .i64 1, .int .i64 4, .int .i64 1] 33)).heap.size = w5.heap.size + 1 := by simp
  have b56 := ((Below.refl _ w5).alloc (Nat.le_refl _) (.cells #[.int .i64 1, .int .i64 0, .int .i64 1, .int .i64 7, .int .i64 1, .int .i64 1, .int .i64 1, .int .i64 2, .int .i64 1, .int .i64 7, .int .i64 3, .int .i64 1, .int .i64 1, .int .i64 4, .int .i64 1] 33)).trans (b6.mono (by omega))
  have y5 := b56.size
  have B6 := Lib.hid (B5.out.trans (b56.mono B5.out.size))
  have x1 : w6.cell? ⟨g1, 12, none⟩ = some (.string ⟨#[60, 112, 111, 105, 110, 116, 62]⟩) := (b56.cell (p := ⟨g1, 12, none⟩) (by simp; omega)).trans C15.out
  have x2 : w6.cell? ⟨g2, 21, none⟩ = some (.int .i64 (-3)) := (b56.cell (p := ⟨g2, 21, none⟩) (by simp; omega)).trans C26.out
  have x3 : w6.cell? ⟨g2, 32, none⟩ = some (.string ⟨#[98, 45, 50]⟩) := (b56.cell (p := ⟨g2, 32, none⟩) (by simp; omega)).trans C27.out
  have x4 : w6.cell? ⟨g5, 8, none⟩ = some (.int .i64 7) := (b56.cell (p := ⟨g5, 8, none⟩) z5).trans C5.out
  clear hz6 b6 B5 C15 C26 C27 C5
  go_wp2_with fail
  have bz := (Below.refl _ w6).alloc (Nat.le_refl _) (.cells #[.int .i64 2, .int .i64 2] 47)
  refine (split_sane _ (HE.out _ (B6.out.alloc B6.out.size _))).mono ?_
  rintro e w7 ⟨rfl, b7⟩
  have hz7 : (w6.alloc (.cells #[.int .i64 2, .int .i64 2] 47)).heap.size = w6.heap.size + 1 := by simp
  have e7 : w7.heap[w6.heap.size]? = some (.cells #[.int .i64 2, .int .i64 2] 47) := (b7.block _ (by omega)).trans (World.alloc_heap_new w6 _)
  have b67 := bz.trans (b7.mono (by omega))
  have B7 := Lib.hid (B6.out.trans (b67.mono B6.out.size))
  have u1 : w7.cell? ⟨g1, 12, none⟩ = some (.string ⟨#[60, 112, 111, 105, 110, 116, 62]⟩) := (b67.cell (p := ⟨g1, 12, none⟩) (by simp; omega)).trans x1
  have u2 : w7.cell? ⟨g2, 21, none⟩ = some (.int .i64 (-3)) := (b67.cell (p := ⟨g2, 21, none⟩) (by simp; omega)).trans x2
  have u3 : w7.cell? ⟨g2, 32, none⟩ = some (.string ⟨#[98, 45, 50]⟩) := (b67.cell (p := ⟨g2, 32, none⟩) (by simp; omega)).trans x3
  have u4 : w7.cell? ⟨g5, 8, none⟩ = some (.int .i64 7) := (b67.cell (p := ⟨g5, 8, none⟩) (by simp; omega)).trans x4
  have u5 : w7.cell? ⟨w6.heap.size, 0, none⟩ = some (.int .i64 2) := cell_at e7
  have u6 : w7.cell? ⟨w6.heap.size, 1, none⟩ = some (.int .i64 2) := cell_at e7
  clear x1 x2 x3 x4 bz b7 hz7 e7 b67 B6
  go_wp2_with fail
  clear u1 u2 u3 u4 u5 u6
  refine (kind_sane _ (HE.out _ B7.out)).mono ?_
  rintro e w8 ⟨rfl, b8⟩
  have B8 := Lib.hid (B7.out.trans (b8.mono B7.out.size))
  clear b8 B7
  go_wp2_with fail
  refine (plain_sane1 _ (HE.out _ B8.out)).mono ?_
  rintro e w9 ⟨rfl, b9⟩
  have B9 := Lib.hid (B8.out.trans (b9.mono B8.out.size))
  clear b9 B8
  go_wp2_with fail
  refine (plain_sane2 _ (HE.out _ B9.out)).mono ?_
  rintro e w10 ⟨rfl, b10⟩
  have B10 := Lib.hid (B9.out.trans (b10.mono B9.out.size))
  clear b10 B9
  go_wp2_with fail
  refine bodyPost_ret (v := .bool true) (by simp [results, Tryd.results9, go_sem]) rfl ⟨rfl, B10.out⟩
end Go.Proofs.YtledmagigkpbeaaDoor
