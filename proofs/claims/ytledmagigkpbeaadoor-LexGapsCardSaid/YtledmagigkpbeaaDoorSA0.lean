/-
  What the laws' examples come to, of each function.
-/
import Derived.Test.YtledmagigkpbeaaDoorUP
import Derived.Test.YtledmagigkpbeaaDoorL
namespace Go.Proofs.YtledmagigkpbeaaDoor
open Go.RowKit Go.Shelf

theorem scan_row (t : ByteArray) (n : Nat) (hn : (toksR t).length = n) (hpos : 0 < n) (h1 : (piecesR t).2.1 = 0) (h2 : (piecesR t).2.2 = 0) (W : World) (E : Env W) :
    Calls Tryd.prog 15 #[.string t] W fun e w' => ∃ g cap, e = .returned (.tuple #[.slice (some ⟨g, 0, none⟩) n cap, .int .i64 0, .int .i64 0]) ∧ g < w'.heap.size ∧ (∀ j u, (flatT t (toksR t))[j]? = some u → w'.cell? ⟨g, j, none⟩ = some u) ∧ Below W.heap.size W w' := by
  refine (scan_any t W E).mono ?_
  rintro e w' ⟨v, rfl, hrow, hb⟩
  have hc := fun g => hrow.cells (g := g)
  rcases hrow.2 with ⟨rfl, h0⟩ | ⟨g, cap, cur, rfl, _, hg, _⟩
  · omega
  · refine ⟨g, cap, by rw [h1, h2, hn]; rfl, (Array.getElem?_eq_some_iff.1 hg).1, fun j u hu => ?_, hb⟩
    have := hc g rfl j u hu
    rw [Addr.add_zero_off] at this
    exact this
theorem scan_bad (t : ByteArray) (i c : Nat) (h1 : (piecesR t).2.1 = i) (h2 : (piecesR t).2.2 = c) (W : World) (E : Env W) :
    Calls Tryd.prog 15 #[.string t] W fun e w' => ∃ v, e = .returned (.tuple #[v, .int .i64 (i : Int), .int .i64 (c : Int)]) ∧ Below W.heap.size W w' := by
  refine (scan_any t W E).mono ?_
  rintro e w' ⟨v, rfl, _, hb⟩
  exact ⟨v, by rw [h1, h2], hb⟩
theorem pieces_row (t : ByteArray) (n : Nat) (hn : (piecesR t).1.length = n) (hpos : 0 < n) (h1 : (piecesR t).2.1 = 0) (h2 : (piecesR t).2.2 = 0) (W : World) (E : Env W) :
    Calls Tryd.prog 14 #[.string t] W fun e w' => ∃ g cap, e = .returned (.tuple #[.slice (some ⟨g, 0, none⟩) n cap, .int .i64 0, .int .i64 0]) ∧ g < w'.heap.size ∧ PcsAt w' g (piecesR t).1 ∧ Below W.heap.size W w' := by
  refine (pieces_all t W E).mono ?_
  rintro e w' ⟨v, rfl, hrow, hb⟩
  have hc := fun g => hrow.cells (g := g)
  rcases hrow.2 with ⟨rfl, h0⟩ | ⟨g, cap, cur, rfl, _, hg, _⟩
  · omega
  · refine ⟨g, cap, by rw [h1, h2, hn]; rfl, (Array.getElem?_eq_some_iff.1 hg).1, fun j u hu => ?_, hb⟩
    have := hc g rfl j u hu
    rw [Addr.add_zero_off] at this
    exact this
def insDD : ByteArray := ⟨#[100, 100]⟩
def nmArea : ByteArray := ⟨#[97, 114, 101, 97]⟩
def nmShapes : ByteArray := ⟨#[115, 104, 97, 112, 101, 115]⟩
def nmBoth : ByteArray := ⟨#[97, 114, 101, 97, 64, 115, 104, 97, 112, 101, 115]⟩
def nmX : ByteArray := ⟨#[120, 58]⟩
def nmEmpty : ByteArray := ⟨#[101, 109, 112, 116, 121, 63]⟩
def nmXL : ByteArray := ⟨#[120, 64, 108]⟩
set_option maxRecDepth 100000 in
theorem tk1 : (toksR tx1).length = 8 := by decide +kernel
set_option maxRecDepth 100000 in
theorem tk2 : (toksR tx2).length = 8 := by decide +kernel
set_option maxRecDepth 100000 in
theorem tc1 : (flatT tx1 (toksR tx1))[2 * 5 + 2]? = some (.string ⟨#[60, 112, 111, 105, 110, 116, 62]⟩) := by kernel_rfl
set_option maxRecDepth 100000 in
theorem tc2 : (flatT tx2 (toksR tx2))[4 * 5 + 1]? = some (.int .i64 (-3)) := by kernel_rfl
set_option maxRecDepth 100000 in
theorem tc3 : (flatT tx2 (toksR tx2))[6 * 5 + 2]? = some (.string ⟨#[98, 45, 50]⟩) := by kernel_rfl
set_option maxRecDepth 100000 in
theorem tsp : spliceB tx6 2 1 insDD = tx7 := by decide +kernel
set_option maxRecDepth 100000 in
theorem tfr : frontN ls6 ls7 0 = 2 ∧ backN ls6 ls7 1 2 0 = 2 := by decide +kernel
set_option maxRecDepth 100000 in
theorem tspl : splitB nmBoth = (nmArea, nmShapes) := by decide +kernel
set_option maxRecDepth 100000 in
theorem tkx : kindN nmX = 3 := by decide +kernel
set_option maxRecDepth 100000 in
theorem tpe : isPlainB nmEmpty = true := by decide +kernel
set_option maxRecDepth 100000 in
theorem tpx : isPlainB nmXL = false := by decide +kernel
theorem split_sane (W : World) (E : Env W) : Calls Tryd.prog 22 #[.string nmBoth] W fun e w' => e = .returned (.tuple #[.string ⟨#[97, 114, 101, 97]⟩, .string ⟨#[115, 104, 97, 112, 101, 115]⟩]) ∧ Below W.heap.size W w' := by
  have h := split_any nmBoth (by decide) W E
  rw [tspl] at h
  exact h
theorem kind_sane (W : World) (E : Env W) : Calls Tryd.prog 13 #[.string nmX] W fun e w' => e = .returned (.int .i64 3) ∧ Below W.heap.size W w' := by
  have h := kind_any nmX (by decide) W E
  rw [tkx] at h
  exact h
theorem plain_sane1 (W : World) (E : Env W) : Calls Tryd.prog 23 #[.string nmEmpty] W fun e w' => e = .returned (.bool true) ∧ Below W.heap.size W w' := by
  have h := isPlain_any nmEmpty (by decide) W E
  rw [tpe] at h
  exact h
theorem plain_sane2 (W : World) (E : Env W) : Calls Tryd.prog 23 #[.string nmXL] W fun e w' => e = .returned (.bool false) ∧ Below W.heap.size W w' := by
  have h := isPlain_any nmXL (by decide) W E
  rw [tpx] at h
  exact h
theorem row_ls6 (W : World) : RowIn (W.alloc (.cells #[.int .i64 1, .int .i64 0, .int .i64 1, .int .i64 7, .int .i64 1, .int .i64 1, .int .i64 1, .int .i64 2, .int .i64 1, .int .i64 7, .int .i64 3, .int .i64 1, .int .i64 1, .int .i64 4, .int .i64 1] 33)) (.slice (some ⟨W.heap.size, 0, none⟩) 5 5) ls6 := by
  refine ⟨_, 5, W.heap.size, rfl, by decide, fun _ => rfl, fun _ => by simp, fun _ j u hu => ?_⟩
  rw [cell_at (World.alloc_heap_new W _)]
  have h : (#[.int .i64 1, .int .i64 0, .int .i64 1, .int .i64 7, .int .i64 1, .int .i64 1, .int .i64 1, .int .i64 2, .int .i64 1, .int .i64 7, .int .i64 3, .int .i64 1, .int .i64 1, .int .i64 4, .int .i64 1] : Array Value).toList = flatP ls6 := rfl
  rw [← h] at hu
  simpa using hu
/-- The example of Update. -/
theorem upd_sane (v : Value) (W : World) (E : Env W) (hv : RowIn W v ls6) :
    Calls Tryd.prog 20 #[.string tx6, v, .agg #[.int .i64 2, .int .i64 1, .string insDD]] W fun e w' => ∃ v' : Option Addr × Nat, e = .returned (.tuple #[.slice v'.1 5 v'.2, .agg #[.int .i64 2, .int .i64 2], .int .i64 0, .int .i64 0]) ∧ Below W.heap.size W w' := by
  have h := upd_ok v tx6 insDD 2 1 (by decide) (by rw [pc6]) (by rw [tsp]; decide) (by rw [tsp, pc7]) W E (by rw [pc6]; exact hv)
  rw [tsp] at h
  refine h.mono ?_
  rintro e w' ⟨v', rfl, hrow, hb⟩
  rw [pc7] at hrow
  have hs : ∃ p : Option Addr × Nat, v' = .slice p.1 5 p.2 := by
    rcases hrow.2 with ⟨rfl, h0⟩ | ⟨g, cap, cur, rfl, _⟩
    · exact absurd h0 (by decide)
    · exact ⟨(some ⟨g, 0, none⟩, cap), rfl⟩
  obtain ⟨p, rfl⟩ := hs
  refine ⟨p, ?_, hb⟩
  rw [pc6, pc7]
  have h1 : ((tx7.size : Int) - (tx6.size : Int)) = 1 := by decide
  rw [h1, tfr.1, tfr.2]
  rfl
end Go.Proofs.YtledmagigkpbeaaDoor
