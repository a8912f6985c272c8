/-
  How recut leaves: its deferred closure, and what it returns.
-/
import Derived.Test.YtledmagigkpbeaaDoorP
import Derived.Test.YtledmagigkpbeaaDoorZ2
import Derived.Test.YtledmagigkpbeaaDoorRC2
import Derived.Test.YtledmagigkpbeaaDoorMath9
namespace Go.Proofs.YtledmagigkpbeaaDoor
open Go.RowKit Go.Shelf

theorem row_keep {w w' : World} {base e size n : Nat} {v : Value} {xs : List Value} (h : w.ownsRow base e size v n xs) (hs : ∀ k cur, base ≤ k → w.heap[k]? = some (.cells cur e (0, 0)) → v.ownBlock = some k → w'.heap[k]? = w.heap[k]?) : w'.ownsRow base e size v n xs := by
  refine ⟨h.1, ?_⟩
  rcases h.2 with hn | ⟨g, cap, cur, rfl, hb, hg, rest⟩
  · exact .inl hn
  · exact .inr ⟨g, cap, cur, rfl, hb, (hs g cur hb hg rfl).trans hg, rest⟩

/-- The results' variables of recut, read where the call leaves. -/
def ReadsRc (bm : Nat) (tm : Array Value) : Prop := ∀ (W : World) (a : Option Addr) (n c : Nat) (x y : Int), W.cell? ⟨bm, 0, none⟩ = some (.slice a n c) → W.cell? ⟨bm + 1, 0, none⟩ = some (.int .i64 x) → W.cell? ⟨bm + 2, 0, none⟩ = some (.int .i64 y) →
  (results Tryd.f35 tm).run Tryd.prog W = .ok (.tuple #[.slice a n c, .int .i64 x, .int .i64 y]) W

def rcDefers (bm dd : Nat) : List Deferred := [{ target := .collected dd, args := #[] }, { target := .fn (.func 52) #[.pointer (some ⟨bm, 0, none⟩), .pointer (some ⟨bm + 1, 0, none⟩), .pointer (some ⟨bm + 2, 0, none⟩)], args := #[] }]

theorem rleave_ok (t : ByteArray) (w W : World) (tm : Array Value) (bm dd base : Nat) (hb : w.heap.size ≤ bm) (hd0 : bm + 3 ≤ dd) (hbase : w.heap.size ≤ base) (hres : ReadsRc bm tm) (a : Option Addr) (n c : Nat)
    (h0 : W.cell? ⟨bm, 0, none⟩ = some (.slice a n c)) (h1 : W.cell? ⟨bm + 1, 0, none⟩ = some (.int .i64 ((piecesR t).2.1 : Int))) (h2 : W.cell? ⟨bm + 2, 0, none⟩ = some (.int .i64 ((piecesR t).2.2 : Int)))
    (hd : W.heap[dd]? = some (.deferred (some []))) (hrow : W.ownsRow base 33 3 (.slice a n c) (piecesR t).1.length (flatP (piecesR t).1)) (hB : Below w.heap.size w W) (hs : dd < W.heap.size) :
    LeavesInM Fence.wide 3 Tryd.prog Tryd.f35 tm (PiecesEnd t w) (rcDefers bm dd) .returning W := by
  refine ⟨by simp, .inl ⟨_, _, rfl, run_takeDeferred hd, ?_⟩⟩
  obtain ⟨W4, hW4⟩ : ∃ W4, W.putObj dd (.deferred none) = W4 := ⟨_, rfl⟩
  have s4 : W4.heap.size = W.heap.size := by rw [← hW4]; simp
  have k4 : ∀ k, k ≠ dd → W4.heap[k]? = W.heap[k]? := fun k hk => by rw [← hW4]; exact World.putObj_heap_other hk
  have b4 : W4.os = W.os ∧ W4.tape = W.tape ∧ W4.output = W.output := by rw [← hW4]; exact ⟨rfl, rfl, rfl⟩
  rw [hW4]
  clear hW4
  refine ⟨by simp, .inr ⟨fun _ => by omega, .func 52, _, 52, #[.pointer (some ⟨bm, 0, none⟩), .pointer (some ⟨bm + 1, 0, none⟩), .pointer (some ⟨bm + 2, 0, none⟩)], rfl, ?_, fun _ _ => trivial, ?_⟩⟩
  · simp [invoke, go_sem]
  · refine (recatch_none _ _ _ _ _).mono ?_
    rintro e u' W5 ⟨rfl, rfl, hb5⟩
    have z0 : W5.cell? ⟨bm, 0, none⟩ = some (.slice a n c) := (hb5.cell (p := ⟨bm, 0, none⟩) (by simp; omega)).trans ((World.cell?_of_block (w := W) (a := ⟨bm, 0, none⟩) (k4 _ (show bm ≠ dd by omega))).trans h0)
    have z1 : W5.cell? ⟨bm + 1, 0, none⟩ = some (.int .i64 ((piecesR t).2.1 : Int)) := (hb5.cell (p := ⟨bm + 1, 0, none⟩) (by simp; omega)).trans ((World.cell?_of_block (w := W) (a := ⟨bm + 1, 0, none⟩) (k4 _ (show bm + 1 ≠ dd by omega))).trans h1)
    have z2 : W5.cell? ⟨bm + 2, 0, none⟩ = some (.int .i64 ((piecesR t).2.2 : Int)) := (hb5.cell (p := ⟨bm + 2, 0, none⟩) (by simp; omega)).trans ((World.cell?_of_block (w := W) (a := ⟨bm + 2, 0, none⟩) (k4 _ (show bm + 2 ≠ dd by omega))).trans h2)
    have hr := hres W5 a n c _ _ z0 z1 z2
    have row5 : W5.ownsRow base 33 3 (.slice a n c) (piecesR t).1.length (flatP (piecesR t).1) :=
      row_same (row_keep hrow fun k cur _ hk _ => k4 k (by rintro rfl; rw [hd] at hk; simp at hk)) fun k h1 h2 => hb5.block k h2
    have low5 : Below w.heap.size w W5 := (show Below w.heap.size w W4 from ⟨b4.1.trans hB.os, b4.2.1.trans hB.tape, b4.2.2.trans hB.output, by have := hB.size; omega, fun k hk => (k4 k (by omega)).trans (hB.block k hk)⟩).trans (hb5.mono (by have := hB.size; omega))
    have fin : PiecesEnd t w (.returned (.tuple #[.slice a n c, .int .i64 ((piecesR t).2.1 : Int), .int .i64 ((piecesR t).2.2 : Int)])) W5 := ⟨_, rfl, row_base row5 hbase, low5⟩
    simp [LeavesInM, LeavesIn, settle, hr]
    exact fin

theorem rleave_bad (t : ByteArray) (w W : World) (tm : Array Value) (bm dd : Nat) (hb : w.heap.size ≤ bm) (hd0 : bm + 3 ≤ dd) (hres : ReadsRc bm tm) (p : Nat × Nat) (hp : piecesR t = ([], p.1, p.2)) (v : Value)
    (h0 : W.cell? ⟨bm, 0, none⟩ = some v) (h1 : W.cell? ⟨bm + 1, 0, none⟩ = some (.int .i64 0)) (h2 : W.cell? ⟨bm + 2, 0, none⟩ = some (.int .i64 0))
    (f0 : W.frozen? ⟨bm, 0, none⟩ = false) (f1 : W.frozen? ⟨bm + 1, 0, none⟩ = false) (f2 : W.frozen? ⟨bm + 2, 0, none⟩ = false)
    (hd : W.heap[dd]? = some (.deferred (some []))) (hB : Below w.heap.size w W) (hs : dd < W.heap.size) :
    LeavesInM Fence.wide 3 Tryd.prog Tryd.f35 tm (PiecesEnd t w) (rcDefers bm dd)
      (.panicking [{ v := .iface 59 (.agg #[.int .i64 (p.1 : Int), .int .i64 (p.2 : Int)]), recovered := false }]) W := by
  refine ⟨by simp, .inl ⟨_, _, rfl, run_takeDeferred hd, ?_⟩⟩
  obtain ⟨W4, hW4⟩ : ∃ W4, W.putObj dd (.deferred none) = W4 := ⟨_, rfl⟩
  have s4 : W4.heap.size = W.heap.size := by rw [← hW4]; simp
  have k4 : ∀ k, k ≠ dd → W4.heap[k]? = W.heap[k]? := fun k hk => by rw [← hW4]; exact World.putObj_heap_other hk
  have b4 : W4.os = W.os ∧ W4.tape = W.tape ∧ W4.output = W.output := by rw [← hW4]; exact ⟨rfl, rfl, rfl⟩
  rw [hW4]
  clear hW4
  refine ⟨by simp, .inr ⟨fun _ => by omega, .func 52, _, 52, #[.pointer (some ⟨bm, 0, none⟩), .pointer (some ⟨bm + 1, 0, none⟩), .pointer (some ⟨bm + 2, 0, none⟩)], rfl, ?_, fun _ _ => trivial, ?_⟩⟩
  · simp [invoke, go_sem]
  · have y0 := (World.cell?_of_block (w := W) (a := ⟨bm, 0, none⟩) (k4 _ (show bm ≠ dd by omega))).trans h0
    have y1 := (World.cell?_of_block (w := W) (a := ⟨bm + 1, 0, none⟩) (k4 _ (show bm + 1 ≠ dd by omega))).trans h1
    have y2 := (World.cell?_of_block (w := W) (a := ⟨bm + 2, 0, none⟩) (k4 _ (show bm + 2 ≠ dd by omega))).trans h2
    have u0 := (World.frozen?_of_block (w := W) (a := ⟨bm, 0, none⟩) (k4 _ (show bm ≠ dd by omega))).trans f0
    have u1 := (World.frozen?_of_block (w := W) (a := ⟨bm + 1, 0, none⟩) (k4 _ (show bm + 1 ≠ dd by omega))).trans f1
    have u2 := (World.frozen?_of_block (w := W) (a := ⟨bm + 2, 0, none⟩) (k4 _ (show bm + 2 ≠ dd by omega))).trans f2
    refine (recatch_refusal _ p.1 p.2 bm W4 (by omega) ⟨_, y0⟩ ⟨_, y1⟩ ⟨_, y2⟩ ⟨u0, u1, u2⟩).mono ?_
    rintro e u' W5 ⟨rfl, rfl, z0, z1, z2, hb5⟩
    have hr := hres W5 none 0 0 _ _ z0 z1 z2
    have low5 : Below w.heap.size w W5 := (show Below w.heap.size w W4 from ⟨b4.1.trans hB.os, b4.2.1.trans hB.tape, b4.2.2.trans hB.output, by have := hB.size; omega, fun k hk => (k4 k (by omega)).trans (hB.block k hk)⟩).trans (hb5.mono hb)
    have fin : PiecesEnd t w (.returned (.tuple #[.slice none 0 0, .int .i64 (p.1 : Int), .int .i64 (p.2 : Int)])) W5 := by
      unfold PiecesEnd
      rw [hp]
      exact ⟨_, rfl, World.ownsRow_nil _ _ _ _, low5⟩
    simp [LeavesInM, LeavesIn, settle, hr]
    exact fin
/-- recut returns the pieces so far. -/
theorem rleave_st {w W : World} {nb H b6 : Nat} {sh : Int} {R : Loop} {v : Value} {a : Nat} {ins t u : ByteArray} {i : Nat} {op : Bool} {c j : Nat} {op' : Bool} {c' k : Nat} {pre : List (Nat × Nat × Nat)} (h : RcSt w nb v a ins t u i op c j op' c' k pre W) (hR : RgFix H b6 sh R W) (hH : nb < H)
    (hp : piecesR u = (pre, 0, 0)) (b0 : Option Addr) (n0 c0 : Nat) (hv : W.cell? ⟨w.heap.size + 2, 0, none⟩ = some (.slice b0 n0 c0)) (tm : Array Value) (hres : ReadsRc (w.heap.size + 2) tm) :
    LeavesInM Fence.wide 3 Tryd.prog Tryd.f35 tm (PiecesEnd u w) (rcDefers (w.heap.size + 2) (H + 2)) .returning (((W.setCell ⟨w.heap.size + 2, 0, none⟩ (.slice b0 n0 c0)).setCell ⟨w.heap.size + 3, 0, none⟩ (.int .i64 0)).setCell ⟨w.heap.size + 4, 0, none⟩ (.int .i64 0)) := by
  have hz := h.fix.size; have hnb := h.fix.hnb; have hrz := hR.size
  obtain ⟨mv, hmv, hrow⟩ := h.row.row
  have hm : mv = .slice b0 n0 c0 := by rw [hv] at hmv; injection hmv with hmv; exact hmv.symm
  subst hm
  have hks : KeepS (fun q => q = w.heap.size + 2 ∨ q = w.heap.size + 3 ∨ q = w.heap.size + 4) W (((W.setCell ⟨w.heap.size + 2, 0, none⟩ (.slice b0 n0 c0)).setCell ⟨w.heap.size + 3, 0, none⟩ (.int .i64 0)).setCell ⟨w.heap.size + 4, 0, none⟩ (.int .i64 0)) :=
    KeepS.setCell (KeepS.setCell (KeepS.setCell (S := fun q => q = w.heap.size + 2 ∨ q = w.heap.size + 3 ∨ q = w.heap.size + 4) (KeepS.refl _ _) (.inl rfl) 0 _) (.inr (.inl rfl)) 0 _) (.inr (.inr rfl)) 0 _
  refine rleave_ok u w _ tm (w.heap.size + 2) (H + 2) (nb + 1) (by omega) (by omega) (by omega) hres b0 n0 c0 ?_ ?_ ?_ ?_ ?_ ?_ ?_
  · rw [World.cell?_setCell_other _ _ _ _ (by simp), World.cell?_setCell_other _ _ _ _ (by simp)]; exact World.cell?_setCell_same' _ _ _ (by rw [hv]; rfl)
  · rw [hp, World.cell?_setCell_other _ _ _ _ (by simp)]; exact World.cell?_setCell_same' _ _ _ (by rw [World.cell?_setCell_other _ _ _ _ (by simp), h.fix.c1]; rfl)
  · rw [hp]; exact World.cell?_setCell_same' _ _ _ (by rw [World.cell?_setCell_other _ _ _ _ (by simp), World.cell?_setCell_other _ _ _ _ (by simp), h.fix.c2]; rfl)
  · exact (hks.block _ (by omega) (by omega)).trans hR.dfr
  · rw [hp]
    exact row_keep hrow fun k cur h1 h2 _ => hks.block k (Array.getElem?_eq_some_iff.1 h2).1 (by omega)
  · exact h.fix.below.trans (hks.below (fun q e => by omega) (by omega))
  · have := hks.size; omega
/-- recut refuses. -/
theorem rleave_no {w W : World} {nb H b6 : Nat} {sh : Int} {R : Loop} {v : Value} {a : Nat} {ins t : ByteArray} (u : ByteArray) {i : Nat} {op : Bool} {c k : Nat} {pre : List (Nat × Nat × Nat)} (h : RcS0 w nb v a ins t i op c k pre W) (hR : RgFix H b6 sh R W) (hH : nb < H)
    (p : Nat × Nat) (hp : piecesR u = ([], p.1, p.2)) (tm : Array Value) (hres : ReadsRc (w.heap.size + 2) tm) :
    LeavesInM Fence.wide 3 Tryd.prog Tryd.f35 tm (PiecesEnd u w) (rcDefers (w.heap.size + 2) (H + 2)) (.panicking [{ v := .iface 59 (.agg #[.int .i64 (p.1 : Int), .int .i64 (p.2 : Int)]), recovered := false }]) W := by
  have hz := h.fix.size; have hnb := h.fix.hnb; have hrz := hR.size
  obtain ⟨mv, hmv, hrow⟩ := h.row.row
  exact rleave_bad u w W tm (w.heap.size + 2) (H + 2) (by omega) (by omega) hres p hp mv hmv h.fix.c1 h.fix.c2 h.row.f0 h.fix.f1 h.fix.f2 hR.dfr h.fix.below (by omega)
end Go.Proofs.YtledmagigkpbeaaDoor
