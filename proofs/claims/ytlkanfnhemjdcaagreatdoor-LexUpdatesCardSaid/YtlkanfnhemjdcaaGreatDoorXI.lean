/-
  How recut leaves: its deferred closure, and what it returns.
  recut, explored.
  Update.
  What the laws' examples come to, of each function.
  The laws' examples hold.
  The reference's equalities of pieces and of tokens.
-/
import Derived.Test.YtlkanfnhemjdcaaGreatDoorXO
import Derived.Test.YtlkanfnhemjdcaaGreatDoorXG
import Derived.Test.YtlkanfnhemjdcaaGreatDoorXH
import Derived.Test.YtlkanfnhemjdcaaGreatDoorXB
import Derived.Maps.AppendAt
import Derived.RangeFuncBox
import Derived.LoopNIn
import Derived.LoopIn
import Derived.BigQuiet
import Derived.Deep.RegionHeld3
namespace Go.Proofs.YtlkanfnhemjdcaaGreatDoor
section
open Go.RowKit Go.Shelf

theorem row_keep {w w' : World} {base e size n : Nat} {v : Value} {xs : List Value} (h : w.ownsRow base e size v n xs) (hs : ∀ k cur, base ≤ k → w.heap[k]? = some (.cells cur e (0, 0)) → v.ownBlock = some k → w'.heap[k]? = w.heap[k]?) : w'.ownsRow base e size v n xs := by
  refine ⟨h.1, ?_⟩
  rcases h.2 with hn | ⟨g, cap, cur, rfl, hb, hg, rest⟩
  · exact .inl hn
  · exact .inr ⟨g, cap, cur, rfl, hb, (hs g cur hb hg rfl).trans hg, rest⟩

/-- The results' variables of recut, read where the call leaves. -/
def ReadsRc (bm : Nat) (tm : Array Value) : Prop := ∀ (W : World) (a : Option Addr) (n c : Nat) (x y : Int), W.cell? ⟨bm, 0, none⟩ = some (.slice a n c) → W.cell? ⟨bm + 1, 0, none⟩ = some (.int .i64 x) → W.cell? ⟨bm + 2, 0, none⟩ = some (.int .i64 y) →
  (results Tryz.f56 tm).run Tryz.prog W = .ok (.tuple #[.slice a n c, .int .i64 x, .int .i64 y]) W

def rcDefers (bm dd : Nat) : List Deferred := [{ target := .collected dd, args := #[] }, { target := .fn (.func 79) #[.pointer (some ⟨bm, 0, none⟩), .pointer (some ⟨bm + 1, 0, none⟩), .pointer (some ⟨bm + 2, 0, none⟩)], args := #[] }]

theorem rleave_ok (t : ByteArray) (w W : World) (tm : Array Value) (bm dd base : Nat) (hb : w.heap.size ≤ bm) (hd0 : bm + 3 ≤ dd) (hbase : w.heap.size ≤ base) (hres : ReadsRc bm tm) (a : Option Addr) (n c : Nat)
    (h0 : W.cell? ⟨bm, 0, none⟩ = some (.slice a n c)) (h1 : W.cell? ⟨bm + 1, 0, none⟩ = some (.int .i64 ((piecesR t).2.1 : Int))) (h2 : W.cell? ⟨bm + 2, 0, none⟩ = some (.int .i64 ((piecesR t).2.2 : Int)))
    (hd : W.heap[dd]? = some (.deferred (some []))) (hrow : W.ownsRow base 59 3 (.slice a n c) (piecesR t).1.length (flatP (piecesR t).1)) (hB : Below w.heap.size w W) (hs : dd < W.heap.size) :
    LeavesInM Fence.wide 3 Tryz.prog Tryz.f56 tm (PiecesEnd t w) (rcDefers bm dd) .returning W := by
  refine ⟨by simp, .inl ⟨_, _, rfl, run_takeDeferred hd, ?_⟩⟩
  obtain ⟨W4, hW4⟩ : ∃ W4, W.putObj dd (.deferred none) = W4 := ⟨_, rfl⟩
  have s4 : W4.heap.size = W.heap.size := by rw [← hW4]; simp
  have k4 : ∀ k, k ≠ dd → W4.heap[k]? = W.heap[k]? := fun k hk => by rw [← hW4]; exact World.putObj_heap_other hk
  have b4 : W4.os = W.os ∧ W4.tape = W.tape ∧ W4.output = W.output := by rw [← hW4]; exact ⟨rfl, rfl, rfl⟩
  rw [hW4]
  clear hW4
  refine ⟨by simp, .inr ⟨fun _ => by omega, .func 79, _, 79, #[.pointer (some ⟨bm, 0, none⟩), .pointer (some ⟨bm + 1, 0, none⟩), .pointer (some ⟨bm + 2, 0, none⟩)], rfl, ?_, fun _ _ => trivial, ?_⟩⟩
  · simp [invoke, go_sem]
  · refine (recatch_none _ _ _ _ _).mono ?_
    rintro e u' W5 ⟨rfl, rfl, hb5⟩
    have z0 : W5.cell? ⟨bm, 0, none⟩ = some (.slice a n c) := (hb5.cell (p := ⟨bm, 0, none⟩) (by simp; omega)).trans ((World.cell?_of_block (w := W) (a := ⟨bm, 0, none⟩) (k4 _ (show bm ≠ dd by omega))).trans h0)
    have z1 : W5.cell? ⟨bm + 1, 0, none⟩ = some (.int .i64 ((piecesR t).2.1 : Int)) := (hb5.cell (p := ⟨bm + 1, 0, none⟩) (by simp; omega)).trans ((World.cell?_of_block (w := W) (a := ⟨bm + 1, 0, none⟩) (k4 _ (show bm + 1 ≠ dd by omega))).trans h1)
    have z2 : W5.cell? ⟨bm + 2, 0, none⟩ = some (.int .i64 ((piecesR t).2.2 : Int)) := (hb5.cell (p := ⟨bm + 2, 0, none⟩) (by simp; omega)).trans ((World.cell?_of_block (w := W) (a := ⟨bm + 2, 0, none⟩) (k4 _ (show bm + 2 ≠ dd by omega))).trans h2)
    have hr := hres W5 a n c _ _ z0 z1 z2
    have row5 : W5.ownsRow base 59 3 (.slice a n c) (piecesR t).1.length (flatP (piecesR t).1) :=
      row_same (row_keep hrow fun k cur _ hk _ => k4 k (by rintro rfl; rw [hd] at hk; simp at hk)) fun k h1 h2 => hb5.block k h2
    have low5 : Below w.heap.size w W5 := (show Below w.heap.size w W4 from ⟨b4.1.trans hB.os, b4.2.1.trans hB.tape, b4.2.2.trans hB.output, by have := hB.size; omega, fun k hk => (k4 k (by omega)).trans (hB.block k hk)⟩).trans (hb5.mono (by have := hB.size; omega))
    have fin : PiecesEnd t w (.returned (.tuple #[.slice a n c, .int .i64 ((piecesR t).2.1 : Int), .int .i64 ((piecesR t).2.2 : Int)])) W5 := ⟨_, rfl, row_base row5 hbase, low5⟩
    simp [LeavesInM, LeavesIn, settle, hr]
    exact fin

theorem rleave_bad (t : ByteArray) (w W : World) (tm : Array Value) (bm dd : Nat) (hb : w.heap.size ≤ bm) (hd0 : bm + 3 ≤ dd) (hres : ReadsRc bm tm) (p : Nat × Nat) (hp : piecesR t = ([], p.1, p.2)) (v : Value)
    (h0 : W.cell? ⟨bm, 0, none⟩ = some v) (h1 : W.cell? ⟨bm + 1, 0, none⟩ = some (.int .i64 0)) (h2 : W.cell? ⟨bm + 2, 0, none⟩ = some (.int .i64 0))
    (f0 : W.frozen? ⟨bm, 0, none⟩ = false) (f1 : W.frozen? ⟨bm + 1, 0, none⟩ = false) (f2 : W.frozen? ⟨bm + 2, 0, none⟩ = false)
    (hd : W.heap[dd]? = some (.deferred (some []))) (hB : Below w.heap.size w W) (hs : dd < W.heap.size) :
    LeavesInM Fence.wide 3 Tryz.prog Tryz.f56 tm (PiecesEnd t w) (rcDefers bm dd)
      (.panicking [{ v := .iface 61 (.agg #[.int .i64 (p.1 : Int), .int .i64 (p.2 : Int)]), recovered := false }]) W := by
  refine ⟨by simp, .inl ⟨_, _, rfl, run_takeDeferred hd, ?_⟩⟩
  obtain ⟨W4, hW4⟩ : ∃ W4, W.putObj dd (.deferred none) = W4 := ⟨_, rfl⟩
  have s4 : W4.heap.size = W.heap.size := by rw [← hW4]; simp
  have k4 : ∀ k, k ≠ dd → W4.heap[k]? = W.heap[k]? := fun k hk => by rw [← hW4]; exact World.putObj_heap_other hk
  have b4 : W4.os = W.os ∧ W4.tape = W.tape ∧ W4.output = W.output := by rw [← hW4]; exact ⟨rfl, rfl, rfl⟩
  rw [hW4]
  clear hW4
  refine ⟨by simp, .inr ⟨fun _ => by omega, .func 79, _, 79, #[.pointer (some ⟨bm, 0, none⟩), .pointer (some ⟨bm + 1, 0, none⟩), .pointer (some ⟨bm + 2, 0, none⟩)], rfl, ?_, fun _ _ => trivial, ?_⟩⟩
  · simp [invoke, go_sem]
  · have y0 := (World.cell?_of_block (w := W) (a := ⟨bm, 0, none⟩) (k4 _ (show bm ≠ dd by omega))).trans h0
    have y1 := (World.cell?_of_block (w := W) (a := ⟨bm + 1, 0, none⟩) (k4 _ (show bm + 1 ≠ dd by omega))).trans h1
    have y2 := (World.cell?_of_block (w := W) (a := ⟨bm + 2, 0, none⟩) (k4 _ (show bm + 2 ≠ dd by omega))).trans h2
    have u0 := (World.frozen?_of_block (w := W) (a := ⟨bm, 0, none⟩) (k4 _ (show bm ≠ dd by omega))).trans f0
    have u1 := (World.frozen?_of_block (w := W) (a := ⟨bm + 1, 0, none⟩) (k4 _ (show bm + 1 ≠ dd by omega))).trans f1
    have u2 := (World.frozen?_of_block (w := W) (a := ⟨bm + 2, 0, none⟩) (k4 _ (show bm + 2 ≠ dd by omega))).trans f2
    refine (recatch_refusal _ p.1 p.2 bm W4 (by omega) ⟨_, y0⟩ ⟨_, y1⟩ ⟨_, y2⟩ ⟨u0, u1, u2⟩).mono ?_
    rintro e u' W5 ⟨rfl, rfl, z0, z1, z2, hb5⟩
    have hr := hres W5 none 0 0 _ _ z0 z1 z2
    have low5 : Below w.heap.size w W5 := (show Below w.heap.size w W4 from ⟨b4.1.trans hB.os, b4.2.1.trans hB.tape, b4.2.2.trans hB.output, by have := hB.size; omega, fun k hk => (k4 k (by omega)).trans (hB.block k hk)⟩).trans (hb5.mono hb)
    have fin : PiecesEnd t w (.returned (.tuple #[.slice none 0 0, .int .i64 (p.1 : Int), .int .i64 (p.2 : Int)])) W5 := by
      unfold PiecesEnd
      rw [hp]
      exact ⟨_, rfl, World.ownsRow_nil _ _ _ _, low5⟩
    simp [LeavesInM, LeavesIn, settle, hr]
    exact fin
/-- recut returns the pieces so far. -/
theorem rleave_st {w W : World} {nb H b6 : Nat} {sh : Int} {R : Loop} {v : Value} {a : Nat} {ins t u : ByteArray} {i : Nat} {op : Bool} {c j : Nat} {op' : Bool} {c' k : Nat} {pre : List (Nat × Nat × Nat)} (h : RcSt w nb v a ins t u i op c j op' c' k pre W) (hR : RgFix H b6 sh R W) (hH : nb < H)
    (hp : piecesR u = (pre, 0, 0)) (b0 : Option Addr) (n0 c0 : Nat) (hv : W.cell? ⟨w.heap.size + 2, 0, none⟩ = some (.slice b0 n0 c0)) (tm : Array Value) (hres : ReadsRc (w.heap.size + 2) tm) :
    LeavesInM Fence.wide 3 Tryz.prog Tryz.f56 tm (PiecesEnd u w) (rcDefers (w.heap.size + 2) (H + 2)) .returning (((W.setCell ⟨w.heap.size + 2, 0, none⟩ (.slice b0 n0 c0)).setCell ⟨w.heap.size + 3, 0, none⟩ (.int .i64 0)).setCell ⟨w.heap.size + 4, 0, none⟩ (.int .i64 0)) := by
  have hz := h.fix.size; have hnb := h.fix.hnb; have hrz := hR.size
  obtain ⟨mv, hmv, hrow⟩ := h.row.row
  have hm : mv = .slice b0 n0 c0 := by rw [hv] at hmv; injection hmv with hmv; exact hmv.symm
  subst hm
  have hks : KeepS (fun q => q = w.heap.size + 2 ∨ q = w.heap.size + 3 ∨ q = w.heap.size + 4) W (((W.setCell ⟨w.heap.size + 2, 0, none⟩ (.slice b0 n0 c0)).setCell ⟨w.heap.size + 3, 0, none⟩ (.int .i64 0)).setCell ⟨w.heap.size + 4, 0, none⟩ (.int .i64 0)) :=
    KeepS.setCell (KeepS.setCell (KeepS.setCell (S := fun q => q = w.heap.size + 2 ∨ q = w.heap.size + 3 ∨ q = w.heap.size + 4) (KeepS.refl _ _) (.inl rfl) 0 _) (.inr (.inl rfl)) 0 _) (.inr (.inr rfl)) 0 _
  refine rleave_ok u w _ tm (w.heap.size + 2) (H + 2) (nb + 1) (by omega) (by omega) (by omega) hres b0 n0 c0 ?_ ?_ ?_ ?_ ?_ ?_ ?_
  · rw [World.cell?_setCell_other _ _ _ _ (by simp), World.cell?_setCell_other _ _ _ _ (by simp)]; exact World.cell?_setCell_same' _ _ _ (by rw [hv]; rfl)
  · rw [hp, World.cell?_setCell_other _ _ _ _ (by simp)]; exact World.cell?_setCell_same' _ _ _ (by rw [World.cell?_setCell_other _ _ _ _ (by simp), h.fix.c1]; rfl)
  · rw [hp]; exact World.cell?_setCell_same' _ _ _ (by rw [World.cell?_setCell_other _ _ _ _ (by simp), World.cell?_setCell_other _ _ _ _ (by simp), h.fix.c2]; rfl)
  · exact (hks.block _ (by omega) (by omega)).trans hR.dfr
  · rw [hp]
    exact row_keep hrow fun k cur h1 h2 _ => hks.block k (Array.getElem?_eq_some_iff.1 h2).1 (by omega)
  · exact h.fix.below.trans (hks.below (fun q e => by omega) (by omega))
  · have := hks.size; omega
/-- recut refuses. -/
theorem rleave_no {w W : World} {nb H b6 : Nat} {sh : Int} {R : Loop} {v : Value} {a : Nat} {ins t : ByteArray} (u : ByteArray) {i : Nat} {op : Bool} {c k : Nat} {pre : List (Nat × Nat × Nat)} (h : RcS0 w nb v a ins t i op c k pre W) (hR : RgFix H b6 sh R W) (hH : nb < H)
    (p : Nat × Nat) (hp : piecesR u = ([], p.1, p.2)) (tm : Array Value) (hres : ReadsRc (w.heap.size + 2) tm) :
    LeavesInM Fence.wide 3 Tryz.prog Tryz.f56 tm (PiecesEnd u w) (rcDefers (w.heap.size + 2) (H + 2)) (.panicking [{ v := .iface 61 (.agg #[.int .i64 (p.1 : Int), .int .i64 (p.2 : Int)]), recovered := false }]) W := by
  have hz := h.fix.size; have hnb := h.fix.hnb; have hrz := hR.size
  obtain ⟨mv, hmv, hrow⟩ := h.row.row
  exact rleave_bad u w W tm (w.heap.size + 2) (H + 2) (by omega) (by omega) hres p hp mv hmv h.fix.c1 h.fix.c2 h.row.f0 h.fix.f1 h.fix.f2 hR.dfr h.fix.below (by omega)
end

section
open Go.RowKit Go.Shelf
attribute [local go_sem] Oper.semAt_some

/-- A row of pieces that came in, perhaps none. -/
structure LIn (w : World) (b : Option Addr) (g : Nat) (l : List (Nat × Nat × Nat)) : Prop where
  addr : l ≠ [] → b = some ⟨g, 0, none⟩
  low : l ≠ [] → g < w.heap.size
  cells : l ≠ [] → PcsAt w g l
theorem unreached_gen (b : Option Addr) (g c N : Nat) (l : List (Nat × Nat × Nat)) (place : Int) (hN : N = unrN l place 0) (w0 w : World) (hI : LIn w0 b g l) (hB : Below w0.heap.size w0 w) (hl : ∀ x ∈ l, x.2.1 + x.2.2 ≤ 1048576) (hn : l.length ≤ 1048576) :
    Calls Tryz.prog 80 #[.slice b l.length c, .int .i64 place] w fun e w' => e = .returned (.int .i64 (N : Int)) ∧ Below w.heap.size w w' := by
  subst hN
  by_cases h : l = []
  · subst h
    rw [unrN_end (by simp)]
    exact unreached_none b c place w
  · have ha := hI.addr h
    subst ha
    exact unreached_some g c l place hl hn w (Nat.lt_of_lt_of_le (hI.low h) hB.size) (fun j u hu => (hB.cell (p := ⟨g, j, none⟩) (hI.low h)).trans (hI.cells h j u hu))

set_option maxHeartbeats 2000000 in
theorem heap9 {w w1 : World} {o0 o1 o2 o3 o4 o5 o6 o7 o8 : Obj} (hb : Below (((((((((w.alloc o0).alloc o1).alloc o2).alloc o3).alloc o4).alloc o5).alloc o6).alloc o7).alloc o8).heap.size (((((((((w.alloc o0).alloc o1).alloc o2).alloc o3).alloc o4).alloc o5).alloc o6).alloc o7).alloc o8) w1) :
    w1.heap[w.heap.size]? = some o0 ∧ w1.heap[w.heap.size + 1]? = some o1 ∧ w1.heap[w.heap.size + 2]? = some o2 ∧ w1.heap[w.heap.size + 3]? = some o3 ∧ w1.heap[w.heap.size + 4]? = some o4 ∧ w1.heap[w.heap.size + 5]? = some o5 ∧ w1.heap[w.heap.size + 6]? = some o6 ∧ w1.heap[w.heap.size + 7]? = some o7 ∧ w1.heap[w.heap.size + 8]? = some o8 ∧
      w.heap.size + 9 ≤ w1.heap.size ∧ Below w.heap.size w w1 := by
  obtain ⟨W, hW⟩ : ∃ W, W = (((((((((w.alloc o0).alloc o1).alloc o2).alloc o3).alloc o4).alloc o5).alloc o6).alloc o7).alloc o8) := ⟨_, rfl⟩
  rw [← hW] at hb
  have hB : Below w.heap.size w W := by
    subst hW
    exact (((((((((Below.refl _ w).alloc (Nat.le_refl _) _).alloc (by simp) _).alloc (by simp; omega) _).alloc (by simp; omega) _).alloc (by simp; omega) _).alloc (by simp; omega) _).alloc (by simp; omega) _).alloc (by simp; omega) _).alloc (by simp; omega) _
  have hH : W.heap = ((((((((w.heap.push o0).push o1).push o2).push o3).push o4).push o5).push o6).push o7).push o8 := by subst hW; rfl
  have hz : W.heap.size = w.heap.size + 9 := by rw [hH]; simp
  have key : ∀ k o, W.heap[k]? = some o → w1.heap[k]? = some o := fun k o h => (hb.block k (Array.getElem?_eq_some_iff.1 h).1).trans h
  refine ⟨key _ _ ?_, key _ _ ?_, key _ _ ?_, key _ _ ?_, key _ _ ?_, key _ _ ?_, key _ _ ?_, key _ _ ?_, key _ _ ?_, by have := hb.size; omega, hB.trans (hb.mono (by omega))⟩
  all_goals
    rw [hH]
    simp [Nat.add_assoc]
    simp [Array.getElem_push]
    try (repeat' (split <;> first | rfl | omega | skip))

theorem heap4 (w : World) (o0 o1 o2 o3 : Obj) : ((((w.alloc o0).alloc o1).alloc o2).alloc o3).heap[w.heap.size]? = some o0 ∧ ((((w.alloc o0).alloc o1).alloc o2).alloc o3).heap[w.heap.size + 1]? = some o1 ∧
    ((((w.alloc o0).alloc o1).alloc o2).alloc o3).heap[w.heap.size + 2]? = some o2 ∧ ((((w.alloc o0).alloc o1).alloc o2).alloc o3).heap[w.heap.size + 3]? = some o3 ∧ ((((w.alloc o0).alloc o1).alloc o2).alloc o3).heap.size = w.heap.size + 4 := by
  have n0 := World.alloc_heap_new w o0
  have n1 := World.alloc_heap_new (w.alloc o0) o1
  have n2 := World.alloc_heap_new ((w.alloc o0).alloc o1) o2
  have n3 := World.alloc_heap_new (((w.alloc o0).alloc o1).alloc o2) o3
  simp only [World.size_alloc, Nat.add_assoc, Nat.reduceAdd] at n1 n2 n3
  refine ⟨?_, ?_, ?_, n3, by simp⟩
  · exact (Below.heap_alloc _ o3 _ (by simp <;> omega)).trans ((Below.heap_alloc _ o2 _ (by simp <;> omega)).trans ((Below.heap_alloc _ o1 _ (by simp)).trans n0))
  · exact (Below.heap_alloc _ o3 _ (by simp)).trans ((Below.heap_alloc _ o2 _ (by simp)).trans n1)
  · exact (Below.heap_alloc _ o3 _ (by simp)).trans n2

def nOf (nb : Nat) (w : World) : Nat := match w.cell? ⟨nb, 0, none⟩ with
  | some (.int _ v) => v.toNat
  | _ => 0
theorem nOf_eq {nb k : Nat} {w : World} (h : w.cell? ⟨nb, 0, none⟩ = some (.int .i64 (k : Int))) : nOf nb w = k := by simp [nOf, h]
/-- What holds between two rounds over the new pieces. -/
def RcJ (w : World) (nb H : Nat) (v : Value) (a : Nat) (ins t : ByteArray) (L M : List (Nat × Nat × Nat)) (sh : Int) (R : Loop) (pre : List (Nat × Nat × Nat)) (W : World) : Prop :=
  ∃ k st, k ≤ L.length ∧ Steps t 0 false 0 (L.take k) st ∧ RcS0 w nb v a ins t st.1 st.2.1 st.2.2 k (M ++ pre) W ∧ RgFix H (w.heap.size + 6) sh R W
/-- What holds where the rounds are broken off. -/
def RcStop (w : World) (nb H : Nat) (v : Value) (a : Nat) (ins t u : ByteArray) (L M : List (Nat × Nat × Nat)) (sh : Int) (R : Loop) (i0 : Nat) (op0 : Bool) (n0 : Nat) (W : World) : Prop :=
  ∃ pre i op m k st, Steps u i0 op0 n0 pre (i, op, m) ∧ k ≤ L.length ∧ Steps t 0 false 0 (L.take k) st ∧ RcSt w nb v a ins t u st.1 st.2.1 st.2.2 i op m k (M ++ pre) W ∧ RgFix H (w.heap.size + 6) sh (doneL R 2) W ∧
    a + ins.size ≤ i ∧ (i : Int) = (st.1 : Int) + sh ∧ op = st.2.1
def RcY (w : World) (nb H : Nat) (v : Value) (a : Nat) (ins t u : ByteArray) (L M : List (Nat × Nat × Nat)) (sh : Int) (R : Loop) (i0 : Nat) (op0 : Bool) (n0 : Nat) (pre : List (Nat × Nat × Nat)) (x : Nat × Nat × Nat) (W1 : World) (e : Ending) (W' : World) : Prop :=
  (e = .returned (.bool true) ∧ RcJ w nb H v a ins t L M sh R (pre ++ [x]) W' ∧ (W'.heap[w.heap.size + 6]? = W1.heap[w.heap.size + 6]? ∧ W'.heap[H + 1]? = W1.heap[H + 1]?) ∧ W1.heap.size ≤ W'.heap.size) ∨
  (e = .returned (.bool false) ∧ RcStop w nb H v a ins t u L M sh R i0 op0 n0 W')
/-- What holds between two rounds of the inner loop. -/
def RcI (w : World) (nb H : Nat) (v : Value) (a : Nat) (ins t u : ByteArray) (L M : List (Nat × Nat × Nat)) (sh : Int) (Rb : Loop) (i : Nat) (op : Bool) (m : Nat) (W1 : World) (kk : Nat) (st : Nat × Bool × Nat) (wv : World) : Prop :=
  kk ≤ L.length ∧ Steps t 0 false 0 (L.take kk) st ∧ RcSt w nb v a ins t u st.1 st.2.1 st.2.2 i op m kk M wv ∧ RgFix H (w.heap.size + 6) sh Rb wv ∧ wv.heap[w.heap.size + 6]? = W1.heap[w.heap.size + 6]? ∧ W1.heap.size ≤ wv.heap.size
theorem RcI.grow {w : World} {nb H : Nat} {v : Value} {a : Nat} {ins t u : ByteArray} {L M : List (Nat × Nat × Nat)} {sh : Int} {Rb : Loop} {i : Nat} {op : Bool} {m : Nat} {W1 : World} {kk : Nat} {st : Nat × Bool × Nat} {W W' : World} (h : RcI w nb H v a ins t u L M sh Rb i op m W1 kk st W) (hH : w.heap.size + 6 < W.heap.size) (hk : KeepS (fun _ => False) W W') : RcI w nb H v a ins t u L M sh Rb i op m W1 kk st W' := by
  obtain ⟨h1, h2, h3, h4, h5, h6⟩ := h
  exact ⟨h1, h2, h3.grow hk, h4.keep hk (fun _ e => e.elim), (hk.block _ hH (fun e => e)).trans h5, Nat.le_trans h6 hk.size⟩
theorem RcI.pass {w : World} {nb H : Nat} {v : Value} {a : Nat} {ins t u : ByteArray} {L M : List (Nat × Nat × Nat)} {sh : Int} {Rb : Loop} {i : Nat} {op : Bool} {m : Nat} {W1 : World} {kk : Nat} {st st2 : Nat × Bool × Nat} {W W' : World} (h : RcI w nb H v a ins t u L M sh Rb i op m W1 kk st W) (hH : nb < H) (hk : KeptBut (w.heap.size + 5) W W')
    (hl : kk + 1 ≤ L.length) (hs : Steps t 0 false 0 (L.take (kk + 1)) st2) (hc : IsCut (w.heap.size + 5) st2.1 t st2.2.1 st2.2.2 W') (hf : CutFree (w.heap.size + 5) W') :
    NBox nb kk W' ∧ RcI w nb H v a ins t u L M sh Rb i op m W1 (kk + 1) st2 (W'.setCell ⟨nb, 0, none⟩ (.int .i64 ((kk : Int) + 1))) := by
  obtain ⟨h1, h2, h3, h4, h5, h6⟩ := h
  have hz := h3.fix.size; have hn := h3.fix.hnb
  have hp := h3.passO hk hc hf
  have hcn := hp.count (kk + 1)
  rw [show ((kk + 1 : Nat) : Int) = (kk : Int) + 1 by omega] at hcn
  have hks : KeepS (fun q => q = w.heap.size + 5) W W' := .of_kept hk rfl
  refine ⟨hp.nbox, hl, hs, hcn.1, (h4.keep hks (fun q e => by omega)).keep hcn.2 (fun q e => by omega), ?_, ?_⟩
  · exact (hcn.2.block _ (by have := hk.size; omega) (by omega)).trans ((hk.block _ (by omega) (by omega)).trans h5)
  · have := hk.size; have := hcn.2.size; omega
theorem RcI.go {w : World} {nb H : Nat} {v : Value} {a : Nat} {ins t u : ByteArray} {L M pre : List (Nat × Nat × Nat)} {x : Nat × Nat × Nat} {sh : Int} {R Rb : Loop} {i : Nat} {op : Bool} {m : Nat} {W1 : World} {kk : Nat} {st : Nat × Bool × Nat} {W : World} (h : RcI w nb H v a ins t u L (M ++ pre ++ [x]) sh Rb i op m W1 kk st W) (hH : nb < H)
    (hb : W1.heap[H + 1]? = some (.cells #[.pointer (some ⟨w.heap.size + 6, 0, none⟩)] 65)) : W.heap[H + 3]? = some (.loop Rb) ∧ RcJ w nb H v a ins t L M sh R (pre ++ [x]) (W.putObj (H + 3) (.loop R)) ∧ ((W.putObj (H + 3) (.loop R)).heap[w.heap.size + 6]? = W1.heap[w.heap.size + 6]? ∧ (W.putObj (H + 3) (.loop R)).heap[H + 1]? = W1.heap[H + 1]?) ∧ W1.heap.size ≤ (W.putObj (H + 3) (.loop R)).heap.size := by
  obtain ⟨h1, h2, h3, h4, h5, h6⟩ := h
  have hz := h3.fix.size; have hn := h3.fix.hnb
  rw [List.append_assoc] at h3
  have hks : KeepS (fun q => q = H + 3) W (W.putObj (H + 3) (.loop R)) := KeepS.putObj (S := fun q => q = H + 3) (KeepS.refl _ _) rfl _
  refine ⟨h4.lp, ⟨kk, st, h1, h2, (h3.keepH hks (fun q e => by subst e; exact ⟨by omega, h4.notRow⟩)).s0, h4.turn⟩, ⟨?_, ?_⟩, by have := hks.size; omega⟩
  · exact (World.putObj_heap_other (by omega)).trans h5
  · exact (World.putObj_heap_other (by omega)).trans (h4.box.trans hb.symm)
theorem RcI.stop {w : World} {nb H : Nat} {v : Value} {a : Nat} {ins t u : ByteArray} {L M pre : List (Nat × Nat × Nat)} {x : Nat × Nat × Nat} {sh : Int} {R Rb : Loop} {i : Nat} {op : Bool} {m : Nat} {W1 : World} {kk : Nat} {st : Nat × Bool × Nat} {W : World} {i0 : Nat} {op0 : Bool} {n0 : Nat} (h : RcI w nb H v a ins t u L (M ++ pre ++ [x]) sh Rb i op m W1 kk st W) (hH : nb < H)
    (hs : Steps u i0 op0 n0 (pre ++ [x]) (i, op, m)) (c1 : a + ins.size ≤ i) (c2 : (i : Int) = (st.1 : Int) + sh) (c3 : op = st.2.1) :
    W.heap[H + 3]? = some (.loop Rb) ∧ RcY w nb H v a ins t u L M sh R i0 op0 n0 pre x W1 (.returned (.bool false)) (W.putObj (H + 3) (.loop (doneL R 2))) := by
  obtain ⟨h1, h2, h3, h4, h5, h6⟩ := h
  have hz := h3.fix.size; have hn := h3.fix.hnb
  rw [List.append_assoc] at h3
  have hks : KeepS (fun q => q = H + 3) W (W.putObj (H + 3) (.loop (doneL R 2))) := KeepS.putObj (S := fun q => q = H + 3) (KeepS.refl _ _) rfl _
  exact ⟨h4.lp, Or.inr ⟨rfl, pre ++ [x], i, op, m, kk, st, hs, h1, h2, h3.keepH hks (fun q e => by subst e; exact ⟨by omega, h4.notRow⟩), h4.turn, c1, c2, c3⟩⟩
/-- What holds between two rounds of the last loop. -/
def RcL (w : World) (nb H : Nat) (v : Value) (a : Nat) (ins t u : ByteArray) (D P : List (Nat × Nat × Nat)) (sh : Int) (Rx : Loop) (st : Nat × Bool × Nat) (kk m q : Nat) (wr : World) : Prop :=
  ∃ j op c, c ≤ 6000 ∧ RcSt w nb v a ins t u st.1 st.2.1 st.2.2 j op c kk (P ++ (D.take q).map (shiftP sh)) wr ∧ RgFix H (w.heap.size + 6) sh Rx wr ∧ passAll ((D.map (shiftP sh)).drop q) c = passAll (D.map (shiftP sh)) m
theorem RcJ.keep6 {w : World} {nb H : Nat} {v : Value} {a : Nat} {ins t : ByteArray} {L M : List (Nat × Nat × Nat)} {sh : Int} {R : Loop} {pre : List (Nat × Nat × Nat)} {W W' : World} (h : RcJ w nb H v a ins t L M sh R pre W) (hH : w.heap.size + 6 < H) (hk : KeptBut (w.heap.size + 6) W W') : RcJ w nb H v a ins t L M sh R pre W' := by
  obtain ⟨k, st, h1, h2, h3, h4⟩ := h
  exact ⟨k, st, h1, h2, h3.keep6 hk, h4.keep (S := fun q => q = w.heap.size + 6) (.of_kept hk rfl) (fun q e => by omega)⟩

set_option maxHeartbeats 4000000 in
set_option maxRecDepth 100000 in
theorem recut_run (b : Option Addr) (g cap : Nat) (t u ins : ByteArray) (a d : Nat) (L : List (Nat × Nat × Nat)) (stL : Nat × Bool × Nat) (w : World) (E : Env w) (hu : u.size ≤ 20000) (ht : t.size ≤ 20000) (hI : LIn w b g L)
    (hai : a + ins.size ≤ 1048576) (hL : Steps t 0 false 0 L stL) (hLt : stL.1 = t.size) (hsp : ∀ i j : Nat, a + ins.size ≤ i → i ≤ u.size → (i : Int) = (j : Int) + ((u.size : Int) - (t.size : Int)) → j ≤ t.size → restB t j = restB u i) (hA : Agree t u a) (hn : L.length ≤ 1048576) (hc : L.length ≤ cap) :
    CallsIn Fence.wide 3 Tryz.prog 56 #[.string t, .slice b L.length cap, .agg #[.int .i64 (a : Int), .int .i64 (d : Int), .string ins], .string u] w (PiecesEnd u w) := by
  have hmf : ∀ (fn : Fn) (first cap : Array Value) (w : World), (Instr.makeFunc fn first cap).run Tryz.prog w = .ok (.func fn first cap) w := fun _ _ _ _ => rfl
  have hl : ∀ x ∈ L, x.2.1 + x.2.2 ≤ 1048576 := fun x hx => by
    have h1 := (steps_in L 0 false 0 stL hL x hx).2.1; have h2 := (steps_bounds L 0 false 0 stL hL (by omega)).2; omega
  refine callsIn_of_wp_marks Tryz.func56 rfl trivial ?_ rfl
  simp only [Tryz.ntmps56, List.size_toArray, List.length_cons, List.length_nil, Nat.reduceAdd, Nat.reduceSub, Array.replicate_succ,
     Array.replicate_zero, List.push_toArray, List.append_toArray, List.nil_append, List.cons_append]
  gi_wp2_with fail
  refine ⟨trivial, ?_⟩
  refine (callsIn_wide.2 (newCutter_any t _)).mono ?_
  rintro e w1 ⟨rfl, rfl⟩
  gi_wp2_with fail
  refine ⟨trivial, ?_⟩
  refine (callsIn_wide.2 (newCutter_any u _)).mono ?_
  rintro e w1 ⟨rfl, rfl⟩
  gi_wp2_with fail
  refine ⟨trivial, ?_⟩
  obtain ⟨N, hN⟩ : ∃ N, N = unrN L a 0 := ⟨_, rfl⟩
  refine (callsIn_wide.2 (unreached_gen b g cap N L a hN w _ hI ?hB hl hn)).mono ?_
  case hB => exact (((((((((Below.refl _ w).alloc (Nat.le_refl _) _).alloc (by simp) _).alloc (by simp; omega) _).alloc (by simp; omega) _).alloc (by simp; omega) _).alloc (by simp; omega) _).alloc (by simp; omega) _).alloc (by simp; omega) _).alloc (by simp; omega) _
  rintro e w1 ⟨rfl, hb1⟩
  obtain ⟨e0, e1, e2, e3, e4, e5, e6, e7, e8, hz, hB⟩ := heap9 hb1
  clear hb1
  have hNL : N ≤ L.length := by rw [hN]; exact (unrN_spec L a L.length 0 (by omega) (by omega)).2.1
  have hPB := pre_both hL hA
  rw [← hN] at hPB
  simp only [Nat.add_assoc, Nat.reduceAdd]
  have hst : ∀ W2, W2 = w1.alloc (.cells #[.int .i64 (N : Int)] 3) → RcSt w w1.heap.size (.slice b L.length cap) a ins t u 0 false 0 0 false 0 N [] W2 := by
    intro W2 hW2
    have key : ∀ k o, w1.heap[k]? = some o → W2.heap[k]? = some o := fun k o h => by rw [hW2]; exact (Below.heap_alloc w1 _ k (Array.getElem?_eq_some_iff.1 h).1).trans h
    have en : W2.heap[w1.heap.size]? = some (.cells #[.int .i64 (N : Int)] 3) := by rw [hW2]; exact World.alloc_heap_new w1 _
    have hz2 : W2.heap.size = w1.heap.size + 1 := by rw [hW2]; simp
    exact ⟨⟨cell_at (key _ _ e0), cell_at (key _ _ e1), cell_at (key _ _ e1), cell_at (key _ _ e3), cell_at (key _ _ e4), cell_at (key _ _ e7), cell_at (key _ _ e8), frozen_at (key _ _ e3), frozen_at (key _ _ e4), by rw [hW2]; exact hB.alloc hB.size _, by omega, by omega⟩,
      ⟨⟨.slice none 0 0, cell_at (key _ _ e2), World.ownsRow_nil _ _ _ _⟩, frozen_at (key _ _ e2)⟩, ⟨cell_at en, frozen_at en⟩,
      ⟨cell_at (key _ _ e5), cell_at (key _ _ e5), cell_at (key _ _ e5), cell_at (key _ _ e5)⟩, fun o => frozen_at (key _ _ e5), ⟨cell_at (key _ _ e6), cell_at (key _ _ e6), cell_at (key _ _ e6), cell_at (key _ _ e6)⟩, fun o => frozen_at (key _ _ e6)⟩
  have hs2 := hst _ rfl
  have HST := Lib.hid hs2
  have q0 : (w1.alloc (.cells #[.int .i64 (N : Int)] 3)).cell? ⟨w.heap.size, 0, none⟩ = some (.slice b L.length cap) := hs2.fix.lbox
  have HN := Lib.hid hN; have HL := Lib.hid hL; have HB := Lib.hid hB; have HHL := Lib.hid hl
  obtain ⟨M, hM⟩ : ∃ M, M = L.take N := ⟨_, rfl⟩
  rw [← hM] at hPB
  have hMl : M.length = N := by rw [hM, List.length_take]; omega
  have HM := Lib.hid hM; have HPB := Lib.hid hPB; have HML := Lib.hid hMl
  clear hst hs2 e0 e1 e2 e3 e4 e5 e6 e7 e8 hN hM hPB hL hB hl hMl hA
  gi_wp2_with fail
  clear q0
  gi_loopw [33] (fun iv wr => ∃ k : Nat, k ≤ N ∧ iv = .int .i64 (k : Int) ∧ ∃ st st', Hid (Steps t 0 false 0 (M.take k) st) ∧ Hid (Steps u 0 false 0 (M.take k) st') ∧ Hid (RcSt w w1.heap.size (.slice b L.length cap) a ins t u st.1 st.2.1 st.2.2 st'.1 st'.2.1 st'.2.2 N (M.take k) wr)) (fun iv _ => N - (intOf iv).toNat)
  case atStart => exact ⟨0, by omega, rfl, (0, false, 0), (0, false, 0), Lib.hid rfl, Lib.hid rfl, HST⟩
  case round =>
    clear HST
    obtain ⟨k, hk, rfl, s, s', hs, hs', HS⟩ := hrel
    by_cases hlt : k < N
    · obtain ⟨x, hx⟩ : ∃ x, L[k]? = some x := ⟨_, List.getElem?_eq_getElem (by omega)⟩
      have hxM : M[k]? = some x := by rw [HM.out, List.getElem?_take_of_lt hlt]; exact hx
      have hne : L ≠ [] := by rintro rfl; simp at hx
      have hba := hI.addr hne
      subst hba
      have hglow := hI.low hne
      have hcell := hI.cells hne
      obtain ⟨sT, hsT, hsU⟩ := HPB.out
      have nT := steps_next hsT hs.out hxM
      have nU := steps_next hsU hs'.out hxM
      have hbd := next_bounds nT.2.1 nT.2.2.1
      have hbdU := next_bounds nU.2.1 nU.2.2.1
      have l0 : wr.cell? ⟨g, k * 3, none⟩ = some (.int .i64 (x.1 : Int)) := (HS.out.fix.below.cell (p := ⟨g, k * 3, none⟩) hglow).trans (hcell.c0 hx)
      have l1 : wr.cell? ⟨g, k * 3 + 1, none⟩ = some (.int .i64 (x.2.1 : Int)) := (HS.out.fix.below.cell (p := ⟨g, k * 3 + 1, none⟩) hglow).trans (hcell.c1 hx)
      have l2 : wr.cell? ⟨g, k * 3 + 2, none⟩ = some (.int .i64 (x.2.2 : Int)) := (HS.out.fix.below.cell (p := ⟨g, k * 3 + 2, none⟩) hglow).trans (hcell.c2 hx)
      have hp1 : ∀ o, RcSt w w1.heap.size (.slice (some ⟨g, 0, none⟩) L.length cap) a ins t u s.1 s.2.1 s.2.2 s'.1 s'.2.1 s'.2.2 N (M.take k) (wr.alloc o) := fun o => HS.out.grow ((KeepS.refl _ _).alloc o)
      have HP1 := Lib.hid hp1
      have q7 : ∀ o, (wr.alloc o).cell? ⟨w.heap.size + 7, 0, none⟩ = some (.pointer (some ⟨w.heap.size + 5, 0, none⟩)) := fun o => (HP1.out o).fix.old
      have HX := Lib.hid hx; have HXM := Lib.hid hxM; have HT := Lib.hid nT; have HU := Lib.hid nU; have HBD := Lib.hid hbd; have HBU := Lib.hid hbdU
      have hlt' : (k : Int) < (N : Int) := by omega
      clear hp1 hx nT nU hbd hbdU hcell hxM hsT hsU
      gi_wp2_with fail
      refine ⟨trivial, ?_⟩
      obtain ⟨Wp, hWp⟩ : ∃ Wp, Wp = wr.alloc (.cells #[.int .i64 (x.1 : Int), .int .i64 (x.2.1 : Int), .int .i64 (x.2.2 : Int)] 59) := ⟨_, rfl⟩
      have hpn : Wp.heap[wr.heap.size]? = some (.cells #[.int .i64 (x.1 : Int), .int .i64 (x.2.1 : Int), .int .i64 (x.2.2 : Int)] 59) := by rw [hWp]; exact World.alloc_heap_new wr _
      have hpz : Wp.heap.size = wr.heap.size + 1 := by rw [hWp]; simp
      have hP1 : RcSt w w1.heap.size (.slice (some ⟨g, 0, none⟩) L.length cap) a ins t u s.1 s.2.1 s.2.2 s'.1 s'.2.1 s'.2.2 N (M.take k) Wp := by rw [hWp]; exact HP1.out _
      rw [← hWp]
      clear q7 HP1 hWp l0 l1 l2
      have hzz := HS.out.fix.size; have hnbz := HS.out.fix.hnb
      have hc0 : s.2.2 ≤ 6000 := steps_count _ _ _ _ _ hs.out (by omega)
      have hc1 : s'.2.2 ≤ 6000 := steps_count _ _ _ _ _ hs'.out (by omega)
      have hpa := pass_any (w.heap.size + 5) s.1 s.2.2 x.1 x.2.1 x.2.2 t s.2.1 Wp (by omega) HBD.out.2.1 hc0 (by have := HBD.out.2.2.2; have := HT.out.1; omega) (by omega) hP1.co hP1.fo
      have HP1 := Lib.hid hP1
      clear hP1
      refine (callsIn_wide.2 hpa).mono ?_
      clear hpa
      intro e w2 hpp
      rw [PassPost, if_neg (by have := HT.out.2.2.2.1; exact this)] at hpp
      obtain ⟨rfl, hcut2, hfree2, hkb2⟩ := hpp
      have hP2 := HP1.out.passO hkb2 hcut2 hfree2
      have hpn2 : w2.heap[wr.heap.size]? = _ := (hkb2.block _ (by omega) (by omega)).trans hpn
      have q8 : w2.cell? ⟨w.heap.size + 8, 0, none⟩ = some (.pointer (some ⟨w.heap.size + 6, 0, none⟩)) := hP2.fix.now
      have d0 : w2.cell? ⟨wr.heap.size, 0, none⟩ = some (.int .i64 (x.1 : Int)) := cell_at hpn2
      have d1 : w2.cell? ⟨wr.heap.size, 1, none⟩ = some (.int .i64 (x.2.1 : Int)) := cell_at hpn2
      have d2 : w2.cell? ⟨wr.heap.size, 2, none⟩ = some (.int .i64 (x.2.2 : Int)) := cell_at hpn2
      have hz2 := hkb2.size
      have hpb := pass_any (w.heap.size + 6) s'.1 s'.2.2 x.1 x.2.1 x.2.2 u s'.2.1 w2 (by omega) HBU.out.2.1 hc1 (by have := HBU.out.2.2.2; have := HU.out.1; omega) (by omega) hP2.cn hP2.fn
      have HP2 := Lib.hid hP2; have HPB2 := Lib.hid hpb; have HPN2 := Lib.hid hpn2
      clear hP2 hpb hkb2 hcut2 hfree2 hpn hpn2 HP1
      gi_wp2_with fail
      refine ⟨trivial, ?_⟩
      refine (callsIn_wide.2 HPB2.out).mono ?_
      clear HPB2
      intro e w3 hpp
      rw [PassPost, if_neg (by have := HU.out.2.2.2.1; exact this)] at hpp
      obtain ⟨rfl, hcut3, hfree3, hkb3⟩ := hpp
      have hP3 := HP2.out.passN hkb3 hcut3 hfree3
      have hpn3 : w3.heap[wr.heap.size]? = _ := (hkb3.block _ (by omega) (by omega)).trans HPN2.out
      have hz3 := hkb3.size
      clear d0 d1 d2 q8 HPN2
      have d0 : w3.cell? ⟨wr.heap.size, 0, none⟩ = some (.int .i64 (x.1 : Int)) := cell_at hpn3
      have d1 : w3.cell? ⟨wr.heap.size, 1, none⟩ = some (.int .i64 (x.2.1 : Int)) := cell_at hpn3
      have d2 : w3.cell? ⟨wr.heap.size, 2, none⟩ = some (.int .i64 (x.2.2 : Int)) := cell_at hpn3
      obtain ⟨mv, hmv, hrow⟩ := hP3.row.row
      have hmf3 := hP3.row.f0
      have hMk : (M.take k).length = k := by rw [List.length_take]; have := HML.out; omega
      have R5 := Lib.hid hrow; have HP3 := Lib.hid hP3; have HMK := Lib.hid hMk
      have hlt5 := hrow.lt
      have HLT := Lib.hid hlt5
      obtain ⟨i0, hi, hz0, hz1', hz2'⟩ := info_parts infoP
      clear hP3 hkb3 hcut3 hfree3 hpn3 HP2 hrow hlt5 hMk
      have hnew : ∀ j y, (cellsP x)[j]? = some y → (w3.alloc (.cells #[.int .i64 (x.1 : Int), .int .i64 (x.2.1 : Int), .int .i64 (x.2.2 : Int)] 59)).cell? ((⟨w3.heap.size, 0, none⟩ : Addr).add j) = some y := by
        intro j y hj
        match j, hj with
        | 0, hj => simp [cellsP] at hj; subst hj; simp [Addr.add]
        | 1, hj => simp [cellsP] at hj; subst hj; simp [Addr.add]
        | 2, hj => simp [cellsP] at hj; subst hj; simp [Addr.add]
        | j + 3, hj => simp [cellsP] at hj
      have HNEW := Lib.hid hnew
      have hkk : ∀ o w7, (w3.alloc o).grownBy w7 mv.ownBlock → w7.heap[w.heap.size + 2]? = w3.heap[w.heap.size + 2]? := fun o w7 hg =>
        (hg.block _ (by simp; omega) (fun e => by have := (HLT.out _ e.symm).1; omega)).trans (Below.heap_alloc w3 o _ (by omega))
      have KK := Lib.hid hkk
      clear hkk hnew
      gi_wp2_with (first
        | (gi_at_builtin; go_loud (refine wpListIn_append_own _ rfl _ _ 23 rfl (w1.heap.size + 1) 59 i0 (.agg #[.int .i64 0, .int .i64 0, .int .i64 0]) 3 24 Tryz.underlying23 hi hz0 hz1' hz2' rfl (by decide) _ _ _ rfl (R5.out.alloc _) ⟨w3.heap.size, 0, none⟩ 1 1 (cellsP x) rfl rfl HNEW.out (by simp [cellsP, Value.oneCell']) (by unfold maxLen; have := HMK.out; omega) (by have := HMK.out; omega) (by simp; omega) ?_); intro v' w7 hown' hgrow _;
             obtain ⟨g', cap', rfl⟩ := ownsRow_succ hown';
             have c7 : w7.cell? ⟨w.heap.size + 2, 0, none⟩ = some mv := (World.cell?_of_block (w := w3) (a := ⟨w.heap.size + 2, 0, none⟩) (KK.out _ _ hgrow)).trans hmv;
             have f7 : w7.frozen? ⟨w.heap.size + 2, 0, none⟩ = false := (World.frozen?_of_block (w := w3) (a := ⟨w.heap.size + 2, 0, none⟩) (KK.out _ _ hgrow)).trans hmf3;
             have HOWN := Lib.hid hown'; have HG := Lib.hid hgrow; clear hown' hgrow))
      have hsn := HP3.out.snoc hmv R5.out HOWN.out HG.out
      have hfin := hsn.1
      rw [List.length_take] at hfin
      have htk : M.take (k + 1) = M.take k ++ [x] := by
        obtain ⟨h1, h2⟩ := List.getElem?_eq_some_iff.1 HXM.out
        rw [List.take_succ_eq_append_getElem h1, h2]
      have nT := HT.out.2.2.2.2
      have nU := HU.out.2.2.2.2
      rw [← HT.out.1] at nT
      rw [← HU.out.1] at nU
      refine ⟨⟨k + 1, by omega, by simp, _, _, Lib.hid nT, Lib.hid nU, Lib.hid ?_⟩, by simp only [intOf]; omega⟩
      rw [htk]
      exact hfin
    · have hkN : k = N := by omega
      subst hkN
      obtain ⟨wq, rfl⟩ : ∃ wq, wq = wr := ⟨_, rfl⟩
      have hMM : M.take k = M := by rw [← HML.out]; exact List.take_length
      rw [hMM] at hs hs' HS
      clear hlt hk HB hMM
      have wsub : IntKind.i64.wrap ((u.size : Int) - (t.size : Int)) = (u.size : Int) - (t.size : Int) := IntWalk.i64_in _ (by omega)
      have hS2 : ∀ o, RcSt w w1.heap.size (.slice b L.length cap) a ins t u s.1 s.2.1 s.2.2 s'.1 s'.2.1 s'.2.2 k M (wq.alloc o) := fun o => HS.out.grow ((KeepS.refl _ _).alloc o)
      have HS2 := Lib.hid hS2
      have q8 : ∀ o, (wq.alloc o).cell? ⟨w.heap.size + 8, 0, none⟩ = some (.pointer (some ⟨w.heap.size + 6, 0, none⟩)) := fun o => (HS2.out o).fix.now
      clear hS2
      gi_wp2_with fail
      refine ⟨trivial, ?_⟩
      refine (callsIn_wide.2 (pieces_any _ _)).mono ?_
      rintro e w2 ⟨rfl, rfl⟩
      gi_wp2_with fail
      refine range_own rfl (by omega) (gf := 58) (lb := #[.pointer (some ⟨wq.heap.size + 1, 0, none⟩)]) rfl trivial (enters_of Tryz.func58 (by kernel_rfl) rfl) ?_
      intro fn R _ hR
      have rs : R.state = .ready := by rw [hR]
      have rp : R.pending = none := by rw [hR]
      have rq : R.params = #[55] := by rw [hR]
      have rt := congrArg Loop.tmps hR
      have ra := congrArg Loop.assign hR
      have rb := congrArg Loop.body hR
      simp only at rt ra rb
      clear hR
      simp only [List.append_toArray, List.cons_append, List.nil_append]
      obtain ⟨W0, hW0⟩ : ∃ W0, W0 = ((((wq.alloc (.cells #[.int .i64 ((u.size : Int) - (t.size : Int))] 3)).alloc (.cells #[.pointer (some ⟨w.heap.size + 6, 0, none⟩)] 65)).alloc (.deferred (some []))).alloc (.loop R)) := ⟨_, rfl⟩
      simp only [World.size_alloc, Nat.add_assoc, Nat.reduceAdd]
      rw [← hW0]
      have hfin : RcSt w w1.heap.size (.slice b L.length cap) a ins t u s.1 s.2.1 s.2.2 s'.1 s'.2.1 s'.2.2 k M W0 ∧ RgFix wq.heap.size (w.heap.size + 6) ((u.size : Int) - (t.size : Int)) R W0 := by
        have hks : KeepS (fun _ => False) wq W0 := by rw [hW0]; exact ((((KeepS.refl _ _).alloc _).alloc _).alloc _).alloc _
        refine ⟨HS.out.grow hks, ?_⟩
        obtain ⟨f0, f1, f2, f3, f4⟩ := heap4 wq (.cells #[.int .i64 ((u.size : Int) - (t.size : Int))] 3) (.cells #[.pointer (some ⟨w.heap.size + 6, 0, none⟩)] 65) (.deferred (some [])) (.loop R)
        rw [← hW0] at f0 f1 f2 f3 f4
        exact ⟨f0, f1, f2, f3, by omega⟩
      obtain ⟨hS0, hR0⟩ := hfin
      have hzz := HS.out.fix.size; have hnbz := HS.out.fix.hnb
      have hc1 : s'.2.2 ≤ 6000 := steps_count _ _ _ _ _ hs'.out (by omega)
      have hi1 : s'.1 ≤ u.size := (steps_bounds _ _ _ _ _ hs'.out (by omega)).2
      have hkL : k ≤ L.length := hNL
      have hML : M = L.take k := HM.out
      refine (iter_stop 2 _ (w.heap.size + 6) (wq.heap.size + 1) u (by omega) (by omega) s'.1 s'.2.1 s'.2.2 (RcJ w w1.heap.size wq.heap.size (.slice b L.length cap) a ins t L M ((u.size : Int) - (t.size : Int)) R)
        (RcStop w w1.heap.size wq.heap.size (.slice b L.length cap) a ins t u L M ((u.size : Int) - (t.size : Int)) R s'.1 s'.2.1 s'.2.2) (fun _ _ _ h hk => h.keep6 (by omega) hk) (fun _ _ h => by obtain ⟨_, _, _, _, h3, _⟩ := h; exact E.below E.size h3.fix.below) ?hy W0 ?hw).mono ?_
      case hw =>
        exact ⟨hS0.cn, hS0.fn, cell_at hR0.box, by have := hR0.size; omega, by have := hR0.size; omega, hi1, hc1, ⟨k, s, hkL, by rw [← hML]; exact hs.out, by rw [List.append_nil]; exact hS0.s0, hR0⟩, rfl⟩
      case hy =>
        clear hS0 hR0 hW0 HS2 q8 hML
        intro pre x i op m W1 hj hst hcut hfree hi hm hbs hcbs
        obtain ⟨kk, st, hkk, hsk, H0, RG⟩ := hj
        obtain ⟨Rb, hRb⟩ : ∃ Rb : Loop, Rb = { R with state := .busy } := ⟨_, rfl⟩
        refine (show YieldAt _ _ _ _ _ _ (RcY w w1.heap.size wq.heap.size (.slice b L.length cap) a ins t u L M ((u.size : Int) - (t.size : Int)) R s'.1 s'.2.1 s'.2.2 pre x W1) from yield_own2 (R := R) hRb trivial RG.lp rs rp (by rw [rq]; rfl) ?_)
        have HRB := Lib.hid hRb
        clear hRb
        rw [ra, rt, rq]
        have RB := Lib.hid rb
        have HST2 := Lib.hid hst; have HSK := Lib.hid hsk; have HH0 := Lib.hid (H0.full hcut hfree); have HRG := Lib.hid RG
        have HL' := Lib.hid HL.out
        have HBX := Lib.hid RG.box
        clear ra rt rq rb rs rp hst hsk H0 RG hcut hfree E HML HN HL HHL hmf
        simp only [encP, List.zip_toArray, List.zip_cons_cons, List.zip_nil_right, List.foldl_toArray, List.foldl_cons, List.foldl_nil, List.setIfInBounds_toArray, List.set_cons_zero, List.set_cons_succ]
        gi_wp2_with fail
        have hzr := HRG.out.size
        refine ⟨(Below.heap_alloc W1 _ _ (by omega)).trans HRG.out.lp, ?_⟩
        rw [RB.out]
        clear RB
        obtain ⟨Wp, hWp⟩ : ∃ Wp, Wp = W1.alloc (.cells #[.int .i64 (x.1 : Int), .int .i64 (x.2.1 : Int), .int .i64 (x.2.2 : Int)] 59) := ⟨_, rfl⟩
        obtain ⟨W5, hW5⟩ : ∃ W5, W5 = Wp.putObj (wq.heap.size + 3) (.loop Rb) := ⟨_, rfl⟩
        rw [← hWp, ← hW5]
        have hkp : KeepS (fun _ => False) W1 Wp := by rw [hWp]; exact (KeepS.refl _ _).alloc _
        have hRp : RgFix wq.heap.size (w.heap.size + 6) ((u.size : Int) - (t.size : Int)) R Wp := HRG.out.keep hkp (fun _ e => e.elim)
        have hR5 : RgFix wq.heap.size (w.heap.size + 6) ((u.size : Int) - (t.size : Int)) Rb W5 := by rw [hW5]; exact hRp.turn
        have hS5 : RcSt w w1.heap.size (.slice b L.length cap) a ins t u st.1 st.2.1 st.2.2 i op m kk (M ++ pre) W5 := by
          rw [hW5]
          exact (HH0.out.grow hkp).keepH (S := fun q => q = wq.heap.size + 3) (KeepS.putObj (S := fun q => q = wq.heap.size + 3) (KeepS.refl _ _) rfl _) (fun q e => by subst e; exact ⟨by omega, hRp.notRow⟩)
        have hpz : Wp.heap.size = W1.heap.size + 1 := by rw [hWp]; simp
        have hz5 : W5.heap.size = W1.heap.size + 1 := by rw [hW5]; simp; exact hpz
        have hpn : W5.heap[W1.heap.size]? = some (.cells #[.int .i64 (x.1 : Int), .int .i64 (x.2.1 : Int), .int .i64 (x.2.2 : Int)] 59) := by
          rw [hW5, World.putObj_heap_other (by omega), hWp]; exact World.alloc_heap_new W1 _
        have hsame5 : W5.heap[w.heap.size + 6]? = W1.heap[w.heap.size + 6]? := by
          rw [hW5, World.putObj_heap_other (by omega), hWp]; exact Below.heap_alloc W1 _ _ (by omega)
        have hrd : ∀ pre', (M ++ pre').length ≤ (M ++ pre').length := fun _ => Nat.le_refl _
        have hlenP : (M ++ pre).length + 1 ≤ u.size := by
          have h1 := (steps_bounds _ _ _ _ _ HST2.out hi1).1
          have h2 := (steps_bounds _ _ _ _ _ hs'.out (by omega)).1
          simp only [List.length_append, List.length_cons, List.length_nil] at h1 h2 ⊢
          omega
        clear hW5 hWp hkp hRp hpz hrd
        have d0 : W5.cell? ⟨W1.heap.size, 0, none⟩ = some (.int .i64 (x.1 : Int)) := cell_at hpn
        have d1 : W5.cell? ⟨W1.heap.size, 1, none⟩ = some (.int .i64 (x.2.1 : Int)) := cell_at hpn
        have d2 : W5.cell? ⟨W1.heap.size, 2, none⟩ = some (.int .i64 (x.2.2 : Int)) := cell_at hpn
        obtain ⟨mv, hmv, hrow⟩ := hS5.row.row
        have hmf3 := hS5.row.f0
        have hz6 := hS5.fix.size
        have R5 := Lib.hid hrow; have HS5 := Lib.hid hS5; have HR5 := Lib.hid hR5; have HSM := Lib.hid hsame5; have HLP := Lib.hid hlenP; have HZ5 := Lib.hid hz5
        have HLT := Lib.hid hrow.lt
        obtain ⟨i0, hi', hz0, hz1', hz2'⟩ := info_parts infoP
        clear hrow hS5 hR5 hpn hsame5 hlenP
        have hnew : ∀ j y, (cellsP x)[j]? = some y → (W5.alloc (.cells #[.int .i64 (x.1 : Int), .int .i64 (x.2.1 : Int), .int .i64 (x.2.2 : Int)] 59)).cell? ((⟨W5.heap.size, 0, none⟩ : Addr).add j) = some y := by
          intro j y hj
          match j, hj with
          | 0, hj => simp [cellsP] at hj; subst hj; simp [Addr.add]
          | 1, hj => simp [cellsP] at hj; subst hj; simp [Addr.add]
          | 2, hj => simp [cellsP] at hj; subst hj; simp [Addr.add]
          | j + 3, hj => simp [cellsP] at hj
        have HNEW := Lib.hid hnew
        have hkk2 : ∀ o w7, (W5.alloc o).grownBy w7 mv.ownBlock → w7.heap[w.heap.size + 2]? = W5.heap[w.heap.size + 2]? := fun o w7 hg =>
          (hg.block _ (by simp; omega) (fun e => by have := (HLT.out _ e.symm).1; omega)).trans (Below.heap_alloc W5 o _ (by omega))
        have KK := Lib.hid hkk2
        clear hkk2 hnew
        gi_wp2_with (first
          | (gi_at_builtin; go_loud (refine wpListIn_append_own _ rfl _ _ 23 rfl (w1.heap.size + 1) 59 i0 (.agg #[.int .i64 0, .int .i64 0, .int .i64 0]) 3 24 Tryz.underlying23 hi' hz0 hz1' hz2' rfl (by decide) _ _ _ rfl (R5.out.alloc _) ⟨W5.heap.size, 0, none⟩ 1 1 (cellsP x) (by simp [go_sem]; done) rfl HNEW.out (by simp [cellsP, Value.oneCell']) (by unfold maxLen; have := HLP.out; omega) (by have := HLP.out; omega) (by simp; omega) ?_); intro v' w7 hown' hgrow _;
               obtain ⟨g', cap', rfl⟩ := ownsRow_succ hown';
               have c7 : w7.cell? ⟨w.heap.size + 2, 0, none⟩ = some mv := (World.cell?_of_block (w := W5) (a := ⟨w.heap.size + 2, 0, none⟩) (KK.out _ _ hgrow)).trans hmv;
               have f7 : w7.frozen? ⟨w.heap.size + 2, 0, none⟩ = false := (World.frozen?_of_block (w := W5) (a := ⟨w.heap.size + 2, 0, none⟩) (KK.out _ _ hgrow)).trans hmf3;
               have HOWN := Lib.hid hown'; have HG := Lib.hid hgrow; clear hown' hgrow))
        have hsn := HS5.out.snoc hmv R5.out HOWN.out HG.out
        rw [List.length_append] at hsn
        obtain ⟨W8, hW8⟩ : ∃ W8, W8 = w7.setCell ⟨w.heap.size + 2, 0, none⟩ (.slice (some ⟨g', 0, none⟩) (M.length + pre.length + 1) cap') := ⟨_, rfl⟩
        rw [← hW8] at hsn ⊢
        have hown8 := HR5.out.own R5.out
        have hI8 : RcI w w1.heap.size wq.heap.size (.slice b L.length cap) a ins t u L (M ++ pre ++ [x]) ((u.size : Int) - (t.size : Int)) Rb i op m W1 kk st W8 := by
          refine ⟨hkk, HSK.out, hsn.1, HR5.out.keep hsn.2 ?_, ?_, by have := hsn.2.size; have := HZ5.out; omega⟩
          · rintro q (e | e)
            · omega
            · exact hown8 q e
          · refine (hsn.2.block _ (by omega) ?_).trans HSM.out
            rintro (e | e)
            · omega
            · have := (HLT.out _ e).1; omega
        have HI8 := Lib.hid hI8
        clear hsn hW8 hown8 hI8 hmv hmf3 R5 HS5 HR5 HSM HLT HNEW KK c7 f7 HOWN HG d0 d1 d2 i0 hi' hz0 hz1' hz2' HRG HH0 hz5 HZ5
        gi_loopw [] (fun wv => ∃ kk st, Hid (RcI w w1.heap.size wq.heap.size (.slice b L.length cap) a ins t u L (M ++ pre ++ [x]) ((u.size : Int) - (t.size : Int)) Rb i op m W1 kk st wv)) (fun wv => L.length - nOf w1.heap.size wv)
        case atStart => exact ⟨kk, st, HI8⟩
        case round =>
          obtain ⟨wv, rfl⟩ : ∃ wv, wv = wr := ⟨_, rfl⟩
          clear HI8 HSK hkk
          obtain ⟨kv, sv, HI⟩ := hrel
          obtain ⟨hkv, hsv, hS, hR, _, _⟩ := HI.out
          have hszb := (steps_bounds _ _ _ _ _ hsv (by omega)).2
          have qn : wv.cell? ⟨w1.heap.size, 0, none⟩ = some (.int .i64 (kv : Int)) := hS.nbox.cell
          have qnf : wv.frozen? ⟨w1.heap.size, 0, none⟩ = false := hS.nbox.fr
          have HIN := Lib.hid qn
          have ql : wv.cell? ⟨w.heap.size, 0, none⟩ = some (.slice b L.length cap) := hS.fix.lbox
          have qo : wv.cell? ⟨w.heap.size + 7, 0, none⟩ = some (.pointer (some ⟨w.heap.size + 5, 0, none⟩)) := hS.fix.old
          have qw : wv.cell? ⟨w.heap.size + 8, 0, none⟩ = some (.pointer (some ⟨w.heap.size + 6, 0, none⟩)) := hS.fix.now
          have qoa : wv.cell? ⟨w.heap.size + 5, 1, none⟩ = some (.int .i64 (sv.1 : Int)) := hS.co.at'
          have qwa : wv.cell? ⟨w.heap.size + 6, 1, none⟩ = some (.int .i64 (i : Int)) := hS.cn.at'
          have qsh : wv.cell? ⟨wq.heap.size, 0, none⟩ = some (.int .i64 ((u.size : Int) - (t.size : Int))) := cell_at hR.sh
          have qop : wv.cell? ⟨w.heap.size + 5, 2, none⟩ = some (.bool sv.2.1) := hS.co.op
          have qwp : wv.cell? ⟨w.heap.size + 6, 2, none⟩ = some (.bool op) := hS.cn.op
          have qsa : wv.cell? ⟨w.heap.size + 1, 0, none⟩ = some (.int .i64 (a : Int)) := hS.fix.sat
          have qsi : wv.cell? ⟨w.heap.size + 1, 2, none⟩ = some (.string ins) := hS.fix.sins
          have wad : IntKind.i64.wrap ((sv.1 : Int) + ((u.size : Int) - (t.size : Int))) = (sv.1 : Int) + ((u.size : Int) - (t.size : Int)) := IntWalk.i64_in _ (by omega)
          clear hsv hS hR
          by_cases hlt : kv < L.length
          · have hlt' : (kv : Int) < (L.length : Int) := by omega
            by_cases hgo : (sv.1 : Int) + ((u.size : Int) - (t.size : Int)) < (i : Int)
            · gi_wp2_with fail
              refine region_tail_round 18 (by kernel_rfl) (by kernel_rfl) (by kernel_rfl) ?_
              simp only [List.take_succ_cons, List.take_zero, List.drop_succ_cons, List.drop_zero]
              obtain ⟨Wd, hWd⟩ : ∃ Wd, Wd = wv.drew := ⟨_, rfl⟩
              rw [← hWd]
              have e0 : ∀ p, Wd.cell? p = wv.cell? p := fun p => by rw [hWd]; rfl
              rw [← e0] at qn ql qo qw qoa qwa qsh
              have HWD := Lib.hid hWd
              clear hWd e0
              repeat still_step
              refine wpStill_nil ?_
              gi_wp2_with fail
              obtain ⟨x', hx'⟩ : ∃ x', L[kv]? = some x' := ⟨_, List.getElem?_eq_getElem hlt⟩
              have hne : L ≠ [] := by rintro rfl; simp at hx'
              have hba := hI.addr hne
              subst hba
              have hglow := hI.low hne
              have hcell := hI.cells hne
              have hID : RcI w w1.heap.size wq.heap.size (.slice (some ⟨g, 0, none⟩) L.length cap) a ins t u L (M ++ pre ++ [x]) ((u.size : Int) - (t.size : Int)) Rb i op m W1 kv sv Wd := by
                rw [HWD.out]
                exact HI.out.grow (by have := HI.out.2.2.1.fix.size; omega) ((KeepS.refl _ _).drew 1)
              obtain ⟨Wd2, hWd2⟩ : ∃ Wd2, Wd2 = Wd.drew := ⟨_, rfl⟩
              have hID2 : RcI w w1.heap.size wq.heap.size (.slice (some ⟨g, 0, none⟩) L.length cap) a ins t u L (M ++ pre ++ [x]) ((u.size : Int) - (t.size : Int)) Rb i op m W1 kv sv Wd2 := by
                rw [hWd2]
                exact hID.grow (by have := hID.2.2.1.fix.size; omega) ((KeepS.refl _ _).drew 1)
              have l0 : Wd2.cell? ⟨g, kv * 3, none⟩ = some (.int .i64 (x'.1 : Int)) := (hID2.2.2.1.fix.below.cell (p := ⟨g, kv * 3, none⟩) hglow).trans (hcell.c0 hx')
              have l1 : Wd2.cell? ⟨g, kv * 3 + 1, none⟩ = some (.int .i64 (x'.2.1 : Int)) := (hID2.2.2.1.fix.below.cell (p := ⟨g, kv * 3 + 1, none⟩) hglow).trans (hcell.c1 hx')
              have l2 : Wd2.cell? ⟨g, kv * 3 + 2, none⟩ = some (.int .i64 (x'.2.2 : Int)) := (hID2.2.2.1.fix.below.cell (p := ⟨g, kv * 3 + 2, none⟩) hglow).trans (hcell.c2 hx')
              have e2 : ∀ p, Wd2.cell? p = Wd.cell? p := fun p => by rw [hWd2]; rfl
              rw [← e2] at qn ql qo
              have nT := steps_next HL'.out hID2.2.1 hx'
              have hbd := next_bounds nT.2.1 nT.2.2.1
              have hc0 : sv.2.2 ≤ 6000 := steps_count _ _ _ _ _ hID2.2.1 (by omega)
              have hpa := pass_any (w.heap.size + 5) sv.1 sv.2.2 x'.1 x'.2.1 x'.2.2 t sv.2.1 Wd2 (by have := hID2.2.2.1.fix.size; omega) hbd.2.1 hc0 (by have := hbd.2.2.2; have := nT.1; omega) (by omega) hID2.2.2.1.co hID2.2.2.1.fo
              have HID2 := Lib.hid hID2; have HT' := Lib.hid nT; have HPA := Lib.hid hpa; have HX' := Lib.hid hx'
              clear HI HWD hID hID2 nT hbd hpa hx' hcell qw qoa qwa qsh qop qwp qsa qsi
              refine region_tail_round 5 (by kernel_rfl) (by kernel_rfl) (by kernel_rfl) ?_
              simp only [List.take_succ_cons, List.take_zero, List.drop_succ_cons, List.drop_zero]
              rw [← hWd2]
              clear hWd2 e2
              repeat still_step
              refine wpStill_nil ?_
              gi_wp2_with fail
              refine ⟨trivial, ?_⟩
              refine CallsIn.mono (F := Fence.wide) (callsIn_wide.2 HPA.out) ?_
              clear HPA
              intro e w3 hpp
              rw [PassPost, if_neg (by have := HT'.out.2.2.2.1; exact this)] at hpp
              obtain ⟨rfl, hcut2, hfree2, hkb2⟩ := hpp
              have nT := HT'.out.2.2.2.2
              rw [← HT'.out.1] at nT
              have hpp := HID2.out.pass (by omega) hkb2 (by omega) nT hcut2 hfree2
              have HPP := Lib.hid hpp.2
              clear l0 l1 l2 qn ql qo qnf
              have qn : w3.cell? ⟨w1.heap.size, 0, none⟩ = some (.int .i64 (kv : Int)) := hpp.1.cell
              have qnf : w3.frozen? ⟨w1.heap.size, 0, none⟩ = false := hpp.1.fr
              have wn : IntKind.i64.wrap ((kv : Int) + 1) = (kv : Int) + 1 := IntWalk.i64_in _ (by omega)
              have hno := nOf_eq HPP.out.2.2.1.nbox.cell
              have hno0 := nOf_eq HID2.out.2.2.1.nbox.cell
              have HNO := Lib.hid hno
              have HNW := Lib.hid (nOf_eq HIN.out)
              clear hpp hkb2 hcut2 hfree2 nT hno hno0 HID2
              gi_wp2_with fail
              refine ⟨⟨_, _, HPP⟩, ?_⟩
              rw [HNO.out, HNW.out]; omega
            · have hgo' : ((sv.1 : Int) + ((u.size : Int) - (t.size : Int)) < (i : Int)) = False := by simp; omega
              gi_wp2_with fail
              refine region_quiet_round rfl (by kernel_rfl) (by kernel_rfl) (by kernel_rfl) ?_
              repeat (gi_big_quiet_step (fail))
              refine wpQuietIn_nil ?_
              intro _ hw'
              obtain ⟨nq, hw''⟩ := hw'
              subst hw''
              gi_wp2_with fail
              obtain ⟨Wd2, hWd2⟩ : ∃ Wd2, Wd2 = wv.drewN nq := ⟨_, rfl⟩
              have hID2 : RcI w w1.heap.size wq.heap.size (.slice b L.length cap) a ins t u L (M ++ pre ++ [x]) ((u.size : Int) - (t.size : Int)) Rb i op m W1 kv sv Wd2 := by
                rw [hWd2]
                exact HI.out.grow (by have := HI.out.2.2.1.fix.size; omega) ((KeepS.refl _ _).drew nq)
              have HID2 := Lib.hid hID2
              clear qn ql qo qw qoa qwa qsh qop qwp qsa qsi qnf wad HI
              have qo : Wd2.cell? ⟨w.heap.size + 7, 0, none⟩ = some (.pointer (some ⟨w.heap.size + 5, 0, none⟩)) := hID2.2.2.1.fix.old
              have qw : Wd2.cell? ⟨w.heap.size + 8, 0, none⟩ = some (.pointer (some ⟨w.heap.size + 6, 0, none⟩)) := hID2.2.2.1.fix.now
              have qoa : Wd2.cell? ⟨w.heap.size + 5, 1, none⟩ = some (.int .i64 (sv.1 : Int)) := hID2.2.2.1.co.at'
              have qwa : Wd2.cell? ⟨w.heap.size + 6, 1, none⟩ = some (.int .i64 (i : Int)) := hID2.2.2.1.cn.at'
              have qsh : Wd2.cell? ⟨wq.heap.size, 0, none⟩ = some (.int .i64 ((u.size : Int) - (t.size : Int))) := cell_at hID2.2.2.2.1.sh
              have qop : Wd2.cell? ⟨w.heap.size + 5, 2, none⟩ = some (.bool sv.2.1) := hID2.2.2.1.co.op
              have qwp : Wd2.cell? ⟨w.heap.size + 6, 2, none⟩ = some (.bool op) := hID2.2.2.1.cn.op
              have qsa : Wd2.cell? ⟨w.heap.size + 1, 0, none⟩ = some (.int .i64 (a : Int)) := hID2.2.2.1.fix.sat
              have qsi : Wd2.cell? ⟨w.heap.size + 1, 2, none⟩ = some (.string ins) := hID2.2.2.1.fix.sins
              have wad : IntKind.i64.wrap ((sv.1 : Int) + ((u.size : Int) - (t.size : Int))) = (sv.1 : Int) + ((u.size : Int) - (t.size : Int)) := IntWalk.i64_in _ (by omega)
              have wai : IntKind.i64.wrap ((a : Int) + (ins.size : Int)) = (a : Int) + (ins.size : Int) := IntWalk.i64_in _ (by omega)
              clear hID2
              rw [← hWd2]
              clear hWd2
              by_cases c1 : a + ins.size ≤ i
              · have c1' : (a : Int) + (ins.size : Int) ≤ (i : Int) := by omega
                by_cases c2 : (i : Int) = (sv.1 : Int) + ((u.size : Int) - (t.size : Int))
                · have c2' : ((i : Int) == (sv.1 : Int) + ((u.size : Int) - (t.size : Int))) = true := by rw [beq_iff_eq]; exact c2
                  have C2 := Lib.hid c2
                  clear c2
                  by_cases c3 : op = sv.2.1
                  · have c3' : (op == sv.2.1) = true := by rw [beq_iff_eq]; exact c3
                    have C3 := Lib.hid c3
                    clear c3
                    refine region_quiet_round rfl (by kernel_rfl) (by kernel_rfl) (by kernel_rfl) ?_
                    repeat (gi_big_quiet_step (fail))
                    refine wpQuietIn_nil ?_
                    intro _ hw'
                    obtain ⟨nq, hw''⟩ := hw'
                    subst hw''
                    gi_wp2_with fail
                    have hfin := (HID2.out.grow (by have := HID2.out.2.2.1.fix.size; omega) ((KeepS.refl _ _).drew nq)).stop (R := R) (i0 := s'.1) (op0 := s'.2.1) (n0 := s'.2.2) (by omega) HST2.out c1 C2.out C3.out
                    exact ⟨hfin.1, Or.inr ⟨2, rfl, hfin.2⟩⟩
                  · have c3' : (op == sv.2.1) = false := by rw [beq_eq_false_iff_ne]; exact c3
                    clear c3
                    refine region_quiet_round rfl (by kernel_rfl) (by kernel_rfl) (by kernel_rfl) ?_
                    repeat (gi_big_quiet_step (fail))
                    refine wpQuietIn_nil ?_
                    intro _ hw'
                    obtain ⟨nq, hw''⟩ := hw'
                    subst hw''
                    gi_wp2_with fail
                    have hfin := (HID2.out.grow (by have := HID2.out.2.2.1.fix.size; omega) ((KeepS.refl _ _).drew nq)).go (R := R) (by omega) HBX.out
                    exact ⟨hfin.1, Or.inl ⟨rfl, hfin.2⟩⟩
                · have c2' : ((i : Int) == (sv.1 : Int) + ((u.size : Int) - (t.size : Int))) = false := by rw [beq_eq_false_iff_ne]; exact c2
                  clear c2
                  refine region_quiet_round rfl (by kernel_rfl) (by kernel_rfl) (by kernel_rfl) ?_
                  repeat (gi_big_quiet_step (fail))
                  refine wpQuietIn_nil ?_
                  intro _ hw'
                  obtain ⟨nq, hw''⟩ := hw'
                  subst hw''
                  gi_wp2_with fail
                  have hfin := (HID2.out.grow (by have := HID2.out.2.2.1.fix.size; omega) ((KeepS.refl _ _).drew nq)).go (R := R) (by omega) HBX.out
                  exact ⟨hfin.1, Or.inl ⟨rfl, hfin.2⟩⟩
              · have c1' : ((a : Int) + (ins.size : Int) ≤ (i : Int)) = False := by simp; omega
                refine region_quiet_round rfl (by kernel_rfl) (by kernel_rfl) (by kernel_rfl) ?_
                repeat (gi_big_quiet_step (fail))
                refine wpQuietIn_nil ?_
                intro _ hw'
                obtain ⟨nq, hw''⟩ := hw'
                subst hw''
                gi_wp2_with fail
                have hfin := (HID2.out.grow (by have := HID2.out.2.2.1.fix.size; omega) ((KeepS.refl _ _).drew nq)).go (R := R) (by omega) HBX.out
                exact ⟨hfin.1, Or.inl ⟨rfl, hfin.2⟩⟩
          · have hlt' : ((kv : Int) < (L.length : Int)) = False := by simp; omega
            gi_wp2_with fail
            refine region_quiet_round rfl (by kernel_rfl) (by kernel_rfl) (by kernel_rfl) ?_
            repeat (gi_big_quiet_step (fail))
            refine wpQuietIn_nil ?_
            intro _ hw'
            obtain ⟨nq, hw''⟩ := hw'
            subst hw''
            gi_wp2_with fail
            obtain ⟨Wd2, hWd2⟩ : ∃ Wd2, Wd2 = wv.drewN nq := ⟨_, rfl⟩
            have hID2 : RcI w w1.heap.size wq.heap.size (.slice b L.length cap) a ins t u L (M ++ pre ++ [x]) ((u.size : Int) - (t.size : Int)) Rb i op m W1 kv sv Wd2 := by
              rw [hWd2]
              exact HI.out.grow (by have := HI.out.2.2.1.fix.size; omega) ((KeepS.refl _ _).drew nq)
            have HID2 := Lib.hid hID2
            clear qn ql qo qw qoa qwa qsh qop qwp qsa qsi qnf wad HI
            have qo : Wd2.cell? ⟨w.heap.size + 7, 0, none⟩ = some (.pointer (some ⟨w.heap.size + 5, 0, none⟩)) := hID2.2.2.1.fix.old
            have qw : Wd2.cell? ⟨w.heap.size + 8, 0, none⟩ = some (.pointer (some ⟨w.heap.size + 6, 0, none⟩)) := hID2.2.2.1.fix.now
            have qoa : Wd2.cell? ⟨w.heap.size + 5, 1, none⟩ = some (.int .i64 (sv.1 : Int)) := hID2.2.2.1.co.at'
            have qwa : Wd2.cell? ⟨w.heap.size + 6, 1, none⟩ = some (.int .i64 (i : Int)) := hID2.2.2.1.cn.at'
            have qsh : Wd2.cell? ⟨wq.heap.size, 0, none⟩ = some (.int .i64 ((u.size : Int) - (t.size : Int))) := cell_at hID2.2.2.2.1.sh
            have qop : Wd2.cell? ⟨w.heap.size + 5, 2, none⟩ = some (.bool sv.2.1) := hID2.2.2.1.co.op
            have qwp : Wd2.cell? ⟨w.heap.size + 6, 2, none⟩ = some (.bool op) := hID2.2.2.1.cn.op
            have qsa : Wd2.cell? ⟨w.heap.size + 1, 0, none⟩ = some (.int .i64 (a : Int)) := hID2.2.2.1.fix.sat
            have qsi : Wd2.cell? ⟨w.heap.size + 1, 2, none⟩ = some (.string ins) := hID2.2.2.1.fix.sins
            have wad : IntKind.i64.wrap ((sv.1 : Int) + ((u.size : Int) - (t.size : Int))) = (sv.1 : Int) + ((u.size : Int) - (t.size : Int)) := IntWalk.i64_in _ (by omega)
            have wai : IntKind.i64.wrap ((a : Int) + (ins.size : Int)) = (a : Int) + (ins.size : Int) := IntWalk.i64_in _ (by omega)
            clear hID2
            rw [← hWd2]
            clear hWd2
            by_cases c1 : a + ins.size ≤ i
            · have c1' : (a : Int) + (ins.size : Int) ≤ (i : Int) := by omega
              by_cases c2 : (i : Int) = (sv.1 : Int) + ((u.size : Int) - (t.size : Int))
              · have c2' : ((i : Int) == (sv.1 : Int) + ((u.size : Int) - (t.size : Int))) = true := by rw [beq_iff_eq]; exact c2
                have C2 := Lib.hid c2
                clear c2
                by_cases c3 : op = sv.2.1
                · have c3' : (op == sv.2.1) = true := by rw [beq_iff_eq]; exact c3
                  have C3 := Lib.hid c3
                  clear c3
                  refine region_quiet_round rfl (by kernel_rfl) (by kernel_rfl) (by kernel_rfl) ?_
                  repeat (gi_big_quiet_step (fail))
                  refine wpQuietIn_nil ?_
                  intro _ hw'
                  obtain ⟨nq, hw''⟩ := hw'
                  subst hw''
                  gi_wp2_with fail
                  have hfin := (HID2.out.grow (by have := HID2.out.2.2.1.fix.size; omega) ((KeepS.refl _ _).drew nq)).stop (R := R) (i0 := s'.1) (op0 := s'.2.1) (n0 := s'.2.2) (by omega) HST2.out c1 C2.out C3.out
                  exact ⟨hfin.1, Or.inr ⟨2, rfl, hfin.2⟩⟩
                · have c3' : (op == sv.2.1) = false := by rw [beq_eq_false_iff_ne]; exact c3
                  clear c3
                  refine region_quiet_round rfl (by kernel_rfl) (by kernel_rfl) (by kernel_rfl) ?_
                  repeat (gi_big_quiet_step (fail))
                  refine wpQuietIn_nil ?_
                  intro _ hw'
                  obtain ⟨nq, hw''⟩ := hw'
                  subst hw''
                  gi_wp2_with fail
                  have hfin := (HID2.out.grow (by have := HID2.out.2.2.1.fix.size; omega) ((KeepS.refl _ _).drew nq)).go (R := R) (by omega) HBX.out
                  exact ⟨hfin.1, Or.inl ⟨rfl, hfin.2⟩⟩
              · have c2' : ((i : Int) == (sv.1 : Int) + ((u.size : Int) - (t.size : Int))) = false := by rw [beq_eq_false_iff_ne]; exact c2
                clear c2
                refine region_quiet_round rfl (by kernel_rfl) (by kernel_rfl) (by kernel_rfl) ?_
                repeat (gi_big_quiet_step (fail))
                refine wpQuietIn_nil ?_
                intro _ hw'
                obtain ⟨nq, hw''⟩ := hw'
                subst hw''
                gi_wp2_with fail
                have hfin := (HID2.out.grow (by have := HID2.out.2.2.1.fix.size; omega) ((KeepS.refl _ _).drew nq)).go (R := R) (by omega) HBX.out
                exact ⟨hfin.1, Or.inl ⟨rfl, hfin.2⟩⟩
            · have c1' : ((a : Int) + (ins.size : Int) ≤ (i : Int)) = False := by simp; omega
              refine region_quiet_round rfl (by kernel_rfl) (by kernel_rfl) (by kernel_rfl) ?_
              repeat (gi_big_quiet_step (fail))
              refine wpQuietIn_nil ?_
              intro _ hw'
              obtain ⟨nq, hw''⟩ := hw'
              subst hw''
              gi_wp2_with fail
              have hfin := (HID2.out.grow (by have := HID2.out.2.2.1.fix.size; omega) ((KeepS.refl _ _).drew nq)).go (R := R) (by omega) HBX.out
              exact ⟨hfin.1, Or.inl ⟨rfl, hfin.2⟩⟩
      have hres : ∀ tm : Array Value, tm[8]? = some (.pointer (some ⟨w.heap.size + 2, 0, none⟩)) → tm[9]? = some (.pointer (some ⟨w.heap.size + 3, 0, none⟩)) → tm[10]? = some (.pointer (some ⟨w.heap.size + 4, 0, none⟩)) → ReadsRc (w.heap.size + 2) tm := by
        intro tm t8 t9 t10 W a n c x y h0 h1 h2
        simp [results, Tryz.results56, go_sem, t8, t9, t10, h0, h1, h2]
      have HRES := Lib.hid hres
      have HRS := Lib.hid rs
      have hnH : w1.heap.size < wq.heap.size := by omega
      clear hres hS0 hR0 hW0 HS2 q8 ra rb rt rq wsub
      intro e W' hend
      have hcases : (∃ pre i op m kk st, e = .returned (.tuple #[]) ∧ Steps u s'.1 s'.2.1 s'.2.2 pre (i, op, m) ∧ kk ≤ L.length ∧ Steps t 0 false 0 (L.take kk) st ∧ RcSt w w1.heap.size (.slice b L.length cap) a ins t u st.1 st.2.1 st.2.2 i op m kk (M ++ pre) W' ∧
            (∃ Rx, RgFix wq.heap.size (w.heap.size + 6) ((u.size : Int) - (t.size : Int)) Rx W' ∧ Rx.state ≠ .busy ∧ (Rx.pending = none ∨ Rx.pending = some (.exit 2))) ∧ (i = u.size ∨ (a + ins.size ≤ i ∧ (i : Int) = (st.1 : Int) + ((u.size : Int) - (t.size : Int)) ∧ op = st.2.1))) ∨
          (∃ pre i op m c, e = refusedEnd i c ∧ Steps u s'.1 s'.2.1 s'.2.2 pre (i, op, m) ∧ i < u.size ∧ (nextR u i op = .error c ∨ (∃ p, nextR u i op = .ok p ∧ isTok p.1 = true ∧ m = 6000 ∧ c = 2)) ∧ RcJ w w1.heap.size wq.heap.size (.slice b L.length cap) a ins t L M ((u.size : Int) - (t.size : Int)) R pre W') := by
        rcases hend with ⟨he, pre, op, m, hst, hcut, hfree, kk, st, h1, h2, h3, h4⟩ | ⟨he, pre, i, op, m, kk, st, hst, h1, h2, h3, h4, h5⟩ | ⟨pre, i, op, m, c, he, h1, h2, h3, h4⟩
        · exact .inl ⟨pre, _, op, m, kk, st, he, hst, h1, h2, h3.full hcut hfree, ⟨R, h4, by rw [rs]; simp, .inl rp⟩, .inl rfl⟩
        · exact .inl ⟨pre, _, op, m, kk, st, he, hst, h1, h2, h3, ⟨doneL R 2, h4, by simp [doneL], .inr rfl⟩, .inr h5⟩
        · exact .inr ⟨pre, i, op, m, c, he, h1, h2, h3, h4⟩
      clear hend
      rcases hcases with ⟨pre, i, op, m, kk, st, rfl, hst, hkk, hsk, hS, ⟨Rx, hRx, hRb, hRp⟩, hi⟩ | ⟨pre, i, op, m, c, rfl, hst, hiu, hbad, kk, st, hkk, hsk, hS0, hRg⟩
      rotate_left
      · have hcb := cutAll_bad (steps_append M pre 0 false 0 _ _ hs'.out hst) hiu hbad
        have hr : piecesR u = ([], i, c) := by simp [piecesR, hcb, show ¬ 20000 < u.size by omega]
        simp only [refusedEnd, rangePost, Exit.inBlock, Exit.then]
        exact rleave_no u hS0 hRg hnH (i, c) hr _ (HRES.out _ (by simp) (by simp) (by simp))
      · obtain ⟨W4, hW4⟩ : ∃ W4, W4 = W'.putObj (wq.heap.size + 3) (.loop { Rx with state := .exhausted }) := ⟨_, rfl⟩
        have hR4 : RgFix wq.heap.size (w.heap.size + 6) ((u.size : Int) - (t.size : Int)) { Rx with state := .exhausted } W4 := by rw [hW4]; exact hRx.turn
        have hS4 : RcSt w w1.heap.size (.slice b L.length cap) a ins t u st.1 st.2.1 st.2.2 i op m kk (M ++ pre) W4 := by
          rw [hW4]
          exact hS.keepH (S := fun q => q = wq.heap.size + 3) (KeepS.putObj (S := fun q => q = wq.heap.size + 3) (KeepS.refl _ _) rfl _) (fun q e => by subst e; exact ⟨by omega, hRx.notRow⟩)
        refine ⟨Rx.pending, W4, by rw [hW4]; exact run_endLoop (P := Tryz.prog) hRx.lp hRb, ?_⟩
        have hdn := done_q (w.heap.size + 6) i u W4 hS4.cn.text hS4.cn.at'
        have HDN := Lib.hid hdn; have HS4 := Lib.hid hS4; have HR4 := Lib.hid hR4
        have q8 : W4.cell? ⟨w.heap.size + 8, 0, none⟩ = some (.pointer (some ⟨w.heap.size + 6, 0, none⟩)) := hS4.fix.now
        clear hW4 hR4 hS4 hdn hRx hRb hS
        rcases hRp with hRp | hRp
        all_goals
          rw [hRp]
          clear hRp
          gi_wp2_with fail
          refine ⟨trivial, ?_⟩
          refine (callsIn_wide.2 HDN.out).mono ?_
          clear HDN q8
          rintro e w9 ⟨rfl, nd, hnd⟩
          have hS9 : RcSt w w1.heap.size (.slice b L.length cap) a ins t u st.1 st.2.1 st.2.2 i op m kk (M ++ pre) w9 := by rw [hnd]; exact HS4.out.grow ((KeepS.refl _ _).drew nd)
          have hR9 : RgFix wq.heap.size (w.heap.size + 6) ((u.size : Int) - (t.size : Int)) { Rx with state := .exhausted } w9 := by rw [hnd]; exact HR4.out.keep ((KeepS.refl (fun _ => False) _).drew nd) (fun _ e => e.elim)
          have hst0 := steps_append M pre 0 false 0 _ _ hs'.out hst
          have hbu := (steps_bounds _ _ _ _ _ hst0 (by omega)).2
          have hbt := (steps_bounds _ _ _ _ _ hsk (by omega)).2
          obtain ⟨mv, hmv, hrow⟩ := hS9.row.row
          obtain ⟨b0, n0, c0, rfl⟩ : ∃ a n c, mv = .slice a n c := by
            rcases hrow.2 with ⟨rfl, _⟩ | ⟨g, cap, cur, rfl, _⟩
            · exact ⟨_, _, _, rfl⟩
            · exact ⟨_, _, _, rfl⟩
          have hc1x := hS9.fix.c1; have hc2x := hS9.fix.c2; have hf0 := hS9.row.f0; have hf1 := hS9.fix.f1; have hf2 := hS9.fix.f2
          have HS9 := Lib.hid hS9; have HR9 := Lib.hid hR9
          clear hnd HS4 HR4 hS9 hR9
          by_cases hd : u.size ≤ i
          · have hdu : i = u.size := by omega
            have hr : piecesR u = (M ++ pre, 0, 0) := by
              rw [hdu] at hst0
              simp [piecesR, cutAll_done hst0, show ¬ 20000 < u.size by omega]
            have HRR := Lib.hid hr
            clear hr hi hst0 hdu
            gi_wp2_with fail
            exact rleave_st HS9.out HR9.out hnH HRR.out b0 n0 c0 hmv _ (HRES.out _ (by simp) (by simp) (by simp))
          · have hsy := hi.resolve_left (by omega)
            have hrest := hsp i st.1 hsy.1 (by omega) hsy.2.1 hbt
            have hsz := congrArg ByteArray.size hrest
            rw [rest_size, rest_size] at hsz
            have hkl : kk < L.length := by
              apply Classical.byContradiction
              intro hn'
              have : L.take kk = L := List.take_of_length_le (by omega)
              rw [this] at hsk
              have := steps_det _ _ _ _ _ _ hsk HL.out
              rw [this] at hsz
              omega
            obtain ⟨sq, hq1, hq2⟩ := take_steps HL.out kk
            have := steps_det _ _ _ _ _ _ hsk hq1
            subst this
            rw [← hsy.2.2] at hq2
            have hcut := cutAll_sync hst0 hq2 hLt hbt hbu hrest
            have hba := hI.addr (by rintro rfl; simp at hkl)
            subst hba
            have hglow := hI.low (by rintro rfl; simp at hkl)
            have hcell := hI.cells (by rintro rfl; simp at hkl)
            have hck : ¬ cap = kk := by omega
            have hkl' : (kk : Int) ≤ (L.length : Int) := by omega
            have hklc : (L.length : Int) ≤ (cap : Int) := by omega
            have HCUT := Lib.hid hcut; have HQ2 := Lib.hid hq2; have HSY := Lib.hid hsy; have HCL := Lib.hid hcell; have HST0 := Lib.hid hst0
            have qn : w9.cell? ⟨w1.heap.size, 0, none⟩ = some (.int .i64 (kk : Int)) := HS9.out.nbox.cell
            have ql : w9.cell? ⟨w.heap.size, 0, none⟩ = some (.slice (some ⟨g, 0, none⟩) L.length cap) := HS9.out.fix.lbox
            clear hcut hq1 hq2 hsy hrest hsz hcell hi hmv hrow hst0
            gi_wp2_with fail
            obtain ⟨sh, hsh⟩ : ∃ sh : Int, sh = (u.size : Int) - (t.size : Int) := ⟨_, rfl⟩
            have HSH := Lib.hid hsh
            have hL0 : RcL w w1.heap.size wq.heap.size (.slice (some ⟨g, 0, none⟩) L.length cap) a ins t u (L.drop kk) (M ++ pre) sh { Rx with state := .exhausted } st kk m 0 w9 := by
              rw [hsh]
              exact ⟨i, op, m, steps_count _ _ _ _ _ HST0.out (by omega), by simpa using HS9.out, HR9.out, by simp⟩
            have HL0 := Lib.hid hL0
            clear hL0 hsh HS9 HR9 qn ql hc1x hc2x hf0 hf1 hf2
            gi_loopw [134] (fun iv wv => ∃ q : Nat, q ≤ L.length - kk ∧ iv = .int .i64 (q : Int) ∧ Hid (RcL w w1.heap.size wq.heap.size (.slice (some ⟨g, 0, none⟩) L.length cap) a ins t u (L.drop kk) (M ++ pre) sh { Rx with state := .exhausted } st kk m q wv)) (fun iv _ => L.length - kk - (intOf iv).toNat)
            case atStart => exact ⟨0, by omega, rfl, HL0⟩
            case round =>
              clear HL0
              obtain ⟨wv, rfl⟩ : ∃ wv, wv = wr := ⟨_, rfl⟩
              obtain ⟨q, hq, rfl, HLq⟩ := hrel
              by_cases hlt : q < L.length - kk
              · have hlt1 : (q : Int) < (L.length : Int) - (kk : Int) := by omega
                have hlt2 : (q : Int) < ((L.length - kk : Nat) : Int) := by omega
                obtain ⟨x, hx⟩ : ∃ x, L[kk + q]? = some x := ⟨_, List.getElem?_eq_getElem (by omega)⟩
                have hxd : (L.drop kk)[q]? = some x := by rw [List.getElem?_drop]; exact hx
                obtain ⟨sx, hsx, _⟩ := take_steps HL.out (kk + q)
                have nT := steps_next HL.out hsx hx
                have hbd := next_bounds nT.2.1 nT.2.2.1
                have hin := steps_in _ _ _ _ _ HQ2.out x (List.mem_iff_getElem?.2 ⟨q, hxd⟩)
                obtain ⟨j, opq, cq, hcq, hS, hR, hpa⟩ := HLq.out
                obtain ⟨y, hy⟩ : ∃ y, y = (shiftP sh x).2.1 := ⟨_, rfl⟩
                have hyv : (y : Int) = (x.2.1 : Int) + sh := by
                  rw [hy]; simp only [shiftP]; have := HSY.out.2.1; have := HSH.out; omega
                have hyb : y + x.2.2 ≤ u.size := by have := HSH.out; omega
                have l0 : wv.cell? ⟨g, kk * 3 + q * 3, none⟩ = some (.int .i64 (x.1 : Int)) := (hS.fix.below.cell (p := ⟨g, kk * 3 + q * 3, none⟩) hglow).trans (by have := HCL.out.c0 hx; rwa [Nat.add_mul] at this)
                have l1 : wv.cell? ⟨g, kk * 3 + q * 3 + 1, none⟩ = some (.int .i64 (x.2.1 : Int)) := (hS.fix.below.cell (p := ⟨g, kk * 3 + q * 3 + 1, none⟩) hglow).trans (by have := HCL.out.c1 hx; rwa [Nat.add_mul] at this)
                have l2 : wv.cell? ⟨g, kk * 3 + q * 3 + 2, none⟩ = some (.int .i64 (x.2.2 : Int)) := (hS.fix.below.cell (p := ⟨g, kk * 3 + q * 3 + 2, none⟩) hglow).trans (by have := HCL.out.c2 hx; rwa [Nat.add_mul] at this)
                have wsh : IntKind.i64.wrap ((x.2.1 : Int) + sh) = (y : Int) := by rw [← hyv]; exact IntWalk.i64_in _ (by omega)
                have hrz := hR.size
                have qsh : ∀ o, (wv.alloc o).cell? ⟨wq.heap.size, 0, none⟩ = some (.int .i64 sh) := fun o => (((KeepS.refl (fun _ => False) wv).alloc o).cell (by omega) (fun e => e)).trans (cell_at hR.sh)
                have hz9 := hS.fix.size; have hnb9 := hS.fix.hnb
                have q8 : ∀ o, (wv.alloc o).cell? ⟨w.heap.size + 8, 0, none⟩ = some (.pointer (some ⟨w.heap.size + 6, 0, none⟩)) := fun o =>
                  (((KeepS.refl (fun _ => False) wv).alloc o).cell (by omega) (fun e => e)).trans hS.fix.now
                have HY := Lib.hid hy; have HYV := Lib.hid hyv; have HYB := Lib.hid hyb; have HXD := Lib.hid hxd; have HBD := Lib.hid hbd; have HS1 := Lib.hid hS; have HR1 := Lib.hid hR; have HPA := Lib.hid hpa
                clear hy hyv hyb hx hxd hsx nT hbd hin hS hR hpa HLq
                gi_wp2_with fail
                refine ⟨trivial, ?_⟩
                obtain ⟨Wp, hWp⟩ : ∃ Wp, Wp = wv.alloc (.cells #[.int .i64 (x.1 : Int), .int .i64 (y : Int), .int .i64 (x.2.2 : Int)] 59) := ⟨_, rfl⟩
                have hpn : Wp.heap[wv.heap.size]? = some (.cells #[.int .i64 (x.1 : Int), .int .i64 (y : Int), .int .i64 (x.2.2 : Int)] 59) := by rw [hWp]; exact World.alloc_heap_new wv _
                have hkp : KeepS (fun _ => False) wv Wp := by rw [hWp]; exact (KeepS.refl _ _).alloc _
                have hpz : Wp.heap.size = wv.heap.size + 1 := by rw [hWp]; simp
                have hP1 := HS1.out.grow hkp
                have hR1 := HR1.out.keep hkp (fun _ e => e.elim)
                rw [← hWp]
                clear q8 qsh hWp l0 l1 l2 wsh
                have hpa := pass_any (w.heap.size + 6) j cq x.1 y x.2.2 u opq Wp (by omega) HBD.out.2.1 hcq (by have := HYB.out; omega) (by omega) hP1.cn hP1.fn
                have HP1 := Lib.hid hP1; have HR2 := Lib.hid hR1
                clear hP1 hR1 HS1 HR1
                refine (callsIn_wide.2 hpa).mono ?_
                clear hpa
                intro e w3 hpp
                have hxy : (shiftP sh x) = (x.1, y, x.2.2) := by rw [HY.out]; rfl
                have hdm : ((L.drop kk).map (shiftP sh))[q]? = some (x.1, y, x.2.2) := by rw [List.getElem?_map, HXD.out]; simp [hxy]
                have hps := passAll_step (c := cq) hdm
                rw [HPA.out] at hps
                rw [PassPost] at hpp
                split at hpp
                · rename_i hlim
                  obtain ⟨rfl, hkb3⟩ := hpp
                  rw [if_pos hlim] at hps
                  have hks : KeepS (fun z => z = w.heap.size + 6) Wp w3 := .of_kept hkb3 rfl
                  have hS3 := HP1.out.s0.keep6 hkb3
                  have hR3 := HR2.out.keep hks (fun z e => by omega)
                  have hcb := HCUT.out.2 y (by rw [show ((i : Int) - (st.1 : Int)) = sh by have := HSY.out.2.1; have := HSH.out; omega]; exact hps)
                  have hr : piecesR u = ([], y, 2) := by simp [piecesR, hcb, show ¬ 20000 < u.size by omega]
                  simp only [refusedEnd]
                  exact rleave_no u hS3 hR3 hnH (y, 2) hr _ (HRES.out _ (by simp) (by simp) (by simp))
                · rename_i hlim
                  obtain ⟨rfl, hcut3, hfree3, hkb3⟩ := hpp
                  rw [if_neg hlim] at hps
                  have hP3 := HP1.out.passN hkb3 hcut3 hfree3
                  have hks : KeepS (fun z => z = w.heap.size + 6) Wp w3 := .of_kept hkb3 rfl
                  have hR3 := HR2.out.keep hks (fun z e => by omega)
                  have hpn3 : w3.heap[wv.heap.size]? = _ := (hkb3.block _ (by omega) (by omega)).trans hpn
                  have hz3 := hkb3.size
                  have hcq2 : (if isTok x.1 then cq + 1 else cq) ≤ 6000 := by
                    split
                    · next ht => simp only [ht, true_and] at hlim; omega
                    · exact hcq
                  have d0 : w3.cell? ⟨wv.heap.size, 0, none⟩ = some (.int .i64 (x.1 : Int)) := cell_at hpn3
                  have d1 : w3.cell? ⟨wv.heap.size, 1, none⟩ = some (.int .i64 (y : Int)) := cell_at hpn3
                  have d2 : w3.cell? ⟨wv.heap.size, 2, none⟩ = some (.int .i64 (x.2.2 : Int)) := cell_at hpn3
                  obtain ⟨mv2, hmv2, hrow2⟩ := hP3.row.row
                  have hmf3 := hP3.row.f0
                  have hlenq : (M ++ pre ++ ((L.drop kk).take q).map (shiftP sh)).length ≤ 3000000 := by
                    have h1 := (steps_bounds _ _ _ _ _ HST0.out (by omega)).1
                    simp only [List.length_append, List.length_map, List.length_take, List.length_drop] at h1 ⊢
                    omega
                  have R5 := Lib.hid hrow2; have HP3 := Lib.hid hP3; have HR3 := Lib.hid hR3; have HLQ := Lib.hid hlenq; have HPS := Lib.hid hps; have HXY := Lib.hid hxy
                  have HLT := Lib.hid hrow2.lt
                  obtain ⟨i0, hi', hz0, hz1', hz2'⟩ := info_parts infoP
                  obtain ⟨PQ, hPQ⟩ : ∃ PQ, PQ = M ++ pre ++ ((L.drop kk).take q).map (shiftP sh) := ⟨_, rfl⟩
                  have HPQ := Lib.hid hPQ
                  rw [← hPQ] at R5 HP3 HLQ
                  clear hP3 hR3 hkb3 hks hcut3 hfree3 hpn hpn3 hrow2 hlenq hps hkp HP1 HR2 hlim hxy hdm hPQ
                  have hnew : ∀ j z, (cellsP (x.1, y, x.2.2))[j]? = some z → (w3.alloc (.cells #[.int .i64 (x.1 : Int), .int .i64 (y : Int), .int .i64 (x.2.2 : Int)] 59)).cell? ((⟨w3.heap.size, 0, none⟩ : Addr).add j) = some z := by
                    intro j z hj
                    match j, hj with
                    | 0, hj => simp [cellsP] at hj; subst hj; simp [Addr.add]
                    | 1, hj => simp [cellsP] at hj; subst hj; simp [Addr.add]
                    | 2, hj => simp [cellsP] at hj; subst hj; simp [Addr.add]
                    | j + 3, hj => simp [cellsP] at hj
                  have HNEW := Lib.hid hnew
                  have hkk2 : ∀ o w7, (w3.alloc o).grownBy w7 mv2.ownBlock → w7.heap[w.heap.size + 2]? = w3.heap[w.heap.size + 2]? := fun o w7 hg =>
                    (hg.block _ (by simp; omega) (fun e => by have := (HLT.out _ e.symm).1; omega)).trans (Below.heap_alloc w3 o _ (by omega))
                  have KK := Lib.hid hkk2
                  have hown3 := HR3.out.own R5.out
                  have HOW := Lib.hid hown3
                  clear hkk2 hnew hown3
                  gi_wp2_with (first
                    | (gi_at_builtin; go_loud (refine wpListIn_append_own _ rfl _ _ 23 rfl (w1.heap.size + 1) 59 i0 (.agg #[.int .i64 0, .int .i64 0, .int .i64 0]) 3 24 Tryz.underlying23 hi' hz0 hz1' hz2' rfl (by decide) _ _ _ rfl (R5.out.alloc _) ⟨w3.heap.size, 0, none⟩ 1 1 (cellsP (x.1, y, x.2.2)) (by simp [go_sem]; done) rfl HNEW.out (by simp [cellsP, Value.oneCell']) (by unfold maxLen; have := HLQ.out; omega) (by have := HLQ.out; omega) (by simp; omega) ?_); intro v' w7 hown' hgrow _;
                         obtain ⟨g', cap', rfl⟩ := ownsRow_succ hown';
                         have c7 : w7.cell? ⟨w.heap.size + 2, 0, none⟩ = some mv2 := (World.cell?_of_block (w := w3) (a := ⟨w.heap.size + 2, 0, none⟩) (KK.out _ _ hgrow)).trans hmv2;
                         have f7 : w7.frozen? ⟨w.heap.size + 2, 0, none⟩ = false := (World.frozen?_of_block (w := w3) (a := ⟨w.heap.size + 2, 0, none⟩) (KK.out _ _ hgrow)).trans hmf3;
                         have HOWN := Lib.hid hown'; have HG := Lib.hid hgrow; clear hown' hgrow))
                  have hsn := HP3.out.snoc hmv2 R5.out HOWN.out HG.out
                  have htk : (L.drop kk).take (q + 1) = (L.drop kk).take q ++ [x] := by
                    obtain ⟨h1, h2⟩ := List.getElem?_eq_some_iff.1 HXD.out
                    rw [List.take_succ_eq_append_getElem h1, h2]
                  refine ⟨⟨q + 1, by omega, by simp, Lib.hid ⟨y + x.2.2, (if isTok x.1 then opE x.1 (cutB u y x.2.2) else opq), (if isTok x.1 then cq + 1 else cq), hcq2, ?_, HR3.out.keep hsn.2 ?_, HPS.out.symm⟩⟩, by simp only [intOf]; omega⟩
                  · rw [htk, List.map_append, List.map_cons, List.map_nil, HXY.out, ← List.append_assoc, ← HPQ.out]
                    exact hsn.1
                  · rintro z (e | e)
                    · omega
                    · exact HOW.out z e
              · have hqe : q = L.length - kk := by omega
                obtain ⟨j, opq, cq, hcq, hS, hR, hpa⟩ := HLq.out
                have htk : (L.drop kk).take q = L.drop kk := List.take_of_length_le (by rw [List.length_drop]; omega)
                have hdr : ((L.drop kk).map (shiftP sh)).drop q = [] := List.drop_eq_nil_of_le (by rw [List.length_map, List.length_drop]; omega)
                rw [hdr] at hpa
                rw [htk] at hS
                have hcb := HCUT.out.1 (by rw [show ((i : Int) - (st.1 : Int)) = sh by have := HSY.out.2.1; have := HSH.out; omega]; exact hpa.symm)
                rw [show ((i : Int) - (st.1 : Int)) = sh by have := HSY.out.2.1; have := HSH.out; omega] at hcb
                have hr : piecesR u = (M ++ pre ++ (L.drop kk).map (shiftP sh), 0, 0) := by simp only [piecesR, hcb, show ¬ 20000 < u.size by omega, if_false]
                obtain ⟨mv2, hmv2, hrow2⟩ := hS.row.row
                obtain ⟨b0, n0, c0, rfl⟩ : ∃ a n c, mv2 = .slice a n c := by
                  rcases hrow2.2 with ⟨rfl, _⟩ | ⟨g, cap, cur, rfl, _⟩
                  · exact ⟨_, _, _, rfl⟩
                  · exact ⟨_, _, _, rfl⟩
                have hc1x := hS.fix.c1; have hc2x := hS.fix.c2; have hf0 := hS.row.f0; have hf1 := hS.fix.f1; have hf2 := hS.fix.f2
                have HS9 := Lib.hid hS; have HR9 := Lib.hid hR; have HRR := Lib.hid hr
                have hlt1 : ((q : Int) < (L.length : Int) - (kk : Int)) = False := by simp; omega
                have hlt2 : ((q : Int) < ((L.length - kk : Nat) : Int)) = False := by simp; omega
                clear hS hR hpa hrow2 hr hcb htk hdr HLq hqe
                gi_wp2_with fail
                exact rleave_st HS9.out HR9.out hnH HRR.out b0 n0 c0 hmv2 _ (HRES.out _ (by simp) (by simp) (by simp))
end

section
open Go.RowKit Go.Shelf

/-- A slice that holds pieces, perhaps none. -/
def RowIn (w : World) (v : Value) (l : List (Nat × Nat × Nat)) : Prop := ∃ b cap g, v = .slice b l.length cap ∧ l.length ≤ cap ∧ LIn w b g l
theorem RowIn.below {w w' : World} {v : Value} {l : List (Nat × Nat × Nat)} (h : RowIn w v l) (hB : Below w.heap.size w w') : RowIn w' v l := by
  obtain ⟨b, cap, g, h1, h2, h3⟩ := h
  exact ⟨b, cap, g, h1, h2, h3.addr, fun hne => Nat.lt_of_lt_of_le (h3.low hne) hB.size, fun hne j u hu => (hB.cell (p := ⟨g, j, none⟩) (h3.low hne)).trans (h3.cells hne j u hu)⟩
theorem RowIn.of_owns {w : World} {base : Nat} {v : Value} {l : List (Nat × Nat × Nat)} (h : w.ownsRow base 59 3 v l.length (flatP l)) : RowIn w v l := by
  have hc := fun g => h.cells (g := g)
  rcases h.2 with ⟨rfl, h0⟩ | ⟨g, cap, cur, rfl, hb, hg, hn, hcap, hsz, htk⟩
  · have : l = [] := List.length_eq_zero_iff.1 h0
    subst this
    exact ⟨none, 0, 0, rfl, Nat.le_refl _, fun h => absurd rfl h, fun h => absurd rfl h, fun h => absurd rfl h⟩
  · refine ⟨_, cap, g, rfl, hn, fun _ => rfl, fun _ => (Array.getElem?_eq_some_iff.1 hg).1, fun _ j u hu => ?_⟩
    have := hc g rfl j u hu
    rw [Addr.add_zero_off] at this
    exact this

theorem recut_any (v : Value) (t ins : ByteArray) (a d : Nat) (h : a + d ≤ t.size) (hok : (piecesR t).2.2 = 0) (hu : (spliceB t a d ins).size ≤ 20000) (w : World) (E : Env w) (hv : RowIn w v (piecesR t).1) :
    Calls Tryz.prog 56 #[.string t, v, .agg #[.int .i64 (a : Int), .int .i64 (d : Int), .string ins], .string (spliceB t a d ins)] w (PiecesEnd (spliceB t a d ins) w) := by
  obtain ⟨hts, hat, hcut, op, c, hst⟩ := pieces_ok hok
  obtain ⟨b, cap, g, rfl, hcap, hI⟩ := hv
  have hsz := splice_size t ins a d h
  have hlen := (steps_bounds _ _ _ _ _ hst (by omega)).1
  have hsz' : (spliceB t a d ins).size = t.size + ins.size - d := hsz
  refine callsIn_wide.1 (recut_run b g cap t (spliceB t a d ins) ins a d (piecesR t).1 (t.size, op, c) w E hu hts hI (by omega) hst rfl ?_ (splice_ahead t ins a d h) (by simp only at hlen; omega) hcap)
  intro i j h1 h2 h3 h4
  have hij : i = j + ins.size - d := by omega
  rw [hij]
  exact splice_behind t ins a d j h (by omega) h4

theorem equal_same (v0 v : Value) (l : List (Nat × Nat × Nat)) (hl : l.length ≤ 1048576) (w : World) (h0 : RowIn w v0 l) (h : RowIn w v l) :
    Calls Tryz.prog 55 #[v0, v] w fun e w' => e = .returned (.bool true) ∧ Below w.heap.size w w' := by
  obtain ⟨b0, c0, g0, rfl, _, I0⟩ := h0
  obtain ⟨b1, c1, g1, rfl, _, I1⟩ := h
  by_cases hne : l = []
  · subst hne
    exact equal_none b0 b1 c0 c1 w
  · have e0 := I0.addr hne
    have e1 := I1.addr hne
    subst e0 e1
    have hlen : (intsP l).length = l.length := by simp [intsP]
    have := equal_some g0 g1 c0 c1 (intsP l) (intsP l) rfl (by omega) w (I0.low hne) (I1.low hne) (fun j u hu => I0.cells hne j u (by rw [← flatI_intsP]; exact hu)) (fun j u hu => I1.cells hne j u (by rw [← flatI_intsP]; exact hu))
    rw [hlen] at this
    simpa using this
theorem kept_any (v0 v : Value) (l m : List (Nat × Nat × Nat)) (shift : Int) (hs : -1048576 ≤ shift ∧ shift ≤ 1048576) (hl : ∀ x ∈ l, x.2.1 + x.2.2 ≤ 1048576) (hln : l.length ≤ 1048576) (hmn : m.length ≤ 1048576) (w : World) (h0 : RowIn w v0 l) (h : RowIn w v m) :
    Calls Tryz.prog 57 #[v0, v, .int .i64 shift] w fun e w' => e = .returned (.agg #[.int .i64 (frontN l m 0 : Int), .int .i64 (backN l m shift (frontN l m 0) 0 : Int)]) ∧ Below w.heap.size w w' := by
  obtain ⟨b0, c0, g0, rfl, _, I0⟩ := h0
  obtain ⟨b1, c1, g1, rfl, _, I1⟩ := h
  by_cases hne : l = [] ∨ m = []
  · have hmin : min l.length m.length = 0 := by rcases hne with rfl | rfl <;> simp
    have hk := kept_none b0 b1 l.length c0 m.length c1 shift (by omega) w
    rw [frontN_end (by omega), backN_end (by omega)]
    exact hk
  · have h1 : l ≠ [] := fun e => hne (.inl e)
    have h2 : m ≠ [] := fun e => hne (.inr e)
    have e0 := I0.addr h1
    have e1 := I1.addr h2
    subst e0 e1
    exact kept_some g0 g1 c0 c1 l m shift hs hl hln hmn w (I0.low h1) (I1.low h2) (I0.cells h1) (I1.cells h2)

def UpdOk (t u : ByteArray) (L : List (Nat × Nat × Nat)) (w : World) (e : Ending) (w' : World) : Prop :=
  ∃ v', e = .returned (.tuple #[v', .agg #[.int .i64 (frontN L (piecesR u).1 0 : Int), .int .i64 (backN L (piecesR u).1 ((u.size : Int) - (t.size : Int)) (frontN L (piecesR u).1 0) 0 : Int)], .int .i64 0, .int .i64 0]) ∧
    w'.ownsRow w.heap.size 59 3 v' (piecesR u).1.length (flatP (piecesR u).1) ∧ Below w.heap.size w w'

set_option maxHeartbeats 4000000 in
set_option maxRecDepth 100000 in
theorem upd_ok (v : Value) (t ins : ByteArray) (a d : Nat) (h : a + d ≤ t.size) (hok : (piecesR t).2.2 = 0) (hu : (spliceB t a d ins).size ≤ 20000) (hr : (piecesR (spliceB t a d ins)).2.2 = 0) (w : World) (E : Env w) (hv : RowIn w v (piecesR t).1) :
    Calls Tryz.prog 35 #[.string t, v, .agg #[.int .i64 (a : Int), .int .i64 (d : Int), .string ins]] w (UpdOk t (spliceB t a d ins) (piecesR t).1 w) := by
  obtain ⟨hts, hat, _, opT, cT, hst⟩ := pieces_ok hok
  obtain ⟨hus, hau, _, opU, cU, hsu⟩ := pieces_ok hr
  have hlen := (steps_bounds _ _ _ _ _ hst (by omega)).1
  have hlenu := (steps_bounds _ _ _ _ _ hsu (by omega)).1
  simp only at hlen hlenu
  have hsz' : (spliceB t a d ins).size = t.size + ins.size - d := splice_size t ins a d h
  have hmem : ∀ x ∈ (piecesR t).1, x.2.1 + x.2.2 ≤ 1048576 := fun x hx => by have := (steps_in _ _ _ _ _ hst x hx).2.1; simp only at this; omega
  obtain ⟨u, hue⟩ : ∃ u, u = spliceB t a d ins := ⟨_, rfl⟩
  have hp := fun W E => pieces_all t W E
  unfold PiecesEnd at hp
  rw [hok, hat] at hp
  have hch := fun W => change_ok t ins a d h (by omega) W
  have hrc := fun W E hv => recut_any v t ins a d h hok hu W E hv
  unfold PiecesEnd at hrc
  rw [hr, hau] at hrc
  rw [← hue] at hch hrc hr hau hlenu hsz' hu hsu ⊢
  obtain ⟨L, hL⟩ : ∃ L, L = (piecesR t).1 := ⟨_, rfl⟩
  obtain ⟨m, hm⟩ : ∃ m, m = (piecesR u).1 := ⟨_, rfl⟩
  unfold UpdOk
  rw [← hL] at hp hrc hv hlen hmem
  rw [← hL, ← hm]
  rw [← hm] at hrc hlenu
  have HP := Lib.hid hp; have HCH := Lib.hid hch; have HRC := Lib.hid hrc; have HV := Lib.hid hv; have HMEM := Lib.hid hmem
  have HE := Lib.hid (fun (W : World) (h : Below w.heap.size w W) => E.below E.size h)
  have hlu : ((20000 : Int) < (u.size : Int)) = False := by simp; omega
  have wsub : IntKind.i64.wrap ((u.size : Int) - (t.size : Int)) = (u.size : Int) - (t.size : Int) := IntWalk.i64_in _ (by omega)
  clear hp hch hrc hv hmem E hok hr hue hst hsu hL hm hat hau hsz' hus
  go_enter Tryz.func35, Tryz.ntmps35
  go_wp2_with fail
  refine (HP.out _ (HE.out _ (((Below.refl _ w).alloc (Nat.le_refl _) _).alloc (by simp) _))).mono ?_
  rintro e w1 ⟨v0, rfl, hrow, hb⟩
  have hB1 : Below w.heap.size w w1 := (((Below.refl _ w).alloc (Nat.le_refl _) _).alloc (by simp) _).trans (hb.mono (by simp; omega))
  have e1 : w1.heap[w.heap.size + 1]? = some (.cells #[.int .i64 0, .int .i64 0] 55) := (hb.block _ (by simp)).trans (by have := World.alloc_heap_new (w.alloc (.cells #[.int .i64 (a : Int), .int .i64 (d : Int), .string ins] 40)) (.cells #[.int .i64 0, .int .i64 0] 55); simpa using this)
  have hk1 : ∀ k o, k < w.heap.size + 2 → w1.cell? ⟨k, o, none⟩ = _ := fun k o hk => hb.cell (p := ⟨k, o, none⟩) (by simp; omega)
  have c0 : w1.cell? ⟨w.heap.size, 0, none⟩ = some (.int .i64 (a : Int)) := (hk1 _ _ (by omega)).trans (by simp)
  have c1 : w1.cell? ⟨w.heap.size, 1, none⟩ = some (.int .i64 (d : Int)) := (hk1 _ _ (by omega)).trans (by simp)
  have c2 : w1.cell? ⟨w.heap.size, 2, none⟩ = some (.string ins) := (hk1 _ _ (by omega)).trans (by simp)
  have hz1 := hb.size
  simp only [World.size_alloc] at hz1
  have RV := HV.out.below hB1
  have R0 := RowIn.of_owns hrow
  have HB1 := Lib.hid hB1; have HRV := Lib.hid RV; have HR0 := Lib.hid R0
  clear hk1 hrow hb hB1 RV R0 HP
  go_wp2_with fail
  refine (equal_same v0 v L (by omega) w1 HR0.out HRV.out).mono ?_
  rintro e w2 ⟨rfl, hb2⟩
  have d0 : w2.cell? ⟨w.heap.size, 0, none⟩ = some (.int .i64 (a : Int)) := (hb2.cell (p := ⟨w.heap.size, 0, none⟩) (by simp; omega)).trans c0
  have d1 : w2.cell? ⟨w.heap.size, 1, none⟩ = some (.int .i64 (d : Int)) := (hb2.cell (p := ⟨w.heap.size, 1, none⟩) (by simp; omega)).trans c1
  have d2 : w2.cell? ⟨w.heap.size, 2, none⟩ = some (.string ins) := (hb2.cell (p := ⟨w.heap.size, 2, none⟩) (by simp; omega)).trans c2
  have hz2 := hb2.size
  have e2 := (hb2.block _ (by omega)).trans e1
  have HB2 := Lib.hid (HB1.out.trans (hb2.mono HB1.out.size)); have HRV2 := Lib.hid (HRV.out.below hb2)
  clear HB1 HRV HR0 hb2 c0 c1 c2
  go_wp2_with fail
  refine (HCH.out _).mono ?_
  rintro e w3 ⟨rfl, hb3⟩
  have c0 : w3.cell? ⟨w.heap.size, 0, none⟩ = some (.int .i64 (a : Int)) := (hb3.cell (p := ⟨w.heap.size, 0, none⟩) (by simp; omega)).trans d0
  have c1 : w3.cell? ⟨w.heap.size, 1, none⟩ = some (.int .i64 (d : Int)) := (hb3.cell (p := ⟨w.heap.size, 1, none⟩) (by simp; omega)).trans d1
  have c2 : w3.cell? ⟨w.heap.size, 2, none⟩ = some (.string ins) := (hb3.cell (p := ⟨w.heap.size, 2, none⟩) (by simp; omega)).trans d2
  have hz3 := hb3.size
  have e3 := (hb3.block _ (by omega)).trans e2
  have HB3 := Lib.hid (HB2.out.trans (hb3.mono HB2.out.size)); have HRV3 := Lib.hid (HRV2.out.below hb3)
  clear HB2 HRV2 HCH hb3 d0 d1 d2
  go_wp2_with fail
  refine (HRC.out _ (HE.out _ HB3.out) HRV3.out).mono ?_
  rintro e w4 ⟨v', rfl, hrow4, hb4⟩
  have hz4 := hb4.size
  have e4 := (hb4.block _ (by omega)).trans e3
  have HB4 := Lib.hid (HB3.out.trans (hb4.mono HB3.out.size)); have HRV4 := Lib.hid (HRV3.out.below hb4); have HR4 := Lib.hid (RowIn.of_owns hrow4)
  have HROW := Lib.hid hrow4
  have hvs : ∃ b0 c0, v' = .slice b0 m.length c0 := by
    rcases hrow4.2 with ⟨rfl, h0⟩ | ⟨g, cap, cur, rfl, _⟩
    · exact ⟨none, 0, by rw [h0]⟩
    · exact ⟨_, _, rfl⟩
  obtain ⟨b0, c0', rfl⟩ := hvs
  clear HB3 HRV3 HRC hb4 hrow4 c0 c1 c2
  go_wp2_with fail
  refine (kept_any v _ L m ((u.size : Int) - (t.size : Int)) (by omega) HMEM.out (by omega) (by omega) _ HRV4.out HR4.out).mono ?_
  rintro e w5 ⟨rfl, hb5⟩
  have e5 := (hb5.block _ (by omega)).trans e4
  have k0 : w5.cell? ⟨w.heap.size + 1, 0, none⟩ = some (.int .i64 0) := cell_at e5
  have k1 : w5.cell? ⟨w.heap.size + 1, 1, none⟩ = some (.int .i64 0) := cell_at e5
  have k2 : w5.frozen? ⟨w.heap.size + 1, 0, none⟩ = false := frozen_at e5
  have k3 : w5.frozen? ⟨w.heap.size + 1, 1, none⟩ = false := frozen_at e5
  have HE5 := Lib.hid e5
  clear e1 e2 e3 e4 e5
  have HB5 := Lib.hid (HB4.out.trans (hb5.mono HB4.out.size))
  have HROW5 := Lib.hid (row_same HROW.out (fun k _ h2 => hb5.block k h2))
  clear HB4 HRV4 HR4 HROW hb5
  go_wp2_with fail
  obtain ⟨W6, hW6⟩ : ∃ W6, W6 = ((w5.setCell ⟨w.heap.size + 1, 0, none⟩ (.int .i64 (frontN L m 0 : Int))).setCell ⟨w.heap.size + 1, 1, none⟩ (.int .i64 (backN L m ((u.size : Int) - (t.size : Int)) (frontN L m 0) 0 : Int))) := ⟨_, rfl⟩
  have r1 : W6.cell? ⟨w.heap.size + 1, 1, none⟩ = some (.int .i64 (backN L m ((u.size : Int) - (t.size : Int)) (frontN L m 0) 0 : Int)) := by
    rw [hW6]; exact World.cell?_setCell_same' _ _ _ (by rw [World.cell?_setCell_other _ _ _ _ (by simp), k1]; rfl)
  have r0 : W6.cell? ⟨w.heap.size + 1, 0, none⟩ = some (.int .i64 (frontN L m 0 : Int)) := by
    rw [hW6, World.cell?_setCell_other _ _ _ _ (by simp)]; exact World.cell?_setCell_same' _ _ _ (by rw [k0]; rfl)
  rw [← hW6]
  refine bodyPost_ret (v := .tuple #[.slice b0 m.length c0', .agg #[.int .i64 (frontN L m 0 : Int), .int .i64 (backN L m ((u.size : Int) - (t.size : Int)) (frontN L m 0) 0 : Int)], .int .i64 0, .int .i64 0]) ?_ rfl ⟨_, rfl, ?_, ?_⟩
  · simp [results, Tryz.results35, go_sem, r0, r1]
  · rw [hW6]
    refine row_base (base := w3.heap.size) (row_same HROW5.out fun k h1 h2 => ?_) (by omega)
    rw [Below.heap_setCell _ _ _ _ (by simp; omega), Below.heap_setCell _ _ _ _ (by simp; omega)]
  · rw [hW6]
    exact (HB5.out.setCell (p := ⟨w.heap.size + 1, 0, none⟩) (by simp) _).setCell (p := ⟨w.heap.size + 1, 1, none⟩) (by simp) _
end

section
open Go.RowKit Go.Shelf

theorem scan_row (t : ByteArray) (n : Nat) (hn : (toksR t).length = n) (hpos : 0 < n) (h1 : (piecesR t).2.1 = 0) (h2 : (piecesR t).2.2 = 0) (W : World) (E : Env W) :
    Calls Tryz.prog 10 #[.string t] W fun e w' => ∃ g cap, e = .returned (.tuple #[.slice (some ⟨g, 0, none⟩) n cap, .int .i64 0, .int .i64 0]) ∧ g < w'.heap.size ∧ (∀ j u, (flatT t (toksR t))[j]? = some u → w'.cell? ⟨g, j, none⟩ = some u) ∧ Below W.heap.size W w' := by
  refine (scan_any t W E).mono ?_
  rintro e w' ⟨v, rfl, hrow, hb⟩
  have hc := fun g => hrow.cells (g := g)
  rcases hrow.2 with ⟨rfl, h0⟩ | ⟨g, cap, cur, rfl, _, hg, _⟩
  · omega
  · refine ⟨g, cap, by rw [h1, h2, hn]; rfl, (Array.getElem?_eq_some_iff.1 hg).1, fun j u hu => ?_, hb⟩
    have := hc g rfl j u hu
    rw [Addr.add_zero_off] at this
    exact this
theorem scan_bad (t : ByteArray) (i c : Nat) (h1 : (piecesR t).2.1 = i) (h2 : (piecesR t).2.2 = c) (W : World) (E : Env W) :
    Calls Tryz.prog 10 #[.string t] W fun e w' => ∃ v, e = .returned (.tuple #[v, .int .i64 (i : Int), .int .i64 (c : Int)]) ∧ Below W.heap.size W w' := by
  refine (scan_any t W E).mono ?_
  rintro e w' ⟨v, rfl, _, hb⟩
  exact ⟨v, by rw [h1, h2], hb⟩
theorem pieces_row (t : ByteArray) (n : Nat) (hn : (piecesR t).1.length = n) (hpos : 0 < n) (h1 : (piecesR t).2.1 = 0) (h2 : (piecesR t).2.2 = 0) (W : World) (E : Env W) :
    Calls Tryz.prog 8 #[.string t] W fun e w' => ∃ g cap, e = .returned (.tuple #[.slice (some ⟨g, 0, none⟩) n cap, .int .i64 0, .int .i64 0]) ∧ g < w'.heap.size ∧ PcsAt w' g (piecesR t).1 ∧ Below W.heap.size W w' := by
  refine (pieces_all t W E).mono ?_
  rintro e w' ⟨v, rfl, hrow, hb⟩
  have hc := fun g => hrow.cells (g := g)
  rcases hrow.2 with ⟨rfl, h0⟩ | ⟨g, cap, cur, rfl, _, hg, _⟩
  · omega
  · refine ⟨g, cap, by rw [h1, h2, hn]; rfl, (Array.getElem?_eq_some_iff.1 hg).1, fun j u hu => ?_, hb⟩
    have := hc g rfl j u hu
    rw [Addr.add_zero_off] at this
    exact this
def insDD : ByteArray := ⟨#[100, 100]⟩
def nmArea : ByteArray := ⟨#[97, 114, 101, 97]⟩
def nmShapes : ByteArray := ⟨#[115, 104, 97, 112, 101, 115]⟩
def nmBoth : ByteArray := ⟨#[97, 114, 101, 97, 64, 115, 104, 97, 112, 101, 115]⟩
def nmX : ByteArray := ⟨#[120, 58]⟩
def nmEmpty : ByteArray := ⟨#[101, 109, 112, 116, 121, 63]⟩
def nmXL : ByteArray := ⟨#[120, 64, 108]⟩
set_option maxRecDepth 100000 in
theorem tk1 : (toksR tx1).length = 8 := by decide +kernel
set_option maxRecDepth 100000 in
theorem tk2 : (toksR tx2).length = 8 := by decide +kernel
set_option maxRecDepth 100000 in
theorem tc1 : (flatT tx1 (toksR tx1))[2 * 5 + 2]? = some (.string ⟨#[60, 112, 111, 105, 110, 116, 62]⟩) := by kernel_rfl
set_option maxRecDepth 100000 in
theorem tc2 : (flatT tx2 (toksR tx2))[4 * 5 + 1]? = some (.int .i64 (-3)) := by kernel_rfl
set_option maxRecDepth 100000 in
theorem tc3 : (flatT tx2 (toksR tx2))[6 * 5 + 2]? = some (.string ⟨#[98, 45, 50]⟩) := by kernel_rfl
set_option maxRecDepth 100000 in
theorem tsp : spliceB tx6 2 1 insDD = tx7 := by decide +kernel
set_option maxRecDepth 100000 in
theorem tfr : frontN ls6 ls7 0 = 2 ∧ backN ls6 ls7 1 2 0 = 2 := by decide +kernel
set_option maxRecDepth 100000 in
theorem tspl : splitB nmBoth = (nmArea, nmShapes) := by decide +kernel
set_option maxRecDepth 100000 in
theorem tkx : kindN nmX = 3 := by decide +kernel
set_option maxRecDepth 100000 in
theorem tpe : isPlainB nmEmpty = true := by decide +kernel
set_option maxRecDepth 100000 in
theorem tpx : isPlainB nmXL = false := by decide +kernel
theorem split_sane (W : World) (E : Env W) : Calls Tryz.prog 17 #[.string nmBoth] W fun e w' => e = .returned (.tuple #[.string ⟨#[97, 114, 101, 97]⟩, .string ⟨#[115, 104, 97, 112, 101, 115]⟩]) ∧ Below W.heap.size W w' := by
  have h := split_any nmBoth (by decide) W E
  rw [tspl] at h
  exact h
theorem kind_sane (W : World) (E : Env W) : Calls Tryz.prog 21 #[.string nmX] W fun e w' => e = .returned (.int .i64 3) ∧ Below W.heap.size W w' := by
  have h := kind_any nmX (by decide) W E
  rw [tkx] at h
  exact h
theorem plain_sane1 (W : World) (E : Env W) : Calls Tryz.prog 25 #[.string nmEmpty] W fun e w' => e = .returned (.bool true) ∧ Below W.heap.size W w' := by
  have h := isPlain_any nmEmpty (by decide) W E
  rw [tpe] at h
  exact h
theorem plain_sane2 (W : World) (E : Env W) : Calls Tryz.prog 25 #[.string nmXL] W fun e w' => e = .returned (.bool false) ∧ Below W.heap.size W w' := by
  have h := isPlain_any nmXL (by decide) W E
  rw [tpx] at h
  exact h
theorem row_ls6 (W : World) : RowIn (W.alloc (.cells #[.int .i64 1, .int .i64 0, .int .i64 1, .int .i64 7, .int .i64 1, .int .i64 1, .int .i64 1, .int .i64 2, .int .i64 1, .int .i64 7, .int .i64 3, .int .i64 1, .int .i64 1, .int .i64 4, .int .i64 1] 59)) (.slice (some ⟨W.heap.size, 0, none⟩) 5 5) ls6 := by
  refine ⟨_, 5, W.heap.size, rfl, by decide, fun _ => rfl, fun _ => by simp, fun _ j u hu => ?_⟩
  rw [cell_at (World.alloc_heap_new W _)]
  have h : (#[.int .i64 1, .int .i64 0, .int .i64 1, .int .i64 7, .int .i64 1, .int .i64 1, .int .i64 1, .int .i64 2, .int .i64 1, .int .i64 7, .int .i64 3, .int .i64 1, .int .i64 1, .int .i64 4, .int .i64 1] : Array Value).toList = flatP ls6 := rfl
  rw [← h] at hu
  simpa using hu
/-- The example of Update. -/
theorem upd_sane (v : Value) (W : World) (E : Env W) (hv : RowIn W v ls6) :
    Calls Tryz.prog 35 #[.string tx6, v, .agg #[.int .i64 2, .int .i64 1, .string insDD]] W fun e w' => ∃ v' : Option Addr × Nat, e = .returned (.tuple #[.slice v'.1 5 v'.2, .agg #[.int .i64 2, .int .i64 2], .int .i64 0, .int .i64 0]) ∧ Below W.heap.size W w' := by
  have h := upd_ok v tx6 insDD 2 1 (by decide) (by rw [pc6]) (by rw [tsp]; decide) (by rw [tsp, pc7]) W E (by rw [pc6]; exact hv)
  rw [tsp] at h
  refine h.mono ?_
  rintro e w' ⟨v', rfl, hrow, hb⟩
  rw [pc7] at hrow
  have hs : ∃ p : Option Addr × Nat, v' = .slice p.1 5 p.2 := by
    rcases hrow.2 with ⟨rfl, h0⟩ | ⟨g, cap, cur, rfl, _⟩
    · exact absurd h0 (by decide)
    · exact ⟨(some ⟨g, 0, none⟩, cap), rfl⟩
  obtain ⟨p, rfl⟩ := hs
  refine ⟨p, ?_, hb⟩
  rw [pc6, pc7]
  have h1 : ((tx7.size : Int) - (tx6.size : Int)) = 1 := by decide
  rw [h1, tfr.1, tfr.2]
  rfl
end

section
open Go.RowKit Go.Shelf

set_option maxHeartbeats 4000000 in
set_option maxRecDepth 100000 in
theorem sane_any (w : World) (E : Env w) : Calls Tryz.prog 7 #[] w fun e w' => e = .returned (.bool true) ∧ Below w.heap.size w w' := by
  have H1 := Lib.hid (fun W E => scan_row tx1 8 tk1 (by omega) (by rw [pc1]) (by rw [pc1]) W E)
  have H2 := Lib.hid (fun W E => scan_row tx2 8 tk2 (by omega) (by rw [pc2]) (by rw [pc2]) W E)
  have H3 := Lib.hid (fun W E => scan_bad tx3 0 12 (by rw [pc3]) (by rw [pc3]) W E)
  have H4 := Lib.hid (fun W E => scan_bad tx4 0 11 (by rw [pc4]) (by rw [pc4]) W E)
  have H5 := Lib.hid (fun W E => pieces_row tx5 5 (by rw [pc5]; rfl) (by omega) (by rw [pc5]) (by rw [pc5]) W E)
  have HE := Lib.hid (fun (W : World) (h : Below w.heap.size w W) => E.below E.size h)
  have HEZ := Lib.hid E.size
  clear E
  go_enter Tryz.func7, Tryz.ntmps7
  go_wp2_with fail
  refine (H1.out _ (HE.out _ (Below.refl _ _))).mono ?_
  rintro e w1 ⟨g1, k1, rfl, z1, c1, b1⟩
  have B1 := Lib.hid b1; have C1 := Lib.hid (c1 _ _ tc1)
  clear c1 b1
  go_wp2_with fail
  refine (H2.out _ (HE.out _ B1.out)).mono ?_
  rintro e w2 ⟨g2, k2, rfl, z2, c2, b2⟩
  have B2 := Lib.hid (B1.out.trans (b2.mono B1.out.size)); have C12 := Lib.hid ((b2.cell (p := ⟨g1, 12, none⟩) z1).trans C1.out)
  have C2 := Lib.hid (c2 _ _ tc2); have C3 := Lib.hid (c2 _ _ tc3); have y1 := b2.size
  clear c2 b2 B1 C1
  go_wp2_with fail
  refine (H3.out _ (HE.out _ B2.out)).mono ?_
  rintro e w3 ⟨v3, rfl, b3⟩
  have B3 := Lib.hid (B2.out.trans (b3.mono B2.out.size)); have C13 := Lib.hid ((b3.cell (p := ⟨g1, 12, none⟩) (by simp; omega)).trans C12.out)
  have C22 := Lib.hid ((b3.cell (p := ⟨g2, 21, none⟩) z2).trans C2.out); have C23 := Lib.hid ((b3.cell (p := ⟨g2, 32, none⟩) z2).trans C3.out); have y2 := b3.size
  clear b3 B2 C12 C2 C3
  go_wp2_with fail
  refine (H4.out _ (HE.out _ B3.out)).mono ?_
  rintro e w4 ⟨v4, rfl, b4⟩
  have B4 := Lib.hid (B3.out.trans (b4.mono B3.out.size)); have C14 := Lib.hid ((b4.cell (p := ⟨g1, 12, none⟩) (by simp; omega)).trans C13.out)
  have C24 := Lib.hid ((b4.cell (p := ⟨g2, 21, none⟩) (by simp; omega)).trans C22.out); have C25 := Lib.hid ((b4.cell (p := ⟨g2, 32, none⟩) (by simp; omega)).trans C23.out); have y3 := b4.size
  clear b4 B3 C13 C22 C23
  go_wp2_with fail
  refine (H5.out _ (HE.out _ B4.out)).mono ?_
  rintro e w5 ⟨g5, k5, rfl, z5, c5, b5⟩
  have B5 := Lib.hid (B4.out.trans (b5.mono B4.out.size)); have C15 := Lib.hid ((b5.cell (p := ⟨g1, 12, none⟩) (by simp; omega)).trans C14.out)
  have C26 := Lib.hid ((b5.cell (p := ⟨g2, 21, none⟩) (by simp; omega)).trans C24.out); have C27 := Lib.hid ((b5.cell (p := ⟨g2, 32, none⟩) (by simp; omega)).trans C25.out); have y4 := b5.size
  have C5 : Hid (w5.cell? ⟨g5, 8, none⟩ = some (.int .i64 7)) := Lib.hid (c5.c2 (k := 2) (x := (8, 2, 7)) (by rw [pc5]; rfl))
  clear b5 c5 B4 C14 C24 C25
  go_wp2_with fail
  refine (upd_sane _ _ (HE.out _ (B5.out.alloc B5.out.size _)) (row_ls6 w5)).mono ?_
  rintro e w6 ⟨⟨p6, k6⟩, rfl, b6⟩
  have hz6 : (w5.alloc (.cells #[.int .i64 1, .int .i64 0, .int .i64 1, .int .i64 7, .int .i64 1, .int .i64 1, .int .i64 1, .int .i64 2, .int .i64 1, .int .i64 7, .int .i64 3, .int .i64 1, .int .i64 1, .int .i64 4, .int .i64 1] 59)).heap.size = w5.heap.size + 1 := by simp
  have b56 := ((Below.refl _ w5).alloc (Nat.le_refl _) (.cells #[.int .i64 1, .int .i64 0, .int .i64 1, .int .i64 7, .int .i64 1, .int .i64 1, .int .i64 1, .int .i64 2, .int .i64 1, .int .i64 7, .int .i64 3, .int .i64 1, .int .i64 1, .int .i64 4, .int .i64 1] 59)).trans (b6.mono (by omega))
  have y5 := b56.size
  have B6 := Lib.hid (B5.out.trans (b56.mono B5.out.size))
  have x1 : w6.cell? ⟨g1, 12, none⟩ = some (.string ⟨#[60, 112, 111, 105, 110, 116, 62]⟩) := (b56.cell (p := ⟨g1, 12, none⟩) (by simp; omega)).trans C15.out
  have x2 : w6.cell? ⟨g2, 21, none⟩ = some (.int .i64 (-3)) := (b56.cell (p := ⟨g2, 21, none⟩) (by simp; omega)).trans C26.out
  have x3 : w6.cell? ⟨g2, 32, none⟩ = some (.string ⟨#[98, 45, 50]⟩) := (b56.cell (p := ⟨g2, 32, none⟩) (by simp; omega)).trans C27.out
  have x4 : w6.cell? ⟨g5, 8, none⟩ = some (.int .i64 7) := (b56.cell (p := ⟨g5, 8, none⟩) z5).trans C5.out
  clear hz6 b6 B5 C15 C26 C27 C5
  go_wp2_with fail
  have bz := (Below.refl _ w6).alloc (Nat.le_refl _) (.cells #[.int .i64 2, .int .i64 2] 55)
  refine (split_sane _ (HE.out _ (B6.out.alloc B6.out.size _))).mono ?_
  rintro e w7 ⟨rfl, b7⟩
  have hz7 : (w6.alloc (.cells #[.int .i64 2, .int .i64 2] 55)).heap.size = w6.heap.size + 1 := by simp
  have e7 : w7.heap[w6.heap.size]? = some (.cells #[.int .i64 2, .int .i64 2] 55) := (b7.block _ (by omega)).trans (World.alloc_heap_new w6 _)
  have b67 := bz.trans (b7.mono (by omega))
  have B7 := Lib.hid (B6.out.trans (b67.mono B6.out.size))
  have u1 : w7.cell? ⟨g1, 12, none⟩ = some (.string ⟨#[60, 112, 111, 105, 110, 116, 62]⟩) := (b67.cell (p := ⟨g1, 12, none⟩) (by simp; omega)).trans x1
  have u2 : w7.cell? ⟨g2, 21, none⟩ = some (.int .i64 (-3)) := (b67.cell (p := ⟨g2, 21, none⟩) (by simp; omega)).trans x2
  have u3 : w7.cell? ⟨g2, 32, none⟩ = some (.string ⟨#[98, 45, 50]⟩) := (b67.cell (p := ⟨g2, 32, none⟩) (by simp; omega)).trans x3
  have u4 : w7.cell? ⟨g5, 8, none⟩ = some (.int .i64 7) := (b67.cell (p := ⟨g5, 8, none⟩) (by simp; omega)).trans x4
  have u5 : w7.cell? ⟨w6.heap.size, 0, none⟩ = some (.int .i64 2) := cell_at e7
  have u6 : w7.cell? ⟨w6.heap.size, 1, none⟩ = some (.int .i64 2) := cell_at e7
  clear x1 x2 x3 x4 bz b7 hz7 e7 b67 B6
  go_wp2_with fail
  clear u1 u2 u3 u4 u5 u6
  refine (kind_sane _ (HE.out _ B7.out)).mono ?_
  rintro e w8 ⟨rfl, b8⟩
  have B8 := Lib.hid (B7.out.trans (b8.mono B7.out.size))
  clear b8 B7
  go_wp2_with fail
  refine (plain_sane1 _ (HE.out _ B8.out)).mono ?_
  rintro e w9 ⟨rfl, b9⟩
  have B9 := Lib.hid (B8.out.trans (b9.mono B8.out.size))
  clear b9 B8
  go_wp2_with fail
  refine (plain_sane2 _ (HE.out _ B9.out)).mono ?_
  rintro e w10 ⟨rfl, b10⟩
  have B10 := Lib.hid (B9.out.trans (b10.mono B9.out.size))
  clear b10 B9
  go_wp2_with fail
  refine bodyPost_ret (v := .bool true) (by simp [results, Tryz.results7, go_sem]) rfl ⟨rfl, B10.out⟩
end

section
open Go.RowKit
attribute [local go_sem 5000] run_neq_ints run_guard_piece

set_option maxHeartbeats 4000000 in
set_option maxRecDepth 100000 in
theorem rSame_some (g h cl cm : Nat) (l m : List (Int × Int × Int)) (hlen : l.length = m.length) (hml : m.length ≤ 1048576) (w : World) (hg : g < w.heap.size) (hh : h < w.heap.size) (L : IntsAt w g l) (M : IntsAt w h m) :
    Calls Tryz.prog 12 #[.slice (some ⟨g, 0, none⟩) l.length cl, .slice (some ⟨h, 0, none⟩) m.length cm] w fun e w' => e = .returned (.bool (decide (l = m))) ∧ Below w.heap.size w w' := by
  have HM : Hid (m.length = l.length) := Lib.hid hlen.symm
  have hl1 : ((l.length : Int) != (m.length : Int)) = false := by rw [hlen]; simp
  go_enter Tryz.func12, Tryz.ntmps12
  go_wp2_with fail
  go_loopw [5] (fun i wr => ∃ k : Nat, k ≤ m.length ∧ i = .int .i64 k ∧ Hid (∀ j, j < k → l[j]? = m[j]?) ∧ Hid (Below w.heap.size w wr)) (fun i _ => m.length - (intOf i).toNat)
  case atStart => exact ⟨0, by omega, rfl, Lib.hid (fun j hj => by omega), Lib.hid (Below.refl _ _)⟩
  case round =>
    obtain ⟨k, hk, rfl, ha, hbe⟩ := hrel
    by_cases hlt : k < m.length
    · obtain ⟨x, hx⟩ : ∃ x, l[k]? = some x := ⟨_, List.getElem?_eq_getElem (by omega)⟩
      obtain ⟨y, hy⟩ : ∃ y, m[k]? = some y := ⟨_, List.getElem?_eq_getElem (by omega)⟩
      have l0 : wr.cell? ⟨g, k * 3, none⟩ = some (.int .i64 x.1) := (hbe.out.cell (p := ⟨g, k * 3, none⟩) hg).trans (L.c0 hx)
      have l1 : wr.cell? ⟨g, k * 3 + 1, none⟩ = some (.int .i64 x.2.1) := (hbe.out.cell (p := ⟨g, k * 3 + 1, none⟩) hg).trans (L.c1 hx)
      have l2 : wr.cell? ⟨g, k * 3 + 2, none⟩ = some (.int .i64 x.2.2) := (hbe.out.cell (p := ⟨g, k * 3 + 2, none⟩) hg).trans (L.c2 hx)
      have m0 : wr.cell? ⟨h, k * 3, none⟩ = some (.int .i64 y.1) := (hbe.out.cell (p := ⟨h, k * 3, none⟩) hh).trans (M.c0 hy)
      have m1 : wr.cell? ⟨h, k * 3 + 1, none⟩ = some (.int .i64 y.2.1) := (hbe.out.cell (p := ⟨h, k * 3 + 1, none⟩) hh).trans (M.c1 hy)
      have m2 : wr.cell? ⟨h, k * 3 + 2, none⟩ = some (.int .i64 y.2.2) := (hbe.out.cell (p := ⟨h, k * 3 + 2, none⟩) hh).trans (M.c2 hy)
      have h1 : (k : Int) < (m.length : Int) := by omega
      have h2 : (k : Int) < (l.length : Int) := by omega
      have hw : IntKind.i64.wrap ((k : Int) + 1) = (k : Int) + 1 := IntWalk.i64_in _ (by omega)
      have HXY : Hid (l[k]? = some x ∧ m[k]? = some y) := Lib.hid ⟨hx, hy⟩
      clear hx hy
      go_wp2_with fail
      go_region_held3 (fun w' => w'.cell? ⟨g, k * 3, none⟩ = some (.int .i64 x.1) ∧ w'.cell? ⟨g, k * 3 + 1, none⟩ = some (.int .i64 x.2.1) ∧ w'.cell? ⟨g, k * 3 + 2, none⟩ = some (.int .i64 x.2.2) ∧ w'.cell? ⟨h, k * 3, none⟩ = some (.int .i64 y.1) ∧ w'.cell? ⟨h, k * 3 + 1, none⟩ = some (.int .i64 y.2.1) ∧ w'.cell? ⟨h, k * 3 + 2, none⟩ = some (.int .i64 y.2.2)) (go_keep) (fail)
      by_cases hxy : x = y
      · have hd : decide (x = y) = true := by simp [hxy]
        have HE := Lib.hid hxy
        clear hxy
        simp only [hd]
        go_wp2_with fail
        refine ⟨⟨k + 1, hlt, by simp, Lib.hid (fun j hj => ?_), Lib.hid hbe.out.drew⟩, by simp only [intOf]; omega⟩
        by_cases hjk : j = k
        · subst hjk; rw [HXY.out.1, HXY.out.2, HE.out]
        · exact ha.out j (by omega)
      · have hd : decide (x = y) = false := by simp [hxy]
        have HE : Hid (¬ l = m) := Lib.hid (fun e => hxy (by have := HXY.out.1; rw [e, HXY.out.2] at this; injection this with this; exact this.symm))
        clear hxy
        simp only [hd]
        go_wp2_with fail
        refine bodyPost_ret (v := .bool false) ?_ rfl ⟨by rw [decide_eq_false HE.out], hbe.out.drew⟩
        simp [results, Tryz.results12, go_sem]
    · have hkl : k = m.length := by omega
      have HE : Hid (l = m) := Lib.hid (eq_of_all l m hlen (fun j hj => ha.out j (by omega)))
      subst hkl
      go_wp2_with fail
      refine bodyPost_ret (v := .bool true) ?_ rfl ⟨by rw [decide_eq_true HE.out], hbe.out⟩
      simp [results, Tryz.results12, go_sem]
theorem rSame_len (b1 b2 : Option Addr) (n1 c1 n2 c2 : Nat) (hne : n1 ≠ n2) (w : World) :
    Calls Tryz.prog 12 #[.slice b1 n1 c1, .slice b2 n2 c2] w fun e w' => e = .returned (.bool false) ∧ Below w.heap.size w w' := by
  have hne' : ((n1 : Int) != (n2 : Int)) = true := by rw [bne_iff_ne]; omega
  go_enter Tryz.func12, Tryz.ntmps12
  go_wp2_with fail
  refine bodyPost_ret (v := .bool false) ?_ rfl ⟨rfl, Below.refl _ _⟩
  simp [results, Tryz.results12, go_sem]
theorem rSame_none (b1 b2 : Option Addr) (c1 c2 : Nat) (w : World) :
    Calls Tryz.prog 12 #[.slice b1 0 c1, .slice b2 0 c2] w fun e w' => e = .returned (.bool true) ∧ Below w.heap.size w w' := by
  go_enter Tryz.func12, Tryz.ntmps12
  go_wp2_with fail
  go_loopw [5] (fun i wr => i = .int .i64 0 ∧ wr = w) (fun _ _ => 0)
  case atStart => exact ⟨rfl, rfl⟩
  case round =>
    obtain ⟨rfl, rfl⟩ := hrel
    go_wp2_with fail
    refine bodyPost_ret (v := .bool true) ?_ rfl ⟨rfl, Below.refl _ _⟩
    simp [results, Tryz.results12, go_sem]
theorem rSame_rows (v0 v : Value) (l : List (Nat × Nat × Nat)) (hl : l.length ≤ 1048576) (w : World) (h0 : RowIn w v0 l) (h : RowIn w v l) :
    Calls Tryz.prog 12 #[v0, v] w fun e w' => e = .returned (.bool true) ∧ Below w.heap.size w w' := by
  obtain ⟨b0, c0, g0, rfl, _, I0⟩ := h0
  obtain ⟨b1, c1, g1, rfl, _, I1⟩ := h
  by_cases hne : l = []
  · subst hne
    exact rSame_none b0 b1 c0 c1 w
  · have e0 := I0.addr hne
    have e1 := I1.addr hne
    subst e0 e1
    have hlen : (intsP l).length = l.length := by simp [intsP]
    have := rSame_some g0 g1 c0 c1 (intsP l) (intsP l) rfl (by omega) w (I0.low hne) (I1.low hne) (fun j u hu => I0.cells hne j u (by rw [← flatI_intsP]; exact hu)) (fun j u hu => I1.cells hne j u (by rw [← flatI_intsP]; exact hu))
    rw [hlen] at this
    simpa using this

/-! Tokens. -/
theorem flatT_at (t : ByteArray) (l : List (Nat × Nat × Nat)) (k j : Nat) (x : Nat × Nat × Nat) (hk : l[k]? = some x) (hj : j < 5) : (flatT t l)[k * 5 + j]? = (cellsT t x)[j]? := by
  induction l generalizing k with
  | nil => simp at hk
  | cons y l ih =>
    have hc : flatT t (y :: l) = cellsT t y ++ flatT t l := rfl
    have h3 : (cellsT t y).length = 5 := rfl
    rw [hc]
    cases k with
    | zero =>
      simp at hk
      subst hk
      rw [List.getElem?_append_left (by omega)]
      simp
    | succ k =>
      rw [List.getElem?_append_right (by omega), h3, show (k + 1) * 5 + j - 5 = k * 5 + j by omega]
      exact ih k (by simpa using hk)
/-- A slice that holds tokens, perhaps none. -/
structure TIn (t : ByteArray) (w : World) (b : Option Addr) (g : Nat) (l : List (Nat × Nat × Nat)) : Prop where
  addr : l ≠ [] → b = some ⟨g, 0, none⟩
  low : l ≠ [] → g < w.heap.size
  cells : l ≠ [] → ∀ j u, (flatT t l)[j]? = some u → w.cell? ⟨g, j, none⟩ = some u
def TRow (t : ByteArray) (w : World) (v : Value) (l : List (Nat × Nat × Nat)) : Prop := ∃ b cap g, v = .slice b l.length cap ∧ TIn t w b g l
theorem TRow.below {t : ByteArray} {w w' : World} {v : Value} {l : List (Nat × Nat × Nat)} (h : TRow t w v l) (hB : Below w.heap.size w w') : TRow t w' v l := by
  obtain ⟨b, cap, g, h1, h3⟩ := h
  exact ⟨b, cap, g, h1, h3.addr, fun hne => Nat.lt_of_lt_of_le (h3.low hne) hB.size, fun hne j u hu => (hB.cell (p := ⟨g, j, none⟩) (h3.low hne)).trans (h3.cells hne j u hu)⟩
theorem TRow.of_owns {t : ByteArray} {w : World} {base : Nat} {v : Value} {l : List (Nat × Nat × Nat)} (h : w.ownsRow base 51 5 v l.length (flatT t l)) : TRow t w v l := by
  have hc := fun g => h.cells (g := g)
  rcases h.2 with ⟨rfl, h0⟩ | ⟨g, cap, cur, rfl, hb, hg, hn, hcap, hsz, htk⟩
  · have : l = [] := List.length_eq_zero_iff.1 h0
    subst this
    exact ⟨none, 0, 0, rfl, fun h => absurd rfl h, fun h => absurd rfl h, fun h => absurd rfl h⟩
  · refine ⟨_, cap, g, rfl, fun _ => rfl, fun _ => (Array.getElem?_eq_some_iff.1 hg).1, fun _ j u hu => ?_⟩
    have := hc g rfl j u hu
    rw [Addr.add_zero_off] at this
    exact this

theorem eq_tok (a b c d : Int) (s : ByteArray) (w : World) : (Op.equalIn 10000 51 (.agg #[.int .i64 a, .int .i64 b, .string s, .int .i64 c, .int .i64 d]) (.agg #[.int .i64 a, .int .i64 b, .string s, .int .i64 c, .int .i64 d])).run Tryz.prog w = .ok true w := by
  have u3 := Tryz.underlying3
  have a3 := Tryz.isAgg3
  have z3 := Tryz.sizeOf3
  have u9 := Tryz.underlying9
  have hS : Tryz.prog.underlying 51 = some (.struct (Tryz.prog.fieldsOf 51)) := by kernel_rfl
  rw [show (10000 : Nat) = 9999 + 1 from rfl, run_equalIn_agg w 9999 51 _ _ hS (by kernel_rfl)]
  simp only [Program.fieldsOf, Tryz.underlying51]
  go_simp
theorem guard_tok : Tryz.prog.eqGuardType Tryz.prog.depth 51 = false := by kernel_rfl
theorem run_eql_tok (a b c d : Int) (s : ByteArray) (w : World) : (binOp .eql 51 (.agg #[.int .i64 a, .int .i64 b, .string s, .int .i64 c, .int .i64 d]) (.agg #[.int .i64 a, .int .i64 b, .string s, .int .i64 c, .int .i64 d])).run Tryz.prog w = .ok (.bool true) w := by
  rw [run_eql_struct, eq_tok]
  rfl
theorem run_guard_tok (op : BinOp) (x y : Operand) (xs ys : Array Value) (w : World) : (eqGuard op 51 x y (.agg xs) (.agg ys)).run Tryz.prog w = .ok () w := run_eqGuard_agg w op _ x y xs ys guard_tok
attribute [local go_sem 5000] run_eql_tok run_guard_tok

set_option maxHeartbeats 4000000 in
set_option maxRecDepth 100000 in
theorem rEqual_some (t : ByteArray) (g h cl cm : Nat) (l : List (Nat × Nat × Nat)) (hne : l ≠ []) (hml : l.length ≤ 1048576) (w : World) (L : TIn t w (some ⟨g, 0, none⟩) g l) (M : TIn t w (some ⟨h, 0, none⟩) h l) :
    Calls Tryz.prog 13 #[.slice (some ⟨g, 0, none⟩) l.length cl, .slice (some ⟨h, 0, none⟩) l.length cm] w fun e w' => e = .returned (.bool true) ∧ Below w.heap.size w w' := by
  have hg := L.low hne
  have hh := M.low hne
  have HL := Lib.hid (L.cells hne)
  have HM := Lib.hid (M.cells hne)
  clear L M hne
  go_enter Tryz.func13, Tryz.ntmps13
  go_wp2_with fail
  go_loopw [5, 6] (fun s i wr => ∃ k : Nat, k ≤ l.length ∧ s = .bool true ∧ i = .int .i64 k ∧ Hid (Below w.heap.size w wr)) (fun _ i _ => l.length - (intOf i).toNat)
  case atStart => exact ⟨0, by omega, rfl, rfl, Lib.hid (Below.refl _ _)⟩
  case round =>
    obtain ⟨k, hk, rfl, rfl, hbe⟩ := hrel
    by_cases hlt : k < l.length
    · obtain ⟨x, hx⟩ : ∃ x, l[k]? = some x := ⟨_, List.getElem?_eq_getElem (by omega)⟩
      have ca : ∀ j u, (cellsT t x)[j]? = some u → j < 5 → wr.cell? ⟨g, k * 5 + j, none⟩ = some u := fun j u hu hj => (hbe.out.cell (p := ⟨g, k * 5 + j, none⟩) hg).trans (HL.out _ _ ((flatT_at t l k j x hx hj).trans hu))
      have cb : ∀ j u, (cellsT t x)[j]? = some u → j < 5 → wr.cell? ⟨h, k * 5 + j, none⟩ = some u := fun j u hu hj => (hbe.out.cell (p := ⟨h, k * 5 + j, none⟩) hh).trans (HM.out _ _ ((flatT_at t l k j x hx hj).trans hu))
      have l0 : wr.cell? ⟨g, k * 5, none⟩ = some (.int .i64 (x.1 : Int)) := ca 0 _ rfl (by omega)
      have l1 : wr.cell? ⟨g, k * 5 + 1, none⟩ = some (.int .i64 (numT t x)) := ca 1 _ rfl (by omega)
      have l2 : wr.cell? ⟨g, k * 5 + 2, none⟩ = some (.string (cutB t x.2.1 x.2.2)) := ca 2 _ rfl (by omega)
      have l3 : wr.cell? ⟨g, k * 5 + 3, none⟩ = some (.int .i64 (x.2.1 : Int)) := ca 3 _ rfl (by omega)
      have l4 : wr.cell? ⟨g, k * 5 + 4, none⟩ = some (.int .i64 0) := ca 4 _ rfl (by omega)
      have m0 : wr.cell? ⟨h, k * 5, none⟩ = some (.int .i64 (x.1 : Int)) := cb 0 _ rfl (by omega)
      have m1 : wr.cell? ⟨h, k * 5 + 1, none⟩ = some (.int .i64 (numT t x)) := cb 1 _ rfl (by omega)
      have m2 : wr.cell? ⟨h, k * 5 + 2, none⟩ = some (.string (cutB t x.2.1 x.2.2)) := cb 2 _ rfl (by omega)
      have m3 : wr.cell? ⟨h, k * 5 + 3, none⟩ = some (.int .i64 (x.2.1 : Int)) := cb 3 _ rfl (by omega)
      have m4 : wr.cell? ⟨h, k * 5 + 4, none⟩ = some (.int .i64 0) := cb 4 _ rfl (by omega)
      generalize numT t x = nu at *
      generalize cutB t x.2.1 x.2.2 = st at *
      have h1 : (k : Int) < (l.length : Int) := by omega
      have hw : IntKind.i64.wrap ((k : Int) + 1) = (k : Int) + 1 := IntWalk.i64_in _ (by omega)
      clear hx ca cb
      go_wp2_with fail
      go_region_held3 (fun w' => w'.cell? ⟨g, k * 5, none⟩ = some (.int .i64 (x.1 : Int)) ∧ w'.cell? ⟨g, k * 5 + 1, none⟩ = some (.int .i64 nu) ∧ w'.cell? ⟨g, k * 5 + 2, none⟩ = some (.string st) ∧ w'.cell? ⟨g, k * 5 + 3, none⟩ = some (.int .i64 (x.2.1 : Int)) ∧ w'.cell? ⟨g, k * 5 + 4, none⟩ = some (.int .i64 0) ∧ w'.cell? ⟨h, k * 5, none⟩ = some (.int .i64 (x.1 : Int)) ∧ w'.cell? ⟨h, k * 5 + 1, none⟩ = some (.int .i64 nu) ∧ w'.cell? ⟨h, k * 5 + 2, none⟩ = some (.string st) ∧ w'.cell? ⟨h, k * 5 + 3, none⟩ = some (.int .i64 (x.2.1 : Int)) ∧ w'.cell? ⟨h, k * 5 + 4, none⟩ = some (.int .i64 0)) (go_keep) (fail)
      go_wp2_with fail
      exact ⟨⟨k + 1, hlt, rfl, by simp, Lib.hid hbe.out.drew⟩, by simp only [intOf]; omega⟩
    · have hkl : k = l.length := by omega
      subst hkl
      go_wp2_with fail
      refine bodyPost_ret (v := .bool true) ?_ rfl ⟨rfl, hbe.out⟩
      simp [results, Tryz.results13, go_sem]
theorem rEqual_none (b1 b2 : Option Addr) (c1 c2 : Nat) (w : World) :
    Calls Tryz.prog 13 #[.slice b1 0 c1, .slice b2 0 c2] w fun e w' => e = .returned (.bool true) ∧ Below w.heap.size w w' := by
  go_enter Tryz.func13, Tryz.ntmps13
  go_wp2_with fail
  go_loopw [5, 6] (fun s i wr => s = .bool true ∧ i = .int .i64 0 ∧ wr = w) (fun _ _ _ => 0)
  case atStart => exact ⟨rfl, rfl, rfl⟩
  case round =>
    obtain ⟨rfl, rfl, rfl⟩ := hrel
    go_wp2_with fail
    refine bodyPost_ret (v := .bool true) ?_ rfl ⟨rfl, Below.refl _ _⟩
    simp [results, Tryz.results13, go_sem]
theorem rEqual_rows (t : ByteArray) (v0 v : Value) (l : List (Nat × Nat × Nat)) (hl : l.length ≤ 1048576) (w : World) (h0 : TRow t w v0 l) (h : TRow t w v l) :
    Calls Tryz.prog 13 #[v0, v] w fun e w' => e = .returned (.bool true) ∧ Below w.heap.size w w' := by
  obtain ⟨b0, c0, g0, rfl, I0⟩ := h0
  obtain ⟨b1, c1, g1, rfl, I1⟩ := h
  by_cases hne : l = []
  · subst hne
    exact rEqual_none b0 b1 c0 c1 w
  · have e0 := I0.addr hne
    have e1 := I1.addr hne
    subst e0 e1
    exact rEqual_some t g0 g1 c0 c1 l hne hl w I0 I1
end

end Go.Proofs.YtlkanfnhemjdcaaGreatDoor
