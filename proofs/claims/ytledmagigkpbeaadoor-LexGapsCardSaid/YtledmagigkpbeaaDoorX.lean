/-
  A cutter is moved behind a piece.
-/
import Derived.Test.YtledmagigkpbeaaDoorW2
namespace Go.Proofs.YtledmagigkpbeaaDoor
open Go.RowKit

/-- All blocks but b lie as they lay; new ones may have come. -/
structure KeptBut (b : Nat) (w w' : World) : Prop where
  os : w'.os = w.os
  tape : w'.tape = w.tape
  output : w'.output = w.output
  size : w.heap.size ≤ w'.heap.size
  block : ∀ k, k < w.heap.size → k ≠ b → w'.heap[k]? = w.heap[k]?
theorem KeptBut.refl (b : Nat) (w : World) : KeptBut b w w := ⟨rfl, rfl, rfl, Nat.le_refl _, fun _ _ _ => rfl⟩
theorem KeptBut.trans {b : Nat} {x y z : World} (h : KeptBut b x y) (k : KeptBut b y z) : KeptBut b x z :=
  ⟨k.os.trans h.os, k.tape.trans h.tape, k.output.trans h.output, Nat.le_trans h.size k.size, fun j hj hn => (k.block j (Nat.lt_of_lt_of_le hj h.size) hn).trans (h.block j hj hn)⟩
theorem KeptBut.of_below {b : Nat} {w w' : World} (h : Below w.heap.size w w') : KeptBut b w w' := ⟨h.os, h.tape, h.output, h.size, fun k hk _ => h.block k hk⟩
theorem KeptBut.setCell {b o : Nat} {x w : World} (h : KeptBut b x w) (v : Value) : KeptBut b x (w.setCell ⟨b, o, none⟩ v) := by
  have hs : (w.setCell ⟨b, o, none⟩ v).heap.size = w.heap.size := by simp
  have hz := (Below.refl 0 w).setCell (p := ⟨b, o, none⟩) (Nat.zero_le _) v
  refine ⟨hz.os.trans h.os, hz.tape.trans h.tape, hz.output.trans h.output, by rw [hs]; exact h.size, fun k hk hn => ?_⟩
  · rw [Below.heap_setCell w ⟨b, o, none⟩ v k hn]; exact h.block k hk hn
theorem KeptBut.below {b B : Nat} {w w' : World} (h : KeptBut b w w') (hB : B ≤ b) (hs : B ≤ w.heap.size) : Below B w w' :=
  ⟨h.os, h.tape, h.output, h.size, fun k hk => h.block k (by omega) (by omega)⟩
theorem KeptBut.cell {b c o : Nat} {w w' : World} (h : KeptBut b w w') (hc : c < w.heap.size) (hn : c ≠ b) : w'.cell? ⟨c, o, none⟩ = w.cell? ⟨c, o, none⟩ := World.cell?_of_block (w := w) (h.block c hc hn)
theorem KeptBut.frozen {b c o : Nat} {w w' : World} (h : KeptBut b w w') (hc : c < w.heap.size) (hn : c ≠ b) : w'.frozen? ⟨c, o, none⟩ = w.frozen? ⟨c, o, none⟩ := World.frozen?_of_block (w := w) (h.block c hc hn)

set_option maxHeartbeats 1000000 in
theorem endsOp_any (k : Nat) (hk : k ≤ 8) (s : ByteArray) (w : World) :
    Calls Tryd.prog 65 #[.int .i64 (k : Int), .string s] w fun e w' => e = .returned (.bool (opE k s)) ∧ w = w' := by
  have hcs : k = 0 ∨ k = 1 ∨ k = 2 ∨ k = 3 ∨ k = 4 ∨ k = 5 ∨ k = 6 ∨ k = 7 ∨ k = 8 := by omega
  rcases hcs with rfl | rfl | rfl | rfl | rfl | rfl | rfl | rfl | rfl
  all_goals
    go_enter Tryd.func65, Tryd.ntmps65
    go_wp2
    all_goals
      go_ret
      refine ⟨?_, rfl⟩
      first | rfl | (simp [opE, *])

/-- A cutter that may be written. -/
def CutFree (b : Nat) (w : World) : Prop := ∀ o, w.frozen? ⟨b, o, none⟩ = false

theorem CutFree.below {b B : Nat} {w w' : World} (h : CutFree b w) (hb : b < B) (hB : Below B w w') : CutFree b w' := fun o => (hB.frozen (p := ⟨b, o, none⟩) hb).trans (h o)
theorem CutFree.setCell {b c : Nat} {w : World} (h : CutFree b w) (o : Nat) (v : Value) : CutFree b (w.setCell ⟨c, o, none⟩ v) := fun j => by rw [World.frozen?_setCell]; exact h j
theorem IsCut.setAt {b i n j : Nat} {t : ByteArray} {op : Bool} {w : World} (h : IsCut b i t op n w) : IsCut b j t op n (w.setCell ⟨b, 1, none⟩ (.int .i64 (j : Int))) :=
  ⟨by rw [World.cell?_setCell_other _ _ _ _ (by simp)]; exact h.text, World.cell?_setCell_same' _ _ _ (by rw [h.at']; rfl), by rw [World.cell?_setCell_other _ _ _ _ (by simp)]; exact h.op, by rw [World.cell?_setCell_other _ _ _ _ (by simp)]; exact h.tok⟩
theorem IsCut.setOp {b i n : Nat} {t : ByteArray} {op op' : Bool} {w : World} (h : IsCut b i t op n w) : IsCut b i t op' n (w.setCell ⟨b, 2, none⟩ (.bool op')) :=
  ⟨by rw [World.cell?_setCell_other _ _ _ _ (by simp)]; exact h.text, by rw [World.cell?_setCell_other _ _ _ _ (by simp)]; exact h.at', World.cell?_setCell_same' _ _ _ (by rw [h.op]; rfl), by rw [World.cell?_setCell_other _ _ _ _ (by simp)]; exact h.tok⟩
theorem IsCut.setTok {b i n m : Nat} {t : ByteArray} {op : Bool} {w : World} (h : IsCut b i t op n w) : IsCut b i t op m (w.setCell ⟨b, 3, none⟩ (.int .i64 (m : Int))) :=
  ⟨by rw [World.cell?_setCell_other _ _ _ _ (by simp)]; exact h.text, by rw [World.cell?_setCell_other _ _ _ _ (by simp)]; exact h.at', by rw [World.cell?_setCell_other _ _ _ _ (by simp)]; exact h.op, World.cell?_setCell_same' _ _ _ (by rw [h.tok]; rfl)⟩

theorem new_cell (w : World) (cs : Array Value) (tt : TypeId) (b j : Nat) (v : Value) (h : b = w.heap.size) (hv : cs[j]? = some v) : (w.alloc (.cells cs tt)).cell? ⟨b, j, none⟩ = some v := by
  subst h; simpa using hv

def PassPost (b n k a l : Nat) (t : ByteArray) (op : Bool) (w : World) (e : Ending) (w' : World) : Prop :=
  if isTok k = true ∧ n = 6000 then e = refusedEnd a 2 ∧ KeptBut b w w'
  else e = .returned (.tuple #[]) ∧ IsCut b (a + l) t (if isTok k then opE k (cutB t a l) else op) (if isTok k then n + 1 else n) w' ∧ CutFree b w' ∧ KeptBut b w w'

set_option maxHeartbeats 4000000 in
set_option maxRecDepth 100000 in
theorem pass_any (b i n k a l : Nat) (t : ByteArray) (op : Bool) (w : World) (hb0 : b < w.heap.size) (hk : k ≤ 8) (hn : n ≤ 6000) (ha : a + l ≤ t.size) (ht : t.size ≤ 1048576) (h : IsCut b i t op n w) (hf : CutFree b w) :
    Calls Tryd.prog 51 #[.pointer (some ⟨b, 0, none⟩), .agg #[.int .i64 (k : Int), .int .i64 (a : Int), .int .i64 (l : Int)]] w (PassPost b n k a l t op w) := by
  have hw1 : ∀ o, IsCut b i t op n (w.alloc o) := fun o => h.below hb0 ((Below.refl _ w).alloc (Nat.le_refl _) o)
  have hx0 := fun o => (hw1 o).text
  have hx1 := fun o => (hw1 o).at'
  have hx2 := fun o => (hw1 o).op
  have hx3 := fun o => (hw1 o).tok
  have hxf : ∀ o j, (w.alloc o).frozen? ⟨b, j, none⟩ = false := fun o j => (((Below.refl _ w).alloc (Nat.le_refl _) o).frozen (p := ⟨b, j, none⟩) hb0).trans (hf j)
  have hne : ¬ b = w.heap.size := by omega
  have hne2 : ¬ w.heap.size = b := by omega
  have hI := fun W => isToken_any (k : Int) W
  cases hT : isTok k
  · have hT' : (decide (1 ≤ (k : Int)) && decide ((k : Int) ≤ 6)) = false := hT
    rw [hT'] at hI
    have HI := Lib.hid hI
    have HT := Lib.hid hT
    clear hI hT hT' hw1
    have H := Lib.hid h; have HF := Lib.hid hf
    clear h hf
    go_enter Tryd.func51, Tryd.ntmps51
    go_wp2_with (go_at_call 30; refine (HI.out _).mono ?_; rintro e w1 ⟨rfl, rfl⟩)
    go_end0
    rw [PassPost, HT.out]
    have hb1 : b < (w.setCell ⟨b, 1, none⟩ (.int .i64 ((a : Int) + (l : Int)))).heap.size := by simpa using hb0
    have hal := fun o => (Below.refl _ (w.setCell ⟨b, 1, none⟩ (.int .i64 ((a : Int) + (l : Int))))).alloc (Nat.le_refl _) o
    exact ⟨rfl, (H.out.setAt (j := a + l)).below hb1 (hal _), (HF.out.setCell 1 _).below hb1 (hal _), ((KeptBut.refl b w).setCell _).trans (.of_below (hal _))⟩
  · have hT' : (decide (1 ≤ (k : Int)) && decide ((k : Int) ≤ 6)) = true := hT
    rw [hT'] at hI
    have HI := Lib.hid hI
    have HT := Lib.hid hT
    clear hI hT hT'
    by_cases h6 : n = 6000
    · have h6' : ((n : Int) == 6000) = true := by rw [beq_iff_eq]; omega
      have H6 := Lib.hid h6
      clear h hf hw1 h6
      go_enter Tryd.func51, Tryd.ntmps51
      go_wp2_with (go_at_call 30; refine (HI.out _).mono ?_; rintro e w1 ⟨rfl, rfl⟩)
      refine ⟨rfl, ?_⟩
      rw [PassPost, HT.out, if_pos ⟨rfl, H6.out⟩]
      exact ⟨rfl, .of_below ((Below.refl _ w).alloc (Nat.le_refl _) _)⟩
    · have h6' : ((n : Int) == 6000) = false := by rw [beq_eq_false_iff_ne]; omega
      have H6 := Lib.hid h6
      have hE := fun W => endsOp_any k hk (cutB t a l) W
      have HE := Lib.hid hE
      have hw3 : ∀ o, IsCut b i t op (n + 1) ((w.setCell ⟨b, 3, none⟩ (.int .i64 ((n : Int) + 1))).alloc o) := fun o => (h.setTok (m := n + 1)).below (B := w.heap.size) hb0 ((Below.refl _ _).alloc (by simp) o)
      have hP := fun W (hB : ∃ o, Below (w.heap.size + 1) ((w.setCell ⟨b, 3, none⟩ (.int .i64 ((n : Int) + 1))).alloc o) W) => piece_any b k a l t W (by obtain ⟨o, hB⟩ := hB; have := hB.size; simp at this; omega) ha (by omega) (by obtain ⟨o, hB⟩ := hB; exact ((hw3 o).below (by omega) hB).text)
      have hC : ∀ o W, Below (w.heap.size + 1) ((w.setCell ⟨b, 3, none⟩ (.int .i64 ((n : Int) + 1))).alloc o) W → IsCut b i t op (n + 1) W ∧ CutFree b W := fun o W hB =>
        ⟨(hw3 o).below (by omega) hB, ((hf.setCell 3 _).below (B := w.heap.size) hb0 ((Below.refl _ _).alloc (by simp) o)).below (by omega) hB⟩
      have HC := Lib.hid hC
      have HP := Lib.hid hP
      clear h hf hw1 h6 hE hP hw3 hC
      go_enter Tryd.func51, Tryd.ntmps51
      go_wp2_with (go_at_call 30; refine (HI.out _).mono ?_; rintro e w1 ⟨rfl, rfl⟩)
      go_region_with (first
        | (go_at_call 62; refine (HP.out _ ?_).mono ?_; exact ⟨_, (Below.refl _ _).drew⟩; rintro e w1 ⟨rfl, hb1⟩;
           have q0 : w1.cell? ⟨w.heap.size, 0, none⟩ = some (.int .i64 (k : Int)) := (hb1.cell (p := ⟨_, 0, none⟩) (by simp)).trans (new_cell _ _ _ _ _ _ (by simp) rfl);
           have q1 : w1.cell? ⟨w.heap.size, 1, none⟩ = some (.int .i64 (a : Int)) := (hb1.cell (p := ⟨_, 1, none⟩) (by simp)).trans (new_cell _ _ _ _ _ _ (by simp) rfl);
           have q2 : w1.cell? ⟨w.heap.size, 2, none⟩ = some (.int .i64 (l : Int)) := (hb1.cell (p := ⟨_, 2, none⟩) (by simp)).trans (new_cell _ _ _ _ _ _ (by simp) rfl);
           have qc := HC.out _ _ (((Below.refl _ _).drew).trans (hb1.mono (by simp)));
           have QC := Lib.hid qc;
           have q3 := qc.1.at';
           have q4 := qc.1.op;
           have q5 : ∀ j, w1.frozen? ⟨b, j, none⟩ = false := qc.2;
           have QB := Lib.hid hb1; clear qc hb1)
        | (go_at_call 65; refine (HE.out _).mono ?_; rintro e w2 ⟨rfl, rfl⟩))
      all_goals
        go_wp2_with fail
        go_end0
        rw [PassPost, HT.out, if_neg (fun hh => H6.out hh.2)]
        refine ⟨rfl, (QC.out.1.setOp (op' := opE k (cutB t a l))).setAt (j := a + l), (QC.out.2.setCell 2 _).setCell 1 _, ?_⟩
        have hq : KeptBut b w w1 := (((KeptBut.refl b w).setCell (o := 3) (.int .i64 ((n : Int) + 1))).trans (.of_below ((Below.refl _ _).alloc (Nat.le_refl _) _))).trans (.of_below (((Below.refl _ _).drew).trans QB.out))
        exact (hq.setCell _).setCell _
end Go.Proofs.YtledmagigkpbeaaDoor
