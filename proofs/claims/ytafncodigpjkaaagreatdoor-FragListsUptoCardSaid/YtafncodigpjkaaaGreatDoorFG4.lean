/-
  A group begins.
-/
import Derived.Test.YtafncodigpjkaaaGreatDoorFG2
namespace Go.Proofs.YtafncodigpjkaaaGreatDoor
section
open Go.RowKit

/-- What begin leaves. -/
def Began (base ob rb n : Nat) (xs ys : List Value) (W W' : World) : Prop :=
  ∃ g c' w3, W' = World.setCell w3 ⟨rb, 3, none⟩ (.slice (some ⟨g, 0, none⟩) (n + 1 + 1) c') ∧ KeepS (fun b => b = ob) W w3 ∧ (g = ob ∨ W.heap.size ≤ g) ∧
    w3.ownsRow base 102 8 (.slice (some ⟨g, 0, none⟩) (n + 1 + 1) c') (n + 1 + 1) (xs ++ ys)
theorem begin_end {base ob rb n cap : Nat} {xs ys : List Value} {W W2 w2 : World} {g2 cap2 : Nat} {O : Obj} (hB : Below W.heap.size W W2) (hz : W2.heap.size = W.heap.size + 1)
    (hgrow : ((W2.alloc O).drew).grownBy w2 (Value.slice (some ⟨ob, 0, none⟩) (n + 1) cap).ownBlock) (hown2 : w2.ownsRow base 102 8 (.slice (some ⟨g2, 0, none⟩) (n + 1 + 1) cap2) (n + 1 + 1) (xs ++ ys)) (hat : (Value.slice (some ⟨ob, 0, none⟩) (n + 1) cap).ownBlock = some g2 ∨ g2 = W2.heap.size + 1) :
    Began base ob rb n xs ys W (w2.setCell ⟨rb, 3, none⟩ (.slice (some ⟨g2, 0, none⟩) (n + 1 + 1) cap2)) := by
  have hk : KeepS (fun b => b = ob) W w2 := (KeepS.of_below hB).trans ((((KeepS.refl _ W2).alloc O).drew 1).trans (.of_grown hgrow fun k e => by simp only [Value.ownBlock, Option.some.injEq] at e; exact e.symm))
  refine ⟨g2, cap2, w2, rfl, hk, ?_, hown2⟩
  rcases hat with h | h
  · simp only [Value.ownBlock, Option.some.injEq] at h; exact .inl h.symm
  · right; omega
theorem below_one (W : World) (o : Obj) : Below W.heap.size W (W.alloc o) := (Below.refl _ W).alloc (Nat.le_refl _) o
set_option maxRecDepth 100000 in
set_option maxHeartbeats 4000000 in
theorem begin_no (rb ob cap n i : Nat) (t : Tkn) (W : World) (hrb : rb < W.heap.size) (hn : 100 < n + 1) (h3 : W.cell? ⟨rb, 3, none⟩ = some (.slice (some ⟨ob, 0, none⟩) (n + 1) cap)) (h1 : W.cell? ⟨rb, 1, none⟩ = some (.int .i64 (i : Int))) :
    Calls Tryz.prog 68 #[.pointer (some ⟨rb, 0, none⟩), .agg (tkL t).toArray] W fun e w' => e = refEnd i 6 ∧ Below W.heap.size W w' := by
  obtain ⟨k0, n0, s0, a0, m0⟩ := t
  show Calls Tryz.prog 68 #[.pointer (some ⟨rb, 0, none⟩), .agg #[.int .i64 k0, .int .i64 n0, .string s0, .int .i64 a0, .int .i64 m0]] W fun e w' => e = refEnd i 6 ∧ Below W.heap.size W w'
  have h3' := fun O => box_cell W O h3 hrb
  have hr := fun O => frefuse_any rb i 6 _ (box_cell W O h1 hrb)
  simp only [refEnd] at hr
  have HR := Lib.hid hr
  clear hr
  have hb := below_one W
  have hgt : (100 : Int) < ((n + 1 : Nat) : Int) := by omega
  have hgt2 : (100 : Int) < (n : Int) + 1 := by omega
  clear h3 h1
  go_enter Tryz.func68, Tryz.ntmps68
  go_wp2_with fail
  refine (HR.out _).mono ?_
  rintro e w1 ⟨rfl, rfl⟩
  go_wp2_with fail
  exact ⟨rfl, rfl, hb _⟩
set_option maxRecDepth 100000 in
set_option maxHeartbeats 4000000 in
theorem begin_run (rb base ob cap n i : Nat) (t : Tkn) (xs : List Value) (W : World) (hrb : rb < W.heap.size) (hn : ¬ 100 < n + 1) (hro : rb ≠ ob) (hbase : base ≤ W.heap.size)
    (h3 : W.cell? ⟨rb, 3, none⟩ = some (.slice (some ⟨ob, 0, none⟩) (n + 1) cap)) (h1 : W.cell? ⟨rb, 1, none⟩ = some (.int .i64 (i : Int))) (hfr : W.frozen? ⟨rb, 3, none⟩ = false)
    (hown : W.ownsRow base 102 8 (.slice (some ⟨ob, 0, none⟩) (n + 1) cap) (n + 1) xs) :
    Calls Tryz.prog 68 #[.pointer (some ⟨rb, 0, none⟩), .agg (tkL t).toArray] W fun e w' => e = .returned (.tuple #[]) ∧ Began base ob rb n xs (gpV ⟨t, t.2.2.1, [], i⟩ (.slice none 0 0)) W w' := by
  obtain ⟨k0, n0, s0, a0, m0⟩ := t
  show Calls Tryz.prog 68 #[.pointer (some ⟨rb, 0, none⟩), .agg #[.int .i64 k0, .int .i64 n0, .string s0, .int .i64 a0, .int .i64 m0]] W fun e w' => e = .returned (.tuple #[]) ∧ Began base ob rb n xs [.int .i64 k0, .int .i64 n0, .string s0, .int .i64 a0, .int .i64 m0, .string s0, .slice none 0 0, .int .i64 (i : Int)] W w'
  obtain ⟨i0, hi, hz0, hz1, hz2⟩ := info_parts infoGroup
  have HA : Hid (∀ (e : Exit) (a : Act) (w' : World), (e = .normal ∧ a.defers = [] ∧ Began base ob rb n xs [.int .i64 k0, .int .i64 n0, .string s0, .int .i64 a0, .int .i64 m0, .string s0, .slice none 0 0, .int .i64 (i : Int)] W w') → bodyPost Tryz.prog Tryz.f68 (fun e w' => e = .returned (.tuple #[]) ∧ Began base ob rb n xs [.int .i64 k0, .int .i64 n0, .string s0, .int .i64 a0, .int .i64 m0, .string s0, .slice none 0 0, .int .i64 (i : Int)] W w') e a w') := Lib.hid (by
    rintro e a w' ⟨rfl, hd, hA⟩
    exact bodyPost_end (results_none rfl _ _ _) hd ⟨rfl, hA⟩)
  have g3 := fun O => box_cell W O h3 hrb
  have HOWN := Lib.hid hown
  have hgt : ¬ (100 : Int) < ((n + 1 : Nat) : Int) := by omega
  have hgt2 : ¬ (100 : Int) < (n : Int) + 1 := by omega
  have HN := Lib.hid hn
  clear hown hn
  go_enter Tryz.func68, Tryz.ntmps68
  go_wp2_with fail
  clear g3
  have bx : ∀ j v, (#[Value.int .i64 k0, .int .i64 n0, .string s0, .int .i64 a0, .int .i64 m0] : Array Value)[j]? = some v → (W.alloc (.cells #[.int .i64 k0, .int .i64 n0, .string s0, .int .i64 a0, .int .i64 m0] 50)).cell? ⟨W.heap.size, j, none⟩ = some v := fun j v hv => by
    rw [fcell_at (heap_alloc_new W _)]; exact hv
  have e3 : (W.alloc (.cells #[.int .i64 k0, .int .i64 n0, .string s0, .int .i64 a0, .int .i64 m0] 50)).cell? ⟨rb, 3, none⟩ = some (.slice (some ⟨ob, 0, none⟩) (n + 1) cap) := box_cell W _ h3 hrb
  have e1 : (W.alloc (.cells #[.int .i64 k0, .int .i64 n0, .string s0, .int .i64 a0, .int .i64 m0] 50)).cell? ⟨rb, 1, none⟩ = some (.int .i64 (i : Int)) := box_cell W _ h1 hrb
  have f3 : (W.alloc (.cells #[.int .i64 k0, .int .i64 n0, .string s0, .int .i64 a0, .int .i64 m0] 50)).frozen? ⟨rb, 3, none⟩ = false := (((Below.refl _ W).alloc (Nat.le_refl _) _).frozen (p := ⟨rb, 3, none⟩) hrb).trans hfr
  have HB := Lib.hid (below_one W (.cells #[.int .i64 k0, .int .i64 n0, .string s0, .int .i64 a0, .int .i64 m0] 50))
  have HOWN2 : Hid ((W.alloc (.cells #[.int .i64 k0, .int .i64 n0, .string s0, .int .i64 a0, .int .i64 m0] 50)).ownsRow base 102 8 (.slice (some ⟨ob, 0, none⟩) (n + 1) cap) (n + 1) xs) := Lib.hid (HOWN.out.alloc _)
  have hz : (W.alloc (.cells #[.int .i64 k0, .int .i64 n0, .string s0, .int .i64 a0, .int .i64 m0] 50)).heap.size = W.heap.size + 1 := by simp
  generalize (W.alloc (.cells #[.int .i64 k0, .int .i64 n0, .string s0, .int .i64 a0, .int .i64 m0] 50)) = W2 at bx e3 e1 f3 HB HOWN2 hz ⊢
  have b0 : W2.cell? ⟨W.heap.size, 0, none⟩ = some (.int .i64 k0) := bx 0 _ rfl
  have b1 : W2.cell? ⟨W.heap.size, 1, none⟩ = some (.int .i64 n0) := bx 1 _ rfl
  have b2 : W2.cell? ⟨W.heap.size, 2, none⟩ = some (.string s0) := bx 2 _ rfl
  have b3 : W2.cell? ⟨W.heap.size, 3, none⟩ = some (.int .i64 a0) := bx 3 _ rfl
  have b4 : W2.cell? ⟨W.heap.size, 4, none⟩ = some (.int .i64 m0) := bx 4 _ rfl
  have hrb2 : rb < W2.heap.size := by omega
  have HZ := Lib.hid hz
  have HNE : Hid ((Value.slice (some ⟨ob, 0, none⟩) (n + 1) cap).ownBlock ≠ some rb) := Lib.hid (by simp only [Value.ownBlock, ne_eq, Option.some.injEq]; exact fun e => hro e.symm)
  have HE3 := Lib.hid (fun O => box_cell W2 O e3 hrb2)
  have HF3 : Hid (∀ O, (W2.alloc O).frozen? ⟨rb, 3, none⟩ = false) := Lib.hid fun O => (((Below.refl _ W2).alloc (Nat.le_refl _) O).frozen (p := ⟨rb, 3, none⟩) hrb2).trans f3
  have hbz2 : base ≤ W2.heap.size := by omega
  clear bx h3 h1 hfr hz hgt hgt2
  refine Code.wp_mono HA.out ?_
  go_region_law ((refine step_append_lies _ rfl (.tmp 16) (.tmp 26) 92 rfl base 102 i0 _ 8 96 Tryz.underlying92 hi hz0 hz1 hz2 (by rfl) (by omega) _ (n + 1) xs (by rfl) ((HOWN2.out.alloc _).drew) ⟨W2.heap.size, 0, none⟩ 1 1 [.int .i64 k0, .int .i64 n0, .string s0, .int .i64 a0, .int .i64 m0, .string s0, .slice none 0 0, .int .i64 (i : Int)] (by rfl) (by rfl) (World.news_of_block (cs := #[.int .i64 k0, .int .i64 n0, .string s0, .int .i64 a0, .int .i64 m0, .string s0, .slice none 0 0, .int .i64 (i : Int)]) (t := 102) (fr := (0, 0)) (heap_alloc_new W2 _)) (by simp [Value.oneCell']) (by omega) (by have := HN.out; unfold maxLen; omega) (by have := HN.out; omega) (by simp; omega) (W2.heap.size + 1) (by simp) ?_; intro g2 cap2 w2 hown2 hgrow hat hlt2; have e32 := (hgrow.cell_far ⟨rb, 3, none⟩ (by simp; omega) (fun e => HNE.out e.symm)).trans (HE3.out _); have f32 := (hgrow.frozen_far ⟨rb, 3, none⟩ (by simp; omega) (fun e => HNE.out e.symm)).trans (HF3.out _)))
  all_goals refine ⟨rfl, rfl, ?_⟩
  all_goals with_reducible exact begin_end HB.out HZ.out hgrow hown2 hat
end

end Go.Proofs.YtafncodigpjkaaaGreatDoor
