/-
  sane.
-/
import Derived.Test.YtolopideimnbgaaJB
namespace Go.Proofs.Ytolopideimnbgaa
open Go.RowKit

theorem ex_small : ∀ x ∈ exG, x.2.length ≤ 8796093022207 := by
  intro x hx
  simp only [exG, List.mem_cons, List.not_mem_nil, or_false] at hx
  rcases hx with rfl | rfl | rfl | rfl | rfl | rfl | rfl | rfl <;> decide
theorem LRow.of_cells3 {w : World} {g : Nat} {t : TypeId} {a b c : Value} {x y z : Nms} {Q : Nat → Prop} (h : w.heap[g]? = some (.cells #[a, b, c] t)) (hq : Q g) (ha : SRow w Q a x) (hb : SRow w Q b y) (hc : SRow w Q c z) : LRow w Q (.slice (some ⟨g, 0, none⟩) 3 3) [x, y, z] :=
  ⟨_, _, rfl, fun _ => ⟨g, 0, rfl, hq, (Array.getElem?_eq_some_iff.1 h).1, fun i l hi => by
    rw [cellOf h, Nat.zero_add]
    match i, hi with
    | 0, hi => cases hi; exact ⟨_, rfl, ha⟩
    | 1, hi => cases hi; exact ⟨_, rfl, hb⟩
    | 2, hi => cases hi; exact ⟨_, rfl, hc⟩, by simp⟩⟩
theorem merge_ex (w : World) : Calls Try.prog 21 #[.slice (some ⟨w.heap.size + 1 + 1 + 1, 0, none⟩) 3 3]
    ((((w.alloc (.cells #[.string ⟨#[97]⟩, .string ⟨#[111]⟩] 9)).alloc (.cells #[.string ⟨#[98]⟩, .string ⟨#[111]⟩] 9)).alloc (.cells #[.string ⟨#[97]⟩, .string ⟨#[98]⟩] 9)).alloc
      (.cells #[.slice (some ⟨w.heap.size, 0, none⟩) 2 2, .slice (some ⟨w.heap.size + 1, 0, none⟩) 2 2, .slice (some ⟨w.heap.size + 1 + 1, 0, none⟩) 2 2] 24)) fun e w' =>
    ∃ a c, e = .returned (.tuple #[.slice a 3 c, .bool true]) ∧ Below w.heap.size w w' ∧ SRow w' (fun b => w.heap.size ≤ b) (.slice a 3 c) [nA, nB, nO] := by
  obtain ⟨w', hw'⟩ : ∃ w', w' = ((((w.alloc (.cells #[.string ⟨#[97]⟩, .string ⟨#[111]⟩] 9)).alloc (.cells #[.string ⟨#[98]⟩, .string ⟨#[111]⟩] 9)).alloc (.cells #[.string ⟨#[97]⟩, .string ⟨#[98]⟩] 9)).alloc
      (.cells #[.slice (some ⟨w.heap.size, 0, none⟩) 2 2, .slice (some ⟨w.heap.size + 1, 0, none⟩) 2 2, .slice (some ⟨w.heap.size + 1 + 1, 0, none⟩) 2 2] 24)) := ⟨_, rfl⟩
  have hz : w'.heap.size = w.heap.size + 1 + 1 + 1 + 1 := by rw [hw']; simp only [World.size_alloc]
  have hb : Below w.heap.size w w' := by
    rw [hw']
    repeat (first | exact Below.refl _ _ | refine Below.alloc ?_ (by first | exact Nat.le_refl _ | (simp only [World.size_alloc]; omega)) _)
  have b3 : w'.heap[w.heap.size + 1 + 1 + 1]? = some (.cells #[.slice (some ⟨w.heap.size, 0, none⟩) 2 2, .slice (some ⟨w.heap.size + 1, 0, none⟩) 2 2, .slice (some ⟨w.heap.size + 1 + 1, 0, none⟩) 2 2] 24) := by
    rw [hw']; exact new_at (by simp only [World.size_alloc])
  have b2 : w'.heap[w.heap.size + 1 + 1]? = some (.cells #[.string ⟨#[97]⟩, .string ⟨#[98]⟩] 9) := by
    rw [hw', Below.heap_alloc _ _ _ (by simp only [World.size_alloc]; omega)]; exact new_at (by simp only [World.size_alloc])
  have b1 : w'.heap[w.heap.size + 1]? = some (.cells #[.string ⟨#[98]⟩, .string ⟨#[111]⟩] 9) := by
    rw [hw', Below.heap_alloc _ _ _ (by simp only [World.size_alloc]; omega), Below.heap_alloc _ _ _ (by simp only [World.size_alloc]; omega)]; exact new_at (by simp only [World.size_alloc])
  have b0 : w'.heap[w.heap.size]? = some (.cells #[.string ⟨#[97]⟩, .string ⟨#[111]⟩] 9) := by
    rw [hw', Below.heap_alloc _ _ _ (by simp only [World.size_alloc]; omega), Below.heap_alloc _ _ _ (by simp only [World.size_alloc]; omega), Below.heap_alloc _ _ _ (by simp only [World.size_alloc]; omega)]; exact new_at rfl
  rw [← hw']
  have hl : LRow w' (fun _ => True) (.slice (some ⟨w.heap.size + 1 + 1 + 1, 0, none⟩) 3 3) [[nA, nO], [nB, nO], [nA, nB]] :=
    LRow.of_cells3 b3 trivial ((SRow.of_cells (l := [nA, nO]) b0).mono fun _ _ _ => trivial) ((SRow.of_cells (l := [nB, nO]) b1).mono fun _ _ _ => trivial) ((SRow.of_cells (l := [nA, nB]) b2).mono fun _ _ _ => trivial)
  have hm := Merge_any _ _ w' hl (by simp)
  rw [ex_merge] at hm
  refine hm.mono ?_
  rintro e w2 ⟨hb2, u, rfl, hs⟩
  obtain ⟨a, c, rfl, _⟩ := id hs
  exact ⟨a, c, rfl, hb.trans (hb2.mono hb.size), hs.mono fun b _ h => by omega⟩
theorem same_ex {w : World} {Q : Nat → Prop} {v : Value} {l : Nms} {os : Array Value} (h : SRow w Q v l) (ho : os = (l.map Value.string).toArray) (n : Nat) (hn : n = l.length) (hl : l.length ≤ 100) :
    Calls Try.prog 18 #[v, .slice (some ⟨w.heap.size, 0, none⟩) n n] (w.alloc (.cells os 9)) fun e w' => e = .returned (.bool true) ∧ Below w.heap.size w w' := by
  subst ho; subst hn
  have hb := (Below.refl w.heap.size w).alloc (Nat.le_refl _) (.cells (l.map Value.string).toArray 9)
  have := same_any (h.below hb) (SRow.of_cells (heap_alloc_new w (.cells (l.map Value.string).toArray 9))) (by omega) (by omega)
  refine this.mono ?_
  rintro e w' ⟨rfl, hb'⟩
  exact ⟨by simp, hb.trans (hb'.mono hb.size)⟩
set_option maxRecDepth 100000 in
set_option maxHeartbeats 8000000 in
theorem sane_any (W : World) : Calls Try.prog 13 #[] W fun e w' => e = .returned (.bool true) ∧ Below W.heap.size W w' := by
  have hex := example_any W
  go_enter Try.func13, Try.ntmps13
  go_wp2_with fail
  refine hex.mono ?_
  rintro e w1 ⟨v, rfl, hb1, hr⟩
  obtain ⟨va, vc, rfl, _⟩ := id hr
  have HR := Lib.hid hr
  have HB1 := Lib.hid hb1
  have h2 := Linearize_any exG nC _ w1 (hr.mono fun b hb _ => hb) ex_small
  rw [ex_linc] at h2
  clear hr hb1 hex
  go_wp2_with fail
  refine h2.mono ?_
  rintro e w2 ⟨hb2, u2, rfl, hs2⟩
  obtain ⟨a2, c2, rfl, _⟩ := id hs2
  have HB2 := Lib.hid hb2
  have HS2 := Lib.hid hs2
  have h3 := Linearize_any exG nE _ w2 ((HR.out.below hb2).mono fun b hb _ => hb) ex_small
  rw [ex_line] at h3
  clear hb2 hs2 h2
  go_wp2_with fail
  refine h3.mono ?_
  rintro e w3 ⟨hb3, rfl⟩
  have HB3 : Hid (Below w1.heap.size w1 w3) := Lib.hid (HB2.out.trans (hb3.mono HB2.out.size))
  have HT3 := Lib.hid hb3
  have h4 := Cycle_any exG nE _ w3 ((HR.out.below HB3.out).mono fun b hb _ => hb) ex_small
  rw [ex_cyc] at h4
  clear hb3 h3
  go_wp2_with fail
  refine h4.mono ?_
  rintro e w4 ⟨hb4, u4, rfl, hs4⟩
  obtain ⟨a4, c4, rfl, _⟩ := id hs4
  have HB4 : Hid (Below w1.heap.size w1 w4) := Lib.hid (HB3.out.trans (hb4.mono HB3.out.size))
  have HT4 : Hid (Below w2.heap.size w2 w4) := Lib.hid (HT3.out.trans (hb4.mono HT3.out.size))
  clear hb4 hs4 h4
  go_wp2_with fail
  refine (merge_ex w4).mono ?_
  rintro e w5 ⟨a5, c5, rfl, hb5, hs5⟩
  have HS5 := Lib.hid hs5
  have HB5 : Hid (Below w1.heap.size w1 w5) := Lib.hid (HB4.out.trans (hb5.mono HB4.out.size))
  have HT5 : Hid (Below w2.heap.size w2 w5) := Lib.hid (HT4.out.trans (hb5.mono HT4.out.size))
  have h6 := Ancestors_any exG nY _ w5 ((HR.out.below HB5.out).mono fun b hb _ => hb) ex_small
  rw [ex_anc] at h6
  clear hb5 hs5
  go_wp2_with fail
  refine h6.mono ?_
  rintro e w6 ⟨hb6, u6, rfl, hs6⟩
  obtain ⟨a6, c6, rfl, _⟩ := id hs6
  have HS6 := Lib.hid hs6
  have HB6 : Hid (Below w1.heap.size w1 w6) := Lib.hid (HB5.out.trans (hb6.mono HB5.out.size))
  have HT6 : Hid (Below w2.heap.size w2 w6) := Lib.hid (HT5.out.trans (hb6.mono HT5.out.size))
  have HU6 : Hid (Below w5.heap.size w5 w6) := Lib.hid hb6
  have h7 := All_any exG _ w6 ((HR.out.below HB6.out).mono fun b hb _ => hb) ex_small
  rw [ex_all] at h7
  clear hb6 hs6 h6
  go_wp2_with fail
  refine h7.mono ?_
  rintro e w7 ⟨hb7, rfl⟩
  have HB7 : Hid (Below w1.heap.size w1 w7) := Lib.hid (HB6.out.trans (hb7.mono HB6.out.size))
  have HT7 : Hid (Below w2.heap.size w2 w7) := Lib.hid (HT6.out.trans (hb7.mono HT6.out.size))
  have HU7 : Hid (Below w5.heap.size w5 w7) := Lib.hid (HU6.out.trans (hb7.mono HU6.out.size))
  have HV7 : Hid (Below w6.heap.size w6 w7) := Lib.hid hb7
  have h8 := Precedes_any exG nC nA nB _ w7 ((HR.out.below HB7.out).mono fun b hb _ => hb) ex_small
  rw [ex_prec] at h8
  clear hb7 h7
  go_wp2_with fail
  refine h8.mono ?_
  rintro e w8 ⟨rfl, hb8⟩
  have HB8 : Hid (Below W.heap.size W w8) := Lib.hid (HB1.out.trans ((HB7.out.trans (hb8.mono HB7.out.size)).mono HB1.out.size))
  have hs2 := HS2.out.below (HT7.out.trans (hb8.mono HT7.out.size))
  have hs5 := HS5.out.below (HU7.out.trans (hb8.mono HU7.out.size))
  have hs6 := HS6.out.below (HV7.out.trans (hb8.mono HV7.out.size))
  have g1 := same_ex hs2 (os := #[.string ⟨#[99]⟩, .string ⟨#[97]⟩, .string ⟨#[98]⟩, .string ⟨#[111]⟩]) rfl 4 rfl (by simp)
  have HX := Lib.hid (And.intro hs5 hs6)
  clear hb8 h8 hs2 hs5 hs6
  go_wp2_with fail
  refine g1.mono ?_
  rintro e w9 ⟨rfl, hb9⟩
  have g2 := same_ex (HX.out.1.below hb9) (os := #[.string ⟨#[97]⟩, .string ⟨#[98]⟩, .string ⟨#[111]⟩]) rfl 3 rfl (by simp)
  have HB9 : Hid (Below W.heap.size W w9) := Lib.hid (HB8.out.trans (hb9.mono HB8.out.size))
  have HX2 := Lib.hid (HX.out.2.below hb9)
  clear hb9 g1
  go_wp2_with fail
  refine g2.mono ?_
  rintro e w10 ⟨rfl, hb10⟩
  have g3 := same_ex (HX2.out.below hb10) (os := #[.string ⟨#[111]⟩, .string ⟨#[97]⟩, .string ⟨#[120]⟩, .string ⟨#[121]⟩]) rfl 4 rfl (by simp)
  have HB10 : Hid (Below W.heap.size W w10) := Lib.hid (HB9.out.trans (hb10.mono HB9.out.size))
  clear hb10 g2
  go_wp2_with fail
  refine g3.mono ?_
  rintro e w11 ⟨rfl, hb11⟩
  have HB11 : Hid (Below W.heap.size W w11) := Lib.hid (HB10.out.trans (hb11.mono HB10.out.size))
  clear hb11 g3
  go_wp2_with fail
  exact bodyPost_ret (v := .bool true) (by simp [results, Try.results13, go_sem]) rfl ⟨rfl, HB11.out⟩
end Go.Proofs.Ytolopideimnbgaa
