/-
  Rows of pieces at any place of a block: the number that lie well ahead of a place.
  Whether two lists of pieces are the same, the second at any place of a block.
  What two lists of pieces have in common, the first at any place of a block.
  recut, of a list at any place of a block.
-/
import Derived.Test.YtlkanfnhemjdcaaGreatDoorXH
import Derived.Test.YtlkanfnhemjdcaaGreatDoorXI
namespace Go.Proofs.YtlkanfnhemjdcaaGreatDoor
section
open Go.RowKit

/-- Cells of a row of pieces at a place of a block. -/
def PcsO (w : World) (g o : Nat) (l : List (Nat × Nat × Nat)) : Prop := ∀ j u, (flatP l)[j]? = some u → w.cell? ⟨g, o + j, none⟩ = some u
theorem PcsO.c0 {w : World} {g o : Nat} {l : List (Nat × Nat × Nat)} (h : PcsO w g o l) {k : Nat} {x : Nat × Nat × Nat} (hx : l[k]? = some x) : w.cell? ⟨g, o + k * 3, none⟩ = some (.int .i64 (x.1 : Int)) :=
  h (k * 3 + 0) _ (by rw [flatP_get l k 0 x hx (by omega)]; rfl)
theorem PcsO.c1 {w : World} {g o : Nat} {l : List (Nat × Nat × Nat)} (h : PcsO w g o l) {k : Nat} {x : Nat × Nat × Nat} (hx : l[k]? = some x) : w.cell? ⟨g, o + k * 3 + 1, none⟩ = some (.int .i64 (x.2.1 : Int)) :=
  h (k * 3 + 1) _ (by rw [flatP_get l k 1 x hx (by omega)]; rfl)
theorem PcsO.c2 {w : World} {g o : Nat} {l : List (Nat × Nat × Nat)} (h : PcsO w g o l) {k : Nat} {x : Nat × Nat × Nat} (hx : l[k]? = some x) : w.cell? ⟨g, o + k * 3 + 2, none⟩ = some (.int .i64 (x.2.2 : Int)) :=
  h (k * 3 + 2) _ (by rw [flatP_get l k 2 x hx (by omega)]; rfl)
theorem PcsAt.toO {w : World} {g : Nat} {l : List (Nat × Nat × Nat)} (h : PcsAt w g l) : PcsO w g 0 l := fun j u hu => by rw [Nat.zero_add]; exact h j u hu
theorem PcsO.below {w w' : World} {g o : Nat} {l : List (Nat × Nat × Nat)} (h : PcsO w g o l) (hg : g < w.heap.size) (hB : Below w.heap.size w w') : PcsO w' g o l :=
  fun j u hu => (hB.cell (p := ⟨g, o + j, none⟩) hg).trans (h j u hu)

theorem unreached_o (g og c : Nat) (l : List (Nat × Nat × Nat)) (place : Int) (hl : ∀ x ∈ l, x.2.1 + x.2.2 ≤ 1048576) (hn : l.length ≤ 1048576) (w : World) (hg : g < w.heap.size) (H : PcsO w g og l) :
    Calls Tryz.prog 80 #[.slice (some ⟨g, og, none⟩) l.length c, .int .i64 place] w fun e w' => e = .returned (.int .i64 (unrN l place 0 : Int)) ∧ Below w.heap.size w w' := by
  go_enter Tryz.func80, Tryz.ntmps80
  go_wp2_with fail
  go_loopw [5] (fun n wr => ∃ k : Nat, k ≤ l.length ∧ n = .int .i64 k ∧ Hid (unrN l place k = unrN l place 0) ∧ Hid (Below w.heap.size w wr)) (fun n _ => l.length - (intOf n).toNat)
  case atStart => exact ⟨0, by omega, rfl, Lib.hid rfl, Lib.hid (Below.refl _ _)⟩
  case round =>
    obtain ⟨k, hk, rfl, hu, hbe⟩ := hrel
    by_cases hlt : k < l.length
    · obtain ⟨x, hx⟩ : ∃ x, l[k]? = some x := ⟨_, List.getElem?_eq_getElem hlt⟩
      have e1 : wr.cell? ⟨g, og + k * 3 + 1, none⟩ = some (.int .i64 (x.2.1 : Int)) := (hbe.out.cell (p := ⟨g, og + k * 3 + 1, none⟩) hg).trans (H.c1 hx)
      have e2 : wr.cell? ⟨g, og + k * 3 + 2, none⟩ = some (.int .i64 (x.2.2 : Int)) := (hbe.out.cell (p := ⟨g, og + k * 3 + 2, none⟩) hg).trans (H.c2 hx)
      have hb := hl x (List.mem_iff_getElem?.2 ⟨k, hx⟩)
      have w1 : IntKind.i64.wrap ((x.2.1 : Int) + (x.2.2 : Int)) = (x.2.1 : Int) + (x.2.2 : Int) := IntWalk.i64_in _ (by omega)
      have w2 : IntKind.i64.wrap ((x.2.1 : Int) + (x.2.2 : Int) + 100) = (x.2.1 : Int) + (x.2.2 : Int) + 100 := IntWalk.i64_in _ (by omega)
      have w3 : IntKind.i64.wrap ((x.2.1 : Int) + (x.2.2 : Int) + 100 + 1) = (x.2.1 : Int) + (x.2.2 : Int) + 100 + 1 := IntWalk.i64_in _ (by omega)
      have HU := Lib.hid (fun h => unrN_on (place := place) hx h)
      have HS := Lib.hid (fun h => unrN_stop (place := place) hx h)
      have hlt' : (k : Int) < (l.length : Int) := by omega
      by_cases hc : (x.2.1 : Int) + (x.2.2 : Int) + 100 + 1 < place
      · go_wp2_with fail
        go_region_held3 (fun w' => w'.cell? ⟨g, og + k * 3 + 1, none⟩ = some (.int .i64 (x.2.1 : Int)) ∧ w'.cell? ⟨g, og + k * 3 + 2, none⟩ = some (.int .i64 (x.2.2 : Int))) (go_keep) (fail)
        all_goals go_wp2_with fail
        go_roundw
        case rel => exact ⟨k + 1, by omega, by go_num, Lib.hid (by rw [← HU.out hc]; exact hu.out), Lib.hid hbe.out.drew⟩
        case measure => simp [intOf]; omega
      · go_wp2_with fail
        go_region_held3 (fun w' => w'.cell? ⟨g, og + k * 3 + 1, none⟩ = some (.int .i64 (x.2.1 : Int)) ∧ w'.cell? ⟨g, og + k * 3 + 2, none⟩ = some (.int .i64 (x.2.2 : Int))) (go_keep) (fail)
        all_goals go_wp2_with fail
        refine bodyPost_ret (v := .int .i64 (k : Int)) ?_ rfl ⟨by rw [← hu.out, HS.out hc], hbe.out.drew⟩
        simp [results, Tryz.results80, go_sem]
    · have hkl : k = l.length := by omega
      subst hkl
      go_wp2_with fail
      go_quiet (fail)
      go_wp2_with fail
      have HZ := unrN_end (place := place) (l := l) (k := l.length) (by omega)
      refine bodyPost_ret (v := .int .i64 (l.length : Int)) ?_ rfl ⟨by rw [← hu.out, HZ], ?_⟩
      · simp [results, Tryz.results80, go_sem]
      · have hb := hbe.out; exact ⟨hb.os, hb.tape, hb.output, hb.size, hb.block⟩

end

section
open Go.RowKit

/-- Cells of a row of pieces of any numbers at a place of a block. -/
def IntsO (w : World) (g o : Nat) (l : List (Int × Int × Int)) : Prop := ∀ j u, (flatI l)[j]? = some u → w.cell? ⟨g, o + j, none⟩ = some u
theorem IntsO.c0 {w : World} {g o : Nat} {l : List (Int × Int × Int)} (h : IntsO w g o l) {k : Nat} {x : Int × Int × Int} (hx : l[k]? = some x) : w.cell? ⟨g, o + k * 3, none⟩ = some (.int .i64 x.1) :=
  h (k * 3 + 0) _ (by rw [flatI_get l k 0 x hx (by omega)]; rfl)
theorem IntsO.c1 {w : World} {g o : Nat} {l : List (Int × Int × Int)} (h : IntsO w g o l) {k : Nat} {x : Int × Int × Int} (hx : l[k]? = some x) : w.cell? ⟨g, o + k * 3 + 1, none⟩ = some (.int .i64 x.2.1) :=
  h (k * 3 + 1) _ (by rw [flatI_get l k 1 x hx (by omega)]; rfl)
theorem IntsO.c2 {w : World} {g o : Nat} {l : List (Int × Int × Int)} (h : IntsO w g o l) {k : Nat} {x : Int × Int × Int} (hx : l[k]? = some x) : w.cell? ⟨g, o + k * 3 + 2, none⟩ = some (.int .i64 x.2.2) :=
  h (k * 3 + 2) _ (by rw [flatI_get l k 2 x hx (by omega)]; rfl)
theorem IntsO.below {w w' : World} {g o : Nat} {l : List (Int × Int × Int)} (h : IntsO w g o l) (hg : g < w.heap.size) (hB : Below w.heap.size w w') : IntsO w' g o l :=
  fun j u hu => (hB.cell (p := ⟨g, o + j, none⟩) hg).trans (h j u hu)
attribute [local go_sem 5000] run_neq_ints run_guard_piece

set_option maxHeartbeats 4000000 in
set_option maxRecDepth 100000 in
theorem equal_o (g h og cl cm : Nat) (l m : List (Int × Int × Int)) (hlen : l.length = m.length) (hml : m.length ≤ 1048576) (w : World) (hg : g < w.heap.size) (hh : h < w.heap.size) (L : IntsAt w g l) (M : IntsO w h og m) :
    Calls Tryz.prog 55 #[.slice (some ⟨g, 0, none⟩) l.length cl, .slice (some ⟨h, og, none⟩) m.length cm] w fun e w' => e = .returned (.bool (decide (l = m))) ∧ Below w.heap.size w w' := by
  have HM : Hid (m.length = l.length) := Lib.hid hlen.symm
  go_enter Tryz.func55, Tryz.ntmps55
  go_wp2_with fail
  go_loopw [13] (fun i wr => ∃ k : Nat, k ≤ m.length ∧ i = .int .i64 k ∧ Hid (∀ j, j < k → l[j]? = m[j]?) ∧ Hid (Below w.heap.size w wr)) (fun i _ => m.length - (intOf i).toNat)
  case atStart => exact ⟨0, by omega, rfl, Lib.hid (fun j hj => by omega), Lib.hid (Below.refl _ _)⟩
  case round =>
    obtain ⟨k, hk, rfl, ha, hbe⟩ := hrel
    by_cases hlt : k < m.length
    · obtain ⟨x, hx⟩ : ∃ x, l[k]? = some x := ⟨_, List.getElem?_eq_getElem (by omega)⟩
      obtain ⟨y, hy⟩ : ∃ y, m[k]? = some y := ⟨_, List.getElem?_eq_getElem (by omega)⟩
      have l0 : wr.cell? ⟨g, k * 3, none⟩ = some (.int .i64 x.1) := (hbe.out.cell (p := ⟨g, k * 3, none⟩) hg).trans (L.c0 hx)
      have l1 : wr.cell? ⟨g, k * 3 + 1, none⟩ = some (.int .i64 x.2.1) := (hbe.out.cell (p := ⟨g, k * 3 + 1, none⟩) hg).trans (L.c1 hx)
      have l2 : wr.cell? ⟨g, k * 3 + 2, none⟩ = some (.int .i64 x.2.2) := (hbe.out.cell (p := ⟨g, k * 3 + 2, none⟩) hg).trans (L.c2 hx)
      have m0 : wr.cell? ⟨h, og + k * 3, none⟩ = some (.int .i64 y.1) := (hbe.out.cell (p := ⟨h, og + k * 3, none⟩) hh).trans (M.c0 hy)
      have m1 : wr.cell? ⟨h, og + k * 3 + 1, none⟩ = some (.int .i64 y.2.1) := (hbe.out.cell (p := ⟨h, og + k * 3 + 1, none⟩) hh).trans (M.c1 hy)
      have m2 : wr.cell? ⟨h, og + k * 3 + 2, none⟩ = some (.int .i64 y.2.2) := (hbe.out.cell (p := ⟨h, og + k * 3 + 2, none⟩) hh).trans (M.c2 hy)
      have h1 : (k : Int) < (m.length : Int) := by omega
      have h2 : (k : Int) < (l.length : Int) := by omega
      have hw : IntKind.i64.wrap ((k : Int) + 1) = (k : Int) + 1 := IntWalk.i64_in _ (by omega)
      have HXY : Hid (l[k]? = some x ∧ m[k]? = some y) := Lib.hid ⟨hx, hy⟩
      clear hx hy
      go_wp2_with fail
      go_region_held3 (fun w' => w'.cell? ⟨g, k * 3, none⟩ = some (.int .i64 x.1) ∧ w'.cell? ⟨g, k * 3 + 1, none⟩ = some (.int .i64 x.2.1) ∧ w'.cell? ⟨g, k * 3 + 2, none⟩ = some (.int .i64 x.2.2) ∧ w'.cell? ⟨h, og + k * 3, none⟩ = some (.int .i64 y.1) ∧ w'.cell? ⟨h, og + k * 3 + 1, none⟩ = some (.int .i64 y.2.1) ∧ w'.cell? ⟨h, og + k * 3 + 2, none⟩ = some (.int .i64 y.2.2)) (go_keep) (fail)
      by_cases hxy : x = y
      · have hd : decide (x = y) = true := by simp [hxy]
        have HE := Lib.hid hxy
        clear hxy
        simp only [hd]
        go_wp2_with fail
        refine ⟨⟨k + 1, hlt, by simp, Lib.hid (fun j hj => ?_), Lib.hid hbe.out.drew⟩, by simp only [intOf]; omega⟩
        by_cases hjk : j = k
        · subst hjk; rw [HXY.out.1, HXY.out.2, HE.out]
        · exact ha.out j (by omega)
      · have hd : decide (x = y) = false := by simp [hxy]
        have HE : Hid (¬ l = m) := Lib.hid (fun e => hxy (by have := HXY.out.1; rw [e, HXY.out.2] at this; injection this with this; exact this.symm))
        clear hxy
        simp only [hd]
        go_wp2_with fail
        refine bodyPost_ret (v := .bool false) ?_ rfl ⟨by rw [decide_eq_false HE.out], hbe.out.drew⟩
        simp [results, Tryz.results55, go_sem]
    · have hkl : k = m.length := by omega
      have HE : Hid (l = m) := Lib.hid (eq_of_all l m hlen (fun j hj => ha.out j (by omega)))
      subst hkl
      go_wp2_with fail
      refine bodyPost_ret (v := .bool true) ?_ rfl ⟨by rw [decide_eq_true HE.out], hbe.out⟩
      simp [results, Tryz.results55, go_sem]
end

section
open Go.RowKit
attribute [local go_sem 5000] run_eql_piece run_guard_piece run_neq_moved

set_option maxHeartbeats 4000000 in
set_option maxRecDepth 100000 in
theorem kept_o (g og h cl cm : Nat) (l m : List (Nat × Nat × Nat)) (shift : Int) (hs : -1048576 ≤ shift ∧ shift ≤ 1048576) (hl : ∀ x ∈ l, x.2.1 + x.2.2 ≤ 1048576) (hln : l.length ≤ 1048576) (hmn : m.length ≤ 1048576) (w : World) (hg : g < w.heap.size) (hh : h < w.heap.size) (L : PcsO w g og l) (M : PcsAt w h m) :
    Calls Tryz.prog 57 #[.slice (some ⟨g, og, none⟩) l.length cl, .slice (some ⟨h, 0, none⟩) m.length cm, .int .i64 shift] w fun e w' => e = .returned (.agg #[.int .i64 (frontN l m 0 : Int), .int .i64 (backN l m shift (frontN l m 0) 0 : Int)]) ∧ Below w.heap.size w w' := by
  obtain ⟨n, hn⟩ : ∃ n, n = min l.length m.length := ⟨_, rfl⟩
  have hm : min (l.length : Int) (m.length : Int) = (n : Int) := by omega
  have HEND : Hid (∀ k, ¬ k < n → frontN l m k = k) := Lib.hid (fun k hk => frontN_end (by omega))
  have hnl : n ≤ l.length := by omega
  have hnm : n ≤ m.length := by omega
  have HN := Lib.hid hn
  clear hn
  go_enter Tryz.func57, Tryz.ntmps57
  go_wp2_with fail
  go_loopw [] (fun wr => ∃ k : Nat, k ≤ n ∧ KRel w k 0 wr ∧ Hid (frontN l m k = frontN l m 0)) (fun wr => n - kOf (w.heap.size + 1) 0 wr)
  case atStart =>
    refine ⟨0, by omega, ⟨((Below.refl _ w).alloc (Nat.le_refl _) _).alloc (by simp) _, ?_, ?_, ?_, ?_, ?_, ?_, by simp⟩, Lib.hid rfl⟩
    · exact new_cell _ _ _ _ _ _ (by simp) rfl
    · exact new_cell _ _ _ _ _ _ (by simp) rfl
    · exact two_firstB _ _ _ _ _ _ _ rfl rfl
    · exact two_firstB _ _ _ _ _ _ _ rfl rfl
    · exact fun j => two_frozenB _ _ _ _ _ _ rfl
    · exact fun j => new_frozen _ _ _ _ _ (by simp)
  case round =>
    obtain ⟨k, hk, hr, hu⟩ := hrel
    have HR := Lib.hid hr
    clear hr
    have e0 := HR.out.c0
    have hz := HR.out.z1 0
    have hw : IntKind.i64.wrap ((k : Int) + 1) = (k : Int) + 1 := IntWalk.i64_in _ (by omega)
    by_cases hlt : k < n
    · obtain ⟨x, hx⟩ : ∃ x, l[k]? = some x := ⟨_, List.getElem?_eq_getElem (by omega)⟩
      obtain ⟨y, hy⟩ : ∃ y, m[k]? = some y := ⟨_, List.getElem?_eq_getElem (by omega)⟩
      have l0 : wr.cell? ⟨g, og + k * 3, none⟩ = some (.int .i64 (x.1 : Int)) := (HR.out.below.cell (p := ⟨g, og + k * 3, none⟩) hg).trans (L.c0 hx)
      have l1 : wr.cell? ⟨g, og + k * 3 + 1, none⟩ = some (.int .i64 (x.2.1 : Int)) := (HR.out.below.cell (p := ⟨g, og + k * 3 + 1, none⟩) hg).trans (L.c1 hx)
      have l2 : wr.cell? ⟨g, og + k * 3 + 2, none⟩ = some (.int .i64 (x.2.2 : Int)) := (HR.out.below.cell (p := ⟨g, og + k * 3 + 2, none⟩) hg).trans (L.c2 hx)
      have m0 : wr.cell? ⟨h, k * 3, none⟩ = some (.int .i64 (y.1 : Int)) := (HR.out.below.cell (p := ⟨h, k * 3, none⟩) hh).trans (M.c0 hy)
      have m1 : wr.cell? ⟨h, k * 3 + 1, none⟩ = some (.int .i64 (y.2.1 : Int)) := (HR.out.below.cell (p := ⟨h, k * 3 + 1, none⟩) hh).trans (M.c1 hy)
      have m2 : wr.cell? ⟨h, k * 3 + 2, none⟩ = some (.int .i64 (y.2.2 : Int)) := (HR.out.below.cell (p := ⟨h, k * 3 + 2, none⟩) hh).trans (M.c2 hy)
      have h1 : (k : Int) < (n : Int) := by omega
      have h2 : (k : Int) < (l.length : Int) := by omega
      have h3 : (k : Int) < (m.length : Int) := by omega
      go_wp2_with fail
      go_region_held3 (fun w' => w'.cell? ⟨w.heap.size + 1, 0, none⟩ = some (.int .i64 (k : Int)) ∧ w'.cell? ⟨g, og + k * 3, none⟩ = some (.int .i64 (x.1 : Int)) ∧ w'.cell? ⟨g, og + k * 3 + 1, none⟩ = some (.int .i64 (x.2.1 : Int)) ∧ w'.cell? ⟨g, og + k * 3 + 2, none⟩ = some (.int .i64 (x.2.2 : Int)) ∧ w'.cell? ⟨h, k * 3, none⟩ = some (.int .i64 (y.1 : Int)) ∧ w'.cell? ⟨h, k * 3 + 1, none⟩ = some (.int .i64 (y.2.1 : Int)) ∧ w'.cell? ⟨h, k * 3 + 2, none⟩ = some (.int .i64 (y.2.2 : Int))) (go_keep) (fail)
      by_cases hxy : x = y
      · have hd : decide (x = y) = true := by simp [hxy]
        have hon := frontN_on hx hy hxy
        have HON := Lib.hid hon
        clear hon hxy
        simp only [hd]
        go_wp2_with fail
        have hkr : KRel w (k + 1) 0 (wr.setCell ⟨w.heap.size + 1, 0, none⟩ (.int .i64 ((k + 1 : Nat) : Int))).drew := (HR.out.front (k + 1)).drew
        rw [show (((k + 1 : Nat)) : Int) = (k : Int) + 1 by omega] at hkr
        have hk1 := kOf_eq (k := k + 1) (by rw [show (((k + 1 : Nat)) : Int) = (k : Int) + 1 by omega]; exact hkr.c0)
        have hk0 := kOf_eq HR.out.c0
        refine ⟨⟨k + 1, hlt, hkr, Lib.hid (by rw [← HON.out]; exact hu.out)⟩, ?_⟩
        rw [hk1, hk0]; omega
      · have hd : decide (x = y) = false := by simp [hxy]
        have HFK : Hid (frontN l m k = k) := Lib.hid (frontN_stop hx hy hxy)
        have HKR : Hid (KRel w k 0 wr.drew) := Lib.hid HR.out.drew
        clear hxy
        simp only [hd]
        go_wp2_with fail
        clear hd hx hy l0 l1 l2 m0 m1 m2 h1 h2 h3
        have HK : Hid (frontN l m 0 = k) := Lib.hid (by rw [← hu.out]; exact HFK.out)
        have hkr : KRel w k 0 wr.drew := HKR.out
        go_loopw [] (fun wr => ∃ b : Nat, b ≤ n - k ∧ KRel w k b wr ∧ Hid (backN l m shift k b = backN l m shift k 0)) (fun wr => n - k - kOf (w.heap.size + 1) 1 wr)
        case atStart => exact ⟨0, by omega, hkr, Lib.hid rfl⟩
        case round =>
          obtain ⟨b, hb, hr2, hv⟩ := hrel
          clear HR hz e0
          have HR := Lib.hid hr2
          clear hr2
          have c0 := HR.out.c0
          have c1 := HR.out.c1
          have hz := HR.out.z1 1
          have hz00 := HR.out.z0 0
          have hz01 := HR.out.z0 1
          have hr0 := HR.out.r0
          have hr1 := HR.out.r1
          have wkb : IntKind.i64.wrap ((k : Int) + (b : Int)) = (k : Int) + (b : Int) := IntWalk.i64_in _ (by omega)
          by_cases hlt2 : k + b < n
          · obtain ⟨i, hi⟩ : ∃ i, i = l.length - 1 - b := ⟨_, rfl⟩
            obtain ⟨j, hj⟩ : ∃ j, j = m.length - 1 - b := ⟨_, rfl⟩
            obtain ⟨x, hx⟩ : ∃ x, l[i]? = some x := ⟨_, List.getElem?_eq_getElem (by omega)⟩
            obtain ⟨y, hy⟩ : ∃ y, m[j]? = some y := ⟨_, List.getElem?_eq_getElem (by omega)⟩
            have hxl := hl x (List.mem_iff_getElem?.2 ⟨i, hx⟩)
            have l0 : wr.cell? ⟨g, og + i * 3, none⟩ = some (.int .i64 (x.1 : Int)) := (HR.out.below.cell (p := ⟨g, og + i * 3, none⟩) hg).trans (L.c0 hx)
            have l1 : wr.cell? ⟨g, og + i * 3 + 1, none⟩ = some (.int .i64 (x.2.1 : Int)) := (HR.out.below.cell (p := ⟨g, og + i * 3 + 1, none⟩) hg).trans (L.c1 hx)
            have l2 : wr.cell? ⟨g, og + i * 3 + 2, none⟩ = some (.int .i64 (x.2.2 : Int)) := (HR.out.below.cell (p := ⟨g, og + i * 3 + 2, none⟩) hg).trans (L.c2 hx)
            have m0 : wr.cell? ⟨h, j * 3, none⟩ = some (.int .i64 (y.1 : Int)) := (HR.out.below.cell (p := ⟨h, j * 3, none⟩) hh).trans (M.c0 hy)
            have m1 : wr.cell? ⟨h, j * 3 + 1, none⟩ = some (.int .i64 (y.2.1 : Int)) := (HR.out.below.cell (p := ⟨h, j * 3 + 1, none⟩) hh).trans (M.c1 hy)
            have m2 : wr.cell? ⟨h, j * 3 + 2, none⟩ = some (.int .i64 (y.2.2 : Int)) := (HR.out.below.cell (p := ⟨h, j * 3 + 2, none⟩) hh).trans (M.c2 hy)
            have wi1 : IntKind.i64.wrap ((l.length : Int) - 1) = (l.length : Int) - 1 := IntWalk.i64_in _ (by omega)
            have wi2 : IntKind.i64.wrap ((l.length : Int) - 1 - (b : Int)) = (i : Int) := by rw [IntWalk.i64_in _ (by omega)]; omega
            have wj1 : IntKind.i64.wrap ((m.length : Int) - 1) = (m.length : Int) - 1 := IntWalk.i64_in _ (by omega)
            have wj2 : IntKind.i64.wrap ((m.length : Int) - 1 - (b : Int)) = (j : Int) := by rw [IntWalk.i64_in _ (by omega)]; omega
            have hil : i < l.length := by omega
            have hjm : j < m.length := by omega
            have hil' : (i : Int) < (l.length : Int) := by omega
            have hjm' : (j : Int) < (m.length : Int) := by omega
            have hlt3 : (k : Int) + (b : Int) < (n : Int) := by omega
            have wsh : IntKind.i64.wrap ((x.2.1 : Int) + shift) = (x.2.1 : Int) + shift := IntWalk.i64_in _ (by omega)
            have wb1 : IntKind.i64.wrap ((b : Int) + 1) = (b : Int) + 1 := IntWalk.i64_in _ (by omega)
            have HON : Hid (moved shift x y = true → backN l m shift k b = backN l m shift k (b + 1)) := Lib.hid (fun hm' => backN_on (by rw [← HN.out]; exact hlt2) hi hj hx hy hm')
            have HST : Hid (moved shift x y = false → backN l m shift k b = b) := Lib.hid (fun hm' => backN_stop (by rw [← HN.out]; exact hlt2) hi hj hx hy hm')
            clear hi hj
            have HA := Lib.hid (HR.out.alloc (.cells #[.int .i64 (x.1 : Int), .int .i64 ((x.2.1 : Int) + shift), .int .i64 (x.2.2 : Int)] 59))
            have d0 : (wr.alloc (.cells #[.int .i64 (x.1 : Int), .int .i64 ((x.2.1 : Int) + shift), .int .i64 (x.2.2 : Int)] 59)).cell? ⟨w.heap.size + 1, 0, none⟩ = some (.int .i64 (k : Int)) := HA.out.c0
            have d1 : (wr.alloc (.cells #[.int .i64 (x.1 : Int), .int .i64 ((x.2.1 : Int) + shift), .int .i64 (x.2.2 : Int)] 59)).cell? ⟨w.heap.size + 1, 1, none⟩ = some (.int .i64 (b : Int)) := HA.out.c1
            have dz := HA.out.z1 1
            have dz00 := HA.out.z0 0
            have dz01 := HA.out.z0 1
            have dr0 := HA.out.r0
            have dr1 := HA.out.r1
            have p0 : (wr.alloc (.cells #[.int .i64 (x.1 : Int), .int .i64 ((x.2.1 : Int) + shift), .int .i64 (x.2.2 : Int)] 59)).cell? ⟨wr.heap.size, 0, none⟩ = some (.int .i64 (x.1 : Int)) := new_cell _ _ _ _ _ _ rfl rfl
            have p1 : (wr.alloc (.cells #[.int .i64 (x.1 : Int), .int .i64 ((x.2.1 : Int) + shift), .int .i64 (x.2.2 : Int)] 59)).cell? ⟨wr.heap.size, 1, none⟩ = some (.int .i64 ((x.2.1 : Int) + shift)) := new_cell _ _ _ _ _ _ rfl rfl
            have p2 : (wr.alloc (.cells #[.int .i64 (x.1 : Int), .int .i64 ((x.2.1 : Int) + shift), .int .i64 (x.2.2 : Int)] 59)).cell? ⟨wr.heap.size, 2, none⟩ = some (.int .i64 (x.2.2 : Int)) := new_cell _ _ _ _ _ _ rfl rfl
            have q0 : (wr.alloc (.cells #[.int .i64 (x.1 : Int), .int .i64 ((x.2.1 : Int) + shift), .int .i64 (x.2.2 : Int)] 59)).cell? ⟨h, j * 3, none⟩ = some (.int .i64 (y.1 : Int)) := (HA.out.below.cell (p := ⟨h, j * 3, none⟩) hh).trans (M.c0 hy)
            have q1 : (wr.alloc (.cells #[.int .i64 (x.1 : Int), .int .i64 ((x.2.1 : Int) + shift), .int .i64 (x.2.2 : Int)] 59)).cell? ⟨h, j * 3 + 1, none⟩ = some (.int .i64 (y.2.1 : Int)) := (HA.out.below.cell (p := ⟨h, j * 3 + 1, none⟩) hh).trans (M.c1 hy)
            have q2 : (wr.alloc (.cells #[.int .i64 (x.1 : Int), .int .i64 ((x.2.1 : Int) + shift), .int .i64 (x.2.2 : Int)] 59)).cell? ⟨h, j * 3 + 2, none⟩ = some (.int .i64 (y.2.2 : Int)) := (HA.out.below.cell (p := ⟨h, j * 3 + 2, none⟩) hh).trans (M.c2 hy)
            go_wp2_with fail
            go_region_held3 (fun w' => w'.cell? ⟨w.heap.size + 1, 1, none⟩ = some (.int .i64 (b : Int)) ∧ w'.cell? ⟨wr.heap.size, 0, none⟩ = some (.int .i64 (x.1 : Int)) ∧ w'.cell? ⟨wr.heap.size, 1, none⟩ = some (.int .i64 ((x.2.1 : Int) + shift)) ∧ w'.cell? ⟨wr.heap.size, 2, none⟩ = some (.int .i64 (x.2.2 : Int)) ∧ w'.cell? ⟨h, j * 3, none⟩ = some (.int .i64 (y.1 : Int)) ∧ w'.cell? ⟨h, j * 3 + 1, none⟩ = some (.int .i64 (y.2.1 : Int)) ∧ w'.cell? ⟨h, j * 3 + 2, none⟩ = some (.int .i64 (y.2.2 : Int))) (go_keep) (fail)
            cases hmv : moved shift x y
            · have HB2 := Lib.hid (HST.out hmv)
              go_wp2_with fail
              refine bodyPost_ret (v := .agg #[.int .i64 (k : Int), .int .i64 (b : Int)]) ?_ rfl ⟨by rw [HK.out, ← hv.out, HB2.out], ?_⟩
              · simp [results, Tryz.results57, go_sem, dr0, dr1]
              · repeat (first | exact HA.out.below | refine Below.drew ?_ | refine Below.setCell ?_ (by simp) _)
            · have HB2 := Lib.hid (HON.out hmv)
              go_wp2_with fail
              have hkb : KRel w k (b + 1) (((wr.alloc (.cells #[.int .i64 (x.1 : Int), .int .i64 ((x.2.1 : Int) + shift), .int .i64 (x.2.2 : Int)] 59)).setCell ⟨w.heap.size + 1, 1, none⟩ (.int .i64 ((b + 1 : Nat) : Int))).drew) := (HA.out.back (b + 1)).drew
              rw [show (((b + 1 : Nat)) : Int) = (b : Int) + 1 by omega] at hkb
              have hk1 := kOf_eq (k := b + 1) (by rw [show (((b + 1 : Nat)) : Int) = (b : Int) + 1 by omega]; exact hkb.c1)
              have hk0 := kOf_eq HR.out.c1
              refine ⟨⟨b + 1, by omega, hkb, Lib.hid (by rw [← HB2.out]; exact hv.out)⟩, ?_⟩
              rw [hk1, hk0]; omega
          · have hlt3 : ((k : Int) + (b : Int) < (n : Int)) = False := by simp; omega
            have HZ2 : Hid (backN l m shift k b = b) := Lib.hid (backN_end (by rw [← HN.out]; exact hlt2))
            go_wp2_with fail
            refine bodyPost_ret (v := .agg #[.int .i64 (k : Int), .int .i64 (b : Int)]) ?_ rfl ⟨by rw [HK.out, ← hv.out, HZ2.out], ?_⟩
            · simp [results, Tryz.results57, go_sem, hr0, hr1]
            · exact Below.setCell (Below.setCell HR.out.below (by simp) _) (by simp) _
    · have hkm : k = n := by omega
      have HFK := Lib.hid (HEND.out k hlt)
      have hdr : ∀ q, KRel w k 0 (wr.drewN q) := fun q => by
        have h := HR.out
        exact ⟨⟨h.below.os, h.below.tape, h.below.output, h.below.size, h.below.block⟩, h.c0, h.c1, h.r0, h.r1, h.z0, h.z1, h.size⟩
      have HKR : Hid (∀ q, KRel w k 0 (wr.drewN q)) := Lib.hid hdr
      subst hkm
      clear hlt hk hdr
      go_wp2_with fail
      go_quiet (fail)
      go_wp2_with fail
      have HK : Hid (frontN l m 0 = k) := Lib.hid (by rw [← hu.out]; exact HFK.out)
      have hkr := HKR.out nq
      go_loopw [] (fun wr => ∃ b : Nat, b ≤ k - k ∧ KRel w k b wr ∧ Hid (backN l m shift k b = backN l m shift k 0)) (fun wr => k - k - kOf (w.heap.size + 1) 1 wr)
      case atStart => exact ⟨0, by omega, hkr, Lib.hid rfl⟩
      case round =>
        obtain ⟨b, hb, hr2, hv⟩ := hrel
        clear HR hz e0
        have HR := Lib.hid hr2
        clear hr2
        have c0 := HR.out.c0
        have c1 := HR.out.c1
        have hz := HR.out.z1 1
        have hz00 := HR.out.z0 0
        have hz01 := HR.out.z0 1
        have hr0 := HR.out.r0
        have hr1 := HR.out.r1
        have wkb : IntKind.i64.wrap ((k : Int) + ((b : Nat) : Int)) = (k : Int) + (b : Int) := IntWalk.i64_in _ (by omega)
        have hb0 : b = 0 := by omega
        subst hb0
        clear hb wkb hv
        have HZ2 : Hid (backN l m shift k 0 = 0) := Lib.hid (backN_end (by rw [← HN.out]; omega))
        go_wp2_with fail
        refine bodyPost_ret (v := .agg #[.int .i64 (k : Int), .int .i64 0]) ?_ rfl ⟨by rw [HK.out, HZ2.out]; rfl, ?_⟩
        · simp [results, Tryz.results57, go_sem, hr0, hr1]
        · exact Below.setCell (Below.setCell HR.out.below (by simp) _) (by simp) _
end

section
open Go.RowKit Go.Shelf
attribute [local go_sem] Oper.semAt_some

/-- A row of pieces that came in, perhaps none, at any place of a block. -/
structure LInO (w : World) (b : Option Addr) (g o : Nat) (l : List (Nat × Nat × Nat)) : Prop where
  addr : l ≠ [] → b = some ⟨g, o, none⟩
  low : l ≠ [] → g < w.heap.size
  cells : l ≠ [] → PcsO w g o l
theorem unreachedO_gen (b : Option Addr) (g og c N : Nat) (l : List (Nat × Nat × Nat)) (place : Int) (hN : N = unrN l place 0) (w0 w : World) (hI : LInO w0 b g og l) (hB : Below w0.heap.size w0 w) (hl : ∀ x ∈ l, x.2.1 + x.2.2 ≤ 1048576) (hn : l.length ≤ 1048576) :
    Calls Tryz.prog 80 #[.slice b l.length c, .int .i64 place] w fun e w' => e = .returned (.int .i64 (N : Int)) ∧ Below w.heap.size w w' := by
  subst hN
  by_cases h : l = []
  · subst h
    rw [unrN_end (by simp)]
    exact unreached_none b c place w
  · have ha := hI.addr h
    subst ha
    exact unreached_o g og c l place hl hn w (Nat.lt_of_lt_of_le (hI.low h) hB.size) (fun j u hu => (hB.cell (p := ⟨g, og + j, none⟩) (hI.low h)).trans (hI.cells h j u hu))

set_option maxHeartbeats 4000000 in
set_option maxRecDepth 100000 in
theorem recutO_run (b : Option Addr) (g og cap : Nat) (t u ins : ByteArray) (a d : Nat) (L : List (Nat × Nat × Nat)) (stL : Nat × Bool × Nat) (w : World) (E : Env w) (hu : u.size ≤ 20000) (ht : t.size ≤ 20000) (hI : LInO w b g og L)
    (hai : a + ins.size ≤ 1048576) (hL : Steps t 0 false 0 L stL) (hLt : stL.1 = t.size) (hsp : ∀ i j : Nat, a + ins.size ≤ i → i ≤ u.size → (i : Int) = (j : Int) + ((u.size : Int) - (t.size : Int)) → j ≤ t.size → restB t j = restB u i) (hA : Agree t u a) (hn : L.length ≤ 1048576) (hc : L.length ≤ cap) :
    CallsIn Fence.wide 3 Tryz.prog 56 #[.string t, .slice b L.length cap, .agg #[.int .i64 (a : Int), .int .i64 (d : Int), .string ins], .string u] w (PiecesEnd u w) := by
  have hmf : ∀ (fn : Fn) (first cap : Array Value) (w : World), (Instr.makeFunc fn first cap).run Tryz.prog w = .ok (.func fn first cap) w := fun _ _ _ _ => rfl
  have hl : ∀ x ∈ L, x.2.1 + x.2.2 ≤ 1048576 := fun x hx => by
    have h1 := (steps_in L 0 false 0 stL hL x hx).2.1; have h2 := (steps_bounds L 0 false 0 stL hL (by omega)).2; omega
  refine callsIn_of_wp_marks Tryz.func56 rfl trivial ?_ rfl
  simp only [Tryz.ntmps56, List.size_toArray, List.length_cons, List.length_nil, Nat.reduceAdd, Nat.reduceSub, Array.replicate_succ,
     Array.replicate_zero, List.push_toArray, List.append_toArray, List.nil_append, List.cons_append]
  gi_wp2_with fail
  refine ⟨trivial, ?_⟩
  refine (callsIn_wide.2 (newCutter_any t _)).mono ?_
  rintro e w1 ⟨rfl, rfl⟩
  gi_wp2_with fail
  refine ⟨trivial, ?_⟩
  refine (callsIn_wide.2 (newCutter_any u _)).mono ?_
  rintro e w1 ⟨rfl, rfl⟩
  gi_wp2_with fail
  refine ⟨trivial, ?_⟩
  obtain ⟨N, hN⟩ : ∃ N, N = unrN L a 0 := ⟨_, rfl⟩
  refine (callsIn_wide.2 (unreachedO_gen b g og cap N L a hN w _ hI ?hB hl hn)).mono ?_
  case hB => exact (((((((((Below.refl _ w).alloc (Nat.le_refl _) _).alloc (by simp) _).alloc (by simp; omega) _).alloc (by simp; omega) _).alloc (by simp; omega) _).alloc (by simp; omega) _).alloc (by simp; omega) _).alloc (by simp; omega) _).alloc (by simp; omega) _
  rintro e w1 ⟨rfl, hb1⟩
  obtain ⟨e0, e1, e2, e3, e4, e5, e6, e7, e8, hz, hB⟩ := heap9 hb1
  clear hb1
  have hNL : N ≤ L.length := by rw [hN]; exact (unrN_spec L a L.length 0 (by omega) (by omega)).2.1
  have hPB := pre_both hL hA
  rw [← hN] at hPB
  simp only [Nat.add_assoc, Nat.reduceAdd]
  have hst : ∀ W2, W2 = w1.alloc (.cells #[.int .i64 (N : Int)] 3) → RcSt w w1.heap.size (.slice b L.length cap) a ins t u 0 false 0 0 false 0 N [] W2 := by
    intro W2 hW2
    have key : ∀ k o, w1.heap[k]? = some o → W2.heap[k]? = some o := fun k o h => by rw [hW2]; exact (Below.heap_alloc w1 _ k (Array.getElem?_eq_some_iff.1 h).1).trans h
    have en : W2.heap[w1.heap.size]? = some (.cells #[.int .i64 (N : Int)] 3) := by rw [hW2]; exact World.alloc_heap_new w1 _
    have hz2 : W2.heap.size = w1.heap.size + 1 := by rw [hW2]; simp
    exact ⟨⟨cell_at (key _ _ e0), cell_at (key _ _ e1), cell_at (key _ _ e1), cell_at (key _ _ e3), cell_at (key _ _ e4), cell_at (key _ _ e7), cell_at (key _ _ e8), frozen_at (key _ _ e3), frozen_at (key _ _ e4), by rw [hW2]; exact hB.alloc hB.size _, by omega, by omega⟩,
      ⟨⟨.slice none 0 0, cell_at (key _ _ e2), World.ownsRow_nil _ _ _ _⟩, frozen_at (key _ _ e2)⟩, ⟨cell_at en, frozen_at en⟩,
      ⟨cell_at (key _ _ e5), cell_at (key _ _ e5), cell_at (key _ _ e5), cell_at (key _ _ e5)⟩, fun o => frozen_at (key _ _ e5), ⟨cell_at (key _ _ e6), cell_at (key _ _ e6), cell_at (key _ _ e6), cell_at (key _ _ e6)⟩, fun o => frozen_at (key _ _ e6)⟩
  have hs2 := hst _ rfl
  have HST := Lib.hid hs2
  have q0 : (w1.alloc (.cells #[.int .i64 (N : Int)] 3)).cell? ⟨w.heap.size, 0, none⟩ = some (.slice b L.length cap) := hs2.fix.lbox
  have HN := Lib.hid hN; have HL := Lib.hid hL; have HB := Lib.hid hB; have HHL := Lib.hid hl
  obtain ⟨M, hM⟩ : ∃ M, M = L.take N := ⟨_, rfl⟩
  rw [← hM] at hPB
  have hMl : M.length = N := by rw [hM, List.length_take]; omega
  have HM := Lib.hid hM; have HPB := Lib.hid hPB; have HML := Lib.hid hMl
  clear hst hs2 e0 e1 e2 e3 e4 e5 e6 e7 e8 hN hM hPB hL hB hl hMl hA
  gi_wp2_with fail
  clear q0
  gi_loopw [33] (fun iv wr => ∃ k : Nat, k ≤ N ∧ iv = .int .i64 (k : Int) ∧ ∃ st st', Hid (Steps t 0 false 0 (M.take k) st) ∧ Hid (Steps u 0 false 0 (M.take k) st') ∧ Hid (RcSt w w1.heap.size (.slice b L.length cap) a ins t u st.1 st.2.1 st.2.2 st'.1 st'.2.1 st'.2.2 N (M.take k) wr)) (fun iv _ => N - (intOf iv).toNat)
  case atStart => exact ⟨0, by omega, rfl, (0, false, 0), (0, false, 0), Lib.hid rfl, Lib.hid rfl, HST⟩
  case round =>
    clear HST
    obtain ⟨k, hk, rfl, s, s', hs, hs', HS⟩ := hrel
    by_cases hlt : k < N
    · obtain ⟨x, hx⟩ : ∃ x, L[k]? = some x := ⟨_, List.getElem?_eq_getElem (by omega)⟩
      have hxM : M[k]? = some x := by rw [HM.out, List.getElem?_take_of_lt hlt]; exact hx
      have hne : L ≠ [] := by rintro rfl; simp at hx
      have hba := hI.addr hne
      subst hba
      have hglow := hI.low hne
      have hcell := hI.cells hne
      obtain ⟨sT, hsT, hsU⟩ := HPB.out
      have nT := steps_next hsT hs.out hxM
      have nU := steps_next hsU hs'.out hxM
      have hbd := next_bounds nT.2.1 nT.2.2.1
      have hbdU := next_bounds nU.2.1 nU.2.2.1
      have l0 : wr.cell? ⟨g, og + k * 3, none⟩ = some (.int .i64 (x.1 : Int)) := (HS.out.fix.below.cell (p := ⟨g, og + k * 3, none⟩) hglow).trans (hcell.c0 hx)
      have l1 : wr.cell? ⟨g, og + k * 3 + 1, none⟩ = some (.int .i64 (x.2.1 : Int)) := (HS.out.fix.below.cell (p := ⟨g, og + k * 3 + 1, none⟩) hglow).trans (hcell.c1 hx)
      have l2 : wr.cell? ⟨g, og + k * 3 + 2, none⟩ = some (.int .i64 (x.2.2 : Int)) := (HS.out.fix.below.cell (p := ⟨g, og + k * 3 + 2, none⟩) hglow).trans (hcell.c2 hx)
      have hp1 : ∀ o, RcSt w w1.heap.size (.slice (some ⟨g, og, none⟩) L.length cap) a ins t u s.1 s.2.1 s.2.2 s'.1 s'.2.1 s'.2.2 N (M.take k) (wr.alloc o) := fun o => HS.out.grow ((KeepS.refl _ _).alloc o)
      have HP1 := Lib.hid hp1
      have q7 : ∀ o, (wr.alloc o).cell? ⟨w.heap.size + 7, 0, none⟩ = some (.pointer (some ⟨w.heap.size + 5, 0, none⟩)) := fun o => (HP1.out o).fix.old
      have HX := Lib.hid hx; have HXM := Lib.hid hxM; have HT := Lib.hid nT; have HU := Lib.hid nU; have HBD := Lib.hid hbd; have HBU := Lib.hid hbdU
      have hlt' : (k : Int) < (N : Int) := by omega
      clear hp1 hx nT nU hbd hbdU hcell hxM hsT hsU
      gi_wp2_with fail
      refine ⟨trivial, ?_⟩
      obtain ⟨Wp, hWp⟩ : ∃ Wp, Wp = wr.alloc (.cells #[.int .i64 (x.1 : Int), .int .i64 (x.2.1 : Int), .int .i64 (x.2.2 : Int)] 59) := ⟨_, rfl⟩
      have hpn : Wp.heap[wr.heap.size]? = some (.cells #[.int .i64 (x.1 : Int), .int .i64 (x.2.1 : Int), .int .i64 (x.2.2 : Int)] 59) := by rw [hWp]; exact World.alloc_heap_new wr _
      have hpz : Wp.heap.size = wr.heap.size + 1 := by rw [hWp]; simp
      have hP1 : RcSt w w1.heap.size (.slice (some ⟨g, og, none⟩) L.length cap) a ins t u s.1 s.2.1 s.2.2 s'.1 s'.2.1 s'.2.2 N (M.take k) Wp := by rw [hWp]; exact HP1.out _
      rw [← hWp]
      clear q7 HP1 hWp l0 l1 l2
      have hzz := HS.out.fix.size; have hnbz := HS.out.fix.hnb
      have hc0 : s.2.2 ≤ 6000 := steps_count _ _ _ _ _ hs.out (by omega)
      have hc1 : s'.2.2 ≤ 6000 := steps_count _ _ _ _ _ hs'.out (by omega)
      have hpa := pass_any (w.heap.size + 5) s.1 s.2.2 x.1 x.2.1 x.2.2 t s.2.1 Wp (by omega) HBD.out.2.1 hc0 (by have := HBD.out.2.2.2; have := HT.out.1; omega) (by omega) hP1.co hP1.fo
      have HP1 := Lib.hid hP1
      clear hP1
      refine (callsIn_wide.2 hpa).mono ?_
      clear hpa
      intro e w2 hpp
      rw [PassPost, if_neg (by have := HT.out.2.2.2.1; exact this)] at hpp
      obtain ⟨rfl, hcut2, hfree2, hkb2⟩ := hpp
      have hP2 := HP1.out.passO hkb2 hcut2 hfree2
      have hpn2 : w2.heap[wr.heap.size]? = _ := (hkb2.block _ (by omega) (by omega)).trans hpn
      have q8 : w2.cell? ⟨w.heap.size + 8, 0, none⟩ = some (.pointer (some ⟨w.heap.size + 6, 0, none⟩)) := hP2.fix.now
      have d0 : w2.cell? ⟨wr.heap.size, 0, none⟩ = some (.int .i64 (x.1 : Int)) := cell_at hpn2
      have d1 : w2.cell? ⟨wr.heap.size, 1, none⟩ = some (.int .i64 (x.2.1 : Int)) := cell_at hpn2
      have d2 : w2.cell? ⟨wr.heap.size, 2, none⟩ = some (.int .i64 (x.2.2 : Int)) := cell_at hpn2
      have hz2 := hkb2.size
      have hpb := pass_any (w.heap.size + 6) s'.1 s'.2.2 x.1 x.2.1 x.2.2 u s'.2.1 w2 (by omega) HBU.out.2.1 hc1 (by have := HBU.out.2.2.2; have := HU.out.1; omega) (by omega) hP2.cn hP2.fn
      have HP2 := Lib.hid hP2; have HPB2 := Lib.hid hpb; have HPN2 := Lib.hid hpn2
      clear hP2 hpb hkb2 hcut2 hfree2 hpn hpn2 HP1
      gi_wp2_with fail
      refine ⟨trivial, ?_⟩
      refine (callsIn_wide.2 HPB2.out).mono ?_
      clear HPB2
      intro e w3 hpp
      rw [PassPost, if_neg (by have := HU.out.2.2.2.1; exact this)] at hpp
      obtain ⟨rfl, hcut3, hfree3, hkb3⟩ := hpp
      have hP3 := HP2.out.passN hkb3 hcut3 hfree3
      have hpn3 : w3.heap[wr.heap.size]? = _ := (hkb3.block _ (by omega) (by omega)).trans HPN2.out
      have hz3 := hkb3.size
      clear d0 d1 d2 q8 HPN2
      have d0 : w3.cell? ⟨wr.heap.size, 0, none⟩ = some (.int .i64 (x.1 : Int)) := cell_at hpn3
      have d1 : w3.cell? ⟨wr.heap.size, 1, none⟩ = some (.int .i64 (x.2.1 : Int)) := cell_at hpn3
      have d2 : w3.cell? ⟨wr.heap.size, 2, none⟩ = some (.int .i64 (x.2.2 : Int)) := cell_at hpn3
      obtain ⟨mv, hmv, hrow⟩ := hP3.row.row
      have hmf3 := hP3.row.f0
      have hMk : (M.take k).length = k := by rw [List.length_take]; have := HML.out; omega
      have R5 := Lib.hid hrow; have HP3 := Lib.hid hP3; have HMK := Lib.hid hMk
      have hlt5 := hrow.lt
      have HLT := Lib.hid hlt5
      obtain ⟨i0, hi, hz0, hz1', hz2'⟩ := info_parts infoP
      clear hP3 hkb3 hcut3 hfree3 hpn3 HP2 hrow hlt5 hMk
      have hnew : ∀ j y, (cellsP x)[j]? = some y → (w3.alloc (.cells #[.int .i64 (x.1 : Int), .int .i64 (x.2.1 : Int), .int .i64 (x.2.2 : Int)] 59)).cell? ((⟨w3.heap.size, 0, none⟩ : Addr).add j) = some y := by
        intro j y hj
        match j, hj with
        | 0, hj => simp [cellsP] at hj; subst hj; simp [Addr.add]
        | 1, hj => simp [cellsP] at hj; subst hj; simp [Addr.add]
        | 2, hj => simp [cellsP] at hj; subst hj; simp [Addr.add]
        | j + 3, hj => simp [cellsP] at hj
      have HNEW := Lib.hid hnew
      have hkk : ∀ o w7, (w3.alloc o).grownBy w7 mv.ownBlock → w7.heap[w.heap.size + 2]? = w3.heap[w.heap.size + 2]? := fun o w7 hg =>
        (hg.block _ (by simp; omega) (fun e => by have := (HLT.out _ e.symm).1; omega)).trans (Below.heap_alloc w3 o _ (by omega))
      have KK := Lib.hid hkk
      clear hkk hnew
      gi_wp2_with (first
        | (gi_at_builtin; go_loud (refine wpListIn_append_own _ rfl _ _ 23 rfl (w1.heap.size + 1) 59 i0 (.agg #[.int .i64 0, .int .i64 0, .int .i64 0]) 3 24 Tryz.underlying23 hi hz0 hz1' hz2' rfl (by decide) _ _ _ rfl (R5.out.alloc _) ⟨w3.heap.size, 0, none⟩ 1 1 (cellsP x) rfl rfl HNEW.out (by simp [cellsP, Value.oneCell']) (by unfold maxLen; have := HMK.out; omega) (by have := HMK.out; omega) (by simp; omega) ?_); intro v' w7 hown' hgrow _;
             obtain ⟨g', cap', rfl⟩ := ownsRow_succ hown';
             have c7 : w7.cell? ⟨w.heap.size + 2, 0, none⟩ = some mv := (World.cell?_of_block (w := w3) (a := ⟨w.heap.size + 2, 0, none⟩) (KK.out _ _ hgrow)).trans hmv;
             have f7 : w7.frozen? ⟨w.heap.size + 2, 0, none⟩ = false := (World.frozen?_of_block (w := w3) (a := ⟨w.heap.size + 2, 0, none⟩) (KK.out _ _ hgrow)).trans hmf3;
             have HOWN := Lib.hid hown'; have HG := Lib.hid hgrow; clear hown' hgrow))
      have hsn := HP3.out.snoc hmv R5.out HOWN.out HG.out
      have hfin := hsn.1
      rw [List.length_take] at hfin
      have htk : M.take (k + 1) = M.take k ++ [x] := by
        obtain ⟨h1, h2⟩ := List.getElem?_eq_some_iff.1 HXM.out
        rw [List.take_succ_eq_append_getElem h1, h2]
      have nT := HT.out.2.2.2.2
      have nU := HU.out.2.2.2.2
      rw [← HT.out.1] at nT
      rw [← HU.out.1] at nU
      refine ⟨⟨k + 1, by omega, by simp, _, _, Lib.hid nT, Lib.hid nU, Lib.hid ?_⟩, by simp only [intOf]; omega⟩
      rw [htk]
      exact hfin
    · have hkN : k = N := by omega
      subst hkN
      obtain ⟨wq, rfl⟩ : ∃ wq, wq = wr := ⟨_, rfl⟩
      have hMM : M.take k = M := by rw [← HML.out]; exact List.take_length
      rw [hMM] at hs hs' HS
      clear hlt hk HB hMM
      have wsub : IntKind.i64.wrap ((u.size : Int) - (t.size : Int)) = (u.size : Int) - (t.size : Int) := IntWalk.i64_in _ (by omega)
      have hS2 : ∀ o, RcSt w w1.heap.size (.slice b L.length cap) a ins t u s.1 s.2.1 s.2.2 s'.1 s'.2.1 s'.2.2 k M (wq.alloc o) := fun o => HS.out.grow ((KeepS.refl _ _).alloc o)
      have HS2 := Lib.hid hS2
      have q8 : ∀ o, (wq.alloc o).cell? ⟨w.heap.size + 8, 0, none⟩ = some (.pointer (some ⟨w.heap.size + 6, 0, none⟩)) := fun o => (HS2.out o).fix.now
      clear hS2
      gi_wp2_with fail
      refine ⟨trivial, ?_⟩
      refine (callsIn_wide.2 (pieces_any _ _)).mono ?_
      rintro e w2 ⟨rfl, rfl⟩
      gi_wp2_with fail
      refine range_own rfl (by omega) (gf := 58) (lb := #[.pointer (some ⟨wq.heap.size + 1, 0, none⟩)]) rfl trivial (enters_of Tryz.func58 (by kernel_rfl) rfl) ?_
      intro fn R _ hR
      have rs : R.state = .ready := by rw [hR]
      have rp : R.pending = none := by rw [hR]
      have rq : R.params = #[55] := by rw [hR]
      have rt := congrArg Loop.tmps hR
      have ra := congrArg Loop.assign hR
      have rb := congrArg Loop.body hR
      simp only at rt ra rb
      clear hR
      simp only [List.append_toArray, List.cons_append, List.nil_append]
      obtain ⟨W0, hW0⟩ : ∃ W0, W0 = ((((wq.alloc (.cells #[.int .i64 ((u.size : Int) - (t.size : Int))] 3)).alloc (.cells #[.pointer (some ⟨w.heap.size + 6, 0, none⟩)] 65)).alloc (.deferred (some []))).alloc (.loop R)) := ⟨_, rfl⟩
      simp only [World.size_alloc, Nat.add_assoc, Nat.reduceAdd]
      rw [← hW0]
      have hfin : RcSt w w1.heap.size (.slice b L.length cap) a ins t u s.1 s.2.1 s.2.2 s'.1 s'.2.1 s'.2.2 k M W0 ∧ RgFix wq.heap.size (w.heap.size + 6) ((u.size : Int) - (t.size : Int)) R W0 := by
        have hks : KeepS (fun _ => False) wq W0 := by rw [hW0]; exact ((((KeepS.refl _ _).alloc _).alloc _).alloc _).alloc _
        refine ⟨HS.out.grow hks, ?_⟩
        obtain ⟨f0, f1, f2, f3, f4⟩ := heap4 wq (.cells #[.int .i64 ((u.size : Int) - (t.size : Int))] 3) (.cells #[.pointer (some ⟨w.heap.size + 6, 0, none⟩)] 65) (.deferred (some [])) (.loop R)
        rw [← hW0] at f0 f1 f2 f3 f4
        exact ⟨f0, f1, f2, f3, by omega⟩
      obtain ⟨hS0, hR0⟩ := hfin
      have hzz := HS.out.fix.size; have hnbz := HS.out.fix.hnb
      have hc1 : s'.2.2 ≤ 6000 := steps_count _ _ _ _ _ hs'.out (by omega)
      have hi1 : s'.1 ≤ u.size := (steps_bounds _ _ _ _ _ hs'.out (by omega)).2
      have hkL : k ≤ L.length := hNL
      have hML : M = L.take k := HM.out
      refine (iter_stop 2 _ (w.heap.size + 6) (wq.heap.size + 1) u (by omega) (by omega) s'.1 s'.2.1 s'.2.2 (RcJ w w1.heap.size wq.heap.size (.slice b L.length cap) a ins t L M ((u.size : Int) - (t.size : Int)) R)
        (RcStop w w1.heap.size wq.heap.size (.slice b L.length cap) a ins t u L M ((u.size : Int) - (t.size : Int)) R s'.1 s'.2.1 s'.2.2) (fun _ _ _ h hk => h.keep6 (by omega) hk) (fun _ _ h => by obtain ⟨_, _, _, _, h3, _⟩ := h; exact E.below E.size h3.fix.below) ?hy W0 ?hw).mono ?_
      case hw =>
        exact ⟨hS0.cn, hS0.fn, cell_at hR0.box, by have := hR0.size; omega, by have := hR0.size; omega, hi1, hc1, ⟨k, s, hkL, by rw [← hML]; exact hs.out, by rw [List.append_nil]; exact hS0.s0, hR0⟩, rfl⟩
      case hy =>
        clear hS0 hR0 hW0 HS2 q8 hML
        intro pre x i op m W1 hj hst hcut hfree hi hm hbs hcbs
        obtain ⟨kk, st, hkk, hsk, H0, RG⟩ := hj
        obtain ⟨Rb, hRb⟩ : ∃ Rb : Loop, Rb = { R with state := .busy } := ⟨_, rfl⟩
        refine (show YieldAt _ _ _ _ _ _ (RcY w w1.heap.size wq.heap.size (.slice b L.length cap) a ins t u L M ((u.size : Int) - (t.size : Int)) R s'.1 s'.2.1 s'.2.2 pre x W1) from yield_own2 (R := R) hRb trivial RG.lp rs rp (by rw [rq]; rfl) ?_)
        have HRB := Lib.hid hRb
        clear hRb
        rw [ra, rt, rq]
        have RB := Lib.hid rb
        have HST2 := Lib.hid hst; have HSK := Lib.hid hsk; have HH0 := Lib.hid (H0.full hcut hfree); have HRG := Lib.hid RG
        have HL' := Lib.hid HL.out
        have HBX := Lib.hid RG.box
        clear ra rt rq rb rs rp hst hsk H0 RG hcut hfree E HML HN HL HHL hmf
        simp only [encP, List.zip_toArray, List.zip_cons_cons, List.zip_nil_right, List.foldl_toArray, List.foldl_cons, List.foldl_nil, List.setIfInBounds_toArray, List.set_cons_zero, List.set_cons_succ]
        gi_wp2_with fail
        have hzr := HRG.out.size
        refine ⟨(Below.heap_alloc W1 _ _ (by omega)).trans HRG.out.lp, ?_⟩
        rw [RB.out]
        clear RB
        obtain ⟨Wp, hWp⟩ : ∃ Wp, Wp = W1.alloc (.cells #[.int .i64 (x.1 : Int), .int .i64 (x.2.1 : Int), .int .i64 (x.2.2 : Int)] 59) := ⟨_, rfl⟩
        obtain ⟨W5, hW5⟩ : ∃ W5, W5 = Wp.putObj (wq.heap.size + 3) (.loop Rb) := ⟨_, rfl⟩
        rw [← hWp, ← hW5]
        have hkp : KeepS (fun _ => False) W1 Wp := by rw [hWp]; exact (KeepS.refl _ _).alloc _
        have hRp : RgFix wq.heap.size (w.heap.size + 6) ((u.size : Int) - (t.size : Int)) R Wp := HRG.out.keep hkp (fun _ e => e.elim)
        have hR5 : RgFix wq.heap.size (w.heap.size + 6) ((u.size : Int) - (t.size : Int)) Rb W5 := by rw [hW5]; exact hRp.turn
        have hS5 : RcSt w w1.heap.size (.slice b L.length cap) a ins t u st.1 st.2.1 st.2.2 i op m kk (M ++ pre) W5 := by
          rw [hW5]
          exact (HH0.out.grow hkp).keepH (S := fun q => q = wq.heap.size + 3) (KeepS.putObj (S := fun q => q = wq.heap.size + 3) (KeepS.refl _ _) rfl _) (fun q e => by subst e; exact ⟨by omega, hRp.notRow⟩)
        have hpz : Wp.heap.size = W1.heap.size + 1 := by rw [hWp]; simp
        have hz5 : W5.heap.size = W1.heap.size + 1 := by rw [hW5]; simp; exact hpz
        have hpn : W5.heap[W1.heap.size]? = some (.cells #[.int .i64 (x.1 : Int), .int .i64 (x.2.1 : Int), .int .i64 (x.2.2 : Int)] 59) := by
          rw [hW5, World.putObj_heap_other (by omega), hWp]; exact World.alloc_heap_new W1 _
        have hsame5 : W5.heap[w.heap.size + 6]? = W1.heap[w.heap.size + 6]? := by
          rw [hW5, World.putObj_heap_other (by omega), hWp]; exact Below.heap_alloc W1 _ _ (by omega)
        have hrd : ∀ pre', (M ++ pre').length ≤ (M ++ pre').length := fun _ => Nat.le_refl _
        have hlenP : (M ++ pre).length + 1 ≤ u.size := by
          have h1 := (steps_bounds _ _ _ _ _ HST2.out hi1).1
          have h2 := (steps_bounds _ _ _ _ _ hs'.out (by omega)).1
          simp only [List.length_append, List.length_cons, List.length_nil] at h1 h2 ⊢
          omega
        clear hW5 hWp hkp hRp hpz hrd
        have d0 : W5.cell? ⟨W1.heap.size, 0, none⟩ = some (.int .i64 (x.1 : Int)) := cell_at hpn
        have d1 : W5.cell? ⟨W1.heap.size, 1, none⟩ = some (.int .i64 (x.2.1 : Int)) := cell_at hpn
        have d2 : W5.cell? ⟨W1.heap.size, 2, none⟩ = some (.int .i64 (x.2.2 : Int)) := cell_at hpn
        obtain ⟨mv, hmv, hrow⟩ := hS5.row.row
        have hmf3 := hS5.row.f0
        have hz6 := hS5.fix.size
        have R5 := Lib.hid hrow; have HS5 := Lib.hid hS5; have HR5 := Lib.hid hR5; have HSM := Lib.hid hsame5; have HLP := Lib.hid hlenP; have HZ5 := Lib.hid hz5
        have HLT := Lib.hid hrow.lt
        obtain ⟨i0, hi', hz0, hz1', hz2'⟩ := info_parts infoP
        clear hrow hS5 hR5 hpn hsame5 hlenP
        have hnew : ∀ j y, (cellsP x)[j]? = some y → (W5.alloc (.cells #[.int .i64 (x.1 : Int), .int .i64 (x.2.1 : Int), .int .i64 (x.2.2 : Int)] 59)).cell? ((⟨W5.heap.size, 0, none⟩ : Addr).add j) = some y := by
          intro j y hj
          match j, hj with
          | 0, hj => simp [cellsP] at hj; subst hj; simp [Addr.add]
          | 1, hj => simp [cellsP] at hj; subst hj; simp [Addr.add]
          | 2, hj => simp [cellsP] at hj; subst hj; simp [Addr.add]
          | j + 3, hj => simp [cellsP] at hj
        have HNEW := Lib.hid hnew
        have hkk2 : ∀ o w7, (W5.alloc o).grownBy w7 mv.ownBlock → w7.heap[w.heap.size + 2]? = W5.heap[w.heap.size + 2]? := fun o w7 hg =>
          (hg.block _ (by simp; omega) (fun e => by have := (HLT.out _ e.symm).1; omega)).trans (Below.heap_alloc W5 o _ (by omega))
        have KK := Lib.hid hkk2
        clear hkk2 hnew
        gi_wp2_with (first
          | (gi_at_builtin; go_loud (refine wpListIn_append_own _ rfl _ _ 23 rfl (w1.heap.size + 1) 59 i0 (.agg #[.int .i64 0, .int .i64 0, .int .i64 0]) 3 24 Tryz.underlying23 hi' hz0 hz1' hz2' rfl (by decide) _ _ _ rfl (R5.out.alloc _) ⟨W5.heap.size, 0, none⟩ 1 1 (cellsP x) (by simp [go_sem]; done) rfl HNEW.out (by simp [cellsP, Value.oneCell']) (by unfold maxLen; have := HLP.out; omega) (by have := HLP.out; omega) (by simp; omega) ?_); intro v' w7 hown' hgrow _;
               obtain ⟨g', cap', rfl⟩ := ownsRow_succ hown';
               have c7 : w7.cell? ⟨w.heap.size + 2, 0, none⟩ = some mv := (World.cell?_of_block (w := W5) (a := ⟨w.heap.size + 2, 0, none⟩) (KK.out _ _ hgrow)).trans hmv;
               have f7 : w7.frozen? ⟨w.heap.size + 2, 0, none⟩ = false := (World.frozen?_of_block (w := W5) (a := ⟨w.heap.size + 2, 0, none⟩) (KK.out _ _ hgrow)).trans hmf3;
               have HOWN := Lib.hid hown'; have HG := Lib.hid hgrow; clear hown' hgrow))
        have hsn := HS5.out.snoc hmv R5.out HOWN.out HG.out
        rw [List.length_append] at hsn
        obtain ⟨W8, hW8⟩ : ∃ W8, W8 = w7.setCell ⟨w.heap.size + 2, 0, none⟩ (.slice (some ⟨g', 0, none⟩) (M.length + pre.length + 1) cap') := ⟨_, rfl⟩
        rw [← hW8] at hsn ⊢
        have hown8 := HR5.out.own R5.out
        have hI8 : RcI w w1.heap.size wq.heap.size (.slice b L.length cap) a ins t u L (M ++ pre ++ [x]) ((u.size : Int) - (t.size : Int)) Rb i op m W1 kk st W8 := by
          refine ⟨hkk, HSK.out, hsn.1, HR5.out.keep hsn.2 ?_, ?_, by have := hsn.2.size; have := HZ5.out; omega⟩
          · rintro q (e | e)
            · omega
            · exact hown8 q e
          · refine (hsn.2.block _ (by omega) ?_).trans HSM.out
            rintro (e | e)
            · omega
            · have := (HLT.out _ e).1; omega
        have HI8 := Lib.hid hI8
        clear hsn hW8 hown8 hI8 hmv hmf3 R5 HS5 HR5 HSM HLT HNEW KK c7 f7 HOWN HG d0 d1 d2 i0 hi' hz0 hz1' hz2' HRG HH0 hz5 HZ5
        gi_loopw [] (fun wv => ∃ kk st, Hid (RcI w w1.heap.size wq.heap.size (.slice b L.length cap) a ins t u L (M ++ pre ++ [x]) ((u.size : Int) - (t.size : Int)) Rb i op m W1 kk st wv)) (fun wv => L.length - nOf w1.heap.size wv)
        case atStart => exact ⟨kk, st, HI8⟩
        case round =>
          obtain ⟨wv, rfl⟩ : ∃ wv, wv = wr := ⟨_, rfl⟩
          clear HI8 HSK hkk
          obtain ⟨kv, sv, HI⟩ := hrel
          obtain ⟨hkv, hsv, hS, hR, _, _⟩ := HI.out
          have hszb := (steps_bounds _ _ _ _ _ hsv (by omega)).2
          have qn : wv.cell? ⟨w1.heap.size, 0, none⟩ = some (.int .i64 (kv : Int)) := hS.nbox.cell
          have qnf : wv.frozen? ⟨w1.heap.size, 0, none⟩ = false := hS.nbox.fr
          have HIN := Lib.hid qn
          have ql : wv.cell? ⟨w.heap.size, 0, none⟩ = some (.slice b L.length cap) := hS.fix.lbox
          have qo : wv.cell? ⟨w.heap.size + 7, 0, none⟩ = some (.pointer (some ⟨w.heap.size + 5, 0, none⟩)) := hS.fix.old
          have qw : wv.cell? ⟨w.heap.size + 8, 0, none⟩ = some (.pointer (some ⟨w.heap.size + 6, 0, none⟩)) := hS.fix.now
          have qoa : wv.cell? ⟨w.heap.size + 5, 1, none⟩ = some (.int .i64 (sv.1 : Int)) := hS.co.at'
          have qwa : wv.cell? ⟨w.heap.size + 6, 1, none⟩ = some (.int .i64 (i : Int)) := hS.cn.at'
          have qsh : wv.cell? ⟨wq.heap.size, 0, none⟩ = some (.int .i64 ((u.size : Int) - (t.size : Int))) := cell_at hR.sh
          have qop : wv.cell? ⟨w.heap.size + 5, 2, none⟩ = some (.bool sv.2.1) := hS.co.op
          have qwp : wv.cell? ⟨w.heap.size + 6, 2, none⟩ = some (.bool op) := hS.cn.op
          have qsa : wv.cell? ⟨w.heap.size + 1, 0, none⟩ = some (.int .i64 (a : Int)) := hS.fix.sat
          have qsi : wv.cell? ⟨w.heap.size + 1, 2, none⟩ = some (.string ins) := hS.fix.sins
          have wad : IntKind.i64.wrap ((sv.1 : Int) + ((u.size : Int) - (t.size : Int))) = (sv.1 : Int) + ((u.size : Int) - (t.size : Int)) := IntWalk.i64_in _ (by omega)
          clear hsv hS hR
          by_cases hlt : kv < L.length
          · have hlt' : (kv : Int) < (L.length : Int) := by omega
            by_cases hgo : (sv.1 : Int) + ((u.size : Int) - (t.size : Int)) < (i : Int)
            · gi_wp2_with fail
              refine region_tail_round 18 (by kernel_rfl) (by kernel_rfl) (by kernel_rfl) ?_
              simp only [List.take_succ_cons, List.take_zero, List.drop_succ_cons, List.drop_zero]
              obtain ⟨Wd, hWd⟩ : ∃ Wd, Wd = wv.drew := ⟨_, rfl⟩
              rw [← hWd]
              have e0 : ∀ p, Wd.cell? p = wv.cell? p := fun p => by rw [hWd]; rfl
              rw [← e0] at qn ql qo qw qoa qwa qsh
              have HWD := Lib.hid hWd
              clear hWd e0
              repeat still_step
              refine wpStill_nil ?_
              gi_wp2_with fail
              obtain ⟨x', hx'⟩ : ∃ x', L[kv]? = some x' := ⟨_, List.getElem?_eq_getElem hlt⟩
              have hne : L ≠ [] := by rintro rfl; simp at hx'
              have hba := hI.addr hne
              subst hba
              have hglow := hI.low hne
              have hcell := hI.cells hne
              have hID : RcI w w1.heap.size wq.heap.size (.slice (some ⟨g, og, none⟩) L.length cap) a ins t u L (M ++ pre ++ [x]) ((u.size : Int) - (t.size : Int)) Rb i op m W1 kv sv Wd := by
                rw [HWD.out]
                exact HI.out.grow (by have := HI.out.2.2.1.fix.size; omega) ((KeepS.refl _ _).drew 1)
              obtain ⟨Wd2, hWd2⟩ : ∃ Wd2, Wd2 = Wd.drew := ⟨_, rfl⟩
              have hID2 : RcI w w1.heap.size wq.heap.size (.slice (some ⟨g, og, none⟩) L.length cap) a ins t u L (M ++ pre ++ [x]) ((u.size : Int) - (t.size : Int)) Rb i op m W1 kv sv Wd2 := by
                rw [hWd2]
                exact hID.grow (by have := hID.2.2.1.fix.size; omega) ((KeepS.refl _ _).drew 1)
              have l0 : Wd2.cell? ⟨g, og + kv * 3, none⟩ = some (.int .i64 (x'.1 : Int)) := (hID2.2.2.1.fix.below.cell (p := ⟨g, og + kv * 3, none⟩) hglow).trans (hcell.c0 hx')
              have l1 : Wd2.cell? ⟨g, og + kv * 3 + 1, none⟩ = some (.int .i64 (x'.2.1 : Int)) := (hID2.2.2.1.fix.below.cell (p := ⟨g, og + kv * 3 + 1, none⟩) hglow).trans (hcell.c1 hx')
              have l2 : Wd2.cell? ⟨g, og + kv * 3 + 2, none⟩ = some (.int .i64 (x'.2.2 : Int)) := (hID2.2.2.1.fix.below.cell (p := ⟨g, og + kv * 3 + 2, none⟩) hglow).trans (hcell.c2 hx')
              have e2 : ∀ p, Wd2.cell? p = Wd.cell? p := fun p => by rw [hWd2]; rfl
              rw [← e2] at qn ql qo
              have nT := steps_next HL'.out hID2.2.1 hx'
              have hbd := next_bounds nT.2.1 nT.2.2.1
              have hc0 : sv.2.2 ≤ 6000 := steps_count _ _ _ _ _ hID2.2.1 (by omega)
              have hpa := pass_any (w.heap.size + 5) sv.1 sv.2.2 x'.1 x'.2.1 x'.2.2 t sv.2.1 Wd2 (by have := hID2.2.2.1.fix.size; omega) hbd.2.1 hc0 (by have := hbd.2.2.2; have := nT.1; omega) (by omega) hID2.2.2.1.co hID2.2.2.1.fo
              have HID2 := Lib.hid hID2; have HT' := Lib.hid nT; have HPA := Lib.hid hpa; have HX' := Lib.hid hx'
              clear HI HWD hID hID2 nT hbd hpa hx' hcell qw qoa qwa qsh qop qwp qsa qsi
              refine region_tail_round 5 (by kernel_rfl) (by kernel_rfl) (by kernel_rfl) ?_
              simp only [List.take_succ_cons, List.take_zero, List.drop_succ_cons, List.drop_zero]
              rw [← hWd2]
              clear hWd2 e2
              repeat still_step
              refine wpStill_nil ?_
              gi_wp2_with fail
              refine ⟨trivial, ?_⟩
              refine CallsIn.mono (F := Fence.wide) (callsIn_wide.2 HPA.out) ?_
              clear HPA
              intro e w3 hpp
              rw [PassPost, if_neg (by have := HT'.out.2.2.2.1; exact this)] at hpp
              obtain ⟨rfl, hcut2, hfree2, hkb2⟩ := hpp
              have nT := HT'.out.2.2.2.2
              rw [← HT'.out.1] at nT
              have hpp := HID2.out.pass (by omega) hkb2 (by omega) nT hcut2 hfree2
              have HPP := Lib.hid hpp.2
              clear l0 l1 l2 qn ql qo qnf
              have qn : w3.cell? ⟨w1.heap.size, 0, none⟩ = some (.int .i64 (kv : Int)) := hpp.1.cell
              have qnf : w3.frozen? ⟨w1.heap.size, 0, none⟩ = false := hpp.1.fr
              have wn : IntKind.i64.wrap ((kv : Int) + 1) = (kv : Int) + 1 := IntWalk.i64_in _ (by omega)
              have hno := nOf_eq HPP.out.2.2.1.nbox.cell
              have hno0 := nOf_eq HID2.out.2.2.1.nbox.cell
              have HNO := Lib.hid hno
              have HNW := Lib.hid (nOf_eq HIN.out)
              clear hpp hkb2 hcut2 hfree2 nT hno hno0 HID2
              gi_wp2_with fail
              refine ⟨⟨_, _, HPP⟩, ?_⟩
              rw [HNO.out, HNW.out]; omega
            · have hgo' : ((sv.1 : Int) + ((u.size : Int) - (t.size : Int)) < (i : Int)) = False := by simp; omega
              gi_wp2_with fail
              refine region_quiet_round rfl (by kernel_rfl) (by kernel_rfl) (by kernel_rfl) ?_
              repeat (gi_big_quiet_step (fail))
              refine wpQuietIn_nil ?_
              intro _ hw'
              obtain ⟨nq, hw''⟩ := hw'
              subst hw''
              gi_wp2_with fail
              obtain ⟨Wd2, hWd2⟩ : ∃ Wd2, Wd2 = wv.drewN nq := ⟨_, rfl⟩
              have hID2 : RcI w w1.heap.size wq.heap.size (.slice b L.length cap) a ins t u L (M ++ pre ++ [x]) ((u.size : Int) - (t.size : Int)) Rb i op m W1 kv sv Wd2 := by
                rw [hWd2]
                exact HI.out.grow (by have := HI.out.2.2.1.fix.size; omega) ((KeepS.refl _ _).drew nq)
              have HID2 := Lib.hid hID2
              clear qn ql qo qw qoa qwa qsh qop qwp qsa qsi qnf wad HI
              have qo : Wd2.cell? ⟨w.heap.size + 7, 0, none⟩ = some (.pointer (some ⟨w.heap.size + 5, 0, none⟩)) := hID2.2.2.1.fix.old
              have qw : Wd2.cell? ⟨w.heap.size + 8, 0, none⟩ = some (.pointer (some ⟨w.heap.size + 6, 0, none⟩)) := hID2.2.2.1.fix.now
              have qoa : Wd2.cell? ⟨w.heap.size + 5, 1, none⟩ = some (.int .i64 (sv.1 : Int)) := hID2.2.2.1.co.at'
              have qwa : Wd2.cell? ⟨w.heap.size + 6, 1, none⟩ = some (.int .i64 (i : Int)) := hID2.2.2.1.cn.at'
              have qsh : Wd2.cell? ⟨wq.heap.size, 0, none⟩ = some (.int .i64 ((u.size : Int) - (t.size : Int))) := cell_at hID2.2.2.2.1.sh
              have qop : Wd2.cell? ⟨w.heap.size + 5, 2, none⟩ = some (.bool sv.2.1) := hID2.2.2.1.co.op
              have qwp : Wd2.cell? ⟨w.heap.size + 6, 2, none⟩ = some (.bool op) := hID2.2.2.1.cn.op
              have qsa : Wd2.cell? ⟨w.heap.size + 1, 0, none⟩ = some (.int .i64 (a : Int)) := hID2.2.2.1.fix.sat
              have qsi : Wd2.cell? ⟨w.heap.size + 1, 2, none⟩ = some (.string ins) := hID2.2.2.1.fix.sins
              have wad : IntKind.i64.wrap ((sv.1 : Int) + ((u.size : Int) - (t.size : Int))) = (sv.1 : Int) + ((u.size : Int) - (t.size : Int)) := IntWalk.i64_in _ (by omega)
              have wai : IntKind.i64.wrap ((a : Int) + (ins.size : Int)) = (a : Int) + (ins.size : Int) := IntWalk.i64_in _ (by omega)
              clear hID2
              rw [← hWd2]
              clear hWd2
              by_cases c1 : a + ins.size ≤ i
              · have c1' : (a : Int) + (ins.size : Int) ≤ (i : Int) := by omega
                by_cases c2 : (i : Int) = (sv.1 : Int) + ((u.size : Int) - (t.size : Int))
                · have c2' : ((i : Int) == (sv.1 : Int) + ((u.size : Int) - (t.size : Int))) = true := by rw [beq_iff_eq]; exact c2
                  have C2 := Lib.hid c2
                  clear c2
                  by_cases c3 : op = sv.2.1
                  · have c3' : (op == sv.2.1) = true := by rw [beq_iff_eq]; exact c3
                    have C3 := Lib.hid c3
                    clear c3
                    refine region_quiet_round rfl (by kernel_rfl) (by kernel_rfl) (by kernel_rfl) ?_
                    repeat (gi_big_quiet_step (fail))
                    refine wpQuietIn_nil ?_
                    intro _ hw'
                    obtain ⟨nq, hw''⟩ := hw'
                    subst hw''
                    gi_wp2_with fail
                    have hfin := (HID2.out.grow (by have := HID2.out.2.2.1.fix.size; omega) ((KeepS.refl _ _).drew nq)).stop (R := R) (i0 := s'.1) (op0 := s'.2.1) (n0 := s'.2.2) (by omega) HST2.out c1 C2.out C3.out
                    exact ⟨hfin.1, Or.inr ⟨2, rfl, hfin.2⟩⟩
                  · have c3' : (op == sv.2.1) = false := by rw [beq_eq_false_iff_ne]; exact c3
                    clear c3
                    refine region_quiet_round rfl (by kernel_rfl) (by kernel_rfl) (by kernel_rfl) ?_
                    repeat (gi_big_quiet_step (fail))
                    refine wpQuietIn_nil ?_
                    intro _ hw'
                    obtain ⟨nq, hw''⟩ := hw'
                    subst hw''
                    gi_wp2_with fail
                    have hfin := (HID2.out.grow (by have := HID2.out.2.2.1.fix.size; omega) ((KeepS.refl _ _).drew nq)).go (R := R) (by omega) HBX.out
                    exact ⟨hfin.1, Or.inl ⟨rfl, hfin.2⟩⟩
                · have c2' : ((i : Int) == (sv.1 : Int) + ((u.size : Int) - (t.size : Int))) = false := by rw [beq_eq_false_iff_ne]; exact c2
                  clear c2
                  refine region_quiet_round rfl (by kernel_rfl) (by kernel_rfl) (by kernel_rfl) ?_
                  repeat (gi_big_quiet_step (fail))
                  refine wpQuietIn_nil ?_
                  intro _ hw'
                  obtain ⟨nq, hw''⟩ := hw'
                  subst hw''
                  gi_wp2_with fail
                  have hfin := (HID2.out.grow (by have := HID2.out.2.2.1.fix.size; omega) ((KeepS.refl _ _).drew nq)).go (R := R) (by omega) HBX.out
                  exact ⟨hfin.1, Or.inl ⟨rfl, hfin.2⟩⟩
              · have c1' : ((a : Int) + (ins.size : Int) ≤ (i : Int)) = False := by simp; omega
                refine region_quiet_round rfl (by kernel_rfl) (by kernel_rfl) (by kernel_rfl) ?_
                repeat (gi_big_quiet_step (fail))
                refine wpQuietIn_nil ?_
                intro _ hw'
                obtain ⟨nq, hw''⟩ := hw'
                subst hw''
                gi_wp2_with fail
                have hfin := (HID2.out.grow (by have := HID2.out.2.2.1.fix.size; omega) ((KeepS.refl _ _).drew nq)).go (R := R) (by omega) HBX.out
                exact ⟨hfin.1, Or.inl ⟨rfl, hfin.2⟩⟩
          · have hlt' : ((kv : Int) < (L.length : Int)) = False := by simp; omega
            gi_wp2_with fail
            refine region_quiet_round rfl (by kernel_rfl) (by kernel_rfl) (by kernel_rfl) ?_
            repeat (gi_big_quiet_step (fail))
            refine wpQuietIn_nil ?_
            intro _ hw'
            obtain ⟨nq, hw''⟩ := hw'
            subst hw''
            gi_wp2_with fail
            obtain ⟨Wd2, hWd2⟩ : ∃ Wd2, Wd2 = wv.drewN nq := ⟨_, rfl⟩
            have hID2 : RcI w w1.heap.size wq.heap.size (.slice b L.length cap) a ins t u L (M ++ pre ++ [x]) ((u.size : Int) - (t.size : Int)) Rb i op m W1 kv sv Wd2 := by
              rw [hWd2]
              exact HI.out.grow (by have := HI.out.2.2.1.fix.size; omega) ((KeepS.refl _ _).drew nq)
            have HID2 := Lib.hid hID2
            clear qn ql qo qw qoa qwa qsh qop qwp qsa qsi qnf wad HI
            have qo : Wd2.cell? ⟨w.heap.size + 7, 0, none⟩ = some (.pointer (some ⟨w.heap.size + 5, 0, none⟩)) := hID2.2.2.1.fix.old
            have qw : Wd2.cell? ⟨w.heap.size + 8, 0, none⟩ = some (.pointer (some ⟨w.heap.size + 6, 0, none⟩)) := hID2.2.2.1.fix.now
            have qoa : Wd2.cell? ⟨w.heap.size + 5, 1, none⟩ = some (.int .i64 (sv.1 : Int)) := hID2.2.2.1.co.at'
            have qwa : Wd2.cell? ⟨w.heap.size + 6, 1, none⟩ = some (.int .i64 (i : Int)) := hID2.2.2.1.cn.at'
            have qsh : Wd2.cell? ⟨wq.heap.size, 0, none⟩ = some (.int .i64 ((u.size : Int) - (t.size : Int))) := cell_at hID2.2.2.2.1.sh
            have qop : Wd2.cell? ⟨w.heap.size + 5, 2, none⟩ = some (.bool sv.2.1) := hID2.2.2.1.co.op
            have qwp : Wd2.cell? ⟨w.heap.size + 6, 2, none⟩ = some (.bool op) := hID2.2.2.1.cn.op
            have qsa : Wd2.cell? ⟨w.heap.size + 1, 0, none⟩ = some (.int .i64 (a : Int)) := hID2.2.2.1.fix.sat
            have qsi : Wd2.cell? ⟨w.heap.size + 1, 2, none⟩ = some (.string ins) := hID2.2.2.1.fix.sins
            have wad : IntKind.i64.wrap ((sv.1 : Int) + ((u.size : Int) - (t.size : Int))) = (sv.1 : Int) + ((u.size : Int) - (t.size : Int)) := IntWalk.i64_in _ (by omega)
            have wai : IntKind.i64.wrap ((a : Int) + (ins.size : Int)) = (a : Int) + (ins.size : Int) := IntWalk.i64_in _ (by omega)
            clear hID2
            rw [← hWd2]
            clear hWd2
            by_cases c1 : a + ins.size ≤ i
            · have c1' : (a : Int) + (ins.size : Int) ≤ (i : Int) := by omega
              by_cases c2 : (i : Int) = (sv.1 : Int) + ((u.size : Int) - (t.size : Int))
              · have c2' : ((i : Int) == (sv.1 : Int) + ((u.size : Int) - (t.size : Int))) = true := by rw [beq_iff_eq]; exact c2
                have C2 := Lib.hid c2
                clear c2
                by_cases c3 : op = sv.2.1
                · have c3' : (op == sv.2.1) = true := by rw [beq_iff_eq]; exact c3
                  have C3 := Lib.hid c3
                  clear c3
                  refine region_quiet_round rfl (by kernel_rfl) (by kernel_rfl) (by kernel_rfl) ?_
                  repeat (gi_big_quiet_step (fail))
                  refine wpQuietIn_nil ?_
                  intro _ hw'
                  obtain ⟨nq, hw''⟩ := hw'
                  subst hw''
                  gi_wp2_with fail
                  have hfin := (HID2.out.grow (by have := HID2.out.2.2.1.fix.size; omega) ((KeepS.refl _ _).drew nq)).stop (R := R) (i0 := s'.1) (op0 := s'.2.1) (n0 := s'.2.2) (by omega) HST2.out c1 C2.out C3.out
                  exact ⟨hfin.1, Or.inr ⟨2, rfl, hfin.2⟩⟩
                · have c3' : (op == sv.2.1) = false := by rw [beq_eq_false_iff_ne]; exact c3
                  clear c3
                  refine region_quiet_round rfl (by kernel_rfl) (by kernel_rfl) (by kernel_rfl) ?_
                  repeat (gi_big_quiet_step (fail))
                  refine wpQuietIn_nil ?_
                  intro _ hw'
                  obtain ⟨nq, hw''⟩ := hw'
                  subst hw''
                  gi_wp2_with fail
                  have hfin := (HID2.out.grow (by have := HID2.out.2.2.1.fix.size; omega) ((KeepS.refl _ _).drew nq)).go (R := R) (by omega) HBX.out
                  exact ⟨hfin.1, Or.inl ⟨rfl, hfin.2⟩⟩
              · have c2' : ((i : Int) == (sv.1 : Int) + ((u.size : Int) - (t.size : Int))) = false := by rw [beq_eq_false_iff_ne]; exact c2
                clear c2
                refine region_quiet_round rfl (by kernel_rfl) (by kernel_rfl) (by kernel_rfl) ?_
                repeat (gi_big_quiet_step (fail))
                refine wpQuietIn_nil ?_
                intro _ hw'
                obtain ⟨nq, hw''⟩ := hw'
                subst hw''
                gi_wp2_with fail
                have hfin := (HID2.out.grow (by have := HID2.out.2.2.1.fix.size; omega) ((KeepS.refl _ _).drew nq)).go (R := R) (by omega) HBX.out
                exact ⟨hfin.1, Or.inl ⟨rfl, hfin.2⟩⟩
            · have c1' : ((a : Int) + (ins.size : Int) ≤ (i : Int)) = False := by simp; omega
              refine region_quiet_round rfl (by kernel_rfl) (by kernel_rfl) (by kernel_rfl) ?_
              repeat (gi_big_quiet_step (fail))
              refine wpQuietIn_nil ?_
              intro _ hw'
              obtain ⟨nq, hw''⟩ := hw'
              subst hw''
              gi_wp2_with fail
              have hfin := (HID2.out.grow (by have := HID2.out.2.2.1.fix.size; omega) ((KeepS.refl _ _).drew nq)).go (R := R) (by omega) HBX.out
              exact ⟨hfin.1, Or.inl ⟨rfl, hfin.2⟩⟩
      have hres : ∀ tm : Array Value, tm[8]? = some (.pointer (some ⟨w.heap.size + 2, 0, none⟩)) → tm[9]? = some (.pointer (some ⟨w.heap.size + 3, 0, none⟩)) → tm[10]? = some (.pointer (some ⟨w.heap.size + 4, 0, none⟩)) → ReadsRc (w.heap.size + 2) tm := by
        intro tm t8 t9 t10 W a n c x y h0 h1 h2
        simp [results, Tryz.results56, go_sem, t8, t9, t10, h0, h1, h2]
      have HRES := Lib.hid hres
      have HRS := Lib.hid rs
      have hnH : w1.heap.size < wq.heap.size := by omega
      clear hres hS0 hR0 hW0 HS2 q8 ra rb rt rq wsub
      intro e W' hend
      have hcases : (∃ pre i op m kk st, e = .returned (.tuple #[]) ∧ Steps u s'.1 s'.2.1 s'.2.2 pre (i, op, m) ∧ kk ≤ L.length ∧ Steps t 0 false 0 (L.take kk) st ∧ RcSt w w1.heap.size (.slice b L.length cap) a ins t u st.1 st.2.1 st.2.2 i op m kk (M ++ pre) W' ∧
            (∃ Rx, RgFix wq.heap.size (w.heap.size + 6) ((u.size : Int) - (t.size : Int)) Rx W' ∧ Rx.state ≠ .busy ∧ (Rx.pending = none ∨ Rx.pending = some (.exit 2))) ∧ (i = u.size ∨ (a + ins.size ≤ i ∧ (i : Int) = (st.1 : Int) + ((u.size : Int) - (t.size : Int)) ∧ op = st.2.1))) ∨
          (∃ pre i op m c, e = refusedEnd i c ∧ Steps u s'.1 s'.2.1 s'.2.2 pre (i, op, m) ∧ i < u.size ∧ (nextR u i op = .error c ∨ (∃ p, nextR u i op = .ok p ∧ isTok p.1 = true ∧ m = 6000 ∧ c = 2)) ∧ RcJ w w1.heap.size wq.heap.size (.slice b L.length cap) a ins t L M ((u.size : Int) - (t.size : Int)) R pre W') := by
        rcases hend with ⟨he, pre, op, m, hst, hcut, hfree, kk, st, h1, h2, h3, h4⟩ | ⟨he, pre, i, op, m, kk, st, hst, h1, h2, h3, h4, h5⟩ | ⟨pre, i, op, m, c, he, h1, h2, h3, h4⟩
        · exact .inl ⟨pre, _, op, m, kk, st, he, hst, h1, h2, h3.full hcut hfree, ⟨R, h4, by rw [rs]; simp, .inl rp⟩, .inl rfl⟩
        · exact .inl ⟨pre, _, op, m, kk, st, he, hst, h1, h2, h3, ⟨doneL R 2, h4, by simp [doneL], .inr rfl⟩, .inr h5⟩
        · exact .inr ⟨pre, i, op, m, c, he, h1, h2, h3, h4⟩
      clear hend
      rcases hcases with ⟨pre, i, op, m, kk, st, rfl, hst, hkk, hsk, hS, ⟨Rx, hRx, hRb, hRp⟩, hi⟩ | ⟨pre, i, op, m, c, rfl, hst, hiu, hbad, kk, st, hkk, hsk, hS0, hRg⟩
      rotate_left
      · have hcb := cutAll_bad (steps_append M pre 0 false 0 _ _ hs'.out hst) hiu hbad
        have hr : piecesR u = ([], i, c) := by simp [piecesR, hcb, show ¬ 20000 < u.size by omega]
        simp only [refusedEnd, rangePost, Exit.inBlock, Exit.then]
        exact rleave_no u hS0 hRg hnH (i, c) hr _ (HRES.out _ (by simp) (by simp) (by simp))
      · obtain ⟨W4, hW4⟩ : ∃ W4, W4 = W'.putObj (wq.heap.size + 3) (.loop { Rx with state := .exhausted }) := ⟨_, rfl⟩
        have hR4 : RgFix wq.heap.size (w.heap.size + 6) ((u.size : Int) - (t.size : Int)) { Rx with state := .exhausted } W4 := by rw [hW4]; exact hRx.turn
        have hS4 : RcSt w w1.heap.size (.slice b L.length cap) a ins t u st.1 st.2.1 st.2.2 i op m kk (M ++ pre) W4 := by
          rw [hW4]
          exact hS.keepH (S := fun q => q = wq.heap.size + 3) (KeepS.putObj (S := fun q => q = wq.heap.size + 3) (KeepS.refl _ _) rfl _) (fun q e => by subst e; exact ⟨by omega, hRx.notRow⟩)
        refine ⟨Rx.pending, W4, by rw [hW4]; exact run_endLoop (P := Tryz.prog) hRx.lp hRb, ?_⟩
        have hdn := done_q (w.heap.size + 6) i u W4 hS4.cn.text hS4.cn.at'
        have HDN := Lib.hid hdn; have HS4 := Lib.hid hS4; have HR4 := Lib.hid hR4
        have q8 : W4.cell? ⟨w.heap.size + 8, 0, none⟩ = some (.pointer (some ⟨w.heap.size + 6, 0, none⟩)) := hS4.fix.now
        clear hW4 hR4 hS4 hdn hRx hRb hS
        rcases hRp with hRp | hRp
        all_goals
          rw [hRp]
          clear hRp
          gi_wp2_with fail
          refine ⟨trivial, ?_⟩
          refine (callsIn_wide.2 HDN.out).mono ?_
          clear HDN q8
          rintro e w9 ⟨rfl, nd, hnd⟩
          have hS9 : RcSt w w1.heap.size (.slice b L.length cap) a ins t u st.1 st.2.1 st.2.2 i op m kk (M ++ pre) w9 := by rw [hnd]; exact HS4.out.grow ((KeepS.refl _ _).drew nd)
          have hR9 : RgFix wq.heap.size (w.heap.size + 6) ((u.size : Int) - (t.size : Int)) { Rx with state := .exhausted } w9 := by rw [hnd]; exact HR4.out.keep ((KeepS.refl (fun _ => False) _).drew nd) (fun _ e => e.elim)
          have hst0 := steps_append M pre 0 false 0 _ _ hs'.out hst
          have hbu := (steps_bounds _ _ _ _ _ hst0 (by omega)).2
          have hbt := (steps_bounds _ _ _ _ _ hsk (by omega)).2
          obtain ⟨mv, hmv, hrow⟩ := hS9.row.row
          obtain ⟨b0, n0, c0, rfl⟩ : ∃ a n c, mv = .slice a n c := by
            rcases hrow.2 with ⟨rfl, _⟩ | ⟨g, cap, cur, rfl, _⟩
            · exact ⟨_, _, _, rfl⟩
            · exact ⟨_, _, _, rfl⟩
          have hc1x := hS9.fix.c1; have hc2x := hS9.fix.c2; have hf0 := hS9.row.f0; have hf1 := hS9.fix.f1; have hf2 := hS9.fix.f2
          have HS9 := Lib.hid hS9; have HR9 := Lib.hid hR9
          clear hnd HS4 HR4 hS9 hR9
          by_cases hd : u.size ≤ i
          · have hdu : i = u.size := by omega
            have hr : piecesR u = (M ++ pre, 0, 0) := by
              rw [hdu] at hst0
              simp [piecesR, cutAll_done hst0, show ¬ 20000 < u.size by omega]
            have HRR := Lib.hid hr
            clear hr hi hst0 hdu
            gi_wp2_with fail
            exact rleave_st HS9.out HR9.out hnH HRR.out b0 n0 c0 hmv _ (HRES.out _ (by simp) (by simp) (by simp))
          · have hsy := hi.resolve_left (by omega)
            have hrest := hsp i st.1 hsy.1 (by omega) hsy.2.1 hbt
            have hsz := congrArg ByteArray.size hrest
            rw [rest_size, rest_size] at hsz
            have hkl : kk < L.length := by
              apply Classical.byContradiction
              intro hn'
              have : L.take kk = L := List.take_of_length_le (by omega)
              rw [this] at hsk
              have := steps_det _ _ _ _ _ _ hsk HL.out
              rw [this] at hsz
              omega
            obtain ⟨sq, hq1, hq2⟩ := take_steps HL.out kk
            have := steps_det _ _ _ _ _ _ hsk hq1
            subst this
            rw [← hsy.2.2] at hq2
            have hcut := cutAll_sync hst0 hq2 hLt hbt hbu hrest
            have hba := hI.addr (by rintro rfl; simp at hkl)
            subst hba
            have hglow := hI.low (by rintro rfl; simp at hkl)
            have hcell := hI.cells (by rintro rfl; simp at hkl)
            have hck : ¬ cap = kk := by omega
            have hkl' : (kk : Int) ≤ (L.length : Int) := by omega
            have hklc : (L.length : Int) ≤ (cap : Int) := by omega
            have HCUT := Lib.hid hcut; have HQ2 := Lib.hid hq2; have HSY := Lib.hid hsy; have HCL := Lib.hid hcell; have HST0 := Lib.hid hst0
            have qn : w9.cell? ⟨w1.heap.size, 0, none⟩ = some (.int .i64 (kk : Int)) := HS9.out.nbox.cell
            have ql : w9.cell? ⟨w.heap.size, 0, none⟩ = some (.slice (some ⟨g, og, none⟩) L.length cap) := HS9.out.fix.lbox
            clear hcut hq1 hq2 hsy hrest hsz hcell hi hmv hrow hst0
            gi_wp2_with fail
            obtain ⟨sh, hsh⟩ : ∃ sh : Int, sh = (u.size : Int) - (t.size : Int) := ⟨_, rfl⟩
            have HSH := Lib.hid hsh
            have hL0 : RcL w w1.heap.size wq.heap.size (.slice (some ⟨g, og, none⟩) L.length cap) a ins t u (L.drop kk) (M ++ pre) sh { Rx with state := .exhausted } st kk m 0 w9 := by
              rw [hsh]
              exact ⟨i, op, m, steps_count _ _ _ _ _ HST0.out (by omega), by simpa using HS9.out, HR9.out, by simp⟩
            have HL0 := Lib.hid hL0
            clear hL0 hsh HS9 HR9 qn ql hc1x hc2x hf0 hf1 hf2
            gi_loopw [134] (fun iv wv => ∃ q : Nat, q ≤ L.length - kk ∧ iv = .int .i64 (q : Int) ∧ Hid (RcL w w1.heap.size wq.heap.size (.slice (some ⟨g, og, none⟩) L.length cap) a ins t u (L.drop kk) (M ++ pre) sh { Rx with state := .exhausted } st kk m q wv)) (fun iv _ => L.length - kk - (intOf iv).toNat)
            case atStart => exact ⟨0, by omega, rfl, HL0⟩
            case round =>
              clear HL0
              obtain ⟨wv, rfl⟩ : ∃ wv, wv = wr := ⟨_, rfl⟩
              obtain ⟨q, hq, rfl, HLq⟩ := hrel
              by_cases hlt : q < L.length - kk
              · have hlt1 : (q : Int) < (L.length : Int) - (kk : Int) := by omega
                have hlt2 : (q : Int) < ((L.length - kk : Nat) : Int) := by omega
                obtain ⟨x, hx⟩ : ∃ x, L[kk + q]? = some x := ⟨_, List.getElem?_eq_getElem (by omega)⟩
                have hxd : (L.drop kk)[q]? = some x := by rw [List.getElem?_drop]; exact hx
                obtain ⟨sx, hsx, _⟩ := take_steps HL.out (kk + q)
                have nT := steps_next HL.out hsx hx
                have hbd := next_bounds nT.2.1 nT.2.2.1
                have hin := steps_in _ _ _ _ _ HQ2.out x (List.mem_iff_getElem?.2 ⟨q, hxd⟩)
                obtain ⟨j, opq, cq, hcq, hS, hR, hpa⟩ := HLq.out
                obtain ⟨y, hy⟩ : ∃ y, y = (shiftP sh x).2.1 := ⟨_, rfl⟩
                have hyv : (y : Int) = (x.2.1 : Int) + sh := by
                  rw [hy]; simp only [shiftP]; have := HSY.out.2.1; have := HSH.out; omega
                have hyb : y + x.2.2 ≤ u.size := by have := HSH.out; omega
                have l0 : wv.cell? ⟨g, og + kk * 3 + q * 3, none⟩ = some (.int .i64 (x.1 : Int)) := (hS.fix.below.cell (p := ⟨g, og + kk * 3 + q * 3, none⟩) hglow).trans (by have := HCL.out.c0 hx; rwa [Nat.add_mul, ← Nat.add_assoc] at this)
                have l1 : wv.cell? ⟨g, og + kk * 3 + q * 3 + 1, none⟩ = some (.int .i64 (x.2.1 : Int)) := (hS.fix.below.cell (p := ⟨g, og + kk * 3 + q * 3 + 1, none⟩) hglow).trans (by have := HCL.out.c1 hx; rwa [Nat.add_mul, ← Nat.add_assoc] at this)
                have l2 : wv.cell? ⟨g, og + kk * 3 + q * 3 + 2, none⟩ = some (.int .i64 (x.2.2 : Int)) := (hS.fix.below.cell (p := ⟨g, og + kk * 3 + q * 3 + 2, none⟩) hglow).trans (by have := HCL.out.c2 hx; rwa [Nat.add_mul, ← Nat.add_assoc] at this)
                have wsh : IntKind.i64.wrap ((x.2.1 : Int) + sh) = (y : Int) := by rw [← hyv]; exact IntWalk.i64_in _ (by omega)
                have hrz := hR.size
                have qsh : ∀ o, (wv.alloc o).cell? ⟨wq.heap.size, 0, none⟩ = some (.int .i64 sh) := fun o => (((KeepS.refl (fun _ => False) wv).alloc o).cell (by omega) (fun e => e)).trans (cell_at hR.sh)
                have hz9 := hS.fix.size; have hnb9 := hS.fix.hnb
                have q8 : ∀ o, (wv.alloc o).cell? ⟨w.heap.size + 8, 0, none⟩ = some (.pointer (some ⟨w.heap.size + 6, 0, none⟩)) := fun o =>
                  (((KeepS.refl (fun _ => False) wv).alloc o).cell (by omega) (fun e => e)).trans hS.fix.now
                have HY := Lib.hid hy; have HYV := Lib.hid hyv; have HYB := Lib.hid hyb; have HXD := Lib.hid hxd; have HBD := Lib.hid hbd; have HS1 := Lib.hid hS; have HR1 := Lib.hid hR; have HPA := Lib.hid hpa
                clear hy hyv hyb hx hxd hsx nT hbd hin hS hR hpa HLq
                gi_wp2_with fail
                refine ⟨trivial, ?_⟩
                obtain ⟨Wp, hWp⟩ : ∃ Wp, Wp = wv.alloc (.cells #[.int .i64 (x.1 : Int), .int .i64 (y : Int), .int .i64 (x.2.2 : Int)] 59) := ⟨_, rfl⟩
                have hpn : Wp.heap[wv.heap.size]? = some (.cells #[.int .i64 (x.1 : Int), .int .i64 (y : Int), .int .i64 (x.2.2 : Int)] 59) := by rw [hWp]; exact World.alloc_heap_new wv _
                have hkp : KeepS (fun _ => False) wv Wp := by rw [hWp]; exact (KeepS.refl _ _).alloc _
                have hpz : Wp.heap.size = wv.heap.size + 1 := by rw [hWp]; simp
                have hP1 := HS1.out.grow hkp
                have hR1 := HR1.out.keep hkp (fun _ e => e.elim)
                rw [← hWp]
                clear q8 qsh hWp l0 l1 l2 wsh
                have hpa := pass_any (w.heap.size + 6) j cq x.1 y x.2.2 u opq Wp (by omega) HBD.out.2.1 hcq (by have := HYB.out; omega) (by omega) hP1.cn hP1.fn
                have HP1 := Lib.hid hP1; have HR2 := Lib.hid hR1
                clear hP1 hR1 HS1 HR1
                refine (callsIn_wide.2 hpa).mono ?_
                clear hpa
                intro e w3 hpp
                have hxy : (shiftP sh x) = (x.1, y, x.2.2) := by rw [HY.out]; rfl
                have hdm : ((L.drop kk).map (shiftP sh))[q]? = some (x.1, y, x.2.2) := by rw [List.getElem?_map, HXD.out]; simp [hxy]
                have hps := passAll_step (c := cq) hdm
                rw [HPA.out] at hps
                rw [PassPost] at hpp
                split at hpp
                · rename_i hlim
                  obtain ⟨rfl, hkb3⟩ := hpp
                  rw [if_pos hlim] at hps
                  have hks : KeepS (fun z => z = w.heap.size + 6) Wp w3 := .of_kept hkb3 rfl
                  have hS3 := HP1.out.s0.keep6 hkb3
                  have hR3 := HR2.out.keep hks (fun z e => by omega)
                  have hcb := HCUT.out.2 y (by rw [show ((i : Int) - (st.1 : Int)) = sh by have := HSY.out.2.1; have := HSH.out; omega]; exact hps)
                  have hr : piecesR u = ([], y, 2) := by simp [piecesR, hcb, show ¬ 20000 < u.size by omega]
                  simp only [refusedEnd]
                  exact rleave_no u hS3 hR3 hnH (y, 2) hr _ (HRES.out _ (by simp) (by simp) (by simp))
                · rename_i hlim
                  obtain ⟨rfl, hcut3, hfree3, hkb3⟩ := hpp
                  rw [if_neg hlim] at hps
                  have hP3 := HP1.out.passN hkb3 hcut3 hfree3
                  have hks : KeepS (fun z => z = w.heap.size + 6) Wp w3 := .of_kept hkb3 rfl
                  have hR3 := HR2.out.keep hks (fun z e => by omega)
                  have hpn3 : w3.heap[wv.heap.size]? = _ := (hkb3.block _ (by omega) (by omega)).trans hpn
                  have hz3 := hkb3.size
                  have hcq2 : (if isTok x.1 then cq + 1 else cq) ≤ 6000 := by
                    split
                    · next ht => simp only [ht, true_and] at hlim; omega
                    · exact hcq
                  have d0 : w3.cell? ⟨wv.heap.size, 0, none⟩ = some (.int .i64 (x.1 : Int)) := cell_at hpn3
                  have d1 : w3.cell? ⟨wv.heap.size, 1, none⟩ = some (.int .i64 (y : Int)) := cell_at hpn3
                  have d2 : w3.cell? ⟨wv.heap.size, 2, none⟩ = some (.int .i64 (x.2.2 : Int)) := cell_at hpn3
                  obtain ⟨mv2, hmv2, hrow2⟩ := hP3.row.row
                  have hmf3 := hP3.row.f0
                  have hlenq : (M ++ pre ++ ((L.drop kk).take q).map (shiftP sh)).length ≤ 3000000 := by
                    have h1 := (steps_bounds _ _ _ _ _ HST0.out (by omega)).1
                    simp only [List.length_append, List.length_map, List.length_take, List.length_drop] at h1 ⊢
                    omega
                  have R5 := Lib.hid hrow2; have HP3 := Lib.hid hP3; have HR3 := Lib.hid hR3; have HLQ := Lib.hid hlenq; have HPS := Lib.hid hps; have HXY := Lib.hid hxy
                  have HLT := Lib.hid hrow2.lt
                  obtain ⟨i0, hi', hz0, hz1', hz2'⟩ := info_parts infoP
                  obtain ⟨PQ, hPQ⟩ : ∃ PQ, PQ = M ++ pre ++ ((L.drop kk).take q).map (shiftP sh) := ⟨_, rfl⟩
                  have HPQ := Lib.hid hPQ
                  rw [← hPQ] at R5 HP3 HLQ
                  clear hP3 hR3 hkb3 hks hcut3 hfree3 hpn hpn3 hrow2 hlenq hps hkp HP1 HR2 hlim hxy hdm hPQ
                  have hnew : ∀ j z, (cellsP (x.1, y, x.2.2))[j]? = some z → (w3.alloc (.cells #[.int .i64 (x.1 : Int), .int .i64 (y : Int), .int .i64 (x.2.2 : Int)] 59)).cell? ((⟨w3.heap.size, 0, none⟩ : Addr).add j) = some z := by
                    intro j z hj
                    match j, hj with
                    | 0, hj => simp [cellsP] at hj; subst hj; simp [Addr.add]
                    | 1, hj => simp [cellsP] at hj; subst hj; simp [Addr.add]
                    | 2, hj => simp [cellsP] at hj; subst hj; simp [Addr.add]
                    | j + 3, hj => simp [cellsP] at hj
                  have HNEW := Lib.hid hnew
                  have hkk2 : ∀ o w7, (w3.alloc o).grownBy w7 mv2.ownBlock → w7.heap[w.heap.size + 2]? = w3.heap[w.heap.size + 2]? := fun o w7 hg =>
                    (hg.block _ (by simp; omega) (fun e => by have := (HLT.out _ e.symm).1; omega)).trans (Below.heap_alloc w3 o _ (by omega))
                  have KK := Lib.hid hkk2
                  have hown3 := HR3.out.own R5.out
                  have HOW := Lib.hid hown3
                  clear hkk2 hnew hown3
                  gi_wp2_with (first
                    | (gi_at_builtin; go_loud (refine wpListIn_append_own _ rfl _ _ 23 rfl (w1.heap.size + 1) 59 i0 (.agg #[.int .i64 0, .int .i64 0, .int .i64 0]) 3 24 Tryz.underlying23 hi' hz0 hz1' hz2' rfl (by decide) _ _ _ rfl (R5.out.alloc _) ⟨w3.heap.size, 0, none⟩ 1 1 (cellsP (x.1, y, x.2.2)) (by simp [go_sem]; done) rfl HNEW.out (by simp [cellsP, Value.oneCell']) (by unfold maxLen; have := HLQ.out; omega) (by have := HLQ.out; omega) (by simp; omega) ?_); intro v' w7 hown' hgrow _;
                         obtain ⟨g', cap', rfl⟩ := ownsRow_succ hown';
                         have c7 : w7.cell? ⟨w.heap.size + 2, 0, none⟩ = some mv2 := (World.cell?_of_block (w := w3) (a := ⟨w.heap.size + 2, 0, none⟩) (KK.out _ _ hgrow)).trans hmv2;
                         have f7 : w7.frozen? ⟨w.heap.size + 2, 0, none⟩ = false := (World.frozen?_of_block (w := w3) (a := ⟨w.heap.size + 2, 0, none⟩) (KK.out _ _ hgrow)).trans hmf3;
                         have HOWN := Lib.hid hown'; have HG := Lib.hid hgrow; clear hown' hgrow))
                  have hsn := HP3.out.snoc hmv2 R5.out HOWN.out HG.out
                  have htk : (L.drop kk).take (q + 1) = (L.drop kk).take q ++ [x] := by
                    obtain ⟨h1, h2⟩ := List.getElem?_eq_some_iff.1 HXD.out
                    rw [List.take_succ_eq_append_getElem h1, h2]
                  refine ⟨⟨q + 1, by omega, by simp, Lib.hid ⟨y + x.2.2, (if isTok x.1 then opE x.1 (cutB u y x.2.2) else opq), (if isTok x.1 then cq + 1 else cq), hcq2, ?_, HR3.out.keep hsn.2 ?_, HPS.out.symm⟩⟩, by simp only [intOf]; omega⟩
                  · rw [htk, List.map_append, List.map_cons, List.map_nil, HXY.out, ← List.append_assoc, ← HPQ.out]
                    exact hsn.1
                  · rintro z (e | e)
                    · omega
                    · exact HOW.out z e
              · have hqe : q = L.length - kk := by omega
                obtain ⟨j, opq, cq, hcq, hS, hR, hpa⟩ := HLq.out
                have htk : (L.drop kk).take q = L.drop kk := List.take_of_length_le (by rw [List.length_drop]; omega)
                have hdr : ((L.drop kk).map (shiftP sh)).drop q = [] := List.drop_eq_nil_of_le (by rw [List.length_map, List.length_drop]; omega)
                rw [hdr] at hpa
                rw [htk] at hS
                have hcb := HCUT.out.1 (by rw [show ((i : Int) - (st.1 : Int)) = sh by have := HSY.out.2.1; have := HSH.out; omega]; exact hpa.symm)
                rw [show ((i : Int) - (st.1 : Int)) = sh by have := HSY.out.2.1; have := HSH.out; omega] at hcb
                have hr : piecesR u = (M ++ pre ++ (L.drop kk).map (shiftP sh), 0, 0) := by simp only [piecesR, hcb, show ¬ 20000 < u.size by omega, if_false]
                obtain ⟨mv2, hmv2, hrow2⟩ := hS.row.row
                obtain ⟨b0, n0, c0, rfl⟩ : ∃ a n c, mv2 = .slice a n c := by
                  rcases hrow2.2 with ⟨rfl, _⟩ | ⟨g, cap, cur, rfl, _⟩
                  · exact ⟨_, _, _, rfl⟩
                  · exact ⟨_, _, _, rfl⟩
                have hc1x := hS.fix.c1; have hc2x := hS.fix.c2; have hf0 := hS.row.f0; have hf1 := hS.fix.f1; have hf2 := hS.fix.f2
                have HS9 := Lib.hid hS; have HR9 := Lib.hid hR; have HRR := Lib.hid hr
                have hlt1 : ((q : Int) < (L.length : Int) - (kk : Int)) = False := by simp; omega
                have hlt2 : ((q : Int) < ((L.length - kk : Nat) : Int)) = False := by simp; omega
                clear hS hR hpa hrow2 hr hcb htk hdr HLq hqe
                gi_wp2_with fail
                exact rleave_st HS9.out HR9.out hnH HRR.out b0 n0 c0 hmv2 _ (HRES.out _ (by simp) (by simp) (by simp))
end

end Go.Proofs.YtlkanfnhemjdcaaGreatDoor
