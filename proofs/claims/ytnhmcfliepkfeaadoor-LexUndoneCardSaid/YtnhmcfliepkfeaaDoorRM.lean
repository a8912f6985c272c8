/-
  Functions of the reference: Mod, SamePieces.
-/
import Derived.Test.YtnhmcfliepkfeaaDoorEQ
namespace Go.Proofs.YtnhmcfliepkfeaaDoor
open Go.RowKit
attribute [local go_sem 5000] run_neq_ints run_guard_piece

theorem mod_any (n : Int) (m : Nat) (hm : 0 < m) (hm2 : m ≤ 1048576) (w : World) :
    Calls Tryd.prog 16 #[.int .i64 n, .int .i64 (m : Int)] w fun e w' => e = .returned (.int .i64 (n % (m : Int))) ∧ Below w.heap.size w w' := by
  have hlt := Int.emod_lt_of_pos n (show (0 : Int) < (m : Int) by omega)
  have hge := Int.emod_nonneg n (show (m : Int) ≠ 0 by omega)
  have ht : n.tmod (m : Int) = n % (m : Int) ∨ (n.tmod (m : Int) < 0 ∧ n.tmod (m : Int) + (m : Int) = n % (m : Int)) := by
    rcases (by omega : n < 0 ∨ 0 ≤ n) with h | h
    · have h1 := Int.tmod_eq_emod_of_nonneg (a := -n) (b := (m : Int)) (by omega)
      rw [Int.neg_tmod] at h1
      by_cases h0 : n % (m : Int) = 0
      · left
        have : (-n) % (m : Int) = 0 := by rw [Int.neg_emod]; simp [Int.dvd_of_emod_eq_zero h0]
        omega
      · right
        have h2 : (-n) % (m : Int) = (m : Int) - n % (m : Int) := by
          rw [Int.neg_emod, if_neg (fun hd => h0 (Int.emod_eq_zero_of_dvd hd))]; simp
        omega
    · left; exact Int.tmod_eq_emod_of_nonneg h
  generalize hr : n.tmod (m : Int) = r at ht
  have hm0 : ((m : Int) == 0) = false := by rw [beq_eq_false_iff_ne]; omega
  have hm1 : ((m : Int) == -1) = false := by rw [beq_eq_false_iff_ne]; omega
  have hwr : IntKind.i64.wrap r = r := IntWalk.i64_in _ (by omega)
  have hm0' : (m : Int) ≠ 0 := by omega
  rcases ht with h | ⟨h, h2⟩
  · have h0 : ¬ r < 0 := by omega
    rw [← h] at *
    go_enter Tryd.func16, Tryd.ntmps16
    go_wp2_with fail
    refine bodyPost_ret (v := .int .i64 r) (by simp [results, Tryd.results16, go_sem]) rfl ⟨rfl, Below.refl _ _⟩
  · have hw2 : IntKind.i64.wrap (r + (m : Int)) = r + (m : Int) := IntWalk.i64_in _ (by omega)
    rw [← h2] at *
    go_enter Tryd.func16, Tryd.ntmps16
    go_wp2_with fail
    refine bodyPost_ret (v := .int .i64 (r + (m : Int))) (by simp [results, Tryd.results16, go_sem]) rfl ⟨rfl, Below.refl _ _⟩

set_option maxHeartbeats 4000000 in
set_option maxRecDepth 100000 in
theorem samePieces_some (g h cl cm : Nat) (l m : List (Int × Int × Int)) (hlen : l.length = m.length) (hml : m.length ≤ 1048576) (w : World) (hg : g < w.heap.size) (hh : h < w.heap.size) (L : IntsAt w g l) (M : IntsAt w h m) :
    Calls Tryd.prog 21 #[.slice (some ⟨g, 0, none⟩) l.length cl, .slice (some ⟨h, 0, none⟩) m.length cm] w fun e w' => e = .returned (.bool (decide (l = m))) ∧ Below w.heap.size w w' := by
  go_enter Tryd.func21, Tryd.ntmps21
  go_wp2_with fail
  go_loopw [5] (fun i wr => ∃ k : Nat, k ≤ m.length ∧ i = .int .i64 k ∧ Hid (∀ j, j < k → l[j]? = m[j]?) ∧ Hid (Below w.heap.size w wr)) (fun i _ => m.length - (intOf i).toNat)
  case atStart => exact ⟨0, by omega, rfl, Lib.hid (fun j hj => by omega), Lib.hid (Below.refl _ _)⟩
  case round =>
    obtain ⟨k, hk, rfl, ha, hbe⟩ := hrel
    by_cases hlt : k < m.length
    · obtain ⟨x, hx⟩ : ∃ x, l[k]? = some x := ⟨_, List.getElem?_eq_getElem (by omega)⟩
      obtain ⟨y, hy⟩ : ∃ y, m[k]? = some y := ⟨_, List.getElem?_eq_getElem (by omega)⟩
      have l0 : wr.cell? ⟨g, k * 3, none⟩ = some (.int .i64 x.1) := (hbe.out.cell (p := ⟨g, k * 3, none⟩) hg).trans (L.c0 hx)
      have l1 : wr.cell? ⟨g, k * 3 + 1, none⟩ = some (.int .i64 x.2.1) := (hbe.out.cell (p := ⟨g, k * 3 + 1, none⟩) hg).trans (L.c1 hx)
      have l2 : wr.cell? ⟨g, k * 3 + 2, none⟩ = some (.int .i64 x.2.2) := (hbe.out.cell (p := ⟨g, k * 3 + 2, none⟩) hg).trans (L.c2 hx)
      have m0 : wr.cell? ⟨h, k * 3, none⟩ = some (.int .i64 y.1) := (hbe.out.cell (p := ⟨h, k * 3, none⟩) hh).trans (M.c0 hy)
      have m1 : wr.cell? ⟨h, k * 3 + 1, none⟩ = some (.int .i64 y.2.1) := (hbe.out.cell (p := ⟨h, k * 3 + 1, none⟩) hh).trans (M.c1 hy)
      have m2 : wr.cell? ⟨h, k * 3 + 2, none⟩ = some (.int .i64 y.2.2) := (hbe.out.cell (p := ⟨h, k * 3 + 2, none⟩) hh).trans (M.c2 hy)
      have h1 : (k : Int) < (m.length : Int) := by omega
      have h2 : (k : Int) < (l.length : Int) := by omega
      have hw : IntKind.i64.wrap ((k : Int) + 1) = (k : Int) + 1 := IntWalk.i64_in _ (by omega)
      have HXY : Hid (l[k]? = some x ∧ m[k]? = some y) := Lib.hid ⟨hx, hy⟩
      clear hx hy
      go_wp2_with fail
      go_region_held3 (fun w' => w'.cell? ⟨g, k * 3, none⟩ = some (.int .i64 x.1) ∧ w'.cell? ⟨g, k * 3 + 1, none⟩ = some (.int .i64 x.2.1) ∧ w'.cell? ⟨g, k * 3 + 2, none⟩ = some (.int .i64 x.2.2) ∧ w'.cell? ⟨h, k * 3, none⟩ = some (.int .i64 y.1) ∧ w'.cell? ⟨h, k * 3 + 1, none⟩ = some (.int .i64 y.2.1) ∧ w'.cell? ⟨h, k * 3 + 2, none⟩ = some (.int .i64 y.2.2)) (go_keep) (fail)
      by_cases hxy : x = y
      · have hd : decide (x = y) = true := by simp [hxy]
        have HE := Lib.hid hxy
        clear hxy
        simp only [hd]
        go_wp2_with fail
        refine ⟨⟨k + 1, hlt, by simp, Lib.hid (fun j hj => ?_), Lib.hid hbe.out.drew⟩, by simp only [intOf]; omega⟩
        by_cases hjk : j = k
        · subst hjk; rw [HXY.out.1, HXY.out.2, HE.out]
        · exact ha.out j (by omega)
      · have hd : decide (x = y) = false := by simp [hxy]
        have HE : Hid (¬ l = m) := Lib.hid (fun e => hxy (by have := HXY.out.1; rw [e, HXY.out.2] at this; injection this with this; exact this.symm))
        clear hxy
        simp only [hd]
        go_wp2_with fail
        refine bodyPost_ret (v := .bool false) ?_ rfl ⟨by rw [decide_eq_false HE.out], hbe.out.drew⟩
        simp [results, Tryd.results21, go_sem]
    · have hkl : k = m.length := by omega
      have HE : Hid (l = m) := Lib.hid (eq_of_all l m hlen (fun j hj => ha.out j (by omega)))
      subst hkl
      go_wp2_with fail
      refine bodyPost_ret (v := .bool true) ?_ rfl ⟨by rw [decide_eq_true HE.out], hbe.out⟩
      simp [results, Tryd.results21, go_sem]
theorem samePieces_len (b1 b2 : Option Addr) (n1 c1 n2 c2 : Nat) (hne : n1 ≠ n2) (w : World) :
    Calls Tryd.prog 21 #[.slice b1 n1 c1, .slice b2 n2 c2] w fun e w' => e = .returned (.bool false) ∧ Below w.heap.size w w' := by
  have hne' : ((n1 : Int) != (n2 : Int)) = true := by rw [bne_iff_ne]; omega
  go_enter Tryd.func21, Tryd.ntmps21
  go_wp2_with fail
  refine bodyPost_ret (v := .bool false) ?_ rfl ⟨rfl, Below.refl _ _⟩
  simp [results, Tryd.results21, go_sem]
theorem samePieces_none (b1 b2 : Option Addr) (c1 c2 : Nat) (w : World) :
    Calls Tryd.prog 21 #[.slice b1 0 c1, .slice b2 0 c2] w fun e w' => e = .returned (.bool true) ∧ Below w.heap.size w w' := by
  go_enter Tryd.func21, Tryd.ntmps21
  go_wp2_with fail
  go_loopw [5] (fun i wr => i = .int .i64 0 ∧ wr = w) (fun _ _ => 0)
  case atStart => exact ⟨rfl, rfl⟩
  case round =>
    obtain ⟨rfl, rfl⟩ := hrel
    go_wp2_with fail
    refine bodyPost_ret (v := .bool true) ?_ rfl ⟨rfl, Below.refl _ _⟩
    simp [results, Tryd.results21, go_sem]
end Go.Proofs.YtnhmcfliepkfeaaDoor
