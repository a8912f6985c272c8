/-
  R07.Same, R07.Index; the example.
-/
import Derived.Test.YtolopideimnbgaaHX
import Derived.Test.YtolopideimnbgaaHZ
namespace Go.Proofs.Ytolopideimnbgaa
open Go.RowKit

theorem same_any {w : World} {Q1 Q2 : Nat → Prop} {v1 v2 : Value} {l1 l2 : Nms} (h1 : SRow w Q1 v1 l1) (h2 : SRow w Q2 v2 l2) (n1 : l1.length ≤ 140737488351232) (n2 : l2.length ≤ 140737488351232) :
    Calls Try.prog 18 #[v1, v2] w fun e w' => e = .returned (.bool (decide (l1 = l2))) ∧ Below w.heap.size w w' := by
  obtain ⟨a1, c1, rfl, r1⟩ := h1
  obtain ⟨a2, c2, rfl, r2⟩ := h2
  obtain ⟨A, hA⟩ : ∃ A, A = decide (l1 = l2) := ⟨_, rfl⟩
  rw [← hA]
  have HA := Lib.hid hA
  clear hA
  by_cases e : l1.length = l2.length
  · have hn : ((l1.length : Int) != (l2.length : Int)) = false := by simp [e]
    have he2 : ¬ ¬ (l1.length : Int) = (l2.length : Int) := by omega
    have HE := Lib.hid e
    have HB0 : Hid (Below w.heap.size w w) := Lib.hid (Below.refl _ w)
    clear e
    go_enter Try.func18, Try.ntmps18
    go_wp2_with fail
    go_loopw [5] (fun i wr => ∃ k : Nat, k ≤ l1.length ∧ i = .int .i64 (k : Int) ∧ Hid (l1.take k = l2.take k) ∧ Hid (Below w.heap.size w wr)) (fun i _ => l1.length - (intOf i).toNat)
    case atStart => exact ⟨0, by omega, rfl, Lib.hid rfl, HB0⟩
    case round =>
      obtain ⟨k, hk, rfl, hp, hb⟩ := hrel
      by_cases hlt : k < l1.length
      · have hl2 : (k : Int) < (l1.length : Int) := by omega
        have hlt2 : k < l2.length := by have := HE.out; omega
        have hl3 : (k : Int) < (l2.length : Int) := by omega
        have w3 : IntKind.i64.wrap ((k : Int) + 1) = (k : Int) + 1 := IntWalk.i64_in _ (by omega)
        obtain ⟨x, hx⟩ : ∃ x, l1[k]? = some x := ⟨_, List.getElem?_eq_getElem hlt⟩
        obtain ⟨y, hy⟩ : ∃ y, l2[k]? = some y := ⟨_, List.getElem?_eq_getElem hlt2⟩
        obtain ⟨g1, o1, rfl, _, z1, t1, _⟩ := r1 (by rintro rfl; simp at hlt)
        obtain ⟨g2, o2, rfl, _, z2, t2, _⟩ := r2 (by rintro rfl; simp at hlt2)
        have e1 : wr.cell? ⟨g1, o1 + k, none⟩ = some (.string x) := (hb.out.cell (p := ⟨g1, o1 + k, none⟩) z1).trans (t1 k x hx)
        have e2 : wr.cell? ⟨g2, o2 + k, none⟩ = some (.string y) := (hb.out.cell (p := ⟨g2, o2 + k, none⟩) z2).trans (t2 k y hy)
        have HX := Lib.hid hx
        have HY := Lib.hid hy
        clear hx hy t1 t2
        by_cases hxy : x = y
        · have HN : Hid (l1.take (k + 1) = l2.take (k + 1)) := Lib.hid (by rw [List.take_add_one, List.take_add_one, HX.out, HY.out, hp.out, hxy])
          have hne := (str_eq hxy).1
          clear hxy
          go_wp2_with fail
          go_quiet (fail)
          go_wp2_with fail
          go_round
          case rel => exact ⟨k + 1, by omega, by go_num, HN, Lib.hid (below_drewN hb.out _)⟩
          case measure => simp only [intOf]; omega
        · have HN : Hid (A = false) := Lib.hid (by rw [HA.out]; exact decide_eq_false fun e => hxy (by have h1 := HX.out; rw [e, HY.out] at h1; cases h1; rfl))
          have hne := (str_ne hxy).1
          clear hxy
          go_wp2_with fail
          go_quiet (fail)
          go_wp2_with fail
          exact bodyPost_ret (v := .bool false) (by simp [results, Try.results18, go_sem]) rfl ⟨by rw [HN.out], below_drewN hb.out _⟩
      · have hl2 : ((k : Int) < (l1.length : Int)) = False := by simp; omega
        have HN : Hid (A = true) := Lib.hid (by
          rw [HA.out]
          have := hp.out
          rw [List.take_of_length_le (by omega), List.take_of_length_le (by have := HE.out; omega)] at this
          exact decide_eq_true this)
        go_wp2_with fail
        exact bodyPost_ret (v := .bool true) (by simp [results, Try.results18, go_sem]) rfl ⟨by rw [HN.out], hb.out⟩
  · have hn : ((l1.length : Int) != (l2.length : Int)) = true := by simp; omega
    have hn2 : ¬ (l1.length : Int) = (l2.length : Int) := by omega
    have HN : Hid (A = false) := Lib.hid (by rw [HA.out]; exact decide_eq_false fun h => e (congrArg List.length h))
    clear e r1 r2
    go_enter Try.func18, Try.ntmps18
    go_wp2_with fail
    exact bodyPost_ret (v := .bool false) (by simp [results, Try.results18, go_sem]) rfl ⟨by rw [HN.out], Below.refl _ _⟩
end Go.Proofs.Ytolopideimnbgaa
