/-
  The law: nothing is lost.
-/
import Derived.Test.YtnhmcfliepkfeaaDoorSA
import Derived.LoopTactic
namespace Go.Proofs.YtnhmcfliepkfeaaDoor
open Go.RowKit Go.Shelf

set_option maxHeartbeats 4000000 in
set_option maxRecDepth 100000 in
theorem whole_any (t : ByteArray) (w : World) (E : Env w) : Calls Tryd.prog 4 #[.string t] w fun e w' => e = .returned (.bool true) ∧ Below w.heap.size w w' := by
  have HS := Lib.hid (sane_any w E)
  have HP := Lib.hid (fun W E => pieces_all t W E)
  have HE := Lib.hid (fun (W : World) (h : Below w.heap.size w W) => E.below E.size h)
  by_cases hok : (piecesR t).2.2 = 0
  · obtain ⟨hts, hat, _, op, c, hst⟩ := pieces_ok hok
    have hlen := (steps_bounds _ _ _ _ _ hst (by omega)).1
    simp only at hlen
    obtain ⟨L, hL⟩ : ∃ L, L = (piecesR t).1 := ⟨_, rfl⟩
    rw [← hL] at hst hlen
    have HP' : Hid (∀ W, Env W → Calls Tryd.prog 14 #[.string t] W fun e w' => ∃ b cap g, e = .returned (.tuple #[.slice b L.length cap, .int .i64 0, .int .i64 0]) ∧ LIn w' b g L ∧ Below W.heap.size W w') := by
      refine Lib.hid fun W E => (HP.out W E).mono ?_
      rintro e w' ⟨v, rfl, hrow, hb⟩
      rw [hok, hat]
      have hr := RowIn.of_owns hrow
      rw [← hL] at hr
      obtain ⟨b, cap, g, rfl, _, hI⟩ := hr
      exact ⟨b, cap, g, rfl, hI, hb⟩
    have HST := Lib.hid hst
    clear HP E hok hL hat hst
    go_enter Tryd.func4, Tryd.ntmps4
    go_wp2_with fail
    refine HS.out.mono ?_
    rintro e w1 ⟨rfl, b1⟩
    have B1 := Lib.hid b1
    clear b1 HS
    go_wp2_with fail
    refine (HP'.out _ (HE.out _ B1.out)).mono ?_
    rintro e w2 ⟨b, cap, g, rfl, hI, b2⟩
    have B2 := Lib.hid (B1.out.trans (b2.mono B1.out.size))
    clear b2 B1 HP' HE
    go_wp2_with fail
    go_loopw [7, 8] (fun en iv wr => ∃ k : Nat, ∃ st : Nat × Bool × Nat, k ≤ L.length ∧ Hid (Steps t 0 false 0 (L.take k) st) ∧ en = .int .i64 (st.1 : Int) ∧ iv = .int .i64 (k : Int) ∧ Hid (Below w2.heap.size w2 wr)) (fun _ iv _ => L.length - (intOf iv).toNat)
    case atStart => exact ⟨0, (0, false, 0), by omega, Lib.hid rfl, rfl, rfl, Lib.hid (Below.refl _ _)⟩
    case round =>
      obtain ⟨k, st, hk, hs, rfl, rfl, hbe⟩ := hrel
      have hb2 := (steps_bounds _ _ _ _ _ hs.out (by omega)).2
      by_cases hlt : k < L.length
      · obtain ⟨x, hx⟩ : ∃ x, L[k]? = some x := ⟨_, List.getElem?_eq_getElem hlt⟩
        have hne : L ≠ [] := by rintro rfl; simp at hlt
        have hba := hI.addr hne
        subst hba
        have nT := steps_next HST.out hs.out hx
        have hbd := next_bounds nT.2.1 nT.2.2.1
        have e0 : wr.cell? ⟨g, k * 3, none⟩ = some (.int .i64 (x.1 : Int)) := (hbe.out.cell (p := ⟨g, k * 3, none⟩) (hI.low hne)).trans ((hI.cells hne).c0 hx)
        have e1 : wr.cell? ⟨g, k * 3 + 1, none⟩ = some (.int .i64 (st.1 : Int)) := by rw [← nT.1]; exact (hbe.out.cell (p := ⟨g, k * 3 + 1, none⟩) (hI.low hne)).trans ((hI.cells hne).c1 hx)
        have e2 : wr.cell? ⟨g, k * 3 + 2, none⟩ = some (.int .i64 (x.2.2 : Int)) := (hbe.out.cell (p := ⟨g, k * 3 + 2, none⟩) (hI.low hne)).trans ((hI.cells hne).c2 hx)
        have f1 : ((x.2.2 : Int) < 1) = False := by simp; omega
        have f2 : ((t.size : Int) - (st.1 : Int) < (x.2.2 : Int)) = False := by simp; omega
        have f3 : ((x.1 : Int) < 1) = False := by simp; omega
        have f4 : ((8 : Int) < (x.1 : Int)) = False := by simp; omega
        have w1' : IntKind.i64.wrap ((t.size : Int) - (st.1 : Int)) = (t.size : Int) - (st.1 : Int) := IntWalk.i64_in _ (by omega)
        have w2' : IntKind.i64.wrap ((st.1 : Int) + (x.2.2 : Int)) = (st.1 : Int) + (x.2.2 : Int) := IntWalk.i64_in _ (by omega)
        have w3' : IntKind.i64.wrap ((k : Int) + 1) = (k : Int) + 1 := IntWalk.i64_in _ (by omega)
        have hlt' : (k : Int) < (L.length : Int) := by omega
        have HN := Lib.hid nT.2.2.2.2
        clear hx nT hbd
        go_wp2_with fail
        exact ⟨⟨k + 1, _, by omega, HN, by simp, by simp, hbe⟩, by simp only [intOf]; omega⟩
      · have hkl : k = L.length := by omega
        have hs2 := hs.out
        rw [List.take_of_length_le (by omega)] at hs2
        have hdet := steps_det _ _ _ _ _ _ hs2 HST.out
        have hend : ((st.1 : Int) == (t.size : Int)) = true := by rw [hdet]; simp
        have hlt' : ((k : Int) < (L.length : Int)) = False := by simp; omega
        clear hs2 hdet hkl
        go_wp2_with fail
        exact bodyPost_ret (v := .bool true) (by simp [results, Tryd.results4, go_sem]) rfl ⟨rfl, B2.out.trans (hbe.out.mono B2.out.size)⟩
  · obtain ⟨c, hc⟩ : ∃ c, c = (piecesR t).2.2 := ⟨_, rfl⟩
    have hnil := pieces_bad hok
    have HP' : Hid (∀ W, Env W → Calls Tryd.prog 14 #[.string t] W fun e w' => ∃ b cap, ∃ i : Int, e = .returned (.tuple #[.slice b 0 cap, .int .i64 i, .int .i64 (c : Int)]) ∧ Below W.heap.size W w') := by
      refine Lib.hid fun W E => (HP.out W E).mono ?_
      rintro e w' ⟨v, rfl, hrow, hb⟩
      rw [hnil] at hrow
      rcases hrow.2 with ⟨rfl, _⟩ | ⟨g, cap, cur, rfl, _⟩
      · exact ⟨none, 0, _, by rw [hc], hb⟩
      · exact ⟨_, cap, _, by rw [hc]; rfl, hb⟩
    have hcn : ((c : Int) != 0) = true := by rw [hc, bne_iff_ne]; omega
    clear HP E hok hnil hc
    go_enter Tryd.func4, Tryd.ntmps4
    go_wp2_with fail
    refine HS.out.mono ?_
    rintro e w1 ⟨rfl, b1⟩
    have B1 := Lib.hid b1
    clear b1 HS
    go_wp2_with fail
    refine (HP'.out _ (HE.out _ B1.out)).mono ?_
    rintro e w2 ⟨b, cap, i, rfl, b2⟩
    have B2 := Lib.hid (B1.out.trans (b2.mono B1.out.size))
    clear b2 B1 HP' HE
    go_wp2_with fail
    exact bodyPost_ret (v := .bool true) (by simp [results, Tryd.results4, go_sem]) rfl ⟨rfl, B2.out⟩
end Go.Proofs.YtnhmcfliepkfeaaDoor
