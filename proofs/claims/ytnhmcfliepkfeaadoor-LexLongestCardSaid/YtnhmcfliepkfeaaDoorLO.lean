/-
  The law: a token and the byte behind it are no token together.
-/
import Derived.Test.YtnhmcfliepkfeaaDoorSA
import Derived.Test.YtnhmcfliepkfeaaDoorML2
import Derived.LoopTactic
namespace Go.Proofs.YtnhmcfliepkfeaaDoor
open Go.RowKit Go.Shelf

theorem flatT_at (t : ByteArray) : ∀ (l : List (Nat × Nat × Nat)) (k j : Nat) (x : Nat × Nat × Nat), l[k]? = some x → j < 5 → (flatT t l)[k * 5 + j]? = (cellsT t x)[j]?
  | [], k, j, x, h, _ => by simp at h
  | y :: l, 0, j, x, h, hj => by
    simp at h; subst h
    rw [show flatT t (y :: l) = cellsT t y ++ flatT t l by simp [flatT], List.getElem?_append_left (by simp [cellsT]; omega)]
    simp
  | y :: l, k + 1, j, x, h, hj => by
    rw [show flatT t (y :: l) = cellsT t y ++ flatT t l by simp [flatT], List.getElem?_append_right (by simp [cellsT]; omega), show (k + 1) * 5 + j - (cellsT t y).length = k * 5 + j by simp [cellsT]; omega]
    exact flatT_at t l k j x (by simpa using h) hj

/-- A row of tokens: where its cells lie. -/
structure TIn (t : ByteArray) (w : World) (b : Option Addr) (g : Nat) (l : List (Nat × Nat × Nat)) : Prop where
  addr : l ≠ [] → b = some ⟨g, 0, none⟩
  low : l ≠ [] → g < w.heap.size
  cells : l ≠ [] → ∀ k x, l[k]? = some x → w.cell? ⟨g, k * 5 + 2, none⟩ = some (.string (cutB t x.2.1 x.2.2)) ∧ w.cell? ⟨g, k * 5 + 3, none⟩ = some (.int .i64 (x.2.1 : Int))

theorem TIn.of_owns {t : ByteArray} {w : World} {base : Nat} {v : Value} {l : List (Nat × Nat × Nat)} (h : w.ownsRow base 52 5 v l.length (flatT t l)) : ∃ b cap g, v = .slice b l.length cap ∧ TIn t w b g l := by
  have hc := fun g => h.cells (g := g)
  rcases h.2 with ⟨rfl, h0⟩ | ⟨g, cap, cur, rfl, hb, hg, hn, hcap, hsz, htk⟩
  · have : l = [] := List.length_eq_zero_iff.1 h0
    subst this
    exact ⟨none, 0, 0, rfl, fun h => absurd rfl h, fun h => absurd rfl h, fun h => absurd rfl h⟩
  · refine ⟨_, cap, g, rfl, fun _ => rfl, fun _ => (Array.getElem?_eq_some_iff.1 hg).1, fun _ k x hx => ⟨?_, ?_⟩⟩
    · have := hc g rfl (k * 5 + 2) (.string (cutB t x.2.1 x.2.2)) (by rw [flatT_at t l k 2 x hx (by omega)]; rfl)
      simpa [Addr.add] using this
    · have := hc g rfl (k * 5 + 3) (.int .i64 (x.2.1 : Int)) (by rw [flatT_at t l k 3 x hx (by omega)]; rfl)
      simpa [Addr.add] using this

theorem steps_mem {t : ByteArray} : ∀ (l : List (Nat × Nat × Nat)) (i : Nat) (op : Bool) (c : Nat) (st : Nat × Bool × Nat), Steps t i op c l st → ∀ x ∈ l, x.2.1 < t.size ∧ ∃ o, nextR t x.2.1 o = .ok (x.1, x.2.2) := by
  intro l
  induction l with
  | nil => intro i op c st h x hx; simp at hx
  | cons y l ih =>
    intro i op c st h x hx
    obtain ⟨h1, h3, h4, h5, h6⟩ := h
    rcases List.mem_cons.1 hx with rfl | hx
    · exact ⟨by omega, op, by rw [h3]; exact h4⟩
    · exact ih _ _ _ _ h6 x hx

theorem cut_one {t : ByteArray} {p : Nat} (hp : p < t.size) (h : aheadB t p = 45) : (cutB t p 1).toList = [45] := by
  have hl : (cutB t p 1).toList.length = 1 := by rw [ByteArray.toList_eq]; simp [cutB]; omega
  have h0 : (cutB t p 1).toList[0]? = some 45 := by
    rw [ByteArray.toList_eq, Array.getElem?_toList, ahead_data (by unfold cutB; rw [ByteArray.size_extract]; omega)]
    unfold cutB
    rw [ahead_part (by omega) (by omega)]
    exact congrArg some h
  generalize (cutB t p 1).toList = l at hl h0
  match l, hl, h0 with
  | [y], _, h0 => simp at h0; rw [h0]

set_option maxHeartbeats 4000000 in
set_option maxRecDepth 100000 in
theorem lexLongest_any (t : ByteArray) (w : World) (E : Env w) : Calls Tryd.prog 7 #[.string t] w fun e w' => e = .returned (.bool true) ∧ Below w.heap.size w w' := by
  have HS := Lib.hid (sane_any w E)
  have hp := fun W E => scan_any t W E
  have HE := Lib.hid (fun (W : World) (h : Below w.heap.size w W) => E.below E.size h)
  unfold ScanEnd at hp
  have HP := Lib.hid hp
  clear hp
  by_cases hok : (piecesR t).2.2 = 0
  · obtain ⟨hts, hat, _, opT, cT, hst⟩ := pieces_ok hok
    have hlen := (steps_bounds _ _ _ _ _ hst (by omega)).1
    simp only at hlen
    have hln : (toksR t).length ≤ 20000 := by have := List.length_filter_le (fun x : Nat × Nat × Nat => isTok x.1) (piecesR t).1; unfold toksR; omega
    have hmem : ∀ x ∈ toksR t, isTok x.1 = true ∧ x.2.1 < t.size ∧ x.2.1 + x.2.2 ≤ t.size ∧ 1 ≤ x.2.2 ∧ ∃ o, nextR t x.2.1 o = .ok (x.1, x.2.2) := by
      intro x hx
      unfold toksR at hx
      obtain ⟨h1, h2⟩ := List.mem_filter.1 hx
      obtain ⟨h3, o, h4⟩ := steps_mem _ _ _ _ _ hst x h1
      have h5 := next_bounds h3 h4
      simp only at h5
      exact ⟨by simpa using h2, h3, h5.2.2.2, h5.2.2.1, o, h4⟩
    obtain ⟨L, hL⟩ : ∃ L, L = toksR t := ⟨_, rfl⟩
    rw [← hL] at hln hmem
    have HP' : Hid (∀ W, Env W → Calls Tryd.prog 15 #[.string t] W fun e w' => ∃ b cap g, e = .returned (.tuple #[.slice b L.length cap, .int .i64 0, .int .i64 0]) ∧ TIn t w' b g L ∧ Below W.heap.size W w') := by
      refine Lib.hid fun W E => (HP.out W E).mono ?_
      rintro e w' ⟨v, rfl, hrow, hb⟩
      rw [hok, hat]
      rw [← hL] at hrow
      obtain ⟨b, cap, g, rfl, hI⟩ := TIn.of_owns hrow
      exact ⟨b, cap, g, rfl, hI, hb⟩
    have HMEM := Lib.hid hmem
    have HK := Lib.hid (fun s hs W E => kind_any s hs W E)
    clear HP E hok hL hat hst hmem hlen
    go_enter Tryd.func7, Tryd.ntmps7
    go_wp2_with fail
    refine HS.out.mono ?_
    rintro e w1 ⟨rfl, b1⟩
    have B1 := Lib.hid b1
    clear b1 HS
    go_wp2_with fail
    refine (HP'.out _ (HE.out _ B1.out)).mono ?_
    rintro e w2 ⟨b, cap, g, rfl, hI, b2⟩
    have B2 := Lib.hid (B1.out.trans (b2.mono B1.out.size))
    clear b2 B1 HP'
    go_wp2_with fail
    go_loopw [7] (fun iv wr => ∃ k : Nat, k ≤ L.length ∧ iv = .int .i64 (k : Int) ∧ Hid (Below w2.heap.size w2 wr)) (fun iv _ => L.length - (intOf iv).toNat)
    case atStart => exact ⟨0, by omega, rfl, Lib.hid (Below.refl _ _)⟩
    case round =>
      obtain ⟨k, hk, rfl, hbe⟩ := hrel
      have w3' : IntKind.i64.wrap ((k : Int) + 1) = (k : Int) + 1 := IntWalk.i64_in _ (by omega)
      by_cases hlt : k < L.length
      · obtain ⟨x, hx⟩ : ∃ x, L[k]? = some x := ⟨_, List.getElem?_eq_getElem hlt⟩
        have hne : L ≠ [] := by rintro rfl; simp at hlt
        have hba := hI.addr hne
        subst hba
        obtain ⟨m1, m2, m3, m4, o, m5⟩ := HMEM.out x (List.mem_iff_getElem?.2 ⟨k, hx⟩)
        have HX := Lib.hid m5
        have c2 : wr.cell? ⟨g, k * 5 + 2, none⟩ = some (.string (cutB t x.2.1 x.2.2)) := (hbe.out.cell (p := ⟨g, k * 5 + 2, none⟩) (hI.low hne)).trans (hI.cells hne k x hx).1
        have c3 : wr.cell? ⟨g, k * 5 + 3, none⟩ = some (.int .i64 (x.2.1 : Int)) := (hbe.out.cell (p := ⟨g, k * 5 + 3, none⟩) (hI.low hne)).trans (hI.cells hne k x hx).2
        have hcs : (cutB t x.2.1 x.2.2).size = x.2.2 := by unfold cutB; rw [ByteArray.size_extract]; omega
        have w1' : IntKind.i64.wrap ((x.2.1 : Int) + (x.2.2 : Int)) = (x.2.1 : Int) + (x.2.2 : Int) := IntWalk.i64_in _ (by omega)
        have hlt' : (k : Int) < (L.length : Int) := by omega
        clear hx m5
        by_cases he : x.2.1 + x.2.2 < t.size
        · have he' : ((t.size : Int) ≤ (x.2.1 : Int) + (x.2.2 : Int)) = False := by simp; omega
          have w2' : IntKind.i64.wrap ((x.2.1 : Int) + (x.2.2 : Int) + 1) = (x.2.1 : Int) + (x.2.2 : Int) + 1 := IntWalk.i64_in _ (by omega)
          have s1 : (x.2.1 : Int) ≤ (x.2.1 : Int) + (x.2.2 : Int) + 1 := by omega
          have s2 : (x.2.1 : Int) + (x.2.2 : Int) + 1 ≤ (t.size : Int) := by omega
          have s3 : ((x.2.1 : Int) + (x.2.2 : Int) + 1).toNat = x.2.1 + x.2.2 + 1 := by omega
          go_wp2_with fail
          go_quiet (fail)
          all_goals go_wp2_with fail
          · exact ⟨⟨k + 1, by omega, by simp, Lib.hid (below_drewN hbe.out nq)⟩, by simp only [intOf]; omega⟩
          · exact ⟨⟨k + 1, by omega, by simp, Lib.hid (below_drewN hbe.out nq)⟩, by simp only [intOf]; omega⟩
          · have hA := ‹¬ (t[x.2.1 + x.2.2].toNat : Int) = 58›
            have hB := ‹((t[x.2.1 + x.2.2].toNat : Int) == 58) = false ∧ ((cutB t x.2.1 x.2.2).toList == [45]) = false›
            have hz : kindN (t.extract x.2.1 (x.2.1 + x.2.2 + 1)) = 0 := by
              refine longest m2 HX.out m1 he ?_ ?_
              · rw [aheadB_lt he]; intro h; apply hA; rw [h]; rfl
              · intro h1 h45
                have := cut_one m2 h45
                have hB2 := hB.2
                rw [h1, this] at hB2
                exact absurd hB2 (by decide)
            have b0 := below_drewN hbe.out nq
            have hkk := HK.out (t.extract x.2.1 (x.2.1 + x.2.2 + 1)) (by rw [ByteArray.size_extract]; omega) _ (HE.out _ (B2.out.trans (b0.mono B2.out.size)))
            rw [hz] at hkk
            refine hkk.mono ?_
            rintro e w3 ⟨rfl, b3⟩
            have B3 := Lib.hid (b0.trans (b3.mono b0.size))
            clear b3 b0 hA hB hz hkk
            go_wp2_with fail
            exact ⟨⟨k + 1, by omega, by simp, B3⟩, by simp only [intOf]; omega⟩
        · have he' : ((t.size : Int) ≤ (x.2.1 : Int) + (x.2.2 : Int)) := by omega
          go_wp2_with fail
          go_quiet (fail)
          go_wp2_with fail
          exact ⟨⟨k + 1, by omega, by simp, Lib.hid (below_drewN hbe.out nq)⟩, by simp only [intOf]; omega⟩
      · have hlt' : ((k : Int) < (L.length : Int)) = False := by simp; omega
        go_wp2_with fail
        exact bodyPost_ret (v := .bool true) (by simp [results, Tryd.results7, go_sem]) rfl ⟨rfl, B2.out.trans (hbe.out.mono B2.out.size)⟩
  · obtain ⟨c, hc⟩ : ∃ c, c = (piecesR t).2.2 := ⟨_, rfl⟩
    have HP' : Hid (∀ W, Env W → Calls Tryd.prog 15 #[.string t] W fun e w' => ∃ v, ∃ i : Int, e = .returned (.tuple #[v, .int .i64 i, .int .i64 (c : Int)]) ∧ Below W.heap.size W w') := by
      refine Lib.hid fun W E => (HP.out W E).mono ?_
      rintro e w' ⟨v, rfl, hrow, hb⟩
      exact ⟨v, _, by rw [hc], hb⟩
    have hcn : ((c : Int) != 0) = true := by rw [hc, bne_iff_ne]; omega
    clear HP E hok hc
    go_enter Tryd.func7, Tryd.ntmps7
    go_wp2_with fail
    refine HS.out.mono ?_
    rintro e w1 ⟨rfl, b1⟩
    have B1 := Lib.hid b1
    clear b1 HS
    go_wp2_with fail
    refine (HP'.out _ (HE.out _ B1.out)).mono ?_
    rintro e w2 ⟨v, i, rfl, b2⟩
    have B2 := Lib.hid (B1.out.trans (b2.mono B1.out.size))
    clear b2 B1 HP' HE
    go_wp2_with fail
    exact bodyPost_ret (v := .bool true) (by simp [results, Tryd.results7, go_sem]) rfl ⟨rfl, B2.out⟩
end Go.Proofs.YtnhmcfliepkfeaaDoor
