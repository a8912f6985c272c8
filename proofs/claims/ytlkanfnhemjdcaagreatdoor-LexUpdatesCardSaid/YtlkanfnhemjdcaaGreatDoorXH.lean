/-
  The kind of a token that a string is as a whole.
  Names, their parts, and numbers.
  The tokens of a text.
  The tokens of a text: the loop.
  A text with a splice; the pieces ahead of a splice; what two lists of pieces have in common.
  The number of pieces that lie well ahead of a place.
  The mathematics of cutting anew around a splice, step by step; nothing of a program is imported here but the count of unreached pieces.
  The constants of the laws' examples, computed; a text without an error is its pieces, one after another.
  What two lists of pieces have in common.
  What two lists of pieces have in common, where one of them is empty; whether two lists of pieces are the same.
  Whether two lists of pieces are the same.
-/
import Derived.Test.YtlkanfnhemjdcaaGreatDoorXF
import Derived.Defers
import Derived.Recover
import Derived.Laws.Pointers
import Derived.Test.YtlkanfnhemjdcaaGreatDoorXA
import Derived.Test.YtlkanfnhemjdcaaGreatDoorXO
import Derived.Deep.RegionHeld3
import Derived.Laws.StructEq
namespace Go.Proofs.YtlkanfnhemjdcaaGreatDoor
section
open Go.RowKit

set_option maxRecDepth 100000 in
theorem kcatch_refusal (x : Value) (b : Nat) (v : Value) (w : World) (hb : b < w.heap.size) (hc : w.cell? ⟨b, 0, none⟩ = some v) (hf : w.frozen? ⟨b, 0, none⟩ = false) (hx : ∃ i c : Nat, x = .agg #[.int .i64 (i : Int), .int .i64 (c : Int)]) :
    CallsD Tryz.prog 48 #[.pointer (some ⟨b, 0, none⟩)] (.panicking ({ v := .iface 61 x, recovered := false } :: [])) w fun e u' w' =>
      e = .returned (.tuple #[]) ∧ u' = .panicking ({ v := .iface 61 x, recovered := true } :: []) ∧ w'.cell? ⟨b, 0, none⟩ = some (.int .i64 0) ∧ Below b w w' := by
  obtain ⟨i, c, rfl⟩ := hx
  have al := fun o => (Below.refl _ w).alloc (Nat.le_refl _) o
  have x0 : ∀ o, (w.alloc o).cell? ⟨b, 0, none⟩ = some v := fun o => ((al o).cell (p := ⟨b, 0, none⟩) hb).trans hc
  have y0 : ∀ o, (w.alloc o).frozen? ⟨b, 0, none⟩ = false := fun o => ((al o).frozen (p := ⟨b, 0, none⟩) hb).trans hf
  have n0 : ¬ b = w.heap.size := by omega
  clear al
  have hta := assert_yes (.agg #[.int .i64 (i : Int), .int .i64 (c : Int)])
  refine callsD_of_wpS Tryz.func48 rfl fun c₀ cs hu => ?_
  apply wpS_seq
  apply wpS_region
  simp [wpOpsS, go_sem, recoverD, hu, hta, Tryz.ntmps48, Exit.thenS]
  refine wpS_of_wp ?_
  simp only [Array.replicate_succ, Array.replicate_zero, List.push_toArray, List.append_toArray, List.nil_append, List.cons_append, List.setIfInBounds_toArray, List.set_cons_zero, List.set_cons_succ]
  go_wp2
  simp [bodyPostS, results, Tryz.results48]
  refine ⟨?_, ?_⟩
  · exact (((Below.refl _ (w.setCell ⟨b, 0, none⟩ (.int .i64 0))).alloc (Nat.le_refl _) _).cell (p := ⟨b, 0, none⟩) (by simpa using hb)).trans (World.cell?_setCell_same' _ _ _ (by rw [hc]; rfl))
  · exact ((Below.refl b w).setCell (p := ⟨b, 0, none⟩) (Nat.le_refl _) _).alloc (by simp <;> omega) _

set_option maxRecDepth 100000 in
theorem kcatch_none (a0 : Value) (w : World) :
    CallsD Tryz.prog 48 #[a0] .returning w fun e u' w' => e = .returned (.tuple #[]) ∧ u' = .returning ∧ Below w.heap.size w w' := by
  have hta := assert_nil
  refine callsD_of_wpS Tryz.func48 rfl fun c₀ cs hu => ?_
  apply wpS_seq
  apply wpS_region
  simp [wpOpsS, go_sem, recoverD, hu, hta, Tryz.ntmps48, Exit.thenS]
  refine wpS_of_wp ?_
  simp only [Array.replicate_succ, Array.replicate_zero, List.push_toArray, List.append_toArray, List.nil_append, List.cons_append, List.setIfInBounds_toArray, List.set_cons_zero, List.set_cons_succ]
  go_wp2
  simp [bodyPostS, results, Tryz.results48]
  exact ⟨.returning, by rw [← hu], rfl, (Below.refl _ w).alloc (Nat.le_refl _) _⟩

theorem two_first (w : World) (cs : Array Value) (tt : TypeId) (o : Obj) (j : Nat) (v : Value) (hv : cs[j]? = some v) : ((w.alloc (.cells cs tt)).alloc o).cell? ⟨w.heap.size, j, none⟩ = some v :=
  (((Below.refl _ (w.alloc (.cells cs tt))).alloc (Nat.le_refl _) o).cell (p := ⟨w.heap.size, j, none⟩) (by simp)).trans (new_cell _ _ _ _ _ _ rfl hv)
theorem two_frozen (w : World) (cs : Array Value) (tt : TypeId) (o : Obj) (j : Nat) : ((w.alloc (.cells cs tt)).alloc o).frozen? ⟨w.heap.size, j, none⟩ = false :=
  (((Below.refl _ (w.alloc (.cells cs tt))).alloc (Nat.le_refl _) o).frozen (p := ⟨w.heap.size, j, none⟩) (by simp)).trans (by simp)

set_option maxHeartbeats 2000000 in
set_option maxRecDepth 100000 in
theorem kind_any (s : ByteArray) (hs : s.size ≤ 140737488351232) (w : World) (E : Env w) :
    Calls Tryz.prog 21 #[.string s] w fun e w' => e = .returned (.int .i64 (kindN s : Int)) ∧ Below w.heap.size w w' := by
  have hmf : ∀ (fn : Fn) (first cap : Array Value) (w : World), (Instr.makeFunc fn first cap).run Tryz.prog w = .ok (.func fn first cap) w := fun _ _ _ _ => rfl
  have hcut : IsCut (w.heap.size + 1) 0 s false 0 ((w.alloc (.cells #[.int .i64 0] 3)).alloc (.cells #[.string s, .int .i64 0, .bool false, .int .i64 0] 86)) := by
    refine ⟨?_, ?_, ?_, ?_⟩ <;> exact new_cell _ _ _ _ _ _ (by simp) rfl
  have hbl : Below w.heap.size w ((w.alloc (.cells #[.int .i64 0] 3)).alloc (.cells #[.string s, .int .i64 0, .bool false, .int .i64 0] 86)) := ((Below.refl _ w).alloc (Nat.le_refl _) _).alloc (by simp) _
  have hdn := done_q (w.heap.size + 1) 0 s _ hcut.text hcut.at'
  have HD := Lib.hid hdn
  clear hdn
  by_cases h0 : s.size = 0
  · have hN : Hid (kindN s = 0) := Lib.hid (by simp [kindN, h0])
    have h0' : s.size ≤ 0 := by omega
    clear hcut h0
    go_enter_defers Tryz.func21, Tryz.ntmps21
    go_wp2_with fail
    refine (newCutter_any s _).mono ?_
    rintro e w1 ⟨rfl, rfl⟩
    go_wp2_with fail
    refine HD.out.mono ?_
    rintro e w1 ⟨rfl, q, rfl⟩
    go_wp2_with fail
    refine leaves_cons (f := 48) (args := #[.pointer (some ⟨w.heap.size, 0, none⟩)]) (by simp) (by simp [go_sem]) ?_
    refine (kcatch_none _ _).mono ?_
    rintro e u' w5 ⟨rfl, rfl, hb5⟩
    have z0 : w5.cell? ⟨w.heap.size, 0, none⟩ = some (.int .i64 0) := (hb5.cell (p := ⟨w.heap.size, 0, none⟩) (by simp <;> omega)).trans (World.cell?_setCell_same' _ _ _ (Option.isSome_of_eq_some (two_first w _ _ _ _ _ rfl)))
    simp [Leaves, settle, results, Tryz.results21, go_sem, z0]
    exact ⟨by rw [hN.out]; rfl, ((below_drewN hbl _).setCell (p := ⟨w.heap.size, 0, none⟩) (Nat.le_refl _) _).trans (hb5.mono (by simp <;> omega))⟩
  · have hns : ¬ s.size ≤ 0 := by omega
    have hnx := fun q => next_any (w.heap.size + 1) 0 0 s false _ (E.below E.size (below_drewN hbl q)) (by simp) (by omega) hs (hcut.drewN q)
    have HBL := Lib.hid hbl
    cases hres : nextR s 0 false with
    | error c =>
      have hN : Hid (kindN s = 0) := Lib.hid (by simp [kindN, h0, hres])
      simp only [hres, nextEnd, refusedEnd] at hnx
      have HX := Lib.hid hnx
      clear hcut h0 hnx hbl hres
      go_enter_defers Tryz.func21, Tryz.ntmps21
      go_wp2_with fail
      refine (newCutter_any s _).mono ?_
      rintro e w1 ⟨rfl, rfl⟩
      go_wp2_with fail
      refine HD.out.mono ?_
      rintro e w1 ⟨rfl, q, rfl⟩
      go_wp2_with fail
      refine (HX.out _).mono ?_
      rintro e w2 ⟨rfl, hb2⟩
      go_wp2_with fail
      refine leaves_cons (f := 48) (args := #[.pointer (some ⟨w.heap.size, 0, none⟩)]) (by simp) (by simp [go_sem]) ?_
      have y0 : w2.cell? ⟨w.heap.size, 0, none⟩ = some (.int .i64 0) := (hb2.cell (p := ⟨w.heap.size, 0, none⟩) (by simp <;> omega)).trans (two_first _ _ _ _ _ _ rfl)
      have y1 : w2.frozen? ⟨w.heap.size, 0, none⟩ = false := (hb2.frozen (p := ⟨w.heap.size, 0, none⟩) (by simp <;> omega)).trans (two_frozen _ _ _ _ _)
      have s2 := hb2.size
      simp only [World.heap_drewN, World.size_alloc] at s2
      refine (kcatch_refusal _ w.heap.size _ w2 (by omega) y0 y1 ⟨0, c, rfl⟩).mono ?_
      rintro e u' w5 ⟨rfl, rfl, z0, hb5⟩
      simp [Leaves, settle, results, Tryz.results21, go_sem, z0]
      exact ⟨by rw [hN.out]; rfl, ((HBL.out.trans ((below_drewN (Below.refl _ _) _).trans (hb2.mono (by simp <;> omega)))).trans hb5)⟩
    | ok p =>
      have hN : kindN s = if isTok p.1 = true ∧ p.2 = s.size then p.1 else 0 := by simp [kindN, h0, hres]
      simp only [hres, nextEnd] at hnx
      have HX := Lib.hid hnx
      have HN := Lib.hid hN
      have hI := fun W => isToken_any (p.1 : Int) W
      have htk : (decide (1 ≤ (p.1 : Int)) && decide ((p.1 : Int) ≤ 6)) = isTok p.1 := rfl
      rw [htk] at hI
      have HI := Lib.hid hI
      clear hcut h0 hnx hbl hres hN hI htk
      have tail : ∀ (w5 W : World) (k : Nat), w.heap.size < W.heap.size → Below w.heap.size w W → Below W.heap.size W w5 → Below w.heap.size w w5 := fun w5 W k h1 h2 h3 => h2.trans (h3.mono (by omega))
      have TAIL := Lib.hid tail
      clear tail
      cases htok : isTok p.1
      · rw [htok] at HI HN
        go_enter_defers Tryz.func21, Tryz.ntmps21
        go_wp2_with fail
        refine (newCutter_any s _).mono ?_
        rintro e w1 ⟨rfl, rfl⟩
        go_wp2_with fail
        refine HD.out.mono ?_
        rintro e w1 ⟨rfl, q, rfl⟩
        go_wp2_with fail
        refine (HX.out _).mono ?_
        rintro e w2 ⟨rfl, hb2⟩
        have y0 : ∀ o, (w2.alloc o).cell? ⟨w.heap.size, 0, none⟩ = some (.int .i64 0) := fun o => ((hb2.alloc hb2.size o).cell (p := ⟨w.heap.size, 0, none⟩) (by simp <;> omega)).trans (two_first _ _ _ _ _ _ rfl)
        have y1 : ∀ o, (w2.alloc o).frozen? ⟨w.heap.size, 0, none⟩ = false := fun o => ((hb2.alloc hb2.size o).frozen (p := ⟨w.heap.size, 0, none⟩) (by simp <;> omega)).trans (two_frozen _ _ _ _ _)
        have s2 := hb2.size
        simp only [World.heap_drewN, World.size_alloc] at s2
        have hne : ¬ w.heap.size = w2.heap.size := by omega
        have HB2 := Lib.hid (HBL.out.trans ((below_drewN (Below.refl _ _) _).trans (hb2.mono (by simp <;> omega))))
        clear hb2
        go_wp2_with fail
        refine (HI.out _).mono ?_
        rintro e w3 ⟨rfl, rfl⟩
        go_wp2_with fail
        refine leaves_cons (f := 48) (args := #[.pointer (some ⟨w.heap.size, 0, none⟩)]) (by simp) (by simp [go_sem]) ?_
        refine (kcatch_none _ _).mono ?_
        rintro e u' w5 ⟨rfl, rfl, hb5⟩
        have z0 : w5.cell? ⟨w.heap.size, 0, none⟩ = some (.int .i64 0) := (hb5.cell (p := ⟨w.heap.size, 0, none⟩) (by simp <;> omega)).trans (World.cell?_setCell_same' _ _ _ (Option.isSome_of_eq_some (y0 _)))
        simp [Leaves, settle, results, Tryz.results21, go_sem, z0]
        exact ⟨by rw [HN.out]; simp, ((HB2.out.alloc HB2.out.size _).setCell (p := ⟨w.heap.size, 0, none⟩) (Nat.le_refl _) _).trans (hb5.mono (by have := HB2.out.size; simp; omega))⟩
      · rw [htok] at HI HN
        by_cases hl : p.2 = s.size
        · have hl' : ((p.2 : Int) == (s.size : Int)) = true := by rw [beq_iff_eq]; omega
          have HL := Lib.hid hl
          clear hl
          go_enter_defers Tryz.func21, Tryz.ntmps21
          go_wp2_with fail
          refine (newCutter_any s _).mono ?_
          rintro e w1 ⟨rfl, rfl⟩
          go_wp2_with fail
          refine HD.out.mono ?_
          rintro e w1 ⟨rfl, q, rfl⟩
          go_wp2_with fail
          refine (HX.out _).mono ?_
          rintro e w2 ⟨rfl, hb2⟩
          have y0 : ∀ o, (w2.alloc o).cell? ⟨w.heap.size, 0, none⟩ = some (.int .i64 0) := fun o => ((hb2.alloc hb2.size o).cell (p := ⟨w.heap.size, 0, none⟩) (by simp <;> omega)).trans (two_first _ _ _ _ _ _ rfl)
          have y1 : ∀ o, (w2.alloc o).frozen? ⟨w.heap.size, 0, none⟩ = false := fun o => ((hb2.alloc hb2.size o).frozen (p := ⟨w.heap.size, 0, none⟩) (by simp <;> omega)).trans (two_frozen _ _ _ _ _)
          have s2 := hb2.size
          simp only [World.heap_drewN, World.size_alloc] at s2
          have hne : ¬ w.heap.size = w2.heap.size := by omega
          have HB2 := Lib.hid (HBL.out.trans ((below_drewN (Below.refl _ _) _).trans (hb2.mono (by simp <;> omega))))
          clear hb2
          go_wp2_with fail
          refine (HI.out _).mono ?_
          rintro e w3 ⟨rfl, rfl⟩
          go_wp2_with fail
          refine leaves_cons (f := 48) (args := #[.pointer (some ⟨w.heap.size, 0, none⟩)]) (by simp) (by simp [go_sem]) ?_
          refine (kcatch_none _ _).mono ?_
          rintro e u' w5 ⟨rfl, rfl, hb5⟩
          have z0 : w5.cell? ⟨w.heap.size, 0, none⟩ = some (.int .i64 (p.1 : Int)) := (hb5.cell (p := ⟨w.heap.size, 0, none⟩) (by simp <;> omega)).trans (World.cell?_setCell_same' _ _ _ (Option.isSome_of_eq_some (y0 _)))
          simp [Leaves, settle, results, Tryz.results21, go_sem, z0]
          exact ⟨by rw [HN.out]; simp [HL.out], ((HB2.out.alloc HB2.out.size _).setCell (p := ⟨w.heap.size, 0, none⟩) (Nat.le_refl _) _).trans (hb5.mono (by have := HB2.out.size; simp; omega))⟩
        · have hl' : ((p.2 : Int) == (s.size : Int)) = false := by rw [beq_eq_false_iff_ne]; omega
          have HL := Lib.hid hl
          clear hl
          go_enter_defers Tryz.func21, Tryz.ntmps21
          go_wp2_with fail
          refine (newCutter_any s _).mono ?_
          rintro e w1 ⟨rfl, rfl⟩
          go_wp2_with fail
          refine HD.out.mono ?_
          rintro e w1 ⟨rfl, q, rfl⟩
          go_wp2_with fail
          refine (HX.out _).mono ?_
          rintro e w2 ⟨rfl, hb2⟩
          have y0 : ∀ o, (w2.alloc o).cell? ⟨w.heap.size, 0, none⟩ = some (.int .i64 0) := fun o => ((hb2.alloc hb2.size o).cell (p := ⟨w.heap.size, 0, none⟩) (by simp <;> omega)).trans (two_first _ _ _ _ _ _ rfl)
          have y1 : ∀ o, (w2.alloc o).frozen? ⟨w.heap.size, 0, none⟩ = false := fun o => ((hb2.alloc hb2.size o).frozen (p := ⟨w.heap.size, 0, none⟩) (by simp <;> omega)).trans (two_frozen _ _ _ _ _)
          have s2 := hb2.size
          simp only [World.heap_drewN, World.size_alloc] at s2
          have hne : ¬ w.heap.size = w2.heap.size := by omega
          have HB2 := Lib.hid (HBL.out.trans ((below_drewN (Below.refl _ _) _).trans (hb2.mono (by simp <;> omega))))
          clear hb2
          go_wp2_with fail
          refine (HI.out _).mono ?_
          rintro e w3 ⟨rfl, rfl⟩
          go_wp2_with fail
          refine leaves_cons (f := 48) (args := #[.pointer (some ⟨w.heap.size, 0, none⟩)]) (by simp) (by simp [go_sem]) ?_
          refine (kcatch_none _ _).mono ?_
          rintro e u' w5 ⟨rfl, rfl, hb5⟩
          have z0 : w5.cell? ⟨w.heap.size, 0, none⟩ = some (.int .i64 0) := (hb5.cell (p := ⟨w.heap.size, 0, none⟩) (by simp <;> omega)).trans (World.cell?_setCell_same' _ _ _ (Option.isSome_of_eq_some (y0 _)))
          simp [Leaves, settle, results, Tryz.results21, go_sem, z0]
          exact ⟨by rw [HN.out]; simp [HL.out], ((HB2.out.alloc HB2.out.size _).setCell (p := ⟨w.heap.size, 0, none⟩) (Nat.le_refl _) _).trans (hb5.mono (by have := HB2.out.size; simp; omega))⟩
end

section
open Go.RowKit

def isNameB (s : ByteArray) : Bool := ((kindN s : Int) == 1)
def isPlainB (s : ByteArray) : Bool := isNameB s && decide (Lib.indexByte s.data.toList 64 < 0)

theorem isName_any (s : ByteArray) (hs : s.size ≤ 140737488351232) (w : World) (E : Env w) :
    Calls Tryz.prog 23 #[.string s] w fun e w' => e = .returned (.bool (isNameB s)) ∧ Below w.heap.size w w' := by
  have hk := kind_any s hs w E
  have HK := Lib.hid hk
  clear hk
  go_enter Tryz.func23, Tryz.ntmps23
  go_wp2_with fail
  refine HK.out.mono ?_
  rintro e w1 ⟨rfl, hb⟩
  go_wp2_with fail
  go_ret
  exact ⟨rfl, hb⟩

theorem isPlain_any (s : ByteArray) (hs : s.size ≤ 140737488351232) (w : World) (E : Env w) :
    Calls Tryz.prog 25 #[.string s] w fun e w' => e = .returned (.bool (isPlainB s)) ∧ Below w.heap.size w w' := by
  have hk := isName_any s hs w E
  have hP : isPlainB s = (isNameB s && decide (Lib.indexByte s.data.toList 64 < 0)) := rfl
  have HP := Lib.hid hP
  clear hP
  cases hn : isNameB s
  all_goals
    rw [hn] at hk HP
    have HK := Lib.hid hk
    clear hk
    go_enter Tryz.func25, Tryz.ntmps25
    go_wp2_with (first | (go_at_call 23; refine HK.out.mono ?_; rintro e w1 ⟨rfl, hb⟩) | (go_at_call 51; refine (idx_any _ (64 : UInt8) _).mono ?_; rintro e w2 ⟨rfl, rfl⟩))
    go_ret
    exact ⟨by rw [HP.out]; rfl, hb⟩

def numberR (s : ByteArray) : Int × Int := if kindN s = 2 then ((valO s).getD 0, 0) else (0, 11)
theorem number_any (s : ByteArray) (hs : s.size ≤ 140737488351232) (w : World) (E : Env w) :
    Calls Tryz.prog 19 #[.string s] w fun e w' => e = .returned (.tuple #[.int .i64 (numberR s).1, .int .i64 (numberR s).2]) ∧ Below w.heap.size w w' := by
  have hk := kind_any s hs w E
  have hv := fun W (hB : Below w.heap.size w W) => value_any s hs W (E.below E.size hB)
  have HK := Lib.hid hk
  have HV := Lib.hid hv
  clear hk hv
  by_cases h2 : kindN s = 2
  · have h2' : ((kindN s : Int) != 2) = false := by rw [h2]; rfl
    have H2 : Hid (numberR s = ((valO s).getD 0, 0)) := Lib.hid (by simp [numberR, h2])
    clear h2
    go_enter Tryz.func19, Tryz.ntmps19
    go_wp2_with fail
    refine HK.out.mono ?_
    rintro e w1 ⟨rfl, hb⟩
    go_wp2_with fail
    refine (HV.out _ hb).mono ?_
    rintro e w2 ⟨rfl, hb2⟩
    go_wp2_with fail
    go_ret2
    exact ⟨by rw [H2.out]; rfl, hb.trans (hb2.mono hb.size)⟩
  · have h2' : ((kindN s : Int) != 2) = true := by rw [bne_iff_ne]; omega
    have H2 : Hid (numberR s = (0, 11)) := Lib.hid (by simp [numberR, h2])
    clear h2
    go_enter Tryz.func19, Tryz.ntmps19
    go_wp2_with fail
    refine HK.out.mono ?_
    rintro e w1 ⟨rfl, hb⟩
    go_wp2_with fail
    go_ret2
    exact ⟨by rw [H2.out]; rfl, hb⟩

/-- The parts of a name. -/
def splitB (s : ByteArray) : ByteArray × ByteArray := if isNameB s then
    (⟨(Lib.cut s.data.toList [64]).1.toArray⟩, ⟨(Lib.cut s.data.toList [64]).2.1.toArray⟩) else (s, ⟨#[]⟩)
theorem split_any (s : ByteArray) (hs : s.size ≤ 140737488351232) (w : World) (E : Env w) :
    Calls Tryz.prog 17 #[.string s] w fun e w' => e = .returned (.tuple #[.string (splitB s).1, .string (splitB s).2]) ∧ Below w.heap.size w w' := by
  have hk := isName_any s hs w E
  obtain ⟨m, hm⟩ := E.max
  have hz := E.size
  cases hn : isNameB s
  · clear hm hz E
    have hP : Hid (splitB s = (s, ⟨#[]⟩)) := Lib.hid (by simp [splitB, hn])
    rw [hn] at hk
    have HK := Lib.hid hk
    clear hk
    go_enter Tryz.func17, Tryz.ntmps17
    go_wp2_with fail
    refine HK.out.mono ?_
    rintro e w1 ⟨rfl, hb⟩
    go_wp2_with fail
    go_ret2
    exact ⟨by rw [hP.out]; rfl, hb⟩
  · have hsm : s.size ≤ 100 := kind_small (by intro e; simp [isNameB, e] at hn)
    have hc := fun W (hB : Below w.heap.size w W) => Tryz.strings_Cut s ⟨#[64]⟩ m W (by omega) ((hB.cell (p := ⟨0, 0, none⟩) (by simp; omega)).trans hm)
    have HC := Lib.hid hc
    clear hc hm hz hsm E
    have hP : Hid (splitB s = (⟨(Lib.cut s.data.toList [64]).1.toArray⟩, ⟨(Lib.cut s.data.toList [64]).2.1.toArray⟩)) := Lib.hid (by simp [splitB, hn])
    rw [hn] at hk
    have HK := Lib.hid hk
    clear hk
    go_enter Tryz.func17, Tryz.ntmps17
    go_wp2_with fail
    refine HK.out.mono ?_
    rintro e w1 ⟨rfl, hb⟩
    go_wp2_with fail
    refine (HC.out _ hb).mono ?_
    rintro e w2 ⟨rfl, q, rfl⟩
    go_wp2_with fail
    go_ret2
    exact ⟨by rw [hP.out]; rfl, below_drewN hb _⟩
end

section
open Go.RowKit

/-- A token's number. -/
def numT (t : ByteArray) (x : Nat × Nat × Nat) : Int := if x.1 = 2 then (valO (cutB t x.2.1 x.2.2)).getD 0 else 0
def cellsT (t : ByteArray) (x : Nat × Nat × Nat) : List Value := [.int .i64 (x.1 : Int), .int .i64 (numT t x), .string (cutB t x.2.1 x.2.2), .int .i64 (x.2.1 : Int), .int .i64 0]
def flatT (t : ByteArray) (l : List (Nat × Nat × Nat)) : List Value := l.flatMap (cellsT t)

theorem two_firstB (w : World) (cs : Array Value) (tt : TypeId) (o : Obj) (b j : Nat) (v : Value) (h : b = w.heap.size) (hv : cs[j]? = some v) : ((w.alloc (.cells cs tt)).alloc o).cell? ⟨b, j, none⟩ = some v := by
  subst h; exact two_first w cs tt o j v hv
theorem two_frozenB (w : World) (cs : Array Value) (tt : TypeId) (o : Obj) (b j : Nat) (h : b = w.heap.size) : ((w.alloc (.cells cs tt)).alloc o).frozen? ⟨b, j, none⟩ = false := by
  subst h; exact two_frozen w cs tt o j
theorem new_frozen (w : World) (cs : Array Value) (tt : TypeId) (b j : Nat) (h : b = w.heap.size) : (w.alloc (.cells cs tt)).frozen? ⟨b, j, none⟩ = false := by
  subst h; simp

set_option maxHeartbeats 4000000 in
set_option maxRecDepth 100000 in
theorem token_any (t : ByteArray) (k a l : Nat) (hl : a + l ≤ t.size) (ht : t.size ≤ 140737488351232) (w : World) (E : Env w) :
    Calls Tryz.prog 42 #[.string t, .agg #[.int .i64 (k : Int), .int .i64 (a : Int), .int .i64 (l : Int)]] w fun e w' =>
      e = .returned (.agg #[.int .i64 (k : Int), .int .i64 (numT t (k, a, l)), .string (cutB t a l), .int .i64 (a : Int), .int .i64 0]) ∧ Below w.heap.size w w' := by
  have hw : IntKind.i64.wrap ((a : Int) + (l : Int)) = (a : Int) + (l : Int) := IntWalk.i64_in _ (by omega)
  have h3 : (a : Int) ≤ (a : Int) + (l : Int) := by omega
  have h4 : (a : Int) + (l : Int) ≤ (t.size : Int) := by omega
  have ht2 : ((a : Int) + (l : Int)).toNat = a + l := by omega
  have hv := fun W (hB : Below w.heap.size w W) => value_any (t.extract a (a + l)) (by simp; omega) W (E.below E.size hB)
  have HV := Lib.hid hv
  clear hv E
  by_cases hk : k = 2
  · have hN : Hid (numT t (k, a, l) = (valO (t.extract a (a + l))).getD 0) := Lib.hid (by simp [numT, hk, cutB])
    have hk' : ((k : Int) == 2) = true := by rw [hk]; rfl
    clear hk
    go_enter Tryz.func42, Tryz.ntmps42
    go_wp2_with fail
    go_region_held3 (fun w' => w'.cell? ⟨w.heap.size, 0, none⟩ = some (.int .i64 (k : Int)) ∧ w'.cell? ⟨w.heap.size, 1, none⟩ = some (.int .i64 (a : Int)) ∧ w'.cell? ⟨w.heap.size, 2, none⟩ = some (.int .i64 (l : Int))) (go_keep) (fail)
    all_goals go_wp2_with fail
    have hA : ∀ o1 o2 o3, Below w.heap.size w (((w.alloc o1).alloc o2).alloc o3).drew := fun o1 o2 o3 => ((((Below.refl _ w).alloc (Nat.le_refl _) o1).alloc (by simp) o2).alloc (by simp <;> omega) o3).drew
    refine (HV.out _ (hA _ _ _)).mono ?_
    rintro e w3 ⟨rfl, hb⟩
    have HB := Lib.hid ((hA _ _ _).trans (hb.mono (by simp <;> omega)))
    have g2 := fun (j : Nat) => hb.cell (p := ⟨w.heap.size + 1 + 1, j, none⟩) (by simp)
    have g1 := fun (j : Nat) => hb.cell (p := ⟨w.heap.size + 1, j, none⟩) (by simp <;> omega)
    have g2f := fun (j : Nat) => hb.frozen (p := ⟨w.heap.size + 1 + 1, j, none⟩) (by simp)
    have g1f := fun (j : Nat) => hb.frozen (p := ⟨w.heap.size + 1, j, none⟩) (by simp <;> omega)
    have a0 : w3.cell? ⟨w.heap.size + 1 + 1, 0, none⟩ = some (.int .i64 (k : Int)) := (g2 0).trans (new_cell _ _ _ _ _ _ (by simp) rfl)
    have a1 : w3.cell? ⟨w.heap.size + 1 + 1, 1, none⟩ = some (.int .i64 0) := (g2 1).trans (new_cell _ _ _ _ _ _ (by simp) rfl)
    have a2 : w3.cell? ⟨w.heap.size + 1 + 1, 2, none⟩ = some (.string (t.extract a (a + l))) := (g2 2).trans (new_cell _ _ _ _ _ _ (by simp) rfl)
    have a3 : w3.cell? ⟨w.heap.size + 1 + 1, 3, none⟩ = some (.int .i64 (a : Int)) := (g2 3).trans (new_cell _ _ _ _ _ _ (by simp) rfl)
    have a4 : w3.cell? ⟨w.heap.size + 1 + 1, 4, none⟩ = some (.int .i64 0) := (g2 4).trans (new_cell _ _ _ _ _ _ (by simp) rfl)
    have b0 : w3.cell? ⟨w.heap.size + 1, 0, none⟩ = some (.int .i64 0) := (g1 0).trans (two_firstB _ _ _ _ _ _ _ (by simp) rfl)
    have b1 : w3.cell? ⟨w.heap.size + 1, 1, none⟩ = some (.int .i64 0) := (g1 1).trans (two_firstB _ _ _ _ _ _ _ (by simp) rfl)
    have b2 : w3.cell? ⟨w.heap.size + 1, 2, none⟩ = some (.string ⟨#[]⟩) := (g1 2).trans (two_firstB _ _ _ _ _ _ _ (by simp) rfl)
    have b3 : w3.cell? ⟨w.heap.size + 1, 3, none⟩ = some (.int .i64 0) := (g1 3).trans (two_firstB _ _ _ _ _ _ _ (by simp) rfl)
    have b4 : w3.cell? ⟨w.heap.size + 1, 4, none⟩ = some (.int .i64 0) := (g1 4).trans (two_firstB _ _ _ _ _ _ _ (by simp) rfl)
    have fa : ∀ j, w3.frozen? ⟨w.heap.size + 1 + 1, j, none⟩ = false := fun j => (g2f j).trans (new_frozen _ _ _ _ _ (by simp))
    have fb : ∀ j, w3.frozen? ⟨w.heap.size + 1, j, none⟩ = false := fun j => (g1f j).trans (two_frozenB _ _ _ _ _ _ (by simp))
    clear g1 g2 g1f g2f hb hA
    go_wp2_with fail
    refine bodyPost_ret (v := .agg #[.int .i64 (k : Int), .int .i64 ((valO (t.extract a (a + l))).getD 0), .string (t.extract a (a + l)), .int .i64 (a : Int), .int .i64 0]) ?_ rfl ⟨by rw [hN.out]; rfl, ?_⟩
    · simp [results, Tryz.results42, go_sem, b0, b1, b2, b3, b4]
    · repeat (first | exact HB.out | refine Below.setCell ?_ (by simp <;> omega) _)
  · have hN : Hid (numT t (k, a, l) = 0) := Lib.hid (by simp [numT, hk])
    have hk' : ((k : Int) == 2) = false := by rw [beq_eq_false_iff_ne]; omega
    clear hk
    go_enter Tryz.func42, Tryz.ntmps42
    go_wp2_with fail
    go_region_held3 (fun w' => w'.cell? ⟨w.heap.size, 0, none⟩ = some (.int .i64 (k : Int)) ∧ w'.cell? ⟨w.heap.size, 1, none⟩ = some (.int .i64 (a : Int)) ∧ w'.cell? ⟨w.heap.size, 2, none⟩ = some (.int .i64 (l : Int))) (go_keep) (fail)
    all_goals go_wp2_with fail
    refine bodyPost_ret (v := .agg #[.int .i64 (k : Int), .int .i64 0, .string (t.extract a (a + l)), .int .i64 (a : Int), .int .i64 0]) ?_ rfl ⟨by rw [hN.out]; rfl, ?_⟩
    · simp [results, Tryz.results42, go_sem]
    · have hA : ∀ o1 o2 o3, Below w.heap.size w (((w.alloc o1).alloc o2).alloc o3).drew := fun o1 o2 o3 => ((((Below.refl _ w).alloc (Nat.le_refl _) o1).alloc (by simp) o2).alloc (by simp <;> omega) o3).drew
      repeat (first | exact hA _ _ _ | refine Below.setCell ?_ (by simp <;> omega) _)
end

section
open Go.RowKit

theorem infoT : (Tryz.prog.info? 51).map (fun i => (i.zero, i.size, i.bytes)) = some (some (.agg #[.int .i64 0, .int .i64 0, .string ⟨#[]⟩, .int .i64 0, .int .i64 0]), 5, 48) := by kernel_rfl

theorem pieces_all (t : ByteArray) (w : World) (E : Env w) : Calls Tryz.prog 8 #[.string t] w (PiecesEnd t w) := by
  by_cases ht : t.size ≤ 20000
  · exact callsIn_wide.1 (pieces_run t ht w E)
  · have hlen : (20000 : Int) < (t.size : Int) := by omega
    have hr : piecesR t = ([], 0, 2) := by simp [piecesR, show 20000 < t.size by omega]
    have HR := Lib.hid hr
    clear hr ht E
    go_enter_defers Tryz.func8, Tryz.ntmps8
    go_wp2_with fail
    simp [bodyPostD, Leaves, results, Tryz.results8, go_sem]
    exact ⟨_, by rw [HR.out]; rfl, by rw [HR.out]; exact World.ownsRow_nil _ _ _ _, (((Below.refl _ w).alloc (Nat.le_refl _) _).alloc (by simp) _).alloc (by simp <;> omega) _⟩

theorem Addr.add_zero_off (g j : Nat) : (⟨g, 0, none⟩ : Addr).add j = ⟨g, j, none⟩ := by unfold Addr.add; split <;> simp_all
theorem row_down {w : World} {base base' : Nat} {e : TypeId} {size : Nat} {v : Value} {n : Nat} {xs : List Value} (h : w.ownsRow base e size v n xs) (hb : base' ≤ base) : w.ownsRow base' e size v n xs := by
  refine ⟨h.1, ?_⟩
  rcases h.2 with hn | ⟨g, cap, cur, hv, hg, rest⟩
  · exact .inl hn
  · exact .inr ⟨g, cap, cur, hv, Nat.le_trans hb hg, rest⟩
theorem flatP_get (l : List (Nat × Nat × Nat)) (k j : Nat) (x : Nat × Nat × Nat) (hk : l[k]? = some x) (hj : j < 3) : (flatP l)[k * 3 + j]? = (cellsP x)[j]? := by
  induction l generalizing k with
  | nil => simp at hk
  | cons y l ih =>
    have hc : flatP (y :: l) = cellsP y ++ flatP l := rfl
    have h3 : (cellsP y).length = 3 := rfl
    rw [hc]
    cases k with
    | zero =>
      simp at hk
      subst hk
      rw [List.getElem?_append_left (by omega)]
      simp
    | succ k =>
      rw [List.getElem?_append_right (by omega), h3, show (k + 1) * 3 + j - 3 = k * 3 + j by omega]
      exact ih k (by simpa using hk)

/-- The pieces that are tokens. -/
def toksR (t : ByteArray) : List (Nat × Nat × Nat) := (piecesR t).1.filter fun x => isTok x.1
theorem flatT_snoc (t : ByteArray) (l : List (Nat × Nat × Nat)) (x : Nat × Nat × Nat) : flatT t (l ++ [x]) = flatT t l ++ cellsT t x := by simp [flatT]
def ScanEnd (t : ByteArray) (w : World) (e : Ending) (w' : World) : Prop :=
  ∃ v, e = .returned (.tuple #[v, .int .i64 ((piecesR t).2.1 : Int), .int .i64 ((piecesR t).2.2 : Int)]) ∧ w'.ownsRow w.heap.size 51 5 v (toksR t).length (flatT t (toksR t)) ∧ Below w.heap.size w w'

theorem take_filter_succ (l : List (Nat × Nat × Nat)) (k : Nat) (x : Nat × Nat × Nat) (hk : l[k]? = some x) :
    (l.take (k + 1)).filter (fun x => isTok x.1) = (l.take k).filter (fun x => isTok x.1) ++ (if isTok x.1 then [x] else []) := by
  have hlt : k < l.length := by
    apply Classical.byContradiction; intro h
    rw [List.getElem?_eq_none (by omega)] at hk; cases hk
  rw [List.take_succ_eq_append_getElem hlt, List.filter_append]
  have : l[k] = x := by rw [List.getElem?_eq_getElem hlt] at hk; injection hk
  rw [this]
  cases h : isTok x.1 <;> simp [h]

set_option maxHeartbeats 4000000 in
set_option maxRecDepth 100000 in
theorem scan_any (t : ByteArray) (w : World) (E : Env w) : Calls Tryz.prog 10 #[.string t] w (ScanEnd t w) := by
  have hp := pieces_all t w E
  have HP := Lib.hid hp
  clear hp
  by_cases he : (piecesR t).2.2 = 0
  · have he' : (((piecesR t).2.2 : Int) != 0) = false := by rw [he]; rfl
    go_enter Tryz.func10, Tryz.ntmps10
    go_wp2_with fail
    refine HP.out.mono ?_
    rintro e w1 ⟨v, rfl, hrow, hb⟩
    obtain ⟨b0, n0, c0, rfl⟩ : ∃ a n c, v = .slice a n c := by
      rcases hrow.2 with ⟨rfl, _⟩ | ⟨g, cap, cur, rfl, _⟩
      · exact ⟨_, _, _, rfl⟩
      · exact ⟨_, _, _, rfl⟩
    have hn0 : n0 = (piecesR t).1.length := by
      rcases hrow.2 with ⟨h1, h2⟩ | ⟨g, cap, cur, h1, _⟩
      · injection h1 with _ h3 _; omega
      · injection h1
    go_wp2_with fail
    obtain ⟨hat0, hl, hc2, ht⟩ := piecesR_ok he
    have hmem := cutF_in t (t.size + 1) 0 false 0
    have hll := cutAll_len t
    have HAT := Lib.hid hat0
    have HEZ := Lib.hid he
    have HL := Lib.hid hl
    have HIN : Hid (∀ x, x ∈ (piecesR t).1 → 1 ≤ x.1 ∧ x.1 ≤ 8 ∧ 1 ≤ x.2.2 ∧ x.2.1 + x.2.2 ≤ t.size) := Lib.hid (by rw [hl]; exact hmem)
    have HLEN : (piecesR t).1.length ≤ 20000 := by rw [hl]; omega
    have HTK : Hid (toksR t = (piecesR t).1.filter fun x => isTok x.1) := Lib.hid rfl
    have HE := Lib.hid (fun (W : World) (h : Below w.heap.size w W) => E.below E.size h)
    clear hat0 hl hc2 hmem hll he he' HP E
    subst hn0
    have HR := Lib.hid hrow; have HB := Lib.hid hb
    clear hrow hb
    generalize (piecesR t).1 = l at *
    obtain ⟨i0, hi, hz0, hz1, hz2⟩ := info_parts infoT
    go_loopw [8, 23] (fun tv iv wr => ∃ k : Nat, k ≤ l.length ∧ iv = .int .i64 k ∧ wr.ownsRow w1.heap.size 51 5 tv ((l.take k).filter fun x => isTok x.1).length (flatT t ((l.take k).filter fun x => isTok x.1)) ∧ Below w1.heap.size w1 wr) (fun _ iv _ => l.length - (intOf iv).toNat)
    case atStart => exact ⟨0, by omega, rfl, World.ownsRow_nil _ _ _ _, Below.refl _ _⟩
    case round =>
      obtain ⟨k, hk, rfl, hro, hbe⟩ := hrel
      have HRO := Lib.hid hro; have HBE := Lib.hid hbe
      clear hro hbe
      by_cases hlt : k < l.length
      · obtain ⟨x, hx⟩ : ∃ x, l[k]? = some x := ⟨_, List.getElem?_eq_getElem hlt⟩
        obtain ⟨g, rfl⟩ : ∃ g, b0 = some ⟨g, 0, none⟩ := by
          rcases HR.out.2 with ⟨h1, h2⟩ | ⟨g, cap, cur, h1, _⟩
          · omega
          · injection h1 with h1 _ _; exact ⟨g, h1⟩
        have hgl := HR.out.lt g rfl
        have hcell := HR.out.cells (g := g) rfl
        have e0 : wr.cell? ⟨g, k * 3, none⟩ = some (.int .i64 (x.1 : Int)) := (HBE.out.cell (p := ⟨g, k * 3, none⟩) hgl.2).trans (by have := hcell (k * 3 + 0) _ (by rw [flatP_get l k 0 x hx (by omega)]; rfl); rw [Addr.add_zero_off] at this; exact this)
        have e1 : wr.cell? ⟨g, k * 3 + 1, none⟩ = some (.int .i64 (x.2.1 : Int)) := (HBE.out.cell (p := ⟨g, k * 3 + 1, none⟩) hgl.2).trans (by have := hcell (k * 3 + 1) _ (by rw [flatP_get l k 1 x hx (by omega)]; rfl); rw [Addr.add_zero_off] at this; exact this)
        have e2 : wr.cell? ⟨g, k * 3 + 2, none⟩ = some (.int .i64 (x.2.2 : Int)) := (HBE.out.cell (p := ⟨g, k * 3 + 2, none⟩) hgl.2).trans (by have := hcell (k * 3 + 2) _ (by rw [flatP_get l k 2 x hx (by omega)]; rfl); rw [Addr.add_zero_off] at this; exact this)
        clear hcell
        have hxin := HIN.out x (List.mem_iff_getElem?.2 ⟨k, hx⟩)
        go_wp2_with fail
        refine (isToken_any (x.1 : Int) _).mono ?_
        rintro e w2 ⟨rfl, rfl⟩
        cases hb : isTok x.1
        · have hb' : (decide (1 ≤ (x.1 : Int)) && decide ((x.1 : Int) ≤ 6)) = false := hb
          simp only [hb']
          go_wp2_with fail
          have hf := take_filter_succ l k x hx
          rw [hb] at hf
          simp only [Bool.false_eq_true, if_false, List.append_nil] at hf
          refine ⟨⟨k + 1, hlt, by simp, by rw [hf]; exact HRO.out.alloc _, HBE.out.alloc HBE.out.size _⟩, by simp only [intOf]; omega⟩
        · have hb' : (decide (1 ≤ (x.1 : Int)) && decide ((x.1 : Int) ≤ 6)) = true := hb
          simp only [hb']
          have hB2 : Below w1.heap.size w1 (wr.alloc (.cells #[.int .i64 (x.1 : Int), .int .i64 (x.2.1 : Int), .int .i64 (x.2.2 : Int)] 59)) := HBE.out.alloc HBE.out.size _
          have HB2 := Lib.hid hB2
          clear hB2
          go_wp2_with fail
          refine (token_any t x.1 x.2.1 x.2.2 hxin.2.2.2 (by omega) _ (HE.out _ (HB.out.trans (HB2.out.mono HB.out.size)))).mono ?_
          rintro e w3 ⟨rfl, hb3⟩
          have H3 := Lib.hid (HB2.out.trans (hb3.mono HB2.out.size))
          have R3 := Lib.hid (row_same (HRO.out.alloc (.cells #[.int .i64 (x.1 : Int), .int .i64 (x.2.1 : Int), .int .i64 (x.2.2 : Int)] 59)) (fun j _ h2 => hb3.block j h2))
          have hfl : ((l.take k).filter fun x => isTok x.1).length ≤ 20000 := Nat.le_trans (List.length_filter_le _ _) (by rw [List.length_take]; omega)
          have HNEW : Hid (∀ j u, (cellsT t x)[j]? = some u → (w3.alloc (.cells #[.int .i64 (x.1 : Int), .int .i64 (numT t (x.1, x.2.1, x.2.2)), .string (cutB t x.2.1 x.2.2), .int .i64 (x.2.1 : Int), .int .i64 0] 51)).cell? ((⟨w3.heap.size, 0, none⟩ : Addr).add j) = some u) := Lib.hid (by
            intro j u hj
            match j, hj with
            | 0, hj => simp [cellsT] at hj; subst hj; simp [Addr.add]
            | 1, hj => simp [cellsT] at hj; subst hj; simp [Addr.add]
            | 2, hj => simp [cellsT] at hj; subst hj; simp [Addr.add]
            | 3, hj => simp [cellsT] at hj; subst hj; simp [Addr.add]
            | 4, hj => simp [cellsT] at hj; subst hj; simp [Addr.add]
            | j + 5, hj => simp [cellsT] at hj)
          have hs3 : w1.heap.size ≤ w3.heap.size := H3.out.size
          clear hb3
          go_wp2_with (at_builtin; (refine wpList_append_own _ rfl _ _ 30 rfl w1.heap.size 51 i0 (.agg #[.int .i64 0, .int .i64 0, .string ⟨#[]⟩, .int .i64 0, .int .i64 0]) 5 48 Tryz.underlying30 hi hz0 hz1 hz2 rfl (by decide) _ _ _ rfl (R3.out.alloc _) ⟨w3.heap.size, 0, none⟩ 1 1 (cellsT t x) rfl rfl HNEW.out (by simp [cellsT, Value.oneCell']) (by unfold maxLen; omega) (by omega) (by simp; omega) ?_); intro v' w4 hown' hgrow _; have HOWN := Lib.hid hown'; have HG := Lib.hid hgrow; clear hown' hgrow)
          have hf := take_filter_succ l k x hx
          rw [hb] at hf
          simp only [if_true] at hf
          refine ⟨⟨k + 1, hlt, by simp, ?_, ?_⟩, by simp only [intOf]; omega⟩
          · rw [hf, flatT_snoc, List.length_append]; exact HOWN.out
          · exact Below.grown (H3.out.alloc H3.out.size _) HG.out (by simp; omega) (fun j hj => (HRO.out.lt j hj).1)
      · have hkl : k = l.length := by omega
        subst hkl
        go_wp2_with fail
        refine bodyPost_ret (v := .tuple #[u8, .int .i64 0, .int .i64 0]) ?_ rfl ⟨u8, by rw [HAT.out, HEZ.out]; rfl, ?_, HB.out.trans (HBE.out.mono HB.out.size)⟩
        · simp [results, Tryz.results10, go_sem]
        · have := HRO.out
          rw [List.take_length] at this
          rw [HTK.out]
          exact row_down this HB.out.size
  · have he' : (((piecesR t).2.2 : Int) != 0) = true := by rw [bne_iff_ne]; omega
    have hbad := piecesR_bad he
    go_enter Tryz.func10, Tryz.ntmps10
    go_wp2_with fail
    refine HP.out.mono ?_
    rintro e w1 ⟨v, rfl, hrow, hb⟩
    have HB := Lib.hid hb
    clear hrow hb HP E
    go_wp2_with fail
    refine bodyPost_ret (v := .tuple #[.slice none 0 0, .int .i64 ((piecesR t).2.1 : Int), .int .i64 ((piecesR t).2.2 : Int)]) ?_ rfl ⟨_, rfl, ?_, HB.out⟩
    · simp [results, Tryz.results10, go_sem]
    · rw [show toksR t = [] by simp [toksR, hbad]]; exact World.ownsRow_nil _ _ _ _
end

section
open Go.RowKit

def okS (t : ByteArray) (at' del : Int) : Bool := decide (0 ≤ at') && decide (at' ≤ (t.size : Int)) && decide (0 ≤ del) && decide (del ≤ (t.size : Int) - at')
/-- The text with a splice. -/
def spliceB (t : ByteArray) (a d : Nat) (ins : ByteArray) : ByteArray := t.extract 0 a ++ ins ++ t.extract (a + d) t.size

theorem change_ok (t ins : ByteArray) (a d : Nat) (h : a + d ≤ t.size) (hi : t.size + ins.size ≤ 9223372036854775807) (w : World) :
    Calls Tryz.prog 14 #[.string t, .agg #[.int .i64 (a : Int), .int .i64 (d : Int), .string ins]] w fun e w' =>
      e = .returned (.tuple #[.string (spliceB t a d ins), .int .i64 0]) ∧ Below w.heap.size w w' := by
  have hw : IntKind.i64.wrap ((a : Int) + (d : Int)) = (a : Int) + (d : Int) := IntWalk.i64_in _ (by omega)
  have h1 : ((a : Int) < 0) = False := by simp
  have h2 : ((d : Int) < 0) = False := by simp
  have h3 : (a : Int) + (d : Int) ≤ (t.size : Int) := by omega
  have h4 : (0 : Int) ≤ (a : Int) + (d : Int) := by omega
  have h5 : ((a : Int) + (d : Int)).toNat = a + d := by omega
  have h6 : a ≤ t.size := by omega
  have h6' : (t.size < a) = False := by simp; omega
  have h8 : (9223372036854775807 < a + ins.size) = False := by simp; omega
  have h9 : (9223372036854775807 < a + ins.size + (t.size - (a + d))) = False := by simp; omega
  have h7 : ((t.size : Int) - (a : Int) < (d : Int)) = False := by simp; omega
  go_enter Tryz.func14, Tryz.ntmps14
  go_wp2_with fail
  go_region_held3 (fun w' => w'.cell? ⟨w.heap.size, 0, none⟩ = some (.int .i64 (a : Int)) ∧ w'.cell? ⟨w.heap.size, 1, none⟩ = some (.int .i64 (d : Int)) ∧ w'.cell? ⟨w.heap.size, 2, none⟩ = some (.string ins)) (go_keep) (fail)
  all_goals go_wp2_with fail
  refine bodyPost_ret (v := .tuple #[.string (spliceB t a d ins), .int .i64 0]) ?_ rfl ⟨rfl, ?_⟩
  · simp [results, Tryz.results14, go_sem, spliceB]
  · exact ((Below.refl _ w).alloc (Nat.le_refl _) _).drew

theorem change_no (t ins : ByteArray) (a d : Int) (h : a < 0 ∨ (t.size : Int) < a ∨ d < 0 ∨ (t.size : Int) - a < d) (ht : t.size ≤ 9223372036854775807) (w : World) :
    Calls Tryz.prog 14 #[.string t, .agg #[.int .i64 a, .int .i64 d, .string ins]] w fun e w' =>
      e = .returned (.tuple #[.string ⟨#[]⟩, .int .i64 1]) ∧ Below w.heap.size w w' := by
  by_cases h1 : a < 0
  · have h1' : (a < 0) = True := by simp [h1]
    go_enter Tryz.func14, Tryz.ntmps14
    go_wp2_with fail
    refine bodyPost_ret (v := .tuple #[.string ⟨#[]⟩, .int .i64 1]) (by simp [results, Tryz.results14, go_sem]) rfl ⟨rfl, (Below.refl _ w).alloc (Nat.le_refl _) _⟩
  · have h1' : (a < 0) = False := by simp [h1]
    by_cases h2 : (t.size : Int) < a
    · have h2' : ((t.size : Int) < a) = True := by simp [h2]
      go_enter Tryz.func14, Tryz.ntmps14
      go_wp2_with fail
      refine bodyPost_ret (v := .tuple #[.string ⟨#[]⟩, .int .i64 1]) (by simp [results, Tryz.results14, go_sem]) rfl ⟨rfl, (Below.refl _ w).alloc (Nat.le_refl _) _⟩
    · have hw : IntKind.i64.wrap ((t.size : Int) - a) = (t.size : Int) - a := IntWalk.i64_in _ (by omega)
      have h2' : ((t.size : Int) < a) = False := by simp; omega
      by_cases h3 : d < 0
      · have h3' : (d < 0) = True := by simp [h3]
        go_enter Tryz.func14, Tryz.ntmps14
        go_wp2_with fail
        refine bodyPost_ret (v := .tuple #[.string ⟨#[]⟩, .int .i64 1]) (by simp [results, Tryz.results14, go_sem]) rfl ⟨rfl, (Below.refl _ w).alloc (Nat.le_refl _) _⟩
      · have h3' : (d < 0) = False := by simp [h3]
        have h4' : ((t.size : Int) - a < d) = True := by simp; omega
        go_enter Tryz.func14, Tryz.ntmps14
        go_wp2_with fail
        refine bodyPost_ret (v := .tuple #[.string ⟨#[]⟩, .int .i64 1]) (by simp [results, Tryz.results14, go_sem]) rfl ⟨rfl, (Below.refl _ w).alloc (Nat.le_refl _) _⟩
end

section
open Go.RowKit

/-- Cells of a row of pieces. -/
def PcsAt (w : World) (g : Nat) (l : List (Nat × Nat × Nat)) : Prop := ∀ j u, (flatP l)[j]? = some u → w.cell? ⟨g, j, none⟩ = some u
theorem PcsAt.c0 {w : World} {g : Nat} {l : List (Nat × Nat × Nat)} (h : PcsAt w g l) {k : Nat} {x : Nat × Nat × Nat} (hx : l[k]? = some x) : w.cell? ⟨g, k * 3, none⟩ = some (.int .i64 (x.1 : Int)) :=
  h (k * 3 + 0) _ (by rw [flatP_get l k 0 x hx (by omega)]; rfl)
theorem PcsAt.c1 {w : World} {g : Nat} {l : List (Nat × Nat × Nat)} (h : PcsAt w g l) {k : Nat} {x : Nat × Nat × Nat} (hx : l[k]? = some x) : w.cell? ⟨g, k * 3 + 1, none⟩ = some (.int .i64 (x.2.1 : Int)) :=
  h (k * 3 + 1) _ (by rw [flatP_get l k 1 x hx (by omega)]; rfl)
theorem PcsAt.c2 {w : World} {g : Nat} {l : List (Nat × Nat × Nat)} (h : PcsAt w g l) {k : Nat} {x : Nat × Nat × Nat} (hx : l[k]? = some x) : w.cell? ⟨g, k * 3 + 2, none⟩ = some (.int .i64 (x.2.2 : Int)) :=
  h (k * 3 + 2) _ (by rw [flatP_get l k 2 x hx (by omega)]; rfl)
theorem PcsAt.kept {w w' : World} {g : Nat} {l : List (Nat × Nat × Nat)} (h : PcsAt w g l) (hk : ∀ j, w'.cell? ⟨g, j, none⟩ = w.cell? ⟨g, j, none⟩) : PcsAt w' g l :=
  fun j u hu => (hk j).trans (h j u hu)

/-- How many pieces lie well ahead of a place, from the k-th on. -/
def unrN (l : List (Nat × Nat × Nat)) (place : Int) (k : Nat) : Nat :=
  if h : k < l.length then (if (l[k].2.1 : Int) + (l[k].2.2 : Int) + 100 + 1 < place then unrN l place (k + 1) else k) else k
termination_by l.length - k

theorem unrN_on {l : List (Nat × Nat × Nat)} {place : Int} {k : Nat} {x : Nat × Nat × Nat} (hx : l[k]? = some x) (h : (x.2.1 : Int) + (x.2.2 : Int) + 100 + 1 < place) : unrN l place k = unrN l place (k + 1) := by
  obtain ⟨hk, rfl⟩ := List.getElem?_eq_some_iff.1 hx
  rw [unrN]; simp [hk, h]
theorem unrN_stop {l : List (Nat × Nat × Nat)} {place : Int} {k : Nat} {x : Nat × Nat × Nat} (hx : l[k]? = some x) (h : ¬ (x.2.1 : Int) + (x.2.2 : Int) + 100 + 1 < place) : unrN l place k = k := by
  obtain ⟨hk, rfl⟩ := List.getElem?_eq_some_iff.1 hx
  rw [unrN]; simp [hk, h]
theorem unrN_end {l : List (Nat × Nat × Nat)} {place : Int} {k : Nat} (h : ¬ k < l.length) : unrN l place k = k := by
  rw [unrN]; simp [h]

theorem unreached_some (g c : Nat) (l : List (Nat × Nat × Nat)) (place : Int) (hl : ∀ x ∈ l, x.2.1 + x.2.2 ≤ 1048576) (hn : l.length ≤ 1048576) (w : World) (hg : g < w.heap.size) (H : PcsAt w g l) :
    Calls Tryz.prog 80 #[.slice (some ⟨g, 0, none⟩) l.length c, .int .i64 place] w fun e w' => e = .returned (.int .i64 (unrN l place 0 : Int)) ∧ Below w.heap.size w w' := by
  go_enter Tryz.func80, Tryz.ntmps80
  go_wp2_with fail
  go_loopw [5] (fun n wr => ∃ k : Nat, k ≤ l.length ∧ n = .int .i64 k ∧ Hid (unrN l place k = unrN l place 0) ∧ Hid (Below w.heap.size w wr)) (fun n _ => l.length - (intOf n).toNat)
  case atStart => exact ⟨0, by omega, rfl, Lib.hid rfl, Lib.hid (Below.refl _ _)⟩
  case round =>
    obtain ⟨k, hk, rfl, hu, hbe⟩ := hrel
    by_cases hlt : k < l.length
    · obtain ⟨x, hx⟩ : ∃ x, l[k]? = some x := ⟨_, List.getElem?_eq_getElem hlt⟩
      have e1 : wr.cell? ⟨g, k * 3 + 1, none⟩ = some (.int .i64 (x.2.1 : Int)) := (hbe.out.cell (p := ⟨g, k * 3 + 1, none⟩) hg).trans (H.c1 hx)
      have e2 : wr.cell? ⟨g, k * 3 + 2, none⟩ = some (.int .i64 (x.2.2 : Int)) := (hbe.out.cell (p := ⟨g, k * 3 + 2, none⟩) hg).trans (H.c2 hx)
      have hb := hl x (List.mem_iff_getElem?.2 ⟨k, hx⟩)
      have w1 : IntKind.i64.wrap ((x.2.1 : Int) + (x.2.2 : Int)) = (x.2.1 : Int) + (x.2.2 : Int) := IntWalk.i64_in _ (by omega)
      have w2 : IntKind.i64.wrap ((x.2.1 : Int) + (x.2.2 : Int) + 100) = (x.2.1 : Int) + (x.2.2 : Int) + 100 := IntWalk.i64_in _ (by omega)
      have w3 : IntKind.i64.wrap ((x.2.1 : Int) + (x.2.2 : Int) + 100 + 1) = (x.2.1 : Int) + (x.2.2 : Int) + 100 + 1 := IntWalk.i64_in _ (by omega)
      have HU := Lib.hid (fun h => unrN_on (place := place) hx h)
      have HS := Lib.hid (fun h => unrN_stop (place := place) hx h)
      have hlt' : (k : Int) < (l.length : Int) := by omega
      by_cases hc : (x.2.1 : Int) + (x.2.2 : Int) + 100 + 1 < place
      · go_wp2_with fail
        go_region_held3 (fun w' => w'.cell? ⟨g, k * 3 + 1, none⟩ = some (.int .i64 (x.2.1 : Int)) ∧ w'.cell? ⟨g, k * 3 + 2, none⟩ = some (.int .i64 (x.2.2 : Int))) (go_keep) (fail)
        all_goals go_wp2_with fail
        go_roundw
        case rel => exact ⟨k + 1, by omega, by go_num, Lib.hid (by rw [← HU.out hc]; exact hu.out), Lib.hid hbe.out.drew⟩
        case measure => simp [intOf]; omega
      · go_wp2_with fail
        go_region_held3 (fun w' => w'.cell? ⟨g, k * 3 + 1, none⟩ = some (.int .i64 (x.2.1 : Int)) ∧ w'.cell? ⟨g, k * 3 + 2, none⟩ = some (.int .i64 (x.2.2 : Int))) (go_keep) (fail)
        all_goals go_wp2_with fail
        refine bodyPost_ret (v := .int .i64 (k : Int)) ?_ rfl ⟨by rw [← hu.out, HS.out hc], hbe.out.drew⟩
        simp [results, Tryz.results80, go_sem]
    · have hkl : k = l.length := by omega
      subst hkl
      go_wp2_with fail
      go_quiet (fail)
      go_wp2_with fail
      have HZ := unrN_end (place := place) (l := l) (k := l.length) (by omega)
      refine bodyPost_ret (v := .int .i64 (l.length : Int)) ?_ rfl ⟨by rw [← hu.out, HZ], ?_⟩
      · simp [results, Tryz.results80, go_sem]
      · have hb := hbe.out; exact ⟨hb.os, hb.tape, hb.output, hb.size, hb.block⟩

theorem unreached_none (b : Option Addr) (c : Nat) (place : Int) (w : World) :
    Calls Tryz.prog 80 #[.slice b 0 c, .int .i64 place] w fun e w' => e = .returned (.int .i64 0) ∧ Below w.heap.size w w' := by
  go_enter Tryz.func80, Tryz.ntmps80
  go_wp2_with fail
  go_loopw [5] (fun n wr => n = .int .i64 0 ∧ wr = w) (fun n _ => 0)
  case atStart => exact ⟨rfl, rfl⟩
  case round =>
    obtain ⟨rfl, rfl⟩ := hrel
    go_wp2_with fail
    go_quiet (fail)
    go_wp2_with fail
    refine bodyPost_ret (v := .int .i64 0) ?_ rfl ⟨rfl, ?_⟩
    · simp [results, Tryz.results80, go_sem]
    · exact ⟨rfl, rfl, rfl, Nat.le_refl _, fun _ _ => rfl⟩
end

section

theorem unrN_spec (l : List (Nat × Nat × Nat)) (place : Int) : ∀ (m k : Nat), l.length - k ≤ m → k ≤ l.length → k ≤ unrN l place k ∧ unrN l place k ≤ l.length ∧ ∀ j x, k ≤ j → j < unrN l place k → l[j]? = some x → (x.2.1 : Int) + (x.2.2 : Int) + 100 + 1 < place := by
  intro m
  induction m with
  | zero =>
    intro k hm hk
    rw [unrN_end (by omega)]
    exact ⟨Nat.le_refl _, hk, fun j x h1 h2 => by omega⟩
  | succ m ih =>
    intro k hm hk
    by_cases hlt : k < l.length
    · obtain ⟨x, hx⟩ : ∃ x, l[k]? = some x := ⟨_, List.getElem?_eq_getElem hlt⟩
      by_cases hc : (x.2.1 : Int) + (x.2.2 : Int) + 100 + 1 < place
      · rw [unrN_on hx hc]
        obtain ⟨h1, h2, h3⟩ := ih (k + 1) (by omega) (by omega)
        refine ⟨by omega, h2, fun j y hj hj2 hy => ?_⟩
        by_cases hjk : j = k
        · subst hjk; rw [hx] at hy; cases hy; exact hc
        · exact h3 j y (by omega) hj2 hy
      · rw [unrN_stop hx hc]
        exact ⟨Nat.le_refl _, hk, fun j x h1 h2 => by omega⟩
    · rw [unrN_end hlt]
      exact ⟨Nat.le_refl _, hk, fun j x h1 h2 => by omega⟩

theorem steps_det {t : ByteArray} : ∀ (l : List (Nat × Nat × Nat)) (i : Nat) (op : Bool) (c : Nat) (st st' : Nat × Bool × Nat), Steps t i op c l st → Steps t i op c l st' → st = st' := by
  intro l
  induction l with
  | nil => intro i op c st st' h h'; simp only [Steps] at h h'; rw [h, h']
  | cons x l ih =>
    intro i op c st st' h h'
    exact ih _ _ _ _ _ h.2.2.2.2 h'.2.2.2.2

theorem take_steps {t : ByteArray} {L : List (Nat × Nat × Nat)} {st : Nat × Bool × Nat} (h : Steps t 0 false 0 L st) (k : Nat) : ∃ s, Steps t 0 false 0 (L.take k) s ∧ Steps t s.1 s.2.1 s.2.2 (L.drop k) st := by
  rw [← List.take_append_drop k L] at h
  exact steps_split _ _ _ _ _ _ h

/-- The piece with an index, where the pieces ahead of it end. -/
theorem steps_next {t : ByteArray} {L : List (Nat × Nat × Nat)} {st s : Nat × Bool × Nat} {k : Nat} {x : Nat × Nat × Nat} (h : Steps t 0 false 0 L st) (hk : Steps t 0 false 0 (L.take k) s) (hx : L[k]? = some x) :
    x.2.1 = s.1 ∧ s.1 < t.size ∧ nextR t s.1 s.2.1 = .ok (x.1, x.2.2) ∧ ¬ (isTok x.1 = true ∧ s.2.2 = 6000) ∧ Steps t 0 false 0 (L.take (k + 1)) (s.1 + x.2.2, (if isTok x.1 then opE x.1 (cutB t s.1 x.2.2) else s.2.1), (if isTok x.1 then s.2.2 + 1 else s.2.2)) := by
  obtain ⟨s', h1, h2⟩ := take_steps h k
  have e := steps_det _ _ _ _ _ _ hk h1
  subst e
  obtain ⟨hlt, rfl⟩ := List.getElem?_eq_some_iff.1 hx
  rw [List.drop_eq_getElem_cons hlt] at h2
  obtain ⟨a1, a2, a3, a4, a5⟩ := h2
  refine ⟨a2, a1, a3, a4, ?_⟩
  rw [List.take_succ_eq_append_getElem hlt]
  exact steps_append _ _ _ _ _ _ _ hk ⟨a1, a2, a3, a4, rfl⟩
theorem steps_count {t : ByteArray} : ∀ (l : List (Nat × Nat × Nat)) (i : Nat) (op : Bool) (c : Nat) (st : Nat × Bool × Nat), Steps t i op c l st → c ≤ 6000 → st.2.2 ≤ 6000 := by
  intro l
  induction l with
  | nil => intro i op c st h hc; simp only [Steps] at h; subst h; exact hc
  | cons x l ih =>
    intro i op c st h hc
    obtain ⟨a1, a2, a3, a4, a5⟩ := h
    refine ih _ _ _ _ a5 ?_
    split
    · next ht => simp only [ht, true_and] at a4; omega
    · exact hc

/-- The pieces that lie well ahead of a splice stand in both texts. -/
theorem pre_both {t u : ByteArray} {L : List (Nat × Nat × Nat)} {st : Nat × Bool × Nat} {a : Nat} (h : Steps t 0 false 0 L st) (hA : Agree t u a) :
    ∃ s, Steps t 0 false 0 (L.take (unrN L a 0)) s ∧ Steps u 0 false 0 (L.take (unrN L a 0)) s := by
  obtain ⟨s, h1, _⟩ := take_steps h (unrN L a 0)
  refine ⟨s, h1, steps_local hA _ _ _ _ _ h1 fun x hx => ?_⟩
  obtain ⟨j, hj⟩ := List.mem_iff_getElem?.1 hx
  have hj' := hj
  rw [List.getElem?_take] at hj
  split at hj
  · next hlt =>
    have := (unrN_spec L a L.length 0 (by omega) (by omega)).2.2 j x (by omega) hlt hj
    omega
  · cases hj

/-- How passing on goes, piece by piece: the count of tokens so far. -/
theorem passAll_step {M : List (Nat × Nat × Nat)} {q c : Nat} {y : Nat × Nat × Nat} (hy : M[q]? = some y) : passAll (M.drop q) c = if isTok y.1 = true ∧ c = 6000 then some y.2.1 else passAll (M.drop (q + 1)) (if isTok y.1 then c + 1 else c) := by
  obtain ⟨hlt, rfl⟩ := List.getElem?_eq_some_iff.1 hy
  rw [List.drop_eq_getElem_cons hlt, passAll]
end

section

def tx1 : ByteArray := ⟨#[100, 101, 102, 105, 110, 101, 32, 99, 108, 97, 115, 115, 32, 60, 112, 111, 105, 110, 116, 62, 32, 40, 60, 111, 98, 106, 101, 99, 116, 62, 41, 32, 101, 110, 100, 59]⟩
def tx2 : ByteArray := ⟨#[102, 40, 97, 32, 45, 32, 45, 51, 44, 32, 98, 45, 50, 41]⟩
def tx3 : ByteArray := ⟨#[35, 116, 114, 117, 101]⟩
def tx4 : ByteArray := ⟨#[48, 48, 55]⟩
def tx5 : ByteArray := ⟨#[97, 32, 47, 42, 32, 98, 32, 42, 47, 32, 99]⟩
def tx6 : ByteArray := ⟨#[97, 32, 98, 32, 99]⟩
def tx7 : ByteArray := ⟨#[97, 32, 100, 100, 32, 99]⟩
def ls6 : List (Nat × Nat × Nat) := [(1, 0, 1), (7, 1, 1), (1, 2, 1), (7, 3, 1), (1, 4, 1)]
def ls7 : List (Nat × Nat × Nat) := [(1, 0, 1), (7, 1, 1), (1, 2, 2), (7, 4, 1), (1, 5, 1)]
set_option maxRecDepth 100000 in
theorem pc1 : piecesR tx1 = ([(1, 0, 6), (7, 6, 1), (1, 7, 5), (7, 12, 1), (1, 13, 7), (7, 20, 1), (5, 21, 1), (1, 22, 8), (5, 30, 1), (7, 31, 1), (1, 32, 3), (5, 35, 1)], 0, 0) := by decide +kernel
set_option maxRecDepth 100000 in
theorem pc2 : piecesR tx2 = ([(1, 0, 1), (5, 1, 1), (1, 2, 1), (7, 3, 1), (5, 4, 1), (7, 5, 1), (2, 6, 2), (5, 8, 1), (7, 9, 1), (1, 10, 3), (5, 13, 1)], 0, 0) := by decide +kernel
set_option maxRecDepth 100000 in
theorem pc3 : piecesR tx3 = ([], 0, 12) := by decide +kernel
set_option maxRecDepth 100000 in
theorem pc4 : piecesR tx4 = ([], 0, 11) := by decide +kernel
set_option maxRecDepth 100000 in
theorem pc5 : piecesR tx5 = ([(1, 0, 1), (7, 1, 1), (8, 2, 7), (7, 9, 1), (1, 10, 1)], 0, 0) := by decide +kernel
set_option maxRecDepth 100000 in
theorem pc6 : piecesR tx6 = (ls6, 0, 0) := by decide +kernel
set_option maxRecDepth 100000 in
theorem pc7 : piecesR tx7 = (ls7, 0, 0) := by decide +kernel

theorem fault_pos {t : ByteArray} {i : Nat} {op : Bool} {c : Nat} (h : nextR t i op = .error c) : c ≠ 0 := by
  rintro rfl
  unfold nextR at h
  split at h
  · cases h
  · split at h
    · split at h
      · cases h
      · rename_i c hM
        simp only [Except.error.injEq] at h
        subst h
        exact absurd rfl (nested_err _ _ _ _ _ (Nat.le_refl _) hM)
    · split at h
      · cases h
      · split at h
        · cases h
        · rename_i hf
          simp only [Except.error.injEq] at h
          exact hf h
theorem cutF_pos {t : ByteArray} : ∀ (f i : Nat) (op : Bool) (n : Nat) (p : Nat × Nat), (cutF t f i op n).2 = some p → p.2 ≠ 0 := by
  intro f
  induction f with
  | zero => intro i op n p h; cases h
  | succ f ih =>
    intro i op n p h
    rw [cutF] at h
    split at h
    · cases hp : nextR t i op with
      | error c =>
        rw [hp] at h
        simp only [Option.some.injEq] at h
        subst h
        exact fault_pos hp
      | ok q =>
        rw [hp] at h
        simp only at h
        split at h
        · simp only [Option.some.injEq] at h
          subst h; simp
        · exact ih _ _ _ _ h
    · cases h

/-- A text without an error: its size, and its pieces one after another. -/
theorem pieces_ok {t : ByteArray} (h : (piecesR t).2.2 = 0) : t.size ≤ 20000 ∧ (piecesR t).2.1 = 0 ∧ cutAll t = ((piecesR t).1, none) ∧ ∃ op c, Steps t 0 false 0 (piecesR t).1 (t.size, op, c) := by
  by_cases hs : 20000 < t.size
  · simp [piecesR, hs] at h
  · cases hend : (cutAll t).2 with
    | none =>
      have hr : piecesR t = ((cutAll t).1, 0, 0) := by simp [piecesR, hend, hs]
      refine ⟨by omega, by rw [hr], by rw [hr]; exact Prod.ext rfl hend, ?_⟩
      rw [hr]
      exact cutF_steps (t.size + 1) 0 false 0 (by omega) (by omega) hend
    | some p =>
      have hr : piecesR t = ([], p.1, p.2) := by simp [piecesR, hend, hs]
      rw [hr] at h
      exact absurd h (cutF_pos _ _ _ _ _ hend)
theorem pieces_bad {t : ByteArray} (h : (piecesR t).2.2 ≠ 0) : (piecesR t).1 = [] := by
  by_cases hs : 20000 < t.size
  · simp [piecesR, hs]
  · cases hend : (cutAll t).2 with
    | none => simp [piecesR, hend, hs] at h
    | some p => simp [piecesR, hend, hs]
end

section
open Go.RowKit

theorem eq_pieceB (a b c a' b' c' : Int) (w : World) : (Op.equalIn 10000 59 (.agg #[.int .i64 a, .int .i64 b, .int .i64 c]) (.agg #[.int .i64 a', .int .i64 b', .int .i64 c'])).run Tryz.prog w = .ok (a == a' && (b == b' && c == c')) w := by
  have u3 := Tryz.underlying3
  have a3 := Tryz.isAgg3
  have z3 := Tryz.sizeOf3
  have hS : Tryz.prog.underlying 59 = some (.struct (Tryz.prog.fieldsOf 59)) := by kernel_rfl
  rw [show (10000 : Nat) = 9999 + 1 from rfl, run_equalIn_agg w 9999 59 _ _ hS (by kernel_rfl)]
  simp only [Program.fieldsOf, Tryz.underlying59]
  go_simp
  by_cases h1 : a = a' <;> by_cases h2 : b = b' <;> by_cases h3 : c = c' <;> simp [h1, h2, h3]
theorem guard_pieceB : Tryz.prog.eqGuardType Tryz.prog.depth 59 = false := by kernel_rfl
theorem run_eql_piece (x y : Nat × Nat × Nat) (w : World) : (binOp .eql 59 (.agg #[.int .i64 (x.1 : Int), .int .i64 (x.2.1 : Int), .int .i64 (x.2.2 : Int)]) (.agg #[.int .i64 (y.1 : Int), .int .i64 (y.2.1 : Int), .int .i64 (y.2.2 : Int)])).run Tryz.prog w = .ok (.bool (decide (x = y))) w := by
  rw [run_eql_struct, eq_pieceB]
  obtain ⟨x1, x2, x3⟩ := x
  obtain ⟨y1, y2, y3⟩ := y
  simp only [Result.andThen_ok, Prod.mk.injEq]
  congr 2
  by_cases h1 : x1 = y1 <;> by_cases h2 : x2 = y2 <;> by_cases h3 : x3 = y3 <;> simp [h1, h2, h3] <;> omega
theorem run_guard_piece (op : BinOp) (x y : Operand) (xs ys : Array Value) (w : World) : (eqGuard op 59 x y (.agg xs) (.agg ys)).run Tryz.prog w = .ok () w := run_eqGuard_agg w op _ x y xs ys guard_pieceB
/-- Is a piece the same but for its place? -/
def moved (shift : Int) (x y : Nat × Nat × Nat) : Bool := decide (x.1 = y.1) && decide ((x.2.1 : Int) + shift = (y.2.1 : Int)) && decide (x.2.2 = y.2.2)
theorem run_neq_moved (x y : Nat × Nat × Nat) (shift : Int) (w : World) : (binOp .neq 59 (.agg #[.int .i64 (x.1 : Int), .int .i64 ((x.2.1 : Int) + shift), .int .i64 (x.2.2 : Int)]) (.agg #[.int .i64 (y.1 : Int), .int .i64 (y.2.1 : Int), .int .i64 (y.2.2 : Int)])).run Tryz.prog w = .ok (.bool (!moved shift x y)) w := by
  rw [run_neq_struct, eq_pieceB]
  obtain ⟨x1, x2, x3⟩ := x
  obtain ⟨y1, y2, y3⟩ := y
  simp only [Result.andThen_ok, moved]
  congr 3
  by_cases h1 : x1 = y1 <;> by_cases h2 : (x2 : Int) + shift = y2 <;> by_cases h3 : x3 = y3 <;> simp [h1, h2, h3] <;> omega
attribute [local go_sem 5000] run_eql_piece run_guard_piece run_neq_moved
/-- How many pieces at the beginning are the same, from the k-th on. -/
def frontN (l m : List (Nat × Nat × Nat)) (k : Nat) : Nat :=
  if h : k < l.length ∧ k < m.length then (if l[k] = m[k] then frontN l m (k + 1) else k) else k
termination_by l.length - k
/-- How many pieces at the end are the same, from the k-th to the last on. -/
def backN (l m : List (Nat × Nat × Nat)) (shift : Int) (f k : Nat) : Nat :=
  if h : f + k < l.length ∧ f + k < m.length then (if moved shift (l[l.length - 1 - k]'(by omega)) (m[m.length - 1 - k]'(by omega)) then backN l m shift f (k + 1) else k) else k
termination_by l.length - k

theorem frontN_on {l m : List (Nat × Nat × Nat)} {k : Nat} {x y : Nat × Nat × Nat} (hx : l[k]? = some x) (hy : m[k]? = some y) (h : x = y) : frontN l m k = frontN l m (k + 1) := by
  obtain ⟨h1, rfl⟩ := List.getElem?_eq_some_iff.1 hx
  obtain ⟨h2, rfl⟩ := List.getElem?_eq_some_iff.1 hy
  rw [frontN]; simp [h1, h2, h]
theorem frontN_stop {l m : List (Nat × Nat × Nat)} {k : Nat} {x y : Nat × Nat × Nat} (hx : l[k]? = some x) (hy : m[k]? = some y) (h : x ≠ y) : frontN l m k = k := by
  obtain ⟨h1, rfl⟩ := List.getElem?_eq_some_iff.1 hx
  obtain ⟨h2, rfl⟩ := List.getElem?_eq_some_iff.1 hy
  rw [frontN]; simp [h1, h2, h]
theorem frontN_end {l m : List (Nat × Nat × Nat)} {k : Nat} (h : ¬ k < min l.length m.length) : frontN l m k = k := by
  rw [frontN, dif_neg (by omega)]
theorem backN_on {l m : List (Nat × Nat × Nat)} {shift : Int} {f k i j : Nat} {x y : Nat × Nat × Nat} (h : f + k < min l.length m.length) (hi : i = l.length - 1 - k) (hj : j = m.length - 1 - k) (hx : l[i]? = some x) (hy : m[j]? = some y) (hm : moved shift x y = true) : backN l m shift f k = backN l m shift f (k + 1) := by
  subst hi hj
  obtain ⟨h1, rfl⟩ := List.getElem?_eq_some_iff.1 hx
  obtain ⟨h2, rfl⟩ := List.getElem?_eq_some_iff.1 hy
  rw [backN, dif_pos ⟨by omega, by omega⟩, if_pos hm]
theorem backN_stop {l m : List (Nat × Nat × Nat)} {shift : Int} {f k i j : Nat} {x y : Nat × Nat × Nat} (h : f + k < min l.length m.length) (hi : i = l.length - 1 - k) (hj : j = m.length - 1 - k) (hx : l[i]? = some x) (hy : m[j]? = some y) (hm : moved shift x y = false) : backN l m shift f k = k := by
  subst hi hj
  obtain ⟨h1, rfl⟩ := List.getElem?_eq_some_iff.1 hx
  obtain ⟨h2, rfl⟩ := List.getElem?_eq_some_iff.1 hy
  rw [backN, dif_pos ⟨by omega, by omega⟩, if_neg (by rw [hm]; simp)]
theorem backN_end {l m : List (Nat × Nat × Nat)} {shift : Int} {f k : Nat} (h : ¬ f + k < min l.length m.length) : backN l m shift f k = k := by
  rw [backN, dif_neg (by omega)]
def kOf (b j : Nat) (w : World) : Nat := match w.cell? ⟨b, j, none⟩ with
  | some (.int _ i) => i.toNat
  | _ => 0
theorem kOf_eq {b j : Nat} {w : World} {k : Nat} (h : w.cell? ⟨b, j, none⟩ = some (.int .i64 k)) : kOf b j w = k := by simp [kOf, h]
/-- What holds between two rounds. -/
structure KRel (w : World) (f b : Nat) (wr : World) : Prop where
  below : Below w.heap.size w wr
  c0 : wr.cell? ⟨w.heap.size + 1, 0, none⟩ = some (.int .i64 f)
  c1 : wr.cell? ⟨w.heap.size + 1, 1, none⟩ = some (.int .i64 b)
  r0 : wr.cell? ⟨w.heap.size, 0, none⟩ = some (.int .i64 0)
  r1 : wr.cell? ⟨w.heap.size, 1, none⟩ = some (.int .i64 0)
  z0 : ∀ j, wr.frozen? ⟨w.heap.size, j, none⟩ = false
  z1 : ∀ j, wr.frozen? ⟨w.heap.size + 1, j, none⟩ = false
  size : w.heap.size + 2 ≤ wr.heap.size
theorem KRel.drew {w : World} {f b : Nat} {wr : World} (h : KRel w f b wr) : KRel w f b wr.drew :=
  ⟨h.below.drew, h.c0, h.c1, h.r0, h.r1, h.z0, h.z1, h.size⟩
theorem KRel.alloc {w : World} {f b : Nat} {wr : World} (h : KRel w f b wr) (o : Obj) : KRel w f b (wr.alloc o) := by
  have hb : ∀ k, k < wr.heap.size → (wr.alloc o).heap[k]? = wr.heap[k]? := fun k hk => Below.heap_alloc wr o k hk
  have hs := h.size
  have c : ∀ b' j, b' < wr.heap.size → (wr.alloc o).cell? ⟨b', j, none⟩ = wr.cell? ⟨b', j, none⟩ := fun b' j hb' => World.cell?_of_block (a := ⟨b', j, none⟩) (hb b' hb')
  have z : ∀ b' j, b' < wr.heap.size → (wr.alloc o).frozen? ⟨b', j, none⟩ = wr.frozen? ⟨b', j, none⟩ := fun b' j hb' => World.frozen?_of_block (a := ⟨b', j, none⟩) (hb b' hb')
  exact ⟨h.below.alloc h.below.size _, (c _ _ (by omega)).trans h.c0, (c _ _ (by omega)).trans h.c1, (c _ _ (by omega)).trans h.r0, (c _ _ (by omega)).trans h.r1, fun j => (z _ _ (by omega)).trans (h.z0 j), fun j => (z _ _ (by omega)).trans (h.z1 j), by simp; omega⟩
theorem KRel.other {w : World} {f b : Nat} {wr : World} (h : KRel w f b wr) (p j : Nat) (v : Value) (hp : w.heap.size + 2 ≤ p) : KRel w f b (wr.setCell ⟨p, j, none⟩ v) := by
  have c : ∀ b' j', b' ≠ p → (wr.setCell ⟨p, j, none⟩ v).cell? ⟨b', j', none⟩ = wr.cell? ⟨b', j', none⟩ := fun b' j' hb' => World.cell?_of_block (a := ⟨b', j', none⟩) (Below.heap_setCell wr ⟨p, j, none⟩ v b' hb')
  exact ⟨h.below.setCell (p := ⟨p, j, none⟩) (by simp; omega) _, (c _ _ (by omega)).trans h.c0, (c _ _ (by omega)).trans h.c1, (c _ _ (by omega)).trans h.r0, (c _ _ (by omega)).trans h.r1, fun j' => by rw [World.frozen?_setCell]; exact h.z0 j', fun j' => by rw [World.frozen?_setCell]; exact h.z1 j', by simpa using h.size⟩
theorem KRel.front {w : World} {f b : Nat} {wr : World} (h : KRel w f b wr) (v : Nat) : KRel w v b (wr.setCell ⟨w.heap.size + 1, 0, none⟩ (.int .i64 v)) := by
  have hn : (⟨w.heap.size + 1, 0, none⟩ : Addr) ≠ ⟨w.heap.size + 1, 1, none⟩ := by simp
  have c : ∀ j', (wr.setCell ⟨w.heap.size + 1, 0, none⟩ (.int .i64 v)).cell? ⟨w.heap.size, j', none⟩ = wr.cell? ⟨w.heap.size, j', none⟩ := fun j' => World.cell?_of_block (a := ⟨w.heap.size, j', none⟩) (Below.heap_setCell wr ⟨w.heap.size + 1, 0, none⟩ _ _ (by simp))
  exact ⟨h.below.setCell (p := ⟨w.heap.size + 1, 0, none⟩) (by simp) _, World.cell?_setCell_same' _ _ _ (by rw [h.c0]; rfl), (World.cell?_setCell_other _ _ _ _ (by simp)).trans h.c1, (c _).trans h.r0, (c _).trans h.r1, fun j' => by rw [World.frozen?_setCell]; exact h.z0 j', fun j' => by rw [World.frozen?_setCell]; exact h.z1 j', by simpa using h.size⟩
theorem KRel.back {w : World} {f b : Nat} {wr : World} (h : KRel w f b wr) (v : Nat) : KRel w f v (wr.setCell ⟨w.heap.size + 1, 1, none⟩ (.int .i64 v)) := by
  have c : ∀ j', (wr.setCell ⟨w.heap.size + 1, 1, none⟩ (.int .i64 v)).cell? ⟨w.heap.size, j', none⟩ = wr.cell? ⟨w.heap.size, j', none⟩ := fun j' => World.cell?_of_block (a := ⟨w.heap.size, j', none⟩) (Below.heap_setCell wr ⟨w.heap.size + 1, 1, none⟩ _ _ (by simp))
  exact ⟨h.below.setCell (p := ⟨w.heap.size + 1, 1, none⟩) (by simp) _, (World.cell?_setCell_other _ _ _ _ (by simp)).trans h.c0, World.cell?_setCell_same' _ _ _ (by rw [h.c1]; rfl), (c _).trans h.r0, (c _).trans h.r1, fun j' => by rw [World.frozen?_setCell]; exact h.z0 j', fun j' => by rw [World.frozen?_setCell]; exact h.z1 j', by simpa using h.size⟩

set_option maxHeartbeats 4000000 in
set_option maxRecDepth 100000 in
theorem kept_some (g h cl cm : Nat) (l m : List (Nat × Nat × Nat)) (shift : Int) (hs : -1048576 ≤ shift ∧ shift ≤ 1048576) (hl : ∀ x ∈ l, x.2.1 + x.2.2 ≤ 1048576) (hln : l.length ≤ 1048576) (hmn : m.length ≤ 1048576) (w : World) (hg : g < w.heap.size) (hh : h < w.heap.size) (L : PcsAt w g l) (M : PcsAt w h m) :
    Calls Tryz.prog 57 #[.slice (some ⟨g, 0, none⟩) l.length cl, .slice (some ⟨h, 0, none⟩) m.length cm, .int .i64 shift] w fun e w' => e = .returned (.agg #[.int .i64 (frontN l m 0 : Int), .int .i64 (backN l m shift (frontN l m 0) 0 : Int)]) ∧ Below w.heap.size w w' := by
  obtain ⟨n, hn⟩ : ∃ n, n = min l.length m.length := ⟨_, rfl⟩
  have hm : min (l.length : Int) (m.length : Int) = (n : Int) := by omega
  have HEND : Hid (∀ k, ¬ k < n → frontN l m k = k) := Lib.hid (fun k hk => frontN_end (by omega))
  have hnl : n ≤ l.length := by omega
  have hnm : n ≤ m.length := by omega
  have HN := Lib.hid hn
  clear hn
  go_enter Tryz.func57, Tryz.ntmps57
  go_wp2_with fail
  go_loopw [] (fun wr => ∃ k : Nat, k ≤ n ∧ KRel w k 0 wr ∧ Hid (frontN l m k = frontN l m 0)) (fun wr => n - kOf (w.heap.size + 1) 0 wr)
  case atStart =>
    refine ⟨0, by omega, ⟨((Below.refl _ w).alloc (Nat.le_refl _) _).alloc (by simp) _, ?_, ?_, ?_, ?_, ?_, ?_, by simp⟩, Lib.hid rfl⟩
    · exact new_cell _ _ _ _ _ _ (by simp) rfl
    · exact new_cell _ _ _ _ _ _ (by simp) rfl
    · exact two_firstB _ _ _ _ _ _ _ rfl rfl
    · exact two_firstB _ _ _ _ _ _ _ rfl rfl
    · exact fun j => two_frozenB _ _ _ _ _ _ rfl
    · exact fun j => new_frozen _ _ _ _ _ (by simp)
  case round =>
    obtain ⟨k, hk, hr, hu⟩ := hrel
    have HR := Lib.hid hr
    clear hr
    have e0 := HR.out.c0
    have hz := HR.out.z1 0
    have hw : IntKind.i64.wrap ((k : Int) + 1) = (k : Int) + 1 := IntWalk.i64_in _ (by omega)
    by_cases hlt : k < n
    · obtain ⟨x, hx⟩ : ∃ x, l[k]? = some x := ⟨_, List.getElem?_eq_getElem (by omega)⟩
      obtain ⟨y, hy⟩ : ∃ y, m[k]? = some y := ⟨_, List.getElem?_eq_getElem (by omega)⟩
      have l0 : wr.cell? ⟨g, k * 3, none⟩ = some (.int .i64 (x.1 : Int)) := (HR.out.below.cell (p := ⟨g, k * 3, none⟩) hg).trans (L.c0 hx)
      have l1 : wr.cell? ⟨g, k * 3 + 1, none⟩ = some (.int .i64 (x.2.1 : Int)) := (HR.out.below.cell (p := ⟨g, k * 3 + 1, none⟩) hg).trans (L.c1 hx)
      have l2 : wr.cell? ⟨g, k * 3 + 2, none⟩ = some (.int .i64 (x.2.2 : Int)) := (HR.out.below.cell (p := ⟨g, k * 3 + 2, none⟩) hg).trans (L.c2 hx)
      have m0 : wr.cell? ⟨h, k * 3, none⟩ = some (.int .i64 (y.1 : Int)) := (HR.out.below.cell (p := ⟨h, k * 3, none⟩) hh).trans (M.c0 hy)
      have m1 : wr.cell? ⟨h, k * 3 + 1, none⟩ = some (.int .i64 (y.2.1 : Int)) := (HR.out.below.cell (p := ⟨h, k * 3 + 1, none⟩) hh).trans (M.c1 hy)
      have m2 : wr.cell? ⟨h, k * 3 + 2, none⟩ = some (.int .i64 (y.2.2 : Int)) := (HR.out.below.cell (p := ⟨h, k * 3 + 2, none⟩) hh).trans (M.c2 hy)
      have h1 : (k : Int) < (n : Int) := by omega
      have h2 : (k : Int) < (l.length : Int) := by omega
      have h3 : (k : Int) < (m.length : Int) := by omega
      go_wp2_with fail
      go_region_held3 (fun w' => w'.cell? ⟨w.heap.size + 1, 0, none⟩ = some (.int .i64 (k : Int)) ∧ w'.cell? ⟨g, k * 3, none⟩ = some (.int .i64 (x.1 : Int)) ∧ w'.cell? ⟨g, k * 3 + 1, none⟩ = some (.int .i64 (x.2.1 : Int)) ∧ w'.cell? ⟨g, k * 3 + 2, none⟩ = some (.int .i64 (x.2.2 : Int)) ∧ w'.cell? ⟨h, k * 3, none⟩ = some (.int .i64 (y.1 : Int)) ∧ w'.cell? ⟨h, k * 3 + 1, none⟩ = some (.int .i64 (y.2.1 : Int)) ∧ w'.cell? ⟨h, k * 3 + 2, none⟩ = some (.int .i64 (y.2.2 : Int))) (go_keep) (fail)
      by_cases hxy : x = y
      · have hd : decide (x = y) = true := by simp [hxy]
        have hon := frontN_on hx hy hxy
        have HON := Lib.hid hon
        clear hon hxy
        simp only [hd]
        go_wp2_with fail
        have hkr : KRel w (k + 1) 0 (wr.setCell ⟨w.heap.size + 1, 0, none⟩ (.int .i64 ((k + 1 : Nat) : Int))).drew := (HR.out.front (k + 1)).drew
        rw [show (((k + 1 : Nat)) : Int) = (k : Int) + 1 by omega] at hkr
        have hk1 := kOf_eq (k := k + 1) (by rw [show (((k + 1 : Nat)) : Int) = (k : Int) + 1 by omega]; exact hkr.c0)
        have hk0 := kOf_eq HR.out.c0
        refine ⟨⟨k + 1, hlt, hkr, Lib.hid (by rw [← HON.out]; exact hu.out)⟩, ?_⟩
        rw [hk1, hk0]; omega
      · have hd : decide (x = y) = false := by simp [hxy]
        have HFK : Hid (frontN l m k = k) := Lib.hid (frontN_stop hx hy hxy)
        have HKR : Hid (KRel w k 0 wr.drew) := Lib.hid HR.out.drew
        clear hxy
        simp only [hd]
        go_wp2_with fail
        clear hd hx hy l0 l1 l2 m0 m1 m2 h1 h2 h3
        have HK : Hid (frontN l m 0 = k) := Lib.hid (by rw [← hu.out]; exact HFK.out)
        have hkr : KRel w k 0 wr.drew := HKR.out
        go_loopw [] (fun wr => ∃ b : Nat, b ≤ n - k ∧ KRel w k b wr ∧ Hid (backN l m shift k b = backN l m shift k 0)) (fun wr => n - k - kOf (w.heap.size + 1) 1 wr)
        case atStart => exact ⟨0, by omega, hkr, Lib.hid rfl⟩
        case round =>
          obtain ⟨b, hb, hr2, hv⟩ := hrel
          clear HR hz e0
          have HR := Lib.hid hr2
          clear hr2
          have c0 := HR.out.c0
          have c1 := HR.out.c1
          have hz := HR.out.z1 1
          have hz00 := HR.out.z0 0
          have hz01 := HR.out.z0 1
          have hr0 := HR.out.r0
          have hr1 := HR.out.r1
          have wkb : IntKind.i64.wrap ((k : Int) + (b : Int)) = (k : Int) + (b : Int) := IntWalk.i64_in _ (by omega)
          by_cases hlt2 : k + b < n
          · obtain ⟨i, hi⟩ : ∃ i, i = l.length - 1 - b := ⟨_, rfl⟩
            obtain ⟨j, hj⟩ : ∃ j, j = m.length - 1 - b := ⟨_, rfl⟩
            obtain ⟨x, hx⟩ : ∃ x, l[i]? = some x := ⟨_, List.getElem?_eq_getElem (by omega)⟩
            obtain ⟨y, hy⟩ : ∃ y, m[j]? = some y := ⟨_, List.getElem?_eq_getElem (by omega)⟩
            have hxl := hl x (List.mem_iff_getElem?.2 ⟨i, hx⟩)
            have l0 : wr.cell? ⟨g, i * 3, none⟩ = some (.int .i64 (x.1 : Int)) := (HR.out.below.cell (p := ⟨g, i * 3, none⟩) hg).trans (L.c0 hx)
            have l1 : wr.cell? ⟨g, i * 3 + 1, none⟩ = some (.int .i64 (x.2.1 : Int)) := (HR.out.below.cell (p := ⟨g, i * 3 + 1, none⟩) hg).trans (L.c1 hx)
            have l2 : wr.cell? ⟨g, i * 3 + 2, none⟩ = some (.int .i64 (x.2.2 : Int)) := (HR.out.below.cell (p := ⟨g, i * 3 + 2, none⟩) hg).trans (L.c2 hx)
            have m0 : wr.cell? ⟨h, j * 3, none⟩ = some (.int .i64 (y.1 : Int)) := (HR.out.below.cell (p := ⟨h, j * 3, none⟩) hh).trans (M.c0 hy)
            have m1 : wr.cell? ⟨h, j * 3 + 1, none⟩ = some (.int .i64 (y.2.1 : Int)) := (HR.out.below.cell (p := ⟨h, j * 3 + 1, none⟩) hh).trans (M.c1 hy)
            have m2 : wr.cell? ⟨h, j * 3 + 2, none⟩ = some (.int .i64 (y.2.2 : Int)) := (HR.out.below.cell (p := ⟨h, j * 3 + 2, none⟩) hh).trans (M.c2 hy)
            have wi1 : IntKind.i64.wrap ((l.length : Int) - 1) = (l.length : Int) - 1 := IntWalk.i64_in _ (by omega)
            have wi2 : IntKind.i64.wrap ((l.length : Int) - 1 - (b : Int)) = (i : Int) := by rw [IntWalk.i64_in _ (by omega)]; omega
            have wj1 : IntKind.i64.wrap ((m.length : Int) - 1) = (m.length : Int) - 1 := IntWalk.i64_in _ (by omega)
            have wj2 : IntKind.i64.wrap ((m.length : Int) - 1 - (b : Int)) = (j : Int) := by rw [IntWalk.i64_in _ (by omega)]; omega
            have hil : i < l.length := by omega
            have hjm : j < m.length := by omega
            have hil' : (i : Int) < (l.length : Int) := by omega
            have hjm' : (j : Int) < (m.length : Int) := by omega
            have hlt3 : (k : Int) + (b : Int) < (n : Int) := by omega
            have wsh : IntKind.i64.wrap ((x.2.1 : Int) + shift) = (x.2.1 : Int) + shift := IntWalk.i64_in _ (by omega)
            have wb1 : IntKind.i64.wrap ((b : Int) + 1) = (b : Int) + 1 := IntWalk.i64_in _ (by omega)
            have HON : Hid (moved shift x y = true → backN l m shift k b = backN l m shift k (b + 1)) := Lib.hid (fun hm' => backN_on (by rw [← HN.out]; exact hlt2) hi hj hx hy hm')
            have HST : Hid (moved shift x y = false → backN l m shift k b = b) := Lib.hid (fun hm' => backN_stop (by rw [← HN.out]; exact hlt2) hi hj hx hy hm')
            clear hi hj
            have HA := Lib.hid (HR.out.alloc (.cells #[.int .i64 (x.1 : Int), .int .i64 ((x.2.1 : Int) + shift), .int .i64 (x.2.2 : Int)] 59))
            have d0 : (wr.alloc (.cells #[.int .i64 (x.1 : Int), .int .i64 ((x.2.1 : Int) + shift), .int .i64 (x.2.2 : Int)] 59)).cell? ⟨w.heap.size + 1, 0, none⟩ = some (.int .i64 (k : Int)) := HA.out.c0
            have d1 : (wr.alloc (.cells #[.int .i64 (x.1 : Int), .int .i64 ((x.2.1 : Int) + shift), .int .i64 (x.2.2 : Int)] 59)).cell? ⟨w.heap.size + 1, 1, none⟩ = some (.int .i64 (b : Int)) := HA.out.c1
            have dz := HA.out.z1 1
            have dz00 := HA.out.z0 0
            have dz01 := HA.out.z0 1
            have dr0 := HA.out.r0
            have dr1 := HA.out.r1
            have p0 : (wr.alloc (.cells #[.int .i64 (x.1 : Int), .int .i64 ((x.2.1 : Int) + shift), .int .i64 (x.2.2 : Int)] 59)).cell? ⟨wr.heap.size, 0, none⟩ = some (.int .i64 (x.1 : Int)) := new_cell _ _ _ _ _ _ rfl rfl
            have p1 : (wr.alloc (.cells #[.int .i64 (x.1 : Int), .int .i64 ((x.2.1 : Int) + shift), .int .i64 (x.2.2 : Int)] 59)).cell? ⟨wr.heap.size, 1, none⟩ = some (.int .i64 ((x.2.1 : Int) + shift)) := new_cell _ _ _ _ _ _ rfl rfl
            have p2 : (wr.alloc (.cells #[.int .i64 (x.1 : Int), .int .i64 ((x.2.1 : Int) + shift), .int .i64 (x.2.2 : Int)] 59)).cell? ⟨wr.heap.size, 2, none⟩ = some (.int .i64 (x.2.2 : Int)) := new_cell _ _ _ _ _ _ rfl rfl
            have q0 : (wr.alloc (.cells #[.int .i64 (x.1 : Int), .int .i64 ((x.2.1 : Int) + shift), .int .i64 (x.2.2 : Int)] 59)).cell? ⟨h, j * 3, none⟩ = some (.int .i64 (y.1 : Int)) := (HA.out.below.cell (p := ⟨h, j * 3, none⟩) hh).trans (M.c0 hy)
            have q1 : (wr.alloc (.cells #[.int .i64 (x.1 : Int), .int .i64 ((x.2.1 : Int) + shift), .int .i64 (x.2.2 : Int)] 59)).cell? ⟨h, j * 3 + 1, none⟩ = some (.int .i64 (y.2.1 : Int)) := (HA.out.below.cell (p := ⟨h, j * 3 + 1, none⟩) hh).trans (M.c1 hy)
            have q2 : (wr.alloc (.cells #[.int .i64 (x.1 : Int), .int .i64 ((x.2.1 : Int) + shift), .int .i64 (x.2.2 : Int)] 59)).cell? ⟨h, j * 3 + 2, none⟩ = some (.int .i64 (y.2.2 : Int)) := (HA.out.below.cell (p := ⟨h, j * 3 + 2, none⟩) hh).trans (M.c2 hy)
            go_wp2_with fail
            go_region_held3 (fun w' => w'.cell? ⟨w.heap.size + 1, 1, none⟩ = some (.int .i64 (b : Int)) ∧ w'.cell? ⟨wr.heap.size, 0, none⟩ = some (.int .i64 (x.1 : Int)) ∧ w'.cell? ⟨wr.heap.size, 1, none⟩ = some (.int .i64 ((x.2.1 : Int) + shift)) ∧ w'.cell? ⟨wr.heap.size, 2, none⟩ = some (.int .i64 (x.2.2 : Int)) ∧ w'.cell? ⟨h, j * 3, none⟩ = some (.int .i64 (y.1 : Int)) ∧ w'.cell? ⟨h, j * 3 + 1, none⟩ = some (.int .i64 (y.2.1 : Int)) ∧ w'.cell? ⟨h, j * 3 + 2, none⟩ = some (.int .i64 (y.2.2 : Int))) (go_keep) (fail)
            cases hmv : moved shift x y
            · have HB2 := Lib.hid (HST.out hmv)
              go_wp2_with fail
              refine bodyPost_ret (v := .agg #[.int .i64 (k : Int), .int .i64 (b : Int)]) ?_ rfl ⟨by rw [HK.out, ← hv.out, HB2.out], ?_⟩
              · simp [results, Tryz.results57, go_sem, dr0, dr1]
              · repeat (first | exact HA.out.below | refine Below.drew ?_ | refine Below.setCell ?_ (by simp) _)
            · have HB2 := Lib.hid (HON.out hmv)
              go_wp2_with fail
              have hkb : KRel w k (b + 1) (((wr.alloc (.cells #[.int .i64 (x.1 : Int), .int .i64 ((x.2.1 : Int) + shift), .int .i64 (x.2.2 : Int)] 59)).setCell ⟨w.heap.size + 1, 1, none⟩ (.int .i64 ((b + 1 : Nat) : Int))).drew) := (HA.out.back (b + 1)).drew
              rw [show (((b + 1 : Nat)) : Int) = (b : Int) + 1 by omega] at hkb
              have hk1 := kOf_eq (k := b + 1) (by rw [show (((b + 1 : Nat)) : Int) = (b : Int) + 1 by omega]; exact hkb.c1)
              have hk0 := kOf_eq HR.out.c1
              refine ⟨⟨b + 1, by omega, hkb, Lib.hid (by rw [← HB2.out]; exact hv.out)⟩, ?_⟩
              rw [hk1, hk0]; omega
          · have hlt3 : ((k : Int) + (b : Int) < (n : Int)) = False := by simp; omega
            have HZ2 : Hid (backN l m shift k b = b) := Lib.hid (backN_end (by rw [← HN.out]; exact hlt2))
            go_wp2_with fail
            refine bodyPost_ret (v := .agg #[.int .i64 (k : Int), .int .i64 (b : Int)]) ?_ rfl ⟨by rw [HK.out, ← hv.out, HZ2.out], ?_⟩
            · simp [results, Tryz.results57, go_sem, hr0, hr1]
            · exact Below.setCell (Below.setCell HR.out.below (by simp) _) (by simp) _
    · have hkm : k = n := by omega
      have HFK := Lib.hid (HEND.out k hlt)
      have hdr : ∀ q, KRel w k 0 (wr.drewN q) := fun q => by
        have h := HR.out
        exact ⟨⟨h.below.os, h.below.tape, h.below.output, h.below.size, h.below.block⟩, h.c0, h.c1, h.r0, h.r1, h.z0, h.z1, h.size⟩
      have HKR : Hid (∀ q, KRel w k 0 (wr.drewN q)) := Lib.hid hdr
      subst hkm
      clear hlt hk hdr
      go_wp2_with fail
      go_quiet (fail)
      go_wp2_with fail
      have HK : Hid (frontN l m 0 = k) := Lib.hid (by rw [← hu.out]; exact HFK.out)
      have hkr := HKR.out nq
      go_loopw [] (fun wr => ∃ b : Nat, b ≤ k - k ∧ KRel w k b wr ∧ Hid (backN l m shift k b = backN l m shift k 0)) (fun wr => k - k - kOf (w.heap.size + 1) 1 wr)
      case atStart => exact ⟨0, by omega, hkr, Lib.hid rfl⟩
      case round =>
        obtain ⟨b, hb, hr2, hv⟩ := hrel
        clear HR hz e0
        have HR := Lib.hid hr2
        clear hr2
        have c0 := HR.out.c0
        have c1 := HR.out.c1
        have hz := HR.out.z1 1
        have hz00 := HR.out.z0 0
        have hz01 := HR.out.z0 1
        have hr0 := HR.out.r0
        have hr1 := HR.out.r1
        have wkb : IntKind.i64.wrap ((k : Int) + ((b : Nat) : Int)) = (k : Int) + (b : Int) := IntWalk.i64_in _ (by omega)
        have hb0 : b = 0 := by omega
        subst hb0
        clear hb wkb hv
        have HZ2 : Hid (backN l m shift k 0 = 0) := Lib.hid (backN_end (by rw [← HN.out]; omega))
        go_wp2_with fail
        refine bodyPost_ret (v := .agg #[.int .i64 (k : Int), .int .i64 0]) ?_ rfl ⟨by rw [HK.out, HZ2.out]; rfl, ?_⟩
        · simp [results, Tryz.results57, go_sem, hr0, hr1]
        · exact Below.setCell (Below.setCell HR.out.below (by simp) _) (by simp) _
end

section
open Go.RowKit

set_option maxHeartbeats 4000000 in
set_option maxRecDepth 100000 in
theorem kept_none (b1 b2 : Option Addr) (n1 c1 n2 c2 : Nat) (shift : Int) (hm : min (n1 : Int) (n2 : Int) = 0) (w : World) :
    Calls Tryz.prog 57 #[.slice b1 n1 c1, .slice b2 n2 c2, .int .i64 shift] w fun e w' => e = .returned (.agg #[.int .i64 0, .int .i64 0]) ∧ Below w.heap.size w w' := by
  go_enter Tryz.func57, Tryz.ntmps57
  go_wp2_with fail
  go_loopw [] (fun wr => KRel w 0 0 wr) (fun wr => 0)
  case atStart =>
    refine ⟨((Below.refl _ w).alloc (Nat.le_refl _) _).alloc (by simp) _, ?_, ?_, ?_, ?_, ?_, ?_, by simp⟩
    · exact new_cell _ _ _ _ _ _ (by simp) rfl
    · exact new_cell _ _ _ _ _ _ (by simp) rfl
    · exact two_firstB _ _ _ _ _ _ _ rfl rfl
    · exact two_firstB _ _ _ _ _ _ _ rfl rfl
    · exact fun j => two_frozenB _ _ _ _ _ _ rfl
    · exact fun j => new_frozen _ _ _ _ _ (by simp)
  case round =>
    have HR := Lib.hid hrel
    clear hrel
    have e0 : wr.cell? ⟨w.heap.size + 1, 0, none⟩ = some (.int .i64 0) := HR.out.c0
    have hdr : ∀ q, KRel w 0 0 (wr.drewN q) := fun q => by
      have h := HR.out
      exact ⟨⟨h.below.os, h.below.tape, h.below.output, h.below.size, h.below.block⟩, h.c0, h.c1, h.r0, h.r1, h.z0, h.z1, h.size⟩
    have HKR : Hid (∀ q, KRel w 0 0 (wr.drewN q)) := Lib.hid hdr
    clear hdr
    go_wp2_with fail
    go_quiet (fail)
    go_wp2_with fail
    have hkr := HKR.out nq
    go_loopw [] (fun wr => KRel w 0 0 wr) (fun wr => 0)
    case atStart => exact hkr
    case round =>
      clear HR e0
      have HR := Lib.hid hrel
      clear hrel
      have c0 : wr.cell? ⟨w.heap.size + 1, 0, none⟩ = some (.int .i64 0) := HR.out.c0
      have c1 : wr.cell? ⟨w.heap.size + 1, 1, none⟩ = some (.int .i64 0) := HR.out.c1
      have hz00 := HR.out.z0 0
      have hz01 := HR.out.z0 1
      have hr0 := HR.out.r0
      have hr1 := HR.out.r1
      go_wp2_with fail
      refine bodyPost_ret (v := .agg #[.int .i64 0, .int .i64 0]) ?_ rfl ⟨rfl, ?_⟩
      · simp [results, Tryz.results57, go_sem, hr0, hr1]
      · exact Below.setCell (Below.setCell HR.out.below (by simp) _) (by simp) _
end

section
open Go.RowKit

def flatI (l : List (Int × Int × Int)) : List Value := l.flatMap fun x => [.int .i64 x.1, .int .i64 x.2.1, .int .i64 x.2.2]
theorem flatI_get (l : List (Int × Int × Int)) (k j : Nat) (x : Int × Int × Int) (hk : l[k]? = some x) (hj : j < 3) : (flatI l)[k * 3 + j]? = [Value.int .i64 x.1, .int .i64 x.2.1, .int .i64 x.2.2][j]? := by
  induction l generalizing k with
  | nil => simp at hk
  | cons y l ih =>
    have hc : flatI (y :: l) = [Value.int .i64 y.1, .int .i64 y.2.1, .int .i64 y.2.2] ++ flatI l := rfl
    have h3 : [Value.int .i64 y.1, .int .i64 y.2.1, .int .i64 y.2.2].length = 3 := rfl
    rw [hc]
    cases k with
    | zero =>
      simp at hk
      subst hk
      rw [List.getElem?_append_left (by omega)]
      simp
    | succ k =>
      rw [List.getElem?_append_right (by omega), h3, show (k + 1) * 3 + j - 3 = k * 3 + j by omega]
      exact ih k (by simpa using hk)
def intsP (l : List (Nat × Nat × Nat)) : List (Int × Int × Int) := l.map fun x => ((x.1 : Int), (x.2.1 : Int), (x.2.2 : Int))
theorem flatI_intsP (l : List (Nat × Nat × Nat)) : flatI (intsP l) = flatP l := by
  induction l with
  | nil => rfl
  | cons x l ih =>
    show [Value.int .i64 (x.1 : Int), .int .i64 (x.2.1 : Int), .int .i64 (x.2.2 : Int)] ++ flatI (intsP l) = cellsP x ++ flatP l
    rw [ih]; rfl
/-- Cells of a row of pieces of any numbers. -/
def IntsAt (w : World) (g : Nat) (l : List (Int × Int × Int)) : Prop := ∀ j u, (flatI l)[j]? = some u → w.cell? ⟨g, j, none⟩ = some u
theorem IntsAt.c0 {w : World} {g : Nat} {l : List (Int × Int × Int)} (h : IntsAt w g l) {k : Nat} {x : Int × Int × Int} (hx : l[k]? = some x) : w.cell? ⟨g, k * 3, none⟩ = some (.int .i64 x.1) :=
  h (k * 3 + 0) _ (by rw [flatI_get l k 0 x hx (by omega)]; rfl)
theorem IntsAt.c1 {w : World} {g : Nat} {l : List (Int × Int × Int)} (h : IntsAt w g l) {k : Nat} {x : Int × Int × Int} (hx : l[k]? = some x) : w.cell? ⟨g, k * 3 + 1, none⟩ = some (.int .i64 x.2.1) :=
  h (k * 3 + 1) _ (by rw [flatI_get l k 1 x hx (by omega)]; rfl)
theorem IntsAt.c2 {w : World} {g : Nat} {l : List (Int × Int × Int)} (h : IntsAt w g l) {k : Nat} {x : Int × Int × Int} (hx : l[k]? = some x) : w.cell? ⟨g, k * 3 + 2, none⟩ = some (.int .i64 x.2.2) :=
  h (k * 3 + 2) _ (by rw [flatI_get l k 2 x hx (by omega)]; rfl)

theorem run_neq_ints (x y : Int × Int × Int) (w : World) : (binOp .neq 59 (.agg #[.int .i64 x.1, .int .i64 x.2.1, .int .i64 x.2.2]) (.agg #[.int .i64 y.1, .int .i64 y.2.1, .int .i64 y.2.2])).run Tryz.prog w = .ok (.bool (!decide (x = y))) w := by
  rw [run_neq_struct, eq_pieceB]
  obtain ⟨x1, x2, x3⟩ := x
  obtain ⟨y1, y2, y3⟩ := y
  simp only [Result.andThen_ok, Prod.mk.injEq]
  congr 3
  by_cases h1 : x1 = y1 <;> by_cases h2 : x2 = y2 <;> by_cases h3 : x3 = y3 <;> simp [h1, h2, h3]
attribute [local go_sem 5000] run_neq_ints run_guard_piece

/-- Are they the same, as far as k? -/
theorem eq_of_all (l m : List (Int × Int × Int)) (hn : l.length = m.length) (h : ∀ k, k < l.length → l[k]? = m[k]?) : l = m := by
  apply List.ext_getElem? ; intro k
  by_cases hk : k < l.length
  · exact h k hk
  · rw [List.getElem?_eq_none (by omega), List.getElem?_eq_none (by omega)]

set_option maxHeartbeats 4000000 in
set_option maxRecDepth 100000 in
theorem equal_some (g h cl cm : Nat) (l m : List (Int × Int × Int)) (hlen : l.length = m.length) (hml : m.length ≤ 1048576) (w : World) (hg : g < w.heap.size) (hh : h < w.heap.size) (L : IntsAt w g l) (M : IntsAt w h m) :
    Calls Tryz.prog 55 #[.slice (some ⟨g, 0, none⟩) l.length cl, .slice (some ⟨h, 0, none⟩) m.length cm] w fun e w' => e = .returned (.bool (decide (l = m))) ∧ Below w.heap.size w w' := by
  have HM : Hid (m.length = l.length) := Lib.hid hlen.symm
  go_enter Tryz.func55, Tryz.ntmps55
  go_wp2_with fail
  go_loopw [13] (fun i wr => ∃ k : Nat, k ≤ m.length ∧ i = .int .i64 k ∧ Hid (∀ j, j < k → l[j]? = m[j]?) ∧ Hid (Below w.heap.size w wr)) (fun i _ => m.length - (intOf i).toNat)
  case atStart => exact ⟨0, by omega, rfl, Lib.hid (fun j hj => by omega), Lib.hid (Below.refl _ _)⟩
  case round =>
    obtain ⟨k, hk, rfl, ha, hbe⟩ := hrel
    by_cases hlt : k < m.length
    · obtain ⟨x, hx⟩ : ∃ x, l[k]? = some x := ⟨_, List.getElem?_eq_getElem (by omega)⟩
      obtain ⟨y, hy⟩ : ∃ y, m[k]? = some y := ⟨_, List.getElem?_eq_getElem (by omega)⟩
      have l0 : wr.cell? ⟨g, k * 3, none⟩ = some (.int .i64 x.1) := (hbe.out.cell (p := ⟨g, k * 3, none⟩) hg).trans (L.c0 hx)
      have l1 : wr.cell? ⟨g, k * 3 + 1, none⟩ = some (.int .i64 x.2.1) := (hbe.out.cell (p := ⟨g, k * 3 + 1, none⟩) hg).trans (L.c1 hx)
      have l2 : wr.cell? ⟨g, k * 3 + 2, none⟩ = some (.int .i64 x.2.2) := (hbe.out.cell (p := ⟨g, k * 3 + 2, none⟩) hg).trans (L.c2 hx)
      have m0 : wr.cell? ⟨h, k * 3, none⟩ = some (.int .i64 y.1) := (hbe.out.cell (p := ⟨h, k * 3, none⟩) hh).trans (M.c0 hy)
      have m1 : wr.cell? ⟨h, k * 3 + 1, none⟩ = some (.int .i64 y.2.1) := (hbe.out.cell (p := ⟨h, k * 3 + 1, none⟩) hh).trans (M.c1 hy)
      have m2 : wr.cell? ⟨h, k * 3 + 2, none⟩ = some (.int .i64 y.2.2) := (hbe.out.cell (p := ⟨h, k * 3 + 2, none⟩) hh).trans (M.c2 hy)
      have h1 : (k : Int) < (m.length : Int) := by omega
      have h2 : (k : Int) < (l.length : Int) := by omega
      have hw : IntKind.i64.wrap ((k : Int) + 1) = (k : Int) + 1 := IntWalk.i64_in _ (by omega)
      have HXY : Hid (l[k]? = some x ∧ m[k]? = some y) := Lib.hid ⟨hx, hy⟩
      clear hx hy
      go_wp2_with fail
      go_region_held3 (fun w' => w'.cell? ⟨g, k * 3, none⟩ = some (.int .i64 x.1) ∧ w'.cell? ⟨g, k * 3 + 1, none⟩ = some (.int .i64 x.2.1) ∧ w'.cell? ⟨g, k * 3 + 2, none⟩ = some (.int .i64 x.2.2) ∧ w'.cell? ⟨h, k * 3, none⟩ = some (.int .i64 y.1) ∧ w'.cell? ⟨h, k * 3 + 1, none⟩ = some (.int .i64 y.2.1) ∧ w'.cell? ⟨h, k * 3 + 2, none⟩ = some (.int .i64 y.2.2)) (go_keep) (fail)
      by_cases hxy : x = y
      · have hd : decide (x = y) = true := by simp [hxy]
        have HE := Lib.hid hxy
        clear hxy
        simp only [hd]
        go_wp2_with fail
        refine ⟨⟨k + 1, hlt, by simp, Lib.hid (fun j hj => ?_), Lib.hid hbe.out.drew⟩, by simp only [intOf]; omega⟩
        by_cases hjk : j = k
        · subst hjk; rw [HXY.out.1, HXY.out.2, HE.out]
        · exact ha.out j (by omega)
      · have hd : decide (x = y) = false := by simp [hxy]
        have HE : Hid (¬ l = m) := Lib.hid (fun e => hxy (by have := HXY.out.1; rw [e, HXY.out.2] at this; injection this with this; exact this.symm))
        clear hxy
        simp only [hd]
        go_wp2_with fail
        refine bodyPost_ret (v := .bool false) ?_ rfl ⟨by rw [decide_eq_false HE.out], hbe.out.drew⟩
        simp [results, Tryz.results55, go_sem]
    · have hkl : k = m.length := by omega
      have HE : Hid (l = m) := Lib.hid (eq_of_all l m hlen (fun j hj => ha.out j (by omega)))
      subst hkl
      go_wp2_with fail
      refine bodyPost_ret (v := .bool true) ?_ rfl ⟨by rw [decide_eq_true HE.out], hbe.out⟩
      simp [results, Tryz.results55, go_sem]
theorem equal_len (b1 b2 : Option Addr) (n1 c1 n2 c2 : Nat) (hne : n1 ≠ n2) (w : World) :
    Calls Tryz.prog 55 #[.slice b1 n1 c1, .slice b2 n2 c2] w fun e w' => e = .returned (.bool false) ∧ Below w.heap.size w w' := by
  have hne' : ((n1 : Int) != (n2 : Int)) = true := by rw [bne_iff_ne]; omega
  go_enter Tryz.func55, Tryz.ntmps55
  go_wp2_with fail
  refine bodyPost_ret (v := .bool false) ?_ rfl ⟨rfl, Below.refl _ _⟩
  simp [results, Tryz.results55, go_sem]
theorem equal_none (b1 b2 : Option Addr) (c1 c2 : Nat) (w : World) :
    Calls Tryz.prog 55 #[.slice b1 0 c1, .slice b2 0 c2] w fun e w' => e = .returned (.bool true) ∧ Below w.heap.size w w' := by
  go_enter Tryz.func55, Tryz.ntmps55
  go_wp2_with fail
  go_loopw [13] (fun i wr => i = .int .i64 0 ∧ wr = w) (fun _ _ => 0)
  case atStart => exact ⟨rfl, rfl⟩
  case round =>
    obtain ⟨rfl, rfl⟩ := hrel
    go_wp2_with fail
    refine bodyPost_ret (v := .bool true) ?_ rfl ⟨rfl, Below.refl _ _⟩
    simp [results, Tryz.results55, go_sem]
end

end Go.Proofs.YtlkanfnhemjdcaaGreatDoor
