/-
  The kind of a token that a string is as a whole.
  Names, their parts, and numbers.
  The tokens of a text.
  The tokens of a text: the loop.
  A text with a splice; the pieces ahead of a splice; what two lists of pieces have in common.
-/
import Derived.Test.YtafncodigpjkaaaGreatDoorXF
import Derived.Defers
import Derived.Recover
import Derived.Laws.Pointers
import Derived.Test.YtafncodigpjkaaaGreatDoorXA
import Derived.Test.YtafncodigpjkaaaGreatDoorXO
import Derived.Deep.RegionHeld3
namespace Go.Proofs.YtafncodigpjkaaaGreatDoor
section
open Go.RowKit

set_option maxRecDepth 100000 in
theorem kcatch_refusal (x : Value) (b : Nat) (v : Value) (w : World) (hb : b < w.heap.size) (hc : w.cell? ⟨b, 0, none⟩ = some v) (hf : w.frozen? ⟨b, 0, none⟩ = false) (hx : ∃ i c : Nat, x = .agg #[.int .i64 (i : Int), .int .i64 (c : Int)]) :
    CallsD Tryz.prog 113 #[.pointer (some ⟨b, 0, none⟩)] (.panicking ({ v := .iface 151 x, recovered := false } :: [])) w fun e u' w' =>
      e = .returned (.tuple #[]) ∧ u' = .panicking ({ v := .iface 151 x, recovered := true } :: []) ∧ w'.cell? ⟨b, 0, none⟩ = some (.int .i64 0) ∧ Below b w w' := by
  obtain ⟨i, c, rfl⟩ := hx
  have al := fun o => (Below.refl _ w).alloc (Nat.le_refl _) o
  have x0 : ∀ o, (w.alloc o).cell? ⟨b, 0, none⟩ = some v := fun o => ((al o).cell (p := ⟨b, 0, none⟩) hb).trans hc
  have y0 : ∀ o, (w.alloc o).frozen? ⟨b, 0, none⟩ = false := fun o => ((al o).frozen (p := ⟨b, 0, none⟩) hb).trans hf
  have n0 : ¬ b = w.heap.size := by omega
  clear al
  have hta := assert_yes (.agg #[.int .i64 (i : Int), .int .i64 (c : Int)])
  refine callsD_of_wpS Tryz.func113 rfl fun c₀ cs hu => ?_
  apply wpS_seq
  apply wpS_region
  simp [wpOpsS, go_sem, recoverD, hu, hta, Tryz.ntmps113, Exit.thenS]
  refine wpS_of_wp ?_
  simp only [Array.replicate_succ, Array.replicate_zero, List.push_toArray, List.append_toArray, List.nil_append, List.cons_append, List.setIfInBounds_toArray, List.set_cons_zero, List.set_cons_succ]
  go_wp2
  simp [bodyPostS, results, Tryz.results113]
  refine ⟨?_, ?_⟩
  · exact (((Below.refl _ (w.setCell ⟨b, 0, none⟩ (.int .i64 0))).alloc (Nat.le_refl _) _).cell (p := ⟨b, 0, none⟩) (by simpa using hb)).trans (World.cell?_setCell_same' _ _ _ (by rw [hc]; rfl))
  · exact ((Below.refl b w).setCell (p := ⟨b, 0, none⟩) (Nat.le_refl _) _).alloc (by simp <;> omega) _

set_option maxRecDepth 100000 in
theorem kcatch_none (a0 : Value) (w : World) :
    CallsD Tryz.prog 113 #[a0] .returning w fun e u' w' => e = .returned (.tuple #[]) ∧ u' = .returning ∧ Below w.heap.size w w' := by
  have hta := assert_nil
  refine callsD_of_wpS Tryz.func113 rfl fun c₀ cs hu => ?_
  apply wpS_seq
  apply wpS_region
  simp [wpOpsS, go_sem, recoverD, hu, hta, Tryz.ntmps113, Exit.thenS]
  refine wpS_of_wp ?_
  simp only [Array.replicate_succ, Array.replicate_zero, List.push_toArray, List.append_toArray, List.nil_append, List.cons_append, List.setIfInBounds_toArray, List.set_cons_zero, List.set_cons_succ]
  go_wp2
  simp [bodyPostS, results, Tryz.results113]
  exact ⟨.returning, by rw [← hu], rfl, (Below.refl _ w).alloc (Nat.le_refl _) _⟩

theorem two_first (w : World) (cs : Array Value) (tt : TypeId) (o : Obj) (j : Nat) (v : Value) (hv : cs[j]? = some v) : ((w.alloc (.cells cs tt)).alloc o).cell? ⟨w.heap.size, j, none⟩ = some v :=
  (((Below.refl _ (w.alloc (.cells cs tt))).alloc (Nat.le_refl _) o).cell (p := ⟨w.heap.size, j, none⟩) (by simp)).trans (new_cell _ _ _ _ _ _ rfl hv)
theorem two_frozen (w : World) (cs : Array Value) (tt : TypeId) (o : Obj) (j : Nat) : ((w.alloc (.cells cs tt)).alloc o).frozen? ⟨w.heap.size, j, none⟩ = false :=
  (((Below.refl _ (w.alloc (.cells cs tt))).alloc (Nat.le_refl _) o).frozen (p := ⟨w.heap.size, j, none⟩) (by simp)).trans (by simp)

set_option maxHeartbeats 2000000 in
set_option maxRecDepth 100000 in
theorem kind_any (s : ByteArray) (hs : s.size ≤ 140737488351232) (w : World) (E : Env w) :
    Calls Tryz.prog 95 #[.string s] w fun e w' => e = .returned (.int .i64 (kindN s : Int)) ∧ Below w.heap.size w w' := by
  have hmf : ∀ (fn : Fn) (first cap : Array Value) (w : World), (Instr.makeFunc fn first cap).run Tryz.prog w = .ok (.func fn first cap) w := fun _ _ _ _ => rfl
  have hcut : IsCut (w.heap.size + 1) 0 s false 0 ((w.alloc (.cells #[.int .i64 0] 3)).alloc (.cells #[.string s, .int .i64 0, .bool false, .int .i64 0] 158)) := by
    refine ⟨?_, ?_, ?_, ?_⟩ <;> exact new_cell _ _ _ _ _ _ (by simp) rfl
  have hbl : Below w.heap.size w ((w.alloc (.cells #[.int .i64 0] 3)).alloc (.cells #[.string s, .int .i64 0, .bool false, .int .i64 0] 158)) := ((Below.refl _ w).alloc (Nat.le_refl _) _).alloc (by simp) _
  have hdn := done_q (w.heap.size + 1) 0 s _ hcut.text hcut.at'
  have HD := Lib.hid hdn
  clear hdn
  by_cases h0 : s.size = 0
  · have hN : Hid (kindN s = 0) := Lib.hid (by simp [kindN, h0])
    have h0' : s.size ≤ 0 := by omega
    clear hcut h0
    go_enter_defers Tryz.func95, Tryz.ntmps95
    go_wp2_with fail
    refine (newCutter_any s _).mono ?_
    rintro e w1 ⟨rfl, rfl⟩
    go_wp2_with fail
    refine HD.out.mono ?_
    rintro e w1 ⟨rfl, q, rfl⟩
    go_wp2_with fail
    refine leaves_cons (f := 113) (args := #[.pointer (some ⟨w.heap.size, 0, none⟩)]) (by simp) (by simp [go_sem]) ?_
    refine (kcatch_none _ _).mono ?_
    rintro e u' w5 ⟨rfl, rfl, hb5⟩
    have z0 : w5.cell? ⟨w.heap.size, 0, none⟩ = some (.int .i64 0) := (hb5.cell (p := ⟨w.heap.size, 0, none⟩) (by simp <;> omega)).trans (World.cell?_setCell_same' _ _ _ (Option.isSome_of_eq_some (two_first w _ _ _ _ _ rfl)))
    simp [Leaves, settle, results, Tryz.results95, go_sem, z0]
    exact ⟨by rw [hN.out]; rfl, ((below_drewN hbl _).setCell (p := ⟨w.heap.size, 0, none⟩) (Nat.le_refl _) _).trans (hb5.mono (by simp <;> omega))⟩
  · have hns : ¬ s.size ≤ 0 := by omega
    have hnx := fun q => next_any (w.heap.size + 1) 0 0 s false _ (E.below E.size (below_drewN hbl q)) (by simp) (by omega) hs (hcut.drewN q)
    have HBL := Lib.hid hbl
    cases hres : nextR s 0 false with
    | error c =>
      have hN : Hid (kindN s = 0) := Lib.hid (by simp [kindN, h0, hres])
      simp only [hres, nextEnd, refusedEnd] at hnx
      have HX := Lib.hid hnx
      clear hcut h0 hnx hbl hres
      go_enter_defers Tryz.func95, Tryz.ntmps95
      go_wp2_with fail
      refine (newCutter_any s _).mono ?_
      rintro e w1 ⟨rfl, rfl⟩
      go_wp2_with fail
      refine HD.out.mono ?_
      rintro e w1 ⟨rfl, q, rfl⟩
      go_wp2_with fail
      refine (HX.out _).mono ?_
      rintro e w2 ⟨rfl, hb2⟩
      go_wp2_with fail
      refine leaves_cons (f := 113) (args := #[.pointer (some ⟨w.heap.size, 0, none⟩)]) (by simp) (by simp [go_sem]) ?_
      have y0 : w2.cell? ⟨w.heap.size, 0, none⟩ = some (.int .i64 0) := (hb2.cell (p := ⟨w.heap.size, 0, none⟩) (by simp <;> omega)).trans (two_first _ _ _ _ _ _ rfl)
      have y1 : w2.frozen? ⟨w.heap.size, 0, none⟩ = false := (hb2.frozen (p := ⟨w.heap.size, 0, none⟩) (by simp <;> omega)).trans (two_frozen _ _ _ _ _)
      have s2 := hb2.size
      simp only [World.heap_drewN, World.size_alloc] at s2
      refine (kcatch_refusal _ w.heap.size _ w2 (by omega) y0 y1 ⟨0, c, rfl⟩).mono ?_
      rintro e u' w5 ⟨rfl, rfl, z0, hb5⟩
      simp [Leaves, settle, results, Tryz.results95, go_sem, z0]
      exact ⟨by rw [hN.out]; rfl, ((HBL.out.trans ((below_drewN (Below.refl _ _) _).trans (hb2.mono (by simp <;> omega)))).trans hb5)⟩
    | ok p =>
      have hN : kindN s = if isTok p.1 = true ∧ p.2 = s.size then p.1 else 0 := by simp [kindN, h0, hres]
      simp only [hres, nextEnd] at hnx
      have HX := Lib.hid hnx
      have HN := Lib.hid hN
      have hI := fun W => isToken_any (p.1 : Int) W
      have htk : (decide (1 ≤ (p.1 : Int)) && decide ((p.1 : Int) ≤ 6)) = isTok p.1 := rfl
      rw [htk] at hI
      have HI := Lib.hid hI
      clear hcut h0 hnx hbl hres hN hI htk
      have tail : ∀ (w5 W : World) (k : Nat), w.heap.size < W.heap.size → Below w.heap.size w W → Below W.heap.size W w5 → Below w.heap.size w w5 := fun w5 W k h1 h2 h3 => h2.trans (h3.mono (by omega))
      have TAIL := Lib.hid tail
      clear tail
      cases htok : isTok p.1
      · rw [htok] at HI HN
        go_enter_defers Tryz.func95, Tryz.ntmps95
        go_wp2_with fail
        refine (newCutter_any s _).mono ?_
        rintro e w1 ⟨rfl, rfl⟩
        go_wp2_with fail
        refine HD.out.mono ?_
        rintro e w1 ⟨rfl, q, rfl⟩
        go_wp2_with fail
        refine (HX.out _).mono ?_
        rintro e w2 ⟨rfl, hb2⟩
        have y0 : ∀ o, (w2.alloc o).cell? ⟨w.heap.size, 0, none⟩ = some (.int .i64 0) := fun o => ((hb2.alloc hb2.size o).cell (p := ⟨w.heap.size, 0, none⟩) (by simp <;> omega)).trans (two_first _ _ _ _ _ _ rfl)
        have y1 : ∀ o, (w2.alloc o).frozen? ⟨w.heap.size, 0, none⟩ = false := fun o => ((hb2.alloc hb2.size o).frozen (p := ⟨w.heap.size, 0, none⟩) (by simp <;> omega)).trans (two_frozen _ _ _ _ _)
        have s2 := hb2.size
        simp only [World.heap_drewN, World.size_alloc] at s2
        have hne : ¬ w.heap.size = w2.heap.size := by omega
        have HB2 := Lib.hid (HBL.out.trans ((below_drewN (Below.refl _ _) _).trans (hb2.mono (by simp <;> omega))))
        clear hb2
        go_wp2_with fail
        refine (HI.out _).mono ?_
        rintro e w3 ⟨rfl, rfl⟩
        go_wp2_with fail
        refine leaves_cons (f := 113) (args := #[.pointer (some ⟨w.heap.size, 0, none⟩)]) (by simp) (by simp [go_sem]) ?_
        refine (kcatch_none _ _).mono ?_
        rintro e u' w5 ⟨rfl, rfl, hb5⟩
        have z0 : w5.cell? ⟨w.heap.size, 0, none⟩ = some (.int .i64 0) := (hb5.cell (p := ⟨w.heap.size, 0, none⟩) (by simp <;> omega)).trans (World.cell?_setCell_same' _ _ _ (Option.isSome_of_eq_some (y0 _)))
        simp [Leaves, settle, results, Tryz.results95, go_sem, z0]
        exact ⟨by rw [HN.out]; simp, ((HB2.out.alloc HB2.out.size _).setCell (p := ⟨w.heap.size, 0, none⟩) (Nat.le_refl _) _).trans (hb5.mono (by have := HB2.out.size; simp; omega))⟩
      · rw [htok] at HI HN
        by_cases hl : p.2 = s.size
        · have hl' : ((p.2 : Int) == (s.size : Int)) = true := by rw [beq_iff_eq]; omega
          have HL := Lib.hid hl
          clear hl
          go_enter_defers Tryz.func95, Tryz.ntmps95
          go_wp2_with fail
          refine (newCutter_any s _).mono ?_
          rintro e w1 ⟨rfl, rfl⟩
          go_wp2_with fail
          refine HD.out.mono ?_
          rintro e w1 ⟨rfl, q, rfl⟩
          go_wp2_with fail
          refine (HX.out _).mono ?_
          rintro e w2 ⟨rfl, hb2⟩
          have y0 : ∀ o, (w2.alloc o).cell? ⟨w.heap.size, 0, none⟩ = some (.int .i64 0) := fun o => ((hb2.alloc hb2.size o).cell (p := ⟨w.heap.size, 0, none⟩) (by simp <;> omega)).trans (two_first _ _ _ _ _ _ rfl)
          have y1 : ∀ o, (w2.alloc o).frozen? ⟨w.heap.size, 0, none⟩ = false := fun o => ((hb2.alloc hb2.size o).frozen (p := ⟨w.heap.size, 0, none⟩) (by simp <;> omega)).trans (two_frozen _ _ _ _ _)
          have s2 := hb2.size
          simp only [World.heap_drewN, World.size_alloc] at s2
          have hne : ¬ w.heap.size = w2.heap.size := by omega
          have HB2 := Lib.hid (HBL.out.trans ((below_drewN (Below.refl _ _) _).trans (hb2.mono (by simp <;> omega))))
          clear hb2
          go_wp2_with fail
          refine (HI.out _).mono ?_
          rintro e w3 ⟨rfl, rfl⟩
          go_wp2_with fail
          refine leaves_cons (f := 113) (args := #[.pointer (some ⟨w.heap.size, 0, none⟩)]) (by simp) (by simp [go_sem]) ?_
          refine (kcatch_none _ _).mono ?_
          rintro e u' w5 ⟨rfl, rfl, hb5⟩
          have z0 : w5.cell? ⟨w.heap.size, 0, none⟩ = some (.int .i64 (p.1 : Int)) := (hb5.cell (p := ⟨w.heap.size, 0, none⟩) (by simp <;> omega)).trans (World.cell?_setCell_same' _ _ _ (Option.isSome_of_eq_some (y0 _)))
          simp [Leaves, settle, results, Tryz.results95, go_sem, z0]
          exact ⟨by rw [HN.out]; simp [HL.out], ((HB2.out.alloc HB2.out.size _).setCell (p := ⟨w.heap.size, 0, none⟩) (Nat.le_refl _) _).trans (hb5.mono (by have := HB2.out.size; simp; omega))⟩
        · have hl' : ((p.2 : Int) == (s.size : Int)) = false := by rw [beq_eq_false_iff_ne]; omega
          have HL := Lib.hid hl
          clear hl
          go_enter_defers Tryz.func95, Tryz.ntmps95
          go_wp2_with fail
          refine (newCutter_any s _).mono ?_
          rintro e w1 ⟨rfl, rfl⟩
          go_wp2_with fail
          refine HD.out.mono ?_
          rintro e w1 ⟨rfl, q, rfl⟩
          go_wp2_with fail
          refine (HX.out _).mono ?_
          rintro e w2 ⟨rfl, hb2⟩
          have y0 : ∀ o, (w2.alloc o).cell? ⟨w.heap.size, 0, none⟩ = some (.int .i64 0) := fun o => ((hb2.alloc hb2.size o).cell (p := ⟨w.heap.size, 0, none⟩) (by simp <;> omega)).trans (two_first _ _ _ _ _ _ rfl)
          have y1 : ∀ o, (w2.alloc o).frozen? ⟨w.heap.size, 0, none⟩ = false := fun o => ((hb2.alloc hb2.size o).frozen (p := ⟨w.heap.size, 0, none⟩) (by simp <;> omega)).trans (two_frozen _ _ _ _ _)
          have s2 := hb2.size
          simp only [World.heap_drewN, World.size_alloc] at s2
          have hne : ¬ w.heap.size = w2.heap.size := by omega
          have HB2 := Lib.hid (HBL.out.trans ((below_drewN (Below.refl _ _) _).trans (hb2.mono (by simp <;> omega))))
          clear hb2
          go_wp2_with fail
          refine (HI.out _).mono ?_
          rintro e w3 ⟨rfl, rfl⟩
          go_wp2_with fail
          refine leaves_cons (f := 113) (args := #[.pointer (some ⟨w.heap.size, 0, none⟩)]) (by simp) (by simp [go_sem]) ?_
          refine (kcatch_none _ _).mono ?_
          rintro e u' w5 ⟨rfl, rfl, hb5⟩
          have z0 : w5.cell? ⟨w.heap.size, 0, none⟩ = some (.int .i64 0) := (hb5.cell (p := ⟨w.heap.size, 0, none⟩) (by simp <;> omega)).trans (World.cell?_setCell_same' _ _ _ (Option.isSome_of_eq_some (y0 _)))
          simp [Leaves, settle, results, Tryz.results95, go_sem, z0]
          exact ⟨by rw [HN.out]; simp [HL.out], ((HB2.out.alloc HB2.out.size _).setCell (p := ⟨w.heap.size, 0, none⟩) (Nat.le_refl _) _).trans (hb5.mono (by have := HB2.out.size; simp; omega))⟩
end

section
open Go.RowKit

def isNameB (s : ByteArray) : Bool := ((kindN s : Int) == 1)
def isPlainB (s : ByteArray) : Bool := isNameB s && decide (Lib.indexByte s.data.toList 64 < 0)

theorem isName_any (s : ByteArray) (hs : s.size ≤ 140737488351232) (w : World) (E : Env w) :
    Calls Tryz.prog 90 #[.string s] w fun e w' => e = .returned (.bool (isNameB s)) ∧ Below w.heap.size w w' := by
  have hk := kind_any s hs w E
  have HK := Lib.hid hk
  clear hk
  go_enter Tryz.func90, Tryz.ntmps90
  go_wp2_with fail
  refine HK.out.mono ?_
  rintro e w1 ⟨rfl, hb⟩
  go_wp2_with fail
  go_ret
  exact ⟨rfl, hb⟩

theorem isPlain_any (s : ByteArray) (hs : s.size ≤ 140737488351232) (w : World) (E : Env w) :
    Calls Tryz.prog 62 #[.string s] w fun e w' => e = .returned (.bool (isPlainB s)) ∧ Below w.heap.size w w' := by
  have hk := isName_any s hs w E
  have hP : isPlainB s = (isNameB s && decide (Lib.indexByte s.data.toList 64 < 0)) := rfl
  have HP := Lib.hid hP
  clear hP
  cases hn : isNameB s
  all_goals
    rw [hn] at hk HP
    have HK := Lib.hid hk
    clear hk
    go_enter Tryz.func62, Tryz.ntmps62
    go_wp2_with (first | (go_at_call 90; refine HK.out.mono ?_; rintro e w1 ⟨rfl, hb⟩) | (go_at_call 91; refine (idx_any _ (64 : UInt8) _).mono ?_; rintro e w2 ⟨rfl, rfl⟩))
    go_ret
    exact ⟨by rw [HP.out]; rfl, hb⟩
end

section
open Go.RowKit

/-- A token's number. -/
def numT (t : ByteArray) (x : Nat × Nat × Nat) : Int := if x.1 = 2 then (valO (cutB t x.2.1 x.2.2)).getD 0 else 0
def cellsT (t : ByteArray) (x : Nat × Nat × Nat) : List Value := [.int .i64 (x.1 : Int), .int .i64 (numT t x), .string (cutB t x.2.1 x.2.2), .int .i64 (x.2.1 : Int), .int .i64 0]
def flatT (t : ByteArray) (l : List (Nat × Nat × Nat)) : List Value := l.flatMap (cellsT t)

theorem two_firstB (w : World) (cs : Array Value) (tt : TypeId) (o : Obj) (b j : Nat) (v : Value) (h : b = w.heap.size) (hv : cs[j]? = some v) : ((w.alloc (.cells cs tt)).alloc o).cell? ⟨b, j, none⟩ = some v := by
  subst h; exact two_first w cs tt o j v hv
theorem two_frozenB (w : World) (cs : Array Value) (tt : TypeId) (o : Obj) (b j : Nat) (h : b = w.heap.size) : ((w.alloc (.cells cs tt)).alloc o).frozen? ⟨b, j, none⟩ = false := by
  subst h; exact two_frozen w cs tt o j
theorem new_frozen (w : World) (cs : Array Value) (tt : TypeId) (b j : Nat) (h : b = w.heap.size) : (w.alloc (.cells cs tt)).frozen? ⟨b, j, none⟩ = false := by
  subst h; simp
end

section
open Go.RowKit

theorem infoT : (Tryz.prog.info? 50).map (fun i => (i.zero, i.size, i.bytes)) = some (some (.agg #[.int .i64 0, .int .i64 0, .string ⟨#[]⟩, .int .i64 0, .int .i64 0]), 5, 48) := by kernel_rfl

theorem Addr.add_zero_off (g j : Nat) : (⟨g, 0, none⟩ : Addr).add j = ⟨g, j, none⟩ := by unfold Addr.add; split <;> simp_all
theorem flatP_get (l : List (Nat × Nat × Nat)) (k j : Nat) (x : Nat × Nat × Nat) (hk : l[k]? = some x) (hj : j < 3) : (flatP l)[k * 3 + j]? = (cellsP x)[j]? := by
  induction l generalizing k with
  | nil => simp at hk
  | cons y l ih =>
    have hc : flatP (y :: l) = cellsP y ++ flatP l := rfl
    have h3 : (cellsP y).length = 3 := rfl
    rw [hc]
    cases k with
    | zero =>
      simp at hk
      subst hk
      rw [List.getElem?_append_left (by omega)]
      simp
    | succ k =>
      rw [List.getElem?_append_right (by omega), h3, show (k + 1) * 3 + j - 3 = k * 3 + j by omega]
      exact ih k (by simpa using hk)

/-- The pieces that are tokens. -/
def toksR (t : ByteArray) : List (Nat × Nat × Nat) := (piecesR t).1.filter fun x => isTok x.1
theorem flatT_snoc (t : ByteArray) (l : List (Nat × Nat × Nat)) (x : Nat × Nat × Nat) : flatT t (l ++ [x]) = flatT t l ++ cellsT t x := by simp [flatT]
theorem take_filter_succ (l : List (Nat × Nat × Nat)) (k : Nat) (x : Nat × Nat × Nat) (hk : l[k]? = some x) :
    (l.take (k + 1)).filter (fun x => isTok x.1) = (l.take k).filter (fun x => isTok x.1) ++ (if isTok x.1 then [x] else []) := by
  have hlt : k < l.length := by
    apply Classical.byContradiction; intro h
    rw [List.getElem?_eq_none (by omega)] at hk; cases hk
  rw [List.take_succ_eq_append_getElem hlt, List.filter_append]
  have : l[k] = x := by rw [List.getElem?_eq_getElem hlt] at hk; injection hk
  rw [this]
  cases h : isTok x.1 <;> simp [h]
end

section
open Go.RowKit
end

end Go.Proofs.YtafncodigpjkaaaGreatDoor
