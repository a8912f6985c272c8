/-
  A new cutter, and the function over its pieces.
  The deferred closure that takes a refusal up.
-/
import Derived.Test.YtlkanfnhemjdcaaGreatDoorXE
import Derived.Test.YtlkanfnhemjdcaaGreatDoorXA
import Derived.RangeFuncNested
import Derived.RangeFuncBound
import Derived.RangeFuncCalls
import Derived.RangeFuncLeaves
import Derived.Shelf.Abstract
import Derived.Shelf.RegionOpen
import Derived.OwnWalkIn
import Derived.TacticsInMore
import Derived.LoopNIn
import Derived.LoopIn
import Derived.Recover
import Derived.RecoverIn
import Derived.RegionIn
import Derived.Laws.Pointers
namespace Go.Proofs.YtlkanfnhemjdcaaGreatDoor
section
open Go.RowKit Go.Shelf

theorem newCutter_any (t : ByteArray) (w : World) :
    Calls Tryz.prog 37 #[.string t] w fun e w' => e = .returned (.pointer (some ⟨w.heap.size, 0, none⟩)) ∧ w' = w.alloc (.cells #[.string t, .int .i64 0, .bool false, .int .i64 0] 86) := by
  go_enter Tryz.func37, Tryz.ntmps37
  go_wp2
  go_ret
  exact ⟨rfl, rfl⟩

theorem pieces_any (b : Nat) (w : World) :
    Calls Tryz.prog 38 #[.pointer (some ⟨b, 0, none⟩)] w fun e w' => e = .returned (.func (.func 58) #[] #[.pointer (some ⟨w.heap.size, 0, none⟩)]) ∧ w' = w.alloc (.cells #[.pointer (some ⟨b, 0, none⟩)] 65) := by
  have hmf : ∀ (fn : Fn) (first cap : Array Value) (w : World), (Instr.makeFunc fn first cap).run Tryz.prog w = .ok (.func fn first cap) w := fun _ _ _ _ => rfl
  go_enter Tryz.func38, Tryz.ntmps38
  go_wp2
  go_ret
  exact ⟨rfl, rfl⟩

def encP (x : Nat × Nat × Nat) : Value := .agg #[.int .i64 (x.1 : Int), .int .i64 (x.2.1 : Int), .int .i64 (x.2.2 : Int)]
def iterEnd : Option (Nat × Nat) → Ending
  | none => .returned (.tuple #[])
  | some p => refusedEnd p.1 p.2
def atOf (b : Nat) (w : World) : Nat := match w.cell? ⟨b, 1, none⟩ with
  | some (.int _ i) => i.toNat
  | _ => 0

structure IterRel (b cb : Nat) (t : ByteArray) (J : List (Nat × Nat × Nat) → World → Prop) (i : Nat) (op : Bool) (n f : Nat) (pre : List (Nat × Nat × Nat)) (w : World) : Prop where
  cut : IsCut b i t op n w
  free : CutFree b w
  box : w.cell? ⟨cb, 0, none⟩ = some (.pointer (some ⟨b, 0, none⟩))
  hb : b < w.heap.size
  hcb : cb < w.heap.size
  hi : i ≤ t.size
  hn : n ≤ 6000
  hf : t.size - i < f
  j : J pre w
  r1 : pre ++ (cutF t f i op n).1 = (cutAll t).1
  r2 : (cutF t f i op n).2 = (cutAll t).2

set_option maxHeartbeats 2000000 in
set_option maxRecDepth 100000 in
theorem iter_any (n l b cb : Nat) (t : ByteArray) (ht : t.size ≤ 140737488351232) (hne : cb ≠ b) (J : List (Nat × Nat × Nat) → World → Prop)
    (hJ : ∀ pre W W', J pre W → KeptBut b W W' → J pre W') (hE : ∀ pre W, J pre W → Env W)
    (hY : ∀ pre x W1, J pre W1 → pre.length < (cutAll t).1.length → YieldAt Fence.wide (n - 1) Tryz.prog l #[encP x] W1 fun e W' => e = .returned (.bool true) ∧ J (pre ++ [x]) W' ∧ (W'.heap[b]? = W1.heap[b]? ∧ W'.heap[cb]? = W1.heap[cb]?) ∧ W1.heap.size ≤ W'.heap.size)
    (W : World) (hW : IterRel b cb t J 0 false 0 (t.size + 1) [] W) :
    CallsIn Fence.wide n Tryz.prog 58 #[.func (.yield l) #[] #[], .pointer (some ⟨cb, 0, none⟩)] W fun e W' => e = iterEnd (cutAll t).2 ∧ J (cutAll t).1 W' := by
  have HJ := Lib.hid hJ; have HE := Lib.hid hE; have HY := Lib.hid hY
  clear hJ hE hY
  refine callsIn_of_wp Tryz.func58 rfl trivial ?_
  simp only [Tryz.ntmps58, List.size_toArray, List.length_cons, List.length_nil, Nat.reduceAdd, Nat.reduceSub, Array.replicate_succ,
     Array.replicate_zero, List.push_toArray, List.append_toArray, List.nil_append, List.cons_append]
  gi_wp2_with fail
  gi_loopw [3] (fun _ wr => ∃ i op n f pre, IterRel b cb t J i op n f pre wr) (fun _ wr => t.size - atOf b wr)
  case atStart => exact ⟨0, false, 0, t.size + 1, [], hW⟩
  case round =>
    obtain ⟨i, op, m, f, pre, h⟩ := hrel
    have hbox := h.box
    have hdn := done_q b i t _ h.cut.text h.cut.at'
    have HD := Lib.hid hdn
    have H := Lib.hid h
    clear hdn h
    by_cases hlt : t.size ≤ i
    · gi_wp2_with fail
      refine ⟨trivial, fun h => by simp [Fence.wide] at h, ?_⟩
      refine (callsIn_wide.2 HD.out).mono ?_
      rintro e w1 ⟨rfl, q, rfl⟩
      gi_wp2_with fail
      have h := H.out
      have hr1 := h.r1; have hr2 := h.r2
      have hc : ∀ f, cutF t f i op m = ([], none) := fun f => by cases f with
        | zero => rfl
        | succ f => simp [cutF, Nat.not_lt.2 hlt]
      rw [hc] at hr1 hr2
      refine bodyPost_end (results_none rfl _ _ _) rfl ⟨?_, ?_⟩
      · rw [← hr2]; rfl
      · rw [← hr1]; simp only [List.append_nil]; exact HJ.out _ _ _ h.j (.of_below (below_drewN (Below.refl _ _) _))
    · gi_wp2_with fail
      refine ⟨trivial, fun h => by simp [Fence.wide] at h, ?_⟩
      refine (callsIn_wide.2 HD.out).mono ?_
      rintro e w1 ⟨rfl, q, rfl⟩
      have hnx := next_any b i m t op (wr.drewN q) (HE.out _ _ (HJ.out _ _ _ H.out.j (.of_below (below_drewN (Below.refl _ _) q)))) H.out.hb (by omega) ht (H.out.cut.drewN q)
      have hr1 := H.out.r1; have hr2 := H.out.r2
      have hf0 := H.out.hf
      obtain ⟨f, rfl⟩ : ∃ f', f = f' + 1 := ⟨f - 1, by omega⟩
      have hil : i < t.size := by omega
      rw [cutF, if_pos hil] at hr1 hr2
      have HB := Lib.hid hbox
      cases hres : nextR t i op with
      | error c =>
        rw [hres] at hnx hr1 hr2
        simp only [nextEnd, refusedEnd] at hnx
        have HN := Lib.hid hnx
        have R1 := Lib.hid hr1; have R2 := Lib.hid hr2
        clear hnx hr1 hr2 hres
        gi_wp2_with fail
        refine ⟨trivial, fun h => by simp [Fence.wide] at h, ?_⟩
        refine (callsIn_wide.2 HN.out).mono ?_
        rintro e w2 ⟨rfl, hb2⟩
        gi_wp2_with fail
        refine ⟨rfl, ?_, ?_⟩
        · rw [← R2.out]; rfl
        · rw [← R1.out]; simp only [List.append_nil]; exact HJ.out _ _ _ H.out.j (.of_below ((below_drewN (Below.refl _ _) q).trans hb2))
      | ok p =>
        have hbd := next_bounds hil hres
        rw [hres] at hnx hr1 hr2
        simp only [nextEnd] at hnx
        have HN := Lib.hid hnx
        have R1 := Lib.hid hr1; have R2 := Lib.hid hr2
        clear hnx hr1 hr2 hres
        gi_wp2_with fail
        refine ⟨trivial, fun h => by simp [Fence.wide] at h, ?_⟩
        refine (callsIn_wide.2 HN.out).mono ?_
        rintro e w2 ⟨rfl, hb2⟩
        have hB2 : Below wr.heap.size wr w2 := (below_drewN (Below.refl _ _) q).trans hb2
        have hbox2 : ∀ o, (w2.alloc o).cell? ⟨cb, 0, none⟩ = some (.pointer (some ⟨b, 0, none⟩)) := fun o =>
          ((hB2.alloc hB2.size o).cell (p := ⟨cb, 0, none⟩) H.out.hcb).trans HB.out
        have hB3 := fun o => hB2.alloc hB2.size o
        have hpass := fun o => pass_any b i m p.1 i p.2 t op (w2.alloc o) (by have := hB2.size; have := H.out.hb; simp; omega) hbd.2.1 H.out.hn hbd.2.2.2 ht (H.out.cut.below H.out.hb (hB3 o)) (H.out.free.below H.out.hb (hB3 o))
        have HP := Lib.hid hpass; have HB2 := Lib.hid hB2
        clear hpass hb2 hB2 hB3 hbox
        gi_wp2_with fail
        refine ⟨trivial, fun h => by simp [Fence.wide] at h, ?_⟩
        refine (callsIn_wide.2 (HP.out _)).mono ?_
        intro e w3 hpp
        have hsz : b < w2.heap.size := by have := HB2.out.size; have := H.out.hb; omega
        have hcsz : cb < w2.heap.size := by have := HB2.out.size; have := H.out.hcb; omega
        have R1' := R1.out; have R2' := R2.out
        by_cases hlim : isTok p.1 = true ∧ m = 6000
        · rw [PassPost, if_pos hlim] at hpp
          obtain ⟨rfl, hkb⟩ := hpp
          simp only [hlim, and_self, if_true] at R1' R2'
          have R1'' := Lib.hid R1'; have R2'' := Lib.hid R2'
          clear R1' R2' R1 R2
          refine ⟨rfl, ?_, ?_⟩
          · rw [← R2''.out]; rfl
          · rw [← R1''.out]; simp only [List.append_nil]
            exact HJ.out _ _ _ (HJ.out _ _ _ H.out.j (.of_below (HB2.out.alloc HB2.out.size _))) hkb
        · rw [PassPost, if_neg hlim] at hpp
          obtain ⟨rfl, hcut3, hfree3, hkb⟩ := hpp
          simp only [if_neg hlim] at R1' R2'
          have R1'' := Lib.hid R1'; have R2'' := Lib.hid R2'
          have hj3 : J pre w3 := HJ.out _ _ _ (HJ.out _ _ _ H.out.j (.of_below (HB2.out.alloc HB2.out.size _))) hkb
          have hbox3 : w3.cell? ⟨cb, 0, none⟩ = some (.pointer (some ⟨b, 0, none⟩)) := (hkb.cell (o := 0) (by simp; omega) hne).trans (hbox2 _)
          have k0 : w3.cell? ⟨w2.heap.size, 0, none⟩ = some (.int .i64 (p.1 : Int)) := (hkb.cell (o := 0) (by simp) (by omega)).trans (by simp)
          have k1 : w3.cell? ⟨w2.heap.size, 1, none⟩ = some (.int .i64 (i : Int)) := (hkb.cell (o := 1) (by simp) (by omega)).trans (by simp)
          have k2 : w3.cell? ⟨w2.heap.size, 2, none⟩ = some (.int .i64 (p.2 : Int)) := (hkb.cell (o := 2) (by simp) (by omega)).trans (by simp)
          have hs3 := hkb.size
          simp only [World.size_alloc] at hs3
          have hpl : pre.length < (cutAll t).1.length := by rw [← R1''.out]; simp
          obtain ⟨fn, tmps, assign, body, hy, hR⟩ := HY.out pre (p.1, i, p.2) w3 hj3 hpl
          clear hpl
          simp only [encP] at hy
          have HR := Lib.hid hR
          have HF3 := Lib.hid hfree3; have HC3 := Lib.hid hcut3; have HS3 := Lib.hid hs3
          clear R1' R2' R1 R2 hR hfree3 hcut3 hkb hj3 hbox2 hs3
          gi_wp2_with fail
          refine ⟨fun h => by simp [Fence.wide] at h, ?_⟩
          refine HR.out.mono ?_
          rintro e w4 ⟨rfl, hj4, ⟨hhb, hhc⟩, hs4⟩
          have hc4 : IsCut b (i + p.2) t (if isTok p.1 then opE p.1 (cutB t i p.2) else op) (if isTok p.1 then m + 1 else m) w4 :=
            ⟨(World.cell?_of_block (w := w3) (a := ⟨b, 0, none⟩) hhb).trans HC3.out.text, (World.cell?_of_block (w := w3) (a := ⟨b, 1, none⟩) hhb).trans HC3.out.at', (World.cell?_of_block (w := w3) (a := ⟨b, 2, none⟩) hhb).trans HC3.out.op, (World.cell?_of_block (w := w3) (a := ⟨b, 3, none⟩) hhb).trans HC3.out.tok⟩
          have hf4 : CutFree b w4 := fun o => (World.frozen?_of_block (w := w3) (a := ⟨b, o, none⟩) hhb).trans (HF3.out o)
          have hb4 : w4.cell? ⟨cb, 0, none⟩ = some (.pointer (some ⟨b, 0, none⟩)) := (World.cell?_of_block (w := w3) (a := ⟨cb, 0, none⟩) hhc).trans hbox3
          have hm : (if isTok p.1 then m + 1 else m) ≤ 6000 := by
            have := H.out.hn
            cases hq : isTok p.1
            · simpa using this
            · simp only [hq, true_and] at hlim
              simp only [if_true]; omega
          have hat4 : atOf b w4 = i + p.2 := by unfold atOf; rw [hc4.at']; exact Int.toNat_natCast _
          have hat0 : atOf b wr = i := by unfold atOf; rw [H.out.cut.at']; exact Int.toNat_natCast _
          have hrel : IterRel b cb t J (i + p.2) (if isTok p.1 then opE p.1 (cutB t i p.2) else op) (if isTok p.1 then m + 1 else m) f (pre ++ [(p.1, i, p.2)]) w4 :=
            ⟨hc4, hf4, hb4, by have := HS3.out; omega, by have := HS3.out; omega, hbd.2.2.2, hm, by have := hbd.2.2.1; omega, hj4, by rw [← R1''.out]; simp, R2''.out⟩
          have HREL := Lib.hid hrel
          have HAT := Lib.hid hat4; have HAT0 := Lib.hid hat0
          clear hc4 hf4 hb4 hm hrel hhb hhc hy hat4 hat0 k0 k1 k2 hbox3 hlim
          gi_wp2_with fail
          refine ⟨⟨_, _, _, _, _, HREL.out⟩, ?_⟩
          rw [HAT.out, HAT0.out]; have := hbd.2.2.1; omega
end

section
open Go.RowKit Go.Shelf

theorem assert_yes (x : Value) (w : World) : (Instr.typeAssert (.iface 61 x) 20 61 true).run Tryz.prog w = .ok (.tuple #[x, .bool true]) w := by kernel_rfl
theorem assert_nil (w : World) : (Instr.typeAssert .nilIface 20 61 true).run Tryz.prog w = .ok (.tuple #[.agg #[.int .i64 0, .int .i64 0], .bool false]) w := by kernel_rfl

set_option maxRecDepth 100000 in
theorem catch_refusal (n i c : Nat) (bl : Nat) (w : World) (hs : bl + 2 < w.heap.size) (hl : ∃ v, w.cell? ⟨bl, 0, none⟩ = some v) (ha : ∃ v, w.cell? ⟨bl + 1, 0, none⟩ = some v) (he : ∃ v, w.cell? ⟨bl + 2, 0, none⟩ = some v)
    (hf : w.frozen? ⟨bl, 0, none⟩ = false ∧ w.frozen? ⟨bl + 1, 0, none⟩ = false ∧ w.frozen? ⟨bl + 2, 0, none⟩ = false) :
    CallsDIn Fence.wide n Tryz.prog 36 #[.pointer (some ⟨bl, 0, none⟩), .pointer (some ⟨bl + 1, 0, none⟩), .pointer (some ⟨bl + 2, 0, none⟩)]
      (.panicking ({ v := .iface 61 (.agg #[.int .i64 (i : Int), .int .i64 (c : Int)]), recovered := false } :: [])) w fun e u' w' =>
      e = .returned (.tuple #[]) ∧ u' = .panicking ({ v := .iface 61 (.agg #[.int .i64 (i : Int), .int .i64 (c : Int)]), recovered := true } :: []) ∧
      w'.cell? ⟨bl, 0, none⟩ = some (.slice none 0 0) ∧ w'.cell? ⟨bl + 1, 0, none⟩ = some (.int .i64 (i : Int)) ∧ w'.cell? ⟨bl + 2, 0, none⟩ = some (.int .i64 (c : Int)) ∧ Below bl w w' := by
  obtain ⟨v0, hl⟩ := hl
  obtain ⟨v1, ha⟩ := ha
  obtain ⟨v2, he⟩ := he
  obtain ⟨f0, f1, f2⟩ := hf
  have al := fun o => (Below.refl _ w).alloc (Nat.le_refl _) o
  have x0 : ∀ o, (w.alloc o).cell? ⟨bl, 0, none⟩ = some v0 := fun o => ((al o).cell (p := ⟨bl, 0, none⟩) (by simp; omega)).trans hl
  have x1 : ∀ o, (w.alloc o).cell? ⟨bl + 1, 0, none⟩ = some v1 := fun o => ((al o).cell (p := ⟨bl + 1, 0, none⟩) (by simp; omega)).trans ha
  have x2 : ∀ o, (w.alloc o).cell? ⟨bl + 2, 0, none⟩ = some v2 := fun o => ((al o).cell (p := ⟨bl + 2, 0, none⟩) (by simp; omega)).trans he
  have y0 : ∀ o, (w.alloc o).frozen? ⟨bl, 0, none⟩ = false := fun o => ((al o).frozen (p := ⟨bl, 0, none⟩) (by simp; omega)).trans f0
  have y1 : ∀ o, (w.alloc o).frozen? ⟨bl + 1, 0, none⟩ = false := fun o => ((al o).frozen (p := ⟨bl + 1, 0, none⟩) (by simp; omega)).trans f1
  have y2 : ∀ o, (w.alloc o).frozen? ⟨bl + 2, 0, none⟩ = false := fun o => ((al o).frozen (p := ⟨bl + 2, 0, none⟩) (by simp; omega)).trans f2
  have n0 : ¬ bl = w.heap.size := by omega
  have n1 : ¬ bl + 1 = w.heap.size := by omega
  have n2 : ¬ bl + 2 = w.heap.size := by omega
  clear al
  have hta := assert_yes (.agg #[.int .i64 (i : Int), .int .i64 (c : Int)])
  refine callsDIn_of_wpSIn Tryz.func36 rfl trivial fun c₀ cs hu => ?_
  apply wpSIn_seq
  apply wpSIn_region
  simp [wpOpsSIn, go_sem, recoverD, hu, hta, Tryz.ntmps36, Exit.thenS]
  refine wpSIn_of_wpIn rfl ?_
  simp only [Array.replicate_succ, Array.replicate_zero, List.push_toArray, List.append_toArray, List.nil_append, List.cons_append, List.setIfInBounds_toArray, List.set_cons_zero, List.set_cons_succ]
  gi_wp2_with fail
  gi_region
  all_goals gi_wp2_with fail
  all_goals
    simp [bodyPostS, results, Tryz.results36]
    refine ⟨?_, ?_, ?_, ?_⟩
    · rw [World.cell?_setCell_other _ _ _ _ (by simp), World.cell?_setCell_other _ _ _ _ (by simp)]; exact World.cell?_setCell_same' _ _ _ (by rw [x0]; rfl)
    · rw [World.cell?_setCell_other _ _ _ _ (by simp)]; exact World.cell?_setCell_same' _ _ _ (by rw [World.cell?_setCell_other _ _ _ _ (by simp), x1]; rfl)
    · exact World.cell?_setCell_same' _ _ _ (by rw [World.cell?_setCell_other _ _ _ _ (by simp), World.cell?_setCell_other _ _ _ _ (by simp), x2]; rfl)
    · exact ((((((Below.refl bl w).alloc (by omega) _).setCell (p := ⟨bl, 0, none⟩) (Nat.le_refl _) _).setCell (p := ⟨bl + 1, 0, none⟩) (by simp) _).setCell (p := ⟨bl + 2, 0, none⟩) (by simp) _)).drew

set_option maxRecDepth 100000 in
theorem catch_none (n : Nat) (a0 a1 a2 : Value) (w : World) :
    CallsDIn Fence.wide n Tryz.prog 36 #[a0, a1, a2] .returning w fun e u' w' => e = .returned (.tuple #[]) ∧ u' = .returning ∧ Below w.heap.size w w' := by
  have hta := assert_nil
  refine callsDIn_of_wpSIn Tryz.func36 rfl trivial fun c₀ cs hu => ?_
  apply wpSIn_seq
  apply wpSIn_region
  simp [wpOpsSIn, go_sem, recoverD, hu, hta, Tryz.ntmps36, Exit.thenS]
  refine wpSIn_of_wpIn rfl ?_
  simp only [Array.replicate_succ, Array.replicate_zero, List.push_toArray, List.append_toArray, List.nil_append, List.cons_append, List.setIfInBounds_toArray, List.set_cons_zero, List.set_cons_succ]
  gi_wp2_with fail
  simp [bodyPostS, results, Tryz.results36]
  exact ⟨.returning, by rw [← hu], rfl, (Below.refl _ w).alloc (Nat.le_refl _) _⟩
end

end Go.Proofs.YtlkanfnhemjdcaaGreatDoor
