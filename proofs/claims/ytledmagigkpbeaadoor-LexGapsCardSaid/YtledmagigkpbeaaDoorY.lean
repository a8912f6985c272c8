/-
  A new cutter, and the function over its pieces.
-/
import Derived.Test.YtledmagigkpbeaaDoorX
import Derived.Test.YtledmagigkpbeaaDoorMath4
import Derived.RangeFuncNested
import Derived.RangeFuncBound
import Derived.RangeFuncCalls
import Derived.RangeFuncLeaves
import Derived.Shelf.Abstract
import Derived.Shelf.RegionOpen
import Derived.OwnWalkIn
import Derived.TacticsInMore
import Derived.LoopNIn
import Derived.LoopIn
namespace Go.Proofs.YtledmagigkpbeaaDoor
open Go.RowKit Go.Shelf

theorem newCutter_any (t : ByteArray) (w : World) :
    Calls Tryd.prog 27 #[.string t] w fun e w' => e = .returned (.pointer (some ⟨w.heap.size, 0, none⟩)) ∧ w' = w.alloc (.cells #[.string t, .int .i64 0, .bool false, .int .i64 0] 66) := by
  go_enter Tryd.func27, Tryd.ntmps27
  go_wp2
  go_ret
  exact ⟨rfl, rfl⟩

theorem pieces_any (b : Nat) (w : World) :
    Calls Tryd.prog 32 #[.pointer (some ⟨b, 0, none⟩)] w fun e w' => e = .returned (.func (.func 50) #[] #[.pointer (some ⟨w.heap.size, 0, none⟩)]) ∧ w' = w.alloc (.cells #[.pointer (some ⟨b, 0, none⟩)] 61) := by
  have hmf : ∀ (fn : Fn) (first cap : Array Value) (w : World), (Instr.makeFunc fn first cap).run Tryd.prog w = .ok (.func fn first cap) w := fun _ _ _ _ => rfl
  go_enter Tryd.func32, Tryd.ntmps32
  go_wp2
  go_ret
  exact ⟨rfl, rfl⟩

def encP (x : Nat × Nat × Nat) : Value := .agg #[.int .i64 (x.1 : Int), .int .i64 (x.2.1 : Int), .int .i64 (x.2.2 : Int)]
def iterEnd : Option (Nat × Nat) → Ending
  | none => .returned (.tuple #[])
  | some p => refusedEnd p.1 p.2
def atOf (b : Nat) (w : World) : Nat := match w.cell? ⟨b, 1, none⟩ with
  | some (.int _ i) => i.toNat
  | _ => 0

structure IterRel (b cb : Nat) (t : ByteArray) (J : List (Nat × Nat × Nat) → World → Prop) (i : Nat) (op : Bool) (n f : Nat) (pre : List (Nat × Nat × Nat)) (w : World) : Prop where
  cut : IsCut b i t op n w
  free : CutFree b w
  box : w.cell? ⟨cb, 0, none⟩ = some (.pointer (some ⟨b, 0, none⟩))
  hb : b < w.heap.size
  hcb : cb < w.heap.size
  hi : i ≤ t.size
  hn : n ≤ 6000
  hf : t.size - i < f
  j : J pre w
  r1 : pre ++ (cutF t f i op n).1 = (cutAll t).1
  r2 : (cutF t f i op n).2 = (cutAll t).2

set_option maxHeartbeats 2000000 in
set_option maxRecDepth 100000 in
theorem iter_any (n l b cb : Nat) (t : ByteArray) (ht : t.size ≤ 1048576) (hne : cb ≠ b) (J : List (Nat × Nat × Nat) → World → Prop)
    (hJ : ∀ pre W W', J pre W → KeptBut b W W' → J pre W') (hE : ∀ pre W, J pre W → Env W)
    (hY : ∀ pre x W1, J pre W1 → pre.length < (cutAll t).1.length → YieldAt Fence.wide (n - 1) Tryd.prog l #[encP x] W1 fun e W' => e = .returned (.bool true) ∧ J (pre ++ [x]) W' ∧ (W'.heap[b]? = W1.heap[b]? ∧ W'.heap[cb]? = W1.heap[cb]?) ∧ W1.heap.size ≤ W'.heap.size)
    (W : World) (hW : IterRel b cb t J 0 false 0 (t.size + 1) [] W) :
    CallsIn Fence.wide n Tryd.prog 50 #[.func (.yield l) #[] #[], .pointer (some ⟨cb, 0, none⟩)] W fun e W' => e = iterEnd (cutAll t).2 ∧ J (cutAll t).1 W' := by
  have HJ := Lib.hid hJ; have HE := Lib.hid hE; have HY := Lib.hid hY
  clear hJ hE hY
  refine callsIn_of_wp Tryd.func50 rfl trivial ?_
  simp only [Tryd.ntmps50, List.size_toArray, List.length_cons, List.length_nil, Nat.reduceAdd, Nat.reduceSub, Array.replicate_succ,
     Array.replicate_zero, List.push_toArray, List.append_toArray, List.nil_append, List.cons_append]
  gi_wp2_with fail
  gi_loopw [3] (fun _ wr => ∃ i op n f pre, IterRel b cb t J i op n f pre wr) (fun _ wr => t.size - atOf b wr)
  case atStart => exact ⟨0, false, 0, t.size + 1, [], hW⟩
  case round =>
    obtain ⟨i, op, m, f, pre, h⟩ := hrel
    have hbox := h.box
    have hdn := done_q b i t _ h.cut.text h.cut.at'
    have HD := Lib.hid hdn
    have H := Lib.hid h
    clear hdn h
    by_cases hlt : t.size ≤ i
    · gi_wp2_with fail
      refine ⟨trivial, fun h => by simp [Fence.wide] at h, ?_⟩
      refine (callsIn_wide.2 HD.out).mono ?_
      rintro e w1 ⟨rfl, q, rfl⟩
      gi_wp2_with fail
      have h := H.out
      have hr1 := h.r1; have hr2 := h.r2
      have hc : ∀ f, cutF t f i op m = ([], none) := fun f => by cases f with
        | zero => rfl
        | succ f => simp [cutF, Nat.not_lt.2 hlt]
      rw [hc] at hr1 hr2
      refine bodyPost_end (results_none rfl _ _ _) rfl ⟨?_, ?_⟩
      · rw [← hr2]; rfl
      · rw [← hr1]; simp only [List.append_nil]; exact HJ.out _ _ _ h.j (.of_below (below_drewN (Below.refl _ _) _))
    · gi_wp2_with fail
      refine ⟨trivial, fun h => by simp [Fence.wide] at h, ?_⟩
      refine (callsIn_wide.2 HD.out).mono ?_
      rintro e w1 ⟨rfl, q, rfl⟩
      have hnx := next_any b i m t op (wr.drewN q) (HE.out _ _ (HJ.out _ _ _ H.out.j (.of_below (below_drewN (Below.refl _ _) q)))) H.out.hb (by omega) ht (H.out.cut.drewN q)
      have hr1 := H.out.r1; have hr2 := H.out.r2
      have hf0 := H.out.hf
      obtain ⟨f, rfl⟩ : ∃ f', f = f' + 1 := ⟨f - 1, by omega⟩
      have hil : i < t.size := by omega
      rw [cutF, if_pos hil] at hr1 hr2
      have HB := Lib.hid hbox
      cases hres : nextR t i op with
      | error c =>
        rw [hres] at hnx hr1 hr2
        simp only [nextEnd, refusedEnd] at hnx
        have HN := Lib.hid hnx
        have R1 := Lib.hid hr1; have R2 := Lib.hid hr2
        clear hnx hr1 hr2 hres
        gi_wp2_with fail
        refine ⟨trivial, fun h => by simp [Fence.wide] at h, ?_⟩
        refine (callsIn_wide.2 HN.out).mono ?_
        rintro e w2 ⟨rfl, hb2⟩
        gi_wp2_with fail
        refine ⟨rfl, ?_, ?_⟩
        · rw [← R2.out]; rfl
        · rw [← R1.out]; simp only [List.append_nil]; exact HJ.out _ _ _ H.out.j (.of_below ((below_drewN (Below.refl _ _) q).trans hb2))
      | ok p =>
        have hbd := next_bounds hil hres
        rw [hres] at hnx hr1 hr2
        simp only [nextEnd] at hnx
        have HN := Lib.hid hnx
        have R1 := Lib.hid hr1; have R2 := Lib.hid hr2
        clear hnx hr1 hr2 hres
        gi_wp2_with fail
        refine ⟨trivial, fun h => by simp [Fence.wide] at h, ?_⟩
        refine (callsIn_wide.2 HN.out).mono ?_
        rintro e w2 ⟨rfl, hb2⟩
        have hB2 : Below wr.heap.size wr w2 := (below_drewN (Below.refl _ _) q).trans hb2
        have hbox2 : ∀ o, (w2.alloc o).cell? ⟨cb, 0, none⟩ = some (.pointer (some ⟨b, 0, none⟩)) := fun o =>
          ((hB2.alloc hB2.size o).cell (p := ⟨cb, 0, none⟩) H.out.hcb).trans HB.out
        have hB3 := fun o => hB2.alloc hB2.size o
        have hpass := fun o => pass_any b i m p.1 i p.2 t op (w2.alloc o) (by have := hB2.size; have := H.out.hb; simp; omega) hbd.2.1 H.out.hn hbd.2.2.2 ht (H.out.cut.below H.out.hb (hB3 o)) (H.out.free.below H.out.hb (hB3 o))
        have HP := Lib.hid hpass; have HB2 := Lib.hid hB2
        clear hpass hb2 hB2 hB3 hbox
        gi_wp2_with fail
        refine ⟨trivial, fun h => by simp [Fence.wide] at h, ?_⟩
        refine (callsIn_wide.2 (HP.out _)).mono ?_
        intro e w3 hpp
        have hsz : b < w2.heap.size := by have := HB2.out.size; have := H.out.hb; omega
        have hcsz : cb < w2.heap.size := by have := HB2.out.size; have := H.out.hcb; omega
        have R1' := R1.out; have R2' := R2.out
        by_cases hlim : isTok p.1 = true ∧ m = 6000
        · rw [PassPost, if_pos hlim] at hpp
          obtain ⟨rfl, hkb⟩ := hpp
          simp only [hlim, and_self, if_true] at R1' R2'
          have R1'' := Lib.hid R1'; have R2'' := Lib.hid R2'
          clear R1' R2' R1 R2
          refine ⟨rfl, ?_, ?_⟩
          · rw [← R2''.out]; rfl
          · rw [← R1''.out]; simp only [List.append_nil]
            exact HJ.out _ _ _ (HJ.out _ _ _ H.out.j (.of_below (HB2.out.alloc HB2.out.size _))) hkb
        · rw [PassPost, if_neg hlim] at hpp
          obtain ⟨rfl, hcut3, hfree3, hkb⟩ := hpp
          simp only [if_neg hlim] at R1' R2'
          have R1'' := Lib.hid R1'; have R2'' := Lib.hid R2'
          have hj3 : J pre w3 := HJ.out _ _ _ (HJ.out _ _ _ H.out.j (.of_below (HB2.out.alloc HB2.out.size _))) hkb
          have hbox3 : w3.cell? ⟨cb, 0, none⟩ = some (.pointer (some ⟨b, 0, none⟩)) := (hkb.cell (o := 0) (by simp; omega) hne).trans (hbox2 _)
          have k0 : w3.cell? ⟨w2.heap.size, 0, none⟩ = some (.int .i64 (p.1 : Int)) := (hkb.cell (o := 0) (by simp) (by omega)).trans (by simp)
          have k1 : w3.cell? ⟨w2.heap.size, 1, none⟩ = some (.int .i64 (i : Int)) := (hkb.cell (o := 1) (by simp) (by omega)).trans (by simp)
          have k2 : w3.cell? ⟨w2.heap.size, 2, none⟩ = some (.int .i64 (p.2 : Int)) := (hkb.cell (o := 2) (by simp) (by omega)).trans (by simp)
          have hs3 := hkb.size
          simp only [World.size_alloc] at hs3
          have hpl : pre.length < (cutAll t).1.length := by rw [← R1''.out]; simp
          obtain ⟨fn, tmps, assign, body, hy, hR⟩ := HY.out pre (p.1, i, p.2) w3 hj3 hpl
          clear hpl
          simp only [encP] at hy
          have HR := Lib.hid hR
          have HF3 := Lib.hid hfree3; have HC3 := Lib.hid hcut3; have HS3 := Lib.hid hs3
          clear R1' R2' R1 R2 hR hfree3 hcut3 hkb hj3 hbox2 hs3
          gi_wp2_with fail
          refine ⟨fun h => by simp [Fence.wide] at h, ?_⟩
          refine HR.out.mono ?_
          rintro e w4 ⟨rfl, hj4, ⟨hhb, hhc⟩, hs4⟩
          have hc4 : IsCut b (i + p.2) t (if isTok p.1 then opE p.1 (cutB t i p.2) else op) (if isTok p.1 then m + 1 else m) w4 :=
            ⟨(World.cell?_of_block (w := w3) (a := ⟨b, 0, none⟩) hhb).trans HC3.out.text, (World.cell?_of_block (w := w3) (a := ⟨b, 1, none⟩) hhb).trans HC3.out.at', (World.cell?_of_block (w := w3) (a := ⟨b, 2, none⟩) hhb).trans HC3.out.op, (World.cell?_of_block (w := w3) (a := ⟨b, 3, none⟩) hhb).trans HC3.out.tok⟩
          have hf4 : CutFree b w4 := fun o => (World.frozen?_of_block (w := w3) (a := ⟨b, o, none⟩) hhb).trans (HF3.out o)
          have hb4 : w4.cell? ⟨cb, 0, none⟩ = some (.pointer (some ⟨b, 0, none⟩)) := (World.cell?_of_block (w := w3) (a := ⟨cb, 0, none⟩) hhc).trans hbox3
          have hm : (if isTok p.1 then m + 1 else m) ≤ 6000 := by
            have := H.out.hn
            cases hq : isTok p.1
            · simpa using this
            · simp only [hq, true_and] at hlim
              simp only [if_true]; omega
          have hat4 : atOf b w4 = i + p.2 := by unfold atOf; rw [hc4.at']; exact Int.toNat_natCast _
          have hat0 : atOf b wr = i := by unfold atOf; rw [H.out.cut.at']; exact Int.toNat_natCast _
          have hrel : IterRel b cb t J (i + p.2) (if isTok p.1 then opE p.1 (cutB t i p.2) else op) (if isTok p.1 then m + 1 else m) f (pre ++ [(p.1, i, p.2)]) w4 :=
            ⟨hc4, hf4, hb4, by have := HS3.out; omega, by have := HS3.out; omega, hbd.2.2.2, hm, by have := hbd.2.2.1; omega, hj4, by rw [← R1''.out]; simp, R2''.out⟩
          have HREL := Lib.hid hrel
          have HAT := Lib.hid hat4; have HAT0 := Lib.hid hat0
          clear hc4 hf4 hb4 hm hrel hhb hhc hy hat4 hat0 k0 k1 k2 hbox3 hlim
          gi_wp2_with fail
          refine ⟨⟨_, _, _, _, _, HREL.out⟩, ?_⟩
          rw [HAT.out, HAT0.out]; have := hbd.2.2.1; omega
end Go.Proofs.YtledmagigkpbeaaDoor
