/-
  The function over a cutter's pieces, from any place on, with a body that may stop.
-/
import Derived.Test.YtledmagigkpbeaaDoorP
import Derived.Test.YtledmagigkpbeaaDoorMath7
import Derived.RangeFuncNested
import Derived.RangeFuncBound
import Derived.RangeFuncCalls
import Derived.RangeFuncLeaves
import Derived.Shelf.Abstract
import Derived.Shelf.RegionOpen
import Derived.OwnWalkIn
import Derived.TacticsInMore
import Derived.LoopNIn
import Derived.LoopIn
namespace Go.Proofs.YtledmagigkpbeaaDoor
open Go.RowKit Go.Shelf

theorem steps_snoc {t : ByteArray} {i0 : Nat} {op0 : Bool} {n0 : Nat} {pre : List (Nat × Nat × Nat)} {i : Nat} {op : Bool} {m : Nat} {p : Nat × Nat} (h : Steps t i0 op0 n0 pre (i, op, m)) (hi : i < t.size) (hp : nextR t i op = .ok p) (hc : ¬ (isTok p.1 = true ∧ m = 6000)) :
    Steps t i0 op0 n0 (pre ++ [(p.1, i, p.2)]) (i + p.2, (if isTok p.1 then opE p.1 (cutB t i p.2) else op), (if isTok p.1 then m + 1 else m)) :=
  steps_append pre _ i0 op0 n0 _ _ h ⟨hi, rfl, hp, hc, rfl⟩

structure IterRel2 (b cb : Nat) (t : ByteArray) (i0 : Nat) (op0 : Bool) (n0 : Nat) (J : List (Nat × Nat × Nat) → World → Prop) (i : Nat) (op : Bool) (n : Nat) (pre : List (Nat × Nat × Nat)) (w : World) : Prop where
  cut : IsCut b i t op n w
  free : CutFree b w
  box : w.cell? ⟨cb, 0, none⟩ = some (.pointer (some ⟨b, 0, none⟩))
  hb : b < w.heap.size
  hcb : cb < w.heap.size
  hi : i ≤ t.size
  hn : n ≤ 6000
  j : J pre w
  st : Steps t i0 op0 n0 pre (i, op, n)
/-- How the function over the pieces ends: all pieces were yielded; the body stopped; or a piece was refused. -/
def IterEnd (b : Nat) (t : ByteArray) (i0 : Nat) (op0 : Bool) (n0 : Nat) (J : List (Nat × Nat × Nat) → World → Prop) (Stop : World → Prop) (e : Ending) (W' : World) : Prop :=
  (e = .returned (.tuple #[]) ∧ ∃ pre op m, Steps t i0 op0 n0 pre (t.size, op, m) ∧ IsCut b t.size t op m W' ∧ CutFree b W' ∧ J pre W') ∨ (e = .returned (.tuple #[]) ∧ Stop W') ∨
  (∃ pre i op m c, e = refusedEnd i c ∧ Steps t i0 op0 n0 pre (i, op, m) ∧ i < t.size ∧ (nextR t i op = .error c ∨ (∃ p, nextR t i op = .ok p ∧ isTok p.1 = true ∧ m = 6000 ∧ c = 2)) ∧ J pre W')

set_option maxHeartbeats 2000000 in
set_option maxRecDepth 100000 in
theorem iter_stop (n l b cb : Nat) (t : ByteArray) (ht : t.size ≤ 1048576) (hne : cb ≠ b) (i0 : Nat) (op0 : Bool) (n0 : Nat) (J : List (Nat × Nat × Nat) → World → Prop) (Stop : World → Prop)
    (hJ : ∀ pre W W', J pre W → KeptBut b W W' → J pre W') (hE : ∀ pre W, J pre W → Env W)
    (hY : ∀ pre x i op m W1, J pre W1 → Steps t i0 op0 n0 (pre ++ [x]) (i, op, m) → IsCut b i t op m W1 → CutFree b W1 → i ≤ t.size → m ≤ 6000 → b < W1.heap.size → cb < W1.heap.size → YieldAt Fence.wide (n - 1) Tryd.prog l #[encP x] W1 fun e W' => (e = .returned (.bool true) ∧ J (pre ++ [x]) W' ∧ (W'.heap[b]? = W1.heap[b]? ∧ W'.heap[cb]? = W1.heap[cb]?) ∧ W1.heap.size ≤ W'.heap.size) ∨ (e = .returned (.bool false) ∧ Stop W'))
    (W : World) (hW : IterRel2 b cb t i0 op0 n0 J i0 op0 n0 [] W) :
    CallsIn Fence.wide n Tryd.prog 50 #[.func (.yield l) #[] #[], .pointer (some ⟨cb, 0, none⟩)] W (IterEnd b t i0 op0 n0 J Stop) := by
  have HJ := Lib.hid hJ; have HE := Lib.hid hE; have HY := Lib.hid hY
  clear hJ hE hY
  refine callsIn_of_wp Tryd.func50 rfl trivial ?_
  simp only [Tryd.ntmps50, List.size_toArray, List.length_cons, List.length_nil, Nat.reduceAdd, Nat.reduceSub, Array.replicate_succ,
     Array.replicate_zero, List.push_toArray, List.append_toArray, List.nil_append, List.cons_append]
  gi_wp2_with fail
  gi_loopw [3] (fun _ wr => ∃ i op n pre, IterRel2 b cb t i0 op0 n0 J i op n pre wr) (fun _ wr => t.size - atOf b wr)
  case atStart => exact ⟨i0, op0, n0, [], hW⟩
  case round =>
    obtain ⟨i, op, m, pre, h⟩ := hrel
    have hbox := h.box
    have hdn := done_q b i t _ h.cut.text h.cut.at'
    have HD := Lib.hid hdn
    have H := Lib.hid h
    clear hdn h
    by_cases hlt : t.size ≤ i
    · gi_wp2_with fail
      refine ⟨trivial, fun h => by simp [Fence.wide] at h, ?_⟩
      refine (callsIn_wide.2 HD.out).mono ?_
      rintro e w1 ⟨rfl, q, rfl⟩
      gi_wp2_with fail
      have h := H.out
      have his : i = t.size := by have := h.hi; omega
      subst his
      refine bodyPost_end (results_none rfl _ _ _) rfl (Or.inl ⟨rfl, pre, op, m, h.st, h.cut.drewN q, fun o => h.free o, HJ.out _ _ _ h.j (.of_below (below_drewN (Below.refl _ _) _))⟩)
    · gi_wp2_with fail
      refine ⟨trivial, fun h => by simp [Fence.wide] at h, ?_⟩
      refine (callsIn_wide.2 HD.out).mono ?_
      rintro e w1 ⟨rfl, q, rfl⟩
      have hnx := next_any b i m t op (wr.drewN q) (HE.out _ _ (HJ.out _ _ _ H.out.j (.of_below (below_drewN (Below.refl _ _) q)))) H.out.hb (by omega) ht (H.out.cut.drewN q)
      have hil : i < t.size := by omega
      have HB := Lib.hid hbox
      cases hres : nextR t i op with
      | error c =>
        rw [hres] at hnx
        simp only [nextEnd, refusedEnd] at hnx
        have HN := Lib.hid hnx
        have HRES := Lib.hid hres
        clear hnx hres
        gi_wp2_with fail
        refine ⟨trivial, fun h => by simp [Fence.wide] at h, ?_⟩
        refine (callsIn_wide.2 HN.out).mono ?_
        rintro e w2 ⟨rfl, hb2⟩
        gi_wp2_with fail
        refine ⟨rfl, Or.inr (Or.inr ⟨pre, i, op, m, c, rfl, H.out.st, hil, Or.inl HRES.out, HJ.out _ _ _ H.out.j (.of_below ((below_drewN (Below.refl _ _) q).trans hb2))⟩)⟩
      | ok p =>
        have hbd := next_bounds hil hres
        rw [hres] at hnx
        simp only [nextEnd] at hnx
        have HN := Lib.hid hnx
        have HRES := Lib.hid hres
        clear hnx hres
        gi_wp2_with fail
        refine ⟨trivial, fun h => by simp [Fence.wide] at h, ?_⟩
        refine (callsIn_wide.2 HN.out).mono ?_
        rintro e w2 ⟨rfl, hb2⟩
        have hB2 : Below wr.heap.size wr w2 := (below_drewN (Below.refl _ _) q).trans hb2
        have hbox2 : ∀ o, (w2.alloc o).cell? ⟨cb, 0, none⟩ = some (.pointer (some ⟨b, 0, none⟩)) := fun o =>
          ((hB2.alloc hB2.size o).cell (p := ⟨cb, 0, none⟩) H.out.hcb).trans HB.out
        have hB3 := fun o => hB2.alloc hB2.size o
        have hpass := fun o => pass_any b i m p.1 i p.2 t op (w2.alloc o) (by have := hB2.size; have := H.out.hb; simp; omega) hbd.2.1 H.out.hn hbd.2.2.2 ht (H.out.cut.below H.out.hb (hB3 o)) (H.out.free.below H.out.hb (hB3 o))
        have HP := Lib.hid hpass; have HB2 := Lib.hid hB2
        clear hpass hb2 hB2 hB3 hbox
        gi_wp2_with fail
        refine ⟨trivial, fun h => by simp [Fence.wide] at h, ?_⟩
        refine (callsIn_wide.2 (HP.out _)).mono ?_
        intro e w3 hpp
        have hsz : b < w2.heap.size := by have := HB2.out.size; have := H.out.hb; omega
        have hcsz : cb < w2.heap.size := by have := HB2.out.size; have := H.out.hcb; omega
        by_cases hlim : isTok p.1 = true ∧ m = 6000
        · rw [PassPost, if_pos hlim] at hpp
          obtain ⟨rfl, hkb⟩ := hpp
          refine ⟨rfl, Or.inr (Or.inr ⟨pre, i, op, m, 2, rfl, H.out.st, hil, Or.inr ⟨p, HRES.out, hlim.1, hlim.2, rfl⟩, HJ.out _ _ _ (HJ.out _ _ _ H.out.j (.of_below (HB2.out.alloc HB2.out.size _))) hkb⟩)⟩
        · rw [PassPost, if_neg hlim] at hpp
          obtain ⟨rfl, hcut3, hfree3, hkb⟩ := hpp
          have HSN := Lib.hid (steps_snoc H.out.st hil HRES.out hlim)
          have hj3 : J pre w3 := HJ.out _ _ _ (HJ.out _ _ _ H.out.j (.of_below (HB2.out.alloc HB2.out.size _))) hkb
          have hbox3 : w3.cell? ⟨cb, 0, none⟩ = some (.pointer (some ⟨b, 0, none⟩)) := (hkb.cell (o := 0) (by simp; omega) hne).trans (hbox2 _)
          have k0 : w3.cell? ⟨w2.heap.size, 0, none⟩ = some (.int .i64 (p.1 : Int)) := (hkb.cell (o := 0) (by simp) (by omega)).trans (by simp)
          have k1 : w3.cell? ⟨w2.heap.size, 1, none⟩ = some (.int .i64 (i : Int)) := (hkb.cell (o := 1) (by simp) (by omega)).trans (by simp)
          have k2 : w3.cell? ⟨w2.heap.size, 2, none⟩ = some (.int .i64 (p.2 : Int)) := (hkb.cell (o := 2) (by simp) (by omega)).trans (by simp)
          have hs3 := hkb.size
          simp only [World.size_alloc] at hs3
          have hm : (if isTok p.1 then m + 1 else m) ≤ 6000 := by
            have := H.out.hn
            cases hq : isTok p.1
            · simpa using this
            · simp only [hq, true_and] at hlim
              simp only [if_true]; omega
          obtain ⟨fn, tmps, assign, body, hy, hR⟩ := HY.out pre (p.1, i, p.2) _ _ _ w3 hj3 HSN.out hcut3 hfree3 hbd.2.2.2 hm (by omega) (by omega)
          simp only [encP] at hy
          have HR := Lib.hid hR
          have HF3 := Lib.hid hfree3; have HC3 := Lib.hid hcut3; have HS3 := Lib.hid hs3
          clear hR hfree3 hcut3 hkb hj3 hbox2 hs3
          gi_wp2_with fail
          refine ⟨fun h => by simp [Fence.wide] at h, ?_⟩
          refine HR.out.mono ?_
          rintro e w4 (⟨rfl, hj4, ⟨hhb, hhc⟩, hs4⟩ | ⟨rfl, hstop⟩)
          rotate_left
          · have HST := Lib.hid hstop
            clear hstop
            gi_wp2_with fail
            exact bodyPost_end (results_none rfl _ _ _) rfl (Or.inr (Or.inl ⟨rfl, HST.out⟩))
          have hc4 : IsCut b (i + p.2) t (if isTok p.1 then opE p.1 (cutB t i p.2) else op) (if isTok p.1 then m + 1 else m) w4 :=
            ⟨(World.cell?_of_block (w := w3) (a := ⟨b, 0, none⟩) hhb).trans HC3.out.text, (World.cell?_of_block (w := w3) (a := ⟨b, 1, none⟩) hhb).trans HC3.out.at', (World.cell?_of_block (w := w3) (a := ⟨b, 2, none⟩) hhb).trans HC3.out.op, (World.cell?_of_block (w := w3) (a := ⟨b, 3, none⟩) hhb).trans HC3.out.tok⟩
          have hf4 : CutFree b w4 := fun o => (World.frozen?_of_block (w := w3) (a := ⟨b, o, none⟩) hhb).trans (HF3.out o)
          have hb4 : w4.cell? ⟨cb, 0, none⟩ = some (.pointer (some ⟨b, 0, none⟩)) := (World.cell?_of_block (w := w3) (a := ⟨cb, 0, none⟩) hhc).trans hbox3
          have hat4 : atOf b w4 = i + p.2 := by unfold atOf; rw [hc4.at']; exact Int.toNat_natCast _
          have hat0 : atOf b wr = i := by unfold atOf; rw [H.out.cut.at']; exact Int.toNat_natCast _
          have hrel : IterRel2 b cb t i0 op0 n0 J (i + p.2) (if isTok p.1 then opE p.1 (cutB t i p.2) else op) (if isTok p.1 then m + 1 else m) (pre ++ [(p.1, i, p.2)]) w4 :=
            ⟨hc4, hf4, hb4, by have := HS3.out; omega, by have := HS3.out; omega, hbd.2.2.2, hm, hj4, HSN.out⟩
          have HREL := Lib.hid hrel
          have HAT := Lib.hid hat4; have HAT0 := Lib.hid hat0
          clear hc4 hf4 hb4 hm hrel hhb hhc hy hat4 hat0 k0 k1 k2 hbox3 hlim
          gi_wp2_with fail
          refine ⟨⟨_, _, _, _, HREL.out⟩, ?_⟩
          rw [HAT.out, HAT0.out]; have := hbd.2.2.1; omega
end Go.Proofs.YtledmagigkpbeaaDoor
