/-
  The function over a cutter's pieces, from any place on, with a body that may stop.
  The deferred closure of recut, which takes a refusal up.
  What holds between the steps of recut: its variables, the row of the pieces so far, and what a step may turn.
-/
import Derived.Test.YtlkanfnhemjdcaaGreatDoorXO
import Derived.Test.YtlkanfnhemjdcaaGreatDoorXA
import Derived.RangeFuncNested
import Derived.RangeFuncBound
import Derived.RangeFuncCalls
import Derived.RangeFuncLeaves
import Derived.Shelf.Abstract
import Derived.Shelf.RegionOpen
import Derived.OwnWalkIn
import Derived.TacticsInMore
import Derived.LoopNIn
import Derived.LoopIn
import Derived.Test.YtlkanfnhemjdcaaGreatDoorXF
namespace Go.Proofs.YtlkanfnhemjdcaaGreatDoor
section
open Go.RowKit Go.Shelf

theorem steps_snoc {t : ByteArray} {i0 : Nat} {op0 : Bool} {n0 : Nat} {pre : List (Nat × Nat × Nat)} {i : Nat} {op : Bool} {m : Nat} {p : Nat × Nat} (h : Steps t i0 op0 n0 pre (i, op, m)) (hi : i < t.size) (hp : nextR t i op = .ok p) (hc : ¬ (isTok p.1 = true ∧ m = 6000)) :
    Steps t i0 op0 n0 (pre ++ [(p.1, i, p.2)]) (i + p.2, (if isTok p.1 then opE p.1 (cutB t i p.2) else op), (if isTok p.1 then m + 1 else m)) :=
  steps_append pre _ i0 op0 n0 _ _ h ⟨hi, rfl, hp, hc, rfl⟩

structure IterRel2 (b cb : Nat) (t : ByteArray) (i0 : Nat) (op0 : Bool) (n0 : Nat) (J : List (Nat × Nat × Nat) → World → Prop) (i : Nat) (op : Bool) (n : Nat) (pre : List (Nat × Nat × Nat)) (w : World) : Prop where
  cut : IsCut b i t op n w
  free : CutFree b w
  box : w.cell? ⟨cb, 0, none⟩ = some (.pointer (some ⟨b, 0, none⟩))
  hb : b < w.heap.size
  hcb : cb < w.heap.size
  hi : i ≤ t.size
  hn : n ≤ 6000
  j : J pre w
  st : Steps t i0 op0 n0 pre (i, op, n)
/-- How the function over the pieces ends: all pieces were yielded; the body stopped; or a piece was refused. -/
def IterEnd (b : Nat) (t : ByteArray) (i0 : Nat) (op0 : Bool) (n0 : Nat) (J : List (Nat × Nat × Nat) → World → Prop) (Stop : World → Prop) (e : Ending) (W' : World) : Prop :=
  (e = .returned (.tuple #[]) ∧ ∃ pre op m, Steps t i0 op0 n0 pre (t.size, op, m) ∧ IsCut b t.size t op m W' ∧ CutFree b W' ∧ J pre W') ∨ (e = .returned (.tuple #[]) ∧ Stop W') ∨
  (∃ pre i op m c, e = refusedEnd i c ∧ Steps t i0 op0 n0 pre (i, op, m) ∧ i < t.size ∧ (nextR t i op = .error c ∨ (∃ p, nextR t i op = .ok p ∧ isTok p.1 = true ∧ m = 6000 ∧ c = 2)) ∧ J pre W')

set_option maxHeartbeats 2000000 in
set_option maxRecDepth 100000 in
theorem iter_stop (n l b cb : Nat) (t : ByteArray) (ht : t.size ≤ 140737488351232) (hne : cb ≠ b) (i0 : Nat) (op0 : Bool) (n0 : Nat) (J : List (Nat × Nat × Nat) → World → Prop) (Stop : World → Prop)
    (hJ : ∀ pre W W', J pre W → KeptBut b W W' → J pre W') (hE : ∀ pre W, J pre W → Env W)
    (hY : ∀ pre x i op m W1, J pre W1 → Steps t i0 op0 n0 (pre ++ [x]) (i, op, m) → IsCut b i t op m W1 → CutFree b W1 → i ≤ t.size → m ≤ 6000 → b < W1.heap.size → cb < W1.heap.size → YieldAt Fence.wide (n - 1) Tryz.prog l #[encP x] W1 fun e W' => (e = .returned (.bool true) ∧ J (pre ++ [x]) W' ∧ (W'.heap[b]? = W1.heap[b]? ∧ W'.heap[cb]? = W1.heap[cb]?) ∧ W1.heap.size ≤ W'.heap.size) ∨ (e = .returned (.bool false) ∧ Stop W'))
    (W : World) (hW : IterRel2 b cb t i0 op0 n0 J i0 op0 n0 [] W) :
    CallsIn Fence.wide n Tryz.prog 58 #[.func (.yield l) #[] #[], .pointer (some ⟨cb, 0, none⟩)] W (IterEnd b t i0 op0 n0 J Stop) := by
  have HJ := Lib.hid hJ; have HE := Lib.hid hE; have HY := Lib.hid hY
  clear hJ hE hY
  refine callsIn_of_wp Tryz.func58 rfl trivial ?_
  simp only [Tryz.ntmps58, List.size_toArray, List.length_cons, List.length_nil, Nat.reduceAdd, Nat.reduceSub, Array.replicate_succ,
     Array.replicate_zero, List.push_toArray, List.append_toArray, List.nil_append, List.cons_append]
  gi_wp2_with fail
  gi_loopw [3] (fun _ wr => ∃ i op n pre, IterRel2 b cb t i0 op0 n0 J i op n pre wr) (fun _ wr => t.size - atOf b wr)
  case atStart => exact ⟨i0, op0, n0, [], hW⟩
  case round =>
    obtain ⟨i, op, m, pre, h⟩ := hrel
    have hbox := h.box
    have hdn := done_q b i t _ h.cut.text h.cut.at'
    have HD := Lib.hid hdn
    have H := Lib.hid h
    clear hdn h
    by_cases hlt : t.size ≤ i
    · gi_wp2_with fail
      refine ⟨trivial, fun h => by simp [Fence.wide] at h, ?_⟩
      refine (callsIn_wide.2 HD.out).mono ?_
      rintro e w1 ⟨rfl, q, rfl⟩
      gi_wp2_with fail
      have h := H.out
      have his : i = t.size := by have := h.hi; omega
      subst his
      refine bodyPost_end (results_none rfl _ _ _) rfl (Or.inl ⟨rfl, pre, op, m, h.st, h.cut.drewN q, fun o => h.free o, HJ.out _ _ _ h.j (.of_below (below_drewN (Below.refl _ _) _))⟩)
    · gi_wp2_with fail
      refine ⟨trivial, fun h => by simp [Fence.wide] at h, ?_⟩
      refine (callsIn_wide.2 HD.out).mono ?_
      rintro e w1 ⟨rfl, q, rfl⟩
      have hnx := next_any b i m t op (wr.drewN q) (HE.out _ _ (HJ.out _ _ _ H.out.j (.of_below (below_drewN (Below.refl _ _) q)))) H.out.hb (by omega) ht (H.out.cut.drewN q)
      have hil : i < t.size := by omega
      have HB := Lib.hid hbox
      cases hres : nextR t i op with
      | error c =>
        rw [hres] at hnx
        simp only [nextEnd, refusedEnd] at hnx
        have HN := Lib.hid hnx
        have HRES := Lib.hid hres
        clear hnx hres
        gi_wp2_with fail
        refine ⟨trivial, fun h => by simp [Fence.wide] at h, ?_⟩
        refine (callsIn_wide.2 HN.out).mono ?_
        rintro e w2 ⟨rfl, hb2⟩
        gi_wp2_with fail
        refine ⟨rfl, Or.inr (Or.inr ⟨pre, i, op, m, c, rfl, H.out.st, hil, Or.inl HRES.out, HJ.out _ _ _ H.out.j (.of_below ((below_drewN (Below.refl _ _) q).trans hb2))⟩)⟩
      | ok p =>
        have hbd := next_bounds hil hres
        rw [hres] at hnx
        simp only [nextEnd] at hnx
        have HN := Lib.hid hnx
        have HRES := Lib.hid hres
        clear hnx hres
        gi_wp2_with fail
        refine ⟨trivial, fun h => by simp [Fence.wide] at h, ?_⟩
        refine (callsIn_wide.2 HN.out).mono ?_
        rintro e w2 ⟨rfl, hb2⟩
        have hB2 : Below wr.heap.size wr w2 := (below_drewN (Below.refl _ _) q).trans hb2
        have hbox2 : ∀ o, (w2.alloc o).cell? ⟨cb, 0, none⟩ = some (.pointer (some ⟨b, 0, none⟩)) := fun o =>
          ((hB2.alloc hB2.size o).cell (p := ⟨cb, 0, none⟩) H.out.hcb).trans HB.out
        have hB3 := fun o => hB2.alloc hB2.size o
        have hpass := fun o => pass_any b i m p.1 i p.2 t op (w2.alloc o) (by have := hB2.size; have := H.out.hb; simp; omega) hbd.2.1 H.out.hn hbd.2.2.2 ht (H.out.cut.below H.out.hb (hB3 o)) (H.out.free.below H.out.hb (hB3 o))
        have HP := Lib.hid hpass; have HB2 := Lib.hid hB2
        clear hpass hb2 hB2 hB3 hbox
        gi_wp2_with fail
        refine ⟨trivial, fun h => by simp [Fence.wide] at h, ?_⟩
        refine (callsIn_wide.2 (HP.out _)).mono ?_
        intro e w3 hpp
        have hsz : b < w2.heap.size := by have := HB2.out.size; have := H.out.hb; omega
        have hcsz : cb < w2.heap.size := by have := HB2.out.size; have := H.out.hcb; omega
        by_cases hlim : isTok p.1 = true ∧ m = 6000
        · rw [PassPost, if_pos hlim] at hpp
          obtain ⟨rfl, hkb⟩ := hpp
          refine ⟨rfl, Or.inr (Or.inr ⟨pre, i, op, m, 2, rfl, H.out.st, hil, Or.inr ⟨p, HRES.out, hlim.1, hlim.2, rfl⟩, HJ.out _ _ _ (HJ.out _ _ _ H.out.j (.of_below (HB2.out.alloc HB2.out.size _))) hkb⟩)⟩
        · rw [PassPost, if_neg hlim] at hpp
          obtain ⟨rfl, hcut3, hfree3, hkb⟩ := hpp
          have HSN := Lib.hid (steps_snoc H.out.st hil HRES.out hlim)
          have hj3 : J pre w3 := HJ.out _ _ _ (HJ.out _ _ _ H.out.j (.of_below (HB2.out.alloc HB2.out.size _))) hkb
          have hbox3 : w3.cell? ⟨cb, 0, none⟩ = some (.pointer (some ⟨b, 0, none⟩)) := (hkb.cell (o := 0) (by simp; omega) hne).trans (hbox2 _)
          have k0 : w3.cell? ⟨w2.heap.size, 0, none⟩ = some (.int .i64 (p.1 : Int)) := (hkb.cell (o := 0) (by simp) (by omega)).trans (by simp)
          have k1 : w3.cell? ⟨w2.heap.size, 1, none⟩ = some (.int .i64 (i : Int)) := (hkb.cell (o := 1) (by simp) (by omega)).trans (by simp)
          have k2 : w3.cell? ⟨w2.heap.size, 2, none⟩ = some (.int .i64 (p.2 : Int)) := (hkb.cell (o := 2) (by simp) (by omega)).trans (by simp)
          have hs3 := hkb.size
          simp only [World.size_alloc] at hs3
          have hm : (if isTok p.1 then m + 1 else m) ≤ 6000 := by
            have := H.out.hn
            cases hq : isTok p.1
            · simpa using this
            · simp only [hq, true_and] at hlim
              simp only [if_true]; omega
          obtain ⟨fn, tmps, assign, body, hy, hR⟩ := HY.out pre (p.1, i, p.2) _ _ _ w3 hj3 HSN.out hcut3 hfree3 hbd.2.2.2 hm (by omega) (by omega)
          simp only [encP] at hy
          have HR := Lib.hid hR
          have HF3 := Lib.hid hfree3; have HC3 := Lib.hid hcut3; have HS3 := Lib.hid hs3
          clear hR hfree3 hcut3 hkb hj3 hbox2 hs3
          gi_wp2_with fail
          refine ⟨fun h => by simp [Fence.wide] at h, ?_⟩
          refine HR.out.mono ?_
          rintro e w4 (⟨rfl, hj4, ⟨hhb, hhc⟩, hs4⟩ | ⟨rfl, hstop⟩)
          rotate_left
          · have HST := Lib.hid hstop
            clear hstop
            gi_wp2_with fail
            exact bodyPost_end (results_none rfl _ _ _) rfl (Or.inr (Or.inl ⟨rfl, HST.out⟩))
          have hc4 : IsCut b (i + p.2) t (if isTok p.1 then opE p.1 (cutB t i p.2) else op) (if isTok p.1 then m + 1 else m) w4 :=
            ⟨(World.cell?_of_block (w := w3) (a := ⟨b, 0, none⟩) hhb).trans HC3.out.text, (World.cell?_of_block (w := w3) (a := ⟨b, 1, none⟩) hhb).trans HC3.out.at', (World.cell?_of_block (w := w3) (a := ⟨b, 2, none⟩) hhb).trans HC3.out.op, (World.cell?_of_block (w := w3) (a := ⟨b, 3, none⟩) hhb).trans HC3.out.tok⟩
          have hf4 : CutFree b w4 := fun o => (World.frozen?_of_block (w := w3) (a := ⟨b, o, none⟩) hhb).trans (HF3.out o)
          have hb4 : w4.cell? ⟨cb, 0, none⟩ = some (.pointer (some ⟨b, 0, none⟩)) := (World.cell?_of_block (w := w3) (a := ⟨cb, 0, none⟩) hhc).trans hbox3
          have hat4 : atOf b w4 = i + p.2 := by unfold atOf; rw [hc4.at']; exact Int.toNat_natCast _
          have hat0 : atOf b wr = i := by unfold atOf; rw [H.out.cut.at']; exact Int.toNat_natCast _
          have hrel : IterRel2 b cb t i0 op0 n0 J (i + p.2) (if isTok p.1 then opE p.1 (cutB t i p.2) else op) (if isTok p.1 then m + 1 else m) (pre ++ [(p.1, i, p.2)]) w4 :=
            ⟨hc4, hf4, hb4, by have := HS3.out; omega, by have := HS3.out; omega, hbd.2.2.2, hm, hj4, HSN.out⟩
          have HREL := Lib.hid hrel
          have HAT := Lib.hid hat4; have HAT0 := Lib.hid hat0
          clear hc4 hf4 hb4 hm hrel hhb hhc hy hat4 hat0 k0 k1 k2 hbox3 hlim
          gi_wp2_with fail
          refine ⟨⟨_, _, _, _, HREL.out⟩, ?_⟩
          rw [HAT.out, HAT0.out]; have := hbd.2.2.1; omega
end

section
open Go.RowKit Go.Shelf

set_option maxRecDepth 100000 in
theorem recatch_refusal (n i c : Nat) (bl : Nat) (w : World) (hs : bl + 2 < w.heap.size) (hl : ∃ v, w.cell? ⟨bl, 0, none⟩ = some v) (ha : ∃ v, w.cell? ⟨bl + 1, 0, none⟩ = some v) (he : ∃ v, w.cell? ⟨bl + 2, 0, none⟩ = some v)
    (hf : w.frozen? ⟨bl, 0, none⟩ = false ∧ w.frozen? ⟨bl + 1, 0, none⟩ = false ∧ w.frozen? ⟨bl + 2, 0, none⟩ = false) :
    CallsDIn Fence.wide n Tryz.prog 79 #[.pointer (some ⟨bl, 0, none⟩), .pointer (some ⟨bl + 1, 0, none⟩), .pointer (some ⟨bl + 2, 0, none⟩)]
      (.panicking ({ v := .iface 61 (.agg #[.int .i64 (i : Int), .int .i64 (c : Int)]), recovered := false } :: [])) w fun e u' w' =>
      e = .returned (.tuple #[]) ∧ u' = .panicking ({ v := .iface 61 (.agg #[.int .i64 (i : Int), .int .i64 (c : Int)]), recovered := true } :: []) ∧
      w'.cell? ⟨bl, 0, none⟩ = some (.slice none 0 0) ∧ w'.cell? ⟨bl + 1, 0, none⟩ = some (.int .i64 (i : Int)) ∧ w'.cell? ⟨bl + 2, 0, none⟩ = some (.int .i64 (c : Int)) ∧ Below bl w w' := by
  obtain ⟨v0, hl⟩ := hl
  obtain ⟨v1, ha⟩ := ha
  obtain ⟨v2, he⟩ := he
  obtain ⟨f0, f1, f2⟩ := hf
  have al := fun o => (Below.refl _ w).alloc (Nat.le_refl _) o
  have x0 : ∀ o, (w.alloc o).cell? ⟨bl, 0, none⟩ = some v0 := fun o => ((al o).cell (p := ⟨bl, 0, none⟩) (by simp; omega)).trans hl
  have x1 : ∀ o, (w.alloc o).cell? ⟨bl + 1, 0, none⟩ = some v1 := fun o => ((al o).cell (p := ⟨bl + 1, 0, none⟩) (by simp; omega)).trans ha
  have x2 : ∀ o, (w.alloc o).cell? ⟨bl + 2, 0, none⟩ = some v2 := fun o => ((al o).cell (p := ⟨bl + 2, 0, none⟩) (by simp; omega)).trans he
  have y0 : ∀ o, (w.alloc o).frozen? ⟨bl, 0, none⟩ = false := fun o => ((al o).frozen (p := ⟨bl, 0, none⟩) (by simp; omega)).trans f0
  have y1 : ∀ o, (w.alloc o).frozen? ⟨bl + 1, 0, none⟩ = false := fun o => ((al o).frozen (p := ⟨bl + 1, 0, none⟩) (by simp; omega)).trans f1
  have y2 : ∀ o, (w.alloc o).frozen? ⟨bl + 2, 0, none⟩ = false := fun o => ((al o).frozen (p := ⟨bl + 2, 0, none⟩) (by simp; omega)).trans f2
  have n0 : ¬ bl = w.heap.size := by omega
  have n1 : ¬ bl + 1 = w.heap.size := by omega
  have n2 : ¬ bl + 2 = w.heap.size := by omega
  clear al
  have hta := assert_yes (.agg #[.int .i64 (i : Int), .int .i64 (c : Int)])
  refine callsDIn_of_wpSIn Tryz.func79 rfl trivial fun c₀ cs hu => ?_
  apply wpSIn_seq
  apply wpSIn_region
  simp [wpOpsSIn, go_sem, recoverD, hu, hta, Tryz.ntmps79, Exit.thenS]
  refine wpSIn_of_wpIn rfl ?_
  simp only [Array.replicate_succ, Array.replicate_zero, List.push_toArray, List.append_toArray, List.nil_append, List.cons_append, List.setIfInBounds_toArray, List.set_cons_zero, List.set_cons_succ]
  gi_wp2_with fail
  gi_region
  all_goals gi_wp2_with fail
  all_goals
    simp [bodyPostS, results, Tryz.results79]
    refine ⟨?_, ?_, ?_, ?_⟩
    · rw [World.cell?_setCell_other _ _ _ _ (by simp), World.cell?_setCell_other _ _ _ _ (by simp)]; exact World.cell?_setCell_same' _ _ _ (by rw [x0]; rfl)
    · rw [World.cell?_setCell_other _ _ _ _ (by simp)]; exact World.cell?_setCell_same' _ _ _ (by rw [World.cell?_setCell_other _ _ _ _ (by simp), x1]; rfl)
    · exact World.cell?_setCell_same' _ _ _ (by rw [World.cell?_setCell_other _ _ _ _ (by simp), World.cell?_setCell_other _ _ _ _ (by simp), x2]; rfl)
    · exact ((((((Below.refl bl w).alloc (by omega) _).setCell (p := ⟨bl, 0, none⟩) (Nat.le_refl _) _).setCell (p := ⟨bl + 1, 0, none⟩) (by simp) _).setCell (p := ⟨bl + 2, 0, none⟩) (by simp) _)).drew

set_option maxRecDepth 100000 in
theorem recatch_none (n : Nat) (a0 a1 a2 : Value) (w : World) :
    CallsDIn Fence.wide n Tryz.prog 79 #[a0, a1, a2] .returning w fun e u' w' => e = .returned (.tuple #[]) ∧ u' = .returning ∧ Below w.heap.size w w' := by
  have hta := assert_nil
  refine callsDIn_of_wpSIn Tryz.func79 rfl trivial fun c₀ cs hu => ?_
  apply wpSIn_seq
  apply wpSIn_region
  simp [wpOpsSIn, go_sem, recoverD, hu, hta, Tryz.ntmps79, Exit.thenS]
  refine wpSIn_of_wpIn rfl ?_
  simp only [Array.replicate_succ, Array.replicate_zero, List.push_toArray, List.append_toArray, List.nil_append, List.cons_append, List.setIfInBounds_toArray, List.set_cons_zero, List.set_cons_succ]
  gi_wp2_with fail
  simp [bodyPostS, results, Tryz.results79]
  exact ⟨.returning, by rw [← hu], rfl, (Below.refl _ w).alloc (Nat.le_refl _) _⟩
end

section
open Go.RowKit Go.Shelf

/-- All but some blocks lies as it lay. -/
structure KeepS (S : Nat → Prop) (w w' : World) : Prop where
  os : w'.os = w.os
  tape : w'.tape = w.tape
  output : w'.output = w.output
  size : w.heap.size ≤ w'.heap.size
  block : ∀ k, k < w.heap.size → ¬ S k → w'.heap[k]? = w.heap[k]?
theorem KeepS.refl (S : Nat → Prop) (w : World) : KeepS S w w := ⟨rfl, rfl, rfl, Nat.le_refl _, fun _ _ _ => rfl⟩
theorem KeepS.trans {S : Nat → Prop} {x y z : World} (h : KeepS S x y) (k : KeepS S y z) : KeepS S x z :=
  ⟨k.os.trans h.os, k.tape.trans h.tape, k.output.trans h.output, Nat.le_trans h.size k.size, fun j hj hn => (k.block j (Nat.lt_of_lt_of_le hj h.size) hn).trans (h.block j hj hn)⟩
theorem KeepS.mono {S T : Nat → Prop} {x y : World} (h : KeepS S x y) (hs : ∀ k, S k → T k) : KeepS T x y := ⟨h.os, h.tape, h.output, h.size, fun k hk hn => h.block k hk (fun e => hn (hs k e))⟩
theorem KeepS.of_kept {b : Nat} {S : Nat → Prop} {x y : World} (h : KeptBut b x y) (hb : S b) : KeepS S x y := ⟨h.os, h.tape, h.output, h.size, fun k hk hn => h.block k hk (fun e => hn (e ▸ hb))⟩
theorem KeepS.of_below {S : Nat → Prop} {x y : World} (h : Below x.heap.size x y) : KeepS S x y := ⟨h.os, h.tape, h.output, h.size, fun k hk _ => h.block k hk⟩
theorem KeepS.alloc {S : Nat → Prop} {x y : World} (h : KeepS S x y) (o : Obj) : KeepS S x (y.alloc o) := h.trans (.of_below ((Below.refl _ _).alloc (Nat.le_refl _) o))
theorem KeepS.drew {S : Nat → Prop} {x y : World} (h : KeepS S x y) (n : Nat) : KeepS S x (y.drewN n) := h.trans (.of_below (below_drewN (Below.refl _ _) n))
theorem KeepS.setCell {S : Nat → Prop} {x w : World} (h : KeepS S x w) {b : Nat} (hb : S b) (o : Nat) (v : Value) : KeepS S x (w.setCell ⟨b, o, none⟩ v) :=
  h.trans (.of_kept ((KeptBut.refl b w).setCell v) hb)
theorem KeepS.putObj {S : Nat → Prop} {x w : World} (h : KeepS S x w) {b : Nat} (hb : S b) (o : Obj) : KeepS S x (w.putObj b o) :=
  h.trans ⟨rfl, rfl, rfl, by simp, fun k _ hn => World.putObj_heap_other (fun e => hn (e ▸ hb))⟩
theorem KeepS.of_grown {S : Nat → Prop} {x y : World} {row : Option Nat} (h : x.grownBy y row) (hr : ∀ k, row = some k → S k) : KeepS S x y :=
  ⟨h.os, h.tape, h.output, h.size, fun k hk hn => h.block k hk (fun e => hn (hr k e.symm))⟩
theorem KeepS.cell {S : Nat → Prop} {c o : Nat} {w w' : World} (h : KeepS S w w') (hc : c < w.heap.size) (hn : ¬ S c) : w'.cell? ⟨c, o, none⟩ = w.cell? ⟨c, o, none⟩ := World.cell?_of_block (w := w) (h.block c hc hn)
theorem KeepS.frozen {S : Nat → Prop} {c o : Nat} {w w' : World} (h : KeepS S w w') (hc : c < w.heap.size) (hn : ¬ S c) : w'.frozen? ⟨c, o, none⟩ = w.frozen? ⟨c, o, none⟩ := World.frozen?_of_block (w := w) (h.block c hc hn)
theorem KeepS.below {S : Nat → Prop} {B : Nat} {w w' : World} (h : KeepS S w w') (hS : ∀ k, S k → B ≤ k) (hB : B ≤ w.heap.size) : Below B w w' :=
  ⟨h.os, h.tape, h.output, h.size, fun k hk => h.block k (by omega) (fun e => by have := hS k e; omega)⟩

/-- The variables of recut that do not turn behind its beginning. -/
structure RcFix (w : World) (nb : Nat) (v : Value) (a : Nat) (ins : ByteArray) (W : World) : Prop where
  lbox : W.cell? ⟨w.heap.size, 0, none⟩ = some v
  sat : W.cell? ⟨w.heap.size + 1, 0, none⟩ = some (.int .i64 (a : Int))
  sins : W.cell? ⟨w.heap.size + 1, 2, none⟩ = some (.string ins)
  c1 : W.cell? ⟨w.heap.size + 3, 0, none⟩ = some (.int .i64 0)
  c2 : W.cell? ⟨w.heap.size + 4, 0, none⟩ = some (.int .i64 0)
  old : W.cell? ⟨w.heap.size + 7, 0, none⟩ = some (.pointer (some ⟨w.heap.size + 5, 0, none⟩))
  now : W.cell? ⟨w.heap.size + 8, 0, none⟩ = some (.pointer (some ⟨w.heap.size + 6, 0, none⟩))
  f1 : W.frozen? ⟨w.heap.size + 3, 0, none⟩ = false
  f2 : W.frozen? ⟨w.heap.size + 4, 0, none⟩ = false
  below : Below w.heap.size w W
  size : nb + 1 ≤ W.heap.size
  hnb : w.heap.size + 9 ≤ nb
/-- The blocks that turn: the row's variable, the two cutters, the number of pieces, and what lies behind. -/
def Turns (w : World) (nb : Nat) (k : Nat) : Prop := k = w.heap.size + 2 ∨ k = w.heap.size + 5 ∨ k = w.heap.size + 6 ∨ nb ≤ k
theorem RcFix.keep {w W W' : World} {nb : Nat} {v : Value} {a : Nat} {ins : ByteArray} (h : RcFix w nb v a ins W) (hk : KeepS (Turns w nb) W W') : RcFix w nb v a ins W' := by
  have hs := h.size; have hnb := h.hnb
  have n0 : ¬ Turns w nb w.heap.size := by unfold Turns; omega
  have n1 : ¬ Turns w nb (w.heap.size + 1) := by unfold Turns; omega
  have n3 : ¬ Turns w nb (w.heap.size + 3) := by unfold Turns; omega
  have n4 : ¬ Turns w nb (w.heap.size + 4) := by unfold Turns; omega
  have n7 : ¬ Turns w nb (w.heap.size + 7) := by unfold Turns; omega
  have n8 : ¬ Turns w nb (w.heap.size + 8) := by unfold Turns; omega
  exact ⟨(hk.cell (by omega) n0).trans h.lbox, (hk.cell (by omega) n1).trans h.sat, (hk.cell (by omega) n1).trans h.sins, (hk.cell (by omega) n3).trans h.c1, (hk.cell (by omega) n4).trans h.c2,
    (hk.cell (by omega) n7).trans h.old, (hk.cell (by omega) n8).trans h.now, (hk.frozen (by omega) n3).trans h.f1, (hk.frozen (by omega) n4).trans h.f2,
    h.below.trans (hk.below (fun k hk => by unfold Turns at hk; omega) (by omega)), by have := hk.size; omega, hnb⟩

/-- The row of the pieces so far. -/
structure RowM (w : World) (nb : Nat) (pre : List (Nat × Nat × Nat)) (W : World) : Prop where
  row : ∃ mv, W.cell? ⟨w.heap.size + 2, 0, none⟩ = some mv ∧ W.ownsRow (nb + 1) 59 3 mv pre.length (flatP pre)
  f0 : W.frozen? ⟨w.heap.size + 2, 0, none⟩ = false
theorem RowM.keep {w W W' : World} {nb : Nat} {pre : List (Nat × Nat × Nat)} {S : Nat → Prop} (h : RowM w nb pre W) (hk : KeepS S W W') (hn : w.heap.size + 9 ≤ nb) (hz : nb + 1 ≤ W.heap.size) (h2 : ¬ S (w.heap.size + 2))
    (hr : ∀ k cur, nb + 1 ≤ k → W.heap[k]? = some (.cells cur 59 (0, 0)) → ¬ S k) : RowM w nb pre W' := by
  obtain ⟨mv, hv, hrow⟩ := h.row
  refine ⟨⟨mv, (hk.cell (by omega) h2).trans hv, ?_⟩, (hk.frozen (by omega) h2).trans h.f0⟩
  refine ⟨hrow.1, ?_⟩
  rcases hrow.2 with hn | ⟨g, cap, cur, rfl, hb, hg, rest⟩
  · exact .inl hn
  · exact .inr ⟨g, cap, cur, rfl, hb, (hk.block g (Array.getElem?_eq_some_iff.1 hg).1 (hr g cur hb hg)).trans hg, rest⟩
/-- A round's append: the row is longer by one. -/
theorem RowM.snoc {w W5 w7 : World} {nb : Nat} {pre : List (Nat × Nat × Nat)} {x : Nat × Nat × Nat} {v v' : Value} {o : Obj} (hf : W5.frozen? ⟨w.heap.size + 2, 0, none⟩ = false) (hv : W5.cell? ⟨w.heap.size + 2, 0, none⟩ = some v) (hrow : W5.ownsRow (nb + 1) 59 3 v pre.length (flatP pre))
    (hn : w.heap.size + 9 ≤ nb) (hz : nb + 1 ≤ W5.heap.size) (hown : w7.ownsRow (nb + 1) 59 3 v' (pre.length + 1) (flatP pre ++ cellsP x)) (hg : (W5.alloc o).grownBy w7 v.ownBlock) :
    RowM w nb (pre ++ [x]) (w7.setCell ⟨w.heap.size + 2, 0, none⟩ v') ∧ KeepS (fun k => k = w.heap.size + 2 ∨ v.ownBlock = some k) W5 (w7.setCell ⟨w.heap.size + 2, 0, none⟩ v') := by
  have hlt := hrow.lt
  have hk : KeepS (fun k => v.ownBlock = some k) W5 w7 := ((KeepS.refl _ W5).alloc o).trans (.of_grown hg (fun k e => e))
  have n2 : ¬ v.ownBlock = some (w.heap.size + 2) := fun e => by have := (hlt _ e).1; omega
  have hc7 := (hk.cell (o := 0) (by omega) n2).trans hv
  have hf7 := (hk.frozen (o := 0) (by omega) n2).trans hf
  refine ⟨⟨⟨v', World.cell?_setCell_same' _ _ _ (by rw [hc7]; rfl), ?_⟩, by rw [World.frozen?_setCell]; exact hf7⟩, (hk.mono fun k e => .inr e).setCell (.inl rfl) 0 v'⟩
  rw [flatP_snoc, List.length_append]
  exact row_same hown fun k h1 h2 => Below.heap_setCell _ _ _ _ (by simp; omega)
/-- The number of the pieces that are passed. -/
structure NBox (nb : Nat) (k : Nat) (W : World) : Prop where
  cell : W.cell? ⟨nb, 0, none⟩ = some (.int .i64 (k : Int))
  fr : W.frozen? ⟨nb, 0, none⟩ = false
theorem NBox.keep {W W' : World} {nb k : Nat} {S : Nat → Prop} (h : NBox nb k W) (hk : KeepS S W W') (hz : nb < W.heap.size) (h9 : ¬ S nb) : NBox nb k W' :=
  ⟨(hk.cell (by omega) h9).trans h.cell, (hk.frozen (by omega) h9).trans h.fr⟩
theorem IsCut.keep {W W' : World} {b i n : Nat} {t : ByteArray} {op : Bool} {S : Nat → Prop} (h : IsCut b i t op n W) (hk : KeepS S W W') (hz : b < W.heap.size) (hb : ¬ S b) : IsCut b i t op n W' :=
  ⟨(hk.cell hz hb).trans h.text, (hk.cell hz hb).trans h.at', (hk.cell hz hb).trans h.op, (hk.cell hz hb).trans h.tok⟩
theorem CutFree.keep {W W' : World} {b : Nat} {S : Nat → Prop} (h : CutFree b W) (hk : KeepS S W W') (hz : b < W.heap.size) (hb : ¬ S b) : CutFree b W' := fun o => (hk.frozen hz hb).trans (h o)
/-- All that recut holds between two steps. -/
structure RcSt (w : World) (nb : Nat) (v : Value) (a : Nat) (ins t u : ByteArray) (i : Nat) (op : Bool) (c j : Nat) (op' : Bool) (c' k : Nat) (pre : List (Nat × Nat × Nat)) (W : World) : Prop where
  fix : RcFix w nb v a ins W
  row : RowM w nb pre W
  nbox : NBox nb k W
  co : IsCut (w.heap.size + 5) i t op c W
  fo : CutFree (w.heap.size + 5) W
  cn : IsCut (w.heap.size + 6) j u op' c' W
  fn : CutFree (w.heap.size + 6) W
/-- New blocks turn nothing. -/
theorem RcSt.grow {w W W' : World} {nb : Nat} {v : Value} {a : Nat} {ins t u : ByteArray} {i : Nat} {op : Bool} {c j : Nat} {op' : Bool} {c' k : Nat} {pre : List (Nat × Nat × Nat)} (h : RcSt w nb v a ins t u i op c j op' c' k pre W)
    (hk : KeepS (fun _ => False) W W') : RcSt w nb v a ins t u i op c j op' c' k pre W' := by
  have hz := h.fix.size; have hnb := h.fix.hnb
  exact ⟨h.fix.keep (hk.mono fun _ e => e.elim), h.row.keep hk hnb hz (fun e => e) (fun _ _ _ _ e => e), h.nbox.keep hk (by omega) (fun e => e), h.co.keep hk (by omega) (fun e => e), h.fo.keep hk (by omega) (fun e => e), h.cn.keep hk (by omega) (fun e => e), h.fn.keep hk (by omega) (fun e => e)⟩
/-- The old cutter passes a piece. -/
theorem RcSt.passO {w W W' : World} {nb : Nat} {v : Value} {a : Nat} {ins t u : ByteArray} {i i2 : Nat} {op op2 : Bool} {c c2 j : Nat} {op' : Bool} {c' k : Nat} {pre : List (Nat × Nat × Nat)} (h : RcSt w nb v a ins t u i op c j op' c' k pre W)
    (hk : KeptBut (w.heap.size + 5) W W') (hc : IsCut (w.heap.size + 5) i2 t op2 c2 W') (hf : CutFree (w.heap.size + 5) W') : RcSt w nb v a ins t u i2 op2 c2 j op' c' k pre W' := by
  have hz := h.fix.size; have hnb := h.fix.hnb
  have hs : KeepS (fun q => q = w.heap.size + 5) W W' := .of_kept hk rfl
  exact ⟨h.fix.keep (hs.mono fun _ e => .inr (.inl e)), h.row.keep hs hnb hz (by omega) (fun _ _ _ _ e => by omega), h.nbox.keep hs (by omega) (by omega), hc, hf, h.cn.keep hs (by omega) (by omega), h.fn.keep hs (by omega) (by omega)⟩
/-- The new cutter passes a piece. -/
theorem RcSt.passN {w W W' : World} {nb : Nat} {v : Value} {a : Nat} {ins t u : ByteArray} {i j2 : Nat} {op op2 : Bool} {c c2 j : Nat} {op' : Bool} {c' k : Nat} {pre : List (Nat × Nat × Nat)} (h : RcSt w nb v a ins t u i op c j op' c' k pre W)
    (hk : KeptBut (w.heap.size + 6) W W') (hc : IsCut (w.heap.size + 6) j2 u op2 c2 W') (hf : CutFree (w.heap.size + 6) W') : RcSt w nb v a ins t u i op c j2 op2 c2 k pre W' := by
  have hz := h.fix.size; have hnb := h.fix.hnb
  have hs : KeepS (fun q => q = w.heap.size + 6) W W' := .of_kept hk rfl
  exact ⟨h.fix.keep (hs.mono fun _ e => .inr (.inr (.inl e))), h.row.keep hs hnb hz (by omega) (fun _ _ _ _ e => by omega), h.nbox.keep hs (by omega) (by omega), h.co.keep hs (by omega) (by omega), h.fo.keep hs (by omega) (by omega), hc, hf⟩
/-- A piece is appended. -/
theorem RcSt.snoc {w W w7 : World} {nb : Nat} {v : Value} {a : Nat} {ins t u : ByteArray} {i : Nat} {op : Bool} {c j : Nat} {op' : Bool} {c' k : Nat} {pre : List (Nat × Nat × Nat)} {x : Nat × Nat × Nat} {mv mv' : Value} {o : Obj} (h : RcSt w nb v a ins t u i op c j op' c' k pre W)
    (hv : W.cell? ⟨w.heap.size + 2, 0, none⟩ = some mv) (hrow : W.ownsRow (nb + 1) 59 3 mv pre.length (flatP pre)) (hown : w7.ownsRow (nb + 1) 59 3 mv' (pre.length + 1) (flatP pre ++ cellsP x)) (hg : (W.alloc o).grownBy w7 mv.ownBlock) :
    RcSt w nb v a ins t u i op c j op' c' k (pre ++ [x]) (w7.setCell ⟨w.heap.size + 2, 0, none⟩ mv') ∧ KeepS (fun q => q = w.heap.size + 2 ∨ mv.ownBlock = some q) W (w7.setCell ⟨w.heap.size + 2, 0, none⟩ mv') := by
  have hz := h.fix.size; have hnb := h.fix.hnb
  obtain ⟨h1, hs⟩ := RowM.snoc h.row.f0 hv hrow hnb hz hown hg
  have hlt := hrow.lt
  have no : ∀ q, q ≤ nb → q ≠ w.heap.size + 2 → ¬ (q = w.heap.size + 2 ∨ mv.ownBlock = some q) := fun q h1 h2 e => by
    rcases e with e | e
    · exact h2 e
    · have := (hlt q e).1; omega
  refine ⟨⟨h.fix.keep (hs.mono ?_), h1, h.nbox.keep hs (by omega) (no _ (by omega) (by omega)), h.co.keep hs (by omega) (no _ (by omega) (by omega)), h.fo.keep hs (by omega) (no _ (by omega) (by omega)), h.cn.keep hs (by omega) (no _ (by omega) (by omega)), h.fn.keep hs (by omega) (no _ (by omega) (by omega))⟩, hs⟩
  rintro q (e | e)
  · exact .inl e
  · have := (hlt q e).1; unfold Turns; omega
/-- The same but for the new cutter. -/
structure RcS0 (w : World) (nb : Nat) (v : Value) (a : Nat) (ins t : ByteArray) (i : Nat) (op : Bool) (c k : Nat) (pre : List (Nat × Nat × Nat)) (W : World) : Prop where
  fix : RcFix w nb v a ins W
  row : RowM w nb pre W
  nbox : NBox nb k W
  co : IsCut (w.heap.size + 5) i t op c W
  fo : CutFree (w.heap.size + 5) W
theorem RcSt.s0 {w W : World} {nb : Nat} {v : Value} {a : Nat} {ins t u : ByteArray} {i : Nat} {op : Bool} {c j : Nat} {op' : Bool} {c' k : Nat} {pre : List (Nat × Nat × Nat)} (h : RcSt w nb v a ins t u i op c j op' c' k pre W) : RcS0 w nb v a ins t i op c k pre W := ⟨h.fix, h.row, h.nbox, h.co, h.fo⟩
theorem RcS0.full {w W : World} {nb : Nat} {v : Value} {a : Nat} {ins t u : ByteArray} {i : Nat} {op : Bool} {c j : Nat} {op' : Bool} {c' k : Nat} {pre : List (Nat × Nat × Nat)} (h : RcS0 w nb v a ins t i op c k pre W) (hc : IsCut (w.heap.size + 6) j u op' c' W) (hf : CutFree (w.heap.size + 6) W) :
    RcSt w nb v a ins t u i op c j op' c' k pre W := ⟨h.fix, h.row, h.nbox, h.co, h.fo, hc, hf⟩
theorem RcS0.keep6 {w W W' : World} {nb : Nat} {v : Value} {a : Nat} {ins t : ByteArray} {i : Nat} {op : Bool} {c k : Nat} {pre : List (Nat × Nat × Nat)} (h : RcS0 w nb v a ins t i op c k pre W) (hk : KeptBut (w.heap.size + 6) W W') : RcS0 w nb v a ins t i op c k pre W' := by
  have hz := h.fix.size; have hnb := h.fix.hnb
  have hs : KeepS (fun q => q = w.heap.size + 6) W W' := .of_kept hk rfl
  exact ⟨h.fix.keep (hs.mono fun _ e => .inr (.inr (.inl e))), h.row.keep hs hnb hz (by omega) (fun _ _ _ _ e => by omega), h.nbox.keep hs (by omega) (by omega), h.co.keep hs (by omega) (by omega), h.fo.keep hs (by omega) (by omega)⟩
/-- What lies behind the variables does not matter, but for the row. -/
theorem RcSt.keepH {w W W' : World} {nb : Nat} {v : Value} {a : Nat} {ins t u : ByteArray} {i : Nat} {op : Bool} {c j : Nat} {op' : Bool} {c' k : Nat} {pre : List (Nat × Nat × Nat)} {S : Nat → Prop} (h : RcSt w nb v a ins t u i op c j op' c' k pre W)
    (hk : KeepS S W W') (hS : ∀ q, S q → nb + 1 ≤ q ∧ ∀ cur, W.heap[q]? ≠ some (.cells cur 59 (0, 0))) : RcSt w nb v a ins t u i op c j op' c' k pre W' := by
  have hz := h.fix.size; have hnb := h.fix.hnb
  have no : ∀ q, q ≤ nb → ¬ S q := fun q h1 e => by have := (hS q e).1; omega
  exact ⟨h.fix.keep (hk.mono fun q e => .inr (.inr (.inr (by have := (hS q e).1; omega)))), h.row.keep hk hnb hz (no _ (by omega)) (fun q cur _ he e => (hS q e).2 cur he), h.nbox.keep hk (by omega) (no _ (by omega)),
    h.co.keep hk (by omega) (no _ (by omega)), h.fo.keep hk (by omega) (no _ (by omega)), h.cn.keep hk (by omega) (no _ (by omega)), h.fn.keep hk (by omega) (no _ (by omega))⟩
theorem RcS0.keepH {w W W' : World} {nb : Nat} {v : Value} {a : Nat} {ins t : ByteArray} {i : Nat} {op : Bool} {c k : Nat} {pre : List (Nat × Nat × Nat)} {S : Nat → Prop} (h : RcS0 w nb v a ins t i op c k pre W)
    (hk : KeepS S W W') (hS : ∀ q, S q → nb + 1 ≤ q ∧ ∀ cur, W.heap[q]? ≠ some (.cells cur 59 (0, 0))) : RcS0 w nb v a ins t i op c k pre W' := by
  have hz := h.fix.size; have hnb := h.fix.hnb
  have no : ∀ q, q ≤ nb → ¬ S q := fun q h1 e => by have := (hS q e).1; omega
  exact ⟨h.fix.keep (hk.mono fun q e => .inr (.inr (.inr (by have := (hS q e).1; omega)))), h.row.keep hk hnb hz (no _ (by omega)) (fun q cur _ he e => (hS q e).2 cur he), h.nbox.keep hk (by omega) (no _ (by omega)),
    h.co.keep hk (by omega) (no _ (by omega)), h.fo.keep hk (by omega) (no _ (by omega))⟩
/-- A piece more is counted. -/
theorem RcSt.count {w W : World} {nb : Nat} {v : Value} {a : Nat} {ins t u : ByteArray} {i : Nat} {op : Bool} {c j : Nat} {op' : Bool} {c' k : Nat} {pre : List (Nat × Nat × Nat)} (h : RcSt w nb v a ins t u i op c j op' c' k pre W) (m : Nat) :
    RcSt w nb v a ins t u i op c j op' c' m pre (W.setCell ⟨nb, 0, none⟩ (.int .i64 (m : Int))) ∧ KeepS (fun q => q = nb) W (W.setCell ⟨nb, 0, none⟩ (.int .i64 (m : Int))) := by
  have hz := h.fix.size; have hnb := h.fix.hnb
  have hs : KeepS (fun q => q = nb) W (W.setCell ⟨nb, 0, none⟩ (.int .i64 (m : Int))) := KeepS.setCell (S := fun q => q = nb) (KeepS.refl _ W) rfl 0 _
  exact ⟨⟨h.fix.keep (hs.mono fun _ e => .inr (.inr (.inr (by omega)))), h.row.keep hs hnb hz (by omega) (fun _ _ _ _ e => by omega), ⟨World.cell?_setCell_same' _ _ _ (by rw [h.nbox.cell]; rfl), by rw [World.frozen?_setCell]; exact h.nbox.fr⟩,
    h.co.keep hs (by omega) (by omega), h.fo.keep hs (by omega) (by omega), h.cn.keep hs (by omega) (by omega), h.fn.keep hs (by omega) (by omega)⟩, hs⟩

/-- What lies behind the variables while the function is ranged over. -/
structure RgFix (H b6 : Nat) (sh : Int) (R : Loop) (W : World) : Prop where
  sh : W.heap[H]? = some (.cells #[.int .i64 sh] 3)
  box : W.heap[H + 1]? = some (.cells #[.pointer (some ⟨b6, 0, none⟩)] 65)
  dfr : W.heap[H + 2]? = some (.deferred (some []))
  lp : W.heap[H + 3]? = some (.loop R)
  size : H + 4 ≤ W.heap.size
theorem RgFix.keep {H b6 : Nat} {sh : Int} {R : Loop} {W W' : World} {S : Nat → Prop} (h : RgFix H b6 sh R W) (hk : KeepS S W W') (hS : ∀ q, S q → q < H ∨ H + 4 ≤ q) : RgFix H b6 sh R W' := by
  have hz := h.size
  have no : ∀ q, H ≤ q → q < H + 4 → ¬ S q := fun q h1 h2 e => by have := hS q e; omega
  exact ⟨(hk.block _ (by omega) (no _ (by omega) (by omega))).trans h.sh, (hk.block _ (by omega) (no _ (by omega) (by omega))).trans h.box, (hk.block _ (by omega) (no _ (by omega) (by omega))).trans h.dfr, (hk.block _ (by omega) (no _ (by omega) (by omega))).trans h.lp, by have := hk.size; omega⟩
theorem RgFix.own {H b6 : Nat} {sh : Int} {R : Loop} {W : World} (h : RgFix H b6 sh R W) {base n : Nat} {mv : Value} {xs : List Value} (hr : W.ownsRow base 59 3 mv n xs) : ∀ q, mv.ownBlock = some q → q < H ∨ H + 4 ≤ q := by
  intro q hq
  apply Classical.byContradiction
  intro hn
  rcases hr.2 with ⟨rfl, _⟩ | ⟨g, cap, cur, rfl, _, hg, _⟩
  · simp [Value.ownBlock] at hq
  · simp only [Value.ownBlock, Option.some.injEq] at hq
    subst hq
    have hc : g = H ∨ g = H + 1 ∨ g = H + 2 ∨ g = H + 3 := by omega
    rcases hc with rfl | rfl | rfl | rfl
    · rw [h.sh] at hg; simp at hg
    · rw [h.box] at hg; simp at hg
    · rw [h.dfr] at hg; simp at hg
    · rw [h.lp] at hg; simp at hg
theorem RgFix.notRow {H b6 : Nat} {sh : Int} {R : Loop} {W : World} (h : RgFix H b6 sh R W) : ∀ cur, W.heap[H + 3]? ≠ some (.cells cur 59 (0, 0)) := fun cur e => by rw [h.lp] at e; simp at e
/-- The record of the range turns. -/
theorem RgFix.turn {H b6 : Nat} {sh : Int} {R R' : Loop} {W : World} (h : RgFix H b6 sh R W) : RgFix H b6 sh R' (W.putObj (H + 3) (.loop R')) := by
  have hz := h.size
  exact ⟨(World.putObj_heap_other (by omega)).trans h.sh, (World.putObj_heap_other (by omega)).trans h.box, (World.putObj_heap_other (by omega)).trans h.dfr, World.putObj_heap_same (by omega), by simpa using hz⟩
end

end Go.Proofs.YtlkanfnhemjdcaaGreatDoor
