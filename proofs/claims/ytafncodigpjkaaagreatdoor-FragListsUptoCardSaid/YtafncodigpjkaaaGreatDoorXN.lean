/-
  The reference's piece where a token stands.
  The reference's piece where a blank stands.
  The reference's piece: all cases.
  The reference's pieces of a text are the lexer's.
  The reference's tokens of a text are the lexer's.
-/
import Derived.Test.YtafncodigpjkaaaGreatDoorXR
import Derived.Test.YtafncodigpjkaaaGreatDoorXS
import Derived.Test.YtafncodigpjkaaaGreatDoorXM
import Derived.Test.YtafncodigpjkaaaGreatDoorXL
import Derived.Test.YtafncodigpjkaaaGreatDoorXA
import Derived.Test.YtafncodigpjkaaaGreatDoorXG
namespace Go.Proofs.YtafncodigpjkaaaGreatDoor
section
open Go.RowKit

def pieceV (i : Nat) : Except Nat (Nat × Nat) → Value
  | .ok p => cutV p.1 i p.2 0
  | .error c => cutV 0 0 0 c
theorem rBest_any (t : ByteArray) (i : Nat) (op : Bool) (hi : i < t.size) (ht : t.size ≤ 140737488351232) (w : World) :
    Calls Tryz.prog 126 #[.string t, .int .i64 (i : Int), .bool op] w fun e w' => e = .returned (.agg #[.int .i64 ((bestTo (ruleN t i op) 6).1 : Int), .int .i64 ((bestTo (ruleN t i op) 6).2 : Int)]) ∧ Below w.heap.size w w' := by
  rw [← best_same hi]
  cases h : nmB t i 4
  · exact best_false t i op hi ht h w
  · exact best_true t i op hi ht h w

theorem box_kept {w w1 w3 : World} {cs : Array Value} {tt : TypeId} {o1 : Obj} (hb1 : Below (w.alloc (.cells cs tt)).heap.size (w.alloc (.cells cs tt)) w1) (hb3 : Below (w1.alloc o1).heap.size (w1.alloc o1) w3) (X : Obj) {j : Nat} {v : Value} (hv : cs[j]? = some v) :
    (w3.alloc X).cell? ⟨w.heap.size, j, none⟩ = some v ∧ (w3.alloc X).frozen? ⟨w.heap.size, j, none⟩ = false := by
  have s0 : (w.alloc (.cells cs tt)).heap.size = w.heap.size + 1 := by simp
  have B1 := hb1.alloc hb1.size o1
  have B3 := (B1.trans (hb3.mono B1.size)).alloc (B1.trans (hb3.mono B1.size)).size X
  refine ⟨(B3.cell (p := ⟨w.heap.size, j, none⟩) (by rw [s0]; simp)).trans ?_, (B3.frozen (p := ⟨w.heap.size, j, none⟩) (by rw [s0]; simp)).trans (by simp)⟩
  rw [World.cell?_alloc_new]; exact hv
theorem box_below {w w1 w3 : World} {cs : Array Value} {tt : TypeId} {o1 : Obj} (hb1 : Below (w.alloc (.cells cs tt)).heap.size (w.alloc (.cells cs tt)) w1) (hb3 : Below (w1.alloc o1).heap.size (w1.alloc o1) w3) (X : Obj) : Below w.heap.size w (w3.alloc X) := by
  have B1 := hb1.alloc hb1.size o1
  have B3 := (B1.trans (hb3.mono B1.size)).alloc (B1.trans (hb3.mono B1.size)).size X
  exact ((Below.refl _ w).alloc (Nat.le_refl _) _).trans (B3.mono (by simp))

set_option maxHeartbeats 4000000 in
set_option maxRecDepth 100000 in
theorem piece_tok (t : ByteArray) (i : Nat) (op : Bool) (hi : i < t.size) (ht : t.size ≤ 140737488351232) (h1 : ¬ isCom t i 47) (h2 : ¬ isCom t i 42) (hbl : bBlank (aheadB t i) = false)
    (hN : nextR t i op = if faultN t i (bestTo (ruleN t i op) 6).1 (bestTo (ruleN t i op) 6).2 = 0 then .ok (bestTo (ruleN t i op) 6) else .error (faultN t i (bestTo (ruleN t i op) 6).1 (bestTo (ruleN t i op) 6).2)) (w : World) :
    Calls Tryz.prog 109 #[.string t, .int .i64 (i : Int), .bool op] w fun e w' => e = .returned (pieceV i (nextR t i op)) ∧ Below w.heap.size w w' := by
  have HC : Hid (∀ W, Calls Tryz.prog 124 #[.string t, .int .i64 (i : Int)] W fun e w' => e = .returned (.agg #[.int .i64 0, .int .i64 0, .int .i64 0, .int .i64 0]) ∧ Below W.heap.size W w') := Lib.hid (fun W => comment_none t i (Nat.le_of_lt hi) ht h1 h2 W)
  obtain ⟨hh1, hh2⟩ := hash_best (t := t) (i := i) (op := op) hi
  obtain ⟨hk6, hl⟩ := best_bounds t i op hi
  have HT := Lib.hid (fun W => rBest_any t i op hi ht W)
  obtain ⟨R, hR⟩ : ∃ R, R = nextR t i op := ⟨_, rfl⟩
  rw [← hR] at hN ⊢
  generalize bestTo (ruleN t i op) 6 = kl at *
  obtain ⟨k, l⟩ := kl
  simp only at hh1 hh2 hk6 hl HT hN
  have HI := Lib.hid (fun W => integral_any t i l hl ht W)
  obtain ⟨y, hy⟩ : ∃ y, y = faultN t i 2 l := ⟨_, rfl⟩
  rw [← hy] at HI
  have HB : Hid (∀ W, Calls Tryz.prog 125 #[.int .u8 (t[i].toNat : Int)] W fun e w' => e = .returned (.bool false) ∧ W = w') := Lib.hid (fun W => by
    have := rBlank_any t[i] W
    rw [← aheadB_lt hi, hbl, aheadB_lt hi] at this
    exact this)
  have hi' : (i : Int) < (t.size : Int) := by omega
  have wi2 : IntKind.i64.wrap ((i : Int) + 2) = (i : Int) + 2 := IntWalk.i64_in _ (by omega)
  have HM : ∀ (h : i + 2 < t.size), ∀ W, Calls Tryz.prog 111 #[.int .u8 87, .int .u8 (t[i + 2].toNat : Int)] W fun e w' => e = .returned (.bool (bW t[i + 2])) ∧ W = w' := fun h W => by
    have := cls87 t[i + 2] W
    rw [mem_W] at this; exact this
  clear hbl h1 h2 hR
  by_cases k2 : k = 2
  · subst k2
    rw [← hy] at hN
    have n35 : t[i] ≠ 35 := fun e => by
      rcases hh1 (by rw [aheadB_lt hi]; exact e) with x | x
      · exact absurd x (by decide)
      · have := congrArg Prod.fst x; simp at this
    by_cases y0 : y = 0
    · have HE : Hid (R = .ok (2, l)) := Lib.hid (by rw [hN, if_pos y0])
      subst y0
      clear hN hh1 hh2 hk6 n35 HM hy
      go_enter Tryz.func109, Tryz.ntmps109
      go_wp2_with (go_at_call 124; refine (HC.out _).mono ?_; rintro e w1 ⟨rfl, hb1⟩)
      go_loop [8] (fun iv => iv = .int .i64 0) (fun iv => 0)
      case atStart => rfl
      case round =>
        subst hrel
        go_wp2_with (first
          | (go_at_call 125; refine (HB.out _).mono ?_; rintro e w2 ⟨rfl, rfl⟩)
          | (go_at_call 126; refine (HT.out _).mono ?_; rintro e w3 ⟨rfl, hb3⟩; have y0 := fun X => box_kept (j := 0) hb1 hb3 X rfl; have y1 := fun X => box_kept (j := 1) hb1 hb3 X rfl; have y2 := fun X => box_kept (j := 2) hb1 hb3 X rfl; have y3 := fun X => box_kept (j := 3) hb1 hb3 X rfl; have BB := fun X => box_below hb1 hb3 X; clear hb1 hb3; have c0 := fun X => (y0 X).1; have c1 := fun X => (y1 X).1; have c2 := fun X => (y2 X).1; have c3 := fun X => (y3 X).1; have f0 := fun X => (y0 X).2; have f1 := fun X => (y1 X).2; have f2 := fun X => (y2 X).2; have f3 := fun X => (y3 X).2; clear y0 y1 y2 y3; replace BB := Lib.hid BB)
          | (go_at_call 127; refine (HI.out _).mono ?_; rintro e w4 ⟨rfl, rfl⟩)
          | (go_at_call 111; refine (HM.out _).mono ?_; rintro e w5 ⟨rfl, rfl⟩))
        refine bodyPost_ret (v := cutV 2 i l 0) (by simp [results, Tryz.results109, go_sem, cutV, *]) rfl ⟨by rw [HE.out]; rfl, ?_⟩
        exact ((((BB.out _).setCell (p := ⟨w.heap.size, 0, none⟩) (Nat.le_refl _) _).setCell (p := ⟨w.heap.size, 1, none⟩) (Nat.le_refl _) _).setCell (p := ⟨w.heap.size, 2, none⟩) (Nat.le_refl _) _).setCell (p := ⟨w.heap.size, 3, none⟩) (Nat.le_refl _) _
    · have HE : Hid (R = .error y) := Lib.hid (by rw [hN, if_neg y0])
      obtain ⟨q1, q2⟩ : ((y : Int) == 0) = false ∧ ((y : Int) != 0) = true := by
        have : ((y : Int) == 0) = false := by rw [beq_eq_false_iff_ne]; omega
        exact ⟨this, by rw [bne, this]; rfl⟩
      clear hN hh1 hh2 hk6 n35 HM y0 hy
      go_enter Tryz.func109, Tryz.ntmps109
      go_wp2_with (go_at_call 124; refine (HC.out _).mono ?_; rintro e w1 ⟨rfl, hb1⟩)
      go_loop [8] (fun iv => iv = .int .i64 0) (fun iv => 0)
      case atStart => rfl
      case round =>
        subst hrel
        go_wp2_with (first
          | (go_at_call 125; refine (HB.out _).mono ?_; rintro e w2 ⟨rfl, rfl⟩)
          | (go_at_call 126; refine (HT.out _).mono ?_; rintro e w3 ⟨rfl, hb3⟩; have y0 := fun X => box_kept (j := 0) hb1 hb3 X rfl; have y1 := fun X => box_kept (j := 1) hb1 hb3 X rfl; have y2 := fun X => box_kept (j := 2) hb1 hb3 X rfl; have y3 := fun X => box_kept (j := 3) hb1 hb3 X rfl; have BB := fun X => box_below hb1 hb3 X; clear hb1 hb3; have c0 := fun X => (y0 X).1; have c1 := fun X => (y1 X).1; have c2 := fun X => (y2 X).1; have c3 := fun X => (y3 X).1; have f0 := fun X => (y0 X).2; have f1 := fun X => (y1 X).2; have f2 := fun X => (y2 X).2; have f3 := fun X => (y3 X).2; clear y0 y1 y2 y3; replace BB := Lib.hid BB)
          | (go_at_call 127; refine (HI.out _).mono ?_; rintro e w4 ⟨rfl, rfl⟩)
          | (go_at_call 111; refine (HM.out _).mono ?_; rintro e w5 ⟨rfl, rfl⟩))
        refine bodyPost_ret (v := cutV 0 0 0 y) (by simp [results, Tryz.results109, go_sem, cutV, *]) rfl ⟨by rw [HE.out]; rfl, ?_⟩
        exact ((((BB.out _).setCell (p := ⟨w.heap.size, 0, none⟩) (Nat.le_refl _) _).setCell (p := ⟨w.heap.size, 1, none⟩) (Nat.le_refl _) _).setCell (p := ⟨w.heap.size, 2, none⟩) (Nat.le_refl _) _).setCell (p := ⟨w.heap.size, 3, none⟩) (Nat.le_refl _) _
  clear HI hy
  by_cases e35 : t[i] = 35
  · obtain ⟨p1, p2⟩ : ((t[i].toNat : Int) == 35) = true ∧ ((t[i].toNat : Int) != 35) = false := b_eq e35
    rcases hh1 (by rw [aheadB_lt hi]; exact e35) with x | x
    · subst x
      have HE : Hid (R = .error 12) := Lib.hid (by rw [hN]; unfold faultN; rw [aheadB_lt hi, e35]; simp)
      clear hN hh1 hh2 hk6 HM e35 k2
      go_enter Tryz.func109, Tryz.ntmps109
      go_wp2_with (go_at_call 124; refine (HC.out _).mono ?_; rintro e w1 ⟨rfl, hb1⟩)
      go_loop [8] (fun iv => iv = .int .i64 0) (fun iv => 0)
      case atStart => rfl
      case round =>
        subst hrel
        go_wp2_with (first
          | (go_at_call 125; refine (HB.out _).mono ?_; rintro e w2 ⟨rfl, rfl⟩)
          | (go_at_call 126; refine (HT.out _).mono ?_; rintro e w3 ⟨rfl, hb3⟩; have y0 := fun X => box_kept (j := 0) hb1 hb3 X rfl; have y1 := fun X => box_kept (j := 1) hb1 hb3 X rfl; have y2 := fun X => box_kept (j := 2) hb1 hb3 X rfl; have y3 := fun X => box_kept (j := 3) hb1 hb3 X rfl; have BB := fun X => box_below hb1 hb3 X; clear hb1 hb3; have c0 := fun X => (y0 X).1; have c1 := fun X => (y1 X).1; have c2 := fun X => (y2 X).1; have c3 := fun X => (y3 X).1; have f0 := fun X => (y0 X).2; have f1 := fun X => (y1 X).2; have f2 := fun X => (y2 X).2; have f3 := fun X => (y3 X).2; clear y0 y1 y2 y3; replace BB := Lib.hid BB)
          | (go_at_call 127; refine (HI.out _).mono ?_; rintro e w4 ⟨rfl, rfl⟩)
          | (go_at_call 111; refine (HM.out _).mono ?_; rintro e w5 ⟨rfl, rfl⟩))
        refine bodyPost_ret (v := cutV 0 0 0 12) (by simp [results, Tryz.results109, go_sem, cutV, *]) rfl ⟨by rw [HE.out]; rfl, ?_⟩
        exact ((((BB.out _).setCell (p := ⟨w.heap.size, 0, none⟩) (Nat.le_refl _) _).setCell (p := ⟨w.heap.size, 1, none⟩) (Nat.le_refl _) _).setCell (p := ⟨w.heap.size, 2, none⟩) (Nat.le_refl _) _).setCell (p := ⟨w.heap.size, 3, none⟩) (Nat.le_refl _) _
    · obtain ⟨rfl, rfl⟩ := Prod.mk.inj x
      by_cases hi2 : i + 2 < t.size
      · have hi2' : (i : Int) + 2 < (t.size : Int) := by omega
        have hp : (0 : Int) ≤ (i : Int) + 2 := by omega
        have hq : ((i : Int) + 2).toNat = i + 2 := by omega
        have HM := Lib.hid (HM hi2)
        cases hbw : bW t[i + 2] with
        | true =>
          have HE : Hid (R = .error 12) := Lib.hid (by rw [hN]; unfold faultN; rw [aheadB_lt hi2, hbw]; simp)
          rw [hbw] at HM
          clear hN hh1 hh2 hk6 e35 k2 hbw x
          go_enter Tryz.func109, Tryz.ntmps109
          go_wp2_with (go_at_call 124; refine (HC.out _).mono ?_; rintro e w1 ⟨rfl, hb1⟩)
          go_loop [8] (fun iv => iv = .int .i64 0) (fun iv => 0)
          case atStart => rfl
          case round =>
            subst hrel
            go_wp2_with (first
              | (go_at_call 125; refine (HB.out _).mono ?_; rintro e w2 ⟨rfl, rfl⟩)
              | (go_at_call 126; refine (HT.out _).mono ?_; rintro e w3 ⟨rfl, hb3⟩; have y0 := fun X => box_kept (j := 0) hb1 hb3 X rfl; have y1 := fun X => box_kept (j := 1) hb1 hb3 X rfl; have y2 := fun X => box_kept (j := 2) hb1 hb3 X rfl; have y3 := fun X => box_kept (j := 3) hb1 hb3 X rfl; have BB := fun X => box_below hb1 hb3 X; clear hb1 hb3; have c0 := fun X => (y0 X).1; have c1 := fun X => (y1 X).1; have c2 := fun X => (y2 X).1; have c3 := fun X => (y3 X).1; have f0 := fun X => (y0 X).2; have f1 := fun X => (y1 X).2; have f2 := fun X => (y2 X).2; have f3 := fun X => (y3 X).2; clear y0 y1 y2 y3; replace BB := Lib.hid BB)
              | (go_at_call 127; refine (HI.out _).mono ?_; rintro e w4 ⟨rfl, rfl⟩)
              | (go_at_call 111; refine (HM.out _).mono ?_; rintro e w5 ⟨rfl, rfl⟩))
            refine bodyPost_ret (v := cutV 0 0 0 12) (by simp [results, Tryz.results109, go_sem, cutV, *]) rfl ⟨by rw [HE.out]; rfl, ?_⟩
            exact ((((BB.out _).setCell (p := ⟨w.heap.size, 0, none⟩) (Nat.le_refl _) _).setCell (p := ⟨w.heap.size, 1, none⟩) (Nat.le_refl _) _).setCell (p := ⟨w.heap.size, 2, none⟩) (Nat.le_refl _) _).setCell (p := ⟨w.heap.size, 3, none⟩) (Nat.le_refl _) _
        | false =>
          have HE : Hid (R = .ok (4, 2)) := Lib.hid (by rw [hN]; unfold faultN; rw [aheadB_lt hi2, hbw]; simp)
          rw [hbw] at HM
          clear hN hh1 hh2 hk6 e35 k2 hbw x
          go_enter Tryz.func109, Tryz.ntmps109
          go_wp2_with (go_at_call 124; refine (HC.out _).mono ?_; rintro e w1 ⟨rfl, hb1⟩)
          go_loop [8] (fun iv => iv = .int .i64 0) (fun iv => 0)
          case atStart => rfl
          case round =>
            subst hrel
            go_wp2_with (first
              | (go_at_call 125; refine (HB.out _).mono ?_; rintro e w2 ⟨rfl, rfl⟩)
              | (go_at_call 126; refine (HT.out _).mono ?_; rintro e w3 ⟨rfl, hb3⟩; have y0 := fun X => box_kept (j := 0) hb1 hb3 X rfl; have y1 := fun X => box_kept (j := 1) hb1 hb3 X rfl; have y2 := fun X => box_kept (j := 2) hb1 hb3 X rfl; have y3 := fun X => box_kept (j := 3) hb1 hb3 X rfl; have BB := fun X => box_below hb1 hb3 X; clear hb1 hb3; have c0 := fun X => (y0 X).1; have c1 := fun X => (y1 X).1; have c2 := fun X => (y2 X).1; have c3 := fun X => (y3 X).1; have f0 := fun X => (y0 X).2; have f1 := fun X => (y1 X).2; have f2 := fun X => (y2 X).2; have f3 := fun X => (y3 X).2; clear y0 y1 y2 y3; replace BB := Lib.hid BB)
              | (go_at_call 127; refine (HI.out _).mono ?_; rintro e w4 ⟨rfl, rfl⟩)
              | (go_at_call 111; refine (HM.out _).mono ?_; rintro e w5 ⟨rfl, rfl⟩))
            refine bodyPost_ret (v := cutV 4 i 2 0) (by simp [results, Tryz.results109, go_sem, cutV, *]) rfl ⟨by rw [HE.out]; rfl, ?_⟩
            exact ((((BB.out _).setCell (p := ⟨w.heap.size, 0, none⟩) (Nat.le_refl _) _).setCell (p := ⟨w.heap.size, 1, none⟩) (Nat.le_refl _) _).setCell (p := ⟨w.heap.size, 2, none⟩) (Nat.le_refl _) _).setCell (p := ⟨w.heap.size, 3, none⟩) (Nat.le_refl _) _
      · have hi2' : ((i : Int) + 2 < (t.size : Int)) = False := by simp; omega
        have HE : Hid (R = .ok (4, 2)) := Lib.hid (by rw [hN]; unfold faultN; rw [aheadB_ge (by omega), show bW 0 = false by decide]; simp)
        clear hN hh1 hh2 hk6 e35 k2 x HM
        go_enter Tryz.func109, Tryz.ntmps109
        go_wp2_with (go_at_call 124; refine (HC.out _).mono ?_; rintro e w1 ⟨rfl, hb1⟩)
        go_loop [8] (fun iv => iv = .int .i64 0) (fun iv => 0)
        case atStart => rfl
        case round =>
          subst hrel
          go_wp2_with (first
            | (go_at_call 125; refine (HB.out _).mono ?_; rintro e w2 ⟨rfl, rfl⟩)
            | (go_at_call 126; refine (HT.out _).mono ?_; rintro e w3 ⟨rfl, hb3⟩; have y0 := fun X => box_kept (j := 0) hb1 hb3 X rfl; have y1 := fun X => box_kept (j := 1) hb1 hb3 X rfl; have y2 := fun X => box_kept (j := 2) hb1 hb3 X rfl; have y3 := fun X => box_kept (j := 3) hb1 hb3 X rfl; have BB := fun X => box_below hb1 hb3 X; clear hb1 hb3; have c0 := fun X => (y0 X).1; have c1 := fun X => (y1 X).1; have c2 := fun X => (y2 X).1; have c3 := fun X => (y3 X).1; have f0 := fun X => (y0 X).2; have f1 := fun X => (y1 X).2; have f2 := fun X => (y2 X).2; have f3 := fun X => (y3 X).2; clear y0 y1 y2 y3; replace BB := Lib.hid BB)
            | (go_at_call 127; refine (HI.out _).mono ?_; rintro e w4 ⟨rfl, rfl⟩)
            | (go_at_call 111; refine (HM.out _).mono ?_; rintro e w5 ⟨rfl, rfl⟩))
          refine bodyPost_ret (v := cutV 4 i 2 0) (by simp [results, Tryz.results109, go_sem, cutV, *]) rfl ⟨by rw [HE.out]; rfl, ?_⟩
          exact ((((BB.out _).setCell (p := ⟨w.heap.size, 0, none⟩) (Nat.le_refl _) _).setCell (p := ⟨w.heap.size, 1, none⟩) (Nat.le_refl _) _).setCell (p := ⟨w.heap.size, 2, none⟩) (Nat.le_refl _) _).setCell (p := ⟨w.heap.size, 3, none⟩) (Nat.le_refl _) _
  · obtain ⟨p1, p2⟩ : ((t[i].toNat : Int) == 35) = false ∧ ((t[i].toNat : Int) != 35) = true := b_ne e35
    have k4 : k ≠ 4 := fun e => e35 (by have := (hh2 e).1; rw [aheadB_lt hi] at this; exact this)
    by_cases k0 : k = 0
    · subst k0
      have HE : Hid (R = .error 10) := Lib.hid (by rw [hN]; unfold faultN; rw [aheadB_lt hi]; simp [e35])
      clear hN hh1 hh2 hk6 HM e35 k2 k4
      go_enter Tryz.func109, Tryz.ntmps109
      go_wp2_with (go_at_call 124; refine (HC.out _).mono ?_; rintro e w1 ⟨rfl, hb1⟩)
      go_loop [8] (fun iv => iv = .int .i64 0) (fun iv => 0)
      case atStart => rfl
      case round =>
        subst hrel
        go_wp2_with (first
          | (go_at_call 125; refine (HB.out _).mono ?_; rintro e w2 ⟨rfl, rfl⟩)
          | (go_at_call 126; refine (HT.out _).mono ?_; rintro e w3 ⟨rfl, hb3⟩; have y0 := fun X => box_kept (j := 0) hb1 hb3 X rfl; have y1 := fun X => box_kept (j := 1) hb1 hb3 X rfl; have y2 := fun X => box_kept (j := 2) hb1 hb3 X rfl; have y3 := fun X => box_kept (j := 3) hb1 hb3 X rfl; have BB := fun X => box_below hb1 hb3 X; clear hb1 hb3; have c0 := fun X => (y0 X).1; have c1 := fun X => (y1 X).1; have c2 := fun X => (y2 X).1; have c3 := fun X => (y3 X).1; have f0 := fun X => (y0 X).2; have f1 := fun X => (y1 X).2; have f2 := fun X => (y2 X).2; have f3 := fun X => (y3 X).2; clear y0 y1 y2 y3; replace BB := Lib.hid BB)
          | (go_at_call 127; refine (HI.out _).mono ?_; rintro e w4 ⟨rfl, rfl⟩)
          | (go_at_call 111; refine (HM.out _).mono ?_; rintro e w5 ⟨rfl, rfl⟩))
        refine bodyPost_ret (v := cutV 0 0 0 10) (by simp [results, Tryz.results109, go_sem, cutV, *]) rfl ⟨by rw [HE.out]; rfl, ?_⟩
        exact ((((BB.out _).setCell (p := ⟨w.heap.size, 0, none⟩) (Nat.le_refl _) _).setCell (p := ⟨w.heap.size, 1, none⟩) (Nat.le_refl _) _).setCell (p := ⟨w.heap.size, 2, none⟩) (Nat.le_refl _) _).setCell (p := ⟨w.heap.size, 3, none⟩) (Nat.le_refl _) _
    · have q2 : ((k : Int) == 2) = false := by rw [beq_eq_false_iff_ne]; omega
      have q0 : ((k : Int) == 0) = false := by rw [beq_eq_false_iff_ne]; omega
      by_cases k5 : k = 5
      · subst k5
        have HE : Hid (R = .ok (5, l)) := Lib.hid (by rw [hN]; unfold faultN; simp)
        clear hN hh1 hh2 hk6 HM e35 k2 k4 k0
        go_enter Tryz.func109, Tryz.ntmps109
        go_wp2_with (go_at_call 124; refine (HC.out _).mono ?_; rintro e w1 ⟨rfl, hb1⟩)
        go_loop [8] (fun iv => iv = .int .i64 0) (fun iv => 0)
        case atStart => rfl
        case round =>
          subst hrel
          go_wp2_with (first
            | (go_at_call 125; refine (HB.out _).mono ?_; rintro e w2 ⟨rfl, rfl⟩)
            | (go_at_call 126; refine (HT.out _).mono ?_; rintro e w3 ⟨rfl, hb3⟩; have y0 := fun X => box_kept (j := 0) hb1 hb3 X rfl; have y1 := fun X => box_kept (j := 1) hb1 hb3 X rfl; have y2 := fun X => box_kept (j := 2) hb1 hb3 X rfl; have y3 := fun X => box_kept (j := 3) hb1 hb3 X rfl; have BB := fun X => box_below hb1 hb3 X; clear hb1 hb3; have c0 := fun X => (y0 X).1; have c1 := fun X => (y1 X).1; have c2 := fun X => (y2 X).1; have c3 := fun X => (y3 X).1; have f0 := fun X => (y0 X).2; have f1 := fun X => (y1 X).2; have f2 := fun X => (y2 X).2; have f3 := fun X => (y3 X).2; clear y0 y1 y2 y3; replace BB := Lib.hid BB)
            | (go_at_call 127; refine (HI.out _).mono ?_; rintro e w4 ⟨rfl, rfl⟩)
            | (go_at_call 111; refine (HM.out _).mono ?_; rintro e w5 ⟨rfl, rfl⟩))
          refine bodyPost_ret (v := cutV 5 i l 0) (by simp [results, Tryz.results109, go_sem, cutV, *]) rfl ⟨by rw [HE.out]; rfl, ?_⟩
          exact ((((BB.out _).setCell (p := ⟨w.heap.size, 0, none⟩) (Nat.le_refl _) _).setCell (p := ⟨w.heap.size, 1, none⟩) (Nat.le_refl _) _).setCell (p := ⟨w.heap.size, 2, none⟩) (Nat.le_refl _) _).setCell (p := ⟨w.heap.size, 3, none⟩) (Nat.le_refl _) _
      · have q5 : ((k : Int) == 5) = false := by rw [beq_eq_false_iff_ne]; omega
        have q5' : ((k : Int) != 5) = true := by rw [bne, q5]; rfl
        have hk136 : k = 1 ∨ k = 3 ∨ k = 6 := by omega
        by_cases h40 : 40 < l
        · have HE : Hid (R = .error 2) := Lib.hid (by rw [hN]; unfold faultN; rcases hk136 with rfl | rfl | rfl <;> simp [h40])
          have h40' : (40 : Int) < (l : Int) := by omega
          clear hN hh1 hh2 hk6 HM e35 k2 k4 k0 k5 hk136
          go_enter Tryz.func109, Tryz.ntmps109
          go_wp2_with (go_at_call 124; refine (HC.out _).mono ?_; rintro e w1 ⟨rfl, hb1⟩)
          go_loop [8] (fun iv => iv = .int .i64 0) (fun iv => 0)
          case atStart => rfl
          case round =>
            subst hrel
            go_wp2_with (first
              | (go_at_call 125; refine (HB.out _).mono ?_; rintro e w2 ⟨rfl, rfl⟩)
              | (go_at_call 126; refine (HT.out _).mono ?_; rintro e w3 ⟨rfl, hb3⟩; have y0 := fun X => box_kept (j := 0) hb1 hb3 X rfl; have y1 := fun X => box_kept (j := 1) hb1 hb3 X rfl; have y2 := fun X => box_kept (j := 2) hb1 hb3 X rfl; have y3 := fun X => box_kept (j := 3) hb1 hb3 X rfl; have BB := fun X => box_below hb1 hb3 X; clear hb1 hb3; have c0 := fun X => (y0 X).1; have c1 := fun X => (y1 X).1; have c2 := fun X => (y2 X).1; have c3 := fun X => (y3 X).1; have f0 := fun X => (y0 X).2; have f1 := fun X => (y1 X).2; have f2 := fun X => (y2 X).2; have f3 := fun X => (y3 X).2; clear y0 y1 y2 y3; replace BB := Lib.hid BB)
              | (go_at_call 127; refine (HI.out _).mono ?_; rintro e w4 ⟨rfl, rfl⟩)
              | (go_at_call 111; refine (HM.out _).mono ?_; rintro e w5 ⟨rfl, rfl⟩))
            refine bodyPost_ret (v := cutV 0 0 0 2) (by simp [results, Tryz.results109, go_sem, cutV, *]) rfl ⟨by rw [HE.out]; rfl, ?_⟩
            exact ((((BB.out _).setCell (p := ⟨w.heap.size, 0, none⟩) (Nat.le_refl _) _).setCell (p := ⟨w.heap.size, 1, none⟩) (Nat.le_refl _) _).setCell (p := ⟨w.heap.size, 2, none⟩) (Nat.le_refl _) _).setCell (p := ⟨w.heap.size, 3, none⟩) (Nat.le_refl _) _
        · have HE : Hid (R = .ok (k, l)) := Lib.hid (by rw [hN]; unfold faultN; rcases hk136 with rfl | rfl | rfl <;> simp [h40])
          have h40' : ((40 : Int) < (l : Int)) = False := by simp; omega
          have h40n : (40 < l) = False := by simp; omega
          clear hN hh1 hh2 hk6 HM e35 k2 k4 k0 k5 hk136 h40
          go_enter Tryz.func109, Tryz.ntmps109
          go_wp2_with (go_at_call 124; refine (HC.out _).mono ?_; rintro e w1 ⟨rfl, hb1⟩)
          go_loop [8] (fun iv => iv = .int .i64 0) (fun iv => 0)
          case atStart => rfl
          case round =>
            subst hrel
            go_wp2_with (first
              | (go_at_call 125; refine (HB.out _).mono ?_; rintro e w2 ⟨rfl, rfl⟩)
              | (go_at_call 126; refine (HT.out _).mono ?_; rintro e w3 ⟨rfl, hb3⟩; have y0 := fun X => box_kept (j := 0) hb1 hb3 X rfl; have y1 := fun X => box_kept (j := 1) hb1 hb3 X rfl; have y2 := fun X => box_kept (j := 2) hb1 hb3 X rfl; have y3 := fun X => box_kept (j := 3) hb1 hb3 X rfl; have BB := fun X => box_below hb1 hb3 X; clear hb1 hb3; have c0 := fun X => (y0 X).1; have c1 := fun X => (y1 X).1; have c2 := fun X => (y2 X).1; have c3 := fun X => (y3 X).1; have f0 := fun X => (y0 X).2; have f1 := fun X => (y1 X).2; have f2 := fun X => (y2 X).2; have f3 := fun X => (y3 X).2; clear y0 y1 y2 y3; replace BB := Lib.hid BB)
              | (go_at_call 127; refine (HI.out _).mono ?_; rintro e w4 ⟨rfl, rfl⟩)
              | (go_at_call 111; refine (HM.out _).mono ?_; rintro e w5 ⟨rfl, rfl⟩))
            refine bodyPost_ret (v := cutV k i l 0) (by simp [results, Tryz.results109, go_sem, cutV, *]) rfl ⟨by rw [HE.out]; rfl, ?_⟩
            exact ((((BB.out _).setCell (p := ⟨w.heap.size, 0, none⟩) (Nat.le_refl _) _).setCell (p := ⟨w.heap.size, 1, none⟩) (Nat.le_refl _) _).setCell (p := ⟨w.heap.size, 2, none⟩) (Nat.le_refl _) _).setCell (p := ⟨w.heap.size, 3, none⟩) (Nat.le_refl _) _
end

section
open Go.RowKit

theorem box_kept1 {w w1 : World} {cs : Array Value} {tt : TypeId} (hb1 : Below (w.alloc (.cells cs tt)).heap.size (w.alloc (.cells cs tt)) w1) (X : Obj) {j : Nat} {v : Value} (hv : cs[j]? = some v) :
    (w1.alloc X).cell? ⟨w.heap.size, j, none⟩ = some v ∧ (w1.alloc X).frozen? ⟨w.heap.size, j, none⟩ = false := by
  have s0 : (w.alloc (.cells cs tt)).heap.size = w.heap.size + 1 := by simp
  have B1 := hb1.alloc hb1.size X
  refine ⟨(B1.cell (p := ⟨w.heap.size, j, none⟩) (by rw [s0]; simp)).trans ?_, (B1.frozen (p := ⟨w.heap.size, j, none⟩) (by rw [s0]; simp)).trans (by simp)⟩
  rw [World.cell?_alloc_new]; exact hv
theorem box_below1 {w w1 : World} {cs : Array Value} {tt : TypeId} (hb1 : Below (w.alloc (.cells cs tt)).heap.size (w.alloc (.cells cs tt)) w1) (X : Obj) : Below w.heap.size w (w1.alloc X) :=
  ((Below.refl _ w).alloc (Nat.le_refl _) _).trans ((hb1.alloc hb1.size X).mono (by simp))

set_option maxHeartbeats 4000000 in
set_option maxRecDepth 100000 in
theorem piece_blank (t : ByteArray) (i : Nat) (op : Bool) (hi : i < t.size) (ht : t.size ≤ 140737488351232) (h1 : ¬ isCom t i 47) (h2 : ¬ isCom t i 42) (hbl : bBlank (aheadB t i) = true) (w : World) :
    Calls Tryz.prog 109 #[.string t, .int .i64 (i : Int), .bool op] w fun e w' => e = .returned (cutV 7 i (blanksN t i) 0) ∧ Below w.heap.size w w' := by
  have HC : Hid (∀ W, Calls Tryz.prog 124 #[.string t, .int .i64 (i : Int)] W fun e w' => e = .returned (.agg #[.int .i64 0, .int .i64 0, .int .i64 0, .int .i64 0]) ∧ Below W.heap.size W w') := Lib.hid (fun W => comment_none t i (Nat.le_of_lt hi) ht h1 h2 W)
  obtain ⟨N, hN⟩ : ∃ N, N = blanksN t i := ⟨_, rfl⟩
  rw [← hN]
  have hgo := runN_go hi (p := bBlank) (by rw [← aheadB_lt hi]; exact hbl)
  have hle := runN_le bBlank t (i + 1) (by omega)
  have HR : Hid (runN bBlank t i = i + N ∧ 0 < N) := Lib.hid (by rw [hN, hgo]; unfold blanksN; omega)
  clear h1 h2 hbl hgo hle hN
  go_enter Tryz.func109, Tryz.ntmps109
  go_wp2_with (go_at_call 124; refine (HC.out _).mono ?_; rintro e w1 ⟨rfl, hb1⟩; have y0 := fun X => box_kept1 (j := 0) hb1 X rfl; have y1 := fun X => box_kept1 (j := 1) hb1 X rfl; have y2 := fun X => box_kept1 (j := 2) hb1 X rfl; have y3 := fun X => box_kept1 (j := 3) hb1 X rfl; have BB := fun X => box_below1 hb1 X; clear hb1; have c0 := fun X => (y0 X).1; have c1 := fun X => (y1 X).1; have c2 := fun X => (y2 X).1; have c3 := fun X => (y3 X).1; have f0 := fun X => (y0 X).2; have f1 := fun X => (y1 X).2; have f2 := fun X => (y2 X).2; have f3 := fun X => (y3 X).2; clear y0 y1 y2 y3; replace BB := Lib.hid BB)
  go_loop [8] (fun iv => ∃ k : Nat, i + k ≤ t.size ∧ iv = .int .i64 (k : Int) ∧ Hid (runN bBlank t (i + k) = i + N)) (fun iv => t.size - (intOf iv).toNat)
  case atStart => exact ⟨0, by omega, rfl, Lib.hid HR.out.1⟩
  case round =>
    obtain ⟨k, hk, rfl, hr⟩ := hrel
    have w1' : IntKind.i64.wrap ((i : Int) + (k : Int)) = (i : Int) + (k : Int) := IntWalk.i64_in _ (by omega)
    have w2' : IntKind.i64.wrap ((k : Int) + 1) = (k : Int) + 1 := IntWalk.i64_in _ (by omega)
    have fin : k = N → Hid (0 < (k : Int)) ∧ Hid (k = N) := fun e => ⟨Lib.hid (by have := HR.out.2; omega), Lib.hid e⟩
    by_cases hlt : i + k < t.size
    · have hlt' : (i : Int) + (k : Int) < (t.size : Int) := by omega
      have hp : (0 : Int) ≤ (i : Int) + (k : Int) := by omega
      have hq : ((i : Int) + (k : Int)).toNat = i + k := by omega
      cases hb : bBlank t[i + k] with
      | true =>
        have HB : Hid (∀ W, Calls Tryz.prog 125 #[.int .u8 (t[i + k].toNat : Int)] W fun e w' => e = .returned (.bool true) ∧ W = w') := Lib.hid (fun W => by have := rBlank_any t[i + k] W; rw [hb] at this; exact this)
        have hr' : Hid (runN bBlank t (i + (k + 1)) = i + N) := Lib.hid (by rw [← hr.out, runN_go hlt hb]; rfl)
        clear hb fin
        go_wp2_with (go_at_call 125; refine (HB.out _).mono ?_; rintro e w2 ⟨rfl, rfl⟩)
        exact ⟨⟨k + 1, by omega, by simp, hr'⟩, by simp only [intOf]; omega⟩
      | false =>
        have HB : Hid (∀ W, Calls Tryz.prog 125 #[.int .u8 (t[i + k].toNat : Int)] W fun e w' => e = .returned (.bool false) ∧ W = w') := Lib.hid (fun W => by have := rBlank_any t[i + k] W; rw [hb] at this; exact this)
        obtain ⟨g1, g2⟩ := fin (by have := hr.out; rw [runN_no hlt hb] at this; omega)
        have g3 := g1.out
        have g4 : 0 < k := by omega
        clear hb fin g1
        go_wp2_with (go_at_call 125; refine (HB.out _).mono ?_; rintro e w2 ⟨rfl, rfl⟩)
        refine bodyPost_ret (v := cutV 7 i k 0) (by simp [results, Tryz.results109, go_sem, cutV, *]) rfl ⟨by rw [← g2.out], ?_⟩
        exact ((((BB.out _).setCell (p := ⟨w.heap.size, 0, none⟩) (Nat.le_refl _) _).setCell (p := ⟨w.heap.size, 1, none⟩) (Nat.le_refl _) _).setCell (p := ⟨w.heap.size, 2, none⟩) (Nat.le_refl _) _).setCell (p := ⟨w.heap.size, 3, none⟩) (Nat.le_refl _) _
    · have hlt' : ((i : Int) + (k : Int) < (t.size : Int)) = False := by simp; omega
      obtain ⟨g1, g2⟩ := fin (by have := hr.out; rw [runN_end hlt] at this; omega)
      have g3 := g1.out
      have g4 : 0 < k := by omega
      clear fin g1
      go_wp2_with fail
      refine bodyPost_ret (v := cutV 7 i k 0) (by simp [results, Tryz.results109, go_sem, cutV, *]) rfl ⟨by rw [← g2.out], ?_⟩
      exact ((((BB.out _).setCell (p := ⟨w.heap.size, 0, none⟩) (Nat.le_refl _) _).setCell (p := ⟨w.heap.size, 1, none⟩) (Nat.le_refl _) _).setCell (p := ⟨w.heap.size, 2, none⟩) (Nat.le_refl _) _).setCell (p := ⟨w.heap.size, 3, none⟩) (Nat.le_refl _) _
end

section
open Go.RowKit

set_option maxHeartbeats 4000000 in
set_option maxRecDepth 100000 in
theorem piece_com (t : ByteArray) (i : Nat) (op : Bool) (k a l c : Nat) (h0 : ∀ W, Calls Tryz.prog 124 #[.string t, .int .i64 (i : Int)] W fun e w' => e = .returned (cutV k a l c) ∧ Below W.heap.size W w')
    (h : k ≠ 0 ∨ (k = 0 ∧ c ≠ 0)) (w : World) :
    Calls Tryz.prog 109 #[.string t, .int .i64 (i : Int), .bool op] w fun e w' => e = .returned (cutV k a l c) ∧ Below w.heap.size w w' := by
  have HC : Hid (∀ W, Calls Tryz.prog 124 #[.string t, .int .i64 (i : Int)] W fun e w' => e = .returned (.agg #[.int .i64 (k : Int), .int .i64 (a : Int), .int .i64 (l : Int), .int .i64 (c : Int)]) ∧ Below W.heap.size W w') := Lib.hid h0
  have nz : ∀ n : Nat, n ≠ 0 → ((n : Int) == 0) = false ∧ ((n : Int) != 0) = true := fun n hn => by
    have : ((n : Int) == 0) = false := by rw [beq_eq_false_iff_ne]; omega
    exact ⟨this, by rw [bne, this]; rfl⟩
  clear h0
  have hk : (((k : Int) == 0) = false ∧ ((k : Int) != 0) = true) ∨ (((k : Int) == 0) = true ∧ ((k : Int) != 0) = false ∧ ((c : Int) == 0) = false ∧ ((c : Int) != 0) = true) := by
    rcases h with h | ⟨h, hc⟩
    · exact Or.inl (nz k h)
    · right; rw [h]; exact ⟨rfl, rfl, (nz c hc).1, (nz c hc).2⟩
  clear nz h
  rcases hk with ⟨p1, p2⟩ | ⟨p1, p2, p3, p4⟩
  all_goals
    go_enter Tryz.func109, Tryz.ntmps109
    go_wp2_with (go_at_call 124; refine (HC.out _).mono ?_; rintro e w1 ⟨rfl, hb1⟩; have y0 := fun X => box_kept1 (j := 0) hb1 X rfl; have y1 := fun X => box_kept1 (j := 1) hb1 X rfl; have y2 := fun X => box_kept1 (j := 2) hb1 X rfl; have y3 := fun X => box_kept1 (j := 3) hb1 X rfl; have BB := fun X => box_below1 hb1 X; clear hb1; have c0 := fun X => (y0 X).1; have c1 := fun X => (y1 X).1; have c2 := fun X => (y2 X).1; have c3 := fun X => (y3 X).1; have f0 := fun X => (y0 X).2; have f1 := fun X => (y1 X).2; have f2 := fun X => (y2 X).2; have f3 := fun X => (y3 X).2; clear y0 y1 y2 y3; replace BB := Lib.hid BB)
    refine bodyPost_ret (v := cutV k a l c) (by simp [results, Tryz.results109, go_sem, cutV, *]) rfl ⟨rfl, ?_⟩
    exact ((((BB.out _).setCell (p := ⟨w.heap.size, 0, none⟩) (Nat.le_refl _) _).setCell (p := ⟨w.heap.size, 1, none⟩) (Nat.le_refl _) _).setCell (p := ⟨w.heap.size, 2, none⟩) (Nat.le_refl _) _).setCell (p := ⟨w.heap.size, 3, none⟩) (Nat.le_refl _) _

theorem com_pre {t : ByteArray} {i : Nat} {b : UInt8} : Lib.hasPrefix (restB t i).data.toList [47, b] = true ↔ isCom t i b := by
  have hg : ∀ j, j < t.size - i → (restB t i).data.toList[j]? = some (aheadB t (i + j)) := by
    intro j hj
    rw [Array.getElem?_toList, ahead_data (by rw [rest_size]; omega), ahead_rest]
  have hlen : (restB t i).data.toList.length = t.size - i := by
    have : (restB t i).data.toList.length = (restB t i).size := by simp
    rw [this, rest_size]
  simp only [Lib.hasPrefix, List.isPrefixOf_iff_prefix]
  constructor
  · rintro ⟨z, hz⟩
    have hl := hlen
    rw [← hz] at hl
    simp at hl
    have e0 := hg 0 (by omega)
    have e1 := hg 1 (by omega)
    rw [← hz] at e0 e1
    simp at e0 e1
    exact ⟨by omega, e0.symm, e1.symm⟩
  · rintro ⟨h1, h2, h3⟩
    have e0 := hg 0 (by omega)
    have e1 := hg 1 (by omega)
    rw [Nat.add_zero, h2] at e0
    rw [h3] at e1
    generalize (restB t i).data.toList = L at *
    match L, e0, e1 with
    | x :: y :: z, e0, e1 =>
      simp at e0 e1
      subst e0 e1
      exact ⟨z, rfl⟩
    | [], e0, _ => simp at e0
    | [_], _, e1 => simp at e1

/-- THE REFERENCE's PIECE IS THE LEXER's. -/
theorem rPiece_any (t : ByteArray) (i : Nat) (op : Bool) (hi : i < t.size) (ht : t.size ≤ 140737488351232) (w : World) :
    Calls Tryz.prog 109 #[.string t, .int .i64 (i : Int), .bool op] w fun e w' => e = .returned (pieceV i (nextR t i op)) ∧ Below w.heap.size w w' := by
  by_cases h1 : isCom t i 47
  · have e : nextR t i op = .ok (8, lineN (restB t i)) := by unfold nextR; rw [if_pos (com_pre.2 h1)]
    rw [e]
    exact piece_com t i op 8 i (lineN (restB t i)) 0 (fun W => comment_line t i ht h1 W) (Or.inl (by omega)) w
  have n1 : ¬ Lib.hasPrefix (restB t i).data.toList [47, 47] = true := fun h => h1 (com_pre.1 h)
  by_cases h2 : isCom t i 42
  · have hc := fun W => comment_nest t i ht h2 W
    cases hn : nestedGo (restB t i) 0 0 with
    | ok n =>
      rw [hn] at hc
      rw [show nextR t i op = .ok (8, n) by unfold nextR; rw [if_neg n1, if_pos (com_pre.2 h2), hn]]
      exact piece_com t i op 8 i n 0 hc (Or.inl (by omega)) w
    | error c =>
      rw [hn] at hc
      rw [show nextR t i op = .error c by unfold nextR; rw [if_neg n1, if_pos (com_pre.2 h2), hn]]
      exact piece_com t i op 0 0 0 c hc (Or.inr ⟨rfl, nested_err _ _ _ _ _ (Nat.le_refl _) hn⟩) w
  have n2 : ¬ Lib.hasPrefix (restB t i).data.toList [47, 42] = true := fun h => h2 (com_pre.1 h)
  cases hb : bBlank (aheadB t i) with
  | true =>
    have e : nextR t i op = .ok (7, blanksN t i) := by unfold nextR; rw [if_neg n1, if_neg n2, if_pos hb]
    rw [e]
    exact piece_blank t i op hi ht h1 h2 hb w
  | false =>
    refine piece_tok t i op hi ht h1 h2 hb ?_ w
    unfold nextR
    rw [if_neg n1, if_neg n2, if_neg (by rw [hb]; decide)]
end

section
open Go.RowKit

def RPiecesEnd (t : ByteArray) (w : World) (e : Ending) (w' : World) : Prop :=
  ∃ v, e = .returned (.agg #[v, .int .i64 ((piecesR t).2.1 : Int), .int .i64 ((piecesR t).2.2 : Int)]) ∧ w'.ownsRow w.heap.size 124 3 v (piecesR t).1.length (flatP (piecesR t).1) ∧ Below w.heap.size w w'

theorem piecesR_err {t : ByteArray} {pre : List (Nat × Nat × Nat)} {i n c : Nat} {op : Bool} (ht : t.size ≤ 20000) (h : Steps t 0 false 0 pre (i, op, n)) (hi : i < t.size) (hc : nextR t i op = .error c) : piecesR t = ([], i, c) := by
  unfold piecesR
  rw [if_neg (by omega), cutAll_bad h hi (.inl hc)]
theorem piecesR_six {t : ByteArray} {pre : List (Nat × Nat × Nat)} {i : Nat} {op : Bool} {p : Nat × Nat} (ht : t.size ≤ 20000) (h : Steps t 0 false 0 pre (i, op, 6000)) (hi : i < t.size) (hp : nextR t i op = .ok p) (hk : isTok p.1 = true) : piecesR t = ([], i, 2) := by
  unfold piecesR
  rw [if_neg (by omega), cutAll_bad h hi (.inr ⟨p, hp, hk, rfl, rfl⟩)]
theorem piecesR_end {t : ByteArray} {pre : List (Nat × Nat × Nat)} {i n : Nat} {op : Bool} (ht : t.size ≤ 20000) (h : Steps t 0 false 0 pre (i, op, n)) (hi : i = t.size) : piecesR t = (pre, 0, 0) := by
  subst hi
  unfold piecesR
  rw [if_neg (by omega), cutAll_done h]

theorem res_kept {w w2 : World} {cs : Array Value} {tt : TypeId} (hB : Below (w.heap.size + 1) (w.alloc (.cells cs tt)) w2) (X : Obj) {j : Nat} {v : Value} (hv : cs[j]? = some v) :
    (w2.alloc X).cell? ⟨w.heap.size, j, none⟩ = some v ∧ (w2.alloc X).frozen? ⟨w.heap.size, j, none⟩ = false := by
  have hz := hB.size
  have B := hB.alloc (by simpa using hz) X
  refine ⟨(B.cell (p := ⟨w.heap.size, j, none⟩) (by simp)).trans ?_, (B.frozen (p := ⟨w.heap.size, j, none⟩) (by simp)).trans (by simp)⟩
  rw [World.cell?_alloc_new]; exact hv
theorem pieces_new (w2 : World) (o : Obj) (k i l : Nat) : ∀ j u, (cellsP (k, i, l))[j]? = some u → ((w2.alloc o).alloc (.cells #[.int .i64 (k : Int), .int .i64 (i : Int), .int .i64 (l : Int)] 124)).cell? ((⟨w2.heap.size + 1, 0, none⟩ : Addr).add j) = some u := by
  intro j u hj
  have e : w2.heap.size + 1 = (w2.alloc o).heap.size := by simp
  rw [e]
  match j, hj with
  | 0, hj => simp [cellsP] at hj; subst hj; simp [Addr.add]
  | 1, hj => simp [cellsP] at hj; subst hj; simp [Addr.add]
  | 2, hj => simp [cellsP] at hj; subst hj; simp [Addr.add]
  | j + 3, hj => simp [cellsP] at hj
theorem pieces_newB (W : World) (b : Nat) (k i l : Nat) (e : b = W.heap.size) : ∀ j u, (cellsP (k, i, l))[j]? = some u → (W.alloc (.cells #[.int .i64 (k : Int), .int .i64 (i : Int), .int .i64 (l : Int)] 124)).cell? ((⟨b, 0, none⟩ : Addr).add j) = some u := by
  intro j u hj
  rw [e]
  match j, hj with
  | 0, hj => simp [cellsP] at hj; subst hj; simp [Addr.add]
  | 1, hj => simp [cellsP] at hj; subst hj; simp [Addr.add]
  | 2, hj => simp [cellsP] at hj; subst hj; simp [Addr.add]
  | j + 3, hj => simp [cellsP] at hj
theorem piece_lenB {W w4 : World} {o : Obj} {b : Option Nat} {g l : Nat} (hg : ((W.alloc o).grownBy w4 b)) (hb : ∀ j, b = some j → j < g) (hlt : g < W.heap.size) (hc : W.cell? ⟨g, 2, none⟩ = some (.int .i64 (l : Int))) : w4.cell? ⟨g, 2, none⟩ = some (.int .i64 (l : Int)) :=
  (World.cell?_of_block (w := W.alloc o) (a := ⟨g, 2, none⟩) (hg.block _ (by simp; omega) (fun e => by have := hb _ e.symm; simp at this))).trans ((((Below.refl _ W).alloc (Nat.le_refl _) o).cell (p := ⟨g, 2, none⟩) hlt).trans hc)
theorem res_at {w w2 : World} {cs : Array Value} {tt : TypeId} (hB : Below (w.heap.size + 1) (w.alloc (.cells cs tt)) w2) {j : Nat} {v : Value} (hv : cs[j]? = some v) :
    w2.cell? ⟨w.heap.size, j, none⟩ = some v ∧ w2.frozen? ⟨w.heap.size, j, none⟩ = false := by
  refine ⟨(hB.cell (p := ⟨w.heap.size, j, none⟩) (by simp)).trans ?_, (hB.frozen (p := ⟨w.heap.size, j, none⟩) (by simp)).trans (by simp)⟩
  rw [World.cell?_alloc_new]; exact hv
theorem row_slice {w : World} {base e size n : Nat} {v : Value} {xs : List Value} (h : w.ownsRow base e size v n xs) : ∃ a m c, v = .slice a m c := by
  rcases h.2 with ⟨rfl, _⟩ | ⟨g, cap, cur, rfl, _⟩
  · exact ⟨_, _, _, rfl⟩
  · exact ⟨_, _, _, rfl⟩
theorem piece_len {w2 w4 : World} {cs : Array Value} {tt : TypeId} {o : Obj} {b : Option Nat} {l : Nat} (hg : (((w2.alloc (.cells cs tt)).alloc o).grownBy w4 b)) (hb : ∀ j, b = some j → j < w2.heap.size) (hv : cs[2]? = some (.int .i64 (l : Int))) : w4.cell? ⟨w2.heap.size, 2, none⟩ = some (.int .i64 (l : Int)) :=
  (World.cell?_of_block (w := (w2.alloc (.cells cs tt)).alloc o) (a := ⟨w2.heap.size, 2, none⟩) (hg.block _ (by simp; omega) (fun e => by have := hb _ e.symm; simp at this))).trans (two_first w2 cs tt o 2 _ hv)
theorem res_below {w w2 : World} {o : Obj} (hB : Below (w.heap.size + 1) (w.alloc o) w2) : Below w.heap.size w w2 := ((Below.refl _ w).alloc (Nat.le_refl _) o).trans (hB.mono (by omega))

set_option maxHeartbeats 8000000 in
set_option maxRecDepth 100000 in
theorem rPieces_run (t : ByteArray) (ht : t.size ≤ 20000) (w : World) : Calls Tryz.prog 88 #[.string t] w (RPiecesEnd t w) := by
  have HP := Lib.hid (fun i op hi W => rPiece_any t i op hi (by omega) W)
  obtain ⟨R, hR⟩ : ∃ R, R = RPiecesEnd t w := ⟨_, rfl⟩
  rw [← hR]
  have HR := Lib.hid hR
  clear hR
  obtain ⟨i0, hi0, hz0, hz1, hz2'⟩ := info_parts infoP
  have hlen : ((20000 : Int) < (t.size : Int)) = False := by simp; omega
  go_enter Tryz.func88, Tryz.ntmps88
  go_wp2_with fail
  go_loopw [3, 4, 5, 6] (fun lv tv sv av wr => ∃ (pre : List (Nat × Nat × Nat)) (i n : Nat) (op : Bool), i ≤ t.size ∧ n ≤ 6000 ∧ tv = .int .i64 (n : Int) ∧ sv = .bool op ∧ av = .int .i64 (i : Int) ∧ Hid (Steps t 0 false 0 pre (i, op, n)) ∧ Hid (wr.ownsRow (w.heap.size + 1) 124 3 lv pre.length (flatP pre)) ∧ Hid (Below (w.heap.size + 1) (w.alloc (.cells #[.slice none 0 0, .int .i64 0, .int .i64 0] 121)) wr)) (fun _ _ _ av _ => t.size - (intOf av).toNat)
  case atStart => exact ⟨[], 0, 0, false, by omega, by omega, rfl, rfl, rfl, Lib.hid rfl, Lib.hid (World.ownsRow_nil _ _ _ _), Lib.hid (Below.refl _ _)⟩
  case round =>
    obtain ⟨pre, i, n, op, hi, hn, rfl, rfl, rfl, HS, HRO, HBE⟩ := hrel
    have hpl := (steps_bounds _ _ _ _ _ HS.out (by omega)).1
    simp only at hpl
    have hzr : w.heap.size + 1 ≤ wr.heap.size := by simpa using HBE.out.size
    by_cases hlt : i < t.size
    · have hlt' : ((i : Int) < (t.size : Int)) := by omega
      cases hnx : nextR t i op with
      | error c =>
        have HP1 : Hid (∀ W, Calls Tryz.prog 109 #[.string t, .int .i64 (i : Int), .bool op] W fun e w' => e = .returned (.agg #[.int .i64 0, .int .i64 0, .int .i64 0, .int .i64 (c : Int)]) ∧ Below W.heap.size W w') := Lib.hid (fun W => by have := HP.out i op hlt W; rw [hnx] at this; exact this)
        have hc := next_err hnx
        have hc1 : ((c : Int) == 0) = false := by rw [beq_eq_false_iff_ne]; omega
        have hc2 : ((c : Int) != 0) = true := by rw [bne_iff_ne]; omega
        have HRR : Hid (piecesR t = ([], i, c)) := Lib.hid (piecesR_err ht HS.out hlt hnx)
        clear HP hnx hc
        go_wp2_with fail
        refine (HP1.out _).mono ?_
        rintro e w2 ⟨rfl, hb2⟩
        have hB2 := HBE.out.trans (hb2.mono hzr)
        have r0 := fun X => (res_kept hB2 X (j := 0) rfl).1
        have r1 := fun X => (res_kept hB2 X (j := 1) rfl).1
        have r2 := fun X => (res_kept hB2 X (j := 2) rfl).1
        have f0 := fun X => (res_kept hB2 X (j := 0) rfl).2
        have f1 := fun X => (res_kept hB2 X (j := 1) rfl).2
        have f2 := fun X => (res_kept hB2 X (j := 2) rfl).2
        have HB2 := Lib.hid (fun X => (res_below hB2).alloc (res_below hB2).size X)
        clear hb2 HP1 hB2
        go_wp2_with fail
        refine bodyPost_ret (v := .agg #[.slice none 0 0, .int .i64 (i : Int), .int .i64 (c : Int)]) (by simp [results, Tryz.results88, go_sem, *]) rfl ?_
        rw [HR.out]
        exact ⟨_, by rw [HRR.out], by rw [HRR.out]; exact World.ownsRow_nil _ _ _ _, (((HB2.out _).setCell (p := ⟨w.heap.size, 0, none⟩) (Nat.le_refl _) _).setCell (p := ⟨w.heap.size, 1, none⟩) (Nat.le_refl _) _).setCell (p := ⟨w.heap.size, 2, none⟩) (Nat.le_refl _) _⟩
      | ok p =>
        obtain ⟨k, l⟩ := p
        obtain ⟨hk1, hk8, hl1, hil⟩ := next_bounds hlt hnx
        simp only at hk1 hk8 hl1 hil
        have HP1 : Hid (∀ W, Calls Tryz.prog 109 #[.string t, .int .i64 (i : Int), .bool op] W fun e w' => e = .returned (.agg #[.int .i64 (k : Int), .int .i64 (i : Int), .int .i64 (l : Int), .int .i64 0]) ∧ Below W.heap.size W w') := Lib.hid (fun W => by have := HP.out i op hlt W; rw [hnx] at this; exact this)
        have hw1 : IntKind.i64.wrap ((n : Int) + 1) = (n : Int) + 1 := IntWalk.i64_in _ (by omega)
        have hw2 : IntKind.i64.wrap ((i : Int) + (l : Int)) = (i : Int) + (l : Int) := IntWalk.i64_in _ (by omega)
        cases htk : isTok k with
        | false =>
          have hk7 : 6 < k := by
            simp only [isTok, Bool.and_eq_false_iff, decide_eq_false_iff_not] at htk
            omega
          have hk6 : ((k : Int) ≤ 6) = False := by simp; omega
          have hk6' : (k ≤ 6) = False := by simp; omega
          have HSS : Hid (Steps t 0 false 0 (pre ++ [(k, i, l)]) (i + l, op, n)) := Lib.hid (by
            have := steps_snoc (pre := pre) HS.out hlt hnx (by simp [htk])
            simpa [htk] using this)
          clear HP hnx hk7
          go_wp2_with fail
          refine (HP1.out _).mono ?_
          rintro e w2 ⟨rfl, hb2⟩
          have hB2 := HBE.out.trans (hb2.mono hzr)
          have hzw := hb2.size
          have HB2 := Lib.hid hB2
          have HR2 := Lib.hid (row_same HRO.out (fun j _ h2 => hb2.block j h2))
          clear hb2 HP1 hB2
          have HNEW : Hid (∀ j u, (cellsP (k, i, l))[j]? = some u → ((w2.alloc (.cells #[.int .i64 (k : Int), .int .i64 (i : Int), .int .i64 (l : Int), .int .i64 0] 147)).alloc (.cells #[.int .i64 (k : Int), .int .i64 (i : Int), .int .i64 (l : Int)] 124)).cell? ((⟨w2.heap.size + 1, 0, none⟩ : Addr).add j) = some u) := Lib.hid (pieces_new w2 _ k i l)
          have hz2 : w.heap.size + 1 ≤ w2.heap.size := by simpa using HB2.out.size
          go_wp2_with (at_builtin; (refine wpList_append_own _ rfl _ _ 119 rfl (w.heap.size + 1) 124 i0 (.agg #[.int .i64 0, .int .i64 0, .int .i64 0]) 3 24 Tryz.underlying119 hi0 hz0 hz1 hz2' rfl (by decide) _ _ _ rfl ((HR2.out.alloc _).alloc _) ⟨w2.heap.size + 1, 0, none⟩ 1 1 (cellsP (k, i, l)) rfl rfl HNEW.out (by simp [cellsP, Value.oneCell']) (by unfold maxLen; omega) (by omega) (by simp; omega) ?_); intro v' w4 hown' hgrow _; have c2 := piece_len (l := l) hgrow (fun j hj => by have := (HRO.out.lt j hj).2; omega) rfl; have HOWN := Lib.hid hown'; have HG := Lib.hid hgrow; clear hown' hgrow)
          refine ⟨⟨pre ++ [(k, i, l)], i + l, n, op, by omega, hn, rfl, rfl, by simp, HSS, Lib.hid ?_, Lib.hid ?_⟩, by simp only [intOf]; omega⟩
          · rw [flatP_snoc, List.length_append]; exact HOWN.out
          · exact Below.grown ((HB2.out.alloc hz2 _).alloc (by simp; omega) _) HG.out (by simp; omega) (fun j hj => (HRO.out.lt j hj).1)
        | true =>
          have hk7 : k ≤ 6 := by
            simp only [isTok, Bool.and_eq_true, decide_eq_true_eq] at htk
            omega
          have hk6 : ((k : Int) ≤ 6) := by omega
          have h3 : (i : Int) ≤ (i : Int) + (l : Int) := by omega
          have h4 : (i : Int) + (l : Int) ≤ (t.size : Int) := by omega
          have ht2 : ((i : Int) + (l : Int)).toNat = i + l := by omega
          have HO : Hid (∀ W n, Calls Tryz.prog 110 #[.int .i64 (k : Int), .string (t.extract i (i + l))] (World.drewN W n) fun e w'' => e = .returned (.bool (opE k (cutB t i l))) ∧ ∃ m, w'' = W.drewN m) := Lib.hid (fun W n => by
            have := operand_any k (cutB t i l) hk7 (fun h => ⟨two_text hlt hnx h 41, two_text hlt hnx h 93⟩) (W.drewN n)
            rw [if_neg (by omega)] at this
            exact this.mono fun e w'' ⟨h1, h2⟩ => ⟨h1, n, h2.symm⟩)
          by_cases h6 : n = 6000
          · subst h6
            have HRR : Hid (piecesR t = ([], i, 2)) := Lib.hid (piecesR_six ht HS.out hlt hnx htk)
            clear HP hnx
            go_wp2_with fail
            refine (HP1.out _).mono ?_
            rintro e w2 ⟨rfl, hb2⟩
            have hB2 := HBE.out.trans (hb2.mono hzr)
            have r0 := fun X => (res_kept hB2 X (j := 0) rfl).1
            have r1 := fun X => (res_kept hB2 X (j := 1) rfl).1
            have r2 := fun X => (res_kept hB2 X (j := 2) rfl).1
            have f0 := fun X => (res_kept hB2 X (j := 0) rfl).2
            have f1 := fun X => (res_kept hB2 X (j := 1) rfl).2
            have f2 := fun X => (res_kept hB2 X (j := 2) rfl).2
            have HB2 := Lib.hid (fun X => (res_below hB2).alloc (res_below hB2).size X)
            clear hb2 HP1 hB2
            go_wp2_with fail
            go_quiet ((go_at_call 110; exact HO.out _ _))
            go_wp2_with fail
            refine bodyPost_ret (v := .agg #[.slice none 0 0, .int .i64 (i : Int), .int .i64 2]) (by simp [results, Tryz.results88, go_sem, *]) rfl ?_
            rw [HR.out]
            exact ⟨_, by rw [HRR.out]; rfl, by rw [HRR.out]; exact World.ownsRow_nil _ _ _ _, (((below_drewN (HB2.out _) _).setCell (p := ⟨w.heap.size, 0, none⟩) (Nat.le_refl _) _).setCell (p := ⟨w.heap.size, 1, none⟩) (Nat.le_refl _) _).setCell (p := ⟨w.heap.size, 2, none⟩) (Nat.le_refl _) _⟩
          · have hn6 : n < 6000 := by omega
            have hn6' : ((6000 : Int) < (n : Int) + 1) = False := by simp; omega
            have hn6'' : (6000 < n + 1) = False := by simp; omega
            have HSS : Hid (Steps t 0 false 0 (pre ++ [(k, i, l)]) (i + l, opE k (cutB t i l), n + 1)) := Lib.hid (by
              have := steps_snoc (pre := pre) HS.out hlt hnx (by simp [h6])
              simpa [htk] using this)
            obtain ⟨O, hO⟩ : ∃ O, O = opE k (cutB t i l) := ⟨_, rfl⟩
            rw [← hO] at HO HSS
            clear HP hnx hO
            go_wp2_with fail
            refine (HP1.out _).mono ?_
            rintro e w2 ⟨rfl, hb2⟩
            have hB2 := HBE.out.trans (hb2.mono hzr)
            have hzw := hb2.size
            have HB2 := Lib.hid hB2
            have HR2 := Lib.hid (row_same HRO.out (fun j _ h2 => hb2.block j h2))
            clear hb2 HP1 hB2
            go_wp2_with fail
            go_quiet ((go_at_call 110; exact HO.out _ _))
            have hz2 : w.heap.size + 1 ≤ w2.heap.size := by simpa using HB2.out.size
            have HNEW : Hid (∀ j u, (cellsP (k, i, l))[j]? = some u → (((w2.alloc (.cells #[.int .i64 (k : Int), .int .i64 (i : Int), .int .i64 (l : Int), .int .i64 0] 147)).drewN nq).alloc (.cells #[.int .i64 (k : Int), .int .i64 (i : Int), .int .i64 (l : Int)] 124)).cell? ((⟨w2.heap.size + 1, 0, none⟩ : Addr).add j) = some u) := Lib.hid (pieces_newB _ _ k i l (by simp))
            have HR3 : Hid (((w2.alloc (.cells #[.int .i64 (k : Int), .int .i64 (i : Int), .int .i64 (l : Int), .int .i64 0] 147)).drewN nq).ownsRow (w.heap.size + 1) 124 3 u3 pre.length (flatP pre)) := Lib.hid (row_same (HR2.out.alloc _) (fun _ _ _ => rfl))
            have hlc : ((w2.alloc (.cells #[.int .i64 (k : Int), .int .i64 (i : Int), .int .i64 (l : Int), .int .i64 0] 147)).drewN nq).cell? ⟨w2.heap.size, 2, none⟩ = some (.int .i64 (l : Int)) := new_cell _ _ _ _ _ _ rfl rfl
            have HLC := Lib.hid hlc
            clear hlc HR2
            go_wp2_with (at_builtin; (refine wpList_append_own _ rfl _ _ 119 rfl (w.heap.size + 1) 124 i0 (.agg #[.int .i64 0, .int .i64 0, .int .i64 0]) 3 24 Tryz.underlying119 hi0 hz0 hz1 hz2' rfl (by decide) _ _ _ rfl (HR3.out.alloc _) ⟨w2.heap.size + 1, 0, none⟩ 1 1 (cellsP (k, i, l)) rfl rfl HNEW.out (by simp [cellsP, Value.oneCell']) (by unfold maxLen; omega) (by omega) (by simp; omega) ?_); intro v' w4 hown' hgrow _; have c2 := piece_lenB (l := l) hgrow (fun j hj => by have := (HRO.out.lt j hj).2; omega) (by simp) HLC.out; have HOWN := Lib.hid hown'; have HG := Lib.hid hgrow; clear hown' hgrow)
            refine ⟨⟨pre ++ [(k, i, l)], i + l, n + 1, O, by omega, by omega, rfl, rfl, by simp, HSS, Lib.hid ?_, Lib.hid ?_⟩, by simp only [intOf]; omega⟩
            · rw [flatP_snoc, List.length_append]; exact HOWN.out
            · exact Below.grown ((below_drewN (HB2.out.alloc hz2 _) _).alloc (by simp; omega) _) HG.out (by simp; omega) (fun j hj => (HRO.out.lt j hj).1)
    · have hlt' : ((i : Int) < (t.size : Int)) = False := by simp; omega
      have HRR : Hid (piecesR t = (pre, 0, 0)) := Lib.hid (piecesR_end ht HS.out (by omega))
      obtain ⟨b0, n0, c0, rfl⟩ := row_slice HRO.out
      have r0 := (res_at HBE.out (j := 0) rfl).1
      have r1 := (res_at HBE.out (j := 1) rfl).1
      have r2 := (res_at HBE.out (j := 2) rfl).1
      have f0 := (res_at HBE.out (j := 0) rfl).2
      have f1 := (res_at HBE.out (j := 1) rfl).2
      have f2 := (res_at HBE.out (j := 2) rfl).2
      clear HP
      go_wp2_with fail
      refine bodyPost_ret (v := .agg #[.slice b0 n0 c0, .int .i64 0, .int .i64 0]) (by simp [results, Tryz.results88, go_sem, *]) rfl ?_
      rw [HR.out]
      refine ⟨_, by rw [HRR.out]; rfl, ?_, ?_⟩
      · rw [HRR.out]; exact row_base (ownsRow_setCell_below (ownsRow_setCell_below (ownsRow_setCell_below HRO.out (by simp) _) (by simp) _) (by simp) _) (by omega)
      · exact (((res_below HBE.out).setCell (p := ⟨w.heap.size, 0, none⟩) (Nat.le_refl _) _).setCell (p := ⟨w.heap.size, 1, none⟩) (Nat.le_refl _) _).setCell (p := ⟨w.heap.size, 2, none⟩) (Nat.le_refl _) _

theorem rPieces_all (t : ByteArray) (w : World) : Calls Tryz.prog 88 #[.string t] w (RPiecesEnd t w) := by
  by_cases ht : t.size ≤ 20000
  · exact rPieces_run t ht w
  · have hlen : (20000 : Int) < (t.size : Int) := by omega
    have hr : piecesR t = ([], 0, 2) := by simp [piecesR, show 20000 < t.size by omega]
    have HR := Lib.hid hr
    clear hr ht
    go_enter Tryz.func88, Tryz.ntmps88
    go_wp2_with fail
    refine bodyPost_ret (v := .agg #[.slice none 0 0, .int .i64 0, .int .i64 2]) (by simp [results, Tryz.results88, go_sem, *]) rfl ?_
    exact ⟨_, by rw [HR.out]; rfl, by rw [HR.out]; exact World.ownsRow_nil _ _ _ _, (Below.refl _ w).alloc (Nat.le_refl _) _⟩
end

section
open Go.RowKit

def RScanEnd (t : ByteArray) (w : World) (e : Ending) (w' : World) : Prop :=
  ∃ v, e = .returned (.agg #[v, .int .i64 ((piecesR t).2.1 : Int), .int .i64 ((piecesR t).2.2 : Int)]) ∧ w'.ownsRow w.heap.size 50 5 v (toksR t).length (flatT t (toksR t)) ∧ Below w.heap.size w w'

set_option maxHeartbeats 8000000 in
set_option maxRecDepth 100000 in
theorem rScan_bad (t : ByteArray) (he : (piecesR t).2.2 ≠ 0) (w : World) : Calls Tryz.prog 60 #[.string t] w (RScanEnd t w) := by
  have HP := Lib.hid (fun W => rPieces_all t W)
  obtain ⟨a, ha⟩ : ∃ a, a = (piecesR t).2.1 := ⟨_, rfl⟩
  obtain ⟨c, hc⟩ : ∃ c, c = (piecesR t).2.2 := ⟨_, rfl⟩
  rw [← hc] at he
  have he' : ((c : Int) != 0) = true := by rw [bne_iff_ne]; omega
  have hbad := piecesR_bad (t := t) (by rw [← hc]; exact he)
  have htk : toksR t = [] := by simp [toksR, hbad]
  unfold RPiecesEnd at HP
  rw [← ha, ← hc, hbad] at HP
  obtain ⟨R, hR⟩ : ∃ R, R = RScanEnd t w := ⟨_, rfl⟩
  rw [← hR]
  have HR := Lib.hid hR; have HA := Lib.hid ha; have HC := Lib.hid hc; have HTK := Lib.hid htk
  clear hR ha hc htk hbad he
  go_enter Tryz.func60, Tryz.ntmps60
  go_wp2_with fail
  refine (HP.out _).mono ?_
  rintro e w1 ⟨v, rfl, hrow, hb⟩
  obtain ⟨b0, n0, c0, rfl⟩ := row_slice hrow
  have hB2 : Below (w.heap.size + 1) _ w1 := hb.mono (by simp)
  have r0 := fun X => (res_kept hB2 X (j := 0) rfl).1
  have r1 := fun X => (res_kept hB2 X (j := 1) rfl).1
  have r2 := fun X => (res_kept hB2 X (j := 2) rfl).1
  have f0 := fun X => (res_kept hB2 X (j := 0) rfl).2
  have f1 := fun X => (res_kept hB2 X (j := 1) rfl).2
  have f2 := fun X => (res_kept hB2 X (j := 2) rfl).2
  have HB2 := Lib.hid (fun X => (res_below hB2).alloc (res_below hB2).size X)
  clear hrow hb HP hB2
  go_wp2_with fail
  refine bodyPost_ret (v := .agg #[.slice none 0 0, .int .i64 (a : Int), .int .i64 (c : Int)]) (by simp [results, Tryz.results60, go_sem, *]) rfl ?_
  rw [HR.out]
  exact ⟨_, by rw [← HA.out, ← HC.out], by rw [HTK.out]; exact World.ownsRow_nil _ _ _ _, (((HB2.out _).setCell (p := ⟨w.heap.size, 0, none⟩) (Nat.le_refl _) _).setCell (p := ⟨w.heap.size, 1, none⟩) (Nat.le_refl _) _).setCell (p := ⟨w.heap.size, 2, none⟩) (Nat.le_refl _) _⟩

theorem tok_newB (W : World) (b : Nat) (k a : Nat) (n : Int) (s : ByteArray) (e : b = W.heap.size) : ∀ j u, [Value.int .i64 (k : Int), .int .i64 n, .string s, .int .i64 (a : Int), .int .i64 0][j]? = some u → ((W.alloc (.cells #[.int .i64 (k : Int), .int .i64 n, .string s, .int .i64 (a : Int), .int .i64 0] 50)).drew).cell? ((⟨b, 0, none⟩ : Addr).add j) = some u := by
  intro j u hj
  rw [e]
  match j, hj with
  | 0, hj => simp at hj; subst hj; simp [Addr.add]
  | 1, hj => simp at hj; subst hj; simp [Addr.add]
  | 2, hj => simp at hj; subst hj; simp [Addr.add]
  | 3, hj => simp at hj; subst hj; simp [Addr.add]
  | 4, hj => simp at hj; subst hj; simp [Addr.add]
  | j + 5, hj => simp at hj

set_option maxHeartbeats 8000000 in
set_option maxRecDepth 100000 in
theorem rScan_ok (t : ByteArray) (he : (piecesR t).2.2 = 0) (w : World) : Calls Tryz.prog 60 #[.string t] w (RScanEnd t w) := by
  have HP := Lib.hid (fun W => rPieces_all t W)
  obtain ⟨hat0, hl, hc2, ht⟩ := piecesR_ok he
  have hmem := cutF_in t (t.size + 1) 0 false 0
  have hll := cutAll_len t
  unfold RPiecesEnd at HP
  rw [hat0, he] at HP
  obtain ⟨R, hR⟩ : ∃ R, R = RScanEnd t w := ⟨_, rfl⟩
  rw [← hR]
  have HR := Lib.hid hR
  have HAT := Lib.hid hat0
  have HEZ := Lib.hid he
  have HIN : Hid (∀ x, x ∈ (piecesR t).1 → 1 ≤ x.1 ∧ x.1 ≤ 8 ∧ 1 ≤ x.2.2 ∧ x.2.1 + x.2.2 ≤ t.size) := Lib.hid (by rw [hl]; exact hmem)
  have HLEN : (piecesR t).1.length ≤ 20000 := by rw [hl]; omega
  have HTK : Hid (toksR t = (piecesR t).1.filter fun x => isTok x.1) := Lib.hid rfl
  have HN := Lib.hid (fun s W => rNumber_any s W)
  obtain ⟨i0, hi0, hz0, hz1', hz2'⟩ := info_parts infoT
  clear hR hat0 he hl hmem hc2 hll
  obtain ⟨L, hL⟩ : ∃ L, L = (piecesR t).1 := ⟨_, rfl⟩
  rw [← hL] at HP HIN HLEN HTK
  clear hL
  go_enter Tryz.func60, Tryz.ntmps60
  go_wp2_with fail
  refine (HP.out _).mono ?_
  rintro e w1 ⟨v, rfl, hrow, hb⟩
  have hrow' := hrow
  obtain ⟨b0, n0, c0, rfl⟩ := row_slice hrow
  have hn0 : n0 = L.length := by
    rcases hrow.2 with ⟨h1, h2⟩ | ⟨g, cap, cur, h1, _⟩
    · injection h1 with _ h3 _; omega
    · injection h1
  subst hn0
  have hB1 : Below (w.heap.size + 1) _ w1 := hb.mono (by simp)
  have HB1 := Lib.hid hB1; have HROW := Lib.hid hrow
  clear hrow hrow' hb HP hB1
  go_wp2_with fail
  go_loopw [4, 5] (fun tv iv wr => ∃ k : Nat, k ≤ L.length ∧ iv = .int .i64 (k : Int) ∧ Hid (wr.ownsRow (w1.heap.size + 1) 50 5 tv ((L.take k).filter fun x => isTok x.1).length (flatT t ((L.take k).filter fun x => isTok x.1))) ∧ Hid (Below (w1.heap.size + 1) (w1.alloc (.cells #[.slice b0 L.length c0, .int .i64 0, .int .i64 0] 121)) wr)) (fun _ iv _ => L.length - (intOf iv).toNat)
  case atStart => exact ⟨0, by omega, rfl, Lib.hid (World.ownsRow_nil _ _ _ _), Lib.hid (Below.refl _ _)⟩
  case round =>
    obtain ⟨k, hk, rfl, HRO, HBE⟩ := hrel
    have hz1 : w.heap.size + 1 ≤ w1.heap.size := by simpa using HB1.out.size
    have hzr : w1.heap.size + 1 ≤ wr.heap.size := by simpa using HBE.out.size
    have q0 : wr.cell? ⟨w1.heap.size, 0, none⟩ = some (.slice b0 L.length c0) := (res_at HBE.out (j := 0) rfl).1
    by_cases hlt : k < L.length
    · have hlt' : (k : Int) < (L.length : Int) := by omega
      obtain ⟨x, hx⟩ : ∃ x, L[k]? = some x := ⟨_, List.getElem?_eq_getElem hlt⟩
      obtain ⟨g, rfl⟩ : ∃ g, b0 = some ⟨g, 0, none⟩ := by
        rcases HROW.out.2 with ⟨h1, h2⟩ | ⟨g, cap, cur, h1, _⟩
        · omega
        · injection h1 with h1 _ _; exact ⟨g, h1⟩
      have hgl := HROW.out.lt g rfl
      have hcell := HROW.out.cells (g := g) rfl
      have hkept : ∀ j u, (flatP L)[k * 3 + j]? = some u → wr.cell? ⟨g, k * 3 + j, none⟩ = some u := fun j u hu => (HBE.out.cell (p := ⟨g, k * 3 + j, none⟩) (by simp; omega)).trans (by
        have := hcell (k * 3 + j) _ hu; rw [Addr.add_zero_off] at this
        exact (((Below.refl _ w1).alloc (Nat.le_refl _) _).cell (p := ⟨g, k * 3 + j, none⟩) (by simp; omega)).trans this)
      have e0 : wr.cell? ⟨g, k * 3, none⟩ = some (.int .i64 (x.1 : Int)) := hkept 0 _ (by rw [flatP_get L k 0 x hx (by omega)]; rfl)
      have e1 : wr.cell? ⟨g, k * 3 + 1, none⟩ = some (.int .i64 (x.2.1 : Int)) := hkept 1 _ (by rw [flatP_get L k 1 x hx (by omega)]; rfl)
      have e2 : wr.cell? ⟨g, k * 3 + 2, none⟩ = some (.int .i64 (x.2.2 : Int)) := hkept 2 _ (by rw [flatP_get L k 2 x hx (by omega)]; rfl)
      clear hcell hkept
      have hxin := HIN.out x (List.mem_iff_getElem?.2 ⟨k, hx⟩)
      have hw : IntKind.i64.wrap ((k : Int) + 1) = (k : Int) + 1 := IntWalk.i64_in _ (by omega)
      have hf := take_filter_succ L k x hx
      have HF := Lib.hid hf
      clear hf hx
      have HZ := Lib.hid (And.intro hz1 hzr)
      have hxl : x.2.1 + x.2.2 ≤ t.size := hxin.2.2.2
      have hw2 : IntKind.i64.wrap ((x.2.1 : Int) + (x.2.2 : Int)) = (x.2.1 : Int) + (x.2.2 : Int) := IntWalk.i64_in _ (by omega)
      have h3 : (x.2.1 : Int) ≤ (x.2.1 : Int) + (x.2.2 : Int) := by omega
      have h4 : (x.2.1 : Int) + (x.2.2 : Int) ≤ (t.size : Int) := by omega
      have ht2 : ((x.2.1 : Int) + (x.2.2 : Int)).toNat = x.2.1 + x.2.2 := by omega
      cases htk : isTok x.1 with
      | false =>
        have hk7 : 6 < x.1 := by
          simp only [isTok, Bool.and_eq_false_iff, decide_eq_false_iff_not] at htk
          omega
        have hk6 : (6 < (x.1 : Int)) := by omega
        clear HN hw2 h3 h4 ht2
        go_wp2_with fail
        rw [htk] at HF
        simp only [Bool.false_eq_true, if_false, List.append_nil] at HF
        exact ⟨⟨k + 1, hlt, by simp, Lib.hid (by rw [HF.out]; exact HRO.out.alloc _), Lib.hid (HBE.out.alloc hzr _)⟩, by simp only [intOf]; omega⟩
      | true =>
        have hk7 : x.1 ≤ 6 := by
          simp only [isTok, Bool.and_eq_true, decide_eq_true_eq] at htk
          omega
        have hk6 : (6 < (x.1 : Int)) = False := by simp; omega
        rw [htk] at HF
        simp only [if_true] at HF
        by_cases h2 : x.1 = 2
        · have hk' : ((x.1 : Int) == 2) = true := by rw [h2]; rfl
          have hN : Hid (numT t x = (valO (t.extract x.2.1 (x.2.1 + x.2.2))).getD 0) := Lib.hid (by simp [numT, h2, cutB])
          have HV : Hid (∀ W, Calls Tryz.prog 89 #[.string (t.extract x.2.1 (x.2.1 + x.2.2))] W fun e w' => ∃ y : Int, e = .returned (.tuple #[.int .i64 ((valO (t.extract x.2.1 (x.2.1 + x.2.2))).getD 0), .int .i64 y]) ∧ W = w') := Lib.hid (fun W => (HN.out _ W).mono fun e w' ⟨h1, h2⟩ => ⟨_, h1, h2⟩)
          clear HN h2 htk
          go_wp2_with fail
          go_region_held3 (fun w' => w'.cell? ⟨wr.heap.size, 0, none⟩ = some (.int .i64 (x.1 : Int)) ∧ w'.cell? ⟨wr.heap.size, 1, none⟩ = some (.int .i64 (x.2.1 : Int)) ∧ w'.cell? ⟨wr.heap.size, 2, none⟩ = some (.int .i64 (x.2.2 : Int))) (go_keep) (fail)
          all_goals go_wp2_with fail
          refine (HV.out _).mono ?_
          rintro e w3 ⟨y, rfl, rfl⟩
          have HNEW : Hid (∀ j u, (cellsT t x)[j]? = some u → ((((wr.alloc (.cells #[.int .i64 (x.1 : Int), .int .i64 (x.2.1 : Int), .int .i64 (x.2.2 : Int)] 124)).alloc (.cells #[.int .i64 (x.1 : Int), .int .i64 ((valO (t.extract x.2.1 (x.2.1 + x.2.2))).getD 0), .string (t.extract x.2.1 (x.2.1 + x.2.2)), .int .i64 (x.2.1 : Int), .int .i64 0] 50)).alloc (.cells #[.int .i64 (x.1 : Int), .int .i64 ((valO (t.extract x.2.1 (x.2.1 + x.2.2))).getD 0), .string (t.extract x.2.1 (x.2.1 + x.2.2)), .int .i64 (x.2.1 : Int), .int .i64 0] 50)).drew).cell? ((⟨wr.heap.size + 1 + 1, 0, none⟩ : Addr).add j) = some u) := Lib.hid (by
            rw [show cellsT t x = [Value.int .i64 (x.1 : Int), .int .i64 ((valO (t.extract x.2.1 (x.2.1 + x.2.2))).getD 0), .string (t.extract x.2.1 (x.2.1 + x.2.2)), .int .i64 (x.2.1 : Int), .int .i64 0] by unfold cellsT; rw [hN.out]; rfl]
            exact tok_newB ((wr.alloc (.cells #[.int .i64 (x.1 : Int), .int .i64 (x.2.1 : Int), .int .i64 (x.2.2 : Int)] 124)).alloc (.cells #[.int .i64 (x.1 : Int), .int .i64 ((valO (t.extract x.2.1 (x.2.1 + x.2.2))).getD 0), .string (t.extract x.2.1 (x.2.1 + x.2.2)), .int .i64 (x.2.1 : Int), .int .i64 0] 50)) (wr.heap.size + 1 + 1) x.1 x.2.1 ((valO (t.extract x.2.1 (x.2.1 + x.2.2))).getD 0) (t.extract x.2.1 (x.2.1 + x.2.2)) (by simp))
          have HR3 : Hid (((((wr.alloc (.cells #[.int .i64 (x.1 : Int), .int .i64 (x.2.1 : Int), .int .i64 (x.2.2 : Int)] 124)).alloc (.cells #[.int .i64 (x.1 : Int), .int .i64 ((valO (t.extract x.2.1 (x.2.1 + x.2.2))).getD 0), .string (t.extract x.2.1 (x.2.1 + x.2.2)), .int .i64 (x.2.1 : Int), .int .i64 0] 50)).alloc (.cells #[.int .i64 (x.1 : Int), .int .i64 ((valO (t.extract x.2.1 (x.2.1 + x.2.2))).getD 0), .string (t.extract x.2.1 (x.2.1 + x.2.2)), .int .i64 (x.2.1 : Int), .int .i64 0] 50)).drew).ownsRow (w1.heap.size + 1) 50 5 u4 ((L.take k).filter fun x => isTok x.1).length (flatT t ((L.take k).filter fun x => isTok x.1))) := Lib.hid (row_same (((HRO.out.alloc _).alloc _).alloc _) (fun _ _ _ => rfl))
          have hfl : ((L.take k).filter fun x => isTok x.1).length ≤ 20000 := Nat.le_trans (List.length_filter_le _ _) (by rw [List.length_take]; omega)
          go_wp2_with (at_builtin; (refine wpList_append_own _ rfl _ _ 22 rfl (w1.heap.size + 1) 50 i0 (.agg #[.int .i64 0, .int .i64 0, .string ⟨#[]⟩, .int .i64 0, .int .i64 0]) 5 48 Tryz.underlying22 hi0 hz0 hz1' hz2' rfl (by decide) _ _ _ rfl HR3.out ⟨wr.heap.size + 1 + 1, 0, none⟩ 1 1 (cellsT t x) rfl rfl HNEW.out (by simp [cellsT, Value.oneCell']) (by unfold maxLen; omega) (by omega) (by simp; omega) ?_); intro v' w4 hown' hgrow _; have HOWN := Lib.hid hown'; have HG := Lib.hid hgrow; clear hown' hgrow)
          refine ⟨⟨k + 1, hlt, by simp, Lib.hid ?_, Lib.hid ?_⟩, by simp only [intOf]; omega⟩
          · rw [HF.out, flatT_snoc, List.length_append]; exact HOWN.out
          · exact Below.grown ((((HBE.out.alloc hzr _).alloc (by simp; omega) _).alloc (by simp; omega) _).drew) HG.out (by simp; omega) (fun j hj => (HRO.out.lt j hj).1)
        · have hk' : ((x.1 : Int) == 2) = false := by rw [beq_eq_false_iff_ne]; omega
          have hN : Hid (numT t x = 0) := Lib.hid (by simp [numT, h2])
          clear HN h2 htk
          go_wp2_with fail
          go_region_held3 (fun w' => w'.cell? ⟨wr.heap.size, 0, none⟩ = some (.int .i64 (x.1 : Int)) ∧ w'.cell? ⟨wr.heap.size, 1, none⟩ = some (.int .i64 (x.2.1 : Int)) ∧ w'.cell? ⟨wr.heap.size, 2, none⟩ = some (.int .i64 (x.2.2 : Int))) (go_keep) (fail)
          have HNEW : Hid (∀ j u, (cellsT t x)[j]? = some u → ((((wr.alloc (.cells #[.int .i64 (x.1 : Int), .int .i64 (x.2.1 : Int), .int .i64 (x.2.2 : Int)] 124)).alloc (.cells #[.int .i64 (x.1 : Int), .int .i64 (0), .string (t.extract x.2.1 (x.2.1 + x.2.2)), .int .i64 (x.2.1 : Int), .int .i64 0] 50)).alloc (.cells #[.int .i64 (x.1 : Int), .int .i64 (0), .string (t.extract x.2.1 (x.2.1 + x.2.2)), .int .i64 (x.2.1 : Int), .int .i64 0] 50)).drew).cell? ((⟨wr.heap.size + 1 + 1, 0, none⟩ : Addr).add j) = some u) := Lib.hid (by
            rw [show cellsT t x = [Value.int .i64 (x.1 : Int), .int .i64 (0), .string (t.extract x.2.1 (x.2.1 + x.2.2)), .int .i64 (x.2.1 : Int), .int .i64 0] by unfold cellsT; rw [hN.out]; rfl]
            exact tok_newB ((wr.alloc (.cells #[.int .i64 (x.1 : Int), .int .i64 (x.2.1 : Int), .int .i64 (x.2.2 : Int)] 124)).alloc (.cells #[.int .i64 (x.1 : Int), .int .i64 (0), .string (t.extract x.2.1 (x.2.1 + x.2.2)), .int .i64 (x.2.1 : Int), .int .i64 0] 50)) (wr.heap.size + 1 + 1) x.1 x.2.1 (0) (t.extract x.2.1 (x.2.1 + x.2.2)) (by simp))
          have HR3 : Hid (((((wr.alloc (.cells #[.int .i64 (x.1 : Int), .int .i64 (x.2.1 : Int), .int .i64 (x.2.2 : Int)] 124)).alloc (.cells #[.int .i64 (x.1 : Int), .int .i64 (0), .string (t.extract x.2.1 (x.2.1 + x.2.2)), .int .i64 (x.2.1 : Int), .int .i64 0] 50)).alloc (.cells #[.int .i64 (x.1 : Int), .int .i64 (0), .string (t.extract x.2.1 (x.2.1 + x.2.2)), .int .i64 (x.2.1 : Int), .int .i64 0] 50)).drew).ownsRow (w1.heap.size + 1) 50 5 u4 ((L.take k).filter fun x => isTok x.1).length (flatT t ((L.take k).filter fun x => isTok x.1))) := Lib.hid (row_same (((HRO.out.alloc _).alloc _).alloc _) (fun _ _ _ => rfl))
          have hfl : ((L.take k).filter fun x => isTok x.1).length ≤ 20000 := Nat.le_trans (List.length_filter_le _ _) (by rw [List.length_take]; omega)
          go_wp2_with (at_builtin; (refine wpList_append_own _ rfl _ _ 22 rfl (w1.heap.size + 1) 50 i0 (.agg #[.int .i64 0, .int .i64 0, .string ⟨#[]⟩, .int .i64 0, .int .i64 0]) 5 48 Tryz.underlying22 hi0 hz0 hz1' hz2' rfl (by decide) _ _ _ rfl HR3.out ⟨wr.heap.size + 1 + 1, 0, none⟩ 1 1 (cellsT t x) rfl rfl HNEW.out (by simp [cellsT, Value.oneCell']) (by unfold maxLen; omega) (by omega) (by simp; omega) ?_); intro v' w4 hown' hgrow _; have HOWN := Lib.hid hown'; have HG := Lib.hid hgrow; clear hown' hgrow)
          refine ⟨⟨k + 1, hlt, by simp, Lib.hid ?_, Lib.hid ?_⟩, by simp only [intOf]; omega⟩
          · rw [HF.out, flatT_snoc, List.length_append]; exact HOWN.out
          · exact Below.grown ((((HBE.out.alloc hzr _).alloc (by simp; omega) _).alloc (by simp; omega) _).drew) HG.out (by simp; omega) (fun j hj => (HRO.out.lt j hj).1)
    · have hkl : k = L.length := by omega
      subst hkl
      have hlt' : ((L.length : Int) < (L.length : Int)) = False := by simp
      have HRO' := HRO.out
      rw [List.take_length] at HRO'
      obtain ⟨b1, n1, c1, rfl⟩ := row_slice HRO'
      have hBr : Below (w.heap.size + 1) (w.alloc (.cells #[.slice none 0 0, .int .i64 0, .int .i64 0] 88)) wr := (HB1.out.alloc (by simpa using hz1) _).trans (HBE.out.mono (by omega))
      have r0 := (res_at hBr (j := 0) rfl).1
      have r1 := (res_at hBr (j := 1) rfl).1
      have r2 := (res_at hBr (j := 2) rfl).1
      have f0 := (res_at hBr (j := 0) rfl).2
      have f1 := (res_at hBr (j := 1) rfl).2
      have f2 := (res_at hBr (j := 2) rfl).2
      have HR' := Lib.hid HRO'; have HBR := Lib.hid hBr
      clear HRO' hBr HN
      go_wp2_with fail
      refine bodyPost_ret (v := .agg #[.slice b1 n1 c1, .int .i64 0, .int .i64 0]) (by simp [results, Tryz.results60, go_sem, *]) rfl ?_
      rw [HR.out]
      refine ⟨_, by rw [HAT.out, HEZ.out]; rfl, ?_, ?_⟩
      · rw [HTK.out]; exact row_base (ownsRow_setCell_below (ownsRow_setCell_below (ownsRow_setCell_below HR'.out (by simp; omega) _) (by simp; omega) _) (by simp; omega) _) (by omega)
      · exact (((res_below HBR.out).setCell (p := ⟨w.heap.size, 0, none⟩) (Nat.le_refl _) _).setCell (p := ⟨w.heap.size, 1, none⟩) (Nat.le_refl _) _).setCell (p := ⟨w.heap.size, 2, none⟩) (Nat.le_refl _) _

theorem rScan_any (t : ByteArray) (w : World) : Calls Tryz.prog 60 #[.string t] w (RScanEnd t w) := by
  by_cases he : (piecesR t).2.2 = 0
  · exact rScan_ok t he w
  · exact rScan_bad t he w
end

end Go.Proofs.YtafncodigpjkaaaGreatDoor
