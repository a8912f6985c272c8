/-
  What is wrong with a token.
-/
import Derived.Test.YtledmagigkpbeaaDoorS
import Derived.Test.YtledmagigkpbeaaDoorV
import Derived.Deep.RegionWith
namespace Go.Proofs.YtledmagigkpbeaaDoor
open Go.RowKit

set_option maxHeartbeats 4000000 in
set_option maxRecDepth 100000 in
theorem fault_num (b i n l : Nat) (t : ByteArray) (op : Bool) (w : World) (E : Env w) (hb0 : b < w.heap.size) (hi : i + l ≤ t.size) (ht : t.size ≤ 1048576) (h : IsCut b i t op n w) :
    Calls Tryd.prog 49 #[.pointer (some ⟨b, 0, none⟩), .agg #[.int .i64 2, .int .i64 (i : Int), .int .i64 (l : Int)]] w fun e w' => e = .returned (.int .i64 (faultN t i 2 l : Int)) ∧ Below w.heap.size w w' := by
  have ha := fun (o : Obj) (q : Nat) => ahead_q b i l t ((w.alloc o).drewN q) (by omega) (by omega) (h.below hb0 ((Below.refl _ w).alloc (Nat.le_refl _) o)).text (h.below hb0 ((Below.refl _ w).alloc (Nat.le_refl _) o)).at'
  have hp := fun W (hB : Below w.heap.size w W) => piece_any b 2 i l t W (by have := hB.size; omega) hi (by omega) (h.below hb0 hB).text
  have hv := fun W (hB : Below w.heap.size w W) => value_any (cutB t i l) (by simp [cutB]; omega) W (E.below E.size hB)
  have hs := fun W => spoils_any (aheadB t (i + l)) W
  have Ha := Lib.hid ha; have Hp := Lib.hid hp; have Hv := Lib.hid hv; have Hs := Lib.hid hs
  have HN := Lib.hid (faultN.eq_1 t i 2 l)
  clear ha hp hv hs h E hi ht
  go_enter Tryd.func49, Tryd.ntmps49
  go_wp2_with fail
  go_quiet ((go_at_call 46; exact Calls.quiet_of (Ha.out _ _)))
  go_wp2_with fail
  go_region_with (first
    | (go_at_call 62; refine (Hp.out _ ?_).mono ?_; exact below_drewN ((Below.refl _ w).alloc (Nat.le_refl _) _) _; rintro e w1 ⟨rfl, hb1⟩)
    | (go_at_call 25; refine (Hv.out _ ?_).mono ?_; exact (below_drewN ((Below.refl _ w).alloc (Nat.le_refl _) _) _).trans (hb1.mono (by simp)); rintro e w2 ⟨rfl, hb2⟩))
  have hB2 : Below w.heap.size w w2 := ((below_drewN ((Below.refl _ w).alloc (Nat.le_refl _) _) _).trans (hb1.mono (by simp))).trans (hb2.mono (by have := hb1.size; simp at this; omega))
  have HB2 := Lib.hid hB2
  clear hb1 hb2 hB2 Hp Hv Ha
  cases hok : (valO (cutB t i l)).isSome
  · rw [hok] at HN
    go_wp2_with fail
    go_ret
    exact ⟨ret_int (by rw [HN.out]; rfl), HB2.out⟩
  · rw [hok] at HN
    cases hsp : bSpoils (aheadB t (i + l))
    all_goals
      rw [hsp] at HN Hs
      go_wp2_with (go_at_call 63; refine (Hs.out _).mono ?_; rintro e w3 ⟨rfl, hb3⟩)
      go_ret
      exact ⟨ret_int (by rw [HN.out]; rfl), HB2.out.trans (hb3.mono HB2.out.size)⟩

/- GEN -/
set_option maxHeartbeats 4000000 in
set_option maxRecDepth 100000 in
theorem fault_sign (b i n l : Nat) (t : ByteArray) (op : Bool) (w : World) (hb0 : b < w.heap.size) (hi : i + l ≤ t.size) (ht : t.size ≤ 1048576) (h : IsCut b i t op n w) :
    Calls Tryd.prog 49 #[.pointer (some ⟨b, 0, none⟩), .agg #[.int .i64 5, .int .i64 (i : Int), .int .i64 (l : Int)]] w fun e w' => e = .returned (.int .i64 (faultN t i 5 l : Int)) ∧ Below w.heap.size w w' := by
  have ha := fun (o : Obj) (q : Nat) => ahead_q b i l t ((w.alloc o).drewN q) (by omega) (by omega) (h.below hb0 ((Below.refl _ w).alloc (Nat.le_refl _) o)).text (h.below hb0 ((Below.refl _ w).alloc (Nat.le_refl _) o)).at'
  have HN := Lib.hid (faultN.eq_1 t i 5 l)
  have Ha := Lib.hid ha
  clear ha h hi ht
  go_enter Tryd.func49, Tryd.ntmps49
  go_wp2_with fail
  go_quiet ((go_at_call 46; exact Calls.quiet_of (Ha.out _ _)))
  go_wp2_with fail
  go_ret
  exact ⟨ret_int (by rw [HN.out]; rfl), (below_drewN ((Below.refl _ w).alloc (Nat.le_refl _) _) _)⟩

set_option maxHeartbeats 4000000 in
set_option maxRecDepth 100000 in
theorem fault_name (b i n l : Nat) (t : ByteArray) (op : Bool) (w : World) (hb0 : b < w.heap.size) (hi : i + l ≤ t.size) (ht : t.size ≤ 1048576) (h : IsCut b i t op n w) :
    Calls Tryd.prog 49 #[.pointer (some ⟨b, 0, none⟩), .agg #[.int .i64 1, .int .i64 (i : Int), .int .i64 (l : Int)]] w fun e w' => e = .returned (.int .i64 (faultN t i 1 l : Int)) ∧ Below w.heap.size w w' := by
  have ha := fun (o : Obj) (q : Nat) => ahead_q b i l t ((w.alloc o).drewN q) (by omega) (by omega) (h.below hb0 ((Below.refl _ w).alloc (Nat.le_refl _) o)).text (h.below hb0 ((Below.refl _ w).alloc (Nat.le_refl _) o)).at'
  have HN := Lib.hid (faultN.eq_1 t i 1 l)
  have Ha := Lib.hid ha
  clear ha h hi ht
  by_cases hl : 40 < l
  · have hl' : (40 : Int) < (l : Int) := by omega
    have HL := Lib.hid hl; clear hl
    go_enter Tryd.func49, Tryd.ntmps49
    go_wp2_with fail
    go_quiet ((go_at_call 46; exact Calls.quiet_of (Ha.out _ _)))
    go_wp2_with fail
    go_ret
    exact ⟨ret_int (by rw [HN.out]; simp [HL.out]), (below_drewN ((Below.refl _ w).alloc (Nat.le_refl _) _) _)⟩
  · have hl' : ¬ (40 : Int) < (l : Int) := by omega
    have HL := Lib.hid hl; clear hl
    go_enter Tryd.func49, Tryd.ntmps49
    go_wp2_with fail
    go_quiet ((go_at_call 46; exact Calls.quiet_of (Ha.out _ _)))
    go_wp2_with fail
    go_ret
    exact ⟨ret_int (by rw [HN.out]; simp [HL.out]), (below_drewN ((Below.refl _ w).alloc (Nat.le_refl _) _) _)⟩

set_option maxHeartbeats 4000000 in
set_option maxRecDepth 100000 in
theorem fault_key (b i n l : Nat) (t : ByteArray) (op : Bool) (w : World) (hb0 : b < w.heap.size) (hi : i + l ≤ t.size) (ht : t.size ≤ 1048576) (h : IsCut b i t op n w) :
    Calls Tryd.prog 49 #[.pointer (some ⟨b, 0, none⟩), .agg #[.int .i64 3, .int .i64 (i : Int), .int .i64 (l : Int)]] w fun e w' => e = .returned (.int .i64 (faultN t i 3 l : Int)) ∧ Below w.heap.size w w' := by
  have ha := fun (o : Obj) (q : Nat) => ahead_q b i l t ((w.alloc o).drewN q) (by omega) (by omega) (h.below hb0 ((Below.refl _ w).alloc (Nat.le_refl _) o)).text (h.below hb0 ((Below.refl _ w).alloc (Nat.le_refl _) o)).at'
  have HN := Lib.hid (faultN.eq_1 t i 3 l)
  have Ha := Lib.hid ha
  clear ha h hi ht
  by_cases hl : 40 < l
  · have hl' : (40 : Int) < (l : Int) := by omega
    have HL := Lib.hid hl; clear hl
    go_enter Tryd.func49, Tryd.ntmps49
    go_wp2_with fail
    go_quiet ((go_at_call 46; exact Calls.quiet_of (Ha.out _ _)))
    go_wp2_with fail
    go_ret
    exact ⟨ret_int (by rw [HN.out]; simp [HL.out]), (below_drewN ((Below.refl _ w).alloc (Nat.le_refl _) _) _)⟩
  · have hl' : ¬ (40 : Int) < (l : Int) := by omega
    have HL := Lib.hid hl; clear hl
    go_enter Tryd.func49, Tryd.ntmps49
    go_wp2_with fail
    go_quiet ((go_at_call 46; exact Calls.quiet_of (Ha.out _ _)))
    go_wp2_with fail
    go_ret
    exact ⟨ret_int (by rw [HN.out]; simp [HL.out]), (below_drewN ((Below.refl _ w).alloc (Nat.le_refl _) _) _)⟩

set_option maxHeartbeats 4000000 in
set_option maxRecDepth 100000 in
theorem fault_pat (b i n l : Nat) (t : ByteArray) (op : Bool) (w : World) (hb0 : b < w.heap.size) (hi : i + l ≤ t.size) (ht : t.size ≤ 1048576) (h : IsCut b i t op n w) :
    Calls Tryd.prog 49 #[.pointer (some ⟨b, 0, none⟩), .agg #[.int .i64 6, .int .i64 (i : Int), .int .i64 (l : Int)]] w fun e w' => e = .returned (.int .i64 (faultN t i 6 l : Int)) ∧ Below w.heap.size w w' := by
  have ha := fun (o : Obj) (q : Nat) => ahead_q b i l t ((w.alloc o).drewN q) (by omega) (by omega) (h.below hb0 ((Below.refl _ w).alloc (Nat.le_refl _) o)).text (h.below hb0 ((Below.refl _ w).alloc (Nat.le_refl _) o)).at'
  have HN := Lib.hid (faultN.eq_1 t i 6 l)
  have Ha := Lib.hid ha
  clear ha h hi ht
  by_cases hl : 40 < l
  · have hl' : (40 : Int) < (l : Int) := by omega
    have HL := Lib.hid hl; clear hl
    go_enter Tryd.func49, Tryd.ntmps49
    go_wp2_with fail
    go_quiet ((go_at_call 46; exact Calls.quiet_of (Ha.out _ _)))
    go_wp2_with fail
    go_ret
    exact ⟨ret_int (by rw [HN.out]; simp [HL.out]), (below_drewN ((Below.refl _ w).alloc (Nat.le_refl _) _) _)⟩
  · have hl' : ¬ (40 : Int) < (l : Int) := by omega
    have HL := Lib.hid hl; clear hl
    go_enter Tryd.func49, Tryd.ntmps49
    go_wp2_with fail
    go_quiet ((go_at_call 46; exact Calls.quiet_of (Ha.out _ _)))
    go_wp2_with fail
    go_ret
    exact ⟨ret_int (by rw [HN.out]; simp [HL.out]), (below_drewN ((Below.refl _ w).alloc (Nat.le_refl _) _) _)⟩

set_option maxHeartbeats 4000000 in
set_option maxRecDepth 100000 in
theorem fault_hash (b i n l : Nat) (t : ByteArray) (op : Bool) (w : World) (hb0 : b < w.heap.size) (hi : i + l ≤ t.size) (ht : t.size ≤ 1048576) (h : IsCut b i t op n w) :
    Calls Tryd.prog 49 #[.pointer (some ⟨b, 0, none⟩), .agg #[.int .i64 4, .int .i64 (i : Int), .int .i64 (l : Int)]] w fun e w' => e = .returned (.int .i64 (faultN t i 4 l : Int)) ∧ Below w.heap.size w w' := by
  have ha := fun (o : Obj) (q : Nat) => ahead_q b i l t ((w.alloc o).drewN q) (by omega) (by omega) (h.below hb0 ((Below.refl _ w).alloc (Nat.le_refl _) o)).text (h.below hb0 ((Below.refl _ w).alloc (Nat.le_refl _) o)).at'
  have hs := fun W => classesOf_any (aheadB t (i + l)) W
  have Hs := Lib.hid hs; clear hs
  have hx := cls2
  have HN := Lib.hid (faultN.eq_1 t i 4 l)
  have Ha := Lib.hid ha
  clear ha h hi ht
  cases hW : bW (aheadB t (i + l))
  all_goals
    rw [hW] at HN Hs
    go_enter Tryd.func49, Tryd.ntmps49
    go_wp2_with fail
    go_quiet ((go_at_call 46; exact Calls.quiet_of (Ha.out _ _)))
    go_wp2_with (go_at_call 64; refine (Hs.out _).mono ?_; rintro e w3 ⟨rfl, hb3⟩)
    go_ret
    exact ⟨ret_int (by rw [HN.out]; rfl), (below_drewN ((Below.refl _ w).alloc (Nat.le_refl _) _) _).trans (hb3.mono (by simp))⟩

set_option maxHeartbeats 4000000 in
set_option maxRecDepth 100000 in
theorem fault_none (b i n l : Nat) (t : ByteArray) (op : Bool) (w : World) (hb0 : b < w.heap.size) (hi : i + l ≤ t.size) (ht : t.size ≤ 1048576) (h : IsCut b i t op n w) :
    Calls Tryd.prog 49 #[.pointer (some ⟨b, 0, none⟩), .agg #[.int .i64 0, .int .i64 (i : Int), .int .i64 (l : Int)]] w fun e w' => e = .returned (.int .i64 (faultN t i 0 l : Int)) ∧ Below w.heap.size w w' := by
  have ha := fun (o : Obj) (q : Nat) => ahead_q b i l t ((w.alloc o).drewN q) (by omega) (by omega) (h.below hb0 ((Below.refl _ w).alloc (Nat.le_refl _) o)).text (h.below hb0 ((Below.refl _ w).alloc (Nat.le_refl _) o)).at'
  have h2 := fun W (hB : Below w.heap.size w W) => ahead0_q b i t W (by omega) (h.below hb0 hB).text (h.below hb0 hB).at'
  have H2 := Lib.hid h2; clear h2
  have HN := Lib.hid (faultN.eq_1 t i 0 l)
  have Ha := Lib.hid ha
  clear ha h hi ht
  by_cases hc : aheadB t i = 35
  · have hc' : ((aheadB t i).toNat : Int) == 35 := by rw [hc]; rfl
    have HC := Lib.hid hc; clear hc
    go_enter Tryd.func49, Tryd.ntmps49
    go_wp2_with fail
    go_quiet ((go_at_call 46; exact Calls.quiet_of (Ha.out _ _)))
    go_wp2_with (go_at_call 46; refine (H2.out _ (below_drewN ((Below.refl _ w).alloc (Nat.le_refl _) _) _)).mono ?_; rintro e w3 ⟨rfl, q, rfl⟩)
    go_ret
    exact ⟨ret_int (by rw [HN.out]; simp [HC.out]), (below_drewN ((Below.refl _ w).alloc (Nat.le_refl _) _) _)⟩
  · have hc' : (((aheadB t i).toNat : Int) == 35) = false := by
      rw [beq_eq_false_iff_ne]; intro hh; apply hc
      exact UInt8.toNat_inj.1 (by show (aheadB t i).toNat = 35; omega)
    have HC := Lib.hid hc; clear hc
    go_enter Tryd.func49, Tryd.ntmps49
    go_wp2_with fail
    go_quiet ((go_at_call 46; exact Calls.quiet_of (Ha.out _ _)))
    go_wp2_with (go_at_call 46; refine (H2.out _ (below_drewN ((Below.refl _ w).alloc (Nat.le_refl _) _) _)).mono ?_; rintro e w3 ⟨rfl, q, rfl⟩)
    go_ret
    exact ⟨ret_int (by rw [HN.out]; simp [HC.out]), (below_drewN ((Below.refl _ w).alloc (Nat.le_refl _) _) _)⟩

theorem fault_any (b i n k l : Nat) (t : ByteArray) (op : Bool) (w : World) (E : Env w) (hb0 : b < w.heap.size) (hk : k ≤ 6) (hi : i + l ≤ t.size) (ht : t.size ≤ 1048576) (h : IsCut b i t op n w) :
    Calls Tryd.prog 49 #[.pointer (some ⟨b, 0, none⟩), .agg #[.int .i64 (k : Int), .int .i64 (i : Int), .int .i64 (l : Int)]] w fun e w' => e = .returned (.int .i64 (faultN t i k l : Int)) ∧ Below w.heap.size w w' := by
  have hcs : k = 0 ∨ k = 1 ∨ k = 2 ∨ k = 3 ∨ k = 4 ∨ k = 5 ∨ k = 6 := by omega
  rcases hcs with rfl | rfl | rfl | rfl | rfl | rfl | rfl
  · exact fault_none b i n l t op w hb0 hi ht h
  · exact fault_name b i n l t op w hb0 hi ht h
  · exact fault_num b i n l t op w E hb0 hi ht h
  · exact fault_key b i n l t op w hb0 hi ht h
  · exact fault_hash b i n l t op w hb0 hi ht h
  · exact fault_sign b i n l t op w hb0 hi ht h
  · exact fault_pat b i n l t op w hb0 hi ht h
end Go.Proofs.YtledmagigkpbeaaDoor
