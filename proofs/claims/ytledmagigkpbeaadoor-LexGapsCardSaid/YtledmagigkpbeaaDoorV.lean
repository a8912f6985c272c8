/-
  The decimal text of an integer, and the value of digits.
-/
import Derived.Test.YtledmagigkpbeaaDoorC3
import Derived.Test.YtledmagigkpbeaaDoorMath3
import Derived.Lib.LaidTab
import Derived.WideLaws
import Derived.Lib.AtoiAll
import Derived.Lib.AtoiErrMem
namespace Go.Proofs.YtledmagigkpbeaaDoor
open Go.RowKit

/-- What the library's variables hold. -/
structure Env (w : World) : Prop where
  tab : Lib.TabIs Tryd.prog w "internal/strconv.uint64pow10" .u64 Lib.pow10Tab
  max : ∃ m : Int, w.cell? ⟨0, 0, none⟩ = some (.int .i64 m)
  syn : ∃ te pe, w.cell? ⟨2, 0, none⟩ = some (.iface te pe)
  ran : ∃ te pe, w.cell? ⟨3, 0, none⟩ = some (.iface te pe)
  size : 10 < w.heap.size

theorem Env.below {w w' : World} {B : Nat} (E : Env w) (hB : 10 < B) (h : Below B w w') : Env w' := by
  obtain ⟨m, hm⟩ := E.max
  obtain ⟨a, b, hs⟩ := E.syn
  obtain ⟨c, d, hr⟩ := E.ran
  have := h.size
  have := E.size
  exact ⟨var?_below h (g := 1) (by kernel_rfl) (by omega) E.tab, ⟨m, (h.cell (p := ⟨0, 0, none⟩) (by simp; omega)).trans hm⟩,
    ⟨a, b, (h.cell (p := ⟨2, 0, none⟩) (by simp; omega)).trans hs⟩, ⟨c, d, (h.cell (p := ⟨3, 0, none⟩) (by simp; omega)).trans hr⟩, by omega⟩

theorem below_grown (w : World) (k : Nat) (os : Array Obj) : Below w.heap.size w (Sort.grow (w.drewN k) os) := by
  refine ⟨rfl, rfl, rfl, by simp [Sort.grow], fun j hj => ?_⟩
  simp [Sort.grow, Array.getElem?_append, hj]

theorem digits_any (n : Int) (h0 : -9223372036854775808 ≤ n) (h1 : n ≤ 9223372036854775807) (w : World) (E : Env w) :
    Calls Tryd.prog 10 #[.int .i64 n] w fun e w' => e = .returned (.string ⟨(Lib.itoa n).toArray⟩) ∧ Below w.heap.size w w' := by
  have hc := Tryd.strconv_Itoa n h0 h1 w E.tab
  have Hc := Lib.hid hc
  clear hc E h0 h1
  go_enter Tryd.func10, Tryd.ntmps10
  go_wp2_with fail
  refine Hc.out.mono ?_
  rintro e w1 ⟨rfl, k, os, rfl⟩
  go_wp2_with fail
  go_ret
  exact ⟨rfl, below_grown _ _ _⟩

theorem atoi_bounds {l : List UInt8} {v : Int} (h : Lib.atoiAll l = .ok v) : -9223372036854775808 ≤ v ∧ v ≤ 9223372036854775807 := by
  unfold Lib.atoiAll at h
  split at h
  · cases h
  · simp only at h
    split at h
    · cases h
    · cases h
    · split at h
      · cases h
      · split at h
        · cases h
        · injection h with h
          split at h <;> omega

set_option maxHeartbeats 1000000 in
theorem value_any (s : ByteArray) (hs : s.size ≤ 1048576) (w : World) (E : Env w) :
    Calls Tryd.prog 25 #[.string s] w fun e w' => e = .returned (.tuple #[.int .i64 ((valO s).getD 0), .bool (valO s).isSome]) ∧ Below w.heap.size w w' := by
  obtain ⟨a, b, hsy⟩ := E.syn
  obtain ⟨c, d, hra⟩ := E.ran
  cases hv : Lib.atoiAll s.data.toList with
  | ok v =>
    obtain ⟨v0, v1⟩ := atoi_bounds hv
    have hN : valO s = if Lib.itoa v = s.data.toList then some v else none := by simp [valO, hv]
    have hc := Tryd.strconv_Atoi_ok s (by omega) v hv w
    have hd := fun W (hB : Below w.heap.size w W) => digits_any v v0 v1 W (E.below E.size hB)
    have Hc := Lib.hid hc; have Hd := Lib.hid hd; have HN := Lib.hid hN
    clear hc hd hN hsy hra hv
    go_enter Tryd.func25, Tryd.ntmps25
    go_wp2_with fail
    refine Hc.out.mono ?_
    rintro e w1 ⟨rfl, hw⟩
    have hB : Below w.heap.size w w1 := by
      rcases hw with rfl | ⟨t, rfl⟩
      · exact Below.refl _ _
      · exact Lib.bytesWorld_below _ _ _
    clear hw
    by_cases hq : Lib.itoa v = s.data.toList
    · have hq' : (!Lib.itoa v == s.toList) = false := by rw [ByteArray.toList_eq, hq]; simp
      have HV : Hid (valO s = some v) := Lib.hid (by rw [HN.out, if_pos hq])
      clear hq HN
      go_wp2_with fail
      refine (Hd.out _ hB).mono ?_
      rintro e w2 ⟨rfl, hB2⟩
      go_wp2_with fail
      go_ret2
      exact ⟨by rw [HV.out]; rfl, hB.trans (hB2.mono hB.size)⟩
    · have hq' : (!Lib.itoa v == s.toList) = true := by rw [ByteArray.toList_eq]; simp [hq]
      have HV : Hid (valO s = none) := Lib.hid (by rw [HN.out, if_neg hq])
      clear hq HN
      go_wp2_with fail
      refine (Hd.out _ hB).mono ?_
      rintro e w2 ⟨rfl, hB2⟩
      go_wp2_with fail
      go_ret2
      exact ⟨by rw [HV.out]; rfl, hB.trans (hB2.mono hB.size)⟩
  | range =>
    have HV : Hid (valO s = none) := Lib.hid (by simp [valO, hv])
    have hc := Tryd.strconv_Atoi_range s (by omega) hv _ w hra (.inr ⟨c, d, rfl⟩)
    have Hc := Lib.hid hc
    clear hc hra hsy hv
    go_enter Tryd.func25, Tryd.ntmps25
    go_wp2_with fail
    refine Hc.out.mono ?_
    rintro e w1 ⟨N, rfl, hN1, hN2, hB⟩
    clear hN1 hN2
    go_wp2_with fail
    go_ret2
    exact ⟨by rw [HV.out]; rfl, hB⟩
  | _ =>
    have HV : Hid (valO s = none) := Lib.hid (by simp [valO, hv])
    have hc := Tryd.strconv_Atoi_syntax s (by omega) hv _ w hsy (.inr ⟨a, b, rfl⟩)
    have Hc := Lib.hid hc
    clear hc hra hsy hv
    go_enter Tryd.func25, Tryd.ntmps25
    go_wp2_with fail
    refine Hc.out.mono ?_
    rintro e w1 ⟨N, rfl, hN1, hN2, hB⟩
    clear hN1 hN2
    go_wp2_with fail
    go_ret2
    exact ⟨by rw [HV.out]; rfl, hB⟩
end Go.Proofs.YtledmagigkpbeaaDoor
