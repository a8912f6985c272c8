/-
  Names, their parts, and numbers.
-/
import Derived.Test.YtledmagigkpbeaaDoorK
namespace Go.Proofs.YtledmagigkpbeaaDoor
open Go.RowKit

def isNameB (s : ByteArray) : Bool := ((kindN s : Int) == 1)
def isPlainB (s : ByteArray) : Bool := isNameB s && decide (Lib.indexByte s.data.toList 64 < 0)

theorem isName_any (s : ByteArray) (hs : s.size ≤ 1048576) (w : World) (E : Env w) :
    Calls Tryd.prog 37 #[.string s] w fun e w' => e = .returned (.bool (isNameB s)) ∧ Below w.heap.size w w' := by
  have hk := kind_any s hs w E
  have HK := Lib.hid hk
  clear hk
  go_enter Tryd.func37, Tryd.ntmps37
  go_wp2_with fail
  refine HK.out.mono ?_
  rintro e w1 ⟨rfl, hb⟩
  go_wp2_with fail
  go_ret
  exact ⟨rfl, hb⟩

theorem isPlain_any (s : ByteArray) (hs : s.size ≤ 1048576) (w : World) (E : Env w) :
    Calls Tryd.prog 23 #[.string s] w fun e w' => e = .returned (.bool (isPlainB s)) ∧ Below w.heap.size w w' := by
  have hk := isName_any s hs w E
  have hP : isPlainB s = (isNameB s && decide (Lib.indexByte s.data.toList 64 < 0)) := rfl
  have HP := Lib.hid hP
  clear hP
  cases hn : isNameB s
  all_goals
    rw [hn] at hk HP
    have HK := Lib.hid hk
    clear hk
    go_enter Tryd.func23, Tryd.ntmps23
    go_wp2_with (first | (go_at_call 37; refine HK.out.mono ?_; rintro e w1 ⟨rfl, hb⟩) | (go_at_call 39; refine (idx_any _ (64 : UInt8) _).mono ?_; rintro e w2 ⟨rfl, rfl⟩))
    go_ret
    exact ⟨by rw [HP.out]; rfl, hb⟩

def numberR (s : ByteArray) : Int × Int := if kindN s = 2 then ((valO s).getD 0, 0) else (0, 11)
theorem number_any (s : ByteArray) (hs : s.size ≤ 1048576) (w : World) (E : Env w) :
    Calls Tryd.prog 11 #[.string s] w fun e w' => e = .returned (.tuple #[.int .i64 (numberR s).1, .int .i64 (numberR s).2]) ∧ Below w.heap.size w w' := by
  have hk := kind_any s hs w E
  have hv := fun W (hB : Below w.heap.size w W) => value_any s hs W (E.below E.size hB)
  have HK := Lib.hid hk
  have HV := Lib.hid hv
  clear hk hv
  by_cases h2 : kindN s = 2
  · have h2' : ((kindN s : Int) != 2) = false := by rw [h2]; rfl
    have H2 : Hid (numberR s = ((valO s).getD 0, 0)) := Lib.hid (by simp [numberR, h2])
    clear h2
    go_enter Tryd.func11, Tryd.ntmps11
    go_wp2_with fail
    refine HK.out.mono ?_
    rintro e w1 ⟨rfl, hb⟩
    go_wp2_with fail
    refine (HV.out _ hb).mono ?_
    rintro e w2 ⟨rfl, hb2⟩
    go_wp2_with fail
    go_ret2
    exact ⟨by rw [H2.out]; rfl, hb.trans (hb2.mono hb.size)⟩
  · have h2' : ((kindN s : Int) != 2) = true := by rw [bne_iff_ne]; omega
    have H2 : Hid (numberR s = (0, 11)) := Lib.hid (by simp [numberR, h2])
    clear h2
    go_enter Tryd.func11, Tryd.ntmps11
    go_wp2_with fail
    refine HK.out.mono ?_
    rintro e w1 ⟨rfl, hb⟩
    go_wp2_with fail
    go_ret2
    exact ⟨by rw [H2.out]; rfl, hb⟩

/-- The parts of a name. -/
def splitB (s : ByteArray) : ByteArray × ByteArray := if isNameB s then
    (⟨(Lib.cut s.data.toList [64]).1.toArray⟩, ⟨(Lib.cut s.data.toList [64]).2.1.toArray⟩) else (s, ⟨#[]⟩)
theorem split_any (s : ByteArray) (hs : s.size ≤ 1048576) (w : World) (E : Env w) :
    Calls Tryd.prog 22 #[.string s] w fun e w' => e = .returned (.tuple #[.string (splitB s).1, .string (splitB s).2]) ∧ Below w.heap.size w w' := by
  have hk := isName_any s hs w E
  obtain ⟨m, hm⟩ := E.max
  have hc := fun W (hB : Below w.heap.size w W) => Tryd.strings_Cut s ⟨#[64]⟩ m W (by omega) ((hB.cell (p := ⟨0, 0, none⟩) (by have := E.size; simp; omega)).trans hm)
  have HC := Lib.hid hc
  clear hc hm E
  cases hn : isNameB s
  · have hP : Hid (splitB s = (s, ⟨#[]⟩)) := Lib.hid (by simp [splitB, hn])
    rw [hn] at hk
    have HK := Lib.hid hk
    clear hk
    go_enter Tryd.func22, Tryd.ntmps22
    go_wp2_with fail
    refine HK.out.mono ?_
    rintro e w1 ⟨rfl, hb⟩
    go_wp2_with fail
    go_ret2
    exact ⟨by rw [hP.out]; rfl, hb⟩
  · have hP : Hid (splitB s = (⟨(Lib.cut s.data.toList [64]).1.toArray⟩, ⟨(Lib.cut s.data.toList [64]).2.1.toArray⟩)) := Lib.hid (by simp [splitB, hn])
    rw [hn] at hk
    have HK := Lib.hid hk
    clear hk
    go_enter Tryd.func22, Tryd.ntmps22
    go_wp2_with fail
    refine HK.out.mono ?_
    rintro e w1 ⟨rfl, hb⟩
    go_wp2_with fail
    refine (HC.out _ hb).mono ?_
    rintro e w2 ⟨rfl, q, rfl⟩
    go_wp2_with fail
    go_ret2
    exact ⟨by rw [hP.out]; rfl, below_drewN hb _⟩
end Go.Proofs.YtledmagigkpbeaaDoor
