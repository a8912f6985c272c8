/-
  The plain functions of nested comments and of the rules; nothing of a program is imported here.
-/
import Derived.Test.YtledmagigkpbeaaDoorMath
import Derived.Lib.Strings
namespace Go.Proofs.YtledmagigkpbeaaDoor

/-- A comment that may have others within it, from the place i on, m being open: its end, or the error's number. -/
def nestedGo (s : ByteArray) (i : Nat) (m : Int) : Except Nat Nat :=
  if h : i < s.size then
    if (s.extract i (min (i + 2) s.size)).toList == [47, 42] then (if 100 < m + 1 then .error 6 else nestedGo s (i + 2) (m + 1))
    else if (s.extract i (min (i + 2) s.size)).toList == [42, 47] then (if m - 1 == 0 then .ok (i + 2) else nestedGo s (i + 2) (m - 1))
    else nestedGo s (i + 1) m
  else .error 13
termination_by s.size - i
theorem nested_end {s : ByteArray} {i : Nat} {m : Int} (h : ¬ i < s.size) : nestedGo s i m = .error 13 := by rw [nestedGo]; simp [h]
theorem nested_deep {s : ByteArray} {i : Nat} {m : Int} (h : i < s.size) (h1 : ((s.extract i (min (i + 2) s.size)).toList == [47, 42]) = true) (h2 : 100 < m + 1) : nestedGo s i m = .error 6 := by rw [nestedGo]; simp [h, h1, h2]
theorem nested_open {s : ByteArray} {i : Nat} {m : Int} (h : i < s.size) (h1 : ((s.extract i (min (i + 2) s.size)).toList == [47, 42]) = true) (h2 : ¬ 100 < m + 1) : nestedGo s i m = nestedGo s (i + 2) (m + 1) := by
  rw [nestedGo]; simp only [h, h1, h2, dite_true, if_true, if_false]
theorem nested_shut {s : ByteArray} {i : Nat} {m : Int} (h : i < s.size) (h1 : ((s.extract i (min (i + 2) s.size)).toList == [47, 42]) = false) (h3 : ((s.extract i (min (i + 2) s.size)).toList == [42, 47]) = true) (h2 : (m - 1 == 0) = true) : nestedGo s i m = .ok (i + 2) := by
  rw [nestedGo]; simp only [h, h1, h2, h3, dite_true, if_true, Bool.false_eq_true, if_false]
theorem nested_less {s : ByteArray} {i : Nat} {m : Int} (h : i < s.size) (h1 : ((s.extract i (min (i + 2) s.size)).toList == [47, 42]) = false) (h3 : ((s.extract i (min (i + 2) s.size)).toList == [42, 47]) = true) (h2 : (m - 1 == 0) = false) : nestedGo s i m = nestedGo s (i + 2) (m - 1) := by
  rw [nestedGo]; simp only [h, h1, h2, h3, dite_true, if_true, Bool.false_eq_true, if_false]
theorem nested_on {s : ByteArray} {i : Nat} {m : Int} (h : i < s.size) (h1 : ((s.extract i (min (i + 2) s.size)).toList == [47, 42]) = false) (h3 : ((s.extract i (min (i + 2) s.size)).toList == [42, 47]) = false) : nestedGo s i m = nestedGo s (i + 1) m := by
  rw [nestedGo]; simp only [h, h1, h3, dite_true, Bool.false_eq_true, if_false]
theorem two_short {s : ByteArray} {i : Nat} (h : s.size ≤ i + 1) (x y : UInt8) : ((s.extract i s.size).toList == [x, y]) = false := by
  rw [ByteArray.toList_eq]
  apply beq_eq_false_iff_ne.2
  intro e
  have := congrArg List.length e
  simp at this
  omega
theorem rest_size (t : ByteArray) (i : Nat) : (restB t i).size = t.size - i := by simp [restB]

def hashN (r : ByteArray) : Nat := if Lib.hasPrefix r.data.toList [35, 116] || Lib.hasPrefix r.data.toList [35, 102] then 2 else 0
def nameN (s : ByteArray) : Nat := if plainN s = 0 then 0 else plainN s + libN (s.extract (plainN s) s.size)
def intN (s : ByteArray) (c : UInt8) (op : Bool) : Nat :=
  if c == 45 && !op then (if runN bD (s.extract 1 s.size) 0 = 0 then 0 else 1 + runN bD (s.extract 1 s.size) 0) else runN bD (s.extract 0 s.size) 0
def keyN (t : ByteArray) (i : Nat) (s : ByteArray) : Nat :=
  if plainN s = 0 then 0 else if aheadB s (plainN s) = 58 then (if joinsB (aheadB t (i + (plainN s + 1))) then 0 else plainN s + 1) else 0
def signTwo (x : List UInt8) : Bool := x == [58, 61] || x == [58, 58] || x == [61, 62] || x == [61, 61] || x == [60, 61] || x == [62, 61]
def signOne (c : UInt8) : Bool :=
  ((c.toNat : Int) == 40) || ((c.toNat : Int) == 41) || ((c.toNat : Int) == 91) || ((c.toNat : Int) == 93) || ((c.toNat : Int) == 123) || ((c.toNat : Int) == 125) ||
  ((c.toNat : Int) == 44) || ((c.toNat : Int) == 59) || ((c.toNat : Int) == 46) || ((c.toNat : Int) == 61) || ((c.toNat : Int) == 60) || ((c.toNat : Int) == 62) ||
  ((c.toNat : Int) == 43) || ((c.toNat : Int) == 45) || ((c.toNat : Int) == 42) || ((c.toNat : Int) == 47) || ((c.toNat : Int) == 38) || ((c.toNat : Int) == 124) ||
  ((c.toNat : Int) == 126) || ((c.toNat : Int) == 63)
def signN (s : ByteArray) : Nat := if signTwo (s.extract 0 (min 2 s.size)).toList then 2 else if signOne (aheadB s 0) then 1 else 0
def patN (t : ByteArray) (i : Nat) (s : ByteArray) : Nat :=
  if aheadB s 0 = 63 then
    if plainN (s.extract 1 s.size) = 0 then 0
    else if aheadB s (plainN (s.extract 1 s.size) + 1) = 58 then
      if joinsB (aheadB t (i + (plainN (s.extract 1 s.size) + 1 + 1))) then plainN (s.extract 1 s.size) + 1
      else if 0 < plainN (s.extract (plainN (s.extract 1 s.size) + 1 + 1) s.size) then plainN (s.extract 1 s.size) + 1 + 1 + plainN (s.extract (plainN (s.extract 1 s.size) + 1 + 1) s.size) else plainN (s.extract 1 s.size) + 1
    else plainN (s.extract 1 s.size) + 1
  else 0
theorem libN_le (s : ByteArray) : libN s ≤ s.size := by
  unfold libN
  split
  · split
    · split
      · exact (runN_le _ _ _ (by omega)).2
      · omega
    · omega
  · omega
theorem nameN_le (s : ByteArray) : nameN s ≤ s.size := by
  unfold nameN
  split
  · omega
  · have h1 := plainN_le s
    have h2 := libN_le (s.extract (plainN s) s.size)
    simp at h2; omega
/-- How many bytes the k-th rule takes. -/
def ruleN (t : ByteArray) (i : Nat) (op : Bool) : Nat → Nat
  | 0 => nameN (winB t i)
  | 1 => intN (winB t i) (aheadB t i) op
  | 2 => keyN t i (winB t i)
  | 3 => hashN (restB t i)
  | 4 => signN (winB t i)
  | _ => patN t i (winB t i)
/-- The best of the first k rules: its kind and its length. -/
def bestTo (n : Nat → Nat) : Nat → Nat × Nat
  | 0 => (0, 0)
  | k + 1 => if (bestTo n k).2 < n k then (k + 1, n k) else bestTo n k

end Go.Proofs.YtledmagigkpbeaaDoor
