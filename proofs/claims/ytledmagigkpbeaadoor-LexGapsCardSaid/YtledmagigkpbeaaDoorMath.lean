/-
  The plain functions on bytes that the lexer's code computes; nothing of a program is imported here.
-/
import Derived.Lib.Bytealg
namespace Go.Proofs.YtledmagigkpbeaaDoor

/-- The classes of bytes. -/
def bL (c : UInt8) : Bool := decide ((97 : Int) ≤ (c.toNat : Int)) && decide ((c.toNat : Int) ≤ 122)
def bD (c : UInt8) : Bool := decide ((48 : Int) ≤ (c.toNat : Int)) && decide ((c.toNat : Int) ≤ 57)
def bF (c : UInt8) : Bool := (bL c || bD c) || decide (0 ≤ Lib.indexByte [33, 36, 38, 42, 60, 62, 124, 94, 37, 95, 126, 63] c)
def bW (c : UInt8) : Bool := bF c || decide (0 ≤ Lib.indexByte [43, 45, 47, 61] c)
def bB (c : UInt8) : Bool := decide (0 ≤ Lib.indexByte [60, 36, 37, 42, 95] c)
def bQ (c : UInt8) : Bool := (bL c || bD c) || ((c.toNat : Int) == 45)
def bBlank (c : UInt8) : Bool := decide (0 ≤ Lib.indexByte [32, 9, 10, 13] c)
def bSpoils (c : UInt8) : Bool := bL c || decide (0 ≤ Lib.indexByte [95, 63, 33, 36] c)

/-- The byte at a place; 0 behind the end. -/
def aheadB (t : ByteArray) (k : Nat) : UInt8 := if h : k < t.size then t[k] else 0
theorem aheadB_lt {t : ByteArray} {k : Nat} (h : k < t.size) : aheadB t k = t[k] := by simp [aheadB, h]
theorem aheadB_ge {t : ByteArray} {k : Nat} (h : t.size ≤ k) : aheadB t k = 0 := by simp [aheadB, Nat.not_lt.2 h]

/-- How many bytes of a class stand at the beginning, from the place k on. -/
def runN (p : UInt8 → Bool) (s : ByteArray) (k : Nat) : Nat := if h : k < s.size then (if p s[k] then runN p s (k + 1) else k) else k
termination_by s.size - k
theorem runN_go {p : UInt8 → Bool} {s : ByteArray} {k : Nat} (h : k < s.size) (hp : p s[k] = true) : runN p s k = runN p s (k + 1) := by rw [runN]; simp [h, hp]
theorem runN_no {p : UInt8 → Bool} {s : ByteArray} {k : Nat} (h : k < s.size) (hp : p s[k] = false) : runN p s k = k := by rw [runN]; simp [h, hp]
theorem runN_end {p : UInt8 → Bool} {s : ByteArray} {k : Nat} (h : ¬ k < s.size) : runN p s k = k := by rw [runN]; simp [h]
theorem runN_le (p : UInt8 → Bool) (s : ByteArray) (k : Nat) (hk : k ≤ s.size) : k ≤ runN p s k ∧ runN p s k ≤ s.size := by
  induction h : s.size - k generalizing k with
  | zero => rw [runN_end (by omega)]; omega
  | succ n ih =>
    have hlt : k < s.size := by omega
    cases hp : p s[k] with
    | true => rw [runN_go hlt hp]; have := ih (k + 1) (by omega) (by omega); omega
    | false => rw [runN_no hlt hp]; omega

theorem runN_shift (p : UInt8 → Bool) (s : ByteArray) (a : Nat) (ha : a ≤ s.size) : runN p s a = runN p (s.extract a s.size) 0 + a := by
  have key : ∀ n k, s.size - (a + k) = n → a + k ≤ s.size → runN p s (a + k) = runN p (s.extract a s.size) k + a := by
    intro n
    induction n with
    | zero =>
      intro k hk hle
      rw [runN_end (by omega), runN_end (by simp; omega)]; omega
    | succ n ih =>
      intro k hk hle
      have h1 : a + k < s.size := by omega
      have h2 : k < (s.extract a s.size).size := by simp; omega
      have h3 : (s.extract a s.size)[k] = s[a + k] := by simp [ByteArray.getElem_extract]
      cases hp : p s[a + k] with
      | true => rw [runN_go h1 hp, runN_go h2 (by rw [h3]; exact hp), Nat.add_assoc, ih (k + 1) (by omega) (by omega)]
      | false => rw [runN_no h1 hp, runN_no h2 (by rw [h3]; exact hp)]; omega
  simpa using key (s.size - a) 0 (by omega) (by omega)

/-- The walk of plain from the place i on: has there been a letter; the longest name so far. -/
def plainGo (s : ByteArray) (i : Nat) (has : Bool) (best : Nat) : Nat :=
  if h : i < s.size then (if bW s[i] then plainGo s (i + 1) (has || bL s[i]) (if (has || bL s[i]) && bF s[i] then i + 1 else best) else best) else best
termination_by s.size - i
theorem plainGo_go {s : ByteArray} {i : Nat} {has : Bool} {best : Nat} (h : i < s.size) (hw : bW s[i] = true) :
    plainGo s i has best = plainGo s (i + 1) (has || bL s[i]) (if (has || bL s[i]) && bF s[i] then i + 1 else best) := by rw [plainGo]; simp [h, hw]
theorem plainGo_no {s : ByteArray} {i : Nat} {has : Bool} {best : Nat} (h : i < s.size) (hw : bW s[i] = false) : plainGo s i has best = best := by rw [plainGo]; simp [h, hw]
theorem plainGo_end {s : ByteArray} {i : Nat} {has : Bool} {best : Nat} (h : ¬ i < s.size) : plainGo s i has best = best := by rw [plainGo]; simp [h]
theorem plainGo_le (s : ByteArray) (i : Nat) (has : Bool) (best : Nat) (hi : i ≤ s.size) (hb : best ≤ s.size) : plainGo s i has best ≤ s.size := by
  induction h : s.size - i generalizing i has best with
  | zero => rw [plainGo_end (by omega)]; omega
  | succ n ih =>
    have hlt : i < s.size := by omega
    cases hp : bW s[i] with
    | true => rw [plainGo_go hlt hp]; exact ih (i + 1) _ _ (by omega) (by split <;> omega) (by omega)
    | false => rw [plainGo_no hlt hp]; omega

/-- The length of the longest plain name at the beginning. -/
def plainN (s : ByteArray) : Nat := if h : 0 < s.size then (if bL s[0] || bB s[0] then plainGo s 0 false 0 else 0) else 0
theorem plainN_le (s : ByteArray) : plainN s ≤ s.size := by
  unfold plainN; split
  · split
    · exact plainGo_le s 0 false 0 (by omega) (by omega)
    · omega
  · omega

/-- The length of the '@' and the library's name. -/
def libN (s : ByteArray) : Nat := if h : 1 < s.size then (if s[0] = 64 then (if bL s[1] || bD s[1] then runN bQ s 1 else 0) else 0) else 0

/-- The length of the blanks at a place. -/
def blanksN (t : ByteArray) (i : Nat) : Nat := runN bBlank t (i + 1) - i
/-- The text from a place on; as much of it as the rules look at; a piece of it. -/
def restB (t : ByteArray) (i : Nat) : ByteArray := t.extract i t.size
def winB (t : ByteArray) (i : Nat) : ByteArray := t.extract i (min (i + 100) t.size)
def cutB (t : ByteArray) (a l : Nat) : ByteArray := t.extract a (a + l)
def joinsB (c : UInt8) : Bool := ((c.toNat : Int) == 58) || ((c.toNat : Int) == 61)
/-- The length of a comment up to the end of the line. -/
def lineN (s : ByteArray) : Nat := if 0 ≤ Lib.indexByte s.data.toList 10 then (Lib.indexByte s.data.toList 10).toNat else s.size
end Go.Proofs.YtledmagigkpbeaaDoor
