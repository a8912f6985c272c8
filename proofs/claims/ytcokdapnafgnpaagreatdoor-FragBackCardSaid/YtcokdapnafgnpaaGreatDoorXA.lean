/-
  The plain functions on bytes that the lexer's code computes; nothing of a program is imported here.
  The plain functions of nested comments and of the rules; nothing of a program is imported here.
  The plain functions of one piece; nothing of a program is imported here.
  A piece is not empty, and lies within the text; nothing of a program is imported here.
  A piece depends on no byte that lies far behind it; nothing of a program is imported here.
  A token has 100 bytes at most; nothing of a program is imported here.
  The text of an integer is an integer's token, and its value is the integer; nothing of a program is imported here.
  Canonical digits: their value, and how they compare (models only).
  What a rule takes of a text's beginning it takes of the whole text (for the law of the longest token); nothing of a program is imported here.
  A token and the byte behind it are no token together (models only; nothing of a program is imported here).
  Pieces one after another; nothing of a program is imported here.
  A piece depends on what stands behind its beginning alone; nothing of a program is imported here.
  The pieces of the same remainder of another text, with other tokens ahead; nothing of a program is imported here.
  A token stands alone as well, and with a blank behind it (models only; nothing of a program is imported here).
  A token stands alone as well, and with a blank behind it: the piece of another text (models only; nothing of a program is imported here).
  Where a text is cut off at the end of a piece and a blank follows, the pieces ahead are the same (models only; nothing of a program is imported here).
  A colon at the end of a piece joins with nothing; pieces ahead of a gap, the gap, pieces behind it (models only; nothing of a program is imported here).
  A comment between spaces changes no token (models only; nothing of a program is imported here).
  Keywords and pattern variables have two bytes at least; nothing of a program is imported here.
-/
import Derived.Lib.Bytealg
import Derived.Lib.Strings
import Derived.Lib.AtoiAll
import Derived.Lib.ItoaNum
import Derived.Lib.ItoaLen
import Derived.Lib.ItoaMem
import GoSem.Op.String
namespace Go.Proofs.YtcokdapnafgnpaaGreatDoor
section

/-- The classes of bytes. -/
def bL (c : UInt8) : Bool := decide ((97 : Int) ≤ (c.toNat : Int)) && decide ((c.toNat : Int) ≤ 122)
def bD (c : UInt8) : Bool := decide ((48 : Int) ≤ (c.toNat : Int)) && decide ((c.toNat : Int) ≤ 57)
def bF (c : UInt8) : Bool := (bL c || bD c) || decide (0 ≤ Lib.indexByte [33, 36, 38, 42, 60, 62, 124, 94, 37, 95, 126, 63] c)
def bW (c : UInt8) : Bool := bF c || decide (0 ≤ Lib.indexByte [43, 45, 47, 61] c)
def bB (c : UInt8) : Bool := decide (0 ≤ Lib.indexByte [60, 36, 37, 42, 95] c)
def bQ (c : UInt8) : Bool := (bL c || bD c) || ((c.toNat : Int) == 45)
def bBlank (c : UInt8) : Bool := decide (0 ≤ Lib.indexByte [32, 9, 10, 13] c)
def bSpoils (c : UInt8) : Bool := bL c || decide (0 ≤ Lib.indexByte [95, 63, 33, 36] c)

/-- The byte at a place; 0 behind the end. -/
def aheadB (t : ByteArray) (k : Nat) : UInt8 := if h : k < t.size then t[k] else 0
theorem aheadB_lt {t : ByteArray} {k : Nat} (h : k < t.size) : aheadB t k = t[k] := by simp [aheadB, h]
theorem aheadB_ge {t : ByteArray} {k : Nat} (h : t.size ≤ k) : aheadB t k = 0 := by simp [aheadB, Nat.not_lt.2 h]

/-- How many bytes of a class stand at the beginning, from the place k on. -/
def runN (p : UInt8 → Bool) (s : ByteArray) (k : Nat) : Nat := if h : k < s.size then (if p s[k] then runN p s (k + 1) else k) else k
termination_by s.size - k
theorem runN_go {p : UInt8 → Bool} {s : ByteArray} {k : Nat} (h : k < s.size) (hp : p s[k] = true) : runN p s k = runN p s (k + 1) := by rw [runN]; simp [h, hp]
theorem runN_no {p : UInt8 → Bool} {s : ByteArray} {k : Nat} (h : k < s.size) (hp : p s[k] = false) : runN p s k = k := by rw [runN]; simp [h, hp]
theorem runN_end {p : UInt8 → Bool} {s : ByteArray} {k : Nat} (h : ¬ k < s.size) : runN p s k = k := by rw [runN]; simp [h]
theorem runN_le (p : UInt8 → Bool) (s : ByteArray) (k : Nat) (hk : k ≤ s.size) : k ≤ runN p s k ∧ runN p s k ≤ s.size := by
  induction h : s.size - k generalizing k with
  | zero => rw [runN_end (by omega)]; omega
  | succ n ih =>
    have hlt : k < s.size := by omega
    cases hp : p s[k] with
    | true => rw [runN_go hlt hp]; have := ih (k + 1) (by omega) (by omega); omega
    | false => rw [runN_no hlt hp]; omega

theorem runN_shift (p : UInt8 → Bool) (s : ByteArray) (a : Nat) (ha : a ≤ s.size) : runN p s a = runN p (s.extract a s.size) 0 + a := by
  have key : ∀ n k, s.size - (a + k) = n → a + k ≤ s.size → runN p s (a + k) = runN p (s.extract a s.size) k + a := by
    intro n
    induction n with
    | zero =>
      intro k hk hle
      rw [runN_end (by omega), runN_end (by simp; omega)]; omega
    | succ n ih =>
      intro k hk hle
      have h1 : a + k < s.size := by omega
      have h2 : k < (s.extract a s.size).size := by simp; omega
      have h3 : (s.extract a s.size)[k] = s[a + k] := by simp [ByteArray.getElem_extract]
      cases hp : p s[a + k] with
      | true => rw [runN_go h1 hp, runN_go h2 (by rw [h3]; exact hp), Nat.add_assoc, ih (k + 1) (by omega) (by omega)]
      | false => rw [runN_no h1 hp, runN_no h2 (by rw [h3]; exact hp)]; omega
  simpa using key (s.size - a) 0 (by omega) (by omega)

/-- The walk of plain from the place i on: has there been a letter; the longest name so far. -/
def plainGo (s : ByteArray) (i : Nat) (has : Bool) (best : Nat) : Nat :=
  if h : i < s.size then (if bW s[i] then plainGo s (i + 1) (has || bL s[i]) (if (has || bL s[i]) && bF s[i] then i + 1 else best) else best) else best
termination_by s.size - i
theorem plainGo_go {s : ByteArray} {i : Nat} {has : Bool} {best : Nat} (h : i < s.size) (hw : bW s[i] = true) :
    plainGo s i has best = plainGo s (i + 1) (has || bL s[i]) (if (has || bL s[i]) && bF s[i] then i + 1 else best) := by rw [plainGo]; simp [h, hw]
theorem plainGo_no {s : ByteArray} {i : Nat} {has : Bool} {best : Nat} (h : i < s.size) (hw : bW s[i] = false) : plainGo s i has best = best := by rw [plainGo]; simp [h, hw]
theorem plainGo_end {s : ByteArray} {i : Nat} {has : Bool} {best : Nat} (h : ¬ i < s.size) : plainGo s i has best = best := by rw [plainGo]; simp [h]
theorem plainGo_le (s : ByteArray) (i : Nat) (has : Bool) (best : Nat) (hi : i ≤ s.size) (hb : best ≤ s.size) : plainGo s i has best ≤ s.size := by
  induction h : s.size - i generalizing i has best with
  | zero => rw [plainGo_end (by omega)]; omega
  | succ n ih =>
    have hlt : i < s.size := by omega
    cases hp : bW s[i] with
    | true => rw [plainGo_go hlt hp]; exact ih (i + 1) _ _ (by omega) (by split <;> omega) (by omega)
    | false => rw [plainGo_no hlt hp]; omega

/-- The length of the longest plain name at the beginning. -/
def plainN (s : ByteArray) : Nat := if h : 0 < s.size then (if bL s[0] || bB s[0] then plainGo s 0 false 0 else 0) else 0
theorem plainN_le (s : ByteArray) : plainN s ≤ s.size := by
  unfold plainN; split
  · split
    · exact plainGo_le s 0 false 0 (by omega) (by omega)
    · omega
  · omega

/-- The length of the '@' and the library's name. -/
def libN (s : ByteArray) : Nat := if h : 1 < s.size then (if s[0] = 64 then (if bL s[1] || bD s[1] then runN bQ s 1 else 0) else 0) else 0

/-- The length of the blanks at a place. -/
def blanksN (t : ByteArray) (i : Nat) : Nat := runN bBlank t (i + 1) - i
/-- The text from a place on; as much of it as the rules look at; a piece of it. -/
def restB (t : ByteArray) (i : Nat) : ByteArray := t.extract i t.size
def winB (t : ByteArray) (i : Nat) : ByteArray := t.extract i (min (i + 100) t.size)
def cutB (t : ByteArray) (a l : Nat) : ByteArray := t.extract a (a + l)
def joinsB (c : UInt8) : Bool := ((c.toNat : Int) == 58) || ((c.toNat : Int) == 61)
/-- The length of a comment up to the end of the line. -/
def lineN (s : ByteArray) : Nat := if 0 ≤ Lib.indexByte s.data.toList 10 then (Lib.indexByte s.data.toList 10).toNat else s.size
end

section

/-- A comment that may have others within it, from the place i on, m being open: its end, or the error's number. -/
def nestedGo (s : ByteArray) (i : Nat) (m : Int) : Except Nat Nat :=
  if h : i < s.size then
    if (s.extract i (min (i + 2) s.size)).toList == [47, 42] then (if 100 < m + 1 then .error 6 else nestedGo s (i + 2) (m + 1))
    else if (s.extract i (min (i + 2) s.size)).toList == [42, 47] then (if m - 1 == 0 then .ok (i + 2) else nestedGo s (i + 2) (m - 1))
    else nestedGo s (i + 1) m
  else .error 13
termination_by s.size - i
theorem nested_end {s : ByteArray} {i : Nat} {m : Int} (h : ¬ i < s.size) : nestedGo s i m = .error 13 := by rw [nestedGo]; simp [h]
theorem nested_deep {s : ByteArray} {i : Nat} {m : Int} (h : i < s.size) (h1 : ((s.extract i (min (i + 2) s.size)).toList == [47, 42]) = true) (h2 : 100 < m + 1) : nestedGo s i m = .error 6 := by rw [nestedGo]; simp [h, h1, h2]
theorem nested_open {s : ByteArray} {i : Nat} {m : Int} (h : i < s.size) (h1 : ((s.extract i (min (i + 2) s.size)).toList == [47, 42]) = true) (h2 : ¬ 100 < m + 1) : nestedGo s i m = nestedGo s (i + 2) (m + 1) := by
  rw [nestedGo]; simp only [h, h1, h2, dite_true, if_true, if_false]
theorem nested_shut {s : ByteArray} {i : Nat} {m : Int} (h : i < s.size) (h1 : ((s.extract i (min (i + 2) s.size)).toList == [47, 42]) = false) (h3 : ((s.extract i (min (i + 2) s.size)).toList == [42, 47]) = true) (h2 : (m - 1 == 0) = true) : nestedGo s i m = .ok (i + 2) := by
  rw [nestedGo]; simp only [h, h1, h2, h3, dite_true, if_true, Bool.false_eq_true, if_false]
theorem nested_less {s : ByteArray} {i : Nat} {m : Int} (h : i < s.size) (h1 : ((s.extract i (min (i + 2) s.size)).toList == [47, 42]) = false) (h3 : ((s.extract i (min (i + 2) s.size)).toList == [42, 47]) = true) (h2 : (m - 1 == 0) = false) : nestedGo s i m = nestedGo s (i + 2) (m - 1) := by
  rw [nestedGo]; simp only [h, h1, h2, h3, dite_true, if_true, Bool.false_eq_true, if_false]
theorem nested_on {s : ByteArray} {i : Nat} {m : Int} (h : i < s.size) (h1 : ((s.extract i (min (i + 2) s.size)).toList == [47, 42]) = false) (h3 : ((s.extract i (min (i + 2) s.size)).toList == [42, 47]) = false) : nestedGo s i m = nestedGo s (i + 1) m := by
  rw [nestedGo]; simp only [h, h1, h3, dite_true, Bool.false_eq_true, if_false]
theorem two_short {s : ByteArray} {i : Nat} (h : s.size ≤ i + 1) (x y : UInt8) : ((s.extract i s.size).toList == [x, y]) = false := by
  rw [ByteArray.toList_eq]
  apply beq_eq_false_iff_ne.2
  intro e
  have := congrArg List.length e
  simp at this
  omega
theorem rest_size (t : ByteArray) (i : Nat) : (restB t i).size = t.size - i := by simp [restB]

def hashN (r : ByteArray) : Nat := if Lib.hasPrefix r.data.toList [35, 116] || Lib.hasPrefix r.data.toList [35, 102] then 2 else 0
def nameN (s : ByteArray) : Nat := if plainN s = 0 then 0 else plainN s + libN (s.extract (plainN s) s.size)
def intN (s : ByteArray) (c : UInt8) (op : Bool) : Nat :=
  if c == 45 && !op then (if runN bD (s.extract 1 s.size) 0 = 0 then 0 else 1 + runN bD (s.extract 1 s.size) 0) else runN bD (s.extract 0 s.size) 0
def keyN (t : ByteArray) (i : Nat) (s : ByteArray) : Nat :=
  if plainN s = 0 then 0 else if aheadB s (plainN s) = 58 then (if joinsB (aheadB t (i + (plainN s + 1))) then 0 else plainN s + 1) else 0
def signTwo (x : List UInt8) : Bool := x == [58, 61] || x == [58, 58] || x == [61, 62] || x == [61, 61] || x == [60, 61] || x == [62, 61]
def signOne (c : UInt8) : Bool :=
  ((c.toNat : Int) == 40) || ((c.toNat : Int) == 41) || ((c.toNat : Int) == 91) || ((c.toNat : Int) == 93) || ((c.toNat : Int) == 123) || ((c.toNat : Int) == 125) ||
  ((c.toNat : Int) == 44) || ((c.toNat : Int) == 59) || ((c.toNat : Int) == 46) || ((c.toNat : Int) == 61) || ((c.toNat : Int) == 60) || ((c.toNat : Int) == 62) ||
  ((c.toNat : Int) == 43) || ((c.toNat : Int) == 45) || ((c.toNat : Int) == 42) || ((c.toNat : Int) == 47) || ((c.toNat : Int) == 38) || ((c.toNat : Int) == 124) ||
  ((c.toNat : Int) == 126) || ((c.toNat : Int) == 63)
def signN (s : ByteArray) : Nat := if signTwo (s.extract 0 (min 2 s.size)).toList then 2 else if signOne (aheadB s 0) then 1 else 0
def patN (t : ByteArray) (i : Nat) (s : ByteArray) : Nat :=
  if aheadB s 0 = 63 then
    if plainN (s.extract 1 s.size) = 0 then 0
    else if aheadB s (plainN (s.extract 1 s.size) + 1) = 58 then
      if joinsB (aheadB t (i + (plainN (s.extract 1 s.size) + 1 + 1))) then plainN (s.extract 1 s.size) + 1
      else if 0 < plainN (s.extract (plainN (s.extract 1 s.size) + 1 + 1) s.size) then plainN (s.extract 1 s.size) + 1 + 1 + plainN (s.extract (plainN (s.extract 1 s.size) + 1 + 1) s.size) else plainN (s.extract 1 s.size) + 1
    else plainN (s.extract 1 s.size) + 1
  else 0
theorem libN_le (s : ByteArray) : libN s ≤ s.size := by
  unfold libN
  split
  · split
    · split
      · exact (runN_le _ _ _ (by omega)).2
      · omega
    · omega
  · omega
theorem nameN_le (s : ByteArray) : nameN s ≤ s.size := by
  unfold nameN
  split
  · omega
  · have h1 := plainN_le s
    have h2 := libN_le (s.extract (plainN s) s.size)
    simp at h2; omega
/-- How many bytes the k-th rule takes. -/
def ruleN (t : ByteArray) (i : Nat) (op : Bool) : Nat → Nat
  | 0 => nameN (winB t i)
  | 1 => intN (winB t i) (aheadB t i) op
  | 2 => keyN t i (winB t i)
  | 3 => hashN (restB t i)
  | 4 => signN (winB t i)
  | _ => patN t i (winB t i)
/-- The best of the first k rules: its kind and its length. -/
def bestTo (n : Nat → Nat) : Nat → Nat × Nat
  | 0 => (0, 0)
  | k + 1 => if (bestTo n k).2 < n k then (k + 1, n k) else bestTo n k

end

section

theorem win_sz (t : ByteArray) (i : Nat) : (winB t i).size = min (i + 100) t.size - i := by simp [winB]
theorem intN_le (s : ByteArray) (c : UInt8) (op : Bool) (h : 1 ≤ s.size) : intN s c op ≤ s.size := by
  unfold intN
  have h1 := (runN_le bD (s.extract 1 s.size) 0 (by omega)).2
  have h0 := (runN_le bD (s.extract 0 s.size) 0 (by omega)).2
  simp only [ByteArray.size_extract, Nat.min_self] at h1 h0
  split
  · split <;> omega
  · omega
theorem aheadB_pos {s : ByteArray} {k : Nat} (h : ¬ aheadB s k = 0) : k < s.size := by
  apply Classical.byContradiction; intro hn; exact h (aheadB_ge (by omega))
theorem keyN_le (t : ByteArray) (i : Nat) (s : ByteArray) : keyN t i s ≤ s.size := by
  unfold keyN
  split
  · omega
  · split
    · rename_i h
      have := aheadB_pos (s := s) (k := plainN s) (by rw [h]; decide)
      split <;> omega
    · omega
theorem hashN_le (r : ByteArray) : hashN r ≤ r.size := by
  unfold hashN
  split
  · rename_i h
    rw [Bool.or_eq_true] at h
    rcases h with h | h
    all_goals
      simp only [Lib.hasPrefix, List.isPrefixOf_iff_prefix] at h
      have := h.length_le
      simp at this
      omega
  · omega
theorem signN_le (s : ByteArray) : signN s ≤ s.size := by
  unfold signN
  split
  · rename_i h
    have hl : (s.extract 0 (min 2 s.size)).toList.length = 2 := by
      simp only [signTwo, Bool.or_eq_true, beq_iff_eq] at h
      rcases h with ((((h | h) | h) | h) | h) | h <;> rw [h] <;> rfl
    rw [ByteArray.toList_eq] at hl
    simp at hl
    omega
  · split
    · rename_i h
      have := aheadB_pos (s := s) (k := 0) (by intro h0; rw [h0] at h; revert h; decide)
      omega
    · omega
theorem patN_le (t : ByteArray) (i : Nat) (s : ByteArray) : patN t i s ≤ s.size := by
  unfold patN
  have h1 := plainN_le (s.extract 1 s.size)
  have h2 := plainN_le (s.extract (plainN (s.extract 1 s.size) + 1 + 1) s.size)
  simp only [ByteArray.size_extract, Nat.min_self] at h1 h2
  split
  · rename_i h
    have h0 := aheadB_pos (s := s) (k := 0) (by rw [h]; decide)
    split
    · omega
    · split
      · rename_i h3
        have h4 := aheadB_pos (s := s) (k := plainN (s.extract 1 s.size) + 1) (by rw [h3]; decide)
        split
        · omega
        · split <;> omega
      · omega
  · omega
theorem bestTo_le (n : Nat → Nat) (m : Nat) (h : ∀ k, n k ≤ m) : ∀ k, (bestTo n k).1 ≤ k ∧ (bestTo n k).2 ≤ m := by
  intro k
  induction k with
  | zero => exact ⟨Nat.le_refl _, Nat.zero_le _⟩
  | succ k ih =>
    rw [bestTo]
    split
    · exact ⟨Nat.le_refl _, h k⟩
    · exact ⟨by omega, ih.2⟩
theorem ruleN_le (t : ByteArray) (i : Nat) (op : Bool) (hi : i < t.size) (k : Nat) : ruleN t i op k ≤ t.size - i := by
  have hw : (winB t i).size ≤ t.size - i ∧ 1 ≤ (winB t i).size := by rw [win_sz]; omega
  unfold ruleN
  split
  · exact Nat.le_trans (nameN_le _) hw.1
  · exact Nat.le_trans (intN_le _ _ _ hw.2) hw.1
  · exact Nat.le_trans (keyN_le _ _ _) hw.1
  · have := hashN_le (restB t i); rw [rest_size] at this; exact this
  · exact Nat.le_trans (signN_le _) hw.1
  · exact Nat.le_trans (patN_le _ _ _) hw.1
/-- The value of canonical digits. -/
def valO (s : ByteArray) : Option Int := match Lib.atoiAll s.data.toList with
  | .ok v => if (Lib.itoa v) = s.data.toList then some v else none
  | _ => none
/-- The error of a token of the kind k and the length l at the place i; 0: none. -/
def faultN (t : ByteArray) (i k l : Nat) : Nat :=
  if k = 2 then (if (valO (cutB t i l)).isSome && !bSpoils (aheadB t (i + l)) then 0 else 11)
  else if k = 4 then (if bW (aheadB t (i + l)) then 12 else 0)
  else if k = 1 ∨ k = 3 ∨ k = 6 then (if 40 < l then 2 else 0)
  else if k = 0 then (if aheadB t i = 35 then 12 else 10)
  else 0

/-- The piece at the place i: its kind and its length, or the error's number. -/
def nextR (t : ByteArray) (i : Nat) (op : Bool) : Except Nat (Nat × Nat) :=
  if Lib.hasPrefix (restB t i).data.toList [47, 47] then .ok (8, lineN (restB t i))
  else if Lib.hasPrefix (restB t i).data.toList [47, 42] then (match nestedGo (restB t i) 0 0 with | .ok n => .ok (8, n) | .error c => .error c)
  else if bBlank (aheadB t i) then .ok (7, blanksN t i)
  else if faultN t i (bestTo (ruleN t i op) 6).1 (bestTo (ruleN t i op) 6).2 = 0 then .ok (bestTo (ruleN t i op) 6) else .error (faultN t i (bestTo (ruleN t i op) 6).1 (bestTo (ruleN t i op) 6).2)
/-- Does a token end an operand? -/
def opE (k : Nat) (s : ByteArray) : Bool := if k = 1 ∨ k = 2 ∨ k = 4 then true else s.toList == [41] || s.toList == [93]
def isTok (k : Nat) : Bool := decide (1 ≤ (k : Int)) && decide ((k : Int) ≤ 6)


/-- All pieces from a place on (kind, beginning, length), and the error with the place where it was found. -/
def cutF (t : ByteArray) : Nat → Nat → Bool → Nat → List (Nat × Nat × Nat) × Option (Nat × Nat)
  | 0, _, _, _ => ([], none)
  | f + 1, i, op, n =>
    if i < t.size then
      match nextR t i op with
      | .error c => ([], some (i, c))
      | .ok p => if isTok p.1 = true ∧ n = 6000 then ([], some (i, 2)) else
          ((p.1, i, p.2) :: (cutF t f (i + p.2) (if isTok p.1 then opE p.1 (cutB t i p.2) else op) (if isTok p.1 then n + 1 else n)).1,
           (cutF t f (i + p.2) (if isTok p.1 then opE p.1 (cutB t i p.2) else op) (if isTok p.1 then n + 1 else n)).2)
    else ([], none)
def cutAll (t : ByteArray) : List (Nat × Nat × Nat) × Option (Nat × Nat) := cutF t (t.size + 1) 0 false 0
end

section

theorem idx_spec {c : UInt8} : ∀ {l : List UInt8}, 0 ≤ Lib.indexByte l c → ∃ k : Nat, Lib.indexByte l c = (k : Int) ∧ k < l.length ∧ l[k]? = some c
  | [], h => by simp [Lib.indexByte] at h
  | x :: l, h => by
    rw [Lib.indexByte] at h ⊢
    cases hx : (x == c)
    · rw [hx] at h
      simp only [Bool.false_eq_true, if_false] at h ⊢
      cases hy : (Lib.indexByte l c == -1)
      · have hg := Lib.indexByte_ge l c
        have hn : Lib.indexByte l c ≠ -1 := by simpa using hy
        obtain ⟨k, e, hk, hv⟩ := idx_spec (c := c) (l := l) (by omega)
        refine ⟨k + 1, ?_, by simpa using hk, by simpa using hv⟩
        simp only [Bool.false_eq_true, if_false]
        omega
      · rw [hy] at h; simp at h
    · refine ⟨0, by simp, by simp, ?_⟩
      simp at hx; simp [hx]
theorem line_bounds {r : ByteArray} (h : Lib.hasPrefix r.data.toList [47, 47] = true) : 2 ≤ lineN r ∧ lineN r ≤ r.size := by
  simp only [Lib.hasPrefix, List.isPrefixOf_iff_prefix] at h
  have hl := h.length_le
  simp at hl
  have e0 : r.data.toList[0]? = some 47 := by obtain ⟨z, hz⟩ := h; rw [← hz]; rfl
  have e1 : r.data.toList[1]? = some 47 := by obtain ⟨z, hz⟩ := h; rw [← hz]; rfl
  unfold lineN
  split
  · rename_i hi
    obtain ⟨k, e, hk, hv⟩ := idx_spec hi
    rw [e]
    have k0 : k ≠ 0 := by rintro rfl; rw [e0] at hv; cases hv
    have k1 : k ≠ 1 := by rintro rfl; rw [e1] at hv; cases hv
    simp at hk
    omega
  · omega
theorem nested_bounds (s : ByteArray) : ∀ (f i : Nat) (m : Int) (n : Nat), s.size - i ≤ f → nestedGo s i m = .ok n → i + 2 ≤ n ∧ n ≤ s.size := by
  intro f
  induction f with
  | zero =>
    intro i m n hf h
    rw [nested_end (by omega)] at h; cases h
  | succ f ih =>
    intro i m n hf h
    by_cases hi : i < s.size
    · have htwo : ∀ x y : UInt8, ((s.extract i (min (i + 2) s.size)).toList == [x, y]) = true → i + 2 ≤ s.size := by
        intro x y hx
        have := congrArg List.length (beq_iff_eq.1 hx)
        rw [ByteArray.toList_eq] at this
        simp at this
        omega
      cases ho : ((s.extract i (min (i + 2) s.size)).toList == [47, 42])
      · cases hc : ((s.extract i (min (i + 2) s.size)).toList == [42, 47])
        · rw [nested_on hi ho hc] at h
          have := ih (i + 1) m n (by omega) h
          omega
        · cases hz : (m - 1 == 0)
          · rw [nested_less hi ho hc hz] at h
            have := ih (i + 2) (m - 1) n (by omega) h
            omega
          · rw [nested_shut hi ho hc hz] at h
            injection h with h
            have := htwo _ _ hc
            omega
      · by_cases hd : 100 < m + 1
        · rw [nested_deep hi ho hd] at h; cases h
        · rw [nested_open hi ho hd] at h
          have := ih (i + 2) (m + 1) n (by omega) h
          omega
    · rw [nested_end hi] at h; cases h
theorem best_pos (n : Nat → Nat) : ∀ k, (bestTo n k).1 ≠ 0 → 0 < (bestTo n k).2
  | 0, h => absurd rfl h
  | k + 1, h => by
    rw [bestTo] at h ⊢
    split
    · simp only; omega
    · rename_i hk; rw [if_neg hk] at h; exact best_pos n k h
theorem best_bounds (t : ByteArray) (i : Nat) (op : Bool) (hi : i < t.size) : (bestTo (ruleN t i op) 6).1 ≤ 6 ∧ i + (bestTo (ruleN t i op) 6).2 ≤ t.size := by
  have := bestTo_le (ruleN t i op) (t.size - i) (fun k => ruleN_le t i op hi k) 6
  omega
theorem next_bounds {t : ByteArray} {i : Nat} {op : Bool} {p : Nat × Nat} (hi : i < t.size) (h : nextR t i op = .ok p) : 1 ≤ p.1 ∧ p.1 ≤ 8 ∧ 1 ≤ p.2 ∧ i + p.2 ≤ t.size := by
  unfold nextR at h
  split at h
  · rename_i hA
    injection h with h; subst h
    have := line_bounds hA
    rw [rest_size] at this
    simp only; omega
  · split at h
    · split at h
      · rename_i n hM
        injection h with h; subst h
        have := nested_bounds _ _ 0 0 n (Nat.le_refl _) hM
        rw [rest_size] at this
        simp only; omega
      · cases h
    · split at h
      · injection h with h; subst h
        have := runN_le bBlank t (i + 1) (by omega)
        simp only [blanksN]; omega
      · split at h
        · rename_i hf
          injection h with h; subst h
          have hb := best_bounds t i op hi
          have hk : (bestTo (ruleN t i op) 6).1 ≠ 0 := by
            intro h0
            rw [h0] at hf
            simp [faultN] at hf
            split at hf <;> omega
          have := best_pos _ _ hk
          omega
        · cases h
theorem cutF_len (t : ByteArray) : ∀ (f i : Nat) (op : Bool) (n : Nat), (cutF t f i op n).1.length ≤ t.size - i := by
  intro f
  induction f with
  | zero => intro i op n; simp [cutF]
  | succ f ih =>
    intro i op n
    rw [cutF]
    split
    · rename_i hi
      split
      · simp
      · rename_i p hp
        split
        · simp
        · have hb := next_bounds hi hp
          have := ih (i + p.2) (if isTok p.1 then opE p.1 (cutB t i p.2) else op) (if isTok p.1 then n + 1 else n)
          simp only [List.length_cons]
          omega
    · simp
theorem cutAll_len (t : ByteArray) : (cutAll t).1.length ≤ t.size := by
  have := cutF_len t (t.size + 1) 0 false 0
  unfold cutAll; omega
/-- The kind of the one token that a string is as a whole. -/
def kindN (s : ByteArray) : Nat := if s.size = 0 then 0 else match nextR s 0 false with
  | .error _ => 0
  | .ok p => if isTok p.1 = true ∧ p.2 = s.size then p.1 else 0
/-- What Pieces returns: the pieces, the place and the error's number. -/
def piecesR (t : ByteArray) : List (Nat × Nat × Nat) × Nat × Nat :=
  if 20000 < t.size then ([], 0, 2) else match (cutAll t).2 with
    | none => ((cutAll t).1, 0, 0)
    | some p => ([], p.1, p.2)
theorem nested_err (s : ByteArray) : ∀ (f i : Nat) (m : Int) (c : Nat), s.size - i ≤ f → nestedGo s i m = .error c → c ≠ 0 := by
  intro f
  induction f with
  | zero =>
    intro i m c hf h
    rw [nested_end (by omega)] at h; injection h with h; omega
  | succ f ih =>
    intro i m c hf h
    by_cases hi : i < s.size
    · cases ho : ((s.extract i (min (i + 2) s.size)).toList == [47, 42])
      · cases hc : ((s.extract i (min (i + 2) s.size)).toList == [42, 47])
        · rw [nested_on hi ho hc] at h; exact ih _ _ _ (by omega) h
        · cases hz : (m - 1 == 0)
          · rw [nested_less hi ho hc hz] at h; exact ih _ _ _ (by omega) h
          · rw [nested_shut hi ho hc hz] at h; cases h
      · by_cases hd : 100 < m + 1
        · rw [nested_deep hi ho hd] at h; injection h with h; omega
        · rw [nested_open hi ho hd] at h; exact ih _ _ _ (by omega) h
    · rw [nested_end hi] at h; injection h with h; omega
theorem next_err {t : ByteArray} {i : Nat} {op : Bool} {c : Nat} (h : nextR t i op = .error c) : c ≠ 0 := by
  unfold nextR at h
  split at h
  · cases h
  · split at h
    · split at h
      · cases h
      · rename_i e hM
        simp only [Except.error.injEq] at h
        rw [← h]
        exact nested_err _ _ 0 0 _ (Nat.le_refl _) hM
    · split at h
      · cases h
      · split at h
        · cases h
        · rename_i hf
          simp only [Except.error.injEq] at h
          rw [← h]; exact hf
theorem cutF_err (t : ByteArray) : ∀ (f i : Nat) (op : Bool) (n : Nat) (p : Nat × Nat), (cutF t f i op n).2 = some p → p.2 ≠ 0 := by
  intro f
  induction f with
  | zero => intro i op n p h; simp [cutF] at h
  | succ f ih =>
    intro i op n p h
    rw [cutF] at h
    split at h
    · split at h
      · rename_i c hc
        simp only [Option.some.injEq] at h
        subst h; exact next_err hc
      · split at h
        · simp only [Option.some.injEq] at h
          subst h; simp
        · exact ih _ _ _ _ h
    · simp at h
theorem piecesR_ok {t : ByteArray} (h : (piecesR t).2.2 = 0) : (piecesR t).2.1 = 0 ∧ (piecesR t).1 = (cutAll t).1 ∧ (cutAll t).2 = none ∧ t.size ≤ 20000 := by
  unfold piecesR at h ⊢
  split at h
  · simp at h
  · rename_i hs
    rw [if_neg hs]
    cases hc : (cutAll t).2 with
    | none => simp; omega
    | some p =>
      rw [hc] at h
      exact absurd h (cutF_err t _ _ _ _ p hc)
theorem piecesR_bad {t : ByteArray} (h : (piecesR t).2.2 ≠ 0) : (piecesR t).1 = [] := by
  unfold piecesR at h ⊢
  split
  · rfl
  · cases hc : (cutAll t).2 with
    | none => rename_i hs; rw [if_neg hs, hc] at h; simp at h
    | some p => rfl
/-- Each piece lies within the text. -/
theorem cutF_in (t : ByteArray) : ∀ (f i : Nat) (op : Bool) (n : Nat) (x : Nat × Nat × Nat), x ∈ (cutF t f i op n).1 → 1 ≤ x.1 ∧ x.1 ≤ 8 ∧ 1 ≤ x.2.2 ∧ x.2.1 + x.2.2 ≤ t.size := by
  intro f
  induction f with
  | zero => intro i op n x h; simp [cutF] at h
  | succ f ih =>
    intro i op n x h
    rw [cutF] at h
    split at h
    · rename_i hi
      split at h
      · simp at h
      · rename_i p hp
        split at h
        · simp at h
        · simp only [List.mem_cons] at h
          rcases h with rfl | h
          · exact next_bounds hi hp
          · exact ih _ _ _ _ h
    · simp at h
end

section

/-- Two texts agree on their first N bytes, and both have them. -/
structure Agree (t u : ByteArray) (N : Nat) : Prop where
  a : N ≤ t.size
  b : N ≤ u.size
  eq : ∀ j, j < N → aheadB t j = aheadB u j
theorem Agree.symm {t u : ByteArray} {N : Nat} (h : Agree t u N) : Agree u t N := ⟨h.b, h.a, fun j hj => (h.eq j hj).symm⟩
theorem Agree.le {t u : ByteArray} {N M : Nat} (h : Agree t u N) (hm : M ≤ N) : Agree t u M := ⟨Nat.le_trans hm h.a, Nat.le_trans hm h.b, fun j hj => h.eq j (Nat.lt_of_lt_of_le hj hm)⟩
theorem ahead_data {t : ByteArray} {j : Nat} (h : j < t.size) : t.data[j]? = some (aheadB t j) := by
  rw [aheadB_lt h]
  have : j < t.data.size := h
  rw [Array.getElem?_eq_getElem this]; rfl
theorem Agree.ext {t u : ByteArray} {N a b : Nat} (h : Agree t u N) (hb : b ≤ N) : t.extract a b = u.extract a b := by
  have h1 := h.a; have h2 := h.b
  have hs : t.data.size = t.size := rfl
  have hs2 : u.data.size = u.size := rfl
  apply ByteArray.ext
  apply Array.ext_getElem?
  intro j
  simp only [ByteArray.data_extract]
  by_cases hj : a + j < b
  · rw [Array.getElem?_extract, Array.getElem?_extract, if_pos (by omega), if_pos (by omega), ahead_data (by omega), ahead_data (by omega), h.eq _ (by omega)]
  · rw [Array.getElem?_extract, Array.getElem?_extract, if_neg (by omega), if_neg (by omega)]
theorem ahead_rest (t : ByteArray) (i j : Nat) : aheadB (restB t i) j = aheadB t (i + j) := by
  have hr := rest_size t i
  by_cases h : i + j < t.size
  · rw [aheadB_lt h, aheadB_lt (by omega)]
    simp [restB, ByteArray.getElem_eq_getElem_data]
  · rw [aheadB_ge (by omega), aheadB_ge (by omega)]
theorem Agree.rest {t u : ByteArray} {N : Nat} (h : Agree t u N) (i : Nat) : Agree (restB t i) (restB u i) (N - i) := by
  have h1 := h.a; have h2 := h.b
  refine ⟨by rw [rest_size]; omega, by rw [rest_size]; omega, fun j hj => ?_⟩
  rw [ahead_rest, ahead_rest, h.eq _ (by omega)]
theorem run_agree {s u : ByteArray} {N : Nat} (h : Agree s u N) (p : UInt8 → Bool) : ∀ (f k : Nat), N - k ≤ f → runN p s k < N → runN p u k = runN p s k := by
  have h1 := h.a; have h2 := h.b
  intro f
  induction f with
  | zero =>
    intro k hf hr
    by_cases hk : k < s.size
    · have := (runN_le p s k (by omega)).1; omega
    · rw [runN_end hk] at hr; omega
  | succ f ih =>
    intro k hf hr
    by_cases hk : k < N
    · have e : u[k]'(by omega) = s[k]'(by omega) := by
        have := h.eq k hk
        rw [aheadB_lt (by omega), aheadB_lt (by omega)] at this; exact this.symm
      cases hp : p (s[k]'(by omega)) with
      | true =>
        rw [runN_go (by omega) hp] at hr ⊢
        rw [runN_go (by omega) (by rw [e]; exact hp)]
        exact ih (k + 1) (by omega) hr
      | false => rw [runN_no (by omega) hp, runN_no (by omega) (by rw [e]; exact hp)]
    · by_cases hk2 : k < s.size
      · have := (runN_le p s k (by omega)).1; omega
      · rw [runN_end hk2] at hr; omega
theorem nested_ge (s : ByteArray) : ∀ (f i : Nat) (m : Int) (n : Nat), s.size - i ≤ f → nestedGo s i m = .ok n → i + 2 ≤ n := by
  intro f
  induction f with
  | zero => intro i m n hf h; rw [nested_end (by omega)] at h; cases h
  | succ f ih =>
    intro i m n hf h
    by_cases hi : i < s.size
    · cases ho : ((s.extract i (min (i + 2) s.size)).toList == [47, 42])
      · cases hc : ((s.extract i (min (i + 2) s.size)).toList == [42, 47])
        · rw [nested_on hi ho hc] at h; have := ih _ _ _ (by omega) h; omega
        · cases hz : (m - 1 == 0)
          · rw [nested_less hi ho hc hz] at h; have := ih _ _ _ (by omega) h; omega
          · rw [nested_shut hi ho hc hz] at h
            simp only [Except.ok.injEq] at h; omega
      · by_cases hd : 100 < m + 1
        · rw [nested_deep hi ho hd] at h; cases h
        · rw [nested_open hi ho hd] at h; have := ih _ _ _ (by omega) h; omega
    · rw [nested_end hi] at h; cases h
theorem nested_agree {s u : ByteArray} {N : Nat} (h : Agree s u N) : ∀ (f i : Nat) (m : Int) (n : Nat), s.size - i ≤ f → nestedGo s i m = .ok n → n ≤ N → nestedGo u i m = .ok n := by
  have h1 := h.a; have h2 := h.b
  intro f
  induction f with
  | zero => intro i m n hf hn; rw [nested_end (by omega)] at hn; cases hn
  | succ f ih =>
    intro i m n hf hn hN
    have hge := nested_ge s (f + 1) i m n hf hn
    have hi : i < s.size := by omega
    have hiu : i < u.size := by omega
    have e : u.extract i (min (i + 2) u.size) = s.extract i (min (i + 2) s.size) := by
      rw [show min (i + 2) u.size = i + 2 by omega, show min (i + 2) s.size = i + 2 by omega]; exact h.symm.ext (by omega)
    cases ho : ((s.extract i (min (i + 2) s.size)).toList == [47, 42])
    · have ho' : ((u.extract i (min (i + 2) u.size)).toList == [47, 42]) = false := by rw [e]; exact ho
      cases hc : ((s.extract i (min (i + 2) s.size)).toList == [42, 47])
      · have hc' : ((u.extract i (min (i + 2) u.size)).toList == [42, 47]) = false := by rw [e]; exact hc
        rw [nested_on hi ho hc] at hn; rw [nested_on hiu ho' hc']; exact ih _ _ _ (by omega) hn hN
      · have hc' : ((u.extract i (min (i + 2) u.size)).toList == [42, 47]) = true := by rw [e]; exact hc
        cases hz : (m - 1 == 0)
        · rw [nested_less hi ho hc hz] at hn; rw [nested_less hiu ho' hc' hz]; exact ih _ _ _ (by omega) hn hN
        · rw [nested_shut hi ho hc hz] at hn; rw [nested_shut hiu ho' hc' hz]; exact hn
    · have ho' : ((u.extract i (min (i + 2) u.size)).toList == [47, 42]) = true := by rw [e]; exact ho
      by_cases hd : 100 < m + 1
      · rw [nested_deep hi ho hd] at hn; cases hn
      · rw [nested_open hi ho hd] at hn; rw [nested_open hiu ho' hd]; exact ih _ _ _ (by omega) hn hN
theorem indexByte_agree (c : UInt8) : ∀ (xs ys : List UInt8) (N o : Nat), (∀ j, j < N → xs[j]? = ys[j]?) → Lib.indexByte xs c = o → o < N → Lib.indexByte ys c = o := by
  intro xs
  induction xs with
  | nil => intro ys N o _ h; simp [Lib.indexByte] at h
  | cons b l ih =>
    intro ys N o he h ho
    have h0 := he 0 (by omega)
    cases ys with
    | nil => simp at h0
    | cons b' l' =>
      simp at h0
      subst h0
      unfold Lib.indexByte at h ⊢
      split
      · rename_i hb; rw [if_pos hb] at h; exact h
      · rename_i hb
        rw [if_neg hb] at h
        split at h
        · omega
        · rename_i hm
          have hge := Lib.indexByte_ge l c
          obtain ⟨q, hq⟩ : ∃ q : Nat, Lib.indexByte l c = q := ⟨(Lib.indexByte l c).toNat, by
            have : ¬ Lib.indexByte l c = -1 := by simpa using hm
            omega⟩
          have := ih l' (N - 1) q (fun j hj => by have := he (j + 1) (by omega); simpa using this) hq (by omega)
          rw [this, if_neg (by simp)]
          omega
theorem prefix_two (a b : UInt8) (xs ys : List UInt8) (h0 : xs[0]? = ys[0]?) (h1 : xs[1]? = ys[1]?) : Lib.hasPrefix xs [a, b] = Lib.hasPrefix ys [a, b] := by
  cases xs with
  | nil => cases ys with
    | nil => rfl
    | cons y ys => simp at h0
  | cons x xs => cases ys with
    | nil => simp at h0
    | cons y ys =>
      simp at h0; subst h0
      cases xs with
      | nil => cases ys with
        | nil => rfl
        | cons y ys => simp at h1
      | cons x xs => cases ys with
        | nil => simp at h1
        | cons y ys => simp at h1; subst h1; simp [Lib.hasPrefix, List.isPrefixOf]
theorem Agree.list {t u : ByteArray} {N : Nat} (h : Agree t u N) (j : Nat) (hj : j < N) : t.data.toList[j]? = u.data.toList[j]? := by
  have h1 := h.a; have h2 := h.b
  rw [Array.getElem?_toList, Array.getElem?_toList, ahead_data (by omega), ahead_data (by omega), h.eq j hj]
theorem bestTo_congr {n m : Nat → Nat} (h : ∀ k, n k = m k) : ∀ k, bestTo n k = bestTo m k := by
  have : n = m := funext h
  intro k; rw [this]
/-- A piece that ends well ahead of where two texts part is the same in both. -/
theorem next_local {t u : ByteArray} {N i k l : Nat} {op : Bool} (h : Agree t u N) (hn : nextR t i op = .ok (k, l)) (hN : i + l + 102 ≤ N) : nextR u i op = .ok (k, l) := by
  have h1 := h.a; have h2 := h.b
  have hr := h.rest i
  have e0 := hr.list 0 (by omega)
  have e1 := hr.list 1 (by omega)
  have p1 := prefix_two 47 47 _ _ e0 e1
  have p2 := prefix_two 47 42 _ _ e0 e1
  have p3 := prefix_two 35 116 _ _ e0 e1
  have p4 := prefix_two 35 102 _ _ e0 e1
  have ew : winB u i = winB t i := by
    unfold winB
    rw [show min (i + 100) u.size = i + 100 by omega, show min (i + 100) t.size = i + 100 by omega]; exact h.symm.ext (by omega)
  have ea : ∀ j, j ≤ i + 101 → aheadB u j = aheadB t j := fun j hj => (h.eq j (by omega)).symm
  have hws : (winB t i).size ≤ 100 := by rw [win_sz]; omega
  have er : ∀ q, ruleN u i op q = ruleN t i op q := by
    intro q
    match q with
    | 0 => simp only [ruleN, ew]
    | 1 => simp only [ruleN, ew]; rw [ea i (by omega)]
    | 2 =>
      simp only [ruleN, ew, keyN]
      have := plainN_le (winB t i)
      rw [ea _ (by omega)]
    | 3 => simp only [ruleN, hashN]; rw [p3, p4]
    | 4 => simp only [ruleN, ew]
    | q + 5 =>
      simp only [ruleN, ew, patN]
      by_cases h63 : aheadB (winB t i) 0 = 63
      · have hz := aheadB_pos (s := winB t i) (k := 0) (by rw [h63]; decide)
        have := plainN_le ((winB t i).extract 1 (winB t i).size)
        simp only [ByteArray.size_extract, Nat.min_self] at this
        rw [ea (i + (plainN ((winB t i).extract 1 (winB t i).size) + 1 + 1)) (by omega)]
      · rw [if_neg h63, if_neg h63]
  have eb := bestTo_congr er 6
  unfold nextR at hn ⊢
  rw [← p1, ← p2, eb, ea i (by omega)]
  split
  · rename_i hp; rw [if_pos hp] at hn
    simp only [Except.ok.injEq, Prod.mk.injEq] at hn ⊢
    refine ⟨hn.1, ?_⟩
    have hl := hn.2
    unfold lineN at hl ⊢
    split at hl
    · rename_i h10
      have hi := indexByte_agree 10 _ (restB u i).data.toList (N - i) l (fun j hj => hr.list j hj) (by omega) (by omega)
      rw [hi]; simp
    · rw [rest_size] at hl; omega
  · rename_i hp; rw [if_neg hp] at hn
    split
    · rename_i hp2; rw [if_pos hp2] at hn
      split at hn
      · rename_i n hM
        simp only [Except.ok.injEq, Prod.mk.injEq] at hn
        have := nested_agree hr _ 0 0 n (Nat.le_refl _) hM (by omega)
        rw [this]; simp [hn]
      · cases hn
    · rename_i hp2; rw [if_neg hp2] at hn
      split
      · rename_i hb; rw [if_pos hb] at hn
        simp only [Except.ok.injEq, Prod.mk.injEq] at hn ⊢
        refine ⟨hn.1, ?_⟩
        have hl := hn.2
        unfold blanksN at hl ⊢
        rw [run_agree h bBlank _ (i + 1) (Nat.le_refl _) (by omega)]; exact hl
      · rename_i hb; rw [if_neg hb] at hn
        split at hn
        · rename_i hf
          have hbt : bestTo (ruleN t i op) 6 = (k, l) := by simpa using hn
          rw [hbt] at hf ⊢
          have ef : faultN u i k l = faultN t i k l := by
            unfold faultN cutB
            rw [ea i (by omega), ← h.eq (i + l) (by omega), h.ext (by omega)]
          rw [if_pos (by rw [ef]; exact hf)]
        · cases hn
end

section

theorem hashN_two (r : ByteArray) : hashN r ≤ 2 := by
  unfold hashN
  split <;> first | omega | (split <;> omega)
theorem ruleN_hundred (t : ByteArray) (i : Nat) (op : Bool) (hi : i < t.size) (k : Nat) : ruleN t i op k ≤ 100 := by
  have hw : (winB t i).size ≤ 100 ∧ 1 ≤ (winB t i).size := by rw [win_sz]; omega
  unfold ruleN
  split
  · exact Nat.le_trans (nameN_le _) hw.1
  · exact Nat.le_trans (intN_le _ _ _ hw.2) hw.1
  · exact Nat.le_trans (keyN_le _ _ _) hw.1
  · have := hashN_two (restB t i); omega
  · exact Nat.le_trans (signN_le _) hw.1
  · exact Nat.le_trans (patN_le _ _ _) hw.1
theorem tok_hundred {t : ByteArray} {i : Nat} {op : Bool} {p : Nat × Nat} (hi : i < t.size) (h : nextR t i op = .ok p) (hk : isTok p.1 = true) : p.2 ≤ 100 := by
  unfold nextR at h
  split at h
  · injection h with h; subst h; simp [isTok] at hk
  · split at h
    · split at h
      · injection h with h; subst h; simp [isTok] at hk
      · cases h
    · split at h
      · injection h with h; subst h; simp [isTok] at hk
      · split at h
        · injection h with h
          subst h
          exact (bestTo_le (ruleN t i op) 100 (fun k => ruleN_hundred t i op hi k) 6).2
        · cases h
theorem kind_small {s : ByteArray} (h : kindN s ≠ 0) : s.size ≤ 100 := by
  unfold kindN at h
  split at h
  · exact absurd rfl h
  · rename_i h0
    split at h
    · exact absurd rfl h
    · rename_i p hp
      split at h
      · rename_i hc
        have := tok_hundred (by omega) hp hc.1
        omega
      · exact absurd rfl h
end

section

theorem dig_fin : ∀ i : Fin 256, 48 ≤ i.val → i.val ≤ 57 → bD (UInt8.ofNat i.val) = true ∧ bL (UInt8.ofNat i.val) = false ∧ bB (UInt8.ofNat i.val) = false ∧ signOne (UInt8.ofNat i.val) = false ∧ bBlank (UInt8.ofNat i.val) = false := by decide +kernel
theorem dig_facts {c : UInt8} (h1 : 48 ≤ c.toNat) (h2 : c.toNat ≤ 57) : bD c = true ∧ bL c = false ∧ bB c = false ∧ signOne c = false ∧ bBlank c = false := by
  have h := dig_fin ⟨c.toNat, c.toNat_lt⟩ h1 h2
  have e : UInt8.ofNat c.toNat = c := by simp
  simp only [e] at h
  exact h
theorem dash_facts : bL 45 = false ∧ bB 45 = false ∧ signOne 45 = true ∧ bBlank 45 = false := by decide +kernel

theorem dec_all : ∀ (u : Nat), ∀ c ∈ Lib.decDigits u, 48 ≤ c.toNat ∧ c.toNat ≤ 57 := by
  intro u
  induction u using Nat.strongRecOn with
  | _ u ih =>
    intro c hc
    rw [Lib.decDigits] at hc
    split at hc
    · simp only [List.mem_singleton] at hc
      subst hc
      simp only [UInt8.toNat_ofNat']; omega
    · rcases List.mem_append.1 hc with hc | hc
      · exact ih (u / 10) (by omega) c hc
      · simp only [List.mem_singleton] at hc
        subst hc
        simp only [UInt8.toNat_ofNat']; omega
theorem dec_ne (u : Nat) : Lib.decDigits u ≠ [] := by
  intro h
  have := Lib.decDigits_length u
  have := Lib.nDigits_pos u
  rw [h] at *; simp at *; omega

def parse1 (a : Nat) (c : UInt8) : Lib.NumEnd Nat :=
  if 48 ≤ c.toNat ∧ c.toNat ≤ 57 then
    if 1844674407370955162 ≤ a then .range
    else if 18446744073709551616 ≤ a * 10 + (c.toNat - 48) then .range
    else .ok (a * 10 + (c.toNat - 48))
  else .syntax
theorem parse_snoc : ∀ (l : List UInt8) (acc a : Nat) (c : UInt8), Lib.parseUint10 acc l = .ok a → Lib.parseUint10 acc (l ++ [c]) = parse1 a c := by
  intro l
  induction l with
  | nil =>
    intro acc a c h
    simp only [Lib.parseUint10, Lib.NumEnd.ok.injEq] at h
    subst h
    simp only [List.nil_append, Lib.parseUint10, parse1]
  | cons x l ih =>
    intro acc a c h
    simp only [Lib.parseUint10, List.cons_append] at h ⊢
    split at h
    · rename_i h1
      rw [if_pos h1]
      split at h
      · cases h
      · rename_i h2
        rw [if_neg h2]
        split at h
        · cases h
        · rename_i h3
          rw [if_neg h3]
          exact ih _ a c h
    · cases h
theorem parse_dec : ∀ (u : Nat), u < 18446744073709551616 → Lib.parseUint10 0 (Lib.decDigits u) = .ok u := by
  intro u
  induction u using Nat.strongRecOn with
  | _ u ih =>
    intro hu
    rw [Lib.decDigits]
    split
    · rename_i h
      simp only [Lib.parseUint10, UInt8.toNat_ofNat']
      rw [if_pos (by omega), if_neg (by omega), if_neg (by omega)]
      congr 1; omega
    · rename_i h
      rw [parse_snoc _ _ _ _ (ih (u / 10) (by omega) (by omega))]
      simp only [parse1, UInt8.toNat_ofNat']
      rw [if_pos (by omega), if_neg (by omega), if_neg (by omega)]
      congr 1; omega
theorem mag_dec (u : Nat) (h : u < 18446744073709551616) : Lib.parseMag (Lib.decDigits u) = .ok u := by
  unfold Lib.parseMag
  rw [if_neg (dec_ne u), parse_dec u h]

theorem atoi_itoa (n : Int) (h0 : -9223372036854775808 ≤ n) (h1 : n ≤ 9223372036854775807) : Lib.atoiAll (Lib.itoa n) = .ok n := by
  unfold Lib.itoa
  split
  · rename_i hn
    simp only [Lib.atoiAll, UInt8.reduceToNat]
    simp only [or_true, if_true]
    rw [mag_dec _ (by omega)]
    simp only [not_true, false_and, if_false, true_and]
    rw [if_neg (by omega)]
    congr 1; omega
  · rename_i hn
    have hm := mag_dec n.toNat (by omega)
    have ha := dec_all n.toNat
    have hne := dec_ne n.toNat
    generalize Lib.decDigits n.toNat = l at *
    cases l with
    | nil => exact absurd rfl hne
    | cons c r =>
      have hc := ha c List.mem_cons_self
      simp only [Lib.atoiAll]
      rw [if_neg (show ¬ (c.toNat = 43 ∨ c.toNat = 45) by omega), hm]
      simp only []
      rw [if_neg (by omega), if_neg (by omega), if_neg (by omega)]
      congr 1; omega
theorem val_itoa (n : Int) (h0 : -9223372036854775808 ≤ n) (h1 : n ≤ 9223372036854775807) : valO ⟨(Lib.itoa n).toArray⟩ = some n := by
  unfold valO
  simp only [atoi_itoa n h0 h1, if_true]

theorem run_all (p : UInt8 → Bool) (s : ByteArray) (h : ∀ k (hk : k < s.size), p s[k] = true) : ∀ (m k : Nat), s.size - k ≤ m → k ≤ s.size → runN p s k = s.size := by
  intro m
  induction m with
  | zero => intro k hm hk; rw [runN_end (by omega)]; omega
  | succ m ih =>
    intro k hm hk
    by_cases hlt : k < s.size
    · rw [runN_go hlt (h k hlt)]; exact ih (k + 1) (by omega) (by omega)
    · rw [runN_end hlt]; omega
theorem ext_all (s : ByteArray) : s.extract 0 s.size = s := by simp
theorem win_all {s : ByteArray} (h : s.size ≤ 100) : winB s 0 = s := by
  unfold winB
  rw [show min (0 + 100) s.size = s.size by omega]
  simp
theorem rest_all (s : ByteArray) : restB s 0 = s := by unfold restB; simp
theorem cut_all (s : ByteArray) : cutB s 0 s.size = s := by unfold cutB; simp

theorem two_no {c : UInt8} {l : List UInt8} (h1 : c ≠ 58) (h2 : c ≠ 61) (h3 : c ≠ 60) (h4 : c ≠ 62) : signTwo (c :: l) = false := by
  simp [signTwo, h1, h2, h3, h4]

/-- A token that begins with a digit or a dash, and has digits alone behind it. -/
theorem kind_num {s : ByteArray} {c : UInt8} {r : List UInt8} (hs : s.data.toList = c :: r) (hsz : s.size ≤ 100) (hr : ∀ x ∈ r, 48 ≤ x.toNat ∧ x.toNat ≤ 57) (hc : (48 ≤ c.toNat ∧ c.toNat ≤ 57) ∨ (c = 45 ∧ r ≠ [])) (hv : (valO s).isSome = true) : kindN s = 2 := by
  have hlen : s.size = r.length + 1 := by have := congrArg List.length hs; simpa using this
  have h0 : s[0]'(by omega) = c := by
    have : s.data.toList[0]? = some c := by rw [hs]; rfl
    rw [Array.getElem?_toList, Array.getElem?_eq_getElem (by show 0 < s.size; omega)] at this
    simpa [ByteArray.getElem_eq_getElem_data] using this
  have hrest : ∀ k (hk : k < s.size), 1 ≤ k → 48 ≤ (s[k]).toNat ∧ (s[k]).toNat ≤ 57 := by
    intro k hk h1
    have : s.data.toList[k]? = some s[k] := by
      rw [Array.getElem?_toList, Array.getElem?_eq_getElem (by exact hk)]
      simp [ByteArray.getElem_eq_getElem_data]
    rw [hs, List.getElem?_cons, if_neg (by omega)] at this
    exact hr _ (List.mem_iff_getElem?.2 ⟨_, this⟩)
  have ah : aheadB s 0 = c := by rw [aheadB_lt (by omega), h0]
  have cl : bL c = false ∧ bB c = false ∧ bBlank c = false ∧ c ≠ 47 ∧ c ≠ 35 ∧ c ≠ 63 ∧ c ≠ 58 ∧ c ≠ 61 ∧ c ≠ 60 ∧ c ≠ 62 := by
    rcases hc with ⟨h1, h2⟩ | ⟨rfl, _⟩
    · have f := dig_facts h1 h2
      refine ⟨f.2.1, f.2.2.1, f.2.2.2.2, ?_, ?_, ?_, ?_, ?_, ?_, ?_⟩ <;> (rintro rfl; simp at h1 h2)
    · refine ⟨dash_facts.1, dash_facts.2.1, dash_facts.2.2.2, ?_, ?_, ?_, ?_, ?_, ?_, ?_⟩ <;> decide
  have hp : plainN s = 0 := by
    unfold plainN
    rw [dif_pos (by omega), h0, cl.1, cl.2.1]; simp
  have r0 : ruleN s 0 false 0 = 0 := by simp only [ruleN, win_all hsz, nameN, hp, if_true]
  have r1 : ruleN s 0 false 1 = s.size := by
    simp only [ruleN, win_all hsz, ah, intN]
    rcases hc with ⟨h1, h2⟩ | ⟨rfl, hne⟩
    · have hcn : (c == 45) = false := by rw [beq_eq_false_iff_ne]; rintro rfl; simp at h1
      rw [hcn]
      simp only [Bool.false_and, Bool.false_eq_true, if_false, ext_all]
      refine run_all bD s (fun k hk => ?_) s.size 0 (by omega) (by omega)
      by_cases hk0 : k = 0
      · subst hk0; rw [h0]; exact (dig_facts h1 h2).1
      · have := hrest k hk (by omega); exact (dig_facts this.1 this.2).1
    · have hsr : (s.extract 1 s.size).size = s.size - 1 := by simp
      have hrn : runN bD (s.extract 1 s.size) 0 = s.size - 1 := by
        rw [← hsr]
        refine run_all bD (s.extract 1 s.size) (fun k hk => ?_) (s.extract 1 s.size).size 0 (by omega) (by omega)
        have : (s.extract 1 s.size)[k] = s[1 + k]'(by rw [hsr] at hk; omega) := by simp [ByteArray.getElem_extract]
        rw [this]
        have := hrest (1 + k) (by rw [hsr] at hk; omega) (by omega)
        exact (dig_facts this.1 this.2).1
      have hl1 : 1 ≤ r.length := by cases r with
        | nil => exact absurd rfl hne
        | cons _ _ => simp
      simp only [beq_self_eq_true, Bool.not_false, Bool.and_self, if_true, hrn]
      rw [if_neg (by omega)]; omega
  have r2 : ruleN s 0 false 2 = 0 := by simp only [ruleN, win_all hsz, keyN, hp, if_true]
  have r3 : ruleN s 0 false 3 = 0 := by
    simp only [ruleN, rest_all, hashN, hs]
    have h35 := cl.2.2.2.2.1
    simp [Lib.hasPrefix, List.isPrefixOf, Ne.symm h35]
  have r4 : ruleN s 0 false 4 < 2 ∧ (ruleN s 0 false 4 = 0 ∨ 2 ≤ s.size) := by
    simp only [ruleN, win_all hsz, signN]
    have ht : signTwo (s.extract 0 (min 2 s.size)).toList = false := by
      have : ∃ l, (s.extract 0 (min 2 s.size)).toList = c :: l := by
        rw [ByteArray.toList_eq]
        refine ⟨r.take (min 2 s.size - 1), ?_⟩
        simp only [ByteArray.data_extract, Array.toList_extract, hs, List.extract_eq_take_drop, List.drop_zero, Nat.sub_zero]
        rw [show min 2 s.size = (min 2 s.size - 1) + 1 by omega, List.take_succ_cons]; simp
      obtain ⟨l, hl⟩ := this
      rw [hl]
      exact two_no cl.2.2.2.2.2.2.1 cl.2.2.2.2.2.2.2.1 cl.2.2.2.2.2.2.2.2.1 cl.2.2.2.2.2.2.2.2.2
    rw [ht, ah]
    simp only [Bool.false_eq_true, if_false]
    rcases hc with ⟨h1, h2⟩ | ⟨rfl, hne⟩
    · rw [(dig_facts h1 h2).2.2.2.1]; simp
    · have hl1 : 1 ≤ r.length := by cases r with
        | nil => exact absurd rfl hne
        | cons _ _ => simp
      rw [dash_facts.2.2.1]; simp; omega
  have r5 : ruleN s 0 false 5 = 0 := by simp only [ruleN, win_all hsz, patN, ah]; rw [if_neg cl.2.2.2.2.2.1]
  have hb : bestTo (ruleN s 0 false) 6 = (2, s.size) := by
    have st : ∀ k, bestTo (ruleN s 0 false) (k + 1) = if (bestTo (ruleN s 0 false) k).2 < ruleN s 0 false k then (k + 1, ruleN s 0 false k) else bestTo (ruleN s 0 false) k := fun k => rfl
    have b1 : bestTo (ruleN s 0 false) 1 = (0, 0) := by rw [st, r0]; rfl
    have b2 : bestTo (ruleN s 0 false) 2 = (2, s.size) := by rw [st, b1, r1, if_pos (by simp only; omega)]
    have b3 : bestTo (ruleN s 0 false) 3 = (2, s.size) := by rw [st, b2, r2, if_neg (by simp)]
    have b4 : bestTo (ruleN s 0 false) 4 = (2, s.size) := by rw [st, b3, r3, if_neg (by simp)]
    have b5 : bestTo (ruleN s 0 false) 5 = (2, s.size) := by rw [st, b4, if_neg (by simp only; omega)]
    rw [st, b5, r5, if_neg (by simp)]
  have hn1 : Lib.hasPrefix s.data.toList [47, 47] = false := by rw [hs]; simp [Lib.hasPrefix, List.isPrefixOf, Ne.symm cl.2.2.2.1]
  have hn2 : Lib.hasPrefix s.data.toList [47, 42] = false := by rw [hs]; simp [Lib.hasPrefix, List.isPrefixOf, Ne.symm cl.2.2.2.1]
  have hf : faultN s 0 2 s.size = 0 := by
    have hsp : bSpoils 0 = false := by decide +kernel
    unfold faultN
    rw [if_pos rfl, cut_all, hv, Nat.zero_add, aheadB_ge (Nat.le_refl _), hsp]; rfl
  have hnx : nextR s 0 false = .ok (2, s.size) := by
    unfold nextR
    rw [rest_all, hn1, hn2, ah, cl.2.2.1, hb]
    simp only [Bool.false_eq_true, if_false]
    rw [if_pos hf]
  unfold kindN
  rw [if_neg (by omega), hnx]
  simp [isTok]
theorem kind_itoa (n : Int) (h0 : -9223372036854775808 ≤ n) (h1 : n ≤ 9223372036854775807) : kindN ⟨(Lib.itoa n).toArray⟩ = 2 := by
  have hv := val_itoa n h0 h1
  have hl := Lib.itoa_length_le n h0 h1
  have hsz : (⟨(Lib.itoa n).toArray⟩ : ByteArray).size ≤ 100 := by show (Lib.itoa n).toArray.size ≤ 100; simp; omega
  have hvs : (valO ⟨(Lib.itoa n).toArray⟩).isSome = true := by rw [hv]; rfl
  by_cases hn : n < 0
  · have e : Lib.itoa n = 45 :: Lib.decDigits n.natAbs := by unfold Lib.itoa; rw [if_pos hn]
    exact kind_num (c := 45) (r := Lib.decDigits n.natAbs) (by simp [e]) hsz (dec_all _) (.inr ⟨rfl, dec_ne _⟩) hvs
  · have e : Lib.itoa n = Lib.decDigits n.toNat := by unfold Lib.itoa; rw [if_neg hn]
    have hne := dec_ne n.toNat
    have ha := dec_all n.toNat
    generalize Lib.decDigits n.toNat = l at *
    cases l with
    | nil => exact absurd rfl hne
    | cons c r => exact kind_num (c := c) (r := r) (by simp [e]) hsz (fun x hx => ha x (List.mem_cons_of_mem _ hx)) (.inl (ha c List.mem_cons_self)) hvs
end

section

def dvalA (a : Nat) (l : List UInt8) : Nat := l.foldl (fun n c => n * 10 + (c.toNat - 48)) a
def allD (l : List UInt8) : Prop := ∀ c ∈ l, 48 ≤ c.toNat ∧ c.toNat ≤ 57
theorem dval_snoc (a : Nat) (l : List UInt8) (c : UInt8) : dvalA a (l ++ [c]) = dvalA a l * 10 + (c.toNat - 48) := by simp [dvalA]
theorem dval_acc : ∀ (l : List UInt8) (a : Nat), dvalA a l = a * 10 ^ l.length + dvalA 0 l
  | [], a => by simp [dvalA]
  | c :: l, a => by
    have e1 : dvalA a (c :: l) = dvalA (a * 10 + (c.toNat - 48)) l := rfl
    have e2 : dvalA 0 (c :: l) = dvalA (0 * 10 + (c.toNat - 48)) l := rfl
    rw [e1, e2, dval_acc l, dval_acc l (0 * 10 + (c.toNat - 48)), List.length_cons, Nat.pow_succ]
    generalize 10 ^ l.length = P
    generalize c.toNat - 48 = x
    rw [Nat.zero_mul, Nat.zero_add, Nat.add_mul, Nat.mul_assoc, Nat.mul_comm 10 P, Nat.add_assoc]
theorem dval_cons (c : UInt8) (l : List UInt8) : dvalA 0 (c :: l) = (c.toNat - 48) * 10 ^ l.length + dvalA 0 l := by
  have e2 : dvalA 0 (c :: l) = dvalA (0 * 10 + (c.toNat - 48)) l := rfl
  rw [e2, dval_acc, Nat.zero_mul, Nat.zero_add]
theorem dval_lt : ∀ (l : List UInt8), allD l → dvalA 0 l < 10 ^ l.length
  | [], _ => by simp [dvalA]
  | c :: l, h => by
    have hc := h c List.mem_cons_self
    have ih := dval_lt l (fun x hx => h x (List.mem_cons_of_mem _ hx))
    rw [dval_cons, List.length_cons, Nat.pow_succ]
    have : (c.toNat - 48) * 10 ^ l.length ≤ 9 * 10 ^ l.length := Nat.mul_le_mul_right _ (by omega)
    omega

/-- Strings of digits of one length compare as their values. -/
theorem less_val : ∀ (l m : List UInt8), l.length = m.length → allD l → allD m → (Op.bytesLess l m = true ↔ dvalA 0 l < dvalA 0 m)
  | [], [], _, _, _ => by simp [Op.bytesLess, dvalA]
  | [], _ :: _, h, _, _ => by simp at h
  | _ :: _, [], h, _, _ => by simp at h
  | a :: x, b :: y, h, hl, hm => by
    have ha := hl a List.mem_cons_self
    have hb := hm b List.mem_cons_self
    have hlen : x.length = y.length := by simpa using h
    have hx : allD x := fun c hc => hl c (List.mem_cons_of_mem _ hc)
    have hy : allD y := fun c hc => hm c (List.mem_cons_of_mem _ hc)
    have ih := less_val x y hlen hx hy
    have bx := dval_lt x hx
    have bY := dval_lt y hy
    rw [dval_cons, dval_cons, ← hlen]
    rw [← hlen] at bY
    obtain ⟨P, hP⟩ : ∃ P, P = 10 ^ x.length := ⟨_, rfl⟩
    rw [← hP] at bx bY ⊢
    simp only [Op.bytesLess, Bool.or_eq_true, decide_eq_true_eq, Bool.and_eq_true, beq_iff_eq]
    rw [ih]
    have hab : a < b ↔ a.toNat < b.toNat := UInt8.lt_iff_toNat_lt
    rw [hab]
    have hEq : a = b ↔ a.toNat = b.toNat := UInt8.toNat_inj.symm
    rw [hEq]
    obtain ⟨p, hp⟩ : ∃ p, a.toNat = 48 + p := ⟨a.toNat - 48, by omega⟩
    obtain ⟨q, hq⟩ : ∃ q, b.toNat = 48 + q := ⟨b.toNat - 48, by omega⟩
    rw [hp, hq, Nat.add_sub_cancel_left, Nat.add_sub_cancel_left]
    constructor
    · rintro (h | ⟨h, h2⟩)
      · have : (p + 1) * P ≤ q * P := Nat.mul_le_mul_right _ (by omega)
        rw [Nat.add_mul, Nat.one_mul] at this; omega
      · have : p = q := by omega
        rw [this]; omega
    · intro h
      by_cases hpq : p < q
      · exact Or.inl (by omega)
      · by_cases he : p = q
        · rw [he] at h ⊢; exact Or.inr ⟨rfl, by omega⟩
        · have : (q + 1) * P ≤ p * P := Nat.mul_le_mul_right _ (by omega)
          rw [Nat.add_mul, Nat.one_mul] at this; omega

/-- No digits ahead that count nothing. -/
structure Canon (l : List UInt8) : Prop where
  ne : l ≠ []
  all : allD l
  first : l.head? = some 48 → l = [48]

theorem dec_canon : ∀ (k : Nat) (l : List UInt8), l.length = k → Canon l → Lib.decDigits (dvalA 0 l) = l := by
  intro k
  induction k with
  | zero => intro l hl h; exact absurd (List.length_eq_zero_iff.1 hl) h.ne
  | succ k ih =>
    intro l hl h
    obtain ⟨m, c, rfl⟩ : ∃ m c, l = m ++ [c] := ⟨l.dropLast, l.getLast h.ne, (List.dropLast_concat_getLast h.ne).symm⟩
    have hc := h.all c (by simp)
    have hm : m.length = k := by simpa using hl
    have ec : UInt8.ofNat (48 + (c.toNat - 48)) = c := by rw [show 48 + (c.toNat - 48) = c.toNat by omega]; simp
    rw [dval_snoc]
    by_cases h0 : m = []
    · subst h0
      simp only [dvalA, List.foldl_nil, Nat.zero_mul, Nat.zero_add, List.nil_append]
      rw [Lib.decDigits_one (by omega), ec]
    · have hf : m.head? ≠ some 48 := by
        intro e
        have := h.first (by rw [List.head?_append, e]; rfl)
        have hl2 := congrArg List.length this
        simp at hl2
        exact h0 hl2
      have hC : Canon m := ⟨h0, fun x hx => h.all x (by simp [hx]), fun e => absurd e hf⟩
      have im := ih m hm hC
      have hpos : dvalA 0 m ≠ 0 := by
        intro e
        rw [e, Lib.decDigits_one (by omega)] at im
        rw [← im] at hf
        exact hf rfl
      rw [Lib.decDigits, dif_neg (by omega)]
      rw [show (dvalA 0 m * 10 + (c.toNat - 48)) / 10 = dvalA 0 m by omega, im, show (dvalA 0 m * 10 + (c.toNat - 48)) % 10 = c.toNat - 48 by omega, ec]

theorem canon_dec : ∀ (u : Nat), Canon (Lib.decDigits u) ∧ dvalA 0 (Lib.decDigits u) = u := by
  intro u
  induction u using Nat.strongRecOn with
  | _ u ih =>
    by_cases h : u < 10
    · rw [Lib.decDigits_one h]
      have hu : (UInt8.ofNat (48 + u)).toNat = 48 + u := by simp only [UInt8.toNat_ofNat']; omega
      refine ⟨⟨by simp, fun c hc => ?_, fun e => ?_⟩, ?_⟩
      · rw [List.mem_singleton] at hc; rw [hc, hu]; omega
      · simp only [List.head?_cons, Option.some.injEq] at e; rw [e]
      · simp only [dvalA, List.foldl_cons, List.foldl_nil]; rw [hu]; omega
    · obtain ⟨hC, hv⟩ := ih (u / 10) (by omega)
      have hu : (UInt8.ofNat (48 + u % 10)).toNat = 48 + u % 10 := by simp only [UInt8.toNat_ofNat']; omega
      have e : Lib.decDigits u = Lib.decDigits (u / 10) ++ [UInt8.ofNat (48 + u % 10)] := by
        rw [Lib.decDigits, dif_neg h]
      rw [e]
      refine ⟨⟨by simp, fun c hc => ?_, fun e => ?_⟩, ?_⟩
      · rcases List.mem_append.1 hc with hc | hc
        · exact hC.all c hc
        · rw [List.mem_singleton] at hc; rw [hc, hu]; omega
      · have hh : (Lib.decDigits (u / 10)).head? = some 48 := by
          rw [List.head?_append] at e
          cases hq : (Lib.decDigits (u / 10)).head? with
          | none => exact absurd (List.head?_eq_none_iff.1 hq) hC.ne
          | some z => rw [hq] at e; exact e
        have := hC.first hh
        rw [this] at hv
        simp [dvalA] at hv
        omega
      · rw [dval_snoc, hv, hu]; omega
end

section

theorem agree_at {s u : ByteArray} {N k : Nat} (h : Agree s u N) (hk : k < N) (h1 : k < s.size) (h2 : k < u.size) : s[k] = u[k] := by
  have := h.eq k hk
  rwa [aheadB_lt h1, aheadB_lt h2] at this

/-- A run of a beginning is no longer than the whole text's. -/
theorem run_mono {s u : ByteArray} (h : Agree s u s.size) (p : UInt8 → Bool) : ∀ (f k : Nat), s.size - k ≤ f → k ≤ s.size → runN p s k ≤ runN p u k := by
  have hb := h.b
  intro f
  induction f with
  | zero => intro k hf hk; rw [runN_end (by omega)]; exact (runN_le p u k (by omega)).1
  | succ f ih =>
    intro k hf hk
    by_cases hlt : k < s.size
    · have he := agree_at h hlt hlt (by omega)
      cases hp : p s[k] with
      | true => rw [runN_go hlt hp, runN_go (s := u) (k := k) (by omega) (by rw [← he]; exact hp)]; exact ih _ (by omega) (by omega)
      | false => rw [runN_no hlt hp]; exact (runN_le p u k (by omega)).1
    · rw [runN_end hlt]; exact (runN_le p u k (by omega)).1

theorem plainGo_ge (u : ByteArray) : ∀ (f i : Nat) (has : Bool) (b : Nat), u.size - i ≤ f → b ≤ i → b ≤ plainGo u i has b := by
  intro f
  induction f with
  | zero => intro i has b hf hb; rw [plainGo_end (by omega)]; exact Nat.le_refl _
  | succ f ih =>
    intro i has b hf hb
    by_cases hlt : i < u.size
    · cases hp : bW u[i] with
      | false => rw [plainGo_no hlt hp]; exact Nat.le_refl _
      | true =>
        rw [plainGo_go hlt hp]
        by_cases hc : ((has || bL u[i]) && bF u[i]) = true
        · rw [if_pos hc]; have := ih (i + 1) (has || bL u[i]) (i + 1) (by omega) (by omega); omega
        · rw [if_neg hc]; exact ih (i + 1) _ b (by omega) (by omega)
    · rw [plainGo_end hlt]; exact Nat.le_refl _

theorem plainGo_mono {s u : ByteArray} (h : Agree s u s.size) : ∀ (f i : Nat) (has : Bool) (b : Nat), s.size - i ≤ f → i ≤ s.size → b ≤ i → plainGo s i has b ≤ plainGo u i has b := by
  have hb := h.b
  intro f
  induction f with
  | zero => intro i has b hf hi hbi; rw [plainGo_end (by omega)]; exact plainGo_ge u _ i has b (Nat.le_refl _) hbi
  | succ f ih =>
    intro i has b hf hi hbi
    by_cases hlt : i < s.size
    · have he := agree_at h hlt hlt (by omega)
      cases hp : bW s[i] with
      | false => rw [plainGo_no hlt hp]; exact plainGo_ge u _ i has b (Nat.le_refl _) hbi
      | true =>
        rw [plainGo_go hlt hp, plainGo_go (s := u) (by omega) (by rw [← he]; exact hp), ← he]
        exact ih _ _ _ (by omega) (by omega) (by split <;> omega)
    · rw [plainGo_end hlt]; exact plainGo_ge u _ i has b (Nat.le_refl _) hbi

/-- Where a byte of the beginning ends the walk, the whole text's walk is the same. -/
theorem plainGo_stop {s u : ByteArray} (h : Agree s u s.size) : ∀ (f i : Nat) (has : Bool) (b : Nat), s.size - i ≤ f → runN bW s i < s.size → plainGo u i has b = plainGo s i has b := by
  have hb := h.b
  intro f
  induction f with
  | zero => intro i has b hf hr; rw [runN_end (by omega)] at hr; omega
  | succ f ih =>
    intro i has b hf hr
    by_cases hlt : i < s.size
    · have he := agree_at h hlt hlt (by omega)
      cases hp : bW s[i] with
      | false => rw [plainGo_no hlt hp, plainGo_no (s := u) (by omega) (by rw [← he]; exact hp)]
      | true =>
        rw [runN_go hlt hp] at hr
        rw [plainGo_go hlt hp, plainGo_go (s := u) (by omega) (by rw [← he]; exact hp), ← he]
        exact ih _ _ _ (by omega) hr
    · rw [runN_end hlt] at hr; omega

theorem plain_mono {s u : ByteArray} (h : Agree s u s.size) : plainN s ≤ plainN u := by
  have hb := h.b
  unfold plainN
  by_cases h0 : 0 < s.size
  · have he := agree_at h h0 h0 (by omega)
    rw [dif_pos h0, dif_pos (by omega), ← he]
    split
    · exact plainGo_mono h _ 0 false 0 (Nat.le_refl _) (by omega) (by omega)
    · omega
  · rw [dif_neg h0]; omega

theorem plain_stop {s u : ByteArray} (h : Agree s u s.size) (hr : runN bW s 0 < s.size) : plainN u = plainN s := by
  have hb := h.b
  have h0 : 0 < s.size := by omega
  have he := agree_at h h0 h0 (by omega)
  unfold plainN
  rw [dif_pos h0, dif_pos (by omega), ← he, plainGo_stop h _ 0 false 0 (Nat.le_refl _) hr]

/-- A run ends at the latest where a byte is not of its class. -/
theorem run_to {p : UInt8 → Bool} {s : ByteArray} : ∀ (f k q : Nat), q - k ≤ f → k ≤ q → (hq : q < s.size) → p s[q] = false → runN p s k ≤ q := by
  intro f
  induction f with
  | zero => intro k q hf hk hq hp; have : k = q := by omega
            subst this; rw [runN_no hq hp]; exact Nat.le_refl _
  | succ f ih =>
    intro k q hf hk hq hp
    by_cases e : k = q
    · subst e; rw [runN_no hq hp]; exact Nat.le_refl _
    · have hlt : k < s.size := by omega
      cases hc : p s[k] with
      | true => rw [runN_go hlt hc]; exact ih _ _ (by omega) (by omega) hq hp
      | false => rw [runN_no hlt hc]; omega

theorem lib_mono {s u : ByteArray} (h : Agree s u s.size) : libN s ≤ libN u := by
  have hb := h.b
  unfold libN
  by_cases h1 : 1 < s.size
  · have e0 := agree_at h (k := 0) (by omega) (by omega) (by omega)
    have e1 := agree_at h h1 h1 (by omega)
    rw [dif_pos h1, dif_pos (by omega), ← e0, ← e1]
    split
    · split
      · exact run_mono h bQ _ 1 (Nat.le_refl _) (by omega)
      · omega
    · omega
  · rw [dif_neg h1]; omega

theorem agree_rest {s u : ByteArray} (h : Agree s u s.size) (n : Nat) : Agree (restB s n) (restB u n) (restB s n).size := by
  have := h.rest n
  rwa [← rest_size] at this

/-- A beginning that is a name as a whole: the whole text's name is no shorter. -/
theorem name_full {s u : ByteArray} (h : Agree s u s.size) (h0 : 0 < s.size) (hf : nameN s = s.size) : s.size ≤ nameN u := by
  have hb := h.b
  unfold nameN at hf
  by_cases hz : plainN s = 0
  · rw [if_pos hz] at hf; omega
  · rw [if_neg hz] at hf
    have hm := plain_mono h
    have hu : nameN u = plainN u + libN (restB u (plainN u)) := by unfold nameN; rw [if_neg (by omega)]; rfl
    change plainN s + libN (restB s (plainN s)) = s.size at hf
    by_cases hl : libN (restB s (plainN s)) = 0
    · omega
    · have hs := rest_size s (plainN s)
      have h64 : 1 < (restB s (plainN s)).size ∧ aheadB (restB s (plainN s)) 0 = 64 := by
        unfold libN at hl
        by_cases h1 : 1 < (restB s (plainN s)).size
        · rw [dif_pos h1] at hl
          refine ⟨h1, ?_⟩
          rw [aheadB_lt (by omega)]
          by_cases hc : (restB s (plainN s))[0] = 64
          · exact hc
          · rw [if_neg hc] at hl; exact absurd rfl hl
        · rw [dif_neg h1] at hl; exact absurd rfl hl
      have hq : plainN s < s.size := by omega
      have h64' : s[plainN s] = 64 := by have := h64.2; rw [ahead_rest, Nat.add_zero, aheadB_lt hq] at this; exact this
      have hr := run_to (p := bW) _ 0 (plainN s) (Nat.le_refl _) (by omega) hq (by rw [h64']; decide)
      have he := plain_stop h (by omega)
      rw [hu, he]
      have := lib_mono (agree_rest h (plainN s))
      omega

theorem int_full {s u : ByteArray} (h : Agree s u s.size) (c : UInt8) (op : Bool) (hop : op = true → (c == 45) = false) : intN s c false ≤ intN u c op := by
  unfold intN
  cases hc : (c == 45) with
  | false =>
    rw [Bool.false_and, Bool.false_and, if_neg (by simp), if_neg (by simp)]
    exact run_mono (agree_rest h 0) bD _ 0 (Nat.le_refl _) (by omega)
  | true =>
    have ho : op = false := by cases op with | false => rfl | true => rw [hop rfl] at hc; exact absurd hc (by simp)
    subst ho
    rw [Bool.true_and, Bool.not_false, if_pos rfl, if_pos rfl]
    have := run_mono (agree_rest h 1) bD _ 0 (Nat.le_refl _) (by omega)
    change (if runN bD (restB s 1) 0 = 0 then 0 else 1 + runN bD (restB s 1) 0) ≤ (if runN bD (restB u 1) 0 = 0 then 0 else 1 + runN bD (restB u 1) 0)
    split
    · omega
    · rw [if_neg (by omega)]; omega

theorem sign_full {s u : ByteArray} (h : Agree s u s.size) (h2 : 2 ≤ s.size) (hf : signN s = s.size) : s.size ≤ signN u := by
  have hb := h.b
  unfold signN at hf ⊢
  have e : u.extract 0 (min 2 u.size) = s.extract 0 (min 2 s.size) := by
    rw [show min 2 u.size = 2 by omega, show min 2 s.size = 2 by omega]; exact (h.ext (a := 0) h2).symm
  rw [e]
  split at hf
  · rename_i hx; rw [if_pos hx]; omega
  · split at hf <;> omega

theorem hash_full {s u : ByteArray} (h : Agree s u s.size) (h2 : 2 ≤ s.size) (hf : hashN s = s.size) : s.size ≤ hashN u := by
  unfold hashN at hf ⊢
  rw [← prefix_two 35 116 _ _ (h.list 0 (by omega)) (h.list 1 (by omega)), ← prefix_two 35 102 _ _ (h.list 0 (by omega)) (h.list 1 (by omega))]
  split at hf
  · rename_i hx; rw [if_pos hx]; omega
  · omega
end

section

theorem pat_full {t s u : ByteArray} {i : Nat} (h : Agree s u s.size) (ht : ∀ j, j < s.size → aheadB t (i + j) = aheadB s j) (h0 : 1 ≤ s.size) (hf : patN s 0 s = s.size) : s.size ≤ patN t i u := by
  have hb := h.b
  have he0 := h.eq 0 (by omega)
  have hr1 := agree_rest h 1
  have hs1 := rest_size s 1
  unfold patN at hf
  change (if aheadB s 0 = 63 then
    if plainN (restB s 1) = 0 then 0
    else if aheadB s (plainN (restB s 1) + 1) = 58 then
      if joinsB (aheadB s (0 + (plainN (restB s 1) + 1 + 1))) then plainN (restB s 1) + 1
      else if 0 < plainN (restB s (plainN (restB s 1) + 1 + 1)) then plainN (restB s 1) + 1 + 1 + plainN (restB s (plainN (restB s 1) + 1 + 1)) else plainN (restB s 1) + 1
    else plainN (restB s 1) + 1
  else 0) = s.size at hf
  unfold patN
  change s.size ≤ (if aheadB u 0 = 63 then
    if plainN (restB u 1) = 0 then 0
    else if aheadB u (plainN (restB u 1) + 1) = 58 then
      if joinsB (aheadB t (i + (plainN (restB u 1) + 1 + 1))) then plainN (restB u 1) + 1
      else if 0 < plainN (restB u (plainN (restB u 1) + 1 + 1)) then plainN (restB u 1) + 1 + 1 + plainN (restB u (plainN (restB u 1) + 1 + 1)) else plainN (restB u 1) + 1
    else plainN (restB u 1) + 1
  else 0)
  rw [← he0]
  by_cases h63 : aheadB s 0 = 63
  · rw [if_pos h63] at hf ⊢
    by_cases hz : plainN (restB s 1) = 0
    · rw [if_pos hz] at hf; omega
    · rw [if_neg hz] at hf
      have hm := plain_mono hr1
      have hple := plainN_le (restB s 1)
      by_cases h58 : aheadB s (plainN (restB s 1) + 1) = 58
      · rw [if_pos h58] at hf
        have hq : plainN (restB s 1) + 1 < s.size := by
          apply Nat.lt_of_not_le; intro hle; rw [aheadB_ge hle] at h58; exact absurd h58 (by decide)
        by_cases hj : joinsB (aheadB s (0 + (plainN (restB s 1) + 1 + 1))) = true
        · rw [if_pos hj] at hf; omega
        · rw [if_neg hj] at hf
          by_cases hp : 0 < plainN (restB s (plainN (restB s 1) + 1 + 1))
          · rw [if_pos hp] at hf
            have hin : plainN (restB s 1) < (restB s 1).size := by omega
            have hst : plainN (restB u 1) = plainN (restB s 1) := by
              apply plain_stop hr1
              have hx : (restB s 1)[plainN (restB s 1)] = 58 := by
                rw [← aheadB_lt hin, ahead_rest, Nat.add_comm]; exact h58
              have := run_to (p := bW) _ 0 _ (Nat.le_refl _) (by omega) hin (by rw [hx]; decide)
              omega
            have h2 : plainN (restB s 1) + 1 + 1 < s.size := by omega
            rw [hst, if_neg hz, ← h.eq _ hq, if_pos h58, ht _ h2]
            rw [Nat.zero_add] at hj
            rw [if_neg hj]
            have hm2 := plain_mono (agree_rest h (plainN (restB s 1) + 1 + 1))
            rw [if_pos (by omega)]
            omega
          · rw [if_neg hp] at hf; omega
      · rw [if_neg h58] at hf
        rw [if_neg (by omega)]
        split
        · split
          · omega
          · split <;> omega
        · omega
  · rw [if_neg h63] at hf; omega

theorem key_last {t s : ByteArray} {i : Nat} (h0 : 1 ≤ s.size) (hl : aheadB s (s.size - 1) ≠ 58) : keyN t i s ≠ s.size := by
  unfold keyN
  split
  · omega
  · split
    · rename_i h58
      split
      · omega
      · intro e
        apply hl
        rw [show s.size - 1 = plainN s by omega]; exact h58
    · omega

theorem best_ge (n : Nat → Nat) : ∀ k j, j < k → n j ≤ (bestTo n k).2
  | 0, j, h => absurd h (by omega)
  | k + 1, j, h => by
    rw [bestTo]
    by_cases e : j = k
    · subst e; split
      · exact Nat.le_refl _
      · omega
    · have := best_ge n k j (by omega)
      split
      · simp only; omega
      · exact this

theorem best_is (n : Nat → Nat) : ∀ k, (bestTo n k).1 ≠ 0 → ∃ j, j < k ∧ bestTo n k = (j + 1, n j)
  | 0, h => absurd rfl h
  | k + 1, h => by
    rw [bestTo] at h ⊢
    split
    · exact ⟨k, by omega, rfl⟩
    · rename_i hk
      rw [if_neg hk] at h
      obtain ⟨j, hj, e⟩ := best_is n k h
      exact ⟨j, by omega, e⟩

theorem next_tok {t : ByteArray} {i : Nat} {op : Bool} {p : Nat × Nat} (h : nextR t i op = .ok p) (ht : isTok p.1 = true) : bestTo (ruleN t i op) 6 = p := by
  unfold nextR at h
  split at h
  · simp only [Except.ok.injEq] at h; subst h; exact absurd ht (by simp [isTok])
  · split at h
    · split at h
      · simp only [Except.ok.injEq] at h; subst h; exact absurd ht (by simp [isTok])
      · simp at h
    · split at h
      · simp only [Except.ok.injEq] at h; subst h; exact absurd ht (by simp [isTok])
      · split at h
        · simp only [Except.ok.injEq] at h; exact h
        · simp at h

theorem ahead_part {t : ByteArray} {a b j : Nat} (hb : b ≤ t.size) (hj : a + j < b) : aheadB (t.extract a b) j = aheadB t (a + j) := by
  rw [aheadB_lt (t := t) (by omega), aheadB_lt (by rw [ByteArray.size_extract]; omega)]
  simp [ByteArray.getElem_eq_getElem_data]

/-- Behind an operand a text that begins with - has the token - there. -/
theorem minus_one {t : ByteArray} {i : Nat} (hi : i < t.size) (h45 : aheadB t i = 45) : ∀ k, ruleN t i true k ≤ 1 := by
  have hw := win_sz t i
  have hu0 : aheadB (winB t i) 0 = 45 := by unfold winB; rw [ahead_part (by omega) (by omega)]; exact h45
  have hpl : plainN (winB t i) = 0 := by
    unfold plainN
    rw [dif_pos (by omega), ← aheadB_lt (by omega), hu0]
    rfl
  have hl0 : (winB t i).data.toList[0]? = some 45 := by
    rw [Array.getElem?_toList, ahead_data (by omega), hu0]
  intro k
  match k with
  | 0 => simp only [ruleN, nameN, hpl, if_pos]; omega
  | 1 =>
    simp only [ruleN, intN, h45]
    rw [if_neg (by simp)]
    have h0 : 0 < (restB (winB t i) 0).size := by rw [rest_size]; omega
    have := run_to (p := bD) (s := restB (winB t i) 0) 0 0 0 (by omega) (by omega) h0 (by rw [← aheadB_lt h0, ahead_rest, hu0]; decide)
    change runN bD (restB (winB t i) 0) 0 ≤ 1
    omega
  | 2 => simp only [ruleN, keyN, hpl, if_pos]; omega
  | 3 =>
    have hr0 : (restB t i).data.toList[0]? = some 45 := by
      rw [Array.getElem?_toList, ahead_data (by rw [rest_size]; omega), ahead_rest, Nat.add_zero, h45]
    simp only [ruleN, hashN]
    generalize (restB t i).data.toList = l at hr0
    cases l with
    | nil => simp at hr0
    | cons x l =>
      simp at hr0; subst hr0
      simp [Lib.hasPrefix, List.isPrefixOf]
  | 4 =>
    simp only [ruleN, signN]
    have hx : signTwo ((winB t i).extract 0 (min 2 (winB t i).size)).toList = false := by
      have hh : ((winB t i).extract 0 (min 2 (winB t i).size)).toList[0]? = some 45 := by
        rw [ByteArray.toList_eq, Array.getElem?_toList, ahead_data (by rw [ByteArray.size_extract]; omega), ahead_part (by omega) (by omega)]; rw [hu0]
      generalize ((winB t i).extract 0 (min 2 (winB t i).size)).toList = l at hh
      cases l with
      | nil => simp at hh
      | cons x l => simp at hh; subst hh; simp [signTwo]
    rw [hx]
    simp only [Bool.false_eq_true, if_false]
    split <;> omega
  | (n + 5) =>
    simp only [ruleN, patN, hu0]
    rw [if_neg (by decide)]; omega

theorem longest {t : ByteArray} {p k l : Nat} {op : Bool} (hp : p < t.size) (hn : nextR t p op = .ok (k, l)) (hk : isTok k = true) (hlt : p + l < t.size) (hc : aheadB t (p + l) ≠ 58) (hm : l = 1 → aheadB t p ≠ 45) :
    kindN (t.extract p (p + l + 1)) = 0 := by
  have hbd := next_bounds hp hn
  simp only at hbd
  have hb := next_tok hn hk
  obtain ⟨s, hse⟩ : ∃ s, s = t.extract p (p + l + 1) := ⟨_, rfl⟩
  have hs : s.size = l + 1 := by rw [hse, ByteArray.size_extract]; omega
  have hsa : ∀ j, j < s.size → aheadB s j = aheadB t (p + j) := fun j hj => by rw [hse]; exact ahead_part (by omega) (by omega)
  rw [← hse]
  unfold kindN
  rw [if_neg (by omega)]
  cases hx : nextR s 0 false with
  | error c => rfl
  | ok q =>
    simp only
    by_cases hq : isTok q.1 = true ∧ q.2 = s.size
    · exfalso
      have hb' := next_tok hx hq.1
      have hq0 : (bestTo (ruleN s 0 false) 6).1 ≠ 0 := by rw [hb']; intro e; rw [e] at hq; exact absurd hq.1 (by decide)
      obtain ⟨j, hj, e⟩ := best_is _ _ hq0
      have hfull : ruleN s 0 false j = s.size := by rw [← hq.2, ← hb', e]
      have hge := best_ge (ruleN t p op) 6 j hj
      rw [hb] at hge
      simp only at hge
      clear e hb' hq0 hx hn
      have hj6 : j = 0 ∨ j = 1 ∨ j = 2 ∨ j = 3 ∨ j = 4 ∨ j = 5 := by omega
      have hw := win_sz t p
      have hws := win_sz s 0
      have hlast : aheadB s (s.size - 1) ≠ 58 := by rw [hsa _ (by omega), show p + (s.size - 1) = p + l by omega]; exact hc
      have hAr : Agree s (restB t p) s.size := ⟨Nat.le_refl _, by rw [rest_size]; omega, fun j hj => by rw [ahead_rest]; exact hsa j hj⟩
      have hr0 : restB s 0 = s := by apply ByteArray.ext; simp [restB]
      by_cases h100 : s.size ≤ 100
      · have hw0 : winB s 0 = s := by unfold winB; rw [show min (0 + 100) s.size = s.size by omega]; exact hr0
        have hA : Agree s (winB t p) s.size := ⟨Nat.le_refl _, by omega, fun j hj => by unfold winB; rw [ahead_part (by omega) (by omega)]; exact hsa j hj⟩
        rcases hj6 with rfl | rfl | rfl | rfl | rfl | rfl
        · simp only [ruleN, hw0] at hfull hge
          have := name_full hA (by omega) hfull; omega
        · simp only [ruleN, hw0] at hfull hge
          rw [hsa 0 (by omega), Nat.add_zero] at hfull
          have := int_full hA (aheadB t p) op (by
            intro ho
            apply beq_eq_false_iff_ne.2
            intro h45
            subst ho
            have := bestTo_le (ruleN t p true) 1 (minus_one hp h45) 6
            rw [hb] at this
            exact hm (by simp only at this; omega) h45)
          omega
        · simp only [ruleN, hw0] at hfull
          exact key_last (by omega) hlast hfull
        · simp only [ruleN, hr0] at hfull hge
          have := hash_full hAr (by omega) hfull; omega
        · simp only [ruleN, hw0] at hfull hge
          have := sign_full hA (by omega) hfull; omega
        · simp only [ruleN, hw0] at hfull hge
          have := pat_full (t := t) (i := p) hA (fun j hj => (hsa j hj).symm) (by omega) hfull; omega
      · rcases hj6 with rfl | rfl | rfl | rfl | rfl | rfl
        · simp only [ruleN] at hfull; have := nameN_le (winB s 0); omega
        · simp only [ruleN] at hfull; have := intN_le (winB s 0) (aheadB s 0) false (by omega); omega
        · simp only [ruleN] at hfull; have := keyN_le s 0 (winB s 0); omega
        · simp only [ruleN, hr0] at hfull hge
          have := hash_full hAr (by omega) hfull; omega
        · simp only [ruleN] at hfull; have := signN_le (winB s 0); omega
        · simp only [ruleN] at hfull; have := patN_le s 0 (winB s 0); omega
    · rw [if_neg hq]
end

section

/-- From the place i on, with c tokens so far, the pieces l stand one after another, and lead to the state st. -/
def Steps (t : ByteArray) : Nat → Bool → Nat → List (Nat × Nat × Nat) → Nat × Bool × Nat → Prop
  | i, op, c, [], st => st = (i, op, c)
  | i, op, c, x :: l, st => i < t.size ∧ x.2.1 = i ∧ nextR t i op = .ok (x.1, x.2.2) ∧ ¬ (isTok x.1 = true ∧ c = 6000) ∧
      Steps t (i + x.2.2) (if isTok x.1 then opE x.1 (cutB t i x.2.2) else op) (if isTok x.1 then c + 1 else c) l st

theorem steps_append {t : ByteArray} : ∀ (l m : List (Nat × Nat × Nat)) (i : Nat) (op : Bool) (c : Nat) (st st' : Nat × Bool × Nat), Steps t i op c l st → Steps t st.1 st.2.1 st.2.2 m st' → Steps t i op c (l ++ m) st' := by
  intro l
  induction l with
  | nil => intro m i op c st st' h h2; simp only [Steps] at h; subst h; exact h2
  | cons x l ih =>
    intro m i op c st st' h h2
    obtain ⟨h1, h3, h4, h5, h6⟩ := h
    exact ⟨h1, h3, h4, h5, ih m _ _ _ st st' h6 h2⟩
theorem steps_split {t : ByteArray} : ∀ (l m : List (Nat × Nat × Nat)) (i : Nat) (op : Bool) (c : Nat) (st' : Nat × Bool × Nat), Steps t i op c (l ++ m) st' → ∃ st, Steps t i op c l st ∧ Steps t st.1 st.2.1 st.2.2 m st' := by
  intro l
  induction l with
  | nil => intro m i op c st' h; exact ⟨(i, op, c), rfl, h⟩
  | cons x l ih =>
    intro m i op c st' h
    obtain ⟨h1, h3, h4, h5, h6⟩ := h
    obtain ⟨st, ha, hb⟩ := ih m _ _ _ st' h6
    exact ⟨st, ⟨h1, h3, h4, h5, ha⟩, hb⟩
theorem steps_bounds {t : ByteArray} : ∀ (l : List (Nat × Nat × Nat)) (i : Nat) (op : Bool) (c : Nat) (st : Nat × Bool × Nat), Steps t i op c l st → i ≤ t.size → i + l.length ≤ st.1 ∧ st.1 ≤ t.size := by
  intro l
  induction l with
  | nil => intro i op c st h hi; simp only [Steps] at h; subst h; simp; exact hi
  | cons x l ih =>
    intro i op c st h hi
    obtain ⟨h1, h3, h4, h5, h6⟩ := h
    have hb := next_bounds h1 h4
    have := ih _ _ _ st h6 (by omega)
    simp only [List.length_cons]; omega
theorem steps_in {t : ByteArray} : ∀ (l : List (Nat × Nat × Nat)) (i : Nat) (op : Bool) (c : Nat) (st : Nat × Bool × Nat), Steps t i op c l st → ∀ x ∈ l, i ≤ x.2.1 ∧ x.2.1 + x.2.2 ≤ st.1 ∧ 1 ≤ x.2.2 := by
  intro l
  induction l with
  | nil => intro i op c st h x hx; simp at hx
  | cons y l ih =>
    intro i op c st h x hx
    obtain ⟨h1, h3, h4, h5, h6⟩ := h
    have hb := next_bounds h1 h4
    have hs := steps_bounds l _ _ _ st h6 (by omega)
    rcases List.mem_cons.1 hx with rfl | hx
    · refine ⟨by omega, by omega, hb.2.2.1⟩
    · have := ih _ _ _ st h6 x hx; omega
/-- How much there is to go does not matter, as long as it is enough. -/
theorem cutF_fuel (t : ByteArray) : ∀ (f g i : Nat) (op : Bool) (n : Nat), t.size - i < f → t.size - i < g → cutF t f i op n = cutF t g i op n := by
  intro f
  induction f with
  | zero => intro g i op n hf; omega
  | succ f ih =>
    intro g i op n hf hg
    cases g with
    | zero => omega
    | succ g =>
      rw [cutF, cutF]
      by_cases hi : i < t.size
      · rw [if_pos hi, if_pos hi]
        cases hp : nextR t i op with
        | error c => rfl
        | ok p =>
          have hb := next_bounds hi hp
          simp only
          rw [ih g (i + p.2) _ _ (by omega) (by omega)]
      · rw [if_neg hi, if_neg hi]
theorem cutF_cons {t : ByteArray} {f i : Nat} {op : Bool} {n : Nat} {p : Nat × Nat} (hi : i < t.size) (hp : nextR t i op = .ok p) (hc : ¬ (isTok p.1 = true ∧ n = 6000)) :
    cutF t (f + 1) i op n = ((p.1, i, p.2) :: (cutF t f (i + p.2) (if isTok p.1 then opE p.1 (cutB t i p.2) else op) (if isTok p.1 then n + 1 else n)).1, (cutF t f (i + p.2) (if isTok p.1 then opE p.1 (cutB t i p.2) else op) (if isTok p.1 then n + 1 else n)).2) := by
  rw [cutF, if_pos hi, hp]; simp only; rw [if_neg hc]
theorem steps_cutF {t : ByteArray} : ∀ (l : List (Nat × Nat × Nat)) (i : Nat) (op : Bool) (c : Nat) (st : Nat × Bool × Nat), Steps t i op c l st → i ≤ t.size → ∀ f g, t.size - i < f → t.size - st.1 < g → cutF t f i op c = (l ++ (cutF t g st.1 st.2.1 st.2.2).1, (cutF t g st.1 st.2.1 st.2.2).2) := by
  intro l
  induction l with
  | nil =>
    intro i op c st h hi f g hf hg
    simp only [Steps] at h; subst h
    rw [cutF_fuel t f g i op c hf hg]; simp
  | cons x l ih =>
    intro i op c st h hi f g hf hg
    obtain ⟨h1, h3, h4, h5, h6⟩ := h
    have hb := next_bounds h1 h4
    cases f with
    | zero => omega
    | succ f =>
      rw [cutF_cons h1 h4 h5, ih _ _ _ st h6 (by omega) f g (by omega) hg]
      subst h3
      rfl
theorem cutF_steps {t : ByteArray} : ∀ (f i : Nat) (op : Bool) (c : Nat), t.size - i < f → i ≤ t.size → (cutF t f i op c).2 = none → ∃ op' c', Steps t i op c (cutF t f i op c).1 (t.size, op', c') := by
  intro f
  induction f with
  | zero => intro i op c hf; omega
  | succ f ih =>
    intro i op c hf hi h
    by_cases hlt : i < t.size
    · cases hp : nextR t i op with
      | error e => rw [cutF, if_pos hlt, hp] at h; simp at h
      | ok p =>
        by_cases hc : isTok p.1 = true ∧ c = 6000
        · rw [cutF, if_pos hlt, hp] at h; simp only at h; rw [if_pos hc] at h; simp at h
        · have hb := next_bounds hlt hp
          rw [cutF_cons hlt hp hc] at h ⊢
          obtain ⟨op', c', hs⟩ := ih _ _ _ (by omega) (by omega) h
          exact ⟨op', c', hlt, rfl, hp, hc, hs⟩
    · have : i = t.size := by omega
      subst this
      rw [cutF, if_neg hlt]
      exact ⟨op, c, rfl⟩
/-- Pieces that end well ahead of where two texts part stand in both. -/
theorem steps_local {t u : ByteArray} {N : Nat} (h : Agree t u N) : ∀ (l : List (Nat × Nat × Nat)) (i : Nat) (op : Bool) (c : Nat) (st : Nat × Bool × Nat), Steps t i op c l st → (∀ x ∈ l, x.2.1 + x.2.2 + 102 ≤ N) → Steps u i op c l st := by
  have h1 := h.a; have h2 := h.b
  intro l
  induction l with
  | nil => intro i op c st hs _; exact hs
  | cons x l ih =>
    intro i op c st hs hN
    obtain ⟨a1, a2, a3, a4, a5⟩ := hs
    have hx := hN x (List.mem_cons_self)
    have e : cutB u i x.2.2 = cutB t i x.2.2 := h.symm.ext (by omega)
    refine ⟨by omega, a2, next_local h a3 (by omega), a4, ?_⟩
    rw [e]
    exact ih _ _ _ st a5 (fun y hy => hN y (List.mem_cons_of_mem _ hy))
end

section

theorem extract_rest (t : ByteArray) (i b : Nat) : t.extract i (i + b) = (restB t i).extract 0 b := by
  have hs : t.data.size = t.size := rfl
  apply ByteArray.ext
  apply Array.ext_getElem?
  intro j
  simp only [ByteArray.data_extract, restB]
  by_cases hj : j < b ∧ i + j < t.size
  · rw [Array.getElem?_extract, if_pos (by omega), Array.getElem?_extract, if_pos (by simp; omega), Array.getElem?_extract, if_pos (by omega)]
    congr 1; omega
  · rw [Array.getElem?_extract, Array.getElem?_extract]
    split
    · rename_i h1; rw [Array.getElem?_eq_none (by omega)]
      split
      · rw [Array.getElem?_extract]; split
        · rw [Array.getElem?_eq_none (by omega)]
        · rfl
      · rfl
    · split
      · rw [Array.getElem?_extract]; split
        · rename_i h1 h2 h3; simp at h2; omega
        · rfl
      · rfl
theorem win_rest (t : ByteArray) (i : Nat) : winB t i = (restB t i).extract 0 100 := by
  rw [← extract_rest]
  have hs : t.data.size = t.size := rfl
  apply ByteArray.ext
  simp only [winB, ByteArray.data_extract]
  apply Array.ext_getElem?
  intro j
  rw [Array.getElem?_extract, Array.getElem?_extract]
  split <;> split <;> first | rfl | (rw [Array.getElem?_eq_none (by omega)]) | omega
theorem run_rest (p : UInt8 → Bool) (t : ByteArray) (i : Nat) : ∀ (f k : Nat), t.size - i - k ≤ f → i + k ≤ t.size → runN p t (i + k) = i + runN p (restB t i) k := by
  have hr := rest_size t i
  intro f
  induction f with
  | zero => intro k hf hk; rw [runN_end (by omega), runN_end (by omega)]
  | succ f ih =>
    intro k hf hk
    by_cases hlt : i + k < t.size
    · have e : (restB t i)[k]'(by omega) = t[i + k] := by
        have := ahead_rest t i k
        rw [aheadB_lt (by omega), aheadB_lt (by omega)] at this; exact this
      cases hp : p t[i + k] with
      | true => rw [runN_go hlt hp, runN_go (s := restB t i) (k := k) (by omega) (by rw [e]; exact hp)]; exact ih (k + 1) (by omega) (by omega)
      | false => rw [runN_no hlt hp, runN_no (s := restB t i) (k := k) (by omega) (by rw [e]; exact hp)]
    · rw [runN_end hlt, runN_end (by omega)]
/-- Where the same stands behind two places, the same piece stands there. -/
theorem next_shift {t u : ByteArray} {i j : Nat} {op : Bool} (hi : i < t.size) (hj : j < u.size) (h : restB t i = restB u j) : nextR t i op = nextR u j op := by
  have ew : winB t i = winB u j := by rw [win_rest, win_rest, h]
  have ea : ∀ x, aheadB t (i + x) = aheadB u (j + x) := fun x => by rw [← ahead_rest, ← ahead_rest, h]
  have e0 : aheadB t i = aheadB u j := ea 0
  have ec : ∀ x, cutB t i x = cutB u j x := fun x => by unfold cutB; rw [extract_rest, extract_rest, h]
  have er : ∀ q, ruleN t i op q = ruleN u j op q := by
    intro q
    match q with
    | 0 => simp only [ruleN, ew]
    | 1 => simp only [ruleN, ew, e0]
    | 2 => simp only [ruleN, ew, keyN, ea]
    | 3 => simp only [ruleN, h]
    | 4 => simp only [ruleN, ew]
    | q + 5 => simp only [ruleN, ew, patN, ea]
  have eb := bestTo_congr er 6
  have ef : ∀ k l, faultN t i k l = faultN u j k l := fun k l => by unfold faultN; rw [ec, ea, e0]
  have eB : blanksN t i = blanksN u j := by
    unfold blanksN
    rw [run_rest _ t i _ 1 (Nat.le_refl _) (by omega), run_rest _ u j _ 1 (Nat.le_refl _) (by omega), h]; omega
  unfold nextR
  rw [h, e0, eB, eb, ef]
theorem ext_ahead {s r : ByteArray} (hs : s.size = r.size) (h : ∀ q, q < s.size → aheadB s q = aheadB r q) : s = r := by
  have h1 : s.data.size = s.size := rfl
  have h2 : r.data.size = r.size := rfl
  apply ByteArray.ext
  apply Array.ext_getElem?
  intro q
  by_cases hq : q < s.size
  · rw [ahead_data hq, ahead_data (by omega), h q hq]
  · rw [Array.getElem?_eq_none (by omega), Array.getElem?_eq_none (by omega)]
theorem rest_step {t u : ByteArray} {i j : Nat} (h : restB t i = restB u j) (x : Nat) : restB t (i + x) = restB u (j + x) := by
  have hsz := congrArg ByteArray.size h
  rw [rest_size, rest_size] at hsz
  refine ext_ahead (by rw [rest_size, rest_size]; omega) (fun q hq => ?_)
  rw [ahead_rest, ahead_rest, Nat.add_assoc, Nat.add_assoc, ← ahead_rest t, ← ahead_rest u, h]
def shiftP (d : Int) (x : Nat × Nat × Nat) : Nat × Nat × Nat := (x.1, ((x.2.1 : Int) + d).toNat, x.2.2)
/-- Where the same stands behind two places, the same pieces stand there, as long as there are not too many. -/
theorem steps_shift {t u : ByteArray} : ∀ (l : List (Nat × Nat × Nat)) (i j : Nat) (op : Bool) (c c' : Nat) (st : Nat × Bool × Nat), Steps t i op c l st → i ≤ t.size → j ≤ u.size → restB t i = restB u j →
    c' + (l.filter fun x => isTok x.1).length ≤ 6000 → ∃ c'', Steps u j op c' (l.map (shiftP ((j : Int) - (i : Int)))) (st.1 + j - i, st.2.1, c'') := by
  intro l
  induction l with
  | nil =>
    intro i j op c c' st h hi hj _ _
    simp only [Steps] at h; subst h
    exact ⟨c', by simp only [List.map_nil, Steps]; rw [show i + j - i = j by omega]⟩
  | cons x l ih =>
    intro i j op c c' st h hi hj hr hc
    obtain ⟨h1, h3, h4, h5, h6⟩ := h
    have hb := next_bounds h1 h4
    have hsz := congrArg ByteArray.size hr
    rw [rest_size, rest_size] at hsz
    have hst := steps_bounds l _ _ _ st h6 (by omega)
    simp only [List.filter_cons] at hc
    have hcl : ¬ (isTok x.1 = true ∧ c' = 6000) := by
      rintro ⟨ht, rfl⟩; rw [if_pos ht] at hc; simp only [List.length_cons] at hc; omega
    have ec : cutB u j x.2.2 = cutB t i x.2.2 := by unfold cutB; rw [extract_rest, extract_rest, hr]
    obtain ⟨c'', hs⟩ := ih (i + x.2.2) (j + x.2.2) _ _ (if isTok x.1 then c' + 1 else c') st h6 (by omega) (by omega) (rest_step hr _) (by
      split at hc
      · rename_i ht; rw [if_pos ht]; simp only [List.length_cons] at hc; omega
      · rename_i ht; rw [if_neg ht]; omega)
    refine ⟨c'', ?_⟩
    simp only [List.map_cons, Steps]
    refine ⟨by omega, by simp only [shiftP]; omega, by simp only [shiftP]; rw [← next_shift h1 (by omega) hr]; exact h4, hcl, ?_⟩
    simp only [shiftP, ec]
    rw [show ((j : Int) - (i : Int)) = (((j + x.2.2 : Nat) : Int) - ((i + x.2.2 : Nat) : Int)) by omega, show st.1 + j - i = st.1 + (j + x.2.2) - (i + x.2.2) by omega]
    exact hs
end

section

/-- Where the first token stands that would be one too many. -/
def passAll : List (Nat × Nat × Nat) → Nat → Option Nat
  | [], _ => none
  | x :: l, c => if isTok x.1 = true ∧ c = 6000 then some x.2.1 else passAll l (if isTok x.1 then c + 1 else c)

theorem tail_cut {t u : ByteArray} : ∀ (l : List (Nat × Nat × Nat)) (i j : Nat) (op : Bool) (c c' : Nat) (st : Nat × Bool × Nat) (f : Nat), Steps t i op c l st → st.1 = t.size → i ≤ t.size → j ≤ u.size → restB t i = restB u j → u.size - j < f →
    (passAll (l.map (shiftP ((j : Int) - (i : Int)))) c' = none → cutF u f j op c' = (l.map (shiftP ((j : Int) - (i : Int))), none)) ∧
    (∀ a, passAll (l.map (shiftP ((j : Int) - (i : Int)))) c' = some a → (cutF u f j op c').2 = some (a, 2)) := by
  intro l
  induction l with
  | nil =>
    intro i j op c c' st f h hst hi hj hr hf
    simp only [Steps] at h; subst h
    have hsz := congrArg ByteArray.size hr
    rw [rest_size, rest_size] at hsz
    simp only at hst
    have : ¬ j < u.size := by omega
    constructor
    · intro _
      cases f with
      | zero => omega
      | succ f => rw [cutF, if_neg this]; rfl
    · intro a ha; simp [passAll] at ha
  | cons x l ih =>
    intro i j op c c' st f h hst hi hj hr hf
    obtain ⟨h1, h3, h4, h5, h6⟩ := h
    have hb := next_bounds h1 h4
    have hsz := congrArg ByteArray.size hr
    rw [rest_size, rest_size] at hsz
    have hju : j < u.size := by omega
    have hnx : nextR u j op = .ok (x.1, x.2.2) := by rw [← next_shift h1 hju hr]; exact h4
    have hx1 : (shiftP ((j : Int) - (i : Int)) x) = (x.1, j, x.2.2) := by simp only [shiftP]; congr 2; omega
    have ec : cutB u j x.2.2 = cutB t i x.2.2 := by unfold cutB; rw [extract_rest, extract_rest, hr]
    cases f with
    | zero => omega
    | succ f =>
      simp only [List.map_cons, hx1, passAll]
      by_cases hc : isTok x.1 = true ∧ c' = 6000
      · rw [if_pos hc]
        constructor
        · intro h; cases h
        · intro a ha
          simp only [Option.some.injEq] at ha
          subst ha
          rw [cutF, if_pos hju, hnx]; simp only; rw [if_pos hc]
      · rw [if_neg hc]
        have hi := ih (i + x.2.2) (j + x.2.2) (if isTok x.1 then opE x.1 (cutB t i x.2.2) else op) _ (if isTok x.1 then c' + 1 else c') st f h6 hst (by omega) (by omega) (rest_step hr _) (by omega)
        rw [show (((j + x.2.2 : Nat) : Int) - ((i + x.2.2 : Nat) : Int)) = (j : Int) - (i : Int) by omega] at hi
        rw [cutF_cons hju hnx hc]
        simp only [ec]
        constructor
        · intro h
          rw [hi.1 h]
        · intro a ha
          exact hi.2 a ha
theorem cutAll_steps {u : ByteArray} {m : List (Nat × Nat × Nat)} {j : Nat} {op : Bool} {c : Nat} (h : Steps u 0 false 0 m (j, op, c)) (f : Nat) (hf : u.size - j < f) : cutAll u = (m ++ (cutF u f j op c).1, (cutF u f j op c).2) := by
  unfold cutAll
  exact steps_cutF m 0 false 0 (j, op, c) h (Nat.zero_le _) (u.size + 1) f (by omega) hf
theorem cutAll_done {u : ByteArray} {m : List (Nat × Nat × Nat)} {op : Bool} {c : Nat} (h : Steps u 0 false 0 m (u.size, op, c)) : cutAll u = (m, none) := by
  rw [cutAll_steps h 1 (by omega), cutF, if_neg (by omega)]; simp
theorem cutAll_bad {u : ByteArray} {m : List (Nat × Nat × Nat)} {i : Nat} {op : Bool} {c e : Nat} (h : Steps u 0 false 0 m (i, op, c)) (hi : i < u.size) (he : nextR u i op = .error e ∨ ∃ p, nextR u i op = .ok p ∧ isTok p.1 = true ∧ c = 6000 ∧ e = 2) : (cutAll u).2 = some (i, e) := by
  rw [cutAll_steps h (u.size - i + 1) (by omega), cutF, if_pos hi]
  rcases he with he | ⟨p, hp, ht, hc, rfl⟩
  · rw [he]
  · rw [hp]; simp only; rw [if_pos ⟨ht, hc⟩]
theorem cutAll_sync {t u : ByteArray} {m l : List (Nat × Nat × Nat)} {i j : Nat} {op : Bool} {c c1 : Nat} {st : Nat × Bool × Nat} (h : Steps u 0 false 0 m (j, op, c)) (hl : Steps t i op c1 l st) (hst : st.1 = t.size) (hi : i ≤ t.size) (hj : j ≤ u.size) (hr : restB t i = restB u j) :
    (passAll (l.map (shiftP ((j : Int) - (i : Int)))) c = none → cutAll u = (m ++ l.map (shiftP ((j : Int) - (i : Int))), none)) ∧ (∀ a, passAll (l.map (shiftP ((j : Int) - (i : Int)))) c = some a → (cutAll u).2 = some (a, 2)) := by
  have ht := tail_cut l i j op c1 c st (u.size - j + 1) hl hst hi hj hr (by omega)
  rw [cutAll_steps h (u.size - j + 1) (by omega)]
  exact ⟨fun hp => by rw [ht.1 hp], fun a ha => ht.2 a ha⟩
/-- What a splice leaves as it was: ahead of it and behind it. -/
theorem splice_size (t ins : ByteArray) (a d : Nat) (h : a + d ≤ t.size) : (t.extract 0 a ++ ins ++ t.extract (a + d) t.size).size = t.size + ins.size - d := by
  simp only [ByteArray.size_append, ByteArray.size_extract]; omega
theorem splice_ahead (t ins : ByteArray) (a d : Nat) (h : a + d ≤ t.size) : Agree t (t.extract 0 a ++ ins ++ t.extract (a + d) t.size) a := by
  have hs := splice_size t ins a d h
  refine ⟨by omega, by omega, fun j hj => ?_⟩
  rw [aheadB_lt (by omega), aheadB_lt (by omega)]
  rw [ByteArray.getElem_append_left (by simp only [ByteArray.size_append, ByteArray.size_extract]; omega), ByteArray.getElem_append_left (by simp only [ByteArray.size_extract]; omega)]
  simp [ByteArray.getElem_eq_getElem_data]
theorem splice_behind (t ins : ByteArray) (a d i : Nat) (h : a + d ≤ t.size) (hi : a + d ≤ i) (hit : i ≤ t.size) : restB t i = restB (t.extract 0 a ++ ins ++ t.extract (a + d) t.size) (i + ins.size - d) := by
  have hs := splice_size t ins a d h
  have h1 : (t.extract 0 a ++ ins).size = a + ins.size := by simp only [ByteArray.size_append, ByteArray.size_extract]; omega
  refine ext_ahead (by rw [rest_size, rest_size, hs]; omega) (fun q hq => ?_)
  rw [rest_size] at hq
  rw [ahead_rest, ahead_rest, aheadB_lt (by omega), aheadB_lt (by omega), ByteArray.getElem_append_right (by omega)]
  simp only [ByteArray.getElem_eq_getElem_data, ByteArray.data_extract, Array.getElem_extract]
  congr 1; omega
end

section

/-- The end of a text (or a byte 0), or a blank: no rule takes it. -/
def Stop (c : UInt8) : Prop := c = 0 ∨ c = 32
theorem Stop.w {c : UInt8} (h : Stop c) : bW c = false := by rcases h with rfl | rfl <;> decide
theorem Stop.q {c : UInt8} (h : Stop c) : bQ c = false := by rcases h with rfl | rfl <;> decide
theorem Stop.d {c : UInt8} (h : Stop c) : bD c = false := by rcases h with rfl | rfl <;> decide
theorem Stop.joins {c : UInt8} (h : Stop c) : joinsB c = false := by rcases h with rfl | rfl <;> decide
theorem Stop.spoils {c : UInt8} (h : Stop c) : bSpoils c = false := by rcases h with rfl | rfl <;> decide
theorem Stop.ne {c : UInt8} (h : Stop c) (b : UInt8) (h0 : b ≠ 0) (h32 : b ≠ 32) : c ≠ b := by rcases h with rfl | rfl; exact fun e => h0 e.symm; exact fun e => h32 e.symm

theorem run_at {p : UInt8 → Bool} {s : ByteArray} {k l : Nat} (hk : k ≤ l) (hl : l ≤ s.size) (h : p (aheadB s l) = false) : runN p s k ≤ l := by
  by_cases e : l < s.size
  · exact run_to _ k l (Nat.le_refl _) hk e (by rw [← aheadB_lt e]; exact h)
  · have := (runN_le p s k (by omega)).2; omega

theorem plainGo_at {s : ByteArray} {l : Nat} (hl : l ≤ s.size) (h : bW (aheadB s l) = false) : ∀ (f i : Nat) (has : Bool) (b : Nat), l - i ≤ f → i ≤ l → b ≤ l → plainGo s i has b ≤ l := by
  intro f
  induction f with
  | zero =>
    intro i has b hf hi hb
    have : i = l := by omega
    subst this
    by_cases e : i < s.size
    · rw [plainGo_no e (by rw [← aheadB_lt e]; exact h)]; exact hb
    · rw [plainGo_end e]; exact hb
  | succ f ih =>
    intro i has b hf hi hb
    by_cases e : i = l
    · subst e
      by_cases e : i < s.size
      · rw [plainGo_no e (by rw [← aheadB_lt e]; exact h)]; exact hb
      · rw [plainGo_end e]; exact hb
    · have hlt : i < s.size := by omega
      cases hp : bW s[i] with
      | false => rw [plainGo_no hlt hp]; exact hb
      | true => rw [plainGo_go hlt hp]; exact ih _ _ _ (by omega) (by omega) (by split <;> omega)

theorem plain_at {s : ByteArray} {l : Nat} (hl : l ≤ s.size) (h : bW (aheadB s l) = false) : plainN s ≤ l := by
  unfold plainN
  split
  · split
    · exact plainGo_at hl h _ 0 false 0 (Nat.le_refl _) (by omega) (by omega)
    · omega
  · omega

theorem lib_at {s : ByteArray} {l : Nat} (hl : l ≤ s.size) (h : Stop (aheadB s l)) : libN s ≤ l := by
  unfold libN
  split
  · rename_i h1
    split
    · rename_i h64
      split
      · by_cases e : l = 0
        · subst e
          rw [aheadB_lt (by omega)] at h
          exact absurd h64 (h.ne 64 (by decide) (by decide))
        · exact run_at (by omega) hl h.q
      · omega
    · omega
  · omega

theorem name_at {s : ByteArray} {l : Nat} (hl : l ≤ s.size) (h : Stop (aheadB s l)) : nameN s ≤ l := by
  unfold nameN
  split
  · omega
  · have h1 := plain_at hl h.w
    have hs := rest_size s (plainN s)
    have := lib_at (s := restB s (plainN s)) (l := l - plainN s) (by omega) (by rw [ahead_rest, show plainN s + (l - plainN s) = l by omega]; exact h)
    change plainN s + libN (restB s (plainN s)) ≤ l
    omega

theorem int_at {s : ByteArray} {l : Nat} (c : UInt8) (op : Bool) (h1 : 1 ≤ l) (hl : l ≤ s.size) (h : Stop (aheadB s l)) : intN s c op ≤ l := by
  have hs := rest_size s 1
  have hs0 := rest_size s 0
  have a1 := run_at (p := bD) (s := restB s 1) (k := 0) (l := l - 1) (by omega) (by omega) (by rw [ahead_rest, show 1 + (l - 1) = l by omega]; exact h.d)
  have a0 := run_at (p := bD) (s := restB s 0) (k := 0) (l := l) (by omega) (by omega) (by rw [ahead_rest, Nat.zero_add]; exact h.d)
  unfold intN
  change (if (c == 45 && !op) = true then (if runN bD (restB s 1) 0 = 0 then 0 else 1 + runN bD (restB s 1) 0) else runN bD (restB s 0) 0) ≤ l
  split
  · split <;> omega
  · exact a0

theorem key_at {t s : ByteArray} {i l : Nat} (hl : l ≤ s.size) (h : Stop (aheadB s l)) : keyN t i s ≤ l := by
  have h1 := plain_at hl h.w
  unfold keyN
  split
  · omega
  · split
    · rename_i h58
      split
      · omega
      · have : plainN s ≠ l := by intro e; rw [e] at h58; exact h.ne 58 (by decide) (by decide) h58
        omega
    · omega

theorem hash_at {r : ByteArray} {l : Nat} (h1 : 1 ≤ l) (h : Stop (aheadB r l)) : hashN r ≤ l := by
  unfold hashN
  split
  · rename_i hx
    by_cases e : l = 1
    · exfalso
      subst e
      rw [Bool.or_eq_true] at hx
      rcases hx with hx | hx
      all_goals
        simp only [Lib.hasPrefix, List.isPrefixOf_iff_prefix] at hx
        have hlen := hx.length_le
        simp at hlen
        obtain ⟨z, hz⟩ := hx
        have e1 : r.data.toList[1]? = some (aheadB r 1) := by rw [Array.getElem?_toList]; exact ahead_data (by omega)
        rw [← hz] at e1
        simp at e1
        exact h.ne _ (by decide) (by decide) e1.symm
    · omega
  · omega

theorem sign_at {s : ByteArray} {l : Nat} (h1 : 1 ≤ l) (h : Stop (aheadB s l)) : signN s ≤ l := by
  unfold signN
  split
  · rename_i hx
    by_cases e : l = 1
    · exfalso
      subst e
      have hl : (s.extract 0 (min 2 s.size)).toList.length = 2 := by
        simp only [signTwo, Bool.or_eq_true, beq_iff_eq] at hx
        rcases hx with ((((h | h) | h) | h) | h) | h <;> rw [h] <;> rfl
      have hl2 := hl
      rw [ByteArray.toList_eq] at hl2
      simp at hl2
      have e1 : (s.extract 0 (min 2 s.size)).toList[1]? = some (aheadB s 1) := by
        rw [ByteArray.toList_eq, Array.getElem?_toList, ahead_data (by rw [ByteArray.size_extract]; omega), ahead_part (by omega) (by omega)]
      simp only [signTwo, Bool.or_eq_true, beq_iff_eq] at hx
      rcases hx with ((((hx | hx) | hx) | hx) | hx) | hx <;> rw [hx] at e1 <;> simp at e1 <;> exact h.ne _ (by decide) (by decide) e1.symm
    · omega
  · split <;> omega

theorem pat_at {t s : ByteArray} {i l : Nat} (h1 : 1 ≤ l) (hl : l ≤ s.size) (h : Stop (aheadB s l)) : patN t i s ≤ l := by
  have hs := rest_size s 1
  have p1 := plain_at (s := restB s 1) (l := l - 1) (by omega) (by rw [ahead_rest, show 1 + (l - 1) = l by omega]; exact h.w)
  unfold patN
  change (if aheadB s 0 = 63 then
    if plainN (restB s 1) = 0 then 0
    else if aheadB s (plainN (restB s 1) + 1) = 58 then
      if joinsB (aheadB t (i + (plainN (restB s 1) + 1 + 1))) then plainN (restB s 1) + 1
      else if 0 < plainN (restB s (plainN (restB s 1) + 1 + 1)) then plainN (restB s 1) + 1 + 1 + plainN (restB s (plainN (restB s 1) + 1 + 1)) else plainN (restB s 1) + 1
    else plainN (restB s 1) + 1
  else 0) ≤ l
  split
  · split
    · omega
    · split
      · rename_i h58
        split
        · omega
        · have hne : plainN (restB s 1) + 1 ≠ l := by intro e; rw [e] at h58; exact h.ne 58 (by decide) (by decide) h58
          have hs2 := rest_size s (plainN (restB s 1) + 1 + 1)
          have p2 := plain_at (s := restB s (plainN (restB s 1) + 1 + 1)) (l := l - (plainN (restB s 1) + 1 + 1)) (by omega) (by rw [ahead_rest, show plainN (restB s 1) + 1 + 1 + (l - (plainN (restB s 1) + 1 + 1)) = l by omega]; exact h.w)
          split <;> omega
      · omega
  · omega

/-- What a rule takes of a text it takes of that much of the text alone. -/
theorem run_cut {s u : ByteArray} (h : Agree s u s.size) (p : UInt8 → Bool) : ∀ (f k : Nat), s.size - k ≤ f → k ≤ s.size → runN p u k ≤ s.size → runN p s k = runN p u k := by
  have hb := h.b
  intro f
  induction f with
  | zero =>
    intro k hf hk hr
    have := (runN_le p u k (by omega)).1
    rw [runN_end (s := s) (by omega)]; omega
  | succ f ih =>
    intro k hf hk hr
    by_cases hlt : k < s.size
    · have he := agree_at h hlt hlt (by omega)
      cases hp : p s[k] with
      | true =>
        rw [runN_go (s := u) (k := k) (by omega) (by rw [← he]; exact hp)] at hr ⊢
        rw [runN_go hlt hp]
        exact ih _ (by omega) (by omega) hr
      | false => rw [runN_no hlt hp, runN_no (s := u) (k := k) (by omega) (by rw [← he]; exact hp)]
    · have := (runN_le p u k (by omega)).1
      rw [runN_end (s := s) (by omega)]; omega

theorem plainGo_cut {s u : ByteArray} (h : Agree s u s.size) : ∀ (f i : Nat) (has : Bool) (b : Nat), s.size - i ≤ f → i ≤ s.size → b ≤ i → plainGo u i has b ≤ s.size → plainGo s i has b = plainGo u i has b := by
  have hb := h.b
  intro f
  induction f with
  | zero =>
    intro i has b hf hi hbi hr
    have hm := plainGo_mono h 0 i has b hf hi hbi
    rw [plainGo_end (s := s) (by omega)] at hm ⊢
    -- from the end of the beginning on nothing better is found
    have key : ∀ (g i : Nat) (has : Bool) (b : Nat), u.size - i ≤ g → b ≤ i → s.size ≤ i → plainGo u i has b = b ∨ s.size < plainGo u i has b := by
      intro g
      induction g with
      | zero => intro i has b hg hb hi; left; rw [plainGo_end (by omega)]
      | succ g ihg =>
        intro i has b hg hb hi
        by_cases hlt : i < u.size
        · cases hp : bW u[i] with
          | false => left; rw [plainGo_no hlt hp]
          | true =>
            rw [plainGo_go hlt hp]
            split
            · right
              have := plainGo_ge u (u.size - (i + 1)) (i + 1) (has || bL u[i]) (i + 1) (Nat.le_refl _) (Nat.le_refl _)
              omega
            · exact ihg (i + 1) _ b (by omega) (by omega) (by omega)
        · left; rw [plainGo_end hlt]
    rcases key (u.size - i) i has b (Nat.le_refl _) hbi (by omega) with e | e
    · exact e.symm
    · omega
  | succ f ih =>
    intro i has b hf hi hbi hr
    by_cases hlt : i < s.size
    · have he := agree_at h hlt hlt (by omega)
      cases hp : bW s[i] with
      | false => rw [plainGo_no hlt hp, plainGo_no (s := u) (by omega) (by rw [← he]; exact hp)]
      | true =>
        rw [plainGo_go (s := u) (i := i) (by omega) (by rw [← he]; exact hp)] at hr ⊢
        rw [← he] at hr ⊢
        rw [plainGo_go hlt hp]
        exact ih _ _ _ (by omega) (by omega) (by split <;> omega) hr
    · exact ih i has b (by omega) hi hbi hr

theorem plain_cut {s u : ByteArray} (h : Agree s u s.size) (hr : plainN u ≤ s.size) : plainN s = plainN u := by
  have hb := h.b
  unfold plainN at hr ⊢
  by_cases h0 : 0 < s.size
  · have he := agree_at h h0 h0 (by omega)
    rw [dif_pos (show 0 < u.size by omega)] at hr ⊢
    rw [dif_pos h0, he]
    by_cases hc : (bL u[0] || bB u[0]) = true
    · rw [if_pos hc] at hr ⊢
      rw [if_pos hc]
      exact plainGo_cut h _ 0 false 0 (Nat.le_refl _) (by omega) (by omega) hr
    · rw [if_neg hc, if_neg hc]
  · rw [dif_neg h0]
    by_cases hu : 0 < u.size
    · rw [dif_pos hu] at hr ⊢
      split
      · rename_i hc; rw [if_pos hc] at hr; omega
      · rfl
    · rw [dif_neg hu]

theorem lib_cut {s u : ByteArray} (h : Agree s u s.size) (hr : libN u ≤ s.size) (h1 : 1 ≤ libN u → 2 ≤ s.size) : libN s = libN u := by
  have hb := h.b
  by_cases hz : libN u = 0
  · have := lib_mono h; omega
  · have h2 := h1 (by omega)
    have e0 := agree_at h (k := 0) (by omega) (by omega) (by omega)
    have e1 := agree_at h (k := 1) (by omega) (by omega) (by omega)
    unfold libN at hz hr ⊢
    rw [dif_pos (show 1 < u.size by omega), ← e0, ← e1] at hz hr ⊢
    rw [dif_pos (show 1 < s.size by omega)]
    split
    · rename_i h64
      rw [if_pos h64] at hz hr
      split
      · rename_i hq
        rw [if_pos hq] at hz hr
        exact run_cut h bQ _ 1 (Nat.le_refl _) (by omega) hr
      · rfl
    · rfl

theorem lib_two {s : ByteArray} (h : libN s ≠ 0) : 2 ≤ libN s := by
  unfold libN at h ⊢
  by_cases h1 : 1 < s.size
  · rw [dif_pos h1] at h ⊢
    by_cases h64 : s[0] = 64
    · rw [if_pos h64] at h ⊢
      by_cases hq : (bL s[1] || bD s[1]) = true
      · rw [if_pos hq]
        rw [runN_go h1 (by unfold bQ; rw [hq]; rfl)]
        exact (runN_le bQ s 2 (by omega)).1
      · rw [if_neg hq] at h; exact absurd rfl h
    · rw [if_neg h64] at h; exact absurd rfl h
  · rw [dif_neg h1] at h; exact absurd rfl h

theorem name_cut {s u : ByteArray} (h : Agree s u s.size) (h0 : 0 < s.size) (hf : nameN u = s.size) : nameN s = s.size := by
  have hb := h.b
  unfold nameN at hf
  by_cases hz : plainN u = 0
  · rw [if_pos hz] at hf; omega
  · rw [if_neg hz] at hf
    change plainN u + libN (restB u (plainN u)) = s.size at hf
    have hp := plain_cut h (by omega)
    have hs := rest_size s (plainN u)
    have hl := lib_cut (agree_rest h (plainN u)) (by omega) (fun hl => by have := lib_two (s := restB u (plainN u)) (by omega); omega)
    unfold nameN
    rw [hp, if_neg hz]
    change plainN u + libN (restB s (plainN u)) = s.size
    omega

theorem int_cut {s u : ByteArray} (h : Agree s u s.size) (c : UInt8) (op : Bool) (h0 : 0 < s.size) (hf : intN u c op = s.size) : intN s c op = s.size := by
  have hb := h.b
  have hs := rest_size s 1
  have hs0 := rest_size s 0
  unfold intN at hf ⊢
  change (if (c == 45 && !op) = true then (if runN bD (restB u 1) 0 = 0 then 0 else 1 + runN bD (restB u 1) 0) else runN bD (restB u 0) 0) = s.size at hf
  change (if (c == 45 && !op) = true then (if runN bD (restB s 1) 0 = 0 then 0 else 1 + runN bD (restB s 1) 0) else runN bD (restB s 0) 0) = s.size
  split at hf
  · rename_i hc
    rw [if_pos hc]
    split at hf
    · omega
    · rename_i hz
      rw [run_cut (agree_rest h 1) bD _ 0 (Nat.le_refl _) (by omega) (by omega), if_neg hz]; exact hf
  · rename_i hc
    rw [if_neg hc, run_cut (agree_rest h 0) bD _ 0 (Nat.le_refl _) (by omega) (by omega)]; exact hf

theorem key_cut {t s u : ByteArray} {i : Nat} (h : Agree s u s.size) (h0 : 0 < s.size) (hf : keyN t i u = s.size) : plainN s ≠ 0 ∧ plainN s + 1 = s.size ∧ aheadB s (plainN s) = 58 := by
  unfold keyN at hf
  by_cases hz : plainN u = 0
  · rw [if_pos hz] at hf; omega
  · rw [if_neg hz] at hf
    by_cases h58 : aheadB u (plainN u) = 58
    · rw [if_pos h58] at hf
      by_cases hj : joinsB (aheadB t (i + (plainN u + 1))) = true
      · rw [if_pos hj] at hf; omega
      · rw [if_neg hj] at hf
        have hp := plain_cut h (by omega)
        rw [hp]
        exact ⟨hz, hf, by rw [h.eq _ (by omega)]; exact h58⟩
    · rw [if_neg h58] at hf; omega

theorem key_same {u s w : ByteArray} {j : Nat} (h : Agree s w s.size) (hz : plainN s ≠ 0) (hn : plainN s + 1 = s.size) (h58 : aheadB s (plainN s) = 58) (hj : joinsB (aheadB u (j + s.size)) = false) : keyN u j w = s.size := by
  have hq : plainN s < s.size := by omega
  have hx : s[plainN s] = 58 := by rw [← aheadB_lt hq]; exact h58
  have hr := run_to (p := bW) _ 0 _ (Nat.le_refl _) (by omega) hq (by rw [hx]; decide)
  have hst := plain_stop h (by omega)
  unfold keyN
  rw [hst, if_neg hz, ← h.eq _ hq, if_pos h58, hn, if_neg (by rw [hj]; simp)]

theorem hash_same {s w v : ByteArray} (h : Agree s w s.size) (h' : Agree s v s.size) (h1 : 1 ≤ s.size) (hf : hashN w = s.size) : hashN v = s.size := by
  have h2 : s.size = 2 := by unfold hashN at hf; split at hf <;> omega
  have e0 : w.data.toList[0]? = v.data.toList[0]? := (h.list 0 (by omega)).symm.trans (h'.list 0 (by omega))
  have e1 : w.data.toList[1]? = v.data.toList[1]? := (h.list 1 (by omega)).symm.trans (h'.list 1 (by omega))
  unfold hashN at hf ⊢
  rw [← prefix_two 35 116 _ _ e0 e1, ← prefix_two 35 102 _ _ e0 e1]; exact hf

theorem hash_first {s w : ByteArray} (h : Agree s w s.size) (h1 : 1 ≤ s.size) (hf : hashN w = s.size) : aheadB s 0 = 35 := by
  unfold hashN at hf
  split at hf
  · rename_i hx
    have hb := h.b
    have e0 : w.data.toList[0]? = some (aheadB w 0) := by rw [Array.getElem?_toList]; exact ahead_data (by omega)
    rw [h.eq 0 (by omega)]
    rw [Bool.or_eq_true] at hx
    rcases hx with hx | hx
    all_goals
      simp only [Lib.hasPrefix, List.isPrefixOf_iff_prefix] at hx
      obtain ⟨z, hz⟩ := hx
      rw [← hz] at e0
      simp at e0
      exact e0.symm
  · omega

theorem sgn_two {s w : ByteArray} (h : Agree s w s.size) (h2 : s.size = 2) (hf : signN w = 2) : signTwo [aheadB s 0, aheadB s 1] = true := by
  have hb := h.b
  unfold signN at hf
  split at hf
  · rename_i hx
    have e : (w.extract 0 (min 2 w.size)).toList = [aheadB s 0, aheadB s 1] := by
      rw [ByteArray.toList_eq]
      apply List.ext_getElem?
      intro q
      by_cases hq : q < 2
      · rw [Array.getElem?_toList, ahead_data (by rw [ByteArray.size_extract]; omega), ahead_part (by omega) (by omega), Nat.zero_add, ← h.eq q (by omega)]
        have : q = 0 ∨ q = 1 := by omega
        rcases this with rfl | rfl <;> rfl
      · rw [List.getElem?_eq_none (by simp; omega), List.getElem?_eq_none (by simp; omega)]
    rw [← e]; exact hx
  · split at hf <;> omega

theorem sign_same {s w v : ByteArray} (h : Agree s w s.size) (h' : Agree s v s.size) (h1 : 1 ≤ s.size) (hf : signN w = s.size) (hle : signN v ≤ s.size) : signN v = s.size := by
  have hb := h.b; have hb' := h'.b
  by_cases h2 : 2 ≤ s.size
  · have e : v.extract 0 (min 2 v.size) = w.extract 0 (min 2 w.size) := by
      rw [show min 2 v.size = 2 by omega, show min 2 w.size = 2 by omega]; exact (h'.ext (a := 0) h2).symm.trans (h.ext (a := 0) h2)
    have : signN v = signN w := by unfold signN; rw [e, ← h.eq 0 (by omega), ← h'.eq 0 (by omega)]
    omega
  · have e : aheadB v 0 = aheadB w 0 := (h'.eq 0 (by omega)).symm.trans (h.eq 0 (by omega))
    unfold signN at hf hle ⊢
    split at hf
    · omega
    · split at hf
      · rename_i hx
        rw [e] at hle ⊢
        split
        · rename_i hy; rw [if_pos hy] at hle; omega
        · exact hf
      · omega

theorem pat_ge {t s : ByteArray} {i : Nat} : patN t i s ≠ 0 → 2 ≤ patN t i s ∧ aheadB s 0 = 63 := by
  intro h
  unfold patN at h ⊢
  split at h
  · rename_i h63
    rw [if_pos h63]
    split at h
    · exact absurd rfl h
    · rename_i hz
      rw [if_neg hz]
      refine ⟨?_, h63⟩
      split
      · split
        · omega
        · split <;> omega
      · omega
  · exact absurd rfl h

theorem pat_cut {t s u : ByteArray} {i : Nat} (h : Agree s u s.size) (ht : ∀ j, j < s.size → aheadB t (i + j) = aheadB s j) (h0 : 1 ≤ s.size) (hf : patN t i u = s.size) : patN s 0 s = s.size := by
  have hb := h.b
  have he0 := h.eq 0 (by omega)
  have hs1 := rest_size s 1
  unfold patN at hf ⊢
  change (if aheadB u 0 = 63 then
    if plainN (restB u 1) = 0 then 0
    else if aheadB u (plainN (restB u 1) + 1) = 58 then
      if joinsB (aheadB t (i + (plainN (restB u 1) + 1 + 1))) then plainN (restB u 1) + 1
      else if 0 < plainN (restB u (plainN (restB u 1) + 1 + 1)) then plainN (restB u 1) + 1 + 1 + plainN (restB u (plainN (restB u 1) + 1 + 1)) else plainN (restB u 1) + 1
    else plainN (restB u 1) + 1
  else 0) = s.size at hf
  change (if aheadB s 0 = 63 then
    if plainN (restB s 1) = 0 then 0
    else if aheadB s (plainN (restB s 1) + 1) = 58 then
      if joinsB (aheadB s (0 + (plainN (restB s 1) + 1 + 1))) then plainN (restB s 1) + 1
      else if 0 < plainN (restB s (plainN (restB s 1) + 1 + 1)) then plainN (restB s 1) + 1 + 1 + plainN (restB s (plainN (restB s 1) + 1 + 1)) else plainN (restB s 1) + 1
    else plainN (restB s 1) + 1
  else 0) = s.size
  rw [he0]
  by_cases h63 : aheadB u 0 = 63
  · rw [if_pos h63] at hf ⊢
    by_cases hz : plainN (restB u 1) = 0
    · rw [if_pos hz] at hf; omega
    · rw [if_neg hz] at hf
      -- the token ends behind the name, whatever comes
      have short : plainN (restB u 1) + 1 = s.size → plainN (restB s 1) = plainN (restB u 1) ∧ aheadB s (plainN (restB s 1) + 1) = 0 := by
        intro e
        have hp := plain_cut (agree_rest h 1) (by omega)
        exact ⟨hp, by rw [hp]; exact aheadB_ge (by omega)⟩
      have close : plainN (restB u 1) + 1 = s.size → (if plainN (restB s 1) = 0 then 0
    else if aheadB s (plainN (restB s 1) + 1) = 58 then
      if joinsB (aheadB s (0 + (plainN (restB s 1) + 1 + 1))) then plainN (restB s 1) + 1
      else if 0 < plainN (restB s (plainN (restB s 1) + 1 + 1)) then plainN (restB s 1) + 1 + 1 + plainN (restB s (plainN (restB s 1) + 1 + 1)) else plainN (restB s 1) + 1
    else plainN (restB s 1) + 1) = s.size := by
        intro e
        obtain ⟨e1, e2⟩ := short e
        rw [e2, e1, if_neg hz, if_neg (by decide)]; exact e
      by_cases h58 : aheadB u (plainN (restB u 1) + 1) = 58
      · rw [if_pos h58] at hf
        by_cases hj : joinsB (aheadB t (i + (plainN (restB u 1) + 1 + 1))) = true
        · rw [if_pos hj] at hf; exact close hf
        · rw [if_neg hj] at hf
          by_cases hp : 0 < plainN (restB u (plainN (restB u 1) + 1 + 1))
          · rw [if_pos hp] at hf
            have hc1 := plain_cut (agree_rest h 1) (by omega)
            have hs2 := rest_size s (plainN (restB u 1) + 1 + 1)
            have hc2 := plain_cut (agree_rest h (plainN (restB u 1) + 1 + 1)) (by omega)
            rw [hc1, if_neg hz, h.eq _ (by omega), if_pos h58, Nat.zero_add, ← ht _ (by omega), if_neg hj, hc2, if_pos hp]; exact hf
          · rw [if_neg hp] at hf; exact close hf
      · rw [if_neg h58] at hf; exact close hf
  · rw [if_neg h63] at hf; omega

theorem best_eq {m : Nat → Nat} {w l : Nat} (hl : 0 < l) (h1 : ∀ q, m q ≤ l) (h2 : m w = l) (h3 : ∀ q, q < w → m q < l) : ∀ n, w < n → bestTo m n = (w + 1, l)
  | 0, h => absurd h (by omega)
  | n + 1, h => by
    rw [bestTo]
    by_cases e : w = n
    · subst e
      have key : ∀ k, k ≤ w → (bestTo m k).2 < l := by
        intro k
        induction k with
        | zero => intro _; exact hl
        | succ k ih =>
          intro hk
          rw [bestTo]
          split
          · exact h3 k (by omega)
          · exact ih (by omega)
      rw [if_pos (by rw [h2]; exact key w (Nat.le_refl _)), h2]
    · have := best_eq hl h1 h2 h3 n (by omega)
      rw [this]
      rw [if_neg (by have := h1 n; simp only; omega)]

theorem best_first {m : Nat → Nat} {w l : Nat} : ∀ n, bestTo m n = (w + 1, l) → w < n ∧ m w = l ∧ ∀ q, q < w → m q < l
  | 0, h => by simp [bestTo] at h
  | n + 1, h => by
    rw [bestTo] at h
    split at h
    · rename_i hlt
      simp only [Prod.mk.injEq] at h
      obtain ⟨h1, h2⟩ := h
      have : n = w := by omega
      subst this
      refine ⟨by omega, h2, fun q hq => ?_⟩
      have := best_ge m n q hq
      omega
    · obtain ⟨a, b, c⟩ := best_first n h
      exact ⟨by omega, b, c⟩

theorem rule_100 (t : ByteArray) (i : Nat) (op : Bool) (hi : i < t.size) : ∀ q, ruleN t i op q ≤ 100 := by
  have hw := win_sz t i
  intro q
  match q with
  | 0 => have := nameN_le (winB t i); simp only [ruleN]; omega
  | 1 => have := intN_le (winB t i) (aheadB t i) op (by omega); simp only [ruleN]; omega
  | 2 => have := keyN_le t i (winB t i); simp only [ruleN]; omega
  | 3 => simp only [ruleN, hashN]; split <;> omega
  | 4 => have := signN_le (winB t i); simp only [ruleN]; omega
  | q + 5 => have := patN_le t i (winB t i); simp only [ruleN]; omega

theorem int_op {s : ByteArray} {c : UInt8} {op op' : Bool} (h : c ≠ 45) : intN s c op = intN s c op' := by
  have : (c == 45) = false := by simpa using h
  unfold intN
  rw [this, Bool.false_and, Bool.false_and]

theorem int_minus_op {s : ByteArray} (h : aheadB s 0 = 45) : intN s 45 true = 0 := by
  have h0 := aheadB_pos (s := s) (k := 0) (by rw [h]; decide)
  have hs := rest_size s 0
  unfold intN
  change (if ((45 : UInt8) == 45 && !true) = true then (if runN bD (restB s 1) 0 = 0 then 0 else 1 + runN bD (restB s 1) 0) else runN bD (restB s 0) 0) = 0
  rw [if_neg (by decide), runN_no (s := restB s 0) (by omega) (by rw [← aheadB_lt (by omega), ahead_rest, h]; decide)]

theorem next_stop {t u : ByteArray} {i j k l : Nat} {op op' : Bool} (hi : i < t.size) (hn : nextR t i op = .ok (k, l)) (hk : isTok k = true) (hj : j + l ≤ u.size) (he : ∀ q, q < l → aheadB u (j + q) = aheadB t (i + q))
    (hs : Stop (aheadB u (j + l))) (hop : op' = op ∨ k ≠ 2 ∨ aheadB t i ≠ 45) : nextR u j op' = .ok (k, l) := by
  have hbd := next_bounds hi hn
  simp only at hbd
  obtain ⟨_, _, hl1, hlt⟩ := hbd
  have hju : j < u.size := by omega
  have hb := next_tok hn hk
  have hk1 : k = (k - 1) + 1 := by simp only [isTok, Bool.and_eq_true, decide_eq_true_eq] at hk; omega
  obtain ⟨w, hw⟩ : ∃ w, w = k - 1 := ⟨_, rfl⟩
  rw [← hw] at hk1
  subst hk1
  obtain ⟨hw6, hwl, hfirst⟩ := best_first 6 hb
  have hl100 : l ≤ 100 := by rw [← hwl]; exact rule_100 t i op hi w
  obtain ⟨s, hse⟩ : ∃ s, s = cutB t i l := ⟨_, rfl⟩
  have hsz : s.size = l := by rw [hse, cutB, ByteArray.size_extract]; omega
  have hst : ∀ q, q < s.size → aheadB t (i + q) = aheadB s q := fun q hq => by rw [hse, cutB, ahead_part (by omega) (by omega)]
  have hsu : ∀ q, q < s.size → aheadB u (j + q) = aheadB s q := fun q hq => by rw [he q (by omega)]; exact hst q hq
  have hwt := win_sz t i
  have hwu := win_sz u j
  have ART : Agree s (restB t i) s.size := ⟨Nat.le_refl _, by rw [rest_size]; omega, fun q hq => by rw [ahead_rest]; exact (hst q hq).symm⟩
  have ARU : Agree s (restB u j) s.size := ⟨Nat.le_refl _, by rw [rest_size]; omega, fun q hq => by rw [ahead_rest]; exact (hsu q hq).symm⟩
  have AWT : Agree s (winB t i) s.size := ⟨Nat.le_refl _, by omega, fun q hq => by unfold winB; rw [ahead_part (by omega) (by omega)]; exact (hst q hq).symm⟩
  have AWU : Agree s (winB u j) s.size := ⟨Nat.le_refl _, by omega, fun q hq => by unfold winB; rw [ahead_part (by omega) (by omega)]; exact (hsu q hq).symm⟩
  have SR : Stop (aheadB (restB u j) s.size) := by rw [ahead_rest, hsz]; exact hs
  have SW : Stop (aheadB (winB u j) s.size) := by
    by_cases e : s.size < (winB u j).size
    · unfold winB at e ⊢
      rw [ByteArray.size_extract] at e
      rw [ahead_part (by omega) (by omega), hsz]; exact hs
    · rw [aheadB_ge (by omega)]; exact Or.inl rfl
  have h0 : aheadB u j = aheadB t i := by have := he 0 (by omega); simpa using this
  have hs0 : aheadB t i = aheadB s 0 := by have := hst 0 (by omega); simpa using this
  have hWT0 : aheadB (winB t i) 0 = aheadB s 0 := (AWT.eq 0 (by omega)).symm
  have hWU0 : aheadB (winB u j) 0 = aheadB s 0 := (AWU.eq 0 (by omega)).symm
  have C1 : ∀ q, ruleN u j op' q ≤ s.size := by
    intro q
    match q with
    | 0 => exact name_at AWU.b SW
    | 1 => exact int_at _ _ (by omega) AWU.b SW
    | 2 => exact key_at AWU.b SW
    | 3 => exact hash_at (by omega) SR
    | 4 => exact sign_at (by omega) SW
    | q + 5 => exact pat_at (by omega) AWU.b SW
  rw [← hsz] at hwl hfirst hb
  have C2 : ruleN u j op' w = s.size := by
    refine Nat.le_antisymm (C1 w) ?_
    have hw' : w = 0 ∨ w = 1 ∨ w = 2 ∨ w = 3 ∨ w = 4 ∨ w = 5 := by omega
    rcases hw' with rfl | rfl | rfl | rfl | rfl | rfl
    · exact name_full AWU (by omega) (name_cut AWT (by omega) hwl)
    · have hc := int_cut AWT _ _ (by omega) (show intN (winB t i) (aheadB t i) op = s.size from hwl)
      show s.size ≤ intN (winB u j) (aheadB u j) op'
      rw [h0]
      by_cases h45 : aheadB t i = 45
      · have ho : op' = op := by rcases hop with h | h | h; exact h; exact absurd rfl h; exact absurd h45 h
        subst ho
        cases op' with
        | true =>
          rw [h45, int_minus_op (by rw [← hs0]; exact h45)] at hc; omega
        | false => rw [← hc]; exact int_full AWU _ _ (fun h => by cases h)
      · rw [int_op (op' := false) h45] at hc ⊢
        exact Nat.le_trans (Nat.le_of_eq hc.symm) (int_full AWU _ _ (fun h => by cases h))
    · obtain ⟨k1, k2, k3⟩ := key_cut AWT (by omega) (show keyN t i (winB t i) = s.size from hwl)
      exact Nat.le_of_eq (key_same AWU k1 k2 k3 (by rw [hsz]; exact hs.joins)).symm
    · exact Nat.le_of_eq (hash_same ART ARU (by omega) hwl).symm
    · exact Nat.le_of_eq (sign_same AWT AWU (by omega) hwl (C1 4)).symm
    · exact pat_full AWU hsu (by omega) (pat_cut AWT hst (by omega) hwl)
  have C3 : ∀ q, q < w → ruleN u j op' q < s.size := by
    intro q hq
    have h1 := C1 q
    have h2 := hfirst q hq
    refine Nat.lt_of_le_of_ne h1 fun e => ?_
    have hq' : q = 0 ∨ q = 1 ∨ q = 2 ∨ q = 3 ∨ q = 4 := by omega
    rcases hq' with rfl | rfl | rfl | rfl | rfl
    · have := name_full AWT (by omega) (name_cut AWU (by omega) (show nameN (winB u j) = s.size from e))
      have h2' : nameN (winB t i) < s.size := h2
      omega
    · have hc := int_cut AWU _ _ (by omega) (show intN (winB u j) (aheadB u j) op' = s.size from e)
      have h2' : intN (winB t i) (aheadB t i) op < s.size := h2
      rw [h0] at hc
      by_cases h45 : aheadB t i = 45
      · cases op' with
        | true => rw [h45, int_minus_op (by rw [← hs0]; exact h45)] at hc; omega
        | false =>
          cases op with
          | true =>
            have hm := minus_one hi h45 w
            have : s.size = 1 := by omega
            rw [h45] at hc
            unfold intN at hc
            rw [if_pos (by decide)] at hc
            split at hc <;> omega
          | false =>
            have := int_full AWT (aheadB t i) false (fun h => by cases h)
            omega
      · rw [int_op (op' := false) h45] at hc
        have := int_full AWT (aheadB t i) op (fun _ => by simpa using h45)
        omega
    · obtain ⟨k1, k2, k3⟩ := key_cut AWU (by omega) (show keyN u j (winB u j) = s.size from e)
      have hfb : (bL (aheadB s 0) || bB (aheadB s 0)) = true := by
        unfold plainN at k1
        rw [dif_pos (show 0 < s.size by omega)] at k1
        rw [aheadB_lt (show 0 < s.size by omega)]
        by_cases hx : (bL s[0] || bB s[0]) = true
        · exact hx
        · rw [if_neg hx] at k1; exact absurd rfl k1
      have hw' : w = 3 ∨ w = 4 ∨ w = 5 := by omega
      rcases hw' with rfl | rfl | rfl
      · rw [hash_first ART (by omega) hwl] at hfb; exact absurd hfb (by decide)
      · have hwl' : signN (winB t i) = s.size := hwl
        have hle2 : signN (winB t i) ≤ 2 := by unfold signN; split <;> (try split) <;> omega
        have hs2 : s.size = 2 := by omega
        have hx := sgn_two AWT hs2 (by omega)
        have hp1 : plainN s = 1 := by omega
        rw [hp1] at k3
        rw [k3] at hx
        simp only [signTwo, Bool.or_eq_true, beq_iff_eq, List.cons.injEq] at hx
        rcases hx with ((((hx | hx) | hx) | hx) | hx) | hx
        · exact absurd hx.2.1 (by decide)
        · rw [hx.1] at hfb; exact absurd hfb (by decide)
        · exact absurd hx.2.1 (by decide)
        · exact absurd hx.2.1 (by decide)
        · exact absurd hx.2.1 (by decide)
        · exact absurd hx.2.1 (by decide)
      · have := pat_ge (t := t) (i := i) (s := winB t i) (by rw [show patN t i (winB t i) = s.size from hwl]; omega)
        rw [← hWT0, this.2] at hfb; exact absurd hfb (by decide)
    · have := hash_same ARU ART (by omega) (show hashN (restB u j) = s.size from e)
      have h2' : hashN (restB t i) < s.size := h2
      omega
    · have hw5 : w = 5 := by omega
      subst hw5
      have hp := pat_ge (t := t) (i := i) (s := winB t i) (by rw [show patN t i (winB t i) = s.size from hwl]; omega)
      rw [show patN t i (winB t i) = s.size from hwl] at hp
      have e' : signN (winB u j) = s.size := e
      have hle2 : signN (winB u j) ≤ 2 := by unfold signN; split <;> (try split) <;> omega
      have hs2 : s.size = 2 := by omega
      have hx := sgn_two AWU hs2 (by omega)
      rw [← hWT0, hp.2] at hx
      simp [signTwo] at hx
  have hB : bestTo (ruleN u j op') 6 = (w + 1, s.size) := best_eq (by omega) C1 C2 C3 6 hw6
  have hcut : cutB u j s.size = s := by
    refine ext_ahead (by unfold cutB; rw [ByteArray.size_extract]; omega) (fun q hq => ?_)
    unfold cutB at hq ⊢
    rw [ByteArray.size_extract] at hq
    rw [ahead_part (by omega) (by omega)]
    exact hsu q (by omega)
  have hfault : faultN u j (w + 1) s.size = 0 := by
    have hft : faultN t i (w + 1) s.size = 0 := by
      unfold nextR at hn
      split at hn
      · simp only [Except.ok.injEq, Prod.mk.injEq] at hn; omega
      · split at hn
        · split at hn
          · simp only [Except.ok.injEq, Prod.mk.injEq] at hn; omega
          · cases hn
        · split at hn
          · simp only [Except.ok.injEq, Prod.mk.injEq] at hn; omega
          · split at hn
            · rename_i hf
              rw [hb] at hf; exact hf
            · cases hn
    have hct : cutB t i s.size = s := by rw [hsz]; exact hse.symm
    unfold faultN at hft ⊢
    rw [hcut]
    rw [hct] at hft
    rw [hsz] at *
    rw [hs.spoils, hs.w]
    split
    · rename_i h2
      rw [if_pos h2] at hft
      split at hft
      · rename_i h3
        rw [Bool.and_eq_true] at h3
        rw [h3.1]; rfl
      · cases hft
    · rename_i h2
      rw [if_neg h2] at hft
      split
      · rw [if_neg (by simp)]
      · rename_i h4
        rw [if_neg h4] at hft
        split
        · rename_i h5; rw [if_pos h5] at hft; exact hft
        · rw [if_neg (by omega)]
  have hnb : bBlank (aheadB u j) = false ∧ Lib.hasPrefix (restB u j).data.toList [47, 47] = false ∧ Lib.hasPrefix (restB u j).data.toList [47, 42] = false := by
    have hnt : bBlank (aheadB t i) = false ∧ Lib.hasPrefix (restB t i).data.toList [47, 47] = false ∧ Lib.hasPrefix (restB t i).data.toList [47, 42] = false := by
      unfold nextR at hn
      split at hn
      · simp only [Except.ok.injEq, Prod.mk.injEq] at hn; omega
      · rename_i p1
        split at hn
        · split at hn
          · simp only [Except.ok.injEq, Prod.mk.injEq] at hn; omega
          · cases hn
        · rename_i p2
          split at hn
          · simp only [Except.ok.injEq, Prod.mk.injEq] at hn; omega
          · rename_i p3
            exact ⟨by simpa using p3, by simpa using p1, by simpa using p2⟩
    refine ⟨by rw [h0]; exact hnt.1, ?_, ?_⟩
    all_goals
      by_cases h2 : 2 ≤ s.size
      · have e0 : (restB t i).data.toList[0]? = (restB u j).data.toList[0]? := (ART.list 0 (by omega)).symm.trans (ARU.list 0 (by omega))
        have e1 : (restB t i).data.toList[1]? = (restB u j).data.toList[1]? := (ART.list 1 (by omega)).symm.trans (ARU.list 1 (by omega))
        rw [← prefix_two _ _ _ _ e0 e1]
        first | exact hnt.2.1 | exact hnt.2.2
      · apply Bool.eq_false_iff.2
        intro hx
        simp only [Lib.hasPrefix, List.isPrefixOf_iff_prefix] at hx
        have hlen := hx.length_le
        simp at hlen
        obtain ⟨z, hz⟩ := hx
        have e1 : (restB u j).data.toList[1]? = some (aheadB (restB u j) 1) := by rw [Array.getElem?_toList]; exact ahead_data (by omega)
        rw [← hz] at e1
        simp at e1
        rw [show s.size = 1 by omega] at SR
        exact SR.ne _ (by decide) (by decide) e1.symm
  unfold nextR
  rw [hnb.1, hnb.2.1, hnb.2.2, hB]
  simp only [Bool.false_eq_true, if_false]
  rw [if_pos hfault, hsz]

theorem plainGo_last (s : ByteArray) : ∀ (f i : Nat) (has : Bool) (b : Nat), s.size - i ≤ f → plainGo s i has b = b ∨ (i + 1 ≤ plainGo s i has b ∧ bW (aheadB s (plainGo s i has b - 1)) = true) := by
  intro f
  induction f with
  | zero => intro i has b hf; left; rw [plainGo_end (by omega)]
  | succ f ih =>
    intro i has b hf
    by_cases hlt : i < s.size
    · cases hp : bW s[i] with
      | false => left; rw [plainGo_no hlt hp]
      | true =>
        rw [plainGo_go hlt hp]
        by_cases hc : ((has || bL s[i]) && bF s[i]) = true
        · rw [if_pos hc]
          right
          rcases ih (i + 1) (has || bL s[i]) (i + 1) (by omega) with e | ⟨e1, e2⟩
          · rw [e]; exact ⟨Nat.le_refl _, by rw [Nat.add_sub_cancel, aheadB_lt hlt]; exact hp⟩
          · exact ⟨by omega, e2⟩
        · rw [if_neg hc]
          rcases ih (i + 1) (has || bL s[i]) b (by omega) with e | ⟨e1, e2⟩
          · left; exact e
          · right; exact ⟨by omega, e2⟩
    · left; rw [plainGo_end hlt]
theorem plain_last {s : ByteArray} (h : plainN s ≠ 0) : bW (aheadB s (plainN s - 1)) = true := by
  unfold plainN at h ⊢
  by_cases h0 : 0 < s.size
  · rw [dif_pos h0] at h ⊢
    by_cases hx : (bL s[0] || bB s[0]) = true
    · rw [if_pos hx] at h ⊢
      rcases plainGo_last s _ 0 false 0 (Nat.le_refl _) with e | ⟨_, e⟩
      · exact absurd e h
      · exact e
    · rw [if_neg hx] at h; exact absurd rfl h
  · rw [dif_neg h0] at h; exact absurd rfl h
theorem run_every {p : UInt8 → Bool} {s : ByteArray} : ∀ (f k q : Nat), s.size - k ≤ f → k ≤ q → q < runN p s k → p (aheadB s q) = true := by
  intro f
  induction f with
  | zero => intro k q hf hk hq; rw [runN_end (by omega)] at hq; omega
  | succ f ih =>
    intro k q hf hk hq
    by_cases hlt : k < s.size
    · cases hp : p s[k] with
      | false => rw [runN_no hlt hp] at hq; omega
      | true =>
        rw [runN_go hlt hp] at hq
        by_cases e : q = k
        · subst e; rw [aheadB_lt hlt]; exact hp
        · exact ih (k + 1) q (by omega) (by omega) hq
    · rw [runN_end hlt] at hq; omega

/-- Two texts are the same up to a place N, where the second one has a blank (or ends); no colon just ahead of N has been joined with what was behind it. -/
structure Shut (t u : ByteArray) (N : Nat) : Prop where
  agree : Agree t u N
  stop : Stop (aheadB u N)
  col : aheadB t (N - 1) = 58 → bW (aheadB t (N - 2)) = true → joinsB (aheadB t N) = false

theorem ahead_win {t : ByteArray} {i q : Nat} (h : q < (winB t i).size) : aheadB (winB t i) q = aheadB t (i + q) := by
  unfold winB at h ⊢
  rw [ByteArray.size_extract] at h
  rw [ahead_part (by omega) (by omega)]

set_option maxHeartbeats 1000000 in
/-- No rule takes more of the second text. -/
theorem rule_shut {t u : ByteArray} {N i : Nat} {op : Bool} (h : Shut t u N) (hi : i < N) (q : Nat) : ruleN u i op q ≤ ruleN t i op q := by
  have h1 := h.agree.a; have h2 := h.agree.b
  have hwt := win_sz t i
  have hwu := win_sz u i
  obtain ⟨m, hm⟩ : ∃ m, m = ruleN u i op q := ⟨_, rfl⟩
  rw [← hm]
  by_cases h0 : m = 0
  · omega
  have hm100 : m ≤ 100 := by rw [hm]; exact rule_100 u i op (by omega) q
  -- the stop, as the window and the rest see it
  have SR : Stop (aheadB (restB u i) (N - i)) := by rw [ahead_rest, show i + (N - i) = N by omega]; exact h.stop
  have SW : N - i ≤ (winB u i).size → Stop (aheadB (winB u i) (N - i)) := by
    intro _
    by_cases e : N - i < (winB u i).size
    · rw [ahead_win e, show i + (N - i) = N by omega]; exact h.stop
    · rw [aheadB_ge (by omega)]; exact Or.inl rfl
  have hmN : m ≤ N - i := by
    by_cases e : N - i ≤ (winB u i).size
    · rw [hm]
      match q with
      | 0 => exact name_at e (SW e)
      | 1 => exact int_at _ _ (by omega) e (SW e)
      | 2 => exact key_at e (SW e)
      | 3 => exact hash_at (by omega) SR
      | 4 => exact sign_at (by omega) (SW e)
      | q + 5 => exact pat_at (by omega) e (SW e)
    · omega
  have ha : ∀ x, x < N → aheadB t x = aheadB u x := fun x hx => h.agree.eq x hx
  obtain ⟨s, hse⟩ : ∃ s, s = cutB u i m := ⟨_, rfl⟩
  have hsz : s.size = m := by rw [hse, cutB, ByteArray.size_extract]; omega
  have hsu : ∀ x, x < s.size → aheadB u (i + x) = aheadB s x := fun x hx => by rw [hse, cutB, ahead_part (by omega) (by omega)]
  have hst : ∀ x, x < s.size → aheadB t (i + x) = aheadB s x := fun x hx => by rw [ha _ (by omega)]; exact hsu x hx
  have ART : Agree s (restB t i) s.size := ⟨Nat.le_refl _, by rw [rest_size]; omega, fun q hq => by rw [ahead_rest]; exact (hst q hq).symm⟩
  have ARU : Agree s (restB u i) s.size := ⟨Nat.le_refl _, by rw [rest_size]; omega, fun q hq => by rw [ahead_rest]; exact (hsu q hq).symm⟩
  have AWT : Agree s (winB t i) s.size := ⟨Nat.le_refl _, by omega, fun q hq => by rw [ahead_win (by omega)]; exact (hst q hq).symm⟩
  have AWU : Agree s (winB u i) s.size := ⟨Nat.le_refl _, by omega, fun q hq => by rw [ahead_win (by omega)]; exact (hsu q hq).symm⟩
  rw [← hsz] at hm ⊢
  match q, hm with
  | 0, hm => exact name_full AWT (by omega) (name_cut AWU (by omega) hm.symm)
  | 1, hm =>
    have hc := int_cut AWU _ _ (by omega) (show intN (winB u i) (aheadB u i) op = s.size from hm.symm)
    show s.size ≤ intN (winB t i) (aheadB t i) op
    rw [← ha i hi] at hc
    by_cases h45 : aheadB t i = 45
    · cases op with
      | true =>
        rw [h45, int_minus_op (by rw [← hst 0 (by omega)]; exact h45)] at hc; omega
      | false => rw [← hc]; exact int_full AWT _ _ (fun h => by cases h)
    · rw [int_op (op' := false) h45] at hc ⊢
      exact Nat.le_trans (Nat.le_of_eq hc.symm) (int_full AWT _ _ (fun h => by cases h))
  | 2, hm =>
    have hm' : keyN u i (winB u i) = s.size := hm.symm
    obtain ⟨k1, k2, k3⟩ := key_cut AWU (by omega) hm'
    refine Nat.le_of_eq (key_same AWT k1 k2 k3 ?_).symm
    by_cases e : i + s.size < N
    · rw [ha _ e]
      have hp : plainN (winB u i) = plainN s := by
        have hq : plainN s < s.size := by omega
        have hx : s[plainN s] = 58 := by rw [← aheadB_lt hq]; exact k3
        have hr := run_to (p := bW) _ 0 _ (Nat.le_refl _) (by omega) hq (by rw [hx]; decide)
        exact plain_stop AWU (by omega)
      unfold keyN at hm'
      rw [hp, if_neg k1] at hm'
      split at hm'
      · split at hm'
        · omega
        · rename_i hj
          rw [show i + s.size = i + (plainN s + 1) by omega]
          simpa using hj
      · omega
    · have hN : N = i + s.size := by omega
      have hl := plain_last k1
      rw [← hN]
      refine h.col ?_ ?_
      · rw [show N - 1 = i + plainN s by omega, hst _ (by omega)]; exact k3
      · rw [show N - 2 = i + (plainN s - 1) by omega, hst _ (by omega)]; exact hl
  | 3, hm => exact Nat.le_of_eq (hash_same ARU ART (by omega) hm.symm).symm
  | 4, hm =>
    by_cases h2 : 2 ≤ s.size
    · have e : (winB t i).extract 0 (min 2 (winB t i).size) = (winB u i).extract 0 (min 2 (winB u i).size) := by
        have a1 := AWT.b; have a2 := AWU.b
        rw [show min 2 (winB t i).size = 2 by omega, show min 2 (winB u i).size = 2 by omega]; exact (AWT.ext (a := 0) h2).symm.trans (AWU.ext (a := 0) h2)
      have : signN (winB t i) = signN (winB u i) := by unfold signN; rw [e, ← AWT.eq 0 (by omega), ← AWU.eq 0 (by omega)]
      have hm' : s.size = signN (winB u i) := hm
      show s.size ≤ signN (winB t i)
      omega
    · have hm' : signN (winB u i) = s.size := hm.symm
      show s.size ≤ signN (winB t i)
      have e0 : aheadB (winB u i) 0 = aheadB (winB t i) 0 := (AWU.eq 0 (by omega)).symm.trans (AWT.eq 0 (by omega))
      unfold signN at hm' ⊢
      rw [← e0]
      split at hm'
      · omega
      · split at hm'
        · rename_i hx
          rw [if_pos hx]
          split <;> omega
        · omega
  | q + 5, hm => exact pat_full AWT hst (by omega) (pat_cut AWU hsu (by omega) (show patN u i (winB u i) = s.size from hm.symm))

set_option maxHeartbeats 1000000 in
/-- The rule that won in the first text takes as much of the second one. -/
theorem rule_won {t u : ByteArray} {N i l w : Nat} {op : Bool} (h : Shut t u N) (hi : i < N) (hl : 1 ≤ l) (hlN : i + l ≤ N) (hw : ruleN t i op w = l) : l ≤ ruleN u i op w := by
  have h1 := h.agree.a; have h2 := h.agree.b
  have hwt := win_sz t i
  have hwu := win_sz u i
  have hl100 : l ≤ 100 := by rw [← hw]; exact rule_100 t i op (by omega) w
  have ha : ∀ x, x < N → aheadB t x = aheadB u x := fun x hx => h.agree.eq x hx
  obtain ⟨s, hse⟩ : ∃ s, s = cutB t i l := ⟨_, rfl⟩
  have hsz : s.size = l := by rw [hse, cutB, ByteArray.size_extract]; omega
  have hst : ∀ x, x < s.size → aheadB t (i + x) = aheadB s x := fun x hx => by rw [hse, cutB, ahead_part (by omega) (by omega)]
  have hsu : ∀ x, x < s.size → aheadB u (i + x) = aheadB s x := fun x hx => by rw [← ha _ (by omega)]; exact hst x hx
  have ART : Agree s (restB t i) s.size := ⟨Nat.le_refl _, by rw [rest_size]; omega, fun q hq => by rw [ahead_rest]; exact (hst q hq).symm⟩
  have ARU : Agree s (restB u i) s.size := ⟨Nat.le_refl _, by rw [rest_size]; omega, fun q hq => by rw [ahead_rest]; exact (hsu q hq).symm⟩
  have AWT : Agree s (winB t i) s.size := ⟨Nat.le_refl _, by omega, fun q hq => by rw [ahead_win (by omega)]; exact (hst q hq).symm⟩
  have AWU : Agree s (winB u i) s.size := ⟨Nat.le_refl _, by omega, fun q hq => by rw [ahead_win (by omega)]; exact (hsu q hq).symm⟩
  rw [← hsz] at hw ⊢
  match w, hw with
  | 0, hm => exact name_full AWU (by omega) (name_cut AWT (by omega) hm)
  | 1, hm =>
    have hc := int_cut AWT _ _ (by omega) (show intN (winB t i) (aheadB t i) op = s.size from hm)
    show s.size ≤ intN (winB u i) (aheadB u i) op
    rw [← ha i hi]
    by_cases h45 : aheadB t i = 45
    · cases op with
      | true =>
        rw [h45, int_minus_op (by rw [← hst 0 (by omega)]; exact h45)] at hc; omega
      | false => rw [← hc]; exact int_full AWU _ _ (fun h => by cases h)
    · rw [int_op (op' := false) h45] at hc ⊢
      exact Nat.le_trans (Nat.le_of_eq hc.symm) (int_full AWU _ _ (fun h => by cases h))
  | 2, hm =>
    have hm' : keyN t i (winB t i) = s.size := hm
    obtain ⟨k1, k2, k3⟩ := key_cut AWT (by omega) hm'
    refine Nat.le_of_eq (key_same AWU k1 k2 k3 ?_).symm
    by_cases e : i + s.size < N
    · rw [← ha _ e]
      have hp : plainN (winB t i) = plainN s := by
        have hq : plainN s < s.size := by omega
        have hx : s[plainN s] = 58 := by rw [← aheadB_lt hq]; exact k3
        have hr := run_to (p := bW) _ 0 _ (Nat.le_refl _) (by omega) hq (by rw [hx]; decide)
        exact plain_stop AWT (by omega)
      unfold keyN at hm'
      rw [hp, if_neg k1] at hm'
      split at hm'
      · split at hm'
        · omega
        · rename_i hj
          rw [show i + s.size = i + (plainN s + 1) by omega]
          simpa using hj
      · omega
    · rw [show i + s.size = N by omega]; exact h.stop.joins
  | 3, hm => exact Nat.le_of_eq (hash_same ART ARU (by omega) hm).symm
  | 4, hm =>
    have hs' := rule_shut (op := op) h hi 4
    exact Nat.le_of_eq (sign_same AWT AWU (by omega) hm (by rw [← hm]; exact hs')).symm
  | q + 5, hm => exact pat_full AWU hsu (by omega) (pat_cut AWT hst (by omega) hm)

theorem pre_false {t u : ByteArray} {N i : Nat} (h : Shut t u N) (hi : i < N) {b : UInt8} (h0 : b ≠ 0) (h32 : b ≠ 32) (hf : Lib.hasPrefix (restB t i).data.toList [47, b] = false) : Lib.hasPrefix (restB u i).data.toList [47, b] = false := by
  by_cases e : i + 1 < N
  · have hr := h.agree.rest i
    rw [← prefix_two 47 b _ _ (hr.list 0 (by omega)) (hr.list 1 (by omega))]; exact hf
  · apply Bool.eq_false_iff.2
    intro hx
    simp only [Lib.hasPrefix, List.isPrefixOf_iff_prefix] at hx
    have hlen := hx.length_le
    simp at hlen
    obtain ⟨z, hz⟩ := hx
    have e1 : (restB u i).data.toList[1]? = some (aheadB (restB u i) 1) := by rw [Array.getElem?_toList]; exact ahead_data (by omega)
    rw [← hz, ahead_rest, show i + 1 = N by omega] at e1
    simp at e1
    exact h.stop.ne _ h0 h32 e1.symm

set_option maxHeartbeats 1000000 in
/-- The pieces ahead of N stand in the second text, too; blanks and comments up to the end of the line have to end ahead of N. -/
theorem next_shut {t u : ByteArray} {N i k l : Nat} {op : Bool} (h : Shut t u N) (hn : nextR t i op = .ok (k, l)) (hi : i < N) (hN : i + l ≤ N) (hlast : i + l = N → k ≠ 7 ∧ (k = 8 → aheadB t (i + 1) ≠ 47)) : nextR u i op = .ok (k, l) := by
  have h1 := h.agree.a; have h2 := h.agree.b
  have hbd := next_bounds (by omega) hn
  simp only at hbd
  have hr := h.agree.rest i
  have ea : ∀ j, j < N → aheadB u j = aheadB t j := fun j hj => (h.agree.eq j hj).symm
  unfold nextR at hn ⊢
  split at hn
  · rename_i hp
    simp only [Except.ok.injEq, Prod.mk.injEq] at hn
    obtain ⟨rfl, hl⟩ := hn
    have hb := line_bounds hp
    have e1 : aheadB t (i + 1) = 47 := by
      simp only [Lib.hasPrefix, List.isPrefixOf_iff_prefix] at hp
      have hlen := hp.length_le
      simp at hlen
      obtain ⟨z, hz⟩ := hp
      have e1 : (restB t i).data.toList[1]? = some (aheadB (restB t i) 1) := by rw [Array.getElem?_toList]; exact ahead_data (by omega)
      rw [← hz, ahead_rest] at e1
      simp at e1
      exact e1.symm
    have hlt : i + l < N := by
      apply Nat.lt_of_le_of_ne hN
      intro e
      exact (hlast e).2 rfl e1
    rw [← prefix_two 47 47 _ _ (hr.list 0 (by omega)) (hr.list 1 (by omega)), if_pos hp]
    simp only [Except.ok.injEq, Prod.mk.injEq, true_and]
    unfold lineN at hl ⊢
    split at hl
    · have hx := indexByte_agree 10 _ (restB u i).data.toList (N - i) l (fun j hj => hr.list j hj) (by omega) (by omega)
      rw [hx]; simp
    · rw [rest_size] at hl; omega
  · rename_i hp
    split at hn
    · rename_i hp2
      split at hn
      · rename_i n hM
        simp only [Except.ok.injEq, Prod.mk.injEq] at hn
        obtain ⟨rfl, rfl⟩ := hn
        have hb := nested_ge _ _ 0 0 n (Nat.le_refl _) hM
        rw [← prefix_two 47 47 _ _ (hr.list 0 (by omega)) (hr.list 1 (by omega)), ← prefix_two 47 42 _ _ (hr.list 0 (by omega)) (hr.list 1 (by omega)), if_neg hp, if_pos hp2, nested_agree hr _ 0 0 n (Nat.le_refl _) hM (by omega)]
      · cases hn
    · rename_i hp2
      rw [pre_false h hi (by decide) (by decide) (by simpa using hp), pre_false h hi (by decide) (by decide) (by simpa using hp2), ea i hi]
      simp only [Bool.false_eq_true, if_false]
      split at hn
      · rename_i hb
        rw [if_pos hb]
        simp only [Except.ok.injEq, Prod.mk.injEq] at hn
        obtain ⟨rfl, hl⟩ := hn
        have hlt : i + l < N := Nat.lt_of_le_of_ne hN fun e => (hlast e).1 rfl
        simp only [Except.ok.injEq, Prod.mk.injEq, true_and]
        unfold blanksN at hl ⊢
        rw [run_agree h.agree bBlank _ (i + 1) (Nat.le_refl _) (by omega)]; exact hl
      · rename_i hb
        rw [if_neg hb]
        split at hn
        · rename_i hf
          have hbt : bestTo (ruleN t i op) 6 = (k, l) := by simpa using hn
          obtain ⟨w, rfl⟩ : ∃ w, k = w + 1 := ⟨k - 1, by omega⟩
          obtain ⟨b1, b2, b3⟩ := best_first 6 hbt
          have hB : bestTo (ruleN u i op) 6 = (w + 1, l) := by
            have hb6 : ∀ q, q < 6 → ruleN u i op q ≤ l := fun q hq => by
              have := best_ge (ruleN t i op) 6 q hq
              rw [hbt] at this
              exact Nat.le_trans (rule_shut h hi q) this
            refine best_eq (m := ruleN u i op) (by omega) (fun q => ?_) (Nat.le_antisymm (hb6 w b1) (rule_won h hi (by omega) hN b2)) (fun q hq => Nat.lt_of_le_of_lt (rule_shut h hi q) (b3 q hq)) 6 b1
            by_cases hq : q < 6
            · exact hb6 q hq
            · obtain ⟨q', rfl⟩ : ∃ q', q = q' + 5 := ⟨q - 5, by omega⟩
              exact hb6 5 (by omega)
          rw [hbt] at hf
          rw [hB]
          have ef : faultN u i (w + 1) l = 0 := by
            by_cases e : i + l < N
            · unfold faultN cutB at hf ⊢
              rw [ea i hi, ea _ e, ← h.agree.ext hN]; exact hf
            · have hst := h.stop
              rw [show N = i + l by omega] at hst
              unfold faultN cutB at hf ⊢
              rw [ea i hi, ← h.agree.ext hN, hst.spoils, hst.w]
              split
              · rename_i h2
                rw [if_pos h2] at hf
                split at hf
                · rename_i h3
                  rw [Bool.and_eq_true] at h3
                  rw [h3.1]; rfl
                · cases hf
              · rename_i h2
                rw [if_neg h2] at hf
                split
                · rw [if_neg (by simp)]
                · rename_i h4
                  rw [if_neg h4] at hf; exact hf
          rw [if_pos ef]
        · cases hn

theorem nested_last (s : ByteArray) : ∀ (f i : Nat) (m : Int) (n : Nat), s.size - i ≤ f → nestedGo s i m = .ok n → aheadB s (n - 1) = 47 := by
  intro f
  induction f with
  | zero => intro i m n hf h; rw [nested_end (by omega)] at h; cases h
  | succ f ih =>
    intro i m n hf h
    by_cases hi : i < s.size
    · cases ho : ((s.extract i (min (i + 2) s.size)).toList == [47, 42])
      · cases hc : ((s.extract i (min (i + 2) s.size)).toList == [42, 47])
        · rw [nested_on hi ho hc] at h; exact ih _ _ _ (by omega) h
        · cases hz : (m - 1 == 0)
          · rw [nested_less hi ho hc hz] at h; exact ih _ _ _ (by omega) h
          · rw [nested_shut hi ho hc hz] at h
            simp only [Except.ok.injEq] at h
            subst h
            have e := beq_iff_eq.1 hc
            have hlen := congrArg List.length e
            rw [ByteArray.toList_eq] at hlen e
            simp at hlen
            have e1 : (s.extract i (min (i + 2) s.size)).data.toList[1]? = some (aheadB s (i + 1)) := by
              rw [Array.getElem?_toList, ahead_data (by rw [ByteArray.size_extract]; omega), ahead_part (by omega) (by omega)]
            rw [e] at e1
            simp at e1
            rw [show i + 2 - 1 = i + 1 by omega]; exact e1.symm
      · by_cases hd : 100 < m + 1
        · rw [nested_deep hi ho hd] at h; cases h
        · rw [nested_open hi ho hd] at h; exact ih _ _ _ (by omega) h
    · rw [nested_end hi] at h; cases h

/-- The last byte of a name, an integer, a pattern is no colon. -/
theorem name_tail {s : ByteArray} (h0 : 1 ≤ s.size) (hf : nameN s = s.size) : aheadB s (s.size - 1) ≠ 58 := by
  unfold nameN at hf
  split at hf
  · omega
  · rename_i hz
    change plainN s + libN (restB s (plainN s)) = s.size at hf
    by_cases hl : libN (restB s (plainN s)) = 0
    · have := plain_last hz
      rw [show s.size - 1 = plainN s - 1 by omega]
      intro e; rw [e] at this; exact absurd this (by decide)
    · have h2 := lib_two hl
      have hq : bQ (aheadB (restB s (plainN s)) (libN (restB s (plainN s)) - 1)) = true := by
        obtain ⟨m, hm⟩ : ∃ m, m = libN (restB s (plainN s)) := ⟨_, rfl⟩
        rw [← hm]
        rw [← hm] at h2
        unfold libN at hm
        split at hm
        · split at hm
          · split at hm
            · exact run_every _ 1 (m - 1) (Nat.le_refl _) (by omega) (by omega)
            · omega
          · omega
        · omega
      rw [ahead_rest] at hq
      rw [show s.size - 1 = plainN s + (libN (restB s (plainN s)) - 1) by omega]
      intro e; rw [e] at hq; exact absurd hq (by decide)
theorem int_tail {s : ByteArray} {c : UInt8} {op : Bool} (h0 : 1 ≤ s.size) (hf : intN s c op = s.size) : aheadB s (s.size - 1) ≠ 58 := by
  unfold intN at hf
  change (if (c == 45 && !op) = true then (if runN bD (restB s 1) 0 = 0 then 0 else 1 + runN bD (restB s 1) 0) else runN bD (restB s 0) 0) = s.size at hf
  split at hf
  · split at hf
    · omega
    · rename_i hz
      have := run_every (p := bD) (s := restB s 1) _ 0 (runN bD (restB s 1) 0 - 1) (Nat.le_refl _) (by omega) (by omega)
      rw [ahead_rest] at this
      rw [show s.size - 1 = 1 + (runN bD (restB s 1) 0 - 1) by omega]
      intro e; rw [e] at this; exact absurd this (by decide)
  · have := run_every (p := bD) (s := restB s 0) _ 0 (runN bD (restB s 0) 0 - 1) (Nat.le_refl _) (by omega) (by omega)
    rw [ahead_rest] at this
    rw [show s.size - 1 = 0 + (runN bD (restB s 0) 0 - 1) by omega]
    intro e; rw [e] at this; exact absurd this (by decide)
theorem pat_tail {s : ByteArray} (h0 : 1 ≤ s.size) (hf : patN s 0 s = s.size) : aheadB s (s.size - 1) ≠ 58 := by
  unfold patN at hf
  change (if aheadB s 0 = 63 then
    if plainN (restB s 1) = 0 then 0
    else if aheadB s (plainN (restB s 1) + 1) = 58 then
      if joinsB (aheadB s (0 + (plainN (restB s 1) + 1 + 1))) then plainN (restB s 1) + 1
      else if 0 < plainN (restB s (plainN (restB s 1) + 1 + 1)) then plainN (restB s 1) + 1 + 1 + plainN (restB s (plainN (restB s 1) + 1 + 1)) else plainN (restB s 1) + 1
    else plainN (restB s 1) + 1
  else 0) = s.size at hf
  have key : ∀ x, plainN (restB s x) ≠ 0 → x + plainN (restB s x) = s.size → aheadB s (s.size - 1) ≠ 58 := by
    intro x hz e
    have := plain_last hz
    rw [ahead_rest] at this
    rw [show s.size - 1 = x + (plainN (restB s x) - 1) by omega]
    intro e; rw [e] at this; exact absurd this (by decide)
  split at hf
  · split at hf
    · omega
    · rename_i hz
      split at hf
      · split at hf
        · exact key 1 hz (by omega)
        · split at hf
          · exact key _ (by omega) hf
          · exact key 1 hz (by omega)
      · exact key 1 hz (by omega)
  · omega

theorem nx_blank {t : ByteArray} {i : Nat} {op : Bool} (hi : i < t.size) (h : bBlank (aheadB t i) = true) : nextR t i op = .ok (7, blanksN t i) := by
  have hp : ∀ b, Lib.hasPrefix (restB t i).data.toList [47, b] = false := by
    intro b
    apply Bool.eq_false_iff.2
    intro hx
    simp only [Lib.hasPrefix, List.isPrefixOf_iff_prefix] at hx
    obtain ⟨z, hz⟩ := hx
    have e0 : (restB t i).data.toList[0]? = some (aheadB (restB t i) 0) := by rw [Array.getElem?_toList]; exact ahead_data (by rw [rest_size]; omega)
    rw [← hz, ahead_rest, Nat.add_zero] at e0
    simp at e0
    rw [← e0] at h
    exact absurd h (by decide)
  unfold nextR
  rw [hp, hp]
  simp only [Bool.false_eq_true, if_false]
  rw [if_pos h]
theorem blank_next {t : ByteArray} {i l : Nat} {op : Bool} (h : nextR t i op = .ok (7, l)) : bBlank (aheadB t i) = true ∧ l = blanksN t i := by
  unfold nextR at h
  split at h
  · simp at h
  · split at h
    · split at h <;> simp at h
    · split at h
      · rename_i hb
        simp only [Except.ok.injEq, Prod.mk.injEq, true_and] at h
        exact ⟨hb, h.symm⟩
      · split at h
        · rename_i hf
          simp only [Except.ok.injEq] at h
          have h6 := (bestTo_le (ruleN t i op) (bestTo (ruleN t i op) 6).2.succ.succ (fun k => ?_) 6).1
          · rw [h] at h6; simp only at h6; omega
          · by_cases hk : k < 6
            · have := best_ge (ruleN t i op) 6 k hk; omega
            · obtain ⟨q, rfl⟩ : ∃ q, k = q + 5 := ⟨k - 5, by omega⟩
              have := best_ge (ruleN t i op) 6 5 (by omega)
              have e : ruleN t i op (q + 5) = ruleN t i op 5 := rfl
              omega
        · cases h

theorem colon_last {t : ByteArray} {N p k l : Nat} {op : Bool} (hp : p < t.size) (hn : nextR t p op = .ok (k, l)) (hN : p + l = N) (hnl : k = 8 → aheadB t (p + 1) ≠ 47) : aheadB t (N - 1) = 58 → bW (aheadB t (N - 2)) = true → joinsB (aheadB t N) = false := by
  intro h58 hW
  have hbd := next_bounds hp hn
  simp only at hbd
  by_cases hk : isTok k = true
  · have hb := next_tok hn hk
    obtain ⟨w, rfl⟩ : ∃ w, k = w + 1 := ⟨k - 1, by omega⟩
    obtain ⟨b1, b2, b3⟩ := best_first 6 hb
    have hl100 : l ≤ 100 := by rw [← b2]; exact rule_100 t p op hp w
    have hwt := win_sz t p
    obtain ⟨s, hse⟩ : ∃ s, s = cutB t p l := ⟨_, rfl⟩
    have hsz : s.size = l := by rw [hse, cutB, ByteArray.size_extract]; omega
    have hst : ∀ x, x < s.size → aheadB t (p + x) = aheadB s x := fun x hx => by rw [hse, cutB, ahead_part (by omega) (by omega)]
    have ART : Agree s (restB t p) s.size := ⟨Nat.le_refl _, by rw [rest_size]; omega, fun q hq => by rw [ahead_rest]; exact (hst q hq).symm⟩
    have AWT : Agree s (winB t p) s.size := ⟨Nat.le_refl _, by omega, fun q hq => by rw [ahead_win (by omega)]; exact (hst q hq).symm⟩
    have hlast : aheadB s (s.size - 1) = 58 := by rw [← hst _ (by omega), show p + (s.size - 1) = N - 1 by omega]; exact h58
    rw [← hsz] at b2
    have hw' : w = 0 ∨ w = 1 ∨ w = 2 ∨ w = 3 ∨ w = 4 ∨ w = 5 := by omega
    rcases hw' with rfl | rfl | rfl | rfl | rfl | rfl
    · exact absurd hlast (name_tail (by omega) (name_cut AWT (by omega) b2))
    · exact absurd hlast (int_tail (by omega) (int_cut AWT _ _ (by omega) b2))
    · have b2' : keyN t p (winB t p) = s.size := b2
      unfold keyN at b2'
      split at b2'
      · omega
      · split at b2'
        · split at b2'
          · omega
          · rename_i hj
            rw [← hN, ← hsz, ← b2']
            simpa using hj
        · omega
    · exfalso
      have b2' : hashN (restB t p) = s.size := b2
      unfold hashN at b2'
      split at b2'
      · rename_i hx
        have e1 : (restB t p).data.toList[1]? = some (aheadB (restB t p) 1) := by rw [Array.getElem?_toList]; exact ahead_data (by rw [rest_size]; omega)
        rw [ahead_rest, hst 1 (by omega), show (1 : Nat) = s.size - 1 by omega, hlast] at e1
        rw [← b2'] at e1
        rw [Bool.or_eq_true] at hx
        rcases hx with hx | hx
        all_goals
          simp only [Lib.hasPrefix, List.isPrefixOf_iff_prefix] at hx
          obtain ⟨z, hz⟩ := hx
          rw [← hz] at e1
          simp at e1
      · omega
    · exfalso
      have b2' : signN (winB t p) = s.size := b2
      have hle2 : signN (winB t p) ≤ 2 := by unfold signN; split <;> (try split) <;> omega
      by_cases h2 : s.size = 2
      · have hx := sgn_two AWT h2 (by omega)
        rw [h2] at hlast
        rw [hlast] at hx
        have hw0 : bW (aheadB s 0) = true := by rw [← hst 0 (by omega), show p + 0 = N - 2 by omega]; exact hW
        simp only [signTwo, Bool.or_eq_true, beq_iff_eq, List.cons.injEq] at hx
        rcases hx with ((((hx | hx) | hx) | hx) | hx) | hx
        · exact absurd hx.2.1 (by decide)
        · rw [hx.1] at hw0; exact absurd hw0 (by decide)
        · exact absurd hx.2.1 (by decide)
        · exact absurd hx.2.1 (by decide)
        · exact absurd hx.2.1 (by decide)
        · exact absurd hx.2.1 (by decide)
      · have h1 : s.size = 1 := by omega
        unfold signN at b2'
        split at b2'
        · omega
        · split at b2'
          · rename_i hx
            rw [← AWT.eq 0 (by omega), show (0 : Nat) = s.size - 1 by omega, hlast] at hx
            exact absurd hx (by decide)
          · omega
    · exact absurd hlast (pat_tail (by omega) (pat_cut AWT hst (by omega) b2))
  · have hk' : k = 7 ∨ k = 8 := by
      simp only [isTok, Bool.and_eq_true, decide_eq_true_eq] at hk; omega
    exfalso
    rcases hk' with rfl | rfl
    · obtain ⟨e1, e2⟩ := blank_next hn
      have hbl : bBlank (aheadB t (N - 1)) = true := by
        by_cases e : l = 1
        · rw [show N - 1 = p by omega]; exact e1
        · unfold blanksN at e2
          exact run_every _ (p + 1) (N - 1) (Nat.le_refl _) (by omega) (by omega)
      rw [h58] at hbl; exact absurd hbl (by decide)
    · unfold nextR at hn
      split at hn
      · rename_i hx
        simp only [Lib.hasPrefix, List.isPrefixOf_iff_prefix] at hx
        have hlen := hx.length_le
        simp at hlen
        obtain ⟨z, hz⟩ := hx
        have e1 : (restB t p).data.toList[1]? = some (aheadB (restB t p) 1) := by rw [Array.getElem?_toList]; exact ahead_data (by omega)
        rw [← hz, ahead_rest] at e1
        simp at e1
        exact hnl rfl e1.symm
      · split at hn
        · split at hn
          · rename_i n hM
            simp only [Except.ok.injEq, Prod.mk.injEq, true_and] at hn
            subst hn
            have hge := nested_ge _ _ 0 0 n (Nat.le_refl _) hM
            have := nested_last _ _ 0 0 n (Nat.le_refl _) hM
            rw [ahead_rest, show p + (n - 1) = N - 1 by omega, h58] at this
            exact absurd this (by decide)
          · cases hn
        · split at hn
          · simp at hn
          · split at hn
            · simp only [Except.ok.injEq] at hn
              have h6 := (bestTo_le (ruleN t p op) (bestTo (ruleN t p op) 6).2.succ.succ (fun k => ?_) 6).1
              · rw [hn] at h6; simp only at h6; omega
              · by_cases hk : k < 6
                · have := best_ge (ruleN t p op) 6 k hk; omega
                · obtain ⟨q, rfl⟩ : ∃ q, k = q + 5 := ⟨k - 5, by omega⟩
                  have := best_ge (ruleN t p op) 6 5 (by omega)
                  have e : ruleN t p op (q + 5) = ruleN t p op 5 := rfl
                  omega
            · cases hn

/-- The tokens among pieces, with their texts. -/
def tv (t : ByteArray) (l : List (Nat × Nat × Nat)) : List (Nat × ByteArray) := (l.filter fun x => isTok x.1).map fun x => (x.1, cutB t x.2.1 x.2.2)
theorem tv_append (t : ByteArray) (l m : List (Nat × Nat × Nat)) : tv t (l ++ m) = tv t l ++ tv t m := by simp [tv]
theorem tv_cons (t : ByteArray) (x : Nat × Nat × Nat) (l : List (Nat × Nat × Nat)) : tv t (x :: l) = (if isTok x.1 then [(x.1, cutB t x.2.1 x.2.2)] else []) ++ tv t l := by
  unfold tv
  rw [List.filter_cons]
  split <;> simp
theorem tv_agree {t u : ByteArray} {N : Nat} (h : Agree t u N) : ∀ (l : List (Nat × Nat × Nat)), (∀ x ∈ l, x.2.1 + x.2.2 ≤ N) → tv u l = tv t l := by
  intro l
  induction l with
  | nil => intro _; rfl
  | cons x l ih =>
    intro hx
    rw [tv_cons, tv_cons, ih (fun y hy => hx y (List.mem_cons_of_mem _ hy))]
    have : cutB u x.2.1 x.2.2 = cutB t x.2.1 x.2.2 := h.symm.ext (hx x List.mem_cons_self)
    rw [this]

theorem steps_shut {t u : ByteArray} {N : Nat} (h : Shut t u N) : ∀ (l : List (Nat × Nat × Nat)) (i : Nat) (op : Bool) (c : Nat) (st : Nat × Bool × Nat), Steps t i op c l st → st.1 ≤ N → (∀ x ∈ l, x.2.1 + x.2.2 = N → x.1 ≠ 7 ∧ (x.1 = 8 → aheadB t (x.2.1 + 1) ≠ 47)) → Steps u i op c l st := by
  have h1 := h.agree.a; have h2 := h.agree.b
  intro l
  induction l with
  | nil => intro i op c st hs _ _; exact hs
  | cons x l ih =>
    intro i op c st hs hN hl
    obtain ⟨a1, a2, a3, a4, a5⟩ := hs
    have hb := next_bounds a1 a3
    simp only at hb
    have hst := steps_bounds l _ _ _ st a5 (by omega)
    have e : cutB u i x.2.2 = cutB t i x.2.2 := h.agree.symm.ext (by omega)
    refine ⟨by omega, a2, next_shut h a3 (by omega) (by omega) (fun hx => by have := hl x List.mem_cons_self (by omega); rw [a2] at this; exact this), a4, ?_⟩
    rw [e]
    exact ih _ _ _ st a5 hN (fun y hy => hl y (List.mem_cons_of_mem _ hy))

theorem run_is {p : UInt8 → Bool} {s : ByteArray} {e : Nat} (he : e ≤ s.size) (hend : p (aheadB s e) = false) : ∀ (f k : Nat), e - k ≤ f → k ≤ e → (∀ q, k ≤ q → q < e → p (aheadB s q) = true) → runN p s k = e := by
  intro f
  induction f with
  | zero =>
    intro k hf hk _
    have : k = e := by omega
    subst this
    by_cases hlt : k < s.size
    · rw [runN_no hlt (by rw [← aheadB_lt hlt]; exact hend)]
    · rw [runN_end hlt]
  | succ f ih =>
    intro k hf hk hall
    by_cases hke : k = e
    · subst hke
      by_cases hlt : k < s.size
      · rw [runN_no hlt (by rw [← aheadB_lt hlt]; exact hend)]
      · rw [runN_end hlt]
    · rw [runN_go (by omega) (by rw [← aheadB_lt (by omega)]; exact hall k (Nat.le_refl _) (by omega))]
      exact ih (k + 1) (by omega) (by omega) (fun q hq hq2 => hall q (by omega) hq2)

theorem st_snoc {t : ByteArray} {l : List (Nat × Nat × Nat)} {x : Nat × Nat × Nat} {i c : Nat} {op : Bool} {st : Nat × Bool × Nat} (h : Steps t i op c (l ++ [x]) st) :
    ∃ op' c', Steps t i op c l (x.2.1, op', c') ∧ x.2.1 < t.size ∧ nextR t x.2.1 op' = .ok (x.1, x.2.2) ∧ ¬ (isTok x.1 = true ∧ c' = 6000) ∧ st = (x.2.1 + x.2.2, (if isTok x.1 then opE x.1 (cutB t x.2.1 x.2.2) else op'), (if isTok x.1 then c' + 1 else c')) := by
  obtain ⟨s, h1, h2⟩ := steps_split _ _ _ _ _ _ h
  obtain ⟨b1, b2, b3, b4, b5⟩ := h2
  obtain ⟨i', op', c'⟩ := s
  simp only at b1 b2 b3 b4 b5
  subst b2
  simp only [Steps] at b5
  exact ⟨op', c', h1, b1, b3, b4, b5⟩

/-- The pieces ahead of a gap: what they are in the second text, which has a blank and then a stroke there. -/
theorem gap_pre {t u : ByteArray} {pre : List (Nat × Nat × Nat)} {a c : Nat} {op : Bool} (h : Steps t 0 false 0 pre (a, op, c)) (hA : Agree t u a) (h32 : aheadB u a = 32) (h47 : aheadB u (a + 1) = 47) (hu : a + 1 < u.size)
    (hline : ∀ x, pre.getLast? = some x → x.1 = 8 → aheadB t (x.2.1 + 1) ≠ 47) : ∃ m, Steps u 0 false 0 m (a + 1, op, c) ∧ tv u m = tv t pre := by
  have hb1 := hA.a; have hb2 := hA.b
  have hblank : nextR u a op = .ok (7, 1) := by
    rw [nx_blank (by omega) (by rw [h32]; decide)]
    unfold blanksN
    rw [run_is (e := a + 1) (by omega) (by rw [h47]; decide) 0 (a + 1) (by omega) (Nat.le_refl _) (fun q h1 h2 => by omega), show a + 1 - a = 1 by omega]
  have fin : Steps u 0 false 0 pre (a, op, c) → (∀ x ∈ pre, x.2.1 + x.2.2 ≤ a) → ∃ m, Steps u 0 false 0 m (a + 1, op, c) ∧ tv u m = tv t pre := by
    intro hs hx
    refine ⟨pre ++ [(7, a, 1)], steps_append _ _ _ _ _ _ _ hs ⟨by simp only; omega, rfl, hblank, by simp [isTok], by simp [Steps, isTok]⟩, ?_⟩
    rw [tv_append, tv_agree hA pre hx, tv_cons]
    simp [isTok, tv]
  have hin := steps_in pre _ _ _ _ h
  rcases List.eq_nil_or_concat pre with rfl | ⟨pre', x, rfl⟩
  · simp only [Steps] at h
    exact fin h (fun x hx => by simp at hx)
  · rw [List.concat_eq_append] at *
    obtain ⟨op', c', g1, g2, g3, g4, g5⟩ := st_snoc h
    have hl8 : x.1 = 8 → aheadB t (x.2.1 + 1) ≠ 47 := hline x (by simp)
    simp only [Prod.mk.injEq] at g5
    obtain ⟨g5, g6, g7⟩ := g5
    have hS : Shut t u a := ⟨hA, Or.inr h32, colon_last g2 g3 g5.symm hl8⟩
    have hb := next_bounds g2 g3
    simp only at hb
    have hsb := steps_in pre' _ _ _ _ g1
    by_cases h7 : x.1 = 7
    · have hnt : isTok x.1 = false := by rw [h7]; rfl
      rw [hnt] at g6 g7
      simp only [Bool.false_eq_true, if_false] at g6 g7
      subst g6 g7
      have hs' := steps_shut hS pre' _ _ _ _ g1 (by simp only; omega) (fun y hy he => by have := hsb y hy; simp only at this; omega)
      rw [h7] at g3
      obtain ⟨e1, e2⟩ := blank_next g3
      have hall : ∀ q, x.2.1 ≤ q → q < a → bBlank (aheadB u q) = true := by
        intro q hq1 hq2
        rw [← hA.eq q hq2]
        by_cases e : q = x.2.1
        · rw [e]; exact e1
        · unfold blanksN at e2
          exact run_every _ (x.2.1 + 1) q (Nat.le_refl _) (by omega) (by omega)
      have hnx : nextR u x.2.1 op = .ok (7, a + 1 - x.2.1) := by
        rw [nx_blank (by omega) (hall _ (Nat.le_refl _) (by omega))]
        unfold blanksN
        rw [run_is (e := a + 1) (by omega) (by rw [h47]; decide) _ (x.2.1 + 1) (Nat.le_refl _) (by omega) (fun q hq1 hq2 => ?_)]
        by_cases e : q = a
        · rw [e, h32]; decide
        · exact hall q (by omega) (by omega)
      refine ⟨pre' ++ [(7, x.2.1, a + 1 - x.2.1)], steps_append _ _ _ _ _ _ _ hs' ⟨by simp only; omega, rfl, hnx, by simp [isTok], ?_⟩, ?_⟩
      · simp only [Steps, isTok]
        rw [show x.2.1 + (a + 1 - x.2.1) = a + 1 by omega]; simp
      · rw [tv_append, tv_append, tv_cons, tv_cons, hnt, tv_agree hA pre' (fun y hy => by have := hsb y hy; simp only at this; omega)]
        simp [isTok, tv]
    · refine fin (steps_shut hS _ _ _ _ _ h (Nat.le_refl _) (fun y hy he => ?_)) (fun y hy => by have := hin y hy; simp only at this; omega)
      rcases List.mem_append.1 hy with hy | hy
      · have := hsb y hy; simp only at this; omega
      · simp only [List.mem_singleton] at hy
        subst hy
        exact ⟨h7, hl8⟩

theorem two_at {s : ByteArray} {i : Nat} (h : i + 2 ≤ s.size) : (s.extract i (min (i + 2) s.size)).toList = [aheadB s i, aheadB s (i + 1)] := by
  rw [ByteArray.toList_eq, show min (i + 2) s.size = i + 2 by omega]
  apply List.ext_getElem?
  intro q
  by_cases hq : q < 2
  · rw [Array.getElem?_toList, ahead_data (by rw [ByteArray.size_extract]; omega), ahead_part (by omega) (by omega)]
    have : q = 0 ∨ q = 1 := by omega
    rcases this with rfl | rfl <;> rfl
  · rw [List.getElem?_eq_none (by simp; omega), List.getElem?_eq_none (by simp; omega)]

theorem nested_plain {s : ByteArray} {e : Nat} (he : e + 2 ≤ s.size) (h42 : aheadB s e = 42) (h47 : aheadB s (e + 1) = 47) : ∀ (f i : Nat), e - i ≤ f → i ≤ e → (∀ q, i ≤ q → q < e → aheadB s q ≠ 42 ∧ aheadB s q ≠ 47) → nestedGo s i 1 = .ok (e + 2) := by
  intro f
  induction f with
  | zero =>
    intro i hf hi _
    have : i = e := by omega
    subst this
    have h2 := two_at (s := s) (i := i) he
    rw [h42, h47] at h2
    exact nested_shut (by omega) (by rw [h2]; decide) (by rw [h2]; decide) (by decide)
  | succ f ih =>
    intro i hf hi hall
    by_cases hie : i = e
    · subst hie
      have h2 := two_at (s := s) (i := i) he
      rw [h42, h47] at h2
      exact nested_shut (by omega) (by rw [h2]; decide) (by rw [h2]; decide) (by decide)
    · have h2 := two_at (s := s) (i := i) (by omega)
      have hx := hall i (Nat.le_refl _) (by omega)
      rw [nested_on (by omega) (by rw [h2]; apply beq_eq_false_iff_ne.2; intro e; simp only [List.cons.injEq] at e; exact hx.2 e.1) (by rw [h2]; apply beq_eq_false_iff_ne.2; intro e; simp only [List.cons.injEq] at e; exact hx.1 e.1)]
      exact ih (i + 1) (by omega) (by omega) (fun q hq1 hq2 => hall q (by omega) hq2)

/-- The comment of a gap: from the place a on, up to the stroke at e + 1. -/
theorem gap_mid {u : ByteArray} {a e : Nat} {op : Bool} (ha : aheadB u a = 47) (ha1 : aheadB u (a + 1) = 42) (he : aheadB u e = 42) (he1 : aheadB u (e + 1) = 47) (hu : e + 2 ≤ u.size) (hae : a + 2 ≤ e)
    (hall : ∀ q, a + 2 ≤ q → q < e → aheadB u q ≠ 42 ∧ aheadB u q ≠ 47) : nextR u a op = .ok (8, e + 2 - a) := by
  have hr := rest_size u a
  have hl : ∀ q, q < u.size - a → (restB u a).data.toList[q]? = some (aheadB u (a + q)) := fun q hq => by
    rw [Array.getElem?_toList, ahead_data (by rw [hr]; exact hq), ahead_rest]
  have hp : ∀ b, Lib.hasPrefix (restB u a).data.toList [47, b] = ((42 : UInt8) == b) := by
    intro b
    have h0 := hl 0 (by omega)
    have h1 := hl 1 (by omega)
    rw [Nat.add_zero, ha] at h0
    rw [ha1] at h1
    generalize (restB u a).data.toList = l at h0 h1
    match l, h0, h1 with
    | [], h0, _ => simp at h0
    | [_], _, h1 => simp at h1
    | x :: y :: l, h0, h1 =>
      simp at h0 h1
      subst h0 h1
      simp only [Lib.hasPrefix, List.isPrefixOf]
      simp only [BEq.rfl, Bool.true_and, Bool.and_true]
      rw [Bool.eq_iff_iff, beq_iff_eq, beq_iff_eq]; exact ⟨fun h => h.symm, fun h => h.symm⟩
  have hn : nestedGo (restB u a) 0 0 = .ok (e - a + 2) := by
    have h2 := two_at (s := restB u a) (i := 0) (by omega)
    rw [ahead_rest, ahead_rest, Nat.zero_add, Nat.add_zero, ha, ha1] at h2
    rw [nested_open (by omega) (by rw [h2]; decide) (by omega)]
    exact nested_plain (e := e - a) (by omega) (by rw [ahead_rest, show a + (e - a) = e by omega]; exact he) (by rw [ahead_rest, show a + (e - a + 1) = e + 1 by omega]; exact he1) _ 2 (Nat.le_refl _) (by omega) (fun q h1 h2 => by rw [ahead_rest]; exact hall _ (by omega) (by omega))
  unfold nextR
  rw [hp, hp, hn, if_neg (by decide), if_pos (by decide)]
  simp only [Except.ok.injEq, Prod.mk.injEq, true_and]
  omega

theorem steps_tok {t : ByteArray} : ∀ (l : List (Nat × Nat × Nat)) (i : Nat) (op : Bool) (c : Nat) (st : Nat × Bool × Nat), Steps t i op c l st → st.2.2 = c + (l.filter fun x => isTok x.1).length := by
  intro l
  induction l with
  | nil => intro i op c st h; simp only [Steps] at h; subst h; simp
  | cons x l ih =>
    intro i op c st h
    obtain ⟨a1, a2, a3, a4, a5⟩ := h
    have := ih _ _ _ _ a5
    rw [this, List.filter_cons]
    split
    · simp only [List.length_cons]; omega
    · rfl

theorem tv_shift {t u : ByteArray} {i j : Nat} (hr : restB t i = restB u j) : ∀ (l : List (Nat × Nat × Nat)), (∀ x ∈ l, i ≤ x.2.1) → tv u (l.map (shiftP ((j : Int) - (i : Int)))) = tv t l := by
  intro l
  induction l with
  | nil => intro _; rfl
  | cons x l ih =>
    intro hx
    have hi := hx x List.mem_cons_self
    rw [List.map_cons, tv_cons, tv_cons, ih (fun y hy => hx y (List.mem_cons_of_mem _ hy))]
    have : cutB u (shiftP ((j : Int) - (i : Int)) x).2.1 (shiftP ((j : Int) - (i : Int)) x).2.2 = cutB t x.2.1 x.2.2 := by
      simp only [shiftP]
      rw [show ((x.2.1 : Int) + ((j : Int) - (i : Int))).toNat = j + (x.2.1 - i) by omega]
      have e := rest_step hr (x.2.1 - i)
      rw [show i + (x.2.1 - i) = x.2.1 by omega] at e
      unfold cutB
      rw [extract_rest, extract_rest, e]
    rw [this]
    rfl

/-- The pieces behind a gap, whose last byte is a blank at b. -/
theorem gap_post {t u : ByteArray} {l : List (Nat × Nat × Nat)} {b e c c0 : Nat} {op : Bool} {st : Nat × Bool × Nat} (hb : b < u.size) (h32 : aheadB u b = 32) (he : e ≤ t.size) (hr : restB t e = restB u (b + 1)) (h : Steps t e op c0 l st) (hst : st.1 = t.size)
    (hc : c + (l.filter fun x => isTok x.1).length ≤ 6000) : ∃ m op' c', Steps u b op c m (u.size, op', c') ∧ tv u m = tv t l := by
  have hsz := congrArg ByteArray.size hr
  rw [rest_size, rest_size] at hsz
  have hA : ∀ q, aheadB u (b + 1 + q) = aheadB t (e + q) := fun q => by rw [← ahead_rest, ← ahead_rest, hr]
  have hblank : ∀ n, b + 1 ≤ n → n ≤ u.size → (∀ q, b + 1 ≤ q → q < n → bBlank (aheadB u q) = true) → bBlank (aheadB u n) = false → nextR u b op = .ok (7, n - b) := by
    intro n h1 h2 h3 h4
    rw [nx_blank hb (by rw [h32]; decide)]
    unfold blanksN
    rw [run_is h2 h4 _ (b + 1) (Nat.le_refl _) h1 h3]
  by_cases h7 : ∃ x l', l = x :: l' ∧ x.1 = 7
  · obtain ⟨x, l', rfl, h7⟩ := h7
    obtain ⟨a1, a2, a3, a4, a5⟩ := h
    rw [h7] at a3
    obtain ⟨e1, e2⟩ := blank_next a3
    have hbd := next_bounds a1 a3
    simp only at hbd
    have hnt : isTok x.1 = false := by rw [h7]; rfl
    rw [hnt] at a5
    simp only [Bool.false_eq_true, if_false] at a5
    rw [List.filter_cons, hnt, if_neg (by simp)] at hc
    have hstop : bBlank (aheadB t (e + x.2.2)) = false := by
      unfold blanksN at e2
      have hrl := runN_le bBlank t (e + 1) (by omega)
      have he' : e + x.2.2 = runN bBlank t (e + 1) := by omega
      rw [he']
      -- a run ends where the class ends
      have key : ∀ (f k : Nat), t.size - k ≤ f → k ≤ t.size → bBlank (aheadB t (runN bBlank t k)) = false := by
        intro f
        induction f with
        | zero => intro k hf hk; rw [runN_end (by omega), aheadB_ge (by omega)]; decide
        | succ f ih =>
          intro k hf hk
          by_cases hlt : k < t.size
          · cases hp : bBlank t[k] with
            | true => rw [runN_go hlt hp]; exact ih (k + 1) (by omega) (by omega)
            | false => rw [runN_no hlt hp, aheadB_lt hlt]; exact hp
          · rw [runN_end hlt, aheadB_ge (by omega)]; decide
      exact key _ (e + 1) (Nat.le_refl _) (by omega)
    have hnx := hblank (b + 1 + x.2.2) (by omega) (by omega) (fun q h1 h2 => by
      rw [show q = b + 1 + (q - (b + 1)) by omega, hA]
      by_cases e' : q - (b + 1) = 0
      · rw [e', Nat.add_zero]; exact e1
      · unfold blanksN at e2
        exact run_every _ (e + 1) _ (Nat.le_refl _) (by omega) (by omega)) (by rw [hA]; exact hstop)
    obtain ⟨c'', hs⟩ := steps_shift l' (e + x.2.2) (b + 1 + x.2.2) op _ c st a5 (by omega) (by omega) (rest_step hr _) hc
    rw [hst, show t.size + (b + 1 + x.2.2) - (e + x.2.2) = u.size by omega] at hs
    refine ⟨(7, b, b + 1 + x.2.2 - b) :: l'.map (shiftP (((b + 1 + x.2.2 : Nat) : Int) - ((e + x.2.2 : Nat) : Int))), st.2.1, c'', ⟨hb, rfl, hnx, by simp [isTok], ?_⟩, ?_⟩
    · simp only
      rw [show isTok 7 = false from rfl, show b + (b + 1 + x.2.2 - b) = b + 1 + x.2.2 by omega]
      exact hs
    · rw [tv_cons, tv_cons, hnt, tv_shift (rest_step hr _) l' (fun y hy => (steps_in l' _ _ _ _ a5 y hy).1)]
      rfl
  · have hnb : bBlank (aheadB t e) = false := by
      cases hx : bBlank (aheadB t e) with
      | false => rfl
      | true =>
        exfalso
        cases l with
        | nil =>
          simp only [Steps] at h
          subst h
          simp only at hst
          rw [hst, aheadB_ge (by omega)] at hx
          exact absurd hx (by decide)
        | cons x l' =>
          obtain ⟨a1, a2, a3, a4, a5⟩ := h
          rw [nx_blank a1 hx] at a3
          simp only [Except.ok.injEq, Prod.mk.injEq] at a3
          exact h7 ⟨x, l', rfl, a3.1.symm⟩
    have hnx := hblank (b + 1) (Nat.le_refl _) (by omega) (fun q h1 h2 => by omega) (by have := hA 0; rw [Nat.add_zero, Nat.add_zero] at this; rw [this]; exact hnb)
    obtain ⟨c'', hs⟩ := steps_shift l e (b + 1) op _ c st h he (by omega) hr hc
    rw [hst, show t.size + (b + 1) - e = u.size by omega] at hs
    refine ⟨(7, b, b + 1 - b) :: l.map (shiftP (((b + 1 : Nat) : Int) - (e : Int))), st.2.1, c'', ⟨hb, rfl, hnx, by simp [isTok], ?_⟩, ?_⟩
    · simp only
      rw [show isTok 7 = false from rfl, show b + (b + 1 - b) = b + 1 by omega]
      exact hs
    · rw [tv_cons, tv_shift hr l (fun y hy => (steps_in l _ _ _ _ h y hy).1)]
      rfl

/-- What a comment between spaces has from the first k bytes of a string. -/
def midB (f : ByteArray) : Nat → ByteArray
  | 0 => ⟨#[32, 47, 42, 32]⟩
  | k + 1 => if aheadB f k = 42 ∨ aheadB f k = 47 then midB f k else midB f k ++ f.extract k (k + 1)
def gapB (f : ByteArray) : ByteArray := midB f (min f.size 40) ++ ⟨#[32, 42, 47, 32]⟩

theorem ahead_left {x y : ByteArray} {q : Nat} (h : q < x.size) : aheadB (x ++ y) q = aheadB x q := by
  rw [aheadB_lt h, aheadB_lt (by rw [ByteArray.size_append]; omega), ByteArray.getElem_append_left h]
theorem ahead_right {x y : ByteArray} {q : Nat} : aheadB (x ++ y) (x.size + q) = aheadB y q := by
  by_cases h : q < y.size
  · rw [aheadB_lt h, aheadB_lt (by rw [ByteArray.size_append]; omega), ByteArray.getElem_append_right (by omega)]
    congr 1; omega
  · rw [aheadB_ge (t := y) (by omega), aheadB_ge (by rw [ByteArray.size_append]; omega)]
theorem ahead_three {x y z : ByteArray} {q : Nat} (h : q < y.size) : aheadB (x ++ y ++ z) (x.size + q) = aheadB y q := by
  rw [ahead_left (x := x ++ y) (by rw [ByteArray.size_append]; omega)]
  exact ahead_right
theorem mid_facts (f : ByteArray) : ∀ k, k ≤ f.size → 4 ≤ (midB f k).size ∧ (midB f k).size ≤ 4 + k ∧ aheadB (midB f k) 0 = 32 ∧ aheadB (midB f k) 1 = 47 ∧ aheadB (midB f k) 2 = 42 ∧ ∀ q, 3 ≤ q → q < (midB f k).size → aheadB (midB f k) q ≠ 42 ∧ aheadB (midB f k) q ≠ 47
  | 0, _ => by
    refine ⟨Nat.le_refl 4, Nat.le_refl 4, rfl, rfl, rfl, fun q h1 h2 => ?_⟩
    have hs : (midB f 0).size = 4 := rfl
    have : q = 3 := by omega
    subst this
    exact ⟨by show aheadB ⟨#[32, 47, 42, 32]⟩ 3 ≠ 42; decide, by show aheadB ⟨#[32, 47, 42, 32]⟩ 3 ≠ 47; decide⟩
  | k + 1, hk => by
    obtain ⟨h1, h2, h3, h4, h5, h6⟩ := mid_facts f k (by omega)
    unfold midB
    split
    · exact ⟨h1, by omega, h3, h4, h5, h6⟩
    · rename_i hc
      have hs : (midB f k ++ f.extract k (k + 1)).size = (midB f k).size + 1 := by rw [ByteArray.size_append, ByteArray.size_extract]; omega
      refine ⟨by omega, by omega, by rw [ahead_left (by omega)]; exact h3, by rw [ahead_left (by omega)]; exact h4, by rw [ahead_left (by omega)]; exact h5, fun q hq1 hq2 => ?_⟩
      by_cases e : q < (midB f k).size
      · rw [ahead_left e]; exact h6 q hq1 e
      · have : q = (midB f k).size + 0 := by omega
        rw [this, ahead_right, ahead_part (by omega) (by omega), Nat.add_zero]
        exact ⟨fun e => hc (Or.inl e), fun e => hc (Or.inr e)⟩

set_option maxHeartbeats 2000000 in
theorem gap_all {t f : ByteArray} {k : Nat} {x : Nat × Nat × Nat} (hok : (piecesR t).2.2 = 0) (hsz : t.size ≤ 19800) (hx : (piecesR t).1[k]? = some x) (d : Nat) (hd : d = if 7 ≤ x.1 then x.2.2 else 0)
    (hline : ∀ y, 0 < k → (piecesR t).1[k - 1]? = some y → y.1 = 8 → aheadB t (y.2.1 + 1) ≠ 47) :
    x.2.1 + d ≤ t.size ∧ (piecesR (t.extract 0 x.2.1 ++ gapB f ++ t.extract (x.2.1 + d) t.size)).2.2 = 0 ∧
      tv (t.extract 0 x.2.1 ++ gapB f ++ t.extract (x.2.1 + d) t.size) (piecesR (t.extract 0 x.2.1 ++ gapB f ++ t.extract (x.2.1 + d) t.size)).1 = tv t (piecesR t).1 := by
  have hall : (cutAll t).2 = none ∧ (piecesR t).1 = (cutAll t).1 := by
    unfold piecesR at hok ⊢
    rw [if_neg (by omega)] at hok ⊢
    cases hc : (cutAll t).2 with
    | none => exact ⟨rfl, rfl⟩
    | some p => rw [hc] at hok; exact absurd hok (cutF_err t _ _ _ _ p hc)
  rw [hall.2] at hx hline ⊢
  obtain ⟨opT, cT, hst⟩ := cutF_steps (t.size + 1) 0 false 0 (by omega) (by omega) hall.1
  change Steps t 0 false 0 (cutAll t).1 (t.size, opT, cT) at hst
  obtain ⟨L, hL⟩ : ∃ L, L = (cutAll t).1 := ⟨_, rfl⟩
  rw [← hL] at hx hline hst ⊢
  clear hL hall hok
  have hklt := (List.getElem?_eq_some_iff.1 hx).1
  have hxe : L[k] = x := (List.getElem?_eq_some_iff.1 hx).2
  have hst' := hst
  rw [← List.take_append_drop k L] at hst'
  obtain ⟨⟨a, op, c⟩, s1, s2⟩ := steps_split _ _ _ _ _ _ hst'
  rw [List.drop_eq_getElem_cons hklt, hxe] at s2
  obtain ⟨b1, b2, b3, b4, b5⟩ := s2
  simp only at b1 b2 b3 b4 b5
  have hbd := next_bounds b1 b3
  simp only at hbd
  have hdle : x.2.1 + d ≤ t.size := by rw [hd]; split <;> omega
  rw [b2] at hdle ⊢
  refine ⟨hdle, ?_⟩
  have hcT := steps_tok _ _ _ _ _ hst
  have hc1 := steps_tok _ _ _ _ _ s1
  have hc2 := steps_tok _ _ _ _ _ b5
  have hmost : cT ≤ 6000 := by
    have key : ∀ (l : List (Nat × Nat × Nat)) (i : Nat) (op : Bool) (c : Nat) (st : Nat × Bool × Nat), Steps t i op c l st → c ≤ 6000 → st.2.2 ≤ 6000 := by
      intro l
      induction l with
      | nil => intro i op c st h hc; simp only [Steps] at h; subst h; exact hc
      | cons y l ih =>
        intro i op c st h hc
        obtain ⟨a1, a2, a3, a4, a5⟩ := h
        refine ih _ _ _ _ a5 ?_
        split
        · next ht => simp only [ht, true_and] at a4; omega
        · exact hc
    exact key _ _ _ _ _ hst (by omega)
  simp only at hc1 hc2 hcT
  -- the second text
  obtain ⟨g, hg⟩ : ∃ g, g = gapB f := ⟨_, rfl⟩
  obtain ⟨n, hn⟩ : ∃ n, n = (midB f (min f.size 40)).size := ⟨_, rfl⟩
  obtain ⟨m1, m2, m3, m4, m5, m6⟩ := mid_facts f (min f.size 40) (by omega)
  rw [← hn] at m1 m2 m6
  have hgs : g.size = n + 4 := by rw [hg, gapB, ByteArray.size_append, ← hn]; rfl
  have g0 : aheadB g 0 = 32 := by rw [hg, gapB, ahead_left (by omega)]; exact m3
  have g1 : aheadB g 1 = 47 := by rw [hg, gapB, ahead_left (by omega)]; exact m4
  have g2 : aheadB g 2 = 42 := by rw [hg, gapB, ahead_left (by omega)]; exact m5
  have g3 : ∀ q, 3 ≤ q → q < n + 1 → aheadB g q ≠ 42 ∧ aheadB g q ≠ 47 := by
    intro q h1 h2
    by_cases e : q < n
    · rw [hg, gapB, ahead_left (by omega)]; exact m6 q h1 e
    · rw [hg, gapB, show q = (midB f (min f.size 40)).size + 0 by omega, ahead_right]; decide
  have g4 : aheadB g (n + 1) = 42 := by rw [hg, gapB, show n + 1 = (midB f (min f.size 40)).size + 1 by omega, ahead_right]; decide
  have g5 : aheadB g (n + 2) = 47 := by rw [hg, gapB, show n + 2 = (midB f (min f.size 40)).size + 2 by omega, ahead_right]; decide
  have g6 : aheadB g (n + 3) = 32 := by rw [hg, gapB, show n + 3 = (midB f (min f.size 40)).size + 3 by omega, ahead_right]; decide
  rw [← hg]
  have hus := splice_size t g a d hdle
  have hA := splice_ahead t g a d hdle
  have hR := splice_behind t g a d (a + d) hdle (Nat.le_refl _) hdle
  have hin : ∀ q, q < g.size → aheadB (t.extract 0 a ++ g ++ t.extract (a + d) t.size) (a + q) = aheadB g q := by
    intro q hq
    have h3 := ahead_three (x := t.extract 0 a) (y := g) (z := t.extract (a + d) t.size) hq
    rw [show (t.extract 0 a).size = a by rw [ByteArray.size_extract]; omega] at h3
    exact h3
  obtain ⟨u, hu⟩ : ∃ u, u = t.extract 0 a ++ g ++ t.extract (a + d) t.size := ⟨_, rfl⟩
  rw [← hu] at hus hA hR hin ⊢
  rw [show a + d + g.size - d = a + (n + 3) + 1 by omega] at hR
  have u0 := hin 0 (by omega)
  rw [Nat.add_zero, g0] at u0
  have u1 := hin 1 (by omega); rw [g1] at u1
  have u2 := hin 2 (by omega); rw [g2] at u2
  have u4 := hin (n + 1) (by omega); rw [g4] at u4
  have u5 := hin (n + 2) (by omega); rw [g5] at u5
  have u6 := hin (n + 3) (by omega); rw [g6] at u6
  obtain ⟨p, hp1, hp2⟩ := gap_pre s1 hA u0 u1 (by omega) (fun y hy h8 => by
    have hk0 : 0 < k := by
      apply Nat.pos_of_ne_zero; intro e; subst e; simp at hy
    refine hline y hk0 ?_ h8
    rw [List.getLast?_eq_getElem?, List.length_take, List.getElem?_take] at hy
    split at hy
    · rw [show min k L.length - 1 = k - 1 by omega] at hy; exact hy
    · cases hy)
  have hmid : nextR u (a + 1) op = .ok (8, n + 2) := by
    rw [gap_mid (e := a + (n + 1)) u1 (by rw [show a + 1 + 1 = a + 2 by omega]; exact u2) u4 (by rw [show a + (n + 1) + 1 = a + (n + 2) by omega]; exact u5) (by omega) (by omega) (fun q h1 h2 => by
      rw [show q = a + (q - a) by omega, hin _ (by omega)]; exact g3 _ (by omega) (by omega)), show a + (n + 1) + 2 - (a + 1) = n + 2 by omega]
  -- the pieces behind
  have hpost : ∃ (l : List (Nat × Nat × Nat)) (c0 : Nat), Steps t (a + d) op c0 l (t.size, opT, cT) ∧ tv t L = tv t (L.take k) ++ tv t l ∧ c + (l.filter fun x => isTok x.1).length ≤ 6000 := by
    by_cases h7 : 7 ≤ x.1
    · rw [if_pos h7] at hd
      have hnt : isTok x.1 = false := by simp [isTok]; omega
      rw [hnt] at b5 hc2
      simp only [Bool.false_eq_true, if_false] at b5 hc2
      refine ⟨L.drop (k + 1), c, by rw [hd]; exact b5, ?_, by omega⟩
      conv => lhs; rw [← List.take_append_drop k L, List.drop_eq_getElem_cons hklt, hxe, tv_append, tv_cons, hnt]
      rfl
    · rw [if_neg h7] at hd
      refine ⟨L.drop k, c, ?_, ?_, ?_⟩
      · rw [List.drop_eq_getElem_cons hklt, hxe, hd]; exact ⟨b1, b2, b3, b4, b5⟩
      · conv => lhs; rw [← List.take_append_drop k L, tv_append]
      · have : (L.filter fun x => isTok x.1).length = ((L.take k).filter fun x => isTok x.1).length + ((L.drop k).filter fun x => isTok x.1).length := by
          conv => lhs; rw [← List.take_append_drop k L, List.filter_append, List.length_append]
        omega
  obtain ⟨l, c0, hl1, hl2, hl3⟩ := hpost
  obtain ⟨r, op', c', hr1, hr2⟩ := gap_post (b := a + (n + 3)) (by omega) u6 hdle hR hl1 rfl hl3
  have hmids : Steps u (a + 1) op c [(8, a + 1, n + 2)] (a + (n + 3), op, c) := by
    refine ⟨by omega, rfl, hmid, by simp [isTok], ?_⟩
    rw [show isTok (8, a + 1, n + 2).1 = false from rfl]
    simp only [Steps, Bool.false_eq_true, if_false]
    rw [show a + 1 + (n + 2) = a + (n + 3) by omega]
  have hfin := steps_append _ _ _ _ _ _ _ (steps_append _ _ _ _ _ _ _ hp1 hmids) hr1
  have hcut := cutAll_done hfin
  have hpu : piecesR u = (p ++ [(8, a + 1, n + 2)] ++ r, 0, 0) := by
    unfold piecesR
    rw [if_neg (by omega), hcut]
  rw [hpu]
  refine ⟨rfl, ?_⟩
  simp only
  rw [tv_append, tv_append, hp2, hr2, hl2, tv_cons]
  simp [isTok, tv]
end

section

theorem bestTo_kind (n : Nat → Nat) : ∀ m k, (bestTo n m).1 = k + 1 → (bestTo n m).2 = n k ∧ 0 < n k
  | 0, k, h => by simp [bestTo] at h
  | m + 1, k, h => by
    rw [bestTo] at h ⊢
    split at h
    · rename_i hlt
      rw [if_pos hlt]
      simp only at h ⊢
      have : m = k := by omega
      subst this
      exact ⟨rfl, by omega⟩
    · rename_i hlt
      rw [if_neg hlt]
      exact bestTo_kind n m k h
theorem keyN_two (t : ByteArray) (i : Nat) (s : ByteArray) (h : 0 < keyN t i s) : 2 ≤ keyN t i s := by
  unfold keyN at h ⊢
  split at h
  · omega
  · rename_i h0
    rw [if_neg h0]
    split at h
    · rename_i h1
      rw [if_pos h1]
      split at h
      · omega
      · rename_i h2
        rw [if_neg h2]; omega
    · omega
theorem patN_two (t : ByteArray) (i : Nat) (s : ByteArray) (h : 0 < patN t i s) : 2 ≤ patN t i s := by
  unfold patN at h ⊢
  generalize plainN (s.extract 1 s.size) = a at *
  split at h
  · rename_i h0
    rw [if_pos h0]
    split at h
    · omega
    · rename_i h1
      rw [if_neg h1]
      split
      · split
        · omega
        · split <;> omega
      · omega
  · omega
/-- A keyword, and a pattern variable, have two bytes at least. -/
theorem two_bytes {t : ByteArray} {i : Nat} {op : Bool} {p : Nat × Nat} (h : nextR t i op = .ok p) (hk : p.1 = 3 ∨ p.1 = 6) : 2 ≤ p.2 := by
  unfold nextR at h
  split at h
  · injection h with h; subst h; simp at hk
  · split at h
    · split at h
      · injection h with h; subst h; simp at hk
      · cases h
    · split at h
      · injection h with h; subst h; simp at hk
      · split at h
        · injection h with h
          subst h
          rcases hk with hk | hk
          · obtain ⟨e, hp⟩ := bestTo_kind (ruleN t i op) 6 2 hk
            rw [e]
            exact keyN_two t i (winB t i) hp
          · obtain ⟨e, hp⟩ := bestTo_kind (ruleN t i op) 6 5 hk
            rw [e]
            exact patN_two t i (winB t i) hp
        · cases h
theorem two_text {t : ByteArray} {i : Nat} {op : Bool} {p : Nat × Nat} (hi : i < t.size) (h : nextR t i op = .ok p) (hk : p.1 = 3 ∨ p.1 = 6) (c : UInt8) : ((cutB t i p.2).toList == [c]) = false := by
  have h2 := two_bytes h hk
  have hb := (next_bounds hi h).2.2.2
  rw [beq_eq_false_iff_ne]
  intro e
  have := congrArg List.length e
  rw [ByteArray.toList_eq] at this
  simp [cutB] at this
  omega
end

end Go.Proofs.YtcokdapnafgnpaaGreatDoor
