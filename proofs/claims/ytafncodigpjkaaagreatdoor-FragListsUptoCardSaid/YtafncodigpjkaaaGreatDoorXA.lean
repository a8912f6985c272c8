/-
  The plain functions on bytes that the lexer's code computes; nothing of a program is imported here.
  The plain functions of nested comments and of the rules; nothing of a program is imported here.
  The plain functions of one piece; nothing of a program is imported here.
  A piece is not empty, and lies within the text; nothing of a program is imported here.
  A piece depends on no byte that lies far behind it; nothing of a program is imported here.
  A token has 100 bytes at most; nothing of a program is imported here.
  The text of an integer is an integer's token, and its value is the integer; nothing of a program is imported here.
  Canonical digits: their value, and how they compare (models only).
  What a rule takes of a text's beginning it takes of the whole text (for the law of the longest token); nothing of a program is imported here.
  A token and the byte behind it are no token together (models only; nothing of a program is imported here).
  Pieces one after another; nothing of a program is imported here.
  A piece depends on what stands behind its beginning alone; nothing of a program is imported here.
  The pieces of the same remainder of another text, with other tokens ahead; nothing of a program is imported here.
  A token stands alone as well, and with a blank behind it (models only; nothing of a program is imported here).
  A token stands alone as well, and with a blank behind it: the piece of another text (models only; nothing of a program is imported here).
  Where a text is cut off at the end of a piece and a blank follows, the pieces ahead are the same (models only; nothing of a program is imported here).
  A colon at the end of a piece joins with nothing; pieces ahead of a gap, the gap, pieces behind it (models only; nothing of a program is imported here).
  A comment between spaces changes no token (models only; nothing of a program is imported here).
  Keywords and pattern variables have two bytes at least; nothing of a program is imported here.
-/
import Derived.Lib.Bytealg
import Derived.Lib.Strings
import Derived.Lib.AtoiAll
import Derived.Lib.ItoaNum
import Derived.Lib.ItoaLen
import Derived.Lib.ItoaMem
import GoSem.Op.String
namespace Go.Proofs.YtafncodigpjkaaaGreatDoor
section

/-- The classes of bytes. -/
def bL (c : UInt8) : Bool := decide ((97 : Int) ≤ (c.toNat : Int)) && decide ((c.toNat : Int) ≤ 122)
def bD (c : UInt8) : Bool := decide ((48 : Int) ≤ (c.toNat : Int)) && decide ((c.toNat : Int) ≤ 57)
def bF (c : UInt8) : Bool := (bL c || bD c) || decide (0 ≤ Lib.indexByte [33, 36, 38, 42, 60, 62, 124, 94, 37, 95, 126, 63] c)
def bW (c : UInt8) : Bool := bF c || decide (0 ≤ Lib.indexByte [43, 45, 47, 61] c)
def bB (c : UInt8) : Bool := decide (0 ≤ Lib.indexByte [60, 36, 37, 42, 95] c)
def bQ (c : UInt8) : Bool := (bL c || bD c) || ((c.toNat : Int) == 45)
def bBlank (c : UInt8) : Bool := decide (0 ≤ Lib.indexByte [32, 9, 10, 13] c)
def bSpoils (c : UInt8) : Bool := bL c || decide (0 ≤ Lib.indexByte [95, 63, 33, 36] c)

/-- The byte at a place; 0 behind the end. -/
def aheadB (t : ByteArray) (k : Nat) : UInt8 := if h : k < t.size then t[k] else 0
theorem aheadB_lt {t : ByteArray} {k : Nat} (h : k < t.size) : aheadB t k = t[k] := by simp [aheadB, h]
theorem aheadB_ge {t : ByteArray} {k : Nat} (h : t.size ≤ k) : aheadB t k = 0 := by simp [aheadB, Nat.not_lt.2 h]

/-- How many bytes of a class stand at the beginning, from the place k on. -/
def runN (p : UInt8 → Bool) (s : ByteArray) (k : Nat) : Nat := if h : k < s.size then (if p s[k] then runN p s (k + 1) else k) else k
termination_by s.size - k
theorem runN_go {p : UInt8 → Bool} {s : ByteArray} {k : Nat} (h : k < s.size) (hp : p s[k] = true) : runN p s k = runN p s (k + 1) := by rw [runN]; simp [h, hp]
theorem runN_no {p : UInt8 → Bool} {s : ByteArray} {k : Nat} (h : k < s.size) (hp : p s[k] = false) : runN p s k = k := by rw [runN]; simp [h, hp]
theorem runN_end {p : UInt8 → Bool} {s : ByteArray} {k : Nat} (h : ¬ k < s.size) : runN p s k = k := by rw [runN]; simp [h]
theorem runN_le (p : UInt8 → Bool) (s : ByteArray) (k : Nat) (hk : k ≤ s.size) : k ≤ runN p s k ∧ runN p s k ≤ s.size := by
  induction h : s.size - k generalizing k with
  | zero => rw [runN_end (by omega)]; omega
  | succ n ih =>
    have hlt : k < s.size := by omega
    cases hp : p s[k] with
    | true => rw [runN_go hlt hp]; have := ih (k + 1) (by omega) (by omega); omega
    | false => rw [runN_no hlt hp]; omega

theorem runN_shift (p : UInt8 → Bool) (s : ByteArray) (a : Nat) (ha : a ≤ s.size) : runN p s a = runN p (s.extract a s.size) 0 + a := by
  have key : ∀ n k, s.size - (a + k) = n → a + k ≤ s.size → runN p s (a + k) = runN p (s.extract a s.size) k + a := by
    intro n
    induction n with
    | zero =>
      intro k hk hle
      rw [runN_end (by omega), runN_end (by simp; omega)]; omega
    | succ n ih =>
      intro k hk hle
      have h1 : a + k < s.size := by omega
      have h2 : k < (s.extract a s.size).size := by simp; omega
      have h3 : (s.extract a s.size)[k] = s[a + k] := by simp [ByteArray.getElem_extract]
      cases hp : p s[a + k] with
      | true => rw [runN_go h1 hp, runN_go h2 (by rw [h3]; exact hp), Nat.add_assoc, ih (k + 1) (by omega) (by omega)]
      | false => rw [runN_no h1 hp, runN_no h2 (by rw [h3]; exact hp)]; omega
  simpa using key (s.size - a) 0 (by omega) (by omega)

/-- The walk of plain from the place i on: has there been a letter; the longest name so far. -/
def plainGo (s : ByteArray) (i : Nat) (has : Bool) (best : Nat) : Nat :=
  if h : i < s.size then (if bW s[i] then plainGo s (i + 1) (has || bL s[i]) (if (has || bL s[i]) && bF s[i] then i + 1 else best) else best) else best
termination_by s.size - i
theorem plainGo_go {s : ByteArray} {i : Nat} {has : Bool} {best : Nat} (h : i < s.size) (hw : bW s[i] = true) :
    plainGo s i has best = plainGo s (i + 1) (has || bL s[i]) (if (has || bL s[i]) && bF s[i] then i + 1 else best) := by rw [plainGo]; simp [h, hw]
theorem plainGo_no {s : ByteArray} {i : Nat} {has : Bool} {best : Nat} (h : i < s.size) (hw : bW s[i] = false) : plainGo s i has best = best := by rw [plainGo]; simp [h, hw]
theorem plainGo_end {s : ByteArray} {i : Nat} {has : Bool} {best : Nat} (h : ¬ i < s.size) : plainGo s i has best = best := by rw [plainGo]; simp [h]
theorem plainGo_le (s : ByteArray) (i : Nat) (has : Bool) (best : Nat) (hi : i ≤ s.size) (hb : best ≤ s.size) : plainGo s i has best ≤ s.size := by
  induction h : s.size - i generalizing i has best with
  | zero => rw [plainGo_end (by omega)]; omega
  | succ n ih =>
    have hlt : i < s.size := by omega
    cases hp : bW s[i] with
    | true => rw [plainGo_go hlt hp]; exact ih (i + 1) _ _ (by omega) (by split <;> omega) (by omega)
    | false => rw [plainGo_no hlt hp]; omega

/-- The length of the longest plain name at the beginning. -/
def plainN (s : ByteArray) : Nat := if h : 0 < s.size then (if bL s[0] || bB s[0] then plainGo s 0 false 0 else 0) else 0
theorem plainN_le (s : ByteArray) : plainN s ≤ s.size := by
  unfold plainN; split
  · split
    · exact plainGo_le s 0 false 0 (by omega) (by omega)
    · omega
  · omega

/-- The length of the '@' and the library's name. -/
def libN (s : ByteArray) : Nat := if h : 1 < s.size then (if s[0] = 64 then (if bL s[1] || bD s[1] then runN bQ s 1 else 0) else 0) else 0

/-- The length of the blanks at a place. -/
def blanksN (t : ByteArray) (i : Nat) : Nat := runN bBlank t (i + 1) - i
/-- The text from a place on; as much of it as the rules look at; a piece of it. -/
def restB (t : ByteArray) (i : Nat) : ByteArray := t.extract i t.size
def winB (t : ByteArray) (i : Nat) : ByteArray := t.extract i (min (i + 100) t.size)
def cutB (t : ByteArray) (a l : Nat) : ByteArray := t.extract a (a + l)
def joinsB (c : UInt8) : Bool := ((c.toNat : Int) == 58) || ((c.toNat : Int) == 61)
/-- The length of a comment up to the end of the line. -/
def lineN (s : ByteArray) : Nat := if 0 ≤ Lib.indexByte s.data.toList 10 then (Lib.indexByte s.data.toList 10).toNat else s.size
end

section

/-- A comment that may have others within it, from the place i on, m being open: its end, or the error's number. -/
def nestedGo (s : ByteArray) (i : Nat) (m : Int) : Except Nat Nat :=
  if h : i < s.size then
    if (s.extract i (min (i + 2) s.size)).toList == [47, 42] then (if 100 < m + 1 then .error 6 else nestedGo s (i + 2) (m + 1))
    else if (s.extract i (min (i + 2) s.size)).toList == [42, 47] then (if m - 1 == 0 then .ok (i + 2) else nestedGo s (i + 2) (m - 1))
    else nestedGo s (i + 1) m
  else .error 13
termination_by s.size - i
theorem nested_end {s : ByteArray} {i : Nat} {m : Int} (h : ¬ i < s.size) : nestedGo s i m = .error 13 := by rw [nestedGo]; simp [h]
theorem nested_deep {s : ByteArray} {i : Nat} {m : Int} (h : i < s.size) (h1 : ((s.extract i (min (i + 2) s.size)).toList == [47, 42]) = true) (h2 : 100 < m + 1) : nestedGo s i m = .error 6 := by rw [nestedGo]; simp [h, h1, h2]
theorem nested_open {s : ByteArray} {i : Nat} {m : Int} (h : i < s.size) (h1 : ((s.extract i (min (i + 2) s.size)).toList == [47, 42]) = true) (h2 : ¬ 100 < m + 1) : nestedGo s i m = nestedGo s (i + 2) (m + 1) := by
  rw [nestedGo]; simp only [h, h1, h2, dite_true, if_true, if_false]
theorem nested_shut {s : ByteArray} {i : Nat} {m : Int} (h : i < s.size) (h1 : ((s.extract i (min (i + 2) s.size)).toList == [47, 42]) = false) (h3 : ((s.extract i (min (i + 2) s.size)).toList == [42, 47]) = true) (h2 : (m - 1 == 0) = true) : nestedGo s i m = .ok (i + 2) := by
  rw [nestedGo]; simp only [h, h1, h2, h3, dite_true, if_true, Bool.false_eq_true, if_false]
theorem nested_less {s : ByteArray} {i : Nat} {m : Int} (h : i < s.size) (h1 : ((s.extract i (min (i + 2) s.size)).toList == [47, 42]) = false) (h3 : ((s.extract i (min (i + 2) s.size)).toList == [42, 47]) = true) (h2 : (m - 1 == 0) = false) : nestedGo s i m = nestedGo s (i + 2) (m - 1) := by
  rw [nestedGo]; simp only [h, h1, h2, h3, dite_true, if_true, Bool.false_eq_true, if_false]
theorem nested_on {s : ByteArray} {i : Nat} {m : Int} (h : i < s.size) (h1 : ((s.extract i (min (i + 2) s.size)).toList == [47, 42]) = false) (h3 : ((s.extract i (min (i + 2) s.size)).toList == [42, 47]) = false) : nestedGo s i m = nestedGo s (i + 1) m := by
  rw [nestedGo]; simp only [h, h1, h3, dite_true, Bool.false_eq_true, if_false]
theorem two_short {s : ByteArray} {i : Nat} (h : s.size ≤ i + 1) (x y : UInt8) : ((s.extract i s.size).toList == [x, y]) = false := by
  rw [ByteArray.toList_eq]
  apply beq_eq_false_iff_ne.2
  intro e
  have := congrArg List.length e
  simp at this
  omega
theorem rest_size (t : ByteArray) (i : Nat) : (restB t i).size = t.size - i := by simp [restB]

def hashN (r : ByteArray) : Nat := if Lib.hasPrefix r.data.toList [35, 116] || Lib.hasPrefix r.data.toList [35, 102] then 2 else 0
def nameN (s : ByteArray) : Nat := if plainN s = 0 then 0 else plainN s + libN (s.extract (plainN s) s.size)
def intN (s : ByteArray) (c : UInt8) (op : Bool) : Nat :=
  if c == 45 && !op then (if runN bD (s.extract 1 s.size) 0 = 0 then 0 else 1 + runN bD (s.extract 1 s.size) 0) else runN bD (s.extract 0 s.size) 0
def keyN (t : ByteArray) (i : Nat) (s : ByteArray) : Nat :=
  if plainN s = 0 then 0 else if aheadB s (plainN s) = 58 then (if joinsB (aheadB t (i + (plainN s + 1))) then 0 else plainN s + 1) else 0
def signTwo (x : List UInt8) : Bool := x == [58, 61] || x == [58, 58] || x == [61, 62] || x == [61, 61] || x == [60, 61] || x == [62, 61]
def signOne (c : UInt8) : Bool :=
  ((c.toNat : Int) == 40) || ((c.toNat : Int) == 41) || ((c.toNat : Int) == 91) || ((c.toNat : Int) == 93) || ((c.toNat : Int) == 123) || ((c.toNat : Int) == 125) ||
  ((c.toNat : Int) == 44) || ((c.toNat : Int) == 59) || ((c.toNat : Int) == 46) || ((c.toNat : Int) == 61) || ((c.toNat : Int) == 60) || ((c.toNat : Int) == 62) ||
  ((c.toNat : Int) == 43) || ((c.toNat : Int) == 45) || ((c.toNat : Int) == 42) || ((c.toNat : Int) == 47) || ((c.toNat : Int) == 38) || ((c.toNat : Int) == 124) ||
  ((c.toNat : Int) == 126) || ((c.toNat : Int) == 63)
def signN (s : ByteArray) : Nat := if signTwo (s.extract 0 (min 2 s.size)).toList then 2 else if signOne (aheadB s 0) then 1 else 0
def patN (t : ByteArray) (i : Nat) (s : ByteArray) : Nat :=
  if aheadB s 0 = 63 then
    if plainN (s.extract 1 s.size) = 0 then 0
    else if aheadB s (plainN (s.extract 1 s.size) + 1) = 58 then
      if joinsB (aheadB t (i + (plainN (s.extract 1 s.size) + 1 + 1))) then plainN (s.extract 1 s.size) + 1
      else if 0 < plainN (s.extract (plainN (s.extract 1 s.size) + 1 + 1) s.size) then plainN (s.extract 1 s.size) + 1 + 1 + plainN (s.extract (plainN (s.extract 1 s.size) + 1 + 1) s.size) else plainN (s.extract 1 s.size) + 1
    else plainN (s.extract 1 s.size) + 1
  else 0
theorem libN_le (s : ByteArray) : libN s ≤ s.size := by
  unfold libN
  split
  · split
    · split
      · exact (runN_le _ _ _ (by omega)).2
      · omega
    · omega
  · omega
theorem nameN_le (s : ByteArray) : nameN s ≤ s.size := by
  unfold nameN
  split
  · omega
  · have h1 := plainN_le s
    have h2 := libN_le (s.extract (plainN s) s.size)
    simp at h2; omega
/-- How many bytes the k-th rule takes. -/
def ruleN (t : ByteArray) (i : Nat) (op : Bool) : Nat → Nat
  | 0 => nameN (winB t i)
  | 1 => intN (winB t i) (aheadB t i) op
  | 2 => keyN t i (winB t i)
  | 3 => hashN (restB t i)
  | 4 => signN (winB t i)
  | _ => patN t i (winB t i)
/-- The best of the first k rules: its kind and its length. -/
def bestTo (n : Nat → Nat) : Nat → Nat × Nat
  | 0 => (0, 0)
  | k + 1 => if (bestTo n k).2 < n k then (k + 1, n k) else bestTo n k

end

section

theorem win_sz (t : ByteArray) (i : Nat) : (winB t i).size = min (i + 100) t.size - i := by simp [winB]
theorem intN_le (s : ByteArray) (c : UInt8) (op : Bool) (h : 1 ≤ s.size) : intN s c op ≤ s.size := by
  unfold intN
  have h1 := (runN_le bD (s.extract 1 s.size) 0 (by omega)).2
  have h0 := (runN_le bD (s.extract 0 s.size) 0 (by omega)).2
  simp only [ByteArray.size_extract, Nat.min_self] at h1 h0
  split
  · split <;> omega
  · omega
theorem aheadB_pos {s : ByteArray} {k : Nat} (h : ¬ aheadB s k = 0) : k < s.size := by
  apply Classical.byContradiction; intro hn; exact h (aheadB_ge (by omega))
theorem keyN_le (t : ByteArray) (i : Nat) (s : ByteArray) : keyN t i s ≤ s.size := by
  unfold keyN
  split
  · omega
  · split
    · rename_i h
      have := aheadB_pos (s := s) (k := plainN s) (by rw [h]; decide)
      split <;> omega
    · omega
theorem hashN_le (r : ByteArray) : hashN r ≤ r.size := by
  unfold hashN
  split
  · rename_i h
    rw [Bool.or_eq_true] at h
    rcases h with h | h
    all_goals
      simp only [Lib.hasPrefix, List.isPrefixOf_iff_prefix] at h
      have := h.length_le
      simp at this
      omega
  · omega
theorem signN_le (s : ByteArray) : signN s ≤ s.size := by
  unfold signN
  split
  · rename_i h
    have hl : (s.extract 0 (min 2 s.size)).toList.length = 2 := by
      simp only [signTwo, Bool.or_eq_true, beq_iff_eq] at h
      rcases h with ((((h | h) | h) | h) | h) | h <;> rw [h] <;> rfl
    rw [ByteArray.toList_eq] at hl
    simp at hl
    omega
  · split
    · rename_i h
      have := aheadB_pos (s := s) (k := 0) (by intro h0; rw [h0] at h; revert h; decide)
      omega
    · omega
theorem patN_le (t : ByteArray) (i : Nat) (s : ByteArray) : patN t i s ≤ s.size := by
  unfold patN
  have h1 := plainN_le (s.extract 1 s.size)
  have h2 := plainN_le (s.extract (plainN (s.extract 1 s.size) + 1 + 1) s.size)
  simp only [ByteArray.size_extract, Nat.min_self] at h1 h2
  split
  · rename_i h
    have h0 := aheadB_pos (s := s) (k := 0) (by rw [h]; decide)
    split
    · omega
    · split
      · rename_i h3
        have h4 := aheadB_pos (s := s) (k := plainN (s.extract 1 s.size) + 1) (by rw [h3]; decide)
        split
        · omega
        · split <;> omega
      · omega
  · omega
theorem bestTo_le (n : Nat → Nat) (m : Nat) (h : ∀ k, n k ≤ m) : ∀ k, (bestTo n k).1 ≤ k ∧ (bestTo n k).2 ≤ m := by
  intro k
  induction k with
  | zero => exact ⟨Nat.le_refl _, Nat.zero_le _⟩
  | succ k ih =>
    rw [bestTo]
    split
    · exact ⟨Nat.le_refl _, h k⟩
    · exact ⟨by omega, ih.2⟩
theorem ruleN_le (t : ByteArray) (i : Nat) (op : Bool) (hi : i < t.size) (k : Nat) : ruleN t i op k ≤ t.size - i := by
  have hw : (winB t i).size ≤ t.size - i ∧ 1 ≤ (winB t i).size := by rw [win_sz]; omega
  unfold ruleN
  split
  · exact Nat.le_trans (nameN_le _) hw.1
  · exact Nat.le_trans (intN_le _ _ _ hw.2) hw.1
  · exact Nat.le_trans (keyN_le _ _ _) hw.1
  · have := hashN_le (restB t i); rw [rest_size] at this; exact this
  · exact Nat.le_trans (signN_le _) hw.1
  · exact Nat.le_trans (patN_le _ _ _) hw.1
/-- The value of canonical digits. -/
def valO (s : ByteArray) : Option Int := match Lib.atoiAll s.data.toList with
  | .ok v => if (Lib.itoa v) = s.data.toList then some v else none
  | _ => none
/-- The error of a token of the kind k and the length l at the place i; 0: none. -/
def faultN (t : ByteArray) (i k l : Nat) : Nat :=
  if k = 2 then (if (valO (cutB t i l)).isSome && !bSpoils (aheadB t (i + l)) then 0 else 11)
  else if k = 4 then (if bW (aheadB t (i + l)) then 12 else 0)
  else if k = 1 ∨ k = 3 ∨ k = 6 then (if 40 < l then 2 else 0)
  else if k = 0 then (if aheadB t i = 35 then 12 else 10)
  else 0

/-- The piece at the place i: its kind and its length, or the error's number. -/
def nextR (t : ByteArray) (i : Nat) (op : Bool) : Except Nat (Nat × Nat) :=
  if Lib.hasPrefix (restB t i).data.toList [47, 47] then .ok (8, lineN (restB t i))
  else if Lib.hasPrefix (restB t i).data.toList [47, 42] then (match nestedGo (restB t i) 0 0 with | .ok n => .ok (8, n) | .error c => .error c)
  else if bBlank (aheadB t i) then .ok (7, blanksN t i)
  else if faultN t i (bestTo (ruleN t i op) 6).1 (bestTo (ruleN t i op) 6).2 = 0 then .ok (bestTo (ruleN t i op) 6) else .error (faultN t i (bestTo (ruleN t i op) 6).1 (bestTo (ruleN t i op) 6).2)
/-- Does a token end an operand? -/
def opE (k : Nat) (s : ByteArray) : Bool := if k = 1 ∨ k = 2 ∨ k = 4 then true else s.toList == [41] || s.toList == [93]
def isTok (k : Nat) : Bool := decide (1 ≤ (k : Int)) && decide ((k : Int) ≤ 6)


/-- All pieces from a place on (kind, beginning, length), and the error with the place where it was found. -/
def cutF (t : ByteArray) : Nat → Nat → Bool → Nat → List (Nat × Nat × Nat) × Option (Nat × Nat)
  | 0, _, _, _ => ([], none)
  | f + 1, i, op, n =>
    if i < t.size then
      match nextR t i op with
      | .error c => ([], some (i, c))
      | .ok p => if isTok p.1 = true ∧ n = 6000 then ([], some (i, 2)) else
          ((p.1, i, p.2) :: (cutF t f (i + p.2) (if isTok p.1 then opE p.1 (cutB t i p.2) else op) (if isTok p.1 then n + 1 else n)).1,
           (cutF t f (i + p.2) (if isTok p.1 then opE p.1 (cutB t i p.2) else op) (if isTok p.1 then n + 1 else n)).2)
    else ([], none)
def cutAll (t : ByteArray) : List (Nat × Nat × Nat) × Option (Nat × Nat) := cutF t (t.size + 1) 0 false 0
end

section

theorem idx_spec {c : UInt8} : ∀ {l : List UInt8}, 0 ≤ Lib.indexByte l c → ∃ k : Nat, Lib.indexByte l c = (k : Int) ∧ k < l.length ∧ l[k]? = some c
  | [], h => by simp [Lib.indexByte] at h
  | x :: l, h => by
    rw [Lib.indexByte] at h ⊢
    cases hx : (x == c)
    · rw [hx] at h
      simp only [Bool.false_eq_true, if_false] at h ⊢
      cases hy : (Lib.indexByte l c == -1)
      · have hg := Lib.indexByte_ge l c
        have hn : Lib.indexByte l c ≠ -1 := by simpa using hy
        obtain ⟨k, e, hk, hv⟩ := idx_spec (c := c) (l := l) (by omega)
        refine ⟨k + 1, ?_, by simpa using hk, by simpa using hv⟩
        simp only [Bool.false_eq_true, if_false]
        omega
      · rw [hy] at h; simp at h
    · refine ⟨0, by simp, by simp, ?_⟩
      simp at hx; simp [hx]
theorem line_bounds {r : ByteArray} (h : Lib.hasPrefix r.data.toList [47, 47] = true) : 2 ≤ lineN r ∧ lineN r ≤ r.size := by
  simp only [Lib.hasPrefix, List.isPrefixOf_iff_prefix] at h
  have hl := h.length_le
  simp at hl
  have e0 : r.data.toList[0]? = some 47 := by obtain ⟨z, hz⟩ := h; rw [← hz]; rfl
  have e1 : r.data.toList[1]? = some 47 := by obtain ⟨z, hz⟩ := h; rw [← hz]; rfl
  unfold lineN
  split
  · rename_i hi
    obtain ⟨k, e, hk, hv⟩ := idx_spec hi
    rw [e]
    have k0 : k ≠ 0 := by rintro rfl; rw [e0] at hv; cases hv
    have k1 : k ≠ 1 := by rintro rfl; rw [e1] at hv; cases hv
    simp at hk
    omega
  · omega
theorem nested_bounds (s : ByteArray) : ∀ (f i : Nat) (m : Int) (n : Nat), s.size - i ≤ f → nestedGo s i m = .ok n → i + 2 ≤ n ∧ n ≤ s.size := by
  intro f
  induction f with
  | zero =>
    intro i m n hf h
    rw [nested_end (by omega)] at h; cases h
  | succ f ih =>
    intro i m n hf h
    by_cases hi : i < s.size
    · have htwo : ∀ x y : UInt8, ((s.extract i (min (i + 2) s.size)).toList == [x, y]) = true → i + 2 ≤ s.size := by
        intro x y hx
        have := congrArg List.length (beq_iff_eq.1 hx)
        rw [ByteArray.toList_eq] at this
        simp at this
        omega
      cases ho : ((s.extract i (min (i + 2) s.size)).toList == [47, 42])
      · cases hc : ((s.extract i (min (i + 2) s.size)).toList == [42, 47])
        · rw [nested_on hi ho hc] at h
          have := ih (i + 1) m n (by omega) h
          omega
        · cases hz : (m - 1 == 0)
          · rw [nested_less hi ho hc hz] at h
            have := ih (i + 2) (m - 1) n (by omega) h
            omega
          · rw [nested_shut hi ho hc hz] at h
            injection h with h
            have := htwo _ _ hc
            omega
      · by_cases hd : 100 < m + 1
        · rw [nested_deep hi ho hd] at h; cases h
        · rw [nested_open hi ho hd] at h
          have := ih (i + 2) (m + 1) n (by omega) h
          omega
    · rw [nested_end hi] at h; cases h
theorem best_pos (n : Nat → Nat) : ∀ k, (bestTo n k).1 ≠ 0 → 0 < (bestTo n k).2
  | 0, h => absurd rfl h
  | k + 1, h => by
    rw [bestTo] at h ⊢
    split
    · simp only; omega
    · rename_i hk; rw [if_neg hk] at h; exact best_pos n k h
theorem best_bounds (t : ByteArray) (i : Nat) (op : Bool) (hi : i < t.size) : (bestTo (ruleN t i op) 6).1 ≤ 6 ∧ i + (bestTo (ruleN t i op) 6).2 ≤ t.size := by
  have := bestTo_le (ruleN t i op) (t.size - i) (fun k => ruleN_le t i op hi k) 6
  omega
theorem next_bounds {t : ByteArray} {i : Nat} {op : Bool} {p : Nat × Nat} (hi : i < t.size) (h : nextR t i op = .ok p) : 1 ≤ p.1 ∧ p.1 ≤ 8 ∧ 1 ≤ p.2 ∧ i + p.2 ≤ t.size := by
  unfold nextR at h
  split at h
  · rename_i hA
    injection h with h; subst h
    have := line_bounds hA
    rw [rest_size] at this
    simp only; omega
  · split at h
    · split at h
      · rename_i n hM
        injection h with h; subst h
        have := nested_bounds _ _ 0 0 n (Nat.le_refl _) hM
        rw [rest_size] at this
        simp only; omega
      · cases h
    · split at h
      · injection h with h; subst h
        have := runN_le bBlank t (i + 1) (by omega)
        simp only [blanksN]; omega
      · split at h
        · rename_i hf
          injection h with h; subst h
          have hb := best_bounds t i op hi
          have hk : (bestTo (ruleN t i op) 6).1 ≠ 0 := by
            intro h0
            rw [h0] at hf
            simp [faultN] at hf
            split at hf <;> omega
          have := best_pos _ _ hk
          omega
        · cases h
theorem cutF_len (t : ByteArray) : ∀ (f i : Nat) (op : Bool) (n : Nat), (cutF t f i op n).1.length ≤ t.size - i := by
  intro f
  induction f with
  | zero => intro i op n; simp [cutF]
  | succ f ih =>
    intro i op n
    rw [cutF]
    split
    · rename_i hi
      split
      · simp
      · rename_i p hp
        split
        · simp
        · have hb := next_bounds hi hp
          have := ih (i + p.2) (if isTok p.1 then opE p.1 (cutB t i p.2) else op) (if isTok p.1 then n + 1 else n)
          simp only [List.length_cons]
          omega
    · simp
theorem cutAll_len (t : ByteArray) : (cutAll t).1.length ≤ t.size := by
  have := cutF_len t (t.size + 1) 0 false 0
  unfold cutAll; omega
/-- The kind of the one token that a string is as a whole. -/
def kindN (s : ByteArray) : Nat := if s.size = 0 then 0 else match nextR s 0 false with
  | .error _ => 0
  | .ok p => if isTok p.1 = true ∧ p.2 = s.size then p.1 else 0
/-- What Pieces returns: the pieces, the place and the error's number. -/
def piecesR (t : ByteArray) : List (Nat × Nat × Nat) × Nat × Nat :=
  if 20000 < t.size then ([], 0, 2) else match (cutAll t).2 with
    | none => ((cutAll t).1, 0, 0)
    | some p => ([], p.1, p.2)
theorem nested_err (s : ByteArray) : ∀ (f i : Nat) (m : Int) (c : Nat), s.size - i ≤ f → nestedGo s i m = .error c → c ≠ 0 := by
  intro f
  induction f with
  | zero =>
    intro i m c hf h
    rw [nested_end (by omega)] at h; injection h with h; omega
  | succ f ih =>
    intro i m c hf h
    by_cases hi : i < s.size
    · cases ho : ((s.extract i (min (i + 2) s.size)).toList == [47, 42])
      · cases hc : ((s.extract i (min (i + 2) s.size)).toList == [42, 47])
        · rw [nested_on hi ho hc] at h; exact ih _ _ _ (by omega) h
        · cases hz : (m - 1 == 0)
          · rw [nested_less hi ho hc hz] at h; exact ih _ _ _ (by omega) h
          · rw [nested_shut hi ho hc hz] at h; cases h
      · by_cases hd : 100 < m + 1
        · rw [nested_deep hi ho hd] at h; injection h with h; omega
        · rw [nested_open hi ho hd] at h; exact ih _ _ _ (by omega) h
    · rw [nested_end hi] at h; injection h with h; omega
theorem next_err {t : ByteArray} {i : Nat} {op : Bool} {c : Nat} (h : nextR t i op = .error c) : c ≠ 0 := by
  unfold nextR at h
  split at h
  · cases h
  · split at h
    · split at h
      · cases h
      · rename_i e hM
        simp only [Except.error.injEq] at h
        rw [← h]
        exact nested_err _ _ 0 0 _ (Nat.le_refl _) hM
    · split at h
      · cases h
      · split at h
        · cases h
        · rename_i hf
          simp only [Except.error.injEq] at h
          rw [← h]; exact hf
theorem cutF_err (t : ByteArray) : ∀ (f i : Nat) (op : Bool) (n : Nat) (p : Nat × Nat), (cutF t f i op n).2 = some p → p.2 ≠ 0 := by
  intro f
  induction f with
  | zero => intro i op n p h; simp [cutF] at h
  | succ f ih =>
    intro i op n p h
    rw [cutF] at h
    split at h
    · split at h
      · rename_i c hc
        simp only [Option.some.injEq] at h
        subst h; exact next_err hc
      · split at h
        · simp only [Option.some.injEq] at h
          subst h; simp
        · exact ih _ _ _ _ h
    · simp at h
theorem piecesR_ok {t : ByteArray} (h : (piecesR t).2.2 = 0) : (piecesR t).2.1 = 0 ∧ (piecesR t).1 = (cutAll t).1 ∧ (cutAll t).2 = none ∧ t.size ≤ 20000 := by
  unfold piecesR at h ⊢
  split at h
  · simp at h
  · rename_i hs
    rw [if_neg hs]
    cases hc : (cutAll t).2 with
    | none => simp; omega
    | some p =>
      rw [hc] at h
      exact absurd h (cutF_err t _ _ _ _ p hc)
theorem piecesR_bad {t : ByteArray} (h : (piecesR t).2.2 ≠ 0) : (piecesR t).1 = [] := by
  unfold piecesR at h ⊢
  split
  · rfl
  · cases hc : (cutAll t).2 with
    | none => rename_i hs; rw [if_neg hs, hc] at h; simp at h
    | some p => rfl
/-- Each piece lies within the text. -/
theorem cutF_in (t : ByteArray) : ∀ (f i : Nat) (op : Bool) (n : Nat) (x : Nat × Nat × Nat), x ∈ (cutF t f i op n).1 → 1 ≤ x.1 ∧ x.1 ≤ 8 ∧ 1 ≤ x.2.2 ∧ x.2.1 + x.2.2 ≤ t.size := by
  intro f
  induction f with
  | zero => intro i op n x h; simp [cutF] at h
  | succ f ih =>
    intro i op n x h
    rw [cutF] at h
    split at h
    · rename_i hi
      split at h
      · simp at h
      · rename_i p hp
        split at h
        · simp at h
        · simp only [List.mem_cons] at h
          rcases h with rfl | h
          · exact next_bounds hi hp
          · exact ih _ _ _ _ h
    · simp at h
end

section

/-- Two texts agree on their first N bytes, and both have them. -/
structure Agree (t u : ByteArray) (N : Nat) : Prop where
  a : N ≤ t.size
  b : N ≤ u.size
  eq : ∀ j, j < N → aheadB t j = aheadB u j
theorem Agree.symm {t u : ByteArray} {N : Nat} (h : Agree t u N) : Agree u t N := ⟨h.b, h.a, fun j hj => (h.eq j hj).symm⟩
theorem Agree.le {t u : ByteArray} {N M : Nat} (h : Agree t u N) (hm : M ≤ N) : Agree t u M := ⟨Nat.le_trans hm h.a, Nat.le_trans hm h.b, fun j hj => h.eq j (Nat.lt_of_lt_of_le hj hm)⟩
theorem ahead_data {t : ByteArray} {j : Nat} (h : j < t.size) : t.data[j]? = some (aheadB t j) := by
  rw [aheadB_lt h]
  have : j < t.data.size := h
  rw [Array.getElem?_eq_getElem this]; rfl
theorem Agree.ext {t u : ByteArray} {N a b : Nat} (h : Agree t u N) (hb : b ≤ N) : t.extract a b = u.extract a b := by
  have h1 := h.a; have h2 := h.b
  have hs : t.data.size = t.size := rfl
  have hs2 : u.data.size = u.size := rfl
  apply ByteArray.ext
  apply Array.ext_getElem?
  intro j
  simp only [ByteArray.data_extract]
  by_cases hj : a + j < b
  · rw [Array.getElem?_extract, Array.getElem?_extract, if_pos (by omega), if_pos (by omega), ahead_data (by omega), ahead_data (by omega), h.eq _ (by omega)]
  · rw [Array.getElem?_extract, Array.getElem?_extract, if_neg (by omega), if_neg (by omega)]
theorem ahead_rest (t : ByteArray) (i j : Nat) : aheadB (restB t i) j = aheadB t (i + j) := by
  have hr := rest_size t i
  by_cases h : i + j < t.size
  · rw [aheadB_lt h, aheadB_lt (by omega)]
    simp [restB, ByteArray.getElem_eq_getElem_data]
  · rw [aheadB_ge (by omega), aheadB_ge (by omega)]
theorem Agree.rest {t u : ByteArray} {N : Nat} (h : Agree t u N) (i : Nat) : Agree (restB t i) (restB u i) (N - i) := by
  have h1 := h.a; have h2 := h.b
  refine ⟨by rw [rest_size]; omega, by rw [rest_size]; omega, fun j hj => ?_⟩
  rw [ahead_rest, ahead_rest, h.eq _ (by omega)]
theorem prefix_two (a b : UInt8) (xs ys : List UInt8) (h0 : xs[0]? = ys[0]?) (h1 : xs[1]? = ys[1]?) : Lib.hasPrefix xs [a, b] = Lib.hasPrefix ys [a, b] := by
  cases xs with
  | nil => cases ys with
    | nil => rfl
    | cons y ys => simp at h0
  | cons x xs => cases ys with
    | nil => simp at h0
    | cons y ys =>
      simp at h0; subst h0
      cases xs with
      | nil => cases ys with
        | nil => rfl
        | cons y ys => simp at h1
      | cons x xs => cases ys with
        | nil => simp at h1
        | cons y ys => simp at h1; subst h1; simp [Lib.hasPrefix, List.isPrefixOf]
theorem Agree.list {t u : ByteArray} {N : Nat} (h : Agree t u N) (j : Nat) (hj : j < N) : t.data.toList[j]? = u.data.toList[j]? := by
  have h1 := h.a; have h2 := h.b
  rw [Array.getElem?_toList, Array.getElem?_toList, ahead_data (by omega), ahead_data (by omega), h.eq j hj]
end

section

end

section

theorem dec_all : ∀ (u : Nat), ∀ c ∈ Lib.decDigits u, 48 ≤ c.toNat ∧ c.toNat ≤ 57 := by
  intro u
  induction u using Nat.strongRecOn with
  | _ u ih =>
    intro c hc
    rw [Lib.decDigits] at hc
    split at hc
    · simp only [List.mem_singleton] at hc
      subst hc
      simp only [UInt8.toNat_ofNat']; omega
    · rcases List.mem_append.1 hc with hc | hc
      · exact ih (u / 10) (by omega) c hc
      · simp only [List.mem_singleton] at hc
        subst hc
        simp only [UInt8.toNat_ofNat']; omega
theorem dec_ne (u : Nat) : Lib.decDigits u ≠ [] := by
  intro h
  have := Lib.decDigits_length u
  have := Lib.nDigits_pos u
  rw [h] at *; simp at *; omega

def parse1 (a : Nat) (c : UInt8) : Lib.NumEnd Nat :=
  if 48 ≤ c.toNat ∧ c.toNat ≤ 57 then
    if 1844674407370955162 ≤ a then .range
    else if 18446744073709551616 ≤ a * 10 + (c.toNat - 48) then .range
    else .ok (a * 10 + (c.toNat - 48))
  else .syntax
theorem parse_snoc : ∀ (l : List UInt8) (acc a : Nat) (c : UInt8), Lib.parseUint10 acc l = .ok a → Lib.parseUint10 acc (l ++ [c]) = parse1 a c := by
  intro l
  induction l with
  | nil =>
    intro acc a c h
    simp only [Lib.parseUint10, Lib.NumEnd.ok.injEq] at h
    subst h
    simp only [List.nil_append, Lib.parseUint10, parse1]
  | cons x l ih =>
    intro acc a c h
    simp only [Lib.parseUint10, List.cons_append] at h ⊢
    split at h
    · rename_i h1
      rw [if_pos h1]
      split at h
      · cases h
      · rename_i h2
        rw [if_neg h2]
        split at h
        · cases h
        · rename_i h3
          rw [if_neg h3]
          exact ih _ a c h
    · cases h
theorem parse_dec : ∀ (u : Nat), u < 18446744073709551616 → Lib.parseUint10 0 (Lib.decDigits u) = .ok u := by
  intro u
  induction u using Nat.strongRecOn with
  | _ u ih =>
    intro hu
    rw [Lib.decDigits]
    split
    · rename_i h
      simp only [Lib.parseUint10, UInt8.toNat_ofNat']
      rw [if_pos (by omega), if_neg (by omega), if_neg (by omega)]
      congr 1; omega
    · rename_i h
      rw [parse_snoc _ _ _ _ (ih (u / 10) (by omega) (by omega))]
      simp only [parse1, UInt8.toNat_ofNat']
      rw [if_pos (by omega), if_neg (by omega), if_neg (by omega)]
      congr 1; omega
theorem mag_dec (u : Nat) (h : u < 18446744073709551616) : Lib.parseMag (Lib.decDigits u) = .ok u := by
  unfold Lib.parseMag
  rw [if_neg (dec_ne u), parse_dec u h]

theorem atoi_itoa (n : Int) (h0 : -9223372036854775808 ≤ n) (h1 : n ≤ 9223372036854775807) : Lib.atoiAll (Lib.itoa n) = .ok n := by
  unfold Lib.itoa
  split
  · rename_i hn
    simp only [Lib.atoiAll, UInt8.reduceToNat]
    simp only [or_true, if_true]
    rw [mag_dec _ (by omega)]
    simp only [not_true, false_and, if_false, true_and]
    rw [if_neg (by omega)]
    congr 1; omega
  · rename_i hn
    have hm := mag_dec n.toNat (by omega)
    have ha := dec_all n.toNat
    have hne := dec_ne n.toNat
    generalize Lib.decDigits n.toNat = l at *
    cases l with
    | nil => exact absurd rfl hne
    | cons c r =>
      have hc := ha c List.mem_cons_self
      simp only [Lib.atoiAll]
      rw [if_neg (show ¬ (c.toNat = 43 ∨ c.toNat = 45) by omega), hm]
      simp only []
      rw [if_neg (by omega), if_neg (by omega), if_neg (by omega)]
      congr 1; omega
theorem val_itoa (n : Int) (h0 : -9223372036854775808 ≤ n) (h1 : n ≤ 9223372036854775807) : valO ⟨(Lib.itoa n).toArray⟩ = some n := by
  unfold valO
  simp only [atoi_itoa n h0 h1, if_true]
end

section

def dvalA (a : Nat) (l : List UInt8) : Nat := l.foldl (fun n c => n * 10 + (c.toNat - 48)) a
def allD (l : List UInt8) : Prop := ∀ c ∈ l, 48 ≤ c.toNat ∧ c.toNat ≤ 57
theorem dval_snoc (a : Nat) (l : List UInt8) (c : UInt8) : dvalA a (l ++ [c]) = dvalA a l * 10 + (c.toNat - 48) := by simp [dvalA]
theorem dval_acc : ∀ (l : List UInt8) (a : Nat), dvalA a l = a * 10 ^ l.length + dvalA 0 l
  | [], a => by simp [dvalA]
  | c :: l, a => by
    have e1 : dvalA a (c :: l) = dvalA (a * 10 + (c.toNat - 48)) l := rfl
    have e2 : dvalA 0 (c :: l) = dvalA (0 * 10 + (c.toNat - 48)) l := rfl
    rw [e1, e2, dval_acc l, dval_acc l (0 * 10 + (c.toNat - 48)), List.length_cons, Nat.pow_succ]
    generalize 10 ^ l.length = P
    generalize c.toNat - 48 = x
    rw [Nat.zero_mul, Nat.zero_add, Nat.add_mul, Nat.mul_assoc, Nat.mul_comm 10 P, Nat.add_assoc]
theorem dval_cons (c : UInt8) (l : List UInt8) : dvalA 0 (c :: l) = (c.toNat - 48) * 10 ^ l.length + dvalA 0 l := by
  have e2 : dvalA 0 (c :: l) = dvalA (0 * 10 + (c.toNat - 48)) l := rfl
  rw [e2, dval_acc, Nat.zero_mul, Nat.zero_add]
theorem dval_lt : ∀ (l : List UInt8), allD l → dvalA 0 l < 10 ^ l.length
  | [], _ => by simp [dvalA]
  | c :: l, h => by
    have hc := h c List.mem_cons_self
    have ih := dval_lt l (fun x hx => h x (List.mem_cons_of_mem _ hx))
    rw [dval_cons, List.length_cons, Nat.pow_succ]
    have : (c.toNat - 48) * 10 ^ l.length ≤ 9 * 10 ^ l.length := Nat.mul_le_mul_right _ (by omega)
    omega

/-- Strings of digits of one length compare as their values. -/
theorem less_val : ∀ (l m : List UInt8), l.length = m.length → allD l → allD m → (Op.bytesLess l m = true ↔ dvalA 0 l < dvalA 0 m)
  | [], [], _, _, _ => by simp [Op.bytesLess, dvalA]
  | [], _ :: _, h, _, _ => by simp at h
  | _ :: _, [], h, _, _ => by simp at h
  | a :: x, b :: y, h, hl, hm => by
    have ha := hl a List.mem_cons_self
    have hb := hm b List.mem_cons_self
    have hlen : x.length = y.length := by simpa using h
    have hx : allD x := fun c hc => hl c (List.mem_cons_of_mem _ hc)
    have hy : allD y := fun c hc => hm c (List.mem_cons_of_mem _ hc)
    have ih := less_val x y hlen hx hy
    have bx := dval_lt x hx
    have bY := dval_lt y hy
    rw [dval_cons, dval_cons, ← hlen]
    rw [← hlen] at bY
    obtain ⟨P, hP⟩ : ∃ P, P = 10 ^ x.length := ⟨_, rfl⟩
    rw [← hP] at bx bY ⊢
    simp only [Op.bytesLess, Bool.or_eq_true, decide_eq_true_eq, Bool.and_eq_true, beq_iff_eq]
    rw [ih]
    have hab : a < b ↔ a.toNat < b.toNat := UInt8.lt_iff_toNat_lt
    rw [hab]
    have hEq : a = b ↔ a.toNat = b.toNat := UInt8.toNat_inj.symm
    rw [hEq]
    obtain ⟨p, hp⟩ : ∃ p, a.toNat = 48 + p := ⟨a.toNat - 48, by omega⟩
    obtain ⟨q, hq⟩ : ∃ q, b.toNat = 48 + q := ⟨b.toNat - 48, by omega⟩
    rw [hp, hq, Nat.add_sub_cancel_left, Nat.add_sub_cancel_left]
    constructor
    · rintro (h | ⟨h, h2⟩)
      · have : (p + 1) * P ≤ q * P := Nat.mul_le_mul_right _ (by omega)
        rw [Nat.add_mul, Nat.one_mul] at this; omega
      · have : p = q := by omega
        rw [this]; omega
    · intro h
      by_cases hpq : p < q
      · exact Or.inl (by omega)
      · by_cases he : p = q
        · rw [he] at h ⊢; exact Or.inr ⟨rfl, by omega⟩
        · have : (q + 1) * P ≤ p * P := Nat.mul_le_mul_right _ (by omega)
          rw [Nat.add_mul, Nat.one_mul] at this; omega

/-- No digits ahead that count nothing. -/
structure Canon (l : List UInt8) : Prop where
  ne : l ≠ []
  all : allD l
  first : l.head? = some 48 → l = [48]

theorem dec_canon : ∀ (k : Nat) (l : List UInt8), l.length = k → Canon l → Lib.decDigits (dvalA 0 l) = l := by
  intro k
  induction k with
  | zero => intro l hl h; exact absurd (List.length_eq_zero_iff.1 hl) h.ne
  | succ k ih =>
    intro l hl h
    obtain ⟨m, c, rfl⟩ : ∃ m c, l = m ++ [c] := ⟨l.dropLast, l.getLast h.ne, (List.dropLast_concat_getLast h.ne).symm⟩
    have hc := h.all c (by simp)
    have hm : m.length = k := by simpa using hl
    have ec : UInt8.ofNat (48 + (c.toNat - 48)) = c := by rw [show 48 + (c.toNat - 48) = c.toNat by omega]; simp
    rw [dval_snoc]
    by_cases h0 : m = []
    · subst h0
      simp only [dvalA, List.foldl_nil, Nat.zero_mul, Nat.zero_add, List.nil_append]
      rw [Lib.decDigits_one (by omega), ec]
    · have hf : m.head? ≠ some 48 := by
        intro e
        have := h.first (by rw [List.head?_append, e]; rfl)
        have hl2 := congrArg List.length this
        simp at hl2
        exact h0 hl2
      have hC : Canon m := ⟨h0, fun x hx => h.all x (by simp [hx]), fun e => absurd e hf⟩
      have im := ih m hm hC
      have hpos : dvalA 0 m ≠ 0 := by
        intro e
        rw [e, Lib.decDigits_one (by omega)] at im
        rw [← im] at hf
        exact hf rfl
      rw [Lib.decDigits, dif_neg (by omega)]
      rw [show (dvalA 0 m * 10 + (c.toNat - 48)) / 10 = dvalA 0 m by omega, im, show (dvalA 0 m * 10 + (c.toNat - 48)) % 10 = c.toNat - 48 by omega, ec]

theorem canon_dec : ∀ (u : Nat), Canon (Lib.decDigits u) ∧ dvalA 0 (Lib.decDigits u) = u := by
  intro u
  induction u using Nat.strongRecOn with
  | _ u ih =>
    by_cases h : u < 10
    · rw [Lib.decDigits_one h]
      have hu : (UInt8.ofNat (48 + u)).toNat = 48 + u := by simp only [UInt8.toNat_ofNat']; omega
      refine ⟨⟨by simp, fun c hc => ?_, fun e => ?_⟩, ?_⟩
      · rw [List.mem_singleton] at hc; rw [hc, hu]; omega
      · simp only [List.head?_cons, Option.some.injEq] at e; rw [e]
      · simp only [dvalA, List.foldl_cons, List.foldl_nil]; rw [hu]; omega
    · obtain ⟨hC, hv⟩ := ih (u / 10) (by omega)
      have hu : (UInt8.ofNat (48 + u % 10)).toNat = 48 + u % 10 := by simp only [UInt8.toNat_ofNat']; omega
      have e : Lib.decDigits u = Lib.decDigits (u / 10) ++ [UInt8.ofNat (48 + u % 10)] := by
        rw [Lib.decDigits, dif_neg h]
      rw [e]
      refine ⟨⟨by simp, fun c hc => ?_, fun e => ?_⟩, ?_⟩
      · rcases List.mem_append.1 hc with hc | hc
        · exact hC.all c hc
        · rw [List.mem_singleton] at hc; rw [hc, hu]; omega
      · have hh : (Lib.decDigits (u / 10)).head? = some 48 := by
          rw [List.head?_append] at e
          cases hq : (Lib.decDigits (u / 10)).head? with
          | none => exact absurd (List.head?_eq_none_iff.1 hq) hC.ne
          | some z => rw [hq] at e; exact e
        have := hC.first hh
        rw [this] at hv
        simp [dvalA] at hv
        omega
      · rw [dval_snoc, hv, hu]; omega
end

section

theorem agree_at {s u : ByteArray} {N k : Nat} (h : Agree s u N) (hk : k < N) (h1 : k < s.size) (h2 : k < u.size) : s[k] = u[k] := by
  have := h.eq k hk
  rwa [aheadB_lt h1, aheadB_lt h2] at this

/-- A run of a beginning is no longer than the whole text's. -/
theorem run_mono {s u : ByteArray} (h : Agree s u s.size) (p : UInt8 → Bool) : ∀ (f k : Nat), s.size - k ≤ f → k ≤ s.size → runN p s k ≤ runN p u k := by
  have hb := h.b
  intro f
  induction f with
  | zero => intro k hf hk; rw [runN_end (by omega)]; exact (runN_le p u k (by omega)).1
  | succ f ih =>
    intro k hf hk
    by_cases hlt : k < s.size
    · have he := agree_at h hlt hlt (by omega)
      cases hp : p s[k] with
      | true => rw [runN_go hlt hp, runN_go (s := u) (k := k) (by omega) (by rw [← he]; exact hp)]; exact ih _ (by omega) (by omega)
      | false => rw [runN_no hlt hp]; exact (runN_le p u k (by omega)).1
    · rw [runN_end hlt]; exact (runN_le p u k (by omega)).1

theorem plainGo_ge (u : ByteArray) : ∀ (f i : Nat) (has : Bool) (b : Nat), u.size - i ≤ f → b ≤ i → b ≤ plainGo u i has b := by
  intro f
  induction f with
  | zero => intro i has b hf hb; rw [plainGo_end (by omega)]; exact Nat.le_refl _
  | succ f ih =>
    intro i has b hf hb
    by_cases hlt : i < u.size
    · cases hp : bW u[i] with
      | false => rw [plainGo_no hlt hp]; exact Nat.le_refl _
      | true =>
        rw [plainGo_go hlt hp]
        by_cases hc : ((has || bL u[i]) && bF u[i]) = true
        · rw [if_pos hc]; have := ih (i + 1) (has || bL u[i]) (i + 1) (by omega) (by omega); omega
        · rw [if_neg hc]; exact ih (i + 1) _ b (by omega) (by omega)
    · rw [plainGo_end hlt]; exact Nat.le_refl _

theorem plainGo_mono {s u : ByteArray} (h : Agree s u s.size) : ∀ (f i : Nat) (has : Bool) (b : Nat), s.size - i ≤ f → i ≤ s.size → b ≤ i → plainGo s i has b ≤ plainGo u i has b := by
  have hb := h.b
  intro f
  induction f with
  | zero => intro i has b hf hi hbi; rw [plainGo_end (by omega)]; exact plainGo_ge u _ i has b (Nat.le_refl _) hbi
  | succ f ih =>
    intro i has b hf hi hbi
    by_cases hlt : i < s.size
    · have he := agree_at h hlt hlt (by omega)
      cases hp : bW s[i] with
      | false => rw [plainGo_no hlt hp]; exact plainGo_ge u _ i has b (Nat.le_refl _) hbi
      | true =>
        rw [plainGo_go hlt hp, plainGo_go (s := u) (by omega) (by rw [← he]; exact hp), ← he]
        exact ih _ _ _ (by omega) (by omega) (by split <;> omega)
    · rw [plainGo_end hlt]; exact plainGo_ge u _ i has b (Nat.le_refl _) hbi

/-- Where a byte of the beginning ends the walk, the whole text's walk is the same. -/
theorem plainGo_stop {s u : ByteArray} (h : Agree s u s.size) : ∀ (f i : Nat) (has : Bool) (b : Nat), s.size - i ≤ f → runN bW s i < s.size → plainGo u i has b = plainGo s i has b := by
  have hb := h.b
  intro f
  induction f with
  | zero => intro i has b hf hr; rw [runN_end (by omega)] at hr; omega
  | succ f ih =>
    intro i has b hf hr
    by_cases hlt : i < s.size
    · have he := agree_at h hlt hlt (by omega)
      cases hp : bW s[i] with
      | false => rw [plainGo_no hlt hp, plainGo_no (s := u) (by omega) (by rw [← he]; exact hp)]
      | true =>
        rw [runN_go hlt hp] at hr
        rw [plainGo_go hlt hp, plainGo_go (s := u) (by omega) (by rw [← he]; exact hp), ← he]
        exact ih _ _ _ (by omega) hr
    · rw [runN_end hlt] at hr; omega

theorem plain_mono {s u : ByteArray} (h : Agree s u s.size) : plainN s ≤ plainN u := by
  have hb := h.b
  unfold plainN
  by_cases h0 : 0 < s.size
  · have he := agree_at h h0 h0 (by omega)
    rw [dif_pos h0, dif_pos (by omega), ← he]
    split
    · exact plainGo_mono h _ 0 false 0 (Nat.le_refl _) (by omega) (by omega)
    · omega
  · rw [dif_neg h0]; omega

theorem plain_stop {s u : ByteArray} (h : Agree s u s.size) (hr : runN bW s 0 < s.size) : plainN u = plainN s := by
  have hb := h.b
  have h0 : 0 < s.size := by omega
  have he := agree_at h h0 h0 (by omega)
  unfold plainN
  rw [dif_pos h0, dif_pos (by omega), ← he, plainGo_stop h _ 0 false 0 (Nat.le_refl _) hr]

/-- A run ends at the latest where a byte is not of its class. -/
theorem run_to {p : UInt8 → Bool} {s : ByteArray} : ∀ (f k q : Nat), q - k ≤ f → k ≤ q → (hq : q < s.size) → p s[q] = false → runN p s k ≤ q := by
  intro f
  induction f with
  | zero => intro k q hf hk hq hp; have : k = q := by omega
            subst this; rw [runN_no hq hp]; exact Nat.le_refl _
  | succ f ih =>
    intro k q hf hk hq hp
    by_cases e : k = q
    · subst e; rw [runN_no hq hp]; exact Nat.le_refl _
    · have hlt : k < s.size := by omega
      cases hc : p s[k] with
      | true => rw [runN_go hlt hc]; exact ih _ _ (by omega) (by omega) hq hp
      | false => rw [runN_no hlt hc]; omega

theorem lib_mono {s u : ByteArray} (h : Agree s u s.size) : libN s ≤ libN u := by
  have hb := h.b
  unfold libN
  by_cases h1 : 1 < s.size
  · have e0 := agree_at h (k := 0) (by omega) (by omega) (by omega)
    have e1 := agree_at h h1 h1 (by omega)
    rw [dif_pos h1, dif_pos (by omega), ← e0, ← e1]
    split
    · split
      · exact run_mono h bQ _ 1 (Nat.le_refl _) (by omega)
      · omega
    · omega
  · rw [dif_neg h1]; omega

theorem agree_rest {s u : ByteArray} (h : Agree s u s.size) (n : Nat) : Agree (restB s n) (restB u n) (restB s n).size := by
  have := h.rest n
  rwa [← rest_size] at this

/-- A beginning that is a name as a whole: the whole text's name is no shorter. -/
theorem name_full {s u : ByteArray} (h : Agree s u s.size) (h0 : 0 < s.size) (hf : nameN s = s.size) : s.size ≤ nameN u := by
  have hb := h.b
  unfold nameN at hf
  by_cases hz : plainN s = 0
  · rw [if_pos hz] at hf; omega
  · rw [if_neg hz] at hf
    have hm := plain_mono h
    have hu : nameN u = plainN u + libN (restB u (plainN u)) := by unfold nameN; rw [if_neg (by omega)]; rfl
    change plainN s + libN (restB s (plainN s)) = s.size at hf
    by_cases hl : libN (restB s (plainN s)) = 0
    · omega
    · have hs := rest_size s (plainN s)
      have h64 : 1 < (restB s (plainN s)).size ∧ aheadB (restB s (plainN s)) 0 = 64 := by
        unfold libN at hl
        by_cases h1 : 1 < (restB s (plainN s)).size
        · rw [dif_pos h1] at hl
          refine ⟨h1, ?_⟩
          rw [aheadB_lt (by omega)]
          by_cases hc : (restB s (plainN s))[0] = 64
          · exact hc
          · rw [if_neg hc] at hl; exact absurd rfl hl
        · rw [dif_neg h1] at hl; exact absurd rfl hl
      have hq : plainN s < s.size := by omega
      have h64' : s[plainN s] = 64 := by have := h64.2; rw [ahead_rest, Nat.add_zero, aheadB_lt hq] at this; exact this
      have hr := run_to (p := bW) _ 0 (plainN s) (Nat.le_refl _) (by omega) hq (by rw [h64']; decide)
      have he := plain_stop h (by omega)
      rw [hu, he]
      have := lib_mono (agree_rest h (plainN s))
      omega

theorem int_full {s u : ByteArray} (h : Agree s u s.size) (c : UInt8) (op : Bool) (hop : op = true → (c == 45) = false) : intN s c false ≤ intN u c op := by
  unfold intN
  cases hc : (c == 45) with
  | false =>
    rw [Bool.false_and, Bool.false_and, if_neg (by simp), if_neg (by simp)]
    exact run_mono (agree_rest h 0) bD _ 0 (Nat.le_refl _) (by omega)
  | true =>
    have ho : op = false := by cases op with | false => rfl | true => rw [hop rfl] at hc; exact absurd hc (by simp)
    subst ho
    rw [Bool.true_and, Bool.not_false, if_pos rfl, if_pos rfl]
    have := run_mono (agree_rest h 1) bD _ 0 (Nat.le_refl _) (by omega)
    change (if runN bD (restB s 1) 0 = 0 then 0 else 1 + runN bD (restB s 1) 0) ≤ (if runN bD (restB u 1) 0 = 0 then 0 else 1 + runN bD (restB u 1) 0)
    split
    · omega
    · rw [if_neg (by omega)]; omega

theorem sign_full {s u : ByteArray} (h : Agree s u s.size) (h2 : 2 ≤ s.size) (hf : signN s = s.size) : s.size ≤ signN u := by
  have hb := h.b
  unfold signN at hf ⊢
  have e : u.extract 0 (min 2 u.size) = s.extract 0 (min 2 s.size) := by
    rw [show min 2 u.size = 2 by omega, show min 2 s.size = 2 by omega]; exact (h.ext (a := 0) h2).symm
  rw [e]
  split at hf
  · rename_i hx; rw [if_pos hx]; omega
  · split at hf <;> omega

theorem hash_full {s u : ByteArray} (h : Agree s u s.size) (h2 : 2 ≤ s.size) (hf : hashN s = s.size) : s.size ≤ hashN u := by
  unfold hashN at hf ⊢
  rw [← prefix_two 35 116 _ _ (h.list 0 (by omega)) (h.list 1 (by omega)), ← prefix_two 35 102 _ _ (h.list 0 (by omega)) (h.list 1 (by omega))]
  split at hf
  · rename_i hx; rw [if_pos hx]; omega
  · omega
end

section

theorem pat_full {t s u : ByteArray} {i : Nat} (h : Agree s u s.size) (ht : ∀ j, j < s.size → aheadB t (i + j) = aheadB s j) (h0 : 1 ≤ s.size) (hf : patN s 0 s = s.size) : s.size ≤ patN t i u := by
  have hb := h.b
  have he0 := h.eq 0 (by omega)
  have hr1 := agree_rest h 1
  have hs1 := rest_size s 1
  unfold patN at hf
  change (if aheadB s 0 = 63 then
    if plainN (restB s 1) = 0 then 0
    else if aheadB s (plainN (restB s 1) + 1) = 58 then
      if joinsB (aheadB s (0 + (plainN (restB s 1) + 1 + 1))) then plainN (restB s 1) + 1
      else if 0 < plainN (restB s (plainN (restB s 1) + 1 + 1)) then plainN (restB s 1) + 1 + 1 + plainN (restB s (plainN (restB s 1) + 1 + 1)) else plainN (restB s 1) + 1
    else plainN (restB s 1) + 1
  else 0) = s.size at hf
  unfold patN
  change s.size ≤ (if aheadB u 0 = 63 then
    if plainN (restB u 1) = 0 then 0
    else if aheadB u (plainN (restB u 1) + 1) = 58 then
      if joinsB (aheadB t (i + (plainN (restB u 1) + 1 + 1))) then plainN (restB u 1) + 1
      else if 0 < plainN (restB u (plainN (restB u 1) + 1 + 1)) then plainN (restB u 1) + 1 + 1 + plainN (restB u (plainN (restB u 1) + 1 + 1)) else plainN (restB u 1) + 1
    else plainN (restB u 1) + 1
  else 0)
  rw [← he0]
  by_cases h63 : aheadB s 0 = 63
  · rw [if_pos h63] at hf ⊢
    by_cases hz : plainN (restB s 1) = 0
    · rw [if_pos hz] at hf; omega
    · rw [if_neg hz] at hf
      have hm := plain_mono hr1
      have hple := plainN_le (restB s 1)
      by_cases h58 : aheadB s (plainN (restB s 1) + 1) = 58
      · rw [if_pos h58] at hf
        have hq : plainN (restB s 1) + 1 < s.size := by
          apply Nat.lt_of_not_le; intro hle; rw [aheadB_ge hle] at h58; exact absurd h58 (by decide)
        by_cases hj : joinsB (aheadB s (0 + (plainN (restB s 1) + 1 + 1))) = true
        · rw [if_pos hj] at hf; omega
        · rw [if_neg hj] at hf
          by_cases hp : 0 < plainN (restB s (plainN (restB s 1) + 1 + 1))
          · rw [if_pos hp] at hf
            have hin : plainN (restB s 1) < (restB s 1).size := by omega
            have hst : plainN (restB u 1) = plainN (restB s 1) := by
              apply plain_stop hr1
              have hx : (restB s 1)[plainN (restB s 1)] = 58 := by
                rw [← aheadB_lt hin, ahead_rest, Nat.add_comm]; exact h58
              have := run_to (p := bW) _ 0 _ (Nat.le_refl _) (by omega) hin (by rw [hx]; decide)
              omega
            have h2 : plainN (restB s 1) + 1 + 1 < s.size := by omega
            rw [hst, if_neg hz, ← h.eq _ hq, if_pos h58, ht _ h2]
            rw [Nat.zero_add] at hj
            rw [if_neg hj]
            have hm2 := plain_mono (agree_rest h (plainN (restB s 1) + 1 + 1))
            rw [if_pos (by omega)]
            omega
          · rw [if_neg hp] at hf; omega
      · rw [if_neg h58] at hf
        rw [if_neg (by omega)]
        split
        · split
          · omega
          · split <;> omega
        · omega
  · rw [if_neg h63] at hf; omega

theorem key_last {t s : ByteArray} {i : Nat} (h0 : 1 ≤ s.size) (hl : aheadB s (s.size - 1) ≠ 58) : keyN t i s ≠ s.size := by
  unfold keyN
  split
  · omega
  · split
    · rename_i h58
      split
      · omega
      · intro e
        apply hl
        rw [show s.size - 1 = plainN s by omega]; exact h58
    · omega

theorem best_ge (n : Nat → Nat) : ∀ k j, j < k → n j ≤ (bestTo n k).2
  | 0, j, h => absurd h (by omega)
  | k + 1, j, h => by
    rw [bestTo]
    by_cases e : j = k
    · subst e; split
      · exact Nat.le_refl _
      · omega
    · have := best_ge n k j (by omega)
      split
      · simp only; omega
      · exact this

theorem best_is (n : Nat → Nat) : ∀ k, (bestTo n k).1 ≠ 0 → ∃ j, j < k ∧ bestTo n k = (j + 1, n j)
  | 0, h => absurd rfl h
  | k + 1, h => by
    rw [bestTo] at h ⊢
    split
    · exact ⟨k, by omega, rfl⟩
    · rename_i hk
      rw [if_neg hk] at h
      obtain ⟨j, hj, e⟩ := best_is n k h
      exact ⟨j, by omega, e⟩

theorem next_tok {t : ByteArray} {i : Nat} {op : Bool} {p : Nat × Nat} (h : nextR t i op = .ok p) (ht : isTok p.1 = true) : bestTo (ruleN t i op) 6 = p := by
  unfold nextR at h
  split at h
  · simp only [Except.ok.injEq] at h; subst h; exact absurd ht (by simp [isTok])
  · split at h
    · split at h
      · simp only [Except.ok.injEq] at h; subst h; exact absurd ht (by simp [isTok])
      · simp at h
    · split at h
      · simp only [Except.ok.injEq] at h; subst h; exact absurd ht (by simp [isTok])
      · split at h
        · simp only [Except.ok.injEq] at h; exact h
        · simp at h

theorem ahead_part {t : ByteArray} {a b j : Nat} (hb : b ≤ t.size) (hj : a + j < b) : aheadB (t.extract a b) j = aheadB t (a + j) := by
  rw [aheadB_lt (t := t) (by omega), aheadB_lt (by rw [ByteArray.size_extract]; omega)]
  simp [ByteArray.getElem_eq_getElem_data]

/-- Behind an operand a text that begins with - has the token - there. -/
theorem minus_one {t : ByteArray} {i : Nat} (hi : i < t.size) (h45 : aheadB t i = 45) : ∀ k, ruleN t i true k ≤ 1 := by
  have hw := win_sz t i
  have hu0 : aheadB (winB t i) 0 = 45 := by unfold winB; rw [ahead_part (by omega) (by omega)]; exact h45
  have hpl : plainN (winB t i) = 0 := by
    unfold plainN
    rw [dif_pos (by omega), ← aheadB_lt (by omega), hu0]
    rfl
  have hl0 : (winB t i).data.toList[0]? = some 45 := by
    rw [Array.getElem?_toList, ahead_data (by omega), hu0]
  intro k
  match k with
  | 0 => simp only [ruleN, nameN, hpl, if_pos]; omega
  | 1 =>
    simp only [ruleN, intN, h45]
    rw [if_neg (by simp)]
    have h0 : 0 < (restB (winB t i) 0).size := by rw [rest_size]; omega
    have := run_to (p := bD) (s := restB (winB t i) 0) 0 0 0 (by omega) (by omega) h0 (by rw [← aheadB_lt h0, ahead_rest, hu0]; decide)
    change runN bD (restB (winB t i) 0) 0 ≤ 1
    omega
  | 2 => simp only [ruleN, keyN, hpl, if_pos]; omega
  | 3 =>
    have hr0 : (restB t i).data.toList[0]? = some 45 := by
      rw [Array.getElem?_toList, ahead_data (by rw [rest_size]; omega), ahead_rest, Nat.add_zero, h45]
    simp only [ruleN, hashN]
    generalize (restB t i).data.toList = l at hr0
    cases l with
    | nil => simp at hr0
    | cons x l =>
      simp at hr0; subst hr0
      simp [Lib.hasPrefix, List.isPrefixOf]
  | 4 =>
    simp only [ruleN, signN]
    have hx : signTwo ((winB t i).extract 0 (min 2 (winB t i).size)).toList = false := by
      have hh : ((winB t i).extract 0 (min 2 (winB t i).size)).toList[0]? = some 45 := by
        rw [ByteArray.toList_eq, Array.getElem?_toList, ahead_data (by rw [ByteArray.size_extract]; omega), ahead_part (by omega) (by omega)]; rw [hu0]
      generalize ((winB t i).extract 0 (min 2 (winB t i).size)).toList = l at hh
      cases l with
      | nil => simp at hh
      | cons x l => simp at hh; subst hh; simp [signTwo]
    rw [hx]
    simp only [Bool.false_eq_true, if_false]
    split <;> omega
  | (n + 5) =>
    simp only [ruleN, patN, hu0]
    rw [if_neg (by decide)]; omega

theorem longest {t : ByteArray} {p k l : Nat} {op : Bool} (hp : p < t.size) (hn : nextR t p op = .ok (k, l)) (hk : isTok k = true) (hlt : p + l < t.size) (hc : aheadB t (p + l) ≠ 58) (hm : l = 1 → aheadB t p ≠ 45) :
    kindN (t.extract p (p + l + 1)) = 0 := by
  have hbd := next_bounds hp hn
  simp only at hbd
  have hb := next_tok hn hk
  obtain ⟨s, hse⟩ : ∃ s, s = t.extract p (p + l + 1) := ⟨_, rfl⟩
  have hs : s.size = l + 1 := by rw [hse, ByteArray.size_extract]; omega
  have hsa : ∀ j, j < s.size → aheadB s j = aheadB t (p + j) := fun j hj => by rw [hse]; exact ahead_part (by omega) (by omega)
  rw [← hse]
  unfold kindN
  rw [if_neg (by omega)]
  cases hx : nextR s 0 false with
  | error c => rfl
  | ok q =>
    simp only
    by_cases hq : isTok q.1 = true ∧ q.2 = s.size
    · exfalso
      have hb' := next_tok hx hq.1
      have hq0 : (bestTo (ruleN s 0 false) 6).1 ≠ 0 := by rw [hb']; intro e; rw [e] at hq; exact absurd hq.1 (by decide)
      obtain ⟨j, hj, e⟩ := best_is _ _ hq0
      have hfull : ruleN s 0 false j = s.size := by rw [← hq.2, ← hb', e]
      have hge := best_ge (ruleN t p op) 6 j hj
      rw [hb] at hge
      simp only at hge
      clear e hb' hq0 hx hn
      have hj6 : j = 0 ∨ j = 1 ∨ j = 2 ∨ j = 3 ∨ j = 4 ∨ j = 5 := by omega
      have hw := win_sz t p
      have hws := win_sz s 0
      have hlast : aheadB s (s.size - 1) ≠ 58 := by rw [hsa _ (by omega), show p + (s.size - 1) = p + l by omega]; exact hc
      have hAr : Agree s (restB t p) s.size := ⟨Nat.le_refl _, by rw [rest_size]; omega, fun j hj => by rw [ahead_rest]; exact hsa j hj⟩
      have hr0 : restB s 0 = s := by apply ByteArray.ext; simp [restB]
      by_cases h100 : s.size ≤ 100
      · have hw0 : winB s 0 = s := by unfold winB; rw [show min (0 + 100) s.size = s.size by omega]; exact hr0
        have hA : Agree s (winB t p) s.size := ⟨Nat.le_refl _, by omega, fun j hj => by unfold winB; rw [ahead_part (by omega) (by omega)]; exact hsa j hj⟩
        rcases hj6 with rfl | rfl | rfl | rfl | rfl | rfl
        · simp only [ruleN, hw0] at hfull hge
          have := name_full hA (by omega) hfull; omega
        · simp only [ruleN, hw0] at hfull hge
          rw [hsa 0 (by omega), Nat.add_zero] at hfull
          have := int_full hA (aheadB t p) op (by
            intro ho
            apply beq_eq_false_iff_ne.2
            intro h45
            subst ho
            have := bestTo_le (ruleN t p true) 1 (minus_one hp h45) 6
            rw [hb] at this
            exact hm (by simp only at this; omega) h45)
          omega
        · simp only [ruleN, hw0] at hfull
          exact key_last (by omega) hlast hfull
        · simp only [ruleN, hr0] at hfull hge
          have := hash_full hAr (by omega) hfull; omega
        · simp only [ruleN, hw0] at hfull hge
          have := sign_full hA (by omega) hfull; omega
        · simp only [ruleN, hw0] at hfull hge
          have := pat_full (t := t) (i := p) hA (fun j hj => (hsa j hj).symm) (by omega) hfull; omega
      · rcases hj6 with rfl | rfl | rfl | rfl | rfl | rfl
        · simp only [ruleN] at hfull; have := nameN_le (winB s 0); omega
        · simp only [ruleN] at hfull; have := intN_le (winB s 0) (aheadB s 0) false (by omega); omega
        · simp only [ruleN] at hfull; have := keyN_le s 0 (winB s 0); omega
        · simp only [ruleN, hr0] at hfull hge
          have := hash_full hAr (by omega) hfull; omega
        · simp only [ruleN] at hfull; have := signN_le (winB s 0); omega
        · simp only [ruleN] at hfull; have := patN_le s 0 (winB s 0); omega
    · rw [if_neg hq]
end

section

/-- From the place i on, with c tokens so far, the pieces l stand one after another, and lead to the state st. -/
def Steps (t : ByteArray) : Nat → Bool → Nat → List (Nat × Nat × Nat) → Nat × Bool × Nat → Prop
  | i, op, c, [], st => st = (i, op, c)
  | i, op, c, x :: l, st => i < t.size ∧ x.2.1 = i ∧ nextR t i op = .ok (x.1, x.2.2) ∧ ¬ (isTok x.1 = true ∧ c = 6000) ∧
      Steps t (i + x.2.2) (if isTok x.1 then opE x.1 (cutB t i x.2.2) else op) (if isTok x.1 then c + 1 else c) l st

theorem steps_append {t : ByteArray} : ∀ (l m : List (Nat × Nat × Nat)) (i : Nat) (op : Bool) (c : Nat) (st st' : Nat × Bool × Nat), Steps t i op c l st → Steps t st.1 st.2.1 st.2.2 m st' → Steps t i op c (l ++ m) st' := by
  intro l
  induction l with
  | nil => intro m i op c st st' h h2; simp only [Steps] at h; subst h; exact h2
  | cons x l ih =>
    intro m i op c st st' h h2
    obtain ⟨h1, h3, h4, h5, h6⟩ := h
    exact ⟨h1, h3, h4, h5, ih m _ _ _ st st' h6 h2⟩
theorem steps_bounds {t : ByteArray} : ∀ (l : List (Nat × Nat × Nat)) (i : Nat) (op : Bool) (c : Nat) (st : Nat × Bool × Nat), Steps t i op c l st → i ≤ t.size → i + l.length ≤ st.1 ∧ st.1 ≤ t.size := by
  intro l
  induction l with
  | nil => intro i op c st h hi; simp only [Steps] at h; subst h; simp; exact hi
  | cons x l ih =>
    intro i op c st h hi
    obtain ⟨h1, h3, h4, h5, h6⟩ := h
    have hb := next_bounds h1 h4
    have := ih _ _ _ st h6 (by omega)
    simp only [List.length_cons]; omega
/-- How much there is to go does not matter, as long as it is enough. -/
theorem cutF_fuel (t : ByteArray) : ∀ (f g i : Nat) (op : Bool) (n : Nat), t.size - i < f → t.size - i < g → cutF t f i op n = cutF t g i op n := by
  intro f
  induction f with
  | zero => intro g i op n hf; omega
  | succ f ih =>
    intro g i op n hf hg
    cases g with
    | zero => omega
    | succ g =>
      rw [cutF, cutF]
      by_cases hi : i < t.size
      · rw [if_pos hi, if_pos hi]
        cases hp : nextR t i op with
        | error c => rfl
        | ok p =>
          have hb := next_bounds hi hp
          simp only
          rw [ih g (i + p.2) _ _ (by omega) (by omega)]
      · rw [if_neg hi, if_neg hi]
theorem cutF_cons {t : ByteArray} {f i : Nat} {op : Bool} {n : Nat} {p : Nat × Nat} (hi : i < t.size) (hp : nextR t i op = .ok p) (hc : ¬ (isTok p.1 = true ∧ n = 6000)) :
    cutF t (f + 1) i op n = ((p.1, i, p.2) :: (cutF t f (i + p.2) (if isTok p.1 then opE p.1 (cutB t i p.2) else op) (if isTok p.1 then n + 1 else n)).1, (cutF t f (i + p.2) (if isTok p.1 then opE p.1 (cutB t i p.2) else op) (if isTok p.1 then n + 1 else n)).2) := by
  rw [cutF, if_pos hi, hp]; simp only; rw [if_neg hc]
theorem steps_cutF {t : ByteArray} : ∀ (l : List (Nat × Nat × Nat)) (i : Nat) (op : Bool) (c : Nat) (st : Nat × Bool × Nat), Steps t i op c l st → i ≤ t.size → ∀ f g, t.size - i < f → t.size - st.1 < g → cutF t f i op c = (l ++ (cutF t g st.1 st.2.1 st.2.2).1, (cutF t g st.1 st.2.1 st.2.2).2) := by
  intro l
  induction l with
  | nil =>
    intro i op c st h hi f g hf hg
    simp only [Steps] at h; subst h
    rw [cutF_fuel t f g i op c hf hg]; simp
  | cons x l ih =>
    intro i op c st h hi f g hf hg
    obtain ⟨h1, h3, h4, h5, h6⟩ := h
    have hb := next_bounds h1 h4
    cases f with
    | zero => omega
    | succ f =>
      rw [cutF_cons h1 h4 h5, ih _ _ _ st h6 (by omega) f g (by omega) hg]
      subst h3
      rfl
end

section

theorem ext_ahead {s r : ByteArray} (hs : s.size = r.size) (h : ∀ q, q < s.size → aheadB s q = aheadB r q) : s = r := by
  have h1 : s.data.size = s.size := rfl
  have h2 : r.data.size = r.size := rfl
  apply ByteArray.ext
  apply Array.ext_getElem?
  intro q
  by_cases hq : q < s.size
  · rw [ahead_data hq, ahead_data (by omega), h q hq]
  · rw [Array.getElem?_eq_none (by omega), Array.getElem?_eq_none (by omega)]
end

section

theorem cutAll_steps {u : ByteArray} {m : List (Nat × Nat × Nat)} {j : Nat} {op : Bool} {c : Nat} (h : Steps u 0 false 0 m (j, op, c)) (f : Nat) (hf : u.size - j < f) : cutAll u = (m ++ (cutF u f j op c).1, (cutF u f j op c).2) := by
  unfold cutAll
  exact steps_cutF m 0 false 0 (j, op, c) h (Nat.zero_le _) (u.size + 1) f (by omega) hf
theorem cutAll_done {u : ByteArray} {m : List (Nat × Nat × Nat)} {op : Bool} {c : Nat} (h : Steps u 0 false 0 m (u.size, op, c)) : cutAll u = (m, none) := by
  rw [cutAll_steps h 1 (by omega), cutF, if_neg (by omega)]; simp
theorem cutAll_bad {u : ByteArray} {m : List (Nat × Nat × Nat)} {i : Nat} {op : Bool} {c e : Nat} (h : Steps u 0 false 0 m (i, op, c)) (hi : i < u.size) (he : nextR u i op = .error e ∨ ∃ p, nextR u i op = .ok p ∧ isTok p.1 = true ∧ c = 6000 ∧ e = 2) : (cutAll u).2 = some (i, e) := by
  rw [cutAll_steps h (u.size - i + 1) (by omega), cutF, if_pos hi]
  rcases he with he | ⟨p, hp, ht, hc, rfl⟩
  · rw [he]
  · rw [hp]; simp only; rw [if_pos ⟨ht, hc⟩]
end

section

/-- The end of a text (or a byte 0), or a blank: no rule takes it. -/
def Stop (c : UInt8) : Prop := c = 0 ∨ c = 32
theorem Stop.w {c : UInt8} (h : Stop c) : bW c = false := by rcases h with rfl | rfl <;> decide
theorem Stop.q {c : UInt8} (h : Stop c) : bQ c = false := by rcases h with rfl | rfl <;> decide
theorem Stop.d {c : UInt8} (h : Stop c) : bD c = false := by rcases h with rfl | rfl <;> decide
theorem Stop.joins {c : UInt8} (h : Stop c) : joinsB c = false := by rcases h with rfl | rfl <;> decide
theorem Stop.ne {c : UInt8} (h : Stop c) (b : UInt8) (h0 : b ≠ 0) (h32 : b ≠ 32) : c ≠ b := by rcases h with rfl | rfl; exact fun e => h0 e.symm; exact fun e => h32 e.symm

theorem lib_two {s : ByteArray} (h : libN s ≠ 0) : 2 ≤ libN s := by
  unfold libN at h ⊢
  by_cases h1 : 1 < s.size
  · rw [dif_pos h1] at h ⊢
    by_cases h64 : s[0] = 64
    · rw [if_pos h64] at h ⊢
      by_cases hq : (bL s[1] || bD s[1]) = true
      · rw [if_pos hq]
        rw [runN_go h1 (by unfold bQ; rw [hq]; rfl)]
        exact (runN_le bQ s 2 (by omega)).1
      · rw [if_neg hq] at h; exact absurd rfl h
    · rw [if_neg h64] at h; exact absurd rfl h
  · rw [dif_neg h1] at h; exact absurd rfl h

theorem pat_ge {t s : ByteArray} {i : Nat} : patN t i s ≠ 0 → 2 ≤ patN t i s ∧ aheadB s 0 = 63 := by
  intro h
  unfold patN at h ⊢
  split at h
  · rename_i h63
    rw [if_pos h63]
    split at h
    · exact absurd rfl h
    · rename_i hz
      rw [if_neg hz]
      refine ⟨?_, h63⟩
      split
      · split
        · omega
        · split <;> omega
      · omega
  · exact absurd rfl h

theorem best_eq {m : Nat → Nat} {w l : Nat} (hl : 0 < l) (h1 : ∀ q, m q ≤ l) (h2 : m w = l) (h3 : ∀ q, q < w → m q < l) : ∀ n, w < n → bestTo m n = (w + 1, l)
  | 0, h => absurd h (by omega)
  | n + 1, h => by
    rw [bestTo]
    by_cases e : w = n
    · subst e
      have key : ∀ k, k ≤ w → (bestTo m k).2 < l := by
        intro k
        induction k with
        | zero => intro _; exact hl
        | succ k ih =>
          intro hk
          rw [bestTo]
          split
          · exact h3 k (by omega)
          · exact ih (by omega)
      rw [if_pos (by rw [h2]; exact key w (Nat.le_refl _)), h2]
    · have := best_eq hl h1 h2 h3 n (by omega)
      rw [this]
      rw [if_neg (by have := h1 n; simp only; omega)]

theorem run_every {p : UInt8 → Bool} {s : ByteArray} : ∀ (f k q : Nat), s.size - k ≤ f → k ≤ q → q < runN p s k → p (aheadB s q) = true := by
  intro f
  induction f with
  | zero => intro k q hf hk hq; rw [runN_end (by omega)] at hq; omega
  | succ f ih =>
    intro k q hf hk hq
    by_cases hlt : k < s.size
    · cases hp : p s[k] with
      | false => rw [runN_no hlt hp] at hq; omega
      | true =>
        rw [runN_go hlt hp] at hq
        by_cases e : q = k
        · subst e; rw [aheadB_lt hlt]; exact hp
        · exact ih (k + 1) q (by omega) (by omega) hq
    · rw [runN_end hlt] at hq; omega

theorem ahead_win {t : ByteArray} {i q : Nat} (h : q < (winB t i).size) : aheadB (winB t i) q = aheadB t (i + q) := by
  unfold winB at h ⊢
  rw [ByteArray.size_extract] at h
  rw [ahead_part (by omega) (by omega)]

/-- The tokens among pieces, with their texts. -/
def tv (t : ByteArray) (l : List (Nat × Nat × Nat)) : List (Nat × ByteArray) := (l.filter fun x => isTok x.1).map fun x => (x.1, cutB t x.2.1 x.2.2)
end

section

theorem bestTo_kind (n : Nat → Nat) : ∀ m k, (bestTo n m).1 = k + 1 → (bestTo n m).2 = n k ∧ 0 < n k
  | 0, k, h => by simp [bestTo] at h
  | m + 1, k, h => by
    rw [bestTo] at h ⊢
    split at h
    · rename_i hlt
      rw [if_pos hlt]
      simp only at h ⊢
      have : m = k := by omega
      subst this
      exact ⟨rfl, by omega⟩
    · rename_i hlt
      rw [if_neg hlt]
      exact bestTo_kind n m k h
theorem keyN_two (t : ByteArray) (i : Nat) (s : ByteArray) (h : 0 < keyN t i s) : 2 ≤ keyN t i s := by
  unfold keyN at h ⊢
  split at h
  · omega
  · rename_i h0
    rw [if_neg h0]
    split at h
    · rename_i h1
      rw [if_pos h1]
      split at h
      · omega
      · rename_i h2
        rw [if_neg h2]; omega
    · omega
theorem patN_two (t : ByteArray) (i : Nat) (s : ByteArray) (h : 0 < patN t i s) : 2 ≤ patN t i s := by
  unfold patN at h ⊢
  generalize plainN (s.extract 1 s.size) = a at *
  split at h
  · rename_i h0
    rw [if_pos h0]
    split at h
    · omega
    · rename_i h1
      rw [if_neg h1]
      split
      · split
        · omega
        · split <;> omega
      · omega
  · omega
/-- A keyword, and a pattern variable, have two bytes at least. -/
theorem two_bytes {t : ByteArray} {i : Nat} {op : Bool} {p : Nat × Nat} (h : nextR t i op = .ok p) (hk : p.1 = 3 ∨ p.1 = 6) : 2 ≤ p.2 := by
  unfold nextR at h
  split at h
  · injection h with h; subst h; simp at hk
  · split at h
    · split at h
      · injection h with h; subst h; simp at hk
      · cases h
    · split at h
      · injection h with h; subst h; simp at hk
      · split at h
        · injection h with h
          subst h
          rcases hk with hk | hk
          · obtain ⟨e, hp⟩ := bestTo_kind (ruleN t i op) 6 2 hk
            rw [e]
            exact keyN_two t i (winB t i) hp
          · obtain ⟨e, hp⟩ := bestTo_kind (ruleN t i op) 6 5 hk
            rw [e]
            exact patN_two t i (winB t i) hp
        · cases h
theorem two_text {t : ByteArray} {i : Nat} {op : Bool} {p : Nat × Nat} (hi : i < t.size) (h : nextR t i op = .ok p) (hk : p.1 = 3 ∨ p.1 = 6) (c : UInt8) : ((cutB t i p.2).toList == [c]) = false := by
  have h2 := two_bytes h hk
  have hb := (next_bounds hi h).2.2.2
  rw [beq_eq_false_iff_ne]
  intro e
  have := congrArg List.length e
  rw [ByteArray.toList_eq] at this
  simp [cutB] at this
  omega
end

end Go.Proofs.YtafncodigpjkaaaGreatDoor
