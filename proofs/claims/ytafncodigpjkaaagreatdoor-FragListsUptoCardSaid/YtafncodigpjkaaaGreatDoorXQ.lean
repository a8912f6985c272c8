/-
  The reference's choice among the rules.
-/
import Derived.Test.YtafncodigpjkaaaGreatDoorXJ
import Derived.Test.YtafncodigpjkaaaGreatDoorXE
import Derived.Test.YtafncodigpjkaaaGreatDoorXH
namespace Go.Proofs.YtafncodigpjkaaaGreatDoor
section
open Go.RowKit

def nmB (t : ByteArray) (i : Nat) : Nat → Bool
  | 0 => false
  | k + 1 => nmB t i k || decide (0 < longR (nB k) (winB t i))
def skipB (name op : Bool) (t : ByteArray) (i : Nat) (r : Nat × ByteArray) : Bool := (name && (r.1 != 1 && r.1 != 3)) || (op && aheadB r.2 0 == 45) || !allowB r.1 r.2 t i
def stepR (name op : Bool) (t : ByteArray) (i : Nat) (out : Nat × Nat) (r : Nat × ByteArray) : Nat × Nat :=
  if skipB name op t i r then out
  else if out.2 < longR r.2 (winB t i) ∨ (longR r.2 (winB t i) = out.2 ∧ r.1 < out.1) then (r.1, longR r.2 (winB t i)) else out
def stepS (t : ByteArray) (i : Nat) (out : Nat × Nat) (x : ByteArray) : Nat × Nat :=
  if out.2 < x.size ∧ x.size ≤ t.size - i ∧ t.extract i (i + x.size) = x then (5, x.size) else out
def bestR (t : ByteArray) (i : Nat) (op : Bool) : Nat × Nat :=
  if nmB t i 4 then rulesL.foldl (stepR true op t i) (0, 0) else signL.foldl (stepS t i) (rulesL.foldl (stepR false op t i) (0, 0))

theorem flatR_get : ∀ (l : List (Nat × ByteArray)) (k j : Nat) (x : Nat × ByteArray), l[k]? = some x → j < 2 → (flatR l)[k * 2 + j]? = (cellsR x)[j]?
  | [], k, j, x, h, _ => by simp at h
  | y :: l, 0, j, x, h, hj => by
    simp at h; subst h
    rw [show flatR (y :: l) = cellsR y ++ flatR l by simp [flatR], List.getElem?_append_left (by simp [cellsR]; omega)]
    simp
  | y :: l, k + 1, j, x, h, hj => by
    rw [show flatR (y :: l) = cellsR y ++ flatR l by simp [flatR], List.getElem?_append_right (by simp [cellsR]; omega), show (k + 1) * 2 + j - (cellsR y).length = k * 2 + j by simp [cellsR]; omega]
    exact flatR_get l k j x (by simpa using h) hj

/-- The rules, as they lie. -/
structure RulesAt (w : World) (g : Nat) (l : List (Nat × ByteArray)) : Prop where
  low : g < w.heap.size
  cells : ∀ k x, l[k]? = some x → w.cell? ⟨g, k * 2, none⟩ = some (.int .i64 (x.1 : Int)) ∧ w.cell? ⟨g, k * 2 + 1, none⟩ = some (.string x.2)
theorem rules_at {w : World} {base : Nat} {v : Value} {l : List (Nat × ByteArray)} (hl : l.length ≠ 0) (h : w.ownsRow base 181 2 v l.length (flatR l)) : ∃ g cap, v = .slice (some ⟨g, 0, none⟩) l.length cap ∧ base ≤ g ∧ RulesAt w g l := by
  have hc := fun g => h.cells (g := g)
  rcases h.2 with ⟨rfl, h0⟩ | ⟨g, cap, cur, rfl, hb, hg, _⟩
  · exact absurd h0 hl
  · refine ⟨g, cap, rfl, hb, (Array.getElem?_eq_some_iff.1 hg).1, fun k x hx => ⟨?_, ?_⟩⟩
    · have := hc g rfl (k * 2 + 0) (.int .i64 (x.1 : Int)) (by rw [flatR_get l k 0 x hx (by omega)]; rfl)
      rw [Addr.add_zero_off, Nat.add_zero] at this; exact this
    · have := hc g rfl (k * 2 + 1) (.string x.2) (by rw [flatR_get l k 1 x hx (by omega)]; rfl)
      rw [Addr.add_zero_off] at this; exact this

/-- What holds of the memory while the best token is looked for: o is the block of the best one so far. -/
structure BSt (o g : Nat) (l : List (Nat × ByteArray)) (w0 : World) (out : Nat × Nat) (w : World) : Prop where
  kept : KeptBut o w0 w
  kind : w.cell? ⟨o, 0, none⟩ = some (.int .i64 (out.1 : Int))
  len : w.cell? ⟨o, 1, none⟩ = some (.int .i64 (out.2 : Int))
  f0 : w.frozen? ⟨o, 0, none⟩ = false
  f1 : w.frozen? ⟨o, 1, none⟩ = false
  rules : RulesAt w g l
  lo : o < w.heap.size
  far : g ≠ o
theorem BSt.below {o g : Nat} {l : List (Nat × ByteArray)} {w0 w w' : World} {out : Nat × Nat} (h : BSt o g l w0 out w) (hb : Below w.heap.size w w') : BSt o g l w0 out w' :=
  ⟨h.kept.trans (.of_below hb), (hb.cell (p := ⟨o, 0, none⟩) h.lo).trans h.kind, (hb.cell (p := ⟨o, 1, none⟩) h.lo).trans h.len, (hb.frozen (p := ⟨o, 0, none⟩) h.lo).trans h.f0, (hb.frozen (p := ⟨o, 1, none⟩) h.lo).trans h.f1,
    ⟨Nat.lt_of_lt_of_le h.rules.low hb.size, fun k x hx => ⟨(hb.cell (p := ⟨g, k * 2, none⟩) h.rules.low).trans (h.rules.cells k x hx).1, (hb.cell (p := ⟨g, k * 2 + 1, none⟩) h.rules.low).trans (h.rules.cells k x hx).2⟩⟩, Nat.lt_of_lt_of_le h.lo hb.size, h.far⟩

/-- A store of a better token. -/
theorem BSt.better {o g : Nat} {l : List (Nat × ByteArray)} {w0 w : World} {out : Nat × Nat} (h : BSt o g l w0 out w) (k n : Nat) : BSt o g l w0 (k, n) ((w.setCell ⟨o, 0, none⟩ (.int .i64 (k : Int))).setCell ⟨o, 1, none⟩ (.int .i64 (n : Int))) := by
  have hf := h.far
  have n0 : ∀ x : Nat, (⟨o, 0, none⟩ : Addr) ≠ ⟨g, x, none⟩ := fun x e => hf (congrArg Addr.block e).symm
  have n1 : ∀ x : Nat, (⟨o, 1, none⟩ : Addr) ≠ ⟨g, x, none⟩ := fun x e => hf (congrArg Addr.block e).symm
  refine ⟨(h.kept.setCell _).setCell _, ?_, ?_, ?_, ?_, ⟨by simp; exact h.rules.low, fun k x hx => ⟨?_, ?_⟩⟩, by simp; exact h.lo, h.far⟩
  · rw [World.cell?_setCell_other _ _ _ _ (by simp)]
    exact World.cell?_setCell_same' _ _ _ (by rw [h.kind]; rfl)
  · exact World.cell?_setCell_same' _ _ _ (by rw [World.cell?_setCell_other _ _ _ _ (by simp), h.len]; rfl)
  · rw [World.frozen?_setCell, World.frozen?_setCell]; exact h.f0
  · rw [World.frozen?_setCell, World.frozen?_setCell]; exact h.f1
  · rw [World.cell?_setCell_other _ _ _ _ (n1 _), World.cell?_setCell_other _ _ _ _ (n0 _)]; exact (h.rules.cells k x hx).1
  · rw [World.cell?_setCell_other _ _ _ _ (n1 _), World.cell?_setCell_other _ _ _ _ (n0 _)]; exact (h.rules.cells k x hx).2
theorem StrAt.better {w : World} {g o : Nat} {l : List ByteArray} (h : StrAt w g l) (hne : g ≠ o) (u v : Value) : StrAt ((w.setCell ⟨o, 0, none⟩ u).setCell ⟨o, 1, none⟩ v) g l := by
  refine ⟨by simp; exact h.1, fun k s hs => ?_⟩
  rw [World.cell?_setCell_other _ _ _ _ (fun e => hne (congrArg Addr.block e).symm), World.cell?_setCell_other _ _ _ _ (fun e => hne (congrArg Addr.block e).symm)]
  exact h.2 k s hs
theorem bytes_ext {a b : ByteArray} (h : a.toList = b.toList) : a = b := by
  rw [ByteArray.toList_eq, ByteArray.toList_eq] at h
  apply ByteArray.ext
  exact Array.ext' h
theorem fold_take {α β : Type} (f : β → α → β) (z : β) (l : List α) (j : Nat) (x : α) (h : l[j]? = some x) : (l.take (j + 1)).foldl f z = f ((l.take j).foldl f z) x := by
  obtain ⟨hlt, rfl⟩ := List.getElem?_eq_some_iff.1 h
  rw [List.take_succ_eq_append_getElem hlt, List.foldl_append]; rfl

theorem patsB_ok (i : Nat) : ∀ k, ∀ x ∈ patsB i k, 1 ≤ x.2.size ∧ x.2.size ≤ 100
  | 0, x, h => by simp [patsB] at h
  | k + 1, x, h => by
    rw [patsB, List.mem_append] at h
    rcases h with h | h
    · exact patsB_ok i k x h
    · simp only [List.mem_singleton] at h
      subst h
      have h1 := nB_size i; have h2 := nB_size k
      have e1 : (⟨#[63]⟩ : ByteArray).size = 1 := rfl
      have e2 : (⟨#[58]⟩ : ByteArray).size = 1 := rfl
      simp only [ByteArray.size_append]; omega
theorem rulesB_ok : ∀ k, ∀ x ∈ rulesB k, 1 ≤ x.2.size ∧ x.2.size ≤ 100
  | 0, x, h => by simp [rulesB] at h
  | k + 1, x, h => by
    rw [rulesB, List.mem_append, List.mem_append] at h
    have h1 := nB_size k
    have e1 : (⟨#[63]⟩ : ByteArray).size = 1 := rfl
    have e2 : (⟨#[58]⟩ : ByteArray).size = 1 := rfl
    have e3 : (⟨#[64, 65, 81, 42]⟩ : ByteArray).size = 4 := rfl
    rcases h with (h | h) | h
    · exact rulesB_ok k x h
    · simp only [List.mem_cons, List.not_mem_nil, or_false] at h
      rcases h with rfl | rfl | rfl | rfl <;> (simp only [ByteArray.size_append]; omega)
    · exact patsB_ok k 4 x h
theorem rulesL_ok : ∀ x ∈ rulesL, 1 ≤ x.2.size ∧ x.2.size ≤ 100 := by
  intro x h
  rw [rulesL, List.mem_append] at h
  rcases h with h | h
  · exact rulesB_ok 4 x h
  · simp only [List.mem_cons, List.not_mem_nil, or_false] at h
    rcases h with rfl | rfl | rfl | rfl <;> exact ⟨by decide, by decide⟩
theorem rulesL_len : rulesL.length = 36 := by rw [rulesL, List.length_append, rulesB_len]; rfl

end

end Go.Proofs.YtafncodigpjkaaaGreatDoor
