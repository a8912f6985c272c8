/-
  The pieces of the same remainder of another text, with other tokens ahead; nothing of a program is imported here.
-/
import Derived.Test.YtledmagigkpbeaaDoorMath7
namespace Go.Proofs.YtledmagigkpbeaaDoor

/-- Where the first token stands that would be one too many. -/
def passAll : List (Nat × Nat × Nat) → Nat → Option Nat
  | [], _ => none
  | x :: l, c => if isTok x.1 = true ∧ c = 6000 then some x.2.1 else passAll l (if isTok x.1 then c + 1 else c)

theorem tail_cut {t u : ByteArray} : ∀ (l : List (Nat × Nat × Nat)) (i j : Nat) (op : Bool) (c c' : Nat) (st : Nat × Bool × Nat) (f : Nat), Steps t i op c l st → st.1 = t.size → i ≤ t.size → j ≤ u.size → restB t i = restB u j → u.size - j < f →
    (passAll (l.map (shiftP ((j : Int) - (i : Int)))) c' = none → cutF u f j op c' = (l.map (shiftP ((j : Int) - (i : Int))), none)) ∧
    (∀ a, passAll (l.map (shiftP ((j : Int) - (i : Int)))) c' = some a → (cutF u f j op c').2 = some (a, 2)) := by
  intro l
  induction l with
  | nil =>
    intro i j op c c' st f h hst hi hj hr hf
    simp only [Steps] at h; subst h
    have hsz := congrArg ByteArray.size hr
    rw [rest_size, rest_size] at hsz
    simp only at hst
    have : ¬ j < u.size := by omega
    constructor
    · intro _
      cases f with
      | zero => omega
      | succ f => rw [cutF, if_neg this]; rfl
    · intro a ha; simp [passAll] at ha
  | cons x l ih =>
    intro i j op c c' st f h hst hi hj hr hf
    obtain ⟨h1, h3, h4, h5, h6⟩ := h
    have hb := next_bounds h1 h4
    have hsz := congrArg ByteArray.size hr
    rw [rest_size, rest_size] at hsz
    have hju : j < u.size := by omega
    have hnx : nextR u j op = .ok (x.1, x.2.2) := by rw [← next_shift h1 hju hr]; exact h4
    have hx1 : (shiftP ((j : Int) - (i : Int)) x) = (x.1, j, x.2.2) := by simp only [shiftP]; congr 2; omega
    have ec : cutB u j x.2.2 = cutB t i x.2.2 := by unfold cutB; rw [extract_rest, extract_rest, hr]
    cases f with
    | zero => omega
    | succ f =>
      simp only [List.map_cons, hx1, passAll]
      by_cases hc : isTok x.1 = true ∧ c' = 6000
      · rw [if_pos hc]
        constructor
        · intro h; cases h
        · intro a ha
          simp only [Option.some.injEq] at ha
          subst ha
          rw [cutF, if_pos hju, hnx]; simp only; rw [if_pos hc]
      · rw [if_neg hc]
        have hi := ih (i + x.2.2) (j + x.2.2) (if isTok x.1 then opE x.1 (cutB t i x.2.2) else op) _ (if isTok x.1 then c' + 1 else c') st f h6 hst (by omega) (by omega) (rest_step hr _) (by omega)
        rw [show (((j + x.2.2 : Nat) : Int) - ((i + x.2.2 : Nat) : Int)) = (j : Int) - (i : Int) by omega] at hi
        rw [cutF_cons hju hnx hc]
        simp only [ec]
        constructor
        · intro h
          rw [hi.1 h]
        · intro a ha
          exact hi.2 a ha
theorem cutAll_steps {u : ByteArray} {m : List (Nat × Nat × Nat)} {j : Nat} {op : Bool} {c : Nat} (h : Steps u 0 false 0 m (j, op, c)) (f : Nat) (hf : u.size - j < f) : cutAll u = (m ++ (cutF u f j op c).1, (cutF u f j op c).2) := by
  unfold cutAll
  exact steps_cutF m 0 false 0 (j, op, c) h (Nat.zero_le _) (u.size + 1) f (by omega) hf
theorem cutAll_done {u : ByteArray} {m : List (Nat × Nat × Nat)} {op : Bool} {c : Nat} (h : Steps u 0 false 0 m (u.size, op, c)) : cutAll u = (m, none) := by
  rw [cutAll_steps h 1 (by omega), cutF, if_neg (by omega)]; simp
theorem cutAll_bad {u : ByteArray} {m : List (Nat × Nat × Nat)} {i : Nat} {op : Bool} {c e : Nat} (h : Steps u 0 false 0 m (i, op, c)) (hi : i < u.size) (he : nextR u i op = .error e ∨ ∃ p, nextR u i op = .ok p ∧ isTok p.1 = true ∧ c = 6000 ∧ e = 2) : (cutAll u).2 = some (i, e) := by
  rw [cutAll_steps h (u.size - i + 1) (by omega), cutF, if_pos hi]
  rcases he with he | ⟨p, hp, ht, hc, rfl⟩
  · rw [he]
  · rw [hp]; simp only; rw [if_pos ⟨ht, hc⟩]
theorem cutAll_sync {t u : ByteArray} {m l : List (Nat × Nat × Nat)} {i j : Nat} {op : Bool} {c c1 : Nat} {st : Nat × Bool × Nat} (h : Steps u 0 false 0 m (j, op, c)) (hl : Steps t i op c1 l st) (hst : st.1 = t.size) (hi : i ≤ t.size) (hj : j ≤ u.size) (hr : restB t i = restB u j) :
    (passAll (l.map (shiftP ((j : Int) - (i : Int)))) c = none → cutAll u = (m ++ l.map (shiftP ((j : Int) - (i : Int))), none)) ∧ (∀ a, passAll (l.map (shiftP ((j : Int) - (i : Int)))) c = some a → (cutAll u).2 = some (a, 2)) := by
  have ht := tail_cut l i j op c1 c st (u.size - j + 1) hl hst hi hj hr (by omega)
  rw [cutAll_steps h (u.size - j + 1) (by omega)]
  exact ⟨fun hp => by rw [ht.1 hp], fun a ha => ht.2 a ha⟩
/-- What a splice leaves as it was: ahead of it and behind it. -/
theorem splice_size (t ins : ByteArray) (a d : Nat) (h : a + d ≤ t.size) : (t.extract 0 a ++ ins ++ t.extract (a + d) t.size).size = t.size + ins.size - d := by
  simp only [ByteArray.size_append, ByteArray.size_extract]; omega
theorem splice_ahead (t ins : ByteArray) (a d : Nat) (h : a + d ≤ t.size) : Agree t (t.extract 0 a ++ ins ++ t.extract (a + d) t.size) a := by
  have hs := splice_size t ins a d h
  refine ⟨by omega, by omega, fun j hj => ?_⟩
  rw [aheadB_lt (by omega), aheadB_lt (by omega)]
  rw [ByteArray.getElem_append_left (by simp only [ByteArray.size_append, ByteArray.size_extract]; omega), ByteArray.getElem_append_left (by simp only [ByteArray.size_extract]; omega)]
  simp [ByteArray.getElem_eq_getElem_data]
theorem splice_behind (t ins : ByteArray) (a d i : Nat) (h : a + d ≤ t.size) (hi : a + d ≤ i) (hit : i ≤ t.size) : restB t i = restB (t.extract 0 a ++ ins ++ t.extract (a + d) t.size) (i + ins.size - d) := by
  have hs := splice_size t ins a d h
  have h1 : (t.extract 0 a ++ ins).size = a + ins.size := by simp only [ByteArray.size_append, ByteArray.size_extract]; omega
  refine ext_ahead (by rw [rest_size, rest_size, hs]; omega) (fun q hq => ?_)
  rw [rest_size] at hq
  rw [ahead_rest, ahead_rest, aheadB_lt (by omega), aheadB_lt (by omega), ByteArray.getElem_append_right (by omega)]
  simp only [ByteArray.getElem_eq_getElem_data, ByteArray.data_extract, Array.getElem_extract]
  congr 1; omega
end Go.Proofs.YtledmagigkpbeaaDoor
