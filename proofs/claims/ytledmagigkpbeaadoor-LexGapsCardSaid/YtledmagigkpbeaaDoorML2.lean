/-
  A token and the byte behind it are no token together (models only; nothing of a program is imported here).
-/
import Derived.Test.YtledmagigkpbeaaDoorML
namespace Go.Proofs.YtledmagigkpbeaaDoor

theorem pat_full {t s u : ByteArray} {i : Nat} (h : Agree s u s.size) (ht : ∀ j, j < s.size → aheadB t (i + j) = aheadB s j) (h0 : 1 ≤ s.size) (hf : patN s 0 s = s.size) : s.size ≤ patN t i u := by
  have hb := h.b
  have he0 := h.eq 0 (by omega)
  have hr1 := agree_rest h 1
  have hs1 := rest_size s 1
  unfold patN at hf
  change (if aheadB s 0 = 63 then
    if plainN (restB s 1) = 0 then 0
    else if aheadB s (plainN (restB s 1) + 1) = 58 then
      if joinsB (aheadB s (0 + (plainN (restB s 1) + 1 + 1))) then plainN (restB s 1) + 1
      else if 0 < plainN (restB s (plainN (restB s 1) + 1 + 1)) then plainN (restB s 1) + 1 + 1 + plainN (restB s (plainN (restB s 1) + 1 + 1)) else plainN (restB s 1) + 1
    else plainN (restB s 1) + 1
  else 0) = s.size at hf
  unfold patN
  change s.size ≤ (if aheadB u 0 = 63 then
    if plainN (restB u 1) = 0 then 0
    else if aheadB u (plainN (restB u 1) + 1) = 58 then
      if joinsB (aheadB t (i + (plainN (restB u 1) + 1 + 1))) then plainN (restB u 1) + 1
      else if 0 < plainN (restB u (plainN (restB u 1) + 1 + 1)) then plainN (restB u 1) + 1 + 1 + plainN (restB u (plainN (restB u 1) + 1 + 1)) else plainN (restB u 1) + 1
    else plainN (restB u 1) + 1
  else 0)
  rw [← he0]
  by_cases h63 : aheadB s 0 = 63
  · rw [if_pos h63] at hf ⊢
    by_cases hz : plainN (restB s 1) = 0
    · rw [if_pos hz] at hf; omega
    · rw [if_neg hz] at hf
      have hm := plain_mono hr1
      have hple := plainN_le (restB s 1)
      by_cases h58 : aheadB s (plainN (restB s 1) + 1) = 58
      · rw [if_pos h58] at hf
        have hq : plainN (restB s 1) + 1 < s.size := by
          apply Nat.lt_of_not_le; intro hle; rw [aheadB_ge hle] at h58; exact absurd h58 (by decide)
        by_cases hj : joinsB (aheadB s (0 + (plainN (restB s 1) + 1 + 1))) = true
        · rw [if_pos hj] at hf; omega
        · rw [if_neg hj] at hf
          by_cases hp : 0 < plainN (restB s (plainN (restB s 1) + 1 + 1))
          · rw [if_pos hp] at hf
            have hin : plainN (restB s 1) < (restB s 1).size := by omega
            have hst : plainN (restB u 1) = plainN (restB s 1) := by
              apply plain_stop hr1
              have hx : (restB s 1)[plainN (restB s 1)] = 58 := by
                rw [← aheadB_lt hin, ahead_rest, Nat.add_comm]; exact h58
              have := run_to (p := bW) _ 0 _ (Nat.le_refl _) (by omega) hin (by rw [hx]; decide)
              omega
            have h2 : plainN (restB s 1) + 1 + 1 < s.size := by omega
            rw [hst, if_neg hz, ← h.eq _ hq, if_pos h58, ht _ h2]
            rw [Nat.zero_add] at hj
            rw [if_neg hj]
            have hm2 := plain_mono (agree_rest h (plainN (restB s 1) + 1 + 1))
            rw [if_pos (by omega)]
            omega
          · rw [if_neg hp] at hf; omega
      · rw [if_neg h58] at hf
        rw [if_neg (by omega)]
        split
        · split
          · omega
          · split <;> omega
        · omega
  · rw [if_neg h63] at hf; omega

theorem key_last {t s : ByteArray} {i : Nat} (h0 : 1 ≤ s.size) (hl : aheadB s (s.size - 1) ≠ 58) : keyN t i s ≠ s.size := by
  unfold keyN
  split
  · omega
  · split
    · rename_i h58
      split
      · omega
      · intro e
        apply hl
        rw [show s.size - 1 = plainN s by omega]; exact h58
    · omega

theorem best_ge (n : Nat → Nat) : ∀ k j, j < k → n j ≤ (bestTo n k).2
  | 0, j, h => absurd h (by omega)
  | k + 1, j, h => by
    rw [bestTo]
    by_cases e : j = k
    · subst e; split
      · exact Nat.le_refl _
      · omega
    · have := best_ge n k j (by omega)
      split
      · simp only; omega
      · exact this

theorem best_is (n : Nat → Nat) : ∀ k, (bestTo n k).1 ≠ 0 → ∃ j, j < k ∧ bestTo n k = (j + 1, n j)
  | 0, h => absurd rfl h
  | k + 1, h => by
    rw [bestTo] at h ⊢
    split
    · exact ⟨k, by omega, rfl⟩
    · rename_i hk
      rw [if_neg hk] at h
      obtain ⟨j, hj, e⟩ := best_is n k h
      exact ⟨j, by omega, e⟩

theorem next_tok {t : ByteArray} {i : Nat} {op : Bool} {p : Nat × Nat} (h : nextR t i op = .ok p) (ht : isTok p.1 = true) : bestTo (ruleN t i op) 6 = p := by
  unfold nextR at h
  split at h
  · simp only [Except.ok.injEq] at h; subst h; exact absurd ht (by simp [isTok])
  · split at h
    · split at h
      · simp only [Except.ok.injEq] at h; subst h; exact absurd ht (by simp [isTok])
      · simp at h
    · split at h
      · simp only [Except.ok.injEq] at h; subst h; exact absurd ht (by simp [isTok])
      · split at h
        · simp only [Except.ok.injEq] at h; exact h
        · simp at h

theorem ahead_part {t : ByteArray} {a b j : Nat} (hb : b ≤ t.size) (hj : a + j < b) : aheadB (t.extract a b) j = aheadB t (a + j) := by
  rw [aheadB_lt (t := t) (by omega), aheadB_lt (by rw [ByteArray.size_extract]; omega)]
  simp [ByteArray.getElem_eq_getElem_data]

/-- Behind an operand a text that begins with - has the token - there. -/
theorem minus_one {t : ByteArray} {i : Nat} (hi : i < t.size) (h45 : aheadB t i = 45) : ∀ k, ruleN t i true k ≤ 1 := by
  have hw := win_sz t i
  have hu0 : aheadB (winB t i) 0 = 45 := by unfold winB; rw [ahead_part (by omega) (by omega)]; exact h45
  have hpl : plainN (winB t i) = 0 := by
    unfold plainN
    rw [dif_pos (by omega), ← aheadB_lt (by omega), hu0]
    rfl
  have hl0 : (winB t i).data.toList[0]? = some 45 := by
    rw [Array.getElem?_toList, ahead_data (by omega), hu0]
  intro k
  match k with
  | 0 => simp only [ruleN, nameN, hpl, if_pos]; omega
  | 1 =>
    simp only [ruleN, intN, h45]
    rw [if_neg (by simp)]
    have h0 : 0 < (restB (winB t i) 0).size := by rw [rest_size]; omega
    have := run_to (p := bD) (s := restB (winB t i) 0) 0 0 0 (by omega) (by omega) h0 (by rw [← aheadB_lt h0, ahead_rest, hu0]; decide)
    change runN bD (restB (winB t i) 0) 0 ≤ 1
    omega
  | 2 => simp only [ruleN, keyN, hpl, if_pos]; omega
  | 3 =>
    have hr0 : (restB t i).data.toList[0]? = some 45 := by
      rw [Array.getElem?_toList, ahead_data (by rw [rest_size]; omega), ahead_rest, Nat.add_zero, h45]
    simp only [ruleN, hashN]
    generalize (restB t i).data.toList = l at hr0
    cases l with
    | nil => simp at hr0
    | cons x l =>
      simp at hr0; subst hr0
      simp [Lib.hasPrefix, List.isPrefixOf]
  | 4 =>
    simp only [ruleN, signN]
    have hx : signTwo ((winB t i).extract 0 (min 2 (winB t i).size)).toList = false := by
      have hh : ((winB t i).extract 0 (min 2 (winB t i).size)).toList[0]? = some 45 := by
        rw [ByteArray.toList_eq, Array.getElem?_toList, ahead_data (by rw [ByteArray.size_extract]; omega), ahead_part (by omega) (by omega)]; rw [hu0]
      generalize ((winB t i).extract 0 (min 2 (winB t i).size)).toList = l at hh
      cases l with
      | nil => simp at hh
      | cons x l => simp at hh; subst hh; simp [signTwo]
    rw [hx]
    simp only [Bool.false_eq_true, if_false]
    split <;> omega
  | (n + 5) =>
    simp only [ruleN, patN, hu0]
    rw [if_neg (by decide)]; omega

theorem longest {t : ByteArray} {p k l : Nat} {op : Bool} (hp : p < t.size) (hn : nextR t p op = .ok (k, l)) (hk : isTok k = true) (hlt : p + l < t.size) (hc : aheadB t (p + l) ≠ 58) (hm : l = 1 → aheadB t p ≠ 45) :
    kindN (t.extract p (p + l + 1)) = 0 := by
  have hbd := next_bounds hp hn
  simp only at hbd
  have hb := next_tok hn hk
  obtain ⟨s, hse⟩ : ∃ s, s = t.extract p (p + l + 1) := ⟨_, rfl⟩
  have hs : s.size = l + 1 := by rw [hse, ByteArray.size_extract]; omega
  have hsa : ∀ j, j < s.size → aheadB s j = aheadB t (p + j) := fun j hj => by rw [hse]; exact ahead_part (by omega) (by omega)
  rw [← hse]
  unfold kindN
  rw [if_neg (by omega)]
  cases hx : nextR s 0 false with
  | error c => rfl
  | ok q =>
    simp only
    by_cases hq : isTok q.1 = true ∧ q.2 = s.size
    · exfalso
      have hb' := next_tok hx hq.1
      have hq0 : (bestTo (ruleN s 0 false) 6).1 ≠ 0 := by rw [hb']; intro e; rw [e] at hq; exact absurd hq.1 (by decide)
      obtain ⟨j, hj, e⟩ := best_is _ _ hq0
      have hfull : ruleN s 0 false j = s.size := by rw [← hq.2, ← hb', e]
      have hge := best_ge (ruleN t p op) 6 j hj
      rw [hb] at hge
      simp only at hge
      clear e hb' hq0 hx hn
      have hj6 : j = 0 ∨ j = 1 ∨ j = 2 ∨ j = 3 ∨ j = 4 ∨ j = 5 := by omega
      have hw := win_sz t p
      have hws := win_sz s 0
      have hlast : aheadB s (s.size - 1) ≠ 58 := by rw [hsa _ (by omega), show p + (s.size - 1) = p + l by omega]; exact hc
      have hAr : Agree s (restB t p) s.size := ⟨Nat.le_refl _, by rw [rest_size]; omega, fun j hj => by rw [ahead_rest]; exact hsa j hj⟩
      have hr0 : restB s 0 = s := by apply ByteArray.ext; simp [restB]
      by_cases h100 : s.size ≤ 100
      · have hw0 : winB s 0 = s := by unfold winB; rw [show min (0 + 100) s.size = s.size by omega]; exact hr0
        have hA : Agree s (winB t p) s.size := ⟨Nat.le_refl _, by omega, fun j hj => by unfold winB; rw [ahead_part (by omega) (by omega)]; exact hsa j hj⟩
        rcases hj6 with rfl | rfl | rfl | rfl | rfl | rfl
        · simp only [ruleN, hw0] at hfull hge
          have := name_full hA (by omega) hfull; omega
        · simp only [ruleN, hw0] at hfull hge
          rw [hsa 0 (by omega), Nat.add_zero] at hfull
          have := int_full hA (aheadB t p) op (by
            intro ho
            apply beq_eq_false_iff_ne.2
            intro h45
            subst ho
            have := bestTo_le (ruleN t p true) 1 (minus_one hp h45) 6
            rw [hb] at this
            exact hm (by simp only at this; omega) h45)
          omega
        · simp only [ruleN, hw0] at hfull
          exact key_last (by omega) hlast hfull
        · simp only [ruleN, hr0] at hfull hge
          have := hash_full hAr (by omega) hfull; omega
        · simp only [ruleN, hw0] at hfull hge
          have := sign_full hA (by omega) hfull; omega
        · simp only [ruleN, hw0] at hfull hge
          have := pat_full (t := t) (i := p) hA (fun j hj => (hsa j hj).symm) (by omega) hfull; omega
      · rcases hj6 with rfl | rfl | rfl | rfl | rfl | rfl
        · simp only [ruleN] at hfull; have := nameN_le (winB s 0); omega
        · simp only [ruleN] at hfull; have := intN_le (winB s 0) (aheadB s 0) false (by omega); omega
        · simp only [ruleN] at hfull; have := keyN_le s 0 (winB s 0); omega
        · simp only [ruleN, hr0] at hfull hge
          have := hash_full hAr (by omega) hfull; omega
        · simp only [ruleN] at hfull; have := signN_le (winB s 0); omega
        · simp only [ruleN] at hfull; have := patN_le s 0 (winB s 0); omega
    · rw [if_neg hq]
end Go.Proofs.YtledmagigkpbeaaDoor
