/-
  A token stands alone as well, and with a blank behind it (models only; nothing of a program is imported here).
  A token stands alone as well, and with a blank behind it: the piece of another text (models only; nothing of a program is imported here).
  Where a text is cut off at the end of a piece and a blank follows, the pieces ahead are the same (models only; nothing of a program is imported here).
  A colon at the end of a piece joins with nothing; pieces ahead of a gap, the gap, pieces behind it (models only; nothing of a program is imported here).
  A comment between spaces changes no token (models only; nothing of a program is imported here).
-/
import Derived.Test.YtledmagigkpbeaaDoorML2
import Derived.Test.YtledmagigkpbeaaDoorMath7
import Derived.Test.YtledmagigkpbeaaDoorMath8
namespace Go.Proofs.YtledmagigkpbeaaDoor

/-- The end of a text (or a byte 0), or a blank: no rule takes it. -/
def Stop (c : UInt8) : Prop := c = 0 ∨ c = 32
theorem Stop.w {c : UInt8} (h : Stop c) : bW c = false := by rcases h with rfl | rfl <;> decide
theorem Stop.q {c : UInt8} (h : Stop c) : bQ c = false := by rcases h with rfl | rfl <;> decide
theorem Stop.d {c : UInt8} (h : Stop c) : bD c = false := by rcases h with rfl | rfl <;> decide
theorem Stop.joins {c : UInt8} (h : Stop c) : joinsB c = false := by rcases h with rfl | rfl <;> decide
theorem Stop.spoils {c : UInt8} (h : Stop c) : bSpoils c = false := by rcases h with rfl | rfl <;> decide
theorem Stop.ne {c : UInt8} (h : Stop c) (b : UInt8) (h0 : b ≠ 0) (h32 : b ≠ 32) : c ≠ b := by rcases h with rfl | rfl; exact fun e => h0 e.symm; exact fun e => h32 e.symm

theorem run_at {p : UInt8 → Bool} {s : ByteArray} {k l : Nat} (hk : k ≤ l) (hl : l ≤ s.size) (h : p (aheadB s l) = false) : runN p s k ≤ l := by
  by_cases e : l < s.size
  · exact run_to _ k l (Nat.le_refl _) hk e (by rw [← aheadB_lt e]; exact h)
  · have := (runN_le p s k (by omega)).2; omega

theorem plainGo_at {s : ByteArray} {l : Nat} (hl : l ≤ s.size) (h : bW (aheadB s l) = false) : ∀ (f i : Nat) (has : Bool) (b : Nat), l - i ≤ f → i ≤ l → b ≤ l → plainGo s i has b ≤ l := by
  intro f
  induction f with
  | zero =>
    intro i has b hf hi hb
    have : i = l := by omega
    subst this
    by_cases e : i < s.size
    · rw [plainGo_no e (by rw [← aheadB_lt e]; exact h)]; exact hb
    · rw [plainGo_end e]; exact hb
  | succ f ih =>
    intro i has b hf hi hb
    by_cases e : i = l
    · subst e
      by_cases e : i < s.size
      · rw [plainGo_no e (by rw [← aheadB_lt e]; exact h)]; exact hb
      · rw [plainGo_end e]; exact hb
    · have hlt : i < s.size := by omega
      cases hp : bW s[i] with
      | false => rw [plainGo_no hlt hp]; exact hb
      | true => rw [plainGo_go hlt hp]; exact ih _ _ _ (by omega) (by omega) (by split <;> omega)

theorem plain_at {s : ByteArray} {l : Nat} (hl : l ≤ s.size) (h : bW (aheadB s l) = false) : plainN s ≤ l := by
  unfold plainN
  split
  · split
    · exact plainGo_at hl h _ 0 false 0 (Nat.le_refl _) (by omega) (by omega)
    · omega
  · omega

theorem lib_at {s : ByteArray} {l : Nat} (hl : l ≤ s.size) (h : Stop (aheadB s l)) : libN s ≤ l := by
  unfold libN
  split
  · rename_i h1
    split
    · rename_i h64
      split
      · by_cases e : l = 0
        · subst e
          rw [aheadB_lt (by omega)] at h
          exact absurd h64 (h.ne 64 (by decide) (by decide))
        · exact run_at (by omega) hl h.q
      · omega
    · omega
  · omega

theorem name_at {s : ByteArray} {l : Nat} (hl : l ≤ s.size) (h : Stop (aheadB s l)) : nameN s ≤ l := by
  unfold nameN
  split
  · omega
  · have h1 := plain_at hl h.w
    have hs := rest_size s (plainN s)
    have := lib_at (s := restB s (plainN s)) (l := l - plainN s) (by omega) (by rw [ahead_rest, show plainN s + (l - plainN s) = l by omega]; exact h)
    change plainN s + libN (restB s (plainN s)) ≤ l
    omega

theorem int_at {s : ByteArray} {l : Nat} (c : UInt8) (op : Bool) (h1 : 1 ≤ l) (hl : l ≤ s.size) (h : Stop (aheadB s l)) : intN s c op ≤ l := by
  have hs := rest_size s 1
  have hs0 := rest_size s 0
  have a1 := run_at (p := bD) (s := restB s 1) (k := 0) (l := l - 1) (by omega) (by omega) (by rw [ahead_rest, show 1 + (l - 1) = l by omega]; exact h.d)
  have a0 := run_at (p := bD) (s := restB s 0) (k := 0) (l := l) (by omega) (by omega) (by rw [ahead_rest, Nat.zero_add]; exact h.d)
  unfold intN
  change (if (c == 45 && !op) = true then (if runN bD (restB s 1) 0 = 0 then 0 else 1 + runN bD (restB s 1) 0) else runN bD (restB s 0) 0) ≤ l
  split
  · split <;> omega
  · exact a0

theorem key_at {t s : ByteArray} {i l : Nat} (hl : l ≤ s.size) (h : Stop (aheadB s l)) : keyN t i s ≤ l := by
  have h1 := plain_at hl h.w
  unfold keyN
  split
  · omega
  · split
    · rename_i h58
      split
      · omega
      · have : plainN s ≠ l := by intro e; rw [e] at h58; exact h.ne 58 (by decide) (by decide) h58
        omega
    · omega

theorem hash_at {r : ByteArray} {l : Nat} (h1 : 1 ≤ l) (h : Stop (aheadB r l)) : hashN r ≤ l := by
  unfold hashN
  split
  · rename_i hx
    by_cases e : l = 1
    · exfalso
      subst e
      rw [Bool.or_eq_true] at hx
      rcases hx with hx | hx
      all_goals
        simp only [Lib.hasPrefix, List.isPrefixOf_iff_prefix] at hx
        have hlen := hx.length_le
        simp at hlen
        obtain ⟨z, hz⟩ := hx
        have e1 : r.data.toList[1]? = some (aheadB r 1) := by rw [Array.getElem?_toList]; exact ahead_data (by omega)
        rw [← hz] at e1
        simp at e1
        exact h.ne _ (by decide) (by decide) e1.symm
    · omega
  · omega

theorem sign_at {s : ByteArray} {l : Nat} (h1 : 1 ≤ l) (h : Stop (aheadB s l)) : signN s ≤ l := by
  unfold signN
  split
  · rename_i hx
    by_cases e : l = 1
    · exfalso
      subst e
      have hl : (s.extract 0 (min 2 s.size)).toList.length = 2 := by
        simp only [signTwo, Bool.or_eq_true, beq_iff_eq] at hx
        rcases hx with ((((h | h) | h) | h) | h) | h <;> rw [h] <;> rfl
      have hl2 := hl
      rw [ByteArray.toList_eq] at hl2
      simp at hl2
      have e1 : (s.extract 0 (min 2 s.size)).toList[1]? = some (aheadB s 1) := by
        rw [ByteArray.toList_eq, Array.getElem?_toList, ahead_data (by rw [ByteArray.size_extract]; omega), ahead_part (by omega) (by omega)]
      simp only [signTwo, Bool.or_eq_true, beq_iff_eq] at hx
      rcases hx with ((((hx | hx) | hx) | hx) | hx) | hx <;> rw [hx] at e1 <;> simp at e1 <;> exact h.ne _ (by decide) (by decide) e1.symm
    · omega
  · split <;> omega

theorem pat_at {t s : ByteArray} {i l : Nat} (h1 : 1 ≤ l) (hl : l ≤ s.size) (h : Stop (aheadB s l)) : patN t i s ≤ l := by
  have hs := rest_size s 1
  have p1 := plain_at (s := restB s 1) (l := l - 1) (by omega) (by rw [ahead_rest, show 1 + (l - 1) = l by omega]; exact h.w)
  unfold patN
  change (if aheadB s 0 = 63 then
    if plainN (restB s 1) = 0 then 0
    else if aheadB s (plainN (restB s 1) + 1) = 58 then
      if joinsB (aheadB t (i + (plainN (restB s 1) + 1 + 1))) then plainN (restB s 1) + 1
      else if 0 < plainN (restB s (plainN (restB s 1) + 1 + 1)) then plainN (restB s 1) + 1 + 1 + plainN (restB s (plainN (restB s 1) + 1 + 1)) else plainN (restB s 1) + 1
    else plainN (restB s 1) + 1
  else 0) ≤ l
  split
  · split
    · omega
    · split
      · rename_i h58
        split
        · omega
        · have hne : plainN (restB s 1) + 1 ≠ l := by intro e; rw [e] at h58; exact h.ne 58 (by decide) (by decide) h58
          have hs2 := rest_size s (plainN (restB s 1) + 1 + 1)
          have p2 := plain_at (s := restB s (plainN (restB s 1) + 1 + 1)) (l := l - (plainN (restB s 1) + 1 + 1)) (by omega) (by rw [ahead_rest, show plainN (restB s 1) + 1 + 1 + (l - (plainN (restB s 1) + 1 + 1)) = l by omega]; exact h.w)
          split <;> omega
      · omega
  · omega

/-- What a rule takes of a text it takes of that much of the text alone. -/
theorem run_cut {s u : ByteArray} (h : Agree s u s.size) (p : UInt8 → Bool) : ∀ (f k : Nat), s.size - k ≤ f → k ≤ s.size → runN p u k ≤ s.size → runN p s k = runN p u k := by
  have hb := h.b
  intro f
  induction f with
  | zero =>
    intro k hf hk hr
    have := (runN_le p u k (by omega)).1
    rw [runN_end (s := s) (by omega)]; omega
  | succ f ih =>
    intro k hf hk hr
    by_cases hlt : k < s.size
    · have he := agree_at h hlt hlt (by omega)
      cases hp : p s[k] with
      | true =>
        rw [runN_go (s := u) (k := k) (by omega) (by rw [← he]; exact hp)] at hr ⊢
        rw [runN_go hlt hp]
        exact ih _ (by omega) (by omega) hr
      | false => rw [runN_no hlt hp, runN_no (s := u) (k := k) (by omega) (by rw [← he]; exact hp)]
    · have := (runN_le p u k (by omega)).1
      rw [runN_end (s := s) (by omega)]; omega

theorem plainGo_cut {s u : ByteArray} (h : Agree s u s.size) : ∀ (f i : Nat) (has : Bool) (b : Nat), s.size - i ≤ f → i ≤ s.size → b ≤ i → plainGo u i has b ≤ s.size → plainGo s i has b = plainGo u i has b := by
  have hb := h.b
  intro f
  induction f with
  | zero =>
    intro i has b hf hi hbi hr
    have hm := plainGo_mono h 0 i has b hf hi hbi
    rw [plainGo_end (s := s) (by omega)] at hm ⊢
    -- from the end of the beginning on nothing better is found
    have key : ∀ (g i : Nat) (has : Bool) (b : Nat), u.size - i ≤ g → b ≤ i → s.size ≤ i → plainGo u i has b = b ∨ s.size < plainGo u i has b := by
      intro g
      induction g with
      | zero => intro i has b hg hb hi; left; rw [plainGo_end (by omega)]
      | succ g ihg =>
        intro i has b hg hb hi
        by_cases hlt : i < u.size
        · cases hp : bW u[i] with
          | false => left; rw [plainGo_no hlt hp]
          | true =>
            rw [plainGo_go hlt hp]
            split
            · right
              have := plainGo_ge u (u.size - (i + 1)) (i + 1) (has || bL u[i]) (i + 1) (Nat.le_refl _) (Nat.le_refl _)
              omega
            · exact ihg (i + 1) _ b (by omega) (by omega) (by omega)
        · left; rw [plainGo_end hlt]
    rcases key (u.size - i) i has b (Nat.le_refl _) hbi (by omega) with e | e
    · exact e.symm
    · omega
  | succ f ih =>
    intro i has b hf hi hbi hr
    by_cases hlt : i < s.size
    · have he := agree_at h hlt hlt (by omega)
      cases hp : bW s[i] with
      | false => rw [plainGo_no hlt hp, plainGo_no (s := u) (by omega) (by rw [← he]; exact hp)]
      | true =>
        rw [plainGo_go (s := u) (i := i) (by omega) (by rw [← he]; exact hp)] at hr ⊢
        rw [← he] at hr ⊢
        rw [plainGo_go hlt hp]
        exact ih _ _ _ (by omega) (by omega) (by split <;> omega) hr
    · exact ih i has b (by omega) hi hbi hr

theorem plain_cut {s u : ByteArray} (h : Agree s u s.size) (hr : plainN u ≤ s.size) : plainN s = plainN u := by
  have hb := h.b
  unfold plainN at hr ⊢
  by_cases h0 : 0 < s.size
  · have he := agree_at h h0 h0 (by omega)
    rw [dif_pos (show 0 < u.size by omega)] at hr ⊢
    rw [dif_pos h0, he]
    by_cases hc : (bL u[0] || bB u[0]) = true
    · rw [if_pos hc] at hr ⊢
      rw [if_pos hc]
      exact plainGo_cut h _ 0 false 0 (Nat.le_refl _) (by omega) (by omega) hr
    · rw [if_neg hc, if_neg hc]
  · rw [dif_neg h0]
    by_cases hu : 0 < u.size
    · rw [dif_pos hu] at hr ⊢
      split
      · rename_i hc; rw [if_pos hc] at hr; omega
      · rfl
    · rw [dif_neg hu]

theorem lib_cut {s u : ByteArray} (h : Agree s u s.size) (hr : libN u ≤ s.size) (h1 : 1 ≤ libN u → 2 ≤ s.size) : libN s = libN u := by
  have hb := h.b
  by_cases hz : libN u = 0
  · have := lib_mono h; omega
  · have h2 := h1 (by omega)
    have e0 := agree_at h (k := 0) (by omega) (by omega) (by omega)
    have e1 := agree_at h (k := 1) (by omega) (by omega) (by omega)
    unfold libN at hz hr ⊢
    rw [dif_pos (show 1 < u.size by omega), ← e0, ← e1] at hz hr ⊢
    rw [dif_pos (show 1 < s.size by omega)]
    split
    · rename_i h64
      rw [if_pos h64] at hz hr
      split
      · rename_i hq
        rw [if_pos hq] at hz hr
        exact run_cut h bQ _ 1 (Nat.le_refl _) (by omega) hr
      · rfl
    · rfl

theorem lib_two {s : ByteArray} (h : libN s ≠ 0) : 2 ≤ libN s := by
  unfold libN at h ⊢
  by_cases h1 : 1 < s.size
  · rw [dif_pos h1] at h ⊢
    by_cases h64 : s[0] = 64
    · rw [if_pos h64] at h ⊢
      by_cases hq : (bL s[1] || bD s[1]) = true
      · rw [if_pos hq]
        rw [runN_go h1 (by unfold bQ; rw [hq]; rfl)]
        exact (runN_le bQ s 2 (by omega)).1
      · rw [if_neg hq] at h; exact absurd rfl h
    · rw [if_neg h64] at h; exact absurd rfl h
  · rw [dif_neg h1] at h; exact absurd rfl h

theorem name_cut {s u : ByteArray} (h : Agree s u s.size) (h0 : 0 < s.size) (hf : nameN u = s.size) : nameN s = s.size := by
  have hb := h.b
  unfold nameN at hf
  by_cases hz : plainN u = 0
  · rw [if_pos hz] at hf; omega
  · rw [if_neg hz] at hf
    change plainN u + libN (restB u (plainN u)) = s.size at hf
    have hp := plain_cut h (by omega)
    have hs := rest_size s (plainN u)
    have hl := lib_cut (agree_rest h (plainN u)) (by omega) (fun hl => by have := lib_two (s := restB u (plainN u)) (by omega); omega)
    unfold nameN
    rw [hp, if_neg hz]
    change plainN u + libN (restB s (plainN u)) = s.size
    omega

theorem int_cut {s u : ByteArray} (h : Agree s u s.size) (c : UInt8) (op : Bool) (h0 : 0 < s.size) (hf : intN u c op = s.size) : intN s c op = s.size := by
  have hb := h.b
  have hs := rest_size s 1
  have hs0 := rest_size s 0
  unfold intN at hf ⊢
  change (if (c == 45 && !op) = true then (if runN bD (restB u 1) 0 = 0 then 0 else 1 + runN bD (restB u 1) 0) else runN bD (restB u 0) 0) = s.size at hf
  change (if (c == 45 && !op) = true then (if runN bD (restB s 1) 0 = 0 then 0 else 1 + runN bD (restB s 1) 0) else runN bD (restB s 0) 0) = s.size
  split at hf
  · rename_i hc
    rw [if_pos hc]
    split at hf
    · omega
    · rename_i hz
      rw [run_cut (agree_rest h 1) bD _ 0 (Nat.le_refl _) (by omega) (by omega), if_neg hz]; exact hf
  · rename_i hc
    rw [if_neg hc, run_cut (agree_rest h 0) bD _ 0 (Nat.le_refl _) (by omega) (by omega)]; exact hf

theorem key_cut {t s u : ByteArray} {i : Nat} (h : Agree s u s.size) (h0 : 0 < s.size) (hf : keyN t i u = s.size) : plainN s ≠ 0 ∧ plainN s + 1 = s.size ∧ aheadB s (plainN s) = 58 := by
  unfold keyN at hf
  by_cases hz : plainN u = 0
  · rw [if_pos hz] at hf; omega
  · rw [if_neg hz] at hf
    by_cases h58 : aheadB u (plainN u) = 58
    · rw [if_pos h58] at hf
      by_cases hj : joinsB (aheadB t (i + (plainN u + 1))) = true
      · rw [if_pos hj] at hf; omega
      · rw [if_neg hj] at hf
        have hp := plain_cut h (by omega)
        rw [hp]
        exact ⟨hz, hf, by rw [h.eq _ (by omega)]; exact h58⟩
    · rw [if_neg h58] at hf; omega

theorem key_same {u s w : ByteArray} {j : Nat} (h : Agree s w s.size) (hz : plainN s ≠ 0) (hn : plainN s + 1 = s.size) (h58 : aheadB s (plainN s) = 58) (hj : joinsB (aheadB u (j + s.size)) = false) : keyN u j w = s.size := by
  have hq : plainN s < s.size := by omega
  have hx : s[plainN s] = 58 := by rw [← aheadB_lt hq]; exact h58
  have hr := run_to (p := bW) _ 0 _ (Nat.le_refl _) (by omega) hq (by rw [hx]; decide)
  have hst := plain_stop h (by omega)
  unfold keyN
  rw [hst, if_neg hz, ← h.eq _ hq, if_pos h58, hn, if_neg (by rw [hj]; simp)]

theorem hash_same {s w v : ByteArray} (h : Agree s w s.size) (h' : Agree s v s.size) (h1 : 1 ≤ s.size) (hf : hashN w = s.size) : hashN v = s.size := by
  have h2 : s.size = 2 := by unfold hashN at hf; split at hf <;> omega
  have e0 : w.data.toList[0]? = v.data.toList[0]? := (h.list 0 (by omega)).symm.trans (h'.list 0 (by omega))
  have e1 : w.data.toList[1]? = v.data.toList[1]? := (h.list 1 (by omega)).symm.trans (h'.list 1 (by omega))
  unfold hashN at hf ⊢
  rw [← prefix_two 35 116 _ _ e0 e1, ← prefix_two 35 102 _ _ e0 e1]; exact hf

theorem hash_first {s w : ByteArray} (h : Agree s w s.size) (h1 : 1 ≤ s.size) (hf : hashN w = s.size) : aheadB s 0 = 35 := by
  unfold hashN at hf
  split at hf
  · rename_i hx
    have hb := h.b
    have e0 : w.data.toList[0]? = some (aheadB w 0) := by rw [Array.getElem?_toList]; exact ahead_data (by omega)
    rw [h.eq 0 (by omega)]
    rw [Bool.or_eq_true] at hx
    rcases hx with hx | hx
    all_goals
      simp only [Lib.hasPrefix, List.isPrefixOf_iff_prefix] at hx
      obtain ⟨z, hz⟩ := hx
      rw [← hz] at e0
      simp at e0
      exact e0.symm
  · omega

theorem sgn_two {s w : ByteArray} (h : Agree s w s.size) (h2 : s.size = 2) (hf : signN w = 2) : signTwo [aheadB s 0, aheadB s 1] = true := by
  have hb := h.b
  unfold signN at hf
  split at hf
  · rename_i hx
    have e : (w.extract 0 (min 2 w.size)).toList = [aheadB s 0, aheadB s 1] := by
      rw [ByteArray.toList_eq]
      apply List.ext_getElem?
      intro q
      by_cases hq : q < 2
      · rw [Array.getElem?_toList, ahead_data (by rw [ByteArray.size_extract]; omega), ahead_part (by omega) (by omega), Nat.zero_add, ← h.eq q (by omega)]
        have : q = 0 ∨ q = 1 := by omega
        rcases this with rfl | rfl <;> rfl
      · rw [List.getElem?_eq_none (by simp; omega), List.getElem?_eq_none (by simp; omega)]
    rw [← e]; exact hx
  · split at hf <;> omega

theorem sign_same {s w v : ByteArray} (h : Agree s w s.size) (h' : Agree s v s.size) (h1 : 1 ≤ s.size) (hf : signN w = s.size) (hle : signN v ≤ s.size) : signN v = s.size := by
  have hb := h.b; have hb' := h'.b
  by_cases h2 : 2 ≤ s.size
  · have e : v.extract 0 (min 2 v.size) = w.extract 0 (min 2 w.size) := by
      rw [show min 2 v.size = 2 by omega, show min 2 w.size = 2 by omega]; exact (h'.ext (a := 0) h2).symm.trans (h.ext (a := 0) h2)
    have : signN v = signN w := by unfold signN; rw [e, ← h.eq 0 (by omega), ← h'.eq 0 (by omega)]
    omega
  · have e : aheadB v 0 = aheadB w 0 := (h'.eq 0 (by omega)).symm.trans (h.eq 0 (by omega))
    unfold signN at hf hle ⊢
    split at hf
    · omega
    · split at hf
      · rename_i hx
        rw [e] at hle ⊢
        split
        · rename_i hy; rw [if_pos hy] at hle; omega
        · exact hf
      · omega

theorem pat_ge {t s : ByteArray} {i : Nat} : patN t i s ≠ 0 → 2 ≤ patN t i s ∧ aheadB s 0 = 63 := by
  intro h
  unfold patN at h ⊢
  split at h
  · rename_i h63
    rw [if_pos h63]
    split at h
    · exact absurd rfl h
    · rename_i hz
      rw [if_neg hz]
      refine ⟨?_, h63⟩
      split
      · split
        · omega
        · split <;> omega
      · omega
  · exact absurd rfl h

theorem pat_cut {t s u : ByteArray} {i : Nat} (h : Agree s u s.size) (ht : ∀ j, j < s.size → aheadB t (i + j) = aheadB s j) (h0 : 1 ≤ s.size) (hf : patN t i u = s.size) : patN s 0 s = s.size := by
  have hb := h.b
  have he0 := h.eq 0 (by omega)
  have hs1 := rest_size s 1
  unfold patN at hf ⊢
  change (if aheadB u 0 = 63 then
    if plainN (restB u 1) = 0 then 0
    else if aheadB u (plainN (restB u 1) + 1) = 58 then
      if joinsB (aheadB t (i + (plainN (restB u 1) + 1 + 1))) then plainN (restB u 1) + 1
      else if 0 < plainN (restB u (plainN (restB u 1) + 1 + 1)) then plainN (restB u 1) + 1 + 1 + plainN (restB u (plainN (restB u 1) + 1 + 1)) else plainN (restB u 1) + 1
    else plainN (restB u 1) + 1
  else 0) = s.size at hf
  change (if aheadB s 0 = 63 then
    if plainN (restB s 1) = 0 then 0
    else if aheadB s (plainN (restB s 1) + 1) = 58 then
      if joinsB (aheadB s (0 + (plainN (restB s 1) + 1 + 1))) then plainN (restB s 1) + 1
      else if 0 < plainN (restB s (plainN (restB s 1) + 1 + 1)) then plainN (restB s 1) + 1 + 1 + plainN (restB s (plainN (restB s 1) + 1 + 1)) else plainN (restB s 1) + 1
    else plainN (restB s 1) + 1
  else 0) = s.size
  rw [he0]
  by_cases h63 : aheadB u 0 = 63
  · rw [if_pos h63] at hf ⊢
    by_cases hz : plainN (restB u 1) = 0
    · rw [if_pos hz] at hf; omega
    · rw [if_neg hz] at hf
      -- the token ends behind the name, whatever comes
      have short : plainN (restB u 1) + 1 = s.size → plainN (restB s 1) = plainN (restB u 1) ∧ aheadB s (plainN (restB s 1) + 1) = 0 := by
        intro e
        have hp := plain_cut (agree_rest h 1) (by omega)
        exact ⟨hp, by rw [hp]; exact aheadB_ge (by omega)⟩
      have close : plainN (restB u 1) + 1 = s.size → (if plainN (restB s 1) = 0 then 0
    else if aheadB s (plainN (restB s 1) + 1) = 58 then
      if joinsB (aheadB s (0 + (plainN (restB s 1) + 1 + 1))) then plainN (restB s 1) + 1
      else if 0 < plainN (restB s (plainN (restB s 1) + 1 + 1)) then plainN (restB s 1) + 1 + 1 + plainN (restB s (plainN (restB s 1) + 1 + 1)) else plainN (restB s 1) + 1
    else plainN (restB s 1) + 1) = s.size := by
        intro e
        obtain ⟨e1, e2⟩ := short e
        rw [e2, e1, if_neg hz, if_neg (by decide)]; exact e
      by_cases h58 : aheadB u (plainN (restB u 1) + 1) = 58
      · rw [if_pos h58] at hf
        by_cases hj : joinsB (aheadB t (i + (plainN (restB u 1) + 1 + 1))) = true
        · rw [if_pos hj] at hf; exact close hf
        · rw [if_neg hj] at hf
          by_cases hp : 0 < plainN (restB u (plainN (restB u 1) + 1 + 1))
          · rw [if_pos hp] at hf
            have hc1 := plain_cut (agree_rest h 1) (by omega)
            have hs2 := rest_size s (plainN (restB u 1) + 1 + 1)
            have hc2 := plain_cut (agree_rest h (plainN (restB u 1) + 1 + 1)) (by omega)
            rw [hc1, if_neg hz, h.eq _ (by omega), if_pos h58, Nat.zero_add, ← ht _ (by omega), if_neg hj, hc2, if_pos hp]; exact hf
          · rw [if_neg hp] at hf; exact close hf
      · rw [if_neg h58] at hf; exact close hf
  · rw [if_neg h63] at hf; omega

theorem best_eq {m : Nat → Nat} {w l : Nat} (hl : 0 < l) (h1 : ∀ q, m q ≤ l) (h2 : m w = l) (h3 : ∀ q, q < w → m q < l) : ∀ n, w < n → bestTo m n = (w + 1, l)
  | 0, h => absurd h (by omega)
  | n + 1, h => by
    rw [bestTo]
    by_cases e : w = n
    · subst e
      have key : ∀ k, k ≤ w → (bestTo m k).2 < l := by
        intro k
        induction k with
        | zero => intro _; exact hl
        | succ k ih =>
          intro hk
          rw [bestTo]
          split
          · exact h3 k (by omega)
          · exact ih (by omega)
      rw [if_pos (by rw [h2]; exact key w (Nat.le_refl _)), h2]
    · have := best_eq hl h1 h2 h3 n (by omega)
      rw [this]
      rw [if_neg (by have := h1 n; simp only; omega)]

theorem best_first {m : Nat → Nat} {w l : Nat} : ∀ n, bestTo m n = (w + 1, l) → w < n ∧ m w = l ∧ ∀ q, q < w → m q < l
  | 0, h => by simp [bestTo] at h
  | n + 1, h => by
    rw [bestTo] at h
    split at h
    · rename_i hlt
      simp only [Prod.mk.injEq] at h
      obtain ⟨h1, h2⟩ := h
      have : n = w := by omega
      subst this
      refine ⟨by omega, h2, fun q hq => ?_⟩
      have := best_ge m n q hq
      omega
    · obtain ⟨a, b, c⟩ := best_first n h
      exact ⟨by omega, b, c⟩

theorem rule_100 (t : ByteArray) (i : Nat) (op : Bool) (hi : i < t.size) : ∀ q, ruleN t i op q ≤ 100 := by
  have hw := win_sz t i
  intro q
  match q with
  | 0 => have := nameN_le (winB t i); simp only [ruleN]; omega
  | 1 => have := intN_le (winB t i) (aheadB t i) op (by omega); simp only [ruleN]; omega
  | 2 => have := keyN_le t i (winB t i); simp only [ruleN]; omega
  | 3 => simp only [ruleN, hashN]; split <;> omega
  | 4 => have := signN_le (winB t i); simp only [ruleN]; omega
  | q + 5 => have := patN_le t i (winB t i); simp only [ruleN]; omega

theorem int_op {s : ByteArray} {c : UInt8} {op op' : Bool} (h : c ≠ 45) : intN s c op = intN s c op' := by
  have : (c == 45) = false := by simpa using h
  unfold intN
  rw [this, Bool.false_and, Bool.false_and]

theorem int_minus_op {s : ByteArray} (h : aheadB s 0 = 45) : intN s 45 true = 0 := by
  have h0 := aheadB_pos (s := s) (k := 0) (by rw [h]; decide)
  have hs := rest_size s 0
  unfold intN
  change (if ((45 : UInt8) == 45 && !true) = true then (if runN bD (restB s 1) 0 = 0 then 0 else 1 + runN bD (restB s 1) 0) else runN bD (restB s 0) 0) = 0
  rw [if_neg (by decide), runN_no (s := restB s 0) (by omega) (by rw [← aheadB_lt (by omega), ahead_rest, h]; decide)]

theorem next_stop {t u : ByteArray} {i j k l : Nat} {op op' : Bool} (hi : i < t.size) (hn : nextR t i op = .ok (k, l)) (hk : isTok k = true) (hj : j + l ≤ u.size) (he : ∀ q, q < l → aheadB u (j + q) = aheadB t (i + q))
    (hs : Stop (aheadB u (j + l))) (hop : op' = op ∨ k ≠ 2 ∨ aheadB t i ≠ 45) : nextR u j op' = .ok (k, l) := by
  have hbd := next_bounds hi hn
  simp only at hbd
  obtain ⟨_, _, hl1, hlt⟩ := hbd
  have hju : j < u.size := by omega
  have hb := next_tok hn hk
  have hk1 : k = (k - 1) + 1 := by simp only [isTok, Bool.and_eq_true, decide_eq_true_eq] at hk; omega
  obtain ⟨w, hw⟩ : ∃ w, w = k - 1 := ⟨_, rfl⟩
  rw [← hw] at hk1
  subst hk1
  obtain ⟨hw6, hwl, hfirst⟩ := best_first 6 hb
  have hl100 : l ≤ 100 := by rw [← hwl]; exact rule_100 t i op hi w
  obtain ⟨s, hse⟩ : ∃ s, s = cutB t i l := ⟨_, rfl⟩
  have hsz : s.size = l := by rw [hse, cutB, ByteArray.size_extract]; omega
  have hst : ∀ q, q < s.size → aheadB t (i + q) = aheadB s q := fun q hq => by rw [hse, cutB, ahead_part (by omega) (by omega)]
  have hsu : ∀ q, q < s.size → aheadB u (j + q) = aheadB s q := fun q hq => by rw [he q (by omega)]; exact hst q hq
  have hwt := win_sz t i
  have hwu := win_sz u j
  have ART : Agree s (restB t i) s.size := ⟨Nat.le_refl _, by rw [rest_size]; omega, fun q hq => by rw [ahead_rest]; exact (hst q hq).symm⟩
  have ARU : Agree s (restB u j) s.size := ⟨Nat.le_refl _, by rw [rest_size]; omega, fun q hq => by rw [ahead_rest]; exact (hsu q hq).symm⟩
  have AWT : Agree s (winB t i) s.size := ⟨Nat.le_refl _, by omega, fun q hq => by unfold winB; rw [ahead_part (by omega) (by omega)]; exact (hst q hq).symm⟩
  have AWU : Agree s (winB u j) s.size := ⟨Nat.le_refl _, by omega, fun q hq => by unfold winB; rw [ahead_part (by omega) (by omega)]; exact (hsu q hq).symm⟩
  have SR : Stop (aheadB (restB u j) s.size) := by rw [ahead_rest, hsz]; exact hs
  have SW : Stop (aheadB (winB u j) s.size) := by
    by_cases e : s.size < (winB u j).size
    · unfold winB at e ⊢
      rw [ByteArray.size_extract] at e
      rw [ahead_part (by omega) (by omega), hsz]; exact hs
    · rw [aheadB_ge (by omega)]; exact Or.inl rfl
  have h0 : aheadB u j = aheadB t i := by have := he 0 (by omega); simpa using this
  have hs0 : aheadB t i = aheadB s 0 := by have := hst 0 (by omega); simpa using this
  have hWT0 : aheadB (winB t i) 0 = aheadB s 0 := (AWT.eq 0 (by omega)).symm
  have hWU0 : aheadB (winB u j) 0 = aheadB s 0 := (AWU.eq 0 (by omega)).symm
  have C1 : ∀ q, ruleN u j op' q ≤ s.size := by
    intro q
    match q with
    | 0 => exact name_at AWU.b SW
    | 1 => exact int_at _ _ (by omega) AWU.b SW
    | 2 => exact key_at AWU.b SW
    | 3 => exact hash_at (by omega) SR
    | 4 => exact sign_at (by omega) SW
    | q + 5 => exact pat_at (by omega) AWU.b SW
  rw [← hsz] at hwl hfirst hb
  have C2 : ruleN u j op' w = s.size := by
    refine Nat.le_antisymm (C1 w) ?_
    have hw' : w = 0 ∨ w = 1 ∨ w = 2 ∨ w = 3 ∨ w = 4 ∨ w = 5 := by omega
    rcases hw' with rfl | rfl | rfl | rfl | rfl | rfl
    · exact name_full AWU (by omega) (name_cut AWT (by omega) hwl)
    · have hc := int_cut AWT _ _ (by omega) (show intN (winB t i) (aheadB t i) op = s.size from hwl)
      show s.size ≤ intN (winB u j) (aheadB u j) op'
      rw [h0]
      by_cases h45 : aheadB t i = 45
      · have ho : op' = op := by rcases hop with h | h | h; exact h; exact absurd rfl h; exact absurd h45 h
        subst ho
        cases op' with
        | true =>
          rw [h45, int_minus_op (by rw [← hs0]; exact h45)] at hc; omega
        | false => rw [← hc]; exact int_full AWU _ _ (fun h => by cases h)
      · rw [int_op (op' := false) h45] at hc ⊢
        exact Nat.le_trans (Nat.le_of_eq hc.symm) (int_full AWU _ _ (fun h => by cases h))
    · obtain ⟨k1, k2, k3⟩ := key_cut AWT (by omega) (show keyN t i (winB t i) = s.size from hwl)
      exact Nat.le_of_eq (key_same AWU k1 k2 k3 (by rw [hsz]; exact hs.joins)).symm
    · exact Nat.le_of_eq (hash_same ART ARU (by omega) hwl).symm
    · exact Nat.le_of_eq (sign_same AWT AWU (by omega) hwl (C1 4)).symm
    · exact pat_full AWU hsu (by omega) (pat_cut AWT hst (by omega) hwl)
  have C3 : ∀ q, q < w → ruleN u j op' q < s.size := by
    intro q hq
    have h1 := C1 q
    have h2 := hfirst q hq
    refine Nat.lt_of_le_of_ne h1 fun e => ?_
    have hq' : q = 0 ∨ q = 1 ∨ q = 2 ∨ q = 3 ∨ q = 4 := by omega
    rcases hq' with rfl | rfl | rfl | rfl | rfl
    · have := name_full AWT (by omega) (name_cut AWU (by omega) (show nameN (winB u j) = s.size from e))
      have h2' : nameN (winB t i) < s.size := h2
      omega
    · have hc := int_cut AWU _ _ (by omega) (show intN (winB u j) (aheadB u j) op' = s.size from e)
      have h2' : intN (winB t i) (aheadB t i) op < s.size := h2
      rw [h0] at hc
      by_cases h45 : aheadB t i = 45
      · cases op' with
        | true => rw [h45, int_minus_op (by rw [← hs0]; exact h45)] at hc; omega
        | false =>
          cases op with
          | true =>
            have hm := minus_one hi h45 w
            have : s.size = 1 := by omega
            rw [h45] at hc
            unfold intN at hc
            rw [if_pos (by decide)] at hc
            split at hc <;> omega
          | false =>
            have := int_full AWT (aheadB t i) false (fun h => by cases h)
            omega
      · rw [int_op (op' := false) h45] at hc
        have := int_full AWT (aheadB t i) op (fun _ => by simpa using h45)
        omega
    · obtain ⟨k1, k2, k3⟩ := key_cut AWU (by omega) (show keyN u j (winB u j) = s.size from e)
      have hfb : (bL (aheadB s 0) || bB (aheadB s 0)) = true := by
        unfold plainN at k1
        rw [dif_pos (show 0 < s.size by omega)] at k1
        rw [aheadB_lt (show 0 < s.size by omega)]
        by_cases hx : (bL s[0] || bB s[0]) = true
        · exact hx
        · rw [if_neg hx] at k1; exact absurd rfl k1
      have hw' : w = 3 ∨ w = 4 ∨ w = 5 := by omega
      rcases hw' with rfl | rfl | rfl
      · rw [hash_first ART (by omega) hwl] at hfb; exact absurd hfb (by decide)
      · have hwl' : signN (winB t i) = s.size := hwl
        have hle2 : signN (winB t i) ≤ 2 := by unfold signN; split <;> (try split) <;> omega
        have hs2 : s.size = 2 := by omega
        have hx := sgn_two AWT hs2 (by omega)
        have hp1 : plainN s = 1 := by omega
        rw [hp1] at k3
        rw [k3] at hx
        simp only [signTwo, Bool.or_eq_true, beq_iff_eq, List.cons.injEq] at hx
        rcases hx with ((((hx | hx) | hx) | hx) | hx) | hx
        · exact absurd hx.2.1 (by decide)
        · rw [hx.1] at hfb; exact absurd hfb (by decide)
        · exact absurd hx.2.1 (by decide)
        · exact absurd hx.2.1 (by decide)
        · exact absurd hx.2.1 (by decide)
        · exact absurd hx.2.1 (by decide)
      · have := pat_ge (t := t) (i := i) (s := winB t i) (by rw [show patN t i (winB t i) = s.size from hwl]; omega)
        rw [← hWT0, this.2] at hfb; exact absurd hfb (by decide)
    · have := hash_same ARU ART (by omega) (show hashN (restB u j) = s.size from e)
      have h2' : hashN (restB t i) < s.size := h2
      omega
    · have hw5 : w = 5 := by omega
      subst hw5
      have hp := pat_ge (t := t) (i := i) (s := winB t i) (by rw [show patN t i (winB t i) = s.size from hwl]; omega)
      rw [show patN t i (winB t i) = s.size from hwl] at hp
      have e' : signN (winB u j) = s.size := e
      have hle2 : signN (winB u j) ≤ 2 := by unfold signN; split <;> (try split) <;> omega
      have hs2 : s.size = 2 := by omega
      have hx := sgn_two AWU hs2 (by omega)
      rw [← hWT0, hp.2] at hx
      simp [signTwo] at hx
  have hB : bestTo (ruleN u j op') 6 = (w + 1, s.size) := best_eq (by omega) C1 C2 C3 6 hw6
  have hcut : cutB u j s.size = s := by
    refine ext_ahead (by unfold cutB; rw [ByteArray.size_extract]; omega) (fun q hq => ?_)
    unfold cutB at hq ⊢
    rw [ByteArray.size_extract] at hq
    rw [ahead_part (by omega) (by omega)]
    exact hsu q (by omega)
  have hfault : faultN u j (w + 1) s.size = 0 := by
    have hft : faultN t i (w + 1) s.size = 0 := by
      unfold nextR at hn
      split at hn
      · simp only [Except.ok.injEq, Prod.mk.injEq] at hn; omega
      · split at hn
        · split at hn
          · simp only [Except.ok.injEq, Prod.mk.injEq] at hn; omega
          · cases hn
        · split at hn
          · simp only [Except.ok.injEq, Prod.mk.injEq] at hn; omega
          · split at hn
            · rename_i hf
              rw [hb] at hf; exact hf
            · cases hn
    have hct : cutB t i s.size = s := by rw [hsz]; exact hse.symm
    unfold faultN at hft ⊢
    rw [hcut]
    rw [hct] at hft
    rw [hsz] at *
    rw [hs.spoils, hs.w]
    split
    · rename_i h2
      rw [if_pos h2] at hft
      split at hft
      · rename_i h3
        rw [Bool.and_eq_true] at h3
        rw [h3.1]; rfl
      · cases hft
    · rename_i h2
      rw [if_neg h2] at hft
      split
      · rw [if_neg (by simp)]
      · rename_i h4
        rw [if_neg h4] at hft
        split
        · rename_i h5; rw [if_pos h5] at hft; exact hft
        · rw [if_neg (by omega)]
  have hnb : bBlank (aheadB u j) = false ∧ Lib.hasPrefix (restB u j).data.toList [47, 47] = false ∧ Lib.hasPrefix (restB u j).data.toList [47, 42] = false := by
    have hnt : bBlank (aheadB t i) = false ∧ Lib.hasPrefix (restB t i).data.toList [47, 47] = false ∧ Lib.hasPrefix (restB t i).data.toList [47, 42] = false := by
      unfold nextR at hn
      split at hn
      · simp only [Except.ok.injEq, Prod.mk.injEq] at hn; omega
      · rename_i p1
        split at hn
        · split at hn
          · simp only [Except.ok.injEq, Prod.mk.injEq] at hn; omega
          · cases hn
        · rename_i p2
          split at hn
          · simp only [Except.ok.injEq, Prod.mk.injEq] at hn; omega
          · rename_i p3
            exact ⟨by simpa using p3, by simpa using p1, by simpa using p2⟩
    refine ⟨by rw [h0]; exact hnt.1, ?_, ?_⟩
    all_goals
      by_cases h2 : 2 ≤ s.size
      · have e0 : (restB t i).data.toList[0]? = (restB u j).data.toList[0]? := (ART.list 0 (by omega)).symm.trans (ARU.list 0 (by omega))
        have e1 : (restB t i).data.toList[1]? = (restB u j).data.toList[1]? := (ART.list 1 (by omega)).symm.trans (ARU.list 1 (by omega))
        rw [← prefix_two _ _ _ _ e0 e1]
        first | exact hnt.2.1 | exact hnt.2.2
      · apply Bool.eq_false_iff.2
        intro hx
        simp only [Lib.hasPrefix, List.isPrefixOf_iff_prefix] at hx
        have hlen := hx.length_le
        simp at hlen
        obtain ⟨z, hz⟩ := hx
        have e1 : (restB u j).data.toList[1]? = some (aheadB (restB u j) 1) := by rw [Array.getElem?_toList]; exact ahead_data (by omega)
        rw [← hz] at e1
        simp at e1
        rw [show s.size = 1 by omega] at SR
        exact SR.ne _ (by decide) (by decide) e1.symm
  unfold nextR
  rw [hnb.1, hnb.2.1, hnb.2.2, hB]
  simp only [Bool.false_eq_true, if_false]
  rw [if_pos hfault, hsz]

theorem plainGo_last (s : ByteArray) : ∀ (f i : Nat) (has : Bool) (b : Nat), s.size - i ≤ f → plainGo s i has b = b ∨ (i + 1 ≤ plainGo s i has b ∧ bW (aheadB s (plainGo s i has b - 1)) = true) := by
  intro f
  induction f with
  | zero => intro i has b hf; left; rw [plainGo_end (by omega)]
  | succ f ih =>
    intro i has b hf
    by_cases hlt : i < s.size
    · cases hp : bW s[i] with
      | false => left; rw [plainGo_no hlt hp]
      | true =>
        rw [plainGo_go hlt hp]
        by_cases hc : ((has || bL s[i]) && bF s[i]) = true
        · rw [if_pos hc]
          right
          rcases ih (i + 1) (has || bL s[i]) (i + 1) (by omega) with e | ⟨e1, e2⟩
          · rw [e]; exact ⟨Nat.le_refl _, by rw [Nat.add_sub_cancel, aheadB_lt hlt]; exact hp⟩
          · exact ⟨by omega, e2⟩
        · rw [if_neg hc]
          rcases ih (i + 1) (has || bL s[i]) b (by omega) with e | ⟨e1, e2⟩
          · left; exact e
          · right; exact ⟨by omega, e2⟩
    · left; rw [plainGo_end hlt]
theorem plain_last {s : ByteArray} (h : plainN s ≠ 0) : bW (aheadB s (plainN s - 1)) = true := by
  unfold plainN at h ⊢
  by_cases h0 : 0 < s.size
  · rw [dif_pos h0] at h ⊢
    by_cases hx : (bL s[0] || bB s[0]) = true
    · rw [if_pos hx] at h ⊢
      rcases plainGo_last s _ 0 false 0 (Nat.le_refl _) with e | ⟨_, e⟩
      · exact absurd e h
      · exact e
    · rw [if_neg hx] at h; exact absurd rfl h
  · rw [dif_neg h0] at h; exact absurd rfl h
theorem run_every {p : UInt8 → Bool} {s : ByteArray} : ∀ (f k q : Nat), s.size - k ≤ f → k ≤ q → q < runN p s k → p (aheadB s q) = true := by
  intro f
  induction f with
  | zero => intro k q hf hk hq; rw [runN_end (by omega)] at hq; omega
  | succ f ih =>
    intro k q hf hk hq
    by_cases hlt : k < s.size
    · cases hp : p s[k] with
      | false => rw [runN_no hlt hp] at hq; omega
      | true =>
        rw [runN_go hlt hp] at hq
        by_cases e : q = k
        · subst e; rw [aheadB_lt hlt]; exact hp
        · exact ih (k + 1) q (by omega) (by omega) hq
    · rw [runN_end hlt] at hq; omega

/-- Two texts are the same up to a place N, where the second one has a blank (or ends); no colon just ahead of N has been joined with what was behind it. -/
structure Shut (t u : ByteArray) (N : Nat) : Prop where
  agree : Agree t u N
  stop : Stop (aheadB u N)
  col : aheadB t (N - 1) = 58 → bW (aheadB t (N - 2)) = true → joinsB (aheadB t N) = false

theorem ahead_win {t : ByteArray} {i q : Nat} (h : q < (winB t i).size) : aheadB (winB t i) q = aheadB t (i + q) := by
  unfold winB at h ⊢
  rw [ByteArray.size_extract] at h
  rw [ahead_part (by omega) (by omega)]

set_option maxHeartbeats 1000000 in
/-- No rule takes more of the second text. -/
theorem rule_shut {t u : ByteArray} {N i : Nat} {op : Bool} (h : Shut t u N) (hi : i < N) (q : Nat) : ruleN u i op q ≤ ruleN t i op q := by
  have h1 := h.agree.a; have h2 := h.agree.b
  have hwt := win_sz t i
  have hwu := win_sz u i
  obtain ⟨m, hm⟩ : ∃ m, m = ruleN u i op q := ⟨_, rfl⟩
  rw [← hm]
  by_cases h0 : m = 0
  · omega
  have hm100 : m ≤ 100 := by rw [hm]; exact rule_100 u i op (by omega) q
  -- the stop, as the window and the rest see it
  have SR : Stop (aheadB (restB u i) (N - i)) := by rw [ahead_rest, show i + (N - i) = N by omega]; exact h.stop
  have SW : N - i ≤ (winB u i).size → Stop (aheadB (winB u i) (N - i)) := by
    intro _
    by_cases e : N - i < (winB u i).size
    · rw [ahead_win e, show i + (N - i) = N by omega]; exact h.stop
    · rw [aheadB_ge (by omega)]; exact Or.inl rfl
  have hmN : m ≤ N - i := by
    by_cases e : N - i ≤ (winB u i).size
    · rw [hm]
      match q with
      | 0 => exact name_at e (SW e)
      | 1 => exact int_at _ _ (by omega) e (SW e)
      | 2 => exact key_at e (SW e)
      | 3 => exact hash_at (by omega) SR
      | 4 => exact sign_at (by omega) (SW e)
      | q + 5 => exact pat_at (by omega) e (SW e)
    · omega
  have ha : ∀ x, x < N → aheadB t x = aheadB u x := fun x hx => h.agree.eq x hx
  obtain ⟨s, hse⟩ : ∃ s, s = cutB u i m := ⟨_, rfl⟩
  have hsz : s.size = m := by rw [hse, cutB, ByteArray.size_extract]; omega
  have hsu : ∀ x, x < s.size → aheadB u (i + x) = aheadB s x := fun x hx => by rw [hse, cutB, ahead_part (by omega) (by omega)]
  have hst : ∀ x, x < s.size → aheadB t (i + x) = aheadB s x := fun x hx => by rw [ha _ (by omega)]; exact hsu x hx
  have ART : Agree s (restB t i) s.size := ⟨Nat.le_refl _, by rw [rest_size]; omega, fun q hq => by rw [ahead_rest]; exact (hst q hq).symm⟩
  have ARU : Agree s (restB u i) s.size := ⟨Nat.le_refl _, by rw [rest_size]; omega, fun q hq => by rw [ahead_rest]; exact (hsu q hq).symm⟩
  have AWT : Agree s (winB t i) s.size := ⟨Nat.le_refl _, by omega, fun q hq => by rw [ahead_win (by omega)]; exact (hst q hq).symm⟩
  have AWU : Agree s (winB u i) s.size := ⟨Nat.le_refl _, by omega, fun q hq => by rw [ahead_win (by omega)]; exact (hsu q hq).symm⟩
  rw [← hsz] at hm ⊢
  match q, hm with
  | 0, hm => exact name_full AWT (by omega) (name_cut AWU (by omega) hm.symm)
  | 1, hm =>
    have hc := int_cut AWU _ _ (by omega) (show intN (winB u i) (aheadB u i) op = s.size from hm.symm)
    show s.size ≤ intN (winB t i) (aheadB t i) op
    rw [← ha i hi] at hc
    by_cases h45 : aheadB t i = 45
    · cases op with
      | true =>
        rw [h45, int_minus_op (by rw [← hst 0 (by omega)]; exact h45)] at hc; omega
      | false => rw [← hc]; exact int_full AWT _ _ (fun h => by cases h)
    · rw [int_op (op' := false) h45] at hc ⊢
      exact Nat.le_trans (Nat.le_of_eq hc.symm) (int_full AWT _ _ (fun h => by cases h))
  | 2, hm =>
    have hm' : keyN u i (winB u i) = s.size := hm.symm
    obtain ⟨k1, k2, k3⟩ := key_cut AWU (by omega) hm'
    refine Nat.le_of_eq (key_same AWT k1 k2 k3 ?_).symm
    by_cases e : i + s.size < N
    · rw [ha _ e]
      have hp : plainN (winB u i) = plainN s := by
        have hq : plainN s < s.size := by omega
        have hx : s[plainN s] = 58 := by rw [← aheadB_lt hq]; exact k3
        have hr := run_to (p := bW) _ 0 _ (Nat.le_refl _) (by omega) hq (by rw [hx]; decide)
        exact plain_stop AWU (by omega)
      unfold keyN at hm'
      rw [hp, if_neg k1] at hm'
      split at hm'
      · split at hm'
        · omega
        · rename_i hj
          rw [show i + s.size = i + (plainN s + 1) by omega]
          simpa using hj
      · omega
    · have hN : N = i + s.size := by omega
      have hl := plain_last k1
      rw [← hN]
      refine h.col ?_ ?_
      · rw [show N - 1 = i + plainN s by omega, hst _ (by omega)]; exact k3
      · rw [show N - 2 = i + (plainN s - 1) by omega, hst _ (by omega)]; exact hl
  | 3, hm => exact Nat.le_of_eq (hash_same ARU ART (by omega) hm.symm).symm
  | 4, hm =>
    by_cases h2 : 2 ≤ s.size
    · have e : (winB t i).extract 0 (min 2 (winB t i).size) = (winB u i).extract 0 (min 2 (winB u i).size) := by
        have a1 := AWT.b; have a2 := AWU.b
        rw [show min 2 (winB t i).size = 2 by omega, show min 2 (winB u i).size = 2 by omega]; exact (AWT.ext (a := 0) h2).symm.trans (AWU.ext (a := 0) h2)
      have : signN (winB t i) = signN (winB u i) := by unfold signN; rw [e, ← AWT.eq 0 (by omega), ← AWU.eq 0 (by omega)]
      have hm' : s.size = signN (winB u i) := hm
      show s.size ≤ signN (winB t i)
      omega
    · have hm' : signN (winB u i) = s.size := hm.symm
      show s.size ≤ signN (winB t i)
      have e0 : aheadB (winB u i) 0 = aheadB (winB t i) 0 := (AWU.eq 0 (by omega)).symm.trans (AWT.eq 0 (by omega))
      unfold signN at hm' ⊢
      rw [← e0]
      split at hm'
      · omega
      · split at hm'
        · rename_i hx
          rw [if_pos hx]
          split <;> omega
        · omega
  | q + 5, hm => exact pat_full AWT hst (by omega) (pat_cut AWU hsu (by omega) (show patN u i (winB u i) = s.size from hm.symm))

set_option maxHeartbeats 1000000 in
/-- The rule that won in the first text takes as much of the second one. -/
theorem rule_won {t u : ByteArray} {N i l w : Nat} {op : Bool} (h : Shut t u N) (hi : i < N) (hl : 1 ≤ l) (hlN : i + l ≤ N) (hw : ruleN t i op w = l) : l ≤ ruleN u i op w := by
  have h1 := h.agree.a; have h2 := h.agree.b
  have hwt := win_sz t i
  have hwu := win_sz u i
  have hl100 : l ≤ 100 := by rw [← hw]; exact rule_100 t i op (by omega) w
  have ha : ∀ x, x < N → aheadB t x = aheadB u x := fun x hx => h.agree.eq x hx
  obtain ⟨s, hse⟩ : ∃ s, s = cutB t i l := ⟨_, rfl⟩
  have hsz : s.size = l := by rw [hse, cutB, ByteArray.size_extract]; omega
  have hst : ∀ x, x < s.size → aheadB t (i + x) = aheadB s x := fun x hx => by rw [hse, cutB, ahead_part (by omega) (by omega)]
  have hsu : ∀ x, x < s.size → aheadB u (i + x) = aheadB s x := fun x hx => by rw [← ha _ (by omega)]; exact hst x hx
  have ART : Agree s (restB t i) s.size := ⟨Nat.le_refl _, by rw [rest_size]; omega, fun q hq => by rw [ahead_rest]; exact (hst q hq).symm⟩
  have ARU : Agree s (restB u i) s.size := ⟨Nat.le_refl _, by rw [rest_size]; omega, fun q hq => by rw [ahead_rest]; exact (hsu q hq).symm⟩
  have AWT : Agree s (winB t i) s.size := ⟨Nat.le_refl _, by omega, fun q hq => by rw [ahead_win (by omega)]; exact (hst q hq).symm⟩
  have AWU : Agree s (winB u i) s.size := ⟨Nat.le_refl _, by omega, fun q hq => by rw [ahead_win (by omega)]; exact (hsu q hq).symm⟩
  rw [← hsz] at hw ⊢
  match w, hw with
  | 0, hm => exact name_full AWU (by omega) (name_cut AWT (by omega) hm)
  | 1, hm =>
    have hc := int_cut AWT _ _ (by omega) (show intN (winB t i) (aheadB t i) op = s.size from hm)
    show s.size ≤ intN (winB u i) (aheadB u i) op
    rw [← ha i hi]
    by_cases h45 : aheadB t i = 45
    · cases op with
      | true =>
        rw [h45, int_minus_op (by rw [← hst 0 (by omega)]; exact h45)] at hc; omega
      | false => rw [← hc]; exact int_full AWU _ _ (fun h => by cases h)
    · rw [int_op (op' := false) h45] at hc ⊢
      exact Nat.le_trans (Nat.le_of_eq hc.symm) (int_full AWU _ _ (fun h => by cases h))
  | 2, hm =>
    have hm' : keyN t i (winB t i) = s.size := hm
    obtain ⟨k1, k2, k3⟩ := key_cut AWT (by omega) hm'
    refine Nat.le_of_eq (key_same AWU k1 k2 k3 ?_).symm
    by_cases e : i + s.size < N
    · rw [← ha _ e]
      have hp : plainN (winB t i) = plainN s := by
        have hq : plainN s < s.size := by omega
        have hx : s[plainN s] = 58 := by rw [← aheadB_lt hq]; exact k3
        have hr := run_to (p := bW) _ 0 _ (Nat.le_refl _) (by omega) hq (by rw [hx]; decide)
        exact plain_stop AWT (by omega)
      unfold keyN at hm'
      rw [hp, if_neg k1] at hm'
      split at hm'
      · split at hm'
        · omega
        · rename_i hj
          rw [show i + s.size = i + (plainN s + 1) by omega]
          simpa using hj
      · omega
    · rw [show i + s.size = N by omega]; exact h.stop.joins
  | 3, hm => exact Nat.le_of_eq (hash_same ART ARU (by omega) hm).symm
  | 4, hm =>
    have hs' := rule_shut (op := op) h hi 4
    exact Nat.le_of_eq (sign_same AWT AWU (by omega) hm (by rw [← hm]; exact hs')).symm
  | q + 5, hm => exact pat_full AWU hsu (by omega) (pat_cut AWT hst (by omega) hm)

theorem pre_false {t u : ByteArray} {N i : Nat} (h : Shut t u N) (hi : i < N) {b : UInt8} (h0 : b ≠ 0) (h32 : b ≠ 32) (hf : Lib.hasPrefix (restB t i).data.toList [47, b] = false) : Lib.hasPrefix (restB u i).data.toList [47, b] = false := by
  by_cases e : i + 1 < N
  · have hr := h.agree.rest i
    rw [← prefix_two 47 b _ _ (hr.list 0 (by omega)) (hr.list 1 (by omega))]; exact hf
  · apply Bool.eq_false_iff.2
    intro hx
    simp only [Lib.hasPrefix, List.isPrefixOf_iff_prefix] at hx
    have hlen := hx.length_le
    simp at hlen
    obtain ⟨z, hz⟩ := hx
    have e1 : (restB u i).data.toList[1]? = some (aheadB (restB u i) 1) := by rw [Array.getElem?_toList]; exact ahead_data (by omega)
    rw [← hz, ahead_rest, show i + 1 = N by omega] at e1
    simp at e1
    exact h.stop.ne _ h0 h32 e1.symm

set_option maxHeartbeats 1000000 in
/-- The pieces ahead of N stand in the second text, too; blanks and comments up to the end of the line have to end ahead of N. -/
theorem next_shut {t u : ByteArray} {N i k l : Nat} {op : Bool} (h : Shut t u N) (hn : nextR t i op = .ok (k, l)) (hi : i < N) (hN : i + l ≤ N) (hlast : i + l = N → k ≠ 7 ∧ (k = 8 → aheadB t (i + 1) ≠ 47)) : nextR u i op = .ok (k, l) := by
  have h1 := h.agree.a; have h2 := h.agree.b
  have hbd := next_bounds (by omega) hn
  simp only at hbd
  have hr := h.agree.rest i
  have ea : ∀ j, j < N → aheadB u j = aheadB t j := fun j hj => (h.agree.eq j hj).symm
  unfold nextR at hn ⊢
  split at hn
  · rename_i hp
    simp only [Except.ok.injEq, Prod.mk.injEq] at hn
    obtain ⟨rfl, hl⟩ := hn
    have hb := line_bounds hp
    have e1 : aheadB t (i + 1) = 47 := by
      simp only [Lib.hasPrefix, List.isPrefixOf_iff_prefix] at hp
      have hlen := hp.length_le
      simp at hlen
      obtain ⟨z, hz⟩ := hp
      have e1 : (restB t i).data.toList[1]? = some (aheadB (restB t i) 1) := by rw [Array.getElem?_toList]; exact ahead_data (by omega)
      rw [← hz, ahead_rest] at e1
      simp at e1
      exact e1.symm
    have hlt : i + l < N := by
      apply Nat.lt_of_le_of_ne hN
      intro e
      exact (hlast e).2 rfl e1
    rw [← prefix_two 47 47 _ _ (hr.list 0 (by omega)) (hr.list 1 (by omega)), if_pos hp]
    simp only [Except.ok.injEq, Prod.mk.injEq, true_and]
    unfold lineN at hl ⊢
    split at hl
    · have hx := indexByte_agree 10 _ (restB u i).data.toList (N - i) l (fun j hj => hr.list j hj) (by omega) (by omega)
      rw [hx]; simp
    · rw [rest_size] at hl; omega
  · rename_i hp
    split at hn
    · rename_i hp2
      split at hn
      · rename_i n hM
        simp only [Except.ok.injEq, Prod.mk.injEq] at hn
        obtain ⟨rfl, rfl⟩ := hn
        have hb := nested_ge _ _ 0 0 n (Nat.le_refl _) hM
        rw [← prefix_two 47 47 _ _ (hr.list 0 (by omega)) (hr.list 1 (by omega)), ← prefix_two 47 42 _ _ (hr.list 0 (by omega)) (hr.list 1 (by omega)), if_neg hp, if_pos hp2, nested_agree hr _ 0 0 n (Nat.le_refl _) hM (by omega)]
      · cases hn
    · rename_i hp2
      rw [pre_false h hi (by decide) (by decide) (by simpa using hp), pre_false h hi (by decide) (by decide) (by simpa using hp2), ea i hi]
      simp only [Bool.false_eq_true, if_false]
      split at hn
      · rename_i hb
        rw [if_pos hb]
        simp only [Except.ok.injEq, Prod.mk.injEq] at hn
        obtain ⟨rfl, hl⟩ := hn
        have hlt : i + l < N := Nat.lt_of_le_of_ne hN fun e => (hlast e).1 rfl
        simp only [Except.ok.injEq, Prod.mk.injEq, true_and]
        unfold blanksN at hl ⊢
        rw [run_agree h.agree bBlank _ (i + 1) (Nat.le_refl _) (by omega)]; exact hl
      · rename_i hb
        rw [if_neg hb]
        split at hn
        · rename_i hf
          have hbt : bestTo (ruleN t i op) 6 = (k, l) := by simpa using hn
          obtain ⟨w, rfl⟩ : ∃ w, k = w + 1 := ⟨k - 1, by omega⟩
          obtain ⟨b1, b2, b3⟩ := best_first 6 hbt
          have hB : bestTo (ruleN u i op) 6 = (w + 1, l) := by
            have hb6 : ∀ q, q < 6 → ruleN u i op q ≤ l := fun q hq => by
              have := best_ge (ruleN t i op) 6 q hq
              rw [hbt] at this
              exact Nat.le_trans (rule_shut h hi q) this
            refine best_eq (m := ruleN u i op) (by omega) (fun q => ?_) (Nat.le_antisymm (hb6 w b1) (rule_won h hi (by omega) hN b2)) (fun q hq => Nat.lt_of_le_of_lt (rule_shut h hi q) (b3 q hq)) 6 b1
            by_cases hq : q < 6
            · exact hb6 q hq
            · obtain ⟨q', rfl⟩ : ∃ q', q = q' + 5 := ⟨q - 5, by omega⟩
              exact hb6 5 (by omega)
          rw [hbt] at hf
          rw [hB]
          have ef : faultN u i (w + 1) l = 0 := by
            by_cases e : i + l < N
            · unfold faultN cutB at hf ⊢
              rw [ea i hi, ea _ e, ← h.agree.ext hN]; exact hf
            · have hst := h.stop
              rw [show N = i + l by omega] at hst
              unfold faultN cutB at hf ⊢
              rw [ea i hi, ← h.agree.ext hN, hst.spoils, hst.w]
              split
              · rename_i h2
                rw [if_pos h2] at hf
                split at hf
                · rename_i h3
                  rw [Bool.and_eq_true] at h3
                  rw [h3.1]; rfl
                · cases hf
              · rename_i h2
                rw [if_neg h2] at hf
                split
                · rw [if_neg (by simp)]
                · rename_i h4
                  rw [if_neg h4] at hf; exact hf
          rw [if_pos ef]
        · cases hn

theorem nested_last (s : ByteArray) : ∀ (f i : Nat) (m : Int) (n : Nat), s.size - i ≤ f → nestedGo s i m = .ok n → aheadB s (n - 1) = 47 := by
  intro f
  induction f with
  | zero => intro i m n hf h; rw [nested_end (by omega)] at h; cases h
  | succ f ih =>
    intro i m n hf h
    by_cases hi : i < s.size
    · cases ho : ((s.extract i (min (i + 2) s.size)).toList == [47, 42])
      · cases hc : ((s.extract i (min (i + 2) s.size)).toList == [42, 47])
        · rw [nested_on hi ho hc] at h; exact ih _ _ _ (by omega) h
        · cases hz : (m - 1 == 0)
          · rw [nested_less hi ho hc hz] at h; exact ih _ _ _ (by omega) h
          · rw [nested_shut hi ho hc hz] at h
            simp only [Except.ok.injEq] at h
            subst h
            have e := beq_iff_eq.1 hc
            have hlen := congrArg List.length e
            rw [ByteArray.toList_eq] at hlen e
            simp at hlen
            have e1 : (s.extract i (min (i + 2) s.size)).data.toList[1]? = some (aheadB s (i + 1)) := by
              rw [Array.getElem?_toList, ahead_data (by rw [ByteArray.size_extract]; omega), ahead_part (by omega) (by omega)]
            rw [e] at e1
            simp at e1
            rw [show i + 2 - 1 = i + 1 by omega]; exact e1.symm
      · by_cases hd : 100 < m + 1
        · rw [nested_deep hi ho hd] at h; cases h
        · rw [nested_open hi ho hd] at h; exact ih _ _ _ (by omega) h
    · rw [nested_end hi] at h; cases h

/-- The last byte of a name, an integer, a pattern is no colon. -/
theorem name_tail {s : ByteArray} (h0 : 1 ≤ s.size) (hf : nameN s = s.size) : aheadB s (s.size - 1) ≠ 58 := by
  unfold nameN at hf
  split at hf
  · omega
  · rename_i hz
    change plainN s + libN (restB s (plainN s)) = s.size at hf
    by_cases hl : libN (restB s (plainN s)) = 0
    · have := plain_last hz
      rw [show s.size - 1 = plainN s - 1 by omega]
      intro e; rw [e] at this; exact absurd this (by decide)
    · have h2 := lib_two hl
      have hq : bQ (aheadB (restB s (plainN s)) (libN (restB s (plainN s)) - 1)) = true := by
        obtain ⟨m, hm⟩ : ∃ m, m = libN (restB s (plainN s)) := ⟨_, rfl⟩
        rw [← hm]
        rw [← hm] at h2
        unfold libN at hm
        split at hm
        · split at hm
          · split at hm
            · exact run_every _ 1 (m - 1) (Nat.le_refl _) (by omega) (by omega)
            · omega
          · omega
        · omega
      rw [ahead_rest] at hq
      rw [show s.size - 1 = plainN s + (libN (restB s (plainN s)) - 1) by omega]
      intro e; rw [e] at hq; exact absurd hq (by decide)
theorem int_tail {s : ByteArray} {c : UInt8} {op : Bool} (h0 : 1 ≤ s.size) (hf : intN s c op = s.size) : aheadB s (s.size - 1) ≠ 58 := by
  unfold intN at hf
  change (if (c == 45 && !op) = true then (if runN bD (restB s 1) 0 = 0 then 0 else 1 + runN bD (restB s 1) 0) else runN bD (restB s 0) 0) = s.size at hf
  split at hf
  · split at hf
    · omega
    · rename_i hz
      have := run_every (p := bD) (s := restB s 1) _ 0 (runN bD (restB s 1) 0 - 1) (Nat.le_refl _) (by omega) (by omega)
      rw [ahead_rest] at this
      rw [show s.size - 1 = 1 + (runN bD (restB s 1) 0 - 1) by omega]
      intro e; rw [e] at this; exact absurd this (by decide)
  · have := run_every (p := bD) (s := restB s 0) _ 0 (runN bD (restB s 0) 0 - 1) (Nat.le_refl _) (by omega) (by omega)
    rw [ahead_rest] at this
    rw [show s.size - 1 = 0 + (runN bD (restB s 0) 0 - 1) by omega]
    intro e; rw [e] at this; exact absurd this (by decide)
theorem pat_tail {s : ByteArray} (h0 : 1 ≤ s.size) (hf : patN s 0 s = s.size) : aheadB s (s.size - 1) ≠ 58 := by
  unfold patN at hf
  change (if aheadB s 0 = 63 then
    if plainN (restB s 1) = 0 then 0
    else if aheadB s (plainN (restB s 1) + 1) = 58 then
      if joinsB (aheadB s (0 + (plainN (restB s 1) + 1 + 1))) then plainN (restB s 1) + 1
      else if 0 < plainN (restB s (plainN (restB s 1) + 1 + 1)) then plainN (restB s 1) + 1 + 1 + plainN (restB s (plainN (restB s 1) + 1 + 1)) else plainN (restB s 1) + 1
    else plainN (restB s 1) + 1
  else 0) = s.size at hf
  have key : ∀ x, plainN (restB s x) ≠ 0 → x + plainN (restB s x) = s.size → aheadB s (s.size - 1) ≠ 58 := by
    intro x hz e
    have := plain_last hz
    rw [ahead_rest] at this
    rw [show s.size - 1 = x + (plainN (restB s x) - 1) by omega]
    intro e; rw [e] at this; exact absurd this (by decide)
  split at hf
  · split at hf
    · omega
    · rename_i hz
      split at hf
      · split at hf
        · exact key 1 hz (by omega)
        · split at hf
          · exact key _ (by omega) hf
          · exact key 1 hz (by omega)
      · exact key 1 hz (by omega)
  · omega

theorem nx_blank {t : ByteArray} {i : Nat} {op : Bool} (hi : i < t.size) (h : bBlank (aheadB t i) = true) : nextR t i op = .ok (7, blanksN t i) := by
  have hp : ∀ b, Lib.hasPrefix (restB t i).data.toList [47, b] = false := by
    intro b
    apply Bool.eq_false_iff.2
    intro hx
    simp only [Lib.hasPrefix, List.isPrefixOf_iff_prefix] at hx
    obtain ⟨z, hz⟩ := hx
    have e0 : (restB t i).data.toList[0]? = some (aheadB (restB t i) 0) := by rw [Array.getElem?_toList]; exact ahead_data (by rw [rest_size]; omega)
    rw [← hz, ahead_rest, Nat.add_zero] at e0
    simp at e0
    rw [← e0] at h
    exact absurd h (by decide)
  unfold nextR
  rw [hp, hp]
  simp only [Bool.false_eq_true, if_false]
  rw [if_pos h]
theorem blank_next {t : ByteArray} {i l : Nat} {op : Bool} (h : nextR t i op = .ok (7, l)) : bBlank (aheadB t i) = true ∧ l = blanksN t i := by
  unfold nextR at h
  split at h
  · simp at h
  · split at h
    · split at h <;> simp at h
    · split at h
      · rename_i hb
        simp only [Except.ok.injEq, Prod.mk.injEq, true_and] at h
        exact ⟨hb, h.symm⟩
      · split at h
        · rename_i hf
          simp only [Except.ok.injEq] at h
          have h6 := (bestTo_le (ruleN t i op) (bestTo (ruleN t i op) 6).2.succ.succ (fun k => ?_) 6).1
          · rw [h] at h6; simp only at h6; omega
          · by_cases hk : k < 6
            · have := best_ge (ruleN t i op) 6 k hk; omega
            · obtain ⟨q, rfl⟩ : ∃ q, k = q + 5 := ⟨k - 5, by omega⟩
              have := best_ge (ruleN t i op) 6 5 (by omega)
              have e : ruleN t i op (q + 5) = ruleN t i op 5 := rfl
              omega
        · cases h

theorem colon_last {t : ByteArray} {N p k l : Nat} {op : Bool} (hp : p < t.size) (hn : nextR t p op = .ok (k, l)) (hN : p + l = N) (hnl : k = 8 → aheadB t (p + 1) ≠ 47) : aheadB t (N - 1) = 58 → bW (aheadB t (N - 2)) = true → joinsB (aheadB t N) = false := by
  intro h58 hW
  have hbd := next_bounds hp hn
  simp only at hbd
  by_cases hk : isTok k = true
  · have hb := next_tok hn hk
    obtain ⟨w, rfl⟩ : ∃ w, k = w + 1 := ⟨k - 1, by omega⟩
    obtain ⟨b1, b2, b3⟩ := best_first 6 hb
    have hl100 : l ≤ 100 := by rw [← b2]; exact rule_100 t p op hp w
    have hwt := win_sz t p
    obtain ⟨s, hse⟩ : ∃ s, s = cutB t p l := ⟨_, rfl⟩
    have hsz : s.size = l := by rw [hse, cutB, ByteArray.size_extract]; omega
    have hst : ∀ x, x < s.size → aheadB t (p + x) = aheadB s x := fun x hx => by rw [hse, cutB, ahead_part (by omega) (by omega)]
    have ART : Agree s (restB t p) s.size := ⟨Nat.le_refl _, by rw [rest_size]; omega, fun q hq => by rw [ahead_rest]; exact (hst q hq).symm⟩
    have AWT : Agree s (winB t p) s.size := ⟨Nat.le_refl _, by omega, fun q hq => by rw [ahead_win (by omega)]; exact (hst q hq).symm⟩
    have hlast : aheadB s (s.size - 1) = 58 := by rw [← hst _ (by omega), show p + (s.size - 1) = N - 1 by omega]; exact h58
    rw [← hsz] at b2
    have hw' : w = 0 ∨ w = 1 ∨ w = 2 ∨ w = 3 ∨ w = 4 ∨ w = 5 := by omega
    rcases hw' with rfl | rfl | rfl | rfl | rfl | rfl
    · exact absurd hlast (name_tail (by omega) (name_cut AWT (by omega) b2))
    · exact absurd hlast (int_tail (by omega) (int_cut AWT _ _ (by omega) b2))
    · have b2' : keyN t p (winB t p) = s.size := b2
      unfold keyN at b2'
      split at b2'
      · omega
      · split at b2'
        · split at b2'
          · omega
          · rename_i hj
            rw [← hN, ← hsz, ← b2']
            simpa using hj
        · omega
    · exfalso
      have b2' : hashN (restB t p) = s.size := b2
      unfold hashN at b2'
      split at b2'
      · rename_i hx
        have e1 : (restB t p).data.toList[1]? = some (aheadB (restB t p) 1) := by rw [Array.getElem?_toList]; exact ahead_data (by rw [rest_size]; omega)
        rw [ahead_rest, hst 1 (by omega), show (1 : Nat) = s.size - 1 by omega, hlast] at e1
        rw [← b2'] at e1
        rw [Bool.or_eq_true] at hx
        rcases hx with hx | hx
        all_goals
          simp only [Lib.hasPrefix, List.isPrefixOf_iff_prefix] at hx
          obtain ⟨z, hz⟩ := hx
          rw [← hz] at e1
          simp at e1
      · omega
    · exfalso
      have b2' : signN (winB t p) = s.size := b2
      have hle2 : signN (winB t p) ≤ 2 := by unfold signN; split <;> (try split) <;> omega
      by_cases h2 : s.size = 2
      · have hx := sgn_two AWT h2 (by omega)
        rw [h2] at hlast
        rw [hlast] at hx
        have hw0 : bW (aheadB s 0) = true := by rw [← hst 0 (by omega), show p + 0 = N - 2 by omega]; exact hW
        simp only [signTwo, Bool.or_eq_true, beq_iff_eq, List.cons.injEq] at hx
        rcases hx with ((((hx | hx) | hx) | hx) | hx) | hx
        · exact absurd hx.2.1 (by decide)
        · rw [hx.1] at hw0; exact absurd hw0 (by decide)
        · exact absurd hx.2.1 (by decide)
        · exact absurd hx.2.1 (by decide)
        · exact absurd hx.2.1 (by decide)
        · exact absurd hx.2.1 (by decide)
      · have h1 : s.size = 1 := by omega
        unfold signN at b2'
        split at b2'
        · omega
        · split at b2'
          · rename_i hx
            rw [← AWT.eq 0 (by omega), show (0 : Nat) = s.size - 1 by omega, hlast] at hx
            exact absurd hx (by decide)
          · omega
    · exact absurd hlast (pat_tail (by omega) (pat_cut AWT hst (by omega) b2))
  · have hk' : k = 7 ∨ k = 8 := by
      simp only [isTok, Bool.and_eq_true, decide_eq_true_eq] at hk; omega
    exfalso
    rcases hk' with rfl | rfl
    · obtain ⟨e1, e2⟩ := blank_next hn
      have hbl : bBlank (aheadB t (N - 1)) = true := by
        by_cases e : l = 1
        · rw [show N - 1 = p by omega]; exact e1
        · unfold blanksN at e2
          exact run_every _ (p + 1) (N - 1) (Nat.le_refl _) (by omega) (by omega)
      rw [h58] at hbl; exact absurd hbl (by decide)
    · unfold nextR at hn
      split at hn
      · rename_i hx
        simp only [Lib.hasPrefix, List.isPrefixOf_iff_prefix] at hx
        have hlen := hx.length_le
        simp at hlen
        obtain ⟨z, hz⟩ := hx
        have e1 : (restB t p).data.toList[1]? = some (aheadB (restB t p) 1) := by rw [Array.getElem?_toList]; exact ahead_data (by omega)
        rw [← hz, ahead_rest] at e1
        simp at e1
        exact hnl rfl e1.symm
      · split at hn
        · split at hn
          · rename_i n hM
            simp only [Except.ok.injEq, Prod.mk.injEq, true_and] at hn
            subst hn
            have hge := nested_ge _ _ 0 0 n (Nat.le_refl _) hM
            have := nested_last _ _ 0 0 n (Nat.le_refl _) hM
            rw [ahead_rest, show p + (n - 1) = N - 1 by omega, h58] at this
            exact absurd this (by decide)
          · cases hn
        · split at hn
          · simp at hn
          · split at hn
            · simp only [Except.ok.injEq] at hn
              have h6 := (bestTo_le (ruleN t p op) (bestTo (ruleN t p op) 6).2.succ.succ (fun k => ?_) 6).1
              · rw [hn] at h6; simp only at h6; omega
              · by_cases hk : k < 6
                · have := best_ge (ruleN t p op) 6 k hk; omega
                · obtain ⟨q, rfl⟩ : ∃ q, k = q + 5 := ⟨k - 5, by omega⟩
                  have := best_ge (ruleN t p op) 6 5 (by omega)
                  have e : ruleN t p op (q + 5) = ruleN t p op 5 := rfl
                  omega
            · cases hn

/-- The tokens among pieces, with their texts. -/
def tv (t : ByteArray) (l : List (Nat × Nat × Nat)) : List (Nat × ByteArray) := (l.filter fun x => isTok x.1).map fun x => (x.1, cutB t x.2.1 x.2.2)
theorem tv_append (t : ByteArray) (l m : List (Nat × Nat × Nat)) : tv t (l ++ m) = tv t l ++ tv t m := by simp [tv]
theorem tv_cons (t : ByteArray) (x : Nat × Nat × Nat) (l : List (Nat × Nat × Nat)) : tv t (x :: l) = (if isTok x.1 then [(x.1, cutB t x.2.1 x.2.2)] else []) ++ tv t l := by
  unfold tv
  rw [List.filter_cons]
  split <;> simp
theorem tv_agree {t u : ByteArray} {N : Nat} (h : Agree t u N) : ∀ (l : List (Nat × Nat × Nat)), (∀ x ∈ l, x.2.1 + x.2.2 ≤ N) → tv u l = tv t l := by
  intro l
  induction l with
  | nil => intro _; rfl
  | cons x l ih =>
    intro hx
    rw [tv_cons, tv_cons, ih (fun y hy => hx y (List.mem_cons_of_mem _ hy))]
    have : cutB u x.2.1 x.2.2 = cutB t x.2.1 x.2.2 := h.symm.ext (hx x List.mem_cons_self)
    rw [this]

theorem steps_shut {t u : ByteArray} {N : Nat} (h : Shut t u N) : ∀ (l : List (Nat × Nat × Nat)) (i : Nat) (op : Bool) (c : Nat) (st : Nat × Bool × Nat), Steps t i op c l st → st.1 ≤ N → (∀ x ∈ l, x.2.1 + x.2.2 = N → x.1 ≠ 7 ∧ (x.1 = 8 → aheadB t (x.2.1 + 1) ≠ 47)) → Steps u i op c l st := by
  have h1 := h.agree.a; have h2 := h.agree.b
  intro l
  induction l with
  | nil => intro i op c st hs _ _; exact hs
  | cons x l ih =>
    intro i op c st hs hN hl
    obtain ⟨a1, a2, a3, a4, a5⟩ := hs
    have hb := next_bounds a1 a3
    simp only at hb
    have hst := steps_bounds l _ _ _ st a5 (by omega)
    have e : cutB u i x.2.2 = cutB t i x.2.2 := h.agree.symm.ext (by omega)
    refine ⟨by omega, a2, next_shut h a3 (by omega) (by omega) (fun hx => by have := hl x List.mem_cons_self (by omega); rw [a2] at this; exact this), a4, ?_⟩
    rw [e]
    exact ih _ _ _ st a5 hN (fun y hy => hl y (List.mem_cons_of_mem _ hy))

theorem run_is {p : UInt8 → Bool} {s : ByteArray} {e : Nat} (he : e ≤ s.size) (hend : p (aheadB s e) = false) : ∀ (f k : Nat), e - k ≤ f → k ≤ e → (∀ q, k ≤ q → q < e → p (aheadB s q) = true) → runN p s k = e := by
  intro f
  induction f with
  | zero =>
    intro k hf hk _
    have : k = e := by omega
    subst this
    by_cases hlt : k < s.size
    · rw [runN_no hlt (by rw [← aheadB_lt hlt]; exact hend)]
    · rw [runN_end hlt]
  | succ f ih =>
    intro k hf hk hall
    by_cases hke : k = e
    · subst hke
      by_cases hlt : k < s.size
      · rw [runN_no hlt (by rw [← aheadB_lt hlt]; exact hend)]
      · rw [runN_end hlt]
    · rw [runN_go (by omega) (by rw [← aheadB_lt (by omega)]; exact hall k (Nat.le_refl _) (by omega))]
      exact ih (k + 1) (by omega) (by omega) (fun q hq hq2 => hall q (by omega) hq2)

theorem st_snoc {t : ByteArray} {l : List (Nat × Nat × Nat)} {x : Nat × Nat × Nat} {i c : Nat} {op : Bool} {st : Nat × Bool × Nat} (h : Steps t i op c (l ++ [x]) st) :
    ∃ op' c', Steps t i op c l (x.2.1, op', c') ∧ x.2.1 < t.size ∧ nextR t x.2.1 op' = .ok (x.1, x.2.2) ∧ ¬ (isTok x.1 = true ∧ c' = 6000) ∧ st = (x.2.1 + x.2.2, (if isTok x.1 then opE x.1 (cutB t x.2.1 x.2.2) else op'), (if isTok x.1 then c' + 1 else c')) := by
  obtain ⟨s, h1, h2⟩ := steps_split _ _ _ _ _ _ h
  obtain ⟨b1, b2, b3, b4, b5⟩ := h2
  obtain ⟨i', op', c'⟩ := s
  simp only at b1 b2 b3 b4 b5
  subst b2
  simp only [Steps] at b5
  exact ⟨op', c', h1, b1, b3, b4, b5⟩

/-- The pieces ahead of a gap: what they are in the second text, which has a blank and then a stroke there. -/
theorem gap_pre {t u : ByteArray} {pre : List (Nat × Nat × Nat)} {a c : Nat} {op : Bool} (h : Steps t 0 false 0 pre (a, op, c)) (hA : Agree t u a) (h32 : aheadB u a = 32) (h47 : aheadB u (a + 1) = 47) (hu : a + 1 < u.size)
    (hline : ∀ x, pre.getLast? = some x → x.1 = 8 → aheadB t (x.2.1 + 1) ≠ 47) : ∃ m, Steps u 0 false 0 m (a + 1, op, c) ∧ tv u m = tv t pre := by
  have hb1 := hA.a; have hb2 := hA.b
  have hblank : nextR u a op = .ok (7, 1) := by
    rw [nx_blank (by omega) (by rw [h32]; decide)]
    unfold blanksN
    rw [run_is (e := a + 1) (by omega) (by rw [h47]; decide) 0 (a + 1) (by omega) (Nat.le_refl _) (fun q h1 h2 => by omega), show a + 1 - a = 1 by omega]
  have fin : Steps u 0 false 0 pre (a, op, c) → (∀ x ∈ pre, x.2.1 + x.2.2 ≤ a) → ∃ m, Steps u 0 false 0 m (a + 1, op, c) ∧ tv u m = tv t pre := by
    intro hs hx
    refine ⟨pre ++ [(7, a, 1)], steps_append _ _ _ _ _ _ _ hs ⟨by simp only; omega, rfl, hblank, by simp [isTok], by simp [Steps, isTok]⟩, ?_⟩
    rw [tv_append, tv_agree hA pre hx, tv_cons]
    simp [isTok, tv]
  have hin := steps_in pre _ _ _ _ h
  rcases List.eq_nil_or_concat pre with rfl | ⟨pre', x, rfl⟩
  · simp only [Steps] at h
    exact fin h (fun x hx => by simp at hx)
  · rw [List.concat_eq_append] at *
    obtain ⟨op', c', g1, g2, g3, g4, g5⟩ := st_snoc h
    have hl8 : x.1 = 8 → aheadB t (x.2.1 + 1) ≠ 47 := hline x (by simp)
    simp only [Prod.mk.injEq] at g5
    obtain ⟨g5, g6, g7⟩ := g5
    have hS : Shut t u a := ⟨hA, Or.inr h32, colon_last g2 g3 g5.symm hl8⟩
    have hb := next_bounds g2 g3
    simp only at hb
    have hsb := steps_in pre' _ _ _ _ g1
    by_cases h7 : x.1 = 7
    · have hnt : isTok x.1 = false := by rw [h7]; rfl
      rw [hnt] at g6 g7
      simp only [Bool.false_eq_true, if_false] at g6 g7
      subst g6 g7
      have hs' := steps_shut hS pre' _ _ _ _ g1 (by simp only; omega) (fun y hy he => by have := hsb y hy; simp only at this; omega)
      rw [h7] at g3
      obtain ⟨e1, e2⟩ := blank_next g3
      have hall : ∀ q, x.2.1 ≤ q → q < a → bBlank (aheadB u q) = true := by
        intro q hq1 hq2
        rw [← hA.eq q hq2]
        by_cases e : q = x.2.1
        · rw [e]; exact e1
        · unfold blanksN at e2
          exact run_every _ (x.2.1 + 1) q (Nat.le_refl _) (by omega) (by omega)
      have hnx : nextR u x.2.1 op = .ok (7, a + 1 - x.2.1) := by
        rw [nx_blank (by omega) (hall _ (Nat.le_refl _) (by omega))]
        unfold blanksN
        rw [run_is (e := a + 1) (by omega) (by rw [h47]; decide) _ (x.2.1 + 1) (Nat.le_refl _) (by omega) (fun q hq1 hq2 => ?_)]
        by_cases e : q = a
        · rw [e, h32]; decide
        · exact hall q (by omega) (by omega)
      refine ⟨pre' ++ [(7, x.2.1, a + 1 - x.2.1)], steps_append _ _ _ _ _ _ _ hs' ⟨by simp only; omega, rfl, hnx, by simp [isTok], ?_⟩, ?_⟩
      · simp only [Steps, isTok]
        rw [show x.2.1 + (a + 1 - x.2.1) = a + 1 by omega]; simp
      · rw [tv_append, tv_append, tv_cons, tv_cons, hnt, tv_agree hA pre' (fun y hy => by have := hsb y hy; simp only at this; omega)]
        simp [isTok, tv]
    · refine fin (steps_shut hS _ _ _ _ _ h (Nat.le_refl _) (fun y hy he => ?_)) (fun y hy => by have := hin y hy; simp only at this; omega)
      rcases List.mem_append.1 hy with hy | hy
      · have := hsb y hy; simp only at this; omega
      · simp only [List.mem_singleton] at hy
        subst hy
        exact ⟨h7, hl8⟩

theorem two_at {s : ByteArray} {i : Nat} (h : i + 2 ≤ s.size) : (s.extract i (min (i + 2) s.size)).toList = [aheadB s i, aheadB s (i + 1)] := by
  rw [ByteArray.toList_eq, show min (i + 2) s.size = i + 2 by omega]
  apply List.ext_getElem?
  intro q
  by_cases hq : q < 2
  · rw [Array.getElem?_toList, ahead_data (by rw [ByteArray.size_extract]; omega), ahead_part (by omega) (by omega)]
    have : q = 0 ∨ q = 1 := by omega
    rcases this with rfl | rfl <;> rfl
  · rw [List.getElem?_eq_none (by simp; omega), List.getElem?_eq_none (by simp; omega)]

theorem nested_plain {s : ByteArray} {e : Nat} (he : e + 2 ≤ s.size) (h42 : aheadB s e = 42) (h47 : aheadB s (e + 1) = 47) : ∀ (f i : Nat), e - i ≤ f → i ≤ e → (∀ q, i ≤ q → q < e → aheadB s q ≠ 42 ∧ aheadB s q ≠ 47) → nestedGo s i 1 = .ok (e + 2) := by
  intro f
  induction f with
  | zero =>
    intro i hf hi _
    have : i = e := by omega
    subst this
    have h2 := two_at (s := s) (i := i) he
    rw [h42, h47] at h2
    exact nested_shut (by omega) (by rw [h2]; decide) (by rw [h2]; decide) (by decide)
  | succ f ih =>
    intro i hf hi hall
    by_cases hie : i = e
    · subst hie
      have h2 := two_at (s := s) (i := i) he
      rw [h42, h47] at h2
      exact nested_shut (by omega) (by rw [h2]; decide) (by rw [h2]; decide) (by decide)
    · have h2 := two_at (s := s) (i := i) (by omega)
      have hx := hall i (Nat.le_refl _) (by omega)
      rw [nested_on (by omega) (by rw [h2]; apply beq_eq_false_iff_ne.2; intro e; simp only [List.cons.injEq] at e; exact hx.2 e.1) (by rw [h2]; apply beq_eq_false_iff_ne.2; intro e; simp only [List.cons.injEq] at e; exact hx.1 e.1)]
      exact ih (i + 1) (by omega) (by omega) (fun q hq1 hq2 => hall q (by omega) hq2)

/-- The comment of a gap: from the place a on, up to the stroke at e + 1. -/
theorem gap_mid {u : ByteArray} {a e : Nat} {op : Bool} (ha : aheadB u a = 47) (ha1 : aheadB u (a + 1) = 42) (he : aheadB u e = 42) (he1 : aheadB u (e + 1) = 47) (hu : e + 2 ≤ u.size) (hae : a + 2 ≤ e)
    (hall : ∀ q, a + 2 ≤ q → q < e → aheadB u q ≠ 42 ∧ aheadB u q ≠ 47) : nextR u a op = .ok (8, e + 2 - a) := by
  have hr := rest_size u a
  have hl : ∀ q, q < u.size - a → (restB u a).data.toList[q]? = some (aheadB u (a + q)) := fun q hq => by
    rw [Array.getElem?_toList, ahead_data (by rw [hr]; exact hq), ahead_rest]
  have hp : ∀ b, Lib.hasPrefix (restB u a).data.toList [47, b] = ((42 : UInt8) == b) := by
    intro b
    have h0 := hl 0 (by omega)
    have h1 := hl 1 (by omega)
    rw [Nat.add_zero, ha] at h0
    rw [ha1] at h1
    generalize (restB u a).data.toList = l at h0 h1
    match l, h0, h1 with
    | [], h0, _ => simp at h0
    | [_], _, h1 => simp at h1
    | x :: y :: l, h0, h1 =>
      simp at h0 h1
      subst h0 h1
      simp only [Lib.hasPrefix, List.isPrefixOf]
      simp only [BEq.rfl, Bool.true_and, Bool.and_true]
      rw [Bool.eq_iff_iff, beq_iff_eq, beq_iff_eq]; exact ⟨fun h => h.symm, fun h => h.symm⟩
  have hn : nestedGo (restB u a) 0 0 = .ok (e - a + 2) := by
    have h2 := two_at (s := restB u a) (i := 0) (by omega)
    rw [ahead_rest, ahead_rest, Nat.zero_add, Nat.add_zero, ha, ha1] at h2
    rw [nested_open (by omega) (by rw [h2]; decide) (by omega)]
    exact nested_plain (e := e - a) (by omega) (by rw [ahead_rest, show a + (e - a) = e by omega]; exact he) (by rw [ahead_rest, show a + (e - a + 1) = e + 1 by omega]; exact he1) _ 2 (Nat.le_refl _) (by omega) (fun q h1 h2 => by rw [ahead_rest]; exact hall _ (by omega) (by omega))
  unfold nextR
  rw [hp, hp, hn, if_neg (by decide), if_pos (by decide)]
  simp only [Except.ok.injEq, Prod.mk.injEq, true_and]
  omega

theorem steps_tok {t : ByteArray} : ∀ (l : List (Nat × Nat × Nat)) (i : Nat) (op : Bool) (c : Nat) (st : Nat × Bool × Nat), Steps t i op c l st → st.2.2 = c + (l.filter fun x => isTok x.1).length := by
  intro l
  induction l with
  | nil => intro i op c st h; simp only [Steps] at h; subst h; simp
  | cons x l ih =>
    intro i op c st h
    obtain ⟨a1, a2, a3, a4, a5⟩ := h
    have := ih _ _ _ _ a5
    rw [this, List.filter_cons]
    split
    · simp only [List.length_cons]; omega
    · rfl

theorem tv_shift {t u : ByteArray} {i j : Nat} (hr : restB t i = restB u j) : ∀ (l : List (Nat × Nat × Nat)), (∀ x ∈ l, i ≤ x.2.1) → tv u (l.map (shiftP ((j : Int) - (i : Int)))) = tv t l := by
  intro l
  induction l with
  | nil => intro _; rfl
  | cons x l ih =>
    intro hx
    have hi := hx x List.mem_cons_self
    rw [List.map_cons, tv_cons, tv_cons, ih (fun y hy => hx y (List.mem_cons_of_mem _ hy))]
    have : cutB u (shiftP ((j : Int) - (i : Int)) x).2.1 (shiftP ((j : Int) - (i : Int)) x).2.2 = cutB t x.2.1 x.2.2 := by
      simp only [shiftP]
      rw [show ((x.2.1 : Int) + ((j : Int) - (i : Int))).toNat = j + (x.2.1 - i) by omega]
      have e := rest_step hr (x.2.1 - i)
      rw [show i + (x.2.1 - i) = x.2.1 by omega] at e
      unfold cutB
      rw [extract_rest, extract_rest, e]
    rw [this]
    rfl

/-- The pieces behind a gap, whose last byte is a blank at b. -/
theorem gap_post {t u : ByteArray} {l : List (Nat × Nat × Nat)} {b e c c0 : Nat} {op : Bool} {st : Nat × Bool × Nat} (hb : b < u.size) (h32 : aheadB u b = 32) (he : e ≤ t.size) (hr : restB t e = restB u (b + 1)) (h : Steps t e op c0 l st) (hst : st.1 = t.size)
    (hc : c + (l.filter fun x => isTok x.1).length ≤ 6000) : ∃ m op' c', Steps u b op c m (u.size, op', c') ∧ tv u m = tv t l := by
  have hsz := congrArg ByteArray.size hr
  rw [rest_size, rest_size] at hsz
  have hA : ∀ q, aheadB u (b + 1 + q) = aheadB t (e + q) := fun q => by rw [← ahead_rest, ← ahead_rest, hr]
  have hblank : ∀ n, b + 1 ≤ n → n ≤ u.size → (∀ q, b + 1 ≤ q → q < n → bBlank (aheadB u q) = true) → bBlank (aheadB u n) = false → nextR u b op = .ok (7, n - b) := by
    intro n h1 h2 h3 h4
    rw [nx_blank hb (by rw [h32]; decide)]
    unfold blanksN
    rw [run_is h2 h4 _ (b + 1) (Nat.le_refl _) h1 h3]
  by_cases h7 : ∃ x l', l = x :: l' ∧ x.1 = 7
  · obtain ⟨x, l', rfl, h7⟩ := h7
    obtain ⟨a1, a2, a3, a4, a5⟩ := h
    rw [h7] at a3
    obtain ⟨e1, e2⟩ := blank_next a3
    have hbd := next_bounds a1 a3
    simp only at hbd
    have hnt : isTok x.1 = false := by rw [h7]; rfl
    rw [hnt] at a5
    simp only [Bool.false_eq_true, if_false] at a5
    rw [List.filter_cons, hnt, if_neg (by simp)] at hc
    have hstop : bBlank (aheadB t (e + x.2.2)) = false := by
      unfold blanksN at e2
      have hrl := runN_le bBlank t (e + 1) (by omega)
      have he' : e + x.2.2 = runN bBlank t (e + 1) := by omega
      rw [he']
      -- a run ends where the class ends
      have key : ∀ (f k : Nat), t.size - k ≤ f → k ≤ t.size → bBlank (aheadB t (runN bBlank t k)) = false := by
        intro f
        induction f with
        | zero => intro k hf hk; rw [runN_end (by omega), aheadB_ge (by omega)]; decide
        | succ f ih =>
          intro k hf hk
          by_cases hlt : k < t.size
          · cases hp : bBlank t[k] with
            | true => rw [runN_go hlt hp]; exact ih (k + 1) (by omega) (by omega)
            | false => rw [runN_no hlt hp, aheadB_lt hlt]; exact hp
          · rw [runN_end hlt, aheadB_ge (by omega)]; decide
      exact key _ (e + 1) (Nat.le_refl _) (by omega)
    have hnx := hblank (b + 1 + x.2.2) (by omega) (by omega) (fun q h1 h2 => by
      rw [show q = b + 1 + (q - (b + 1)) by omega, hA]
      by_cases e' : q - (b + 1) = 0
      · rw [e', Nat.add_zero]; exact e1
      · unfold blanksN at e2
        exact run_every _ (e + 1) _ (Nat.le_refl _) (by omega) (by omega)) (by rw [hA]; exact hstop)
    obtain ⟨c'', hs⟩ := steps_shift l' (e + x.2.2) (b + 1 + x.2.2) op _ c st a5 (by omega) (by omega) (rest_step hr _) hc
    rw [hst, show t.size + (b + 1 + x.2.2) - (e + x.2.2) = u.size by omega] at hs
    refine ⟨(7, b, b + 1 + x.2.2 - b) :: l'.map (shiftP (((b + 1 + x.2.2 : Nat) : Int) - ((e + x.2.2 : Nat) : Int))), st.2.1, c'', ⟨hb, rfl, hnx, by simp [isTok], ?_⟩, ?_⟩
    · simp only
      rw [show isTok 7 = false from rfl, show b + (b + 1 + x.2.2 - b) = b + 1 + x.2.2 by omega]
      exact hs
    · rw [tv_cons, tv_cons, hnt, tv_shift (rest_step hr _) l' (fun y hy => (steps_in l' _ _ _ _ a5 y hy).1)]
      rfl
  · have hnb : bBlank (aheadB t e) = false := by
      cases hx : bBlank (aheadB t e) with
      | false => rfl
      | true =>
        exfalso
        cases l with
        | nil =>
          simp only [Steps] at h
          subst h
          simp only at hst
          rw [hst, aheadB_ge (by omega)] at hx
          exact absurd hx (by decide)
        | cons x l' =>
          obtain ⟨a1, a2, a3, a4, a5⟩ := h
          rw [nx_blank a1 hx] at a3
          simp only [Except.ok.injEq, Prod.mk.injEq] at a3
          exact h7 ⟨x, l', rfl, a3.1.symm⟩
    have hnx := hblank (b + 1) (Nat.le_refl _) (by omega) (fun q h1 h2 => by omega) (by have := hA 0; rw [Nat.add_zero, Nat.add_zero] at this; rw [this]; exact hnb)
    obtain ⟨c'', hs⟩ := steps_shift l e (b + 1) op _ c st h he (by omega) hr hc
    rw [hst, show t.size + (b + 1) - e = u.size by omega] at hs
    refine ⟨(7, b, b + 1 - b) :: l.map (shiftP (((b + 1 : Nat) : Int) - (e : Int))), st.2.1, c'', ⟨hb, rfl, hnx, by simp [isTok], ?_⟩, ?_⟩
    · simp only
      rw [show isTok 7 = false from rfl, show b + (b + 1 - b) = b + 1 by omega]
      exact hs
    · rw [tv_cons, tv_shift hr l (fun y hy => (steps_in l _ _ _ _ h y hy).1)]
      rfl

/-- What a comment between spaces has from the first k bytes of a string. -/
def midB (f : ByteArray) : Nat → ByteArray
  | 0 => ⟨#[32, 47, 42, 32]⟩
  | k + 1 => if aheadB f k = 42 ∨ aheadB f k = 47 then midB f k else midB f k ++ f.extract k (k + 1)
def gapB (f : ByteArray) : ByteArray := midB f (min f.size 40) ++ ⟨#[32, 42, 47, 32]⟩

theorem ahead_left {x y : ByteArray} {q : Nat} (h : q < x.size) : aheadB (x ++ y) q = aheadB x q := by
  rw [aheadB_lt h, aheadB_lt (by rw [ByteArray.size_append]; omega), ByteArray.getElem_append_left h]
theorem ahead_right {x y : ByteArray} {q : Nat} : aheadB (x ++ y) (x.size + q) = aheadB y q := by
  by_cases h : q < y.size
  · rw [aheadB_lt h, aheadB_lt (by rw [ByteArray.size_append]; omega), ByteArray.getElem_append_right (by omega)]
    congr 1; omega
  · rw [aheadB_ge (t := y) (by omega), aheadB_ge (by rw [ByteArray.size_append]; omega)]
theorem ahead_three {x y z : ByteArray} {q : Nat} (h : q < y.size) : aheadB (x ++ y ++ z) (x.size + q) = aheadB y q := by
  rw [ahead_left (x := x ++ y) (by rw [ByteArray.size_append]; omega)]
  exact ahead_right
theorem mid_facts (f : ByteArray) : ∀ k, k ≤ f.size → 4 ≤ (midB f k).size ∧ (midB f k).size ≤ 4 + k ∧ aheadB (midB f k) 0 = 32 ∧ aheadB (midB f k) 1 = 47 ∧ aheadB (midB f k) 2 = 42 ∧ ∀ q, 3 ≤ q → q < (midB f k).size → aheadB (midB f k) q ≠ 42 ∧ aheadB (midB f k) q ≠ 47
  | 0, _ => by
    refine ⟨Nat.le_refl 4, Nat.le_refl 4, rfl, rfl, rfl, fun q h1 h2 => ?_⟩
    have hs : (midB f 0).size = 4 := rfl
    have : q = 3 := by omega
    subst this
    exact ⟨by show aheadB ⟨#[32, 47, 42, 32]⟩ 3 ≠ 42; decide, by show aheadB ⟨#[32, 47, 42, 32]⟩ 3 ≠ 47; decide⟩
  | k + 1, hk => by
    obtain ⟨h1, h2, h3, h4, h5, h6⟩ := mid_facts f k (by omega)
    unfold midB
    split
    · exact ⟨h1, by omega, h3, h4, h5, h6⟩
    · rename_i hc
      have hs : (midB f k ++ f.extract k (k + 1)).size = (midB f k).size + 1 := by rw [ByteArray.size_append, ByteArray.size_extract]; omega
      refine ⟨by omega, by omega, by rw [ahead_left (by omega)]; exact h3, by rw [ahead_left (by omega)]; exact h4, by rw [ahead_left (by omega)]; exact h5, fun q hq1 hq2 => ?_⟩
      by_cases e : q < (midB f k).size
      · rw [ahead_left e]; exact h6 q hq1 e
      · have : q = (midB f k).size + 0 := by omega
        rw [this, ahead_right, ahead_part (by omega) (by omega), Nat.add_zero]
        exact ⟨fun e => hc (Or.inl e), fun e => hc (Or.inr e)⟩

set_option maxHeartbeats 2000000 in
theorem gap_all {t f : ByteArray} {k : Nat} {x : Nat × Nat × Nat} (hok : (piecesR t).2.2 = 0) (hsz : t.size ≤ 19800) (hx : (piecesR t).1[k]? = some x) (d : Nat) (hd : d = if 7 ≤ x.1 then x.2.2 else 0)
    (hline : ∀ y, 0 < k → (piecesR t).1[k - 1]? = some y → y.1 = 8 → aheadB t (y.2.1 + 1) ≠ 47) :
    x.2.1 + d ≤ t.size ∧ (piecesR (t.extract 0 x.2.1 ++ gapB f ++ t.extract (x.2.1 + d) t.size)).2.2 = 0 ∧
      tv (t.extract 0 x.2.1 ++ gapB f ++ t.extract (x.2.1 + d) t.size) (piecesR (t.extract 0 x.2.1 ++ gapB f ++ t.extract (x.2.1 + d) t.size)).1 = tv t (piecesR t).1 := by
  have hall : (cutAll t).2 = none ∧ (piecesR t).1 = (cutAll t).1 := by
    unfold piecesR at hok ⊢
    rw [if_neg (by omega)] at hok ⊢
    cases hc : (cutAll t).2 with
    | none => exact ⟨rfl, rfl⟩
    | some p => rw [hc] at hok; exact absurd hok (cutF_err t _ _ _ _ p hc)
  rw [hall.2] at hx hline ⊢
  obtain ⟨opT, cT, hst⟩ := cutF_steps (t.size + 1) 0 false 0 (by omega) (by omega) hall.1
  change Steps t 0 false 0 (cutAll t).1 (t.size, opT, cT) at hst
  obtain ⟨L, hL⟩ : ∃ L, L = (cutAll t).1 := ⟨_, rfl⟩
  rw [← hL] at hx hline hst ⊢
  clear hL hall hok
  have hklt := (List.getElem?_eq_some_iff.1 hx).1
  have hxe : L[k] = x := (List.getElem?_eq_some_iff.1 hx).2
  have hst' := hst
  rw [← List.take_append_drop k L] at hst'
  obtain ⟨⟨a, op, c⟩, s1, s2⟩ := steps_split _ _ _ _ _ _ hst'
  rw [List.drop_eq_getElem_cons hklt, hxe] at s2
  obtain ⟨b1, b2, b3, b4, b5⟩ := s2
  simp only at b1 b2 b3 b4 b5
  have hbd := next_bounds b1 b3
  simp only at hbd
  have hdle : x.2.1 + d ≤ t.size := by rw [hd]; split <;> omega
  rw [b2] at hdle ⊢
  refine ⟨hdle, ?_⟩
  have hcT := steps_tok _ _ _ _ _ hst
  have hc1 := steps_tok _ _ _ _ _ s1
  have hc2 := steps_tok _ _ _ _ _ b5
  have hmost : cT ≤ 6000 := by
    have key : ∀ (l : List (Nat × Nat × Nat)) (i : Nat) (op : Bool) (c : Nat) (st : Nat × Bool × Nat), Steps t i op c l st → c ≤ 6000 → st.2.2 ≤ 6000 := by
      intro l
      induction l with
      | nil => intro i op c st h hc; simp only [Steps] at h; subst h; exact hc
      | cons y l ih =>
        intro i op c st h hc
        obtain ⟨a1, a2, a3, a4, a5⟩ := h
        refine ih _ _ _ _ a5 ?_
        split
        · next ht => simp only [ht, true_and] at a4; omega
        · exact hc
    exact key _ _ _ _ _ hst (by omega)
  simp only at hc1 hc2 hcT
  -- the second text
  obtain ⟨g, hg⟩ : ∃ g, g = gapB f := ⟨_, rfl⟩
  obtain ⟨n, hn⟩ : ∃ n, n = (midB f (min f.size 40)).size := ⟨_, rfl⟩
  obtain ⟨m1, m2, m3, m4, m5, m6⟩ := mid_facts f (min f.size 40) (by omega)
  rw [← hn] at m1 m2 m6
  have hgs : g.size = n + 4 := by rw [hg, gapB, ByteArray.size_append, ← hn]; rfl
  have g0 : aheadB g 0 = 32 := by rw [hg, gapB, ahead_left (by omega)]; exact m3
  have g1 : aheadB g 1 = 47 := by rw [hg, gapB, ahead_left (by omega)]; exact m4
  have g2 : aheadB g 2 = 42 := by rw [hg, gapB, ahead_left (by omega)]; exact m5
  have g3 : ∀ q, 3 ≤ q → q < n + 1 → aheadB g q ≠ 42 ∧ aheadB g q ≠ 47 := by
    intro q h1 h2
    by_cases e : q < n
    · rw [hg, gapB, ahead_left (by omega)]; exact m6 q h1 e
    · rw [hg, gapB, show q = (midB f (min f.size 40)).size + 0 by omega, ahead_right]; decide
  have g4 : aheadB g (n + 1) = 42 := by rw [hg, gapB, show n + 1 = (midB f (min f.size 40)).size + 1 by omega, ahead_right]; decide
  have g5 : aheadB g (n + 2) = 47 := by rw [hg, gapB, show n + 2 = (midB f (min f.size 40)).size + 2 by omega, ahead_right]; decide
  have g6 : aheadB g (n + 3) = 32 := by rw [hg, gapB, show n + 3 = (midB f (min f.size 40)).size + 3 by omega, ahead_right]; decide
  rw [← hg]
  have hus := splice_size t g a d hdle
  have hA := splice_ahead t g a d hdle
  have hR := splice_behind t g a d (a + d) hdle (Nat.le_refl _) hdle
  have hin : ∀ q, q < g.size → aheadB (t.extract 0 a ++ g ++ t.extract (a + d) t.size) (a + q) = aheadB g q := by
    intro q hq
    have h3 := ahead_three (x := t.extract 0 a) (y := g) (z := t.extract (a + d) t.size) hq
    rw [show (t.extract 0 a).size = a by rw [ByteArray.size_extract]; omega] at h3
    exact h3
  obtain ⟨u, hu⟩ : ∃ u, u = t.extract 0 a ++ g ++ t.extract (a + d) t.size := ⟨_, rfl⟩
  rw [← hu] at hus hA hR hin ⊢
  rw [show a + d + g.size - d = a + (n + 3) + 1 by omega] at hR
  have u0 := hin 0 (by omega)
  rw [Nat.add_zero, g0] at u0
  have u1 := hin 1 (by omega); rw [g1] at u1
  have u2 := hin 2 (by omega); rw [g2] at u2
  have u4 := hin (n + 1) (by omega); rw [g4] at u4
  have u5 := hin (n + 2) (by omega); rw [g5] at u5
  have u6 := hin (n + 3) (by omega); rw [g6] at u6
  obtain ⟨p, hp1, hp2⟩ := gap_pre s1 hA u0 u1 (by omega) (fun y hy h8 => by
    have hk0 : 0 < k := by
      apply Nat.pos_of_ne_zero; intro e; subst e; simp at hy
    refine hline y hk0 ?_ h8
    rw [List.getLast?_eq_getElem?, List.length_take, List.getElem?_take] at hy
    split at hy
    · rw [show min k L.length - 1 = k - 1 by omega] at hy; exact hy
    · cases hy)
  have hmid : nextR u (a + 1) op = .ok (8, n + 2) := by
    rw [gap_mid (e := a + (n + 1)) u1 (by rw [show a + 1 + 1 = a + 2 by omega]; exact u2) u4 (by rw [show a + (n + 1) + 1 = a + (n + 2) by omega]; exact u5) (by omega) (by omega) (fun q h1 h2 => by
      rw [show q = a + (q - a) by omega, hin _ (by omega)]; exact g3 _ (by omega) (by omega)), show a + (n + 1) + 2 - (a + 1) = n + 2 by omega]
  -- the pieces behind
  have hpost : ∃ (l : List (Nat × Nat × Nat)) (c0 : Nat), Steps t (a + d) op c0 l (t.size, opT, cT) ∧ tv t L = tv t (L.take k) ++ tv t l ∧ c + (l.filter fun x => isTok x.1).length ≤ 6000 := by
    by_cases h7 : 7 ≤ x.1
    · rw [if_pos h7] at hd
      have hnt : isTok x.1 = false := by simp [isTok]; omega
      rw [hnt] at b5 hc2
      simp only [Bool.false_eq_true, if_false] at b5 hc2
      refine ⟨L.drop (k + 1), c, by rw [hd]; exact b5, ?_, by omega⟩
      conv => lhs; rw [← List.take_append_drop k L, List.drop_eq_getElem_cons hklt, hxe, tv_append, tv_cons, hnt]
      rfl
    · rw [if_neg h7] at hd
      refine ⟨L.drop k, c, ?_, ?_, ?_⟩
      · rw [List.drop_eq_getElem_cons hklt, hxe, hd]; exact ⟨b1, b2, b3, b4, b5⟩
      · conv => lhs; rw [← List.take_append_drop k L, tv_append]
      · have : (L.filter fun x => isTok x.1).length = ((L.take k).filter fun x => isTok x.1).length + ((L.drop k).filter fun x => isTok x.1).length := by
          conv => lhs; rw [← List.take_append_drop k L, List.filter_append, List.length_append]
        omega
  obtain ⟨l, c0, hl1, hl2, hl3⟩ := hpost
  obtain ⟨r, op', c', hr1, hr2⟩ := gap_post (b := a + (n + 3)) (by omega) u6 hdle hR hl1 rfl hl3
  have hmids : Steps u (a + 1) op c [(8, a + 1, n + 2)] (a + (n + 3), op, c) := by
    refine ⟨by omega, rfl, hmid, by simp [isTok], ?_⟩
    rw [show isTok (8, a + 1, n + 2).1 = false from rfl]
    simp only [Steps, Bool.false_eq_true, if_false]
    rw [show a + 1 + (n + 2) = a + (n + 3) by omega]
  have hfin := steps_append _ _ _ _ _ _ _ (steps_append _ _ _ _ _ _ _ hp1 hmids) hr1
  have hcut := cutAll_done hfin
  have hpu : piecesR u = (p ++ [(8, a + 1, n + 2)] ++ r, 0, 0) := by
    unfold piecesR
    rw [if_neg (by omega), hcut]
  rw [hpu]
  refine ⟨rfl, ?_⟩
  simp only
  rw [tv_append, tv_append, hp2, hr2, hl2, tv_cons]
  simp [isTok, tv]
end Go.Proofs.YtledmagigkpbeaaDoor
