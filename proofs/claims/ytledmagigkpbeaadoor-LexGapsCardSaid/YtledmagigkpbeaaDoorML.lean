/-
  What a rule takes of a text's beginning it takes of the whole text (for the law of the longest token); nothing of a program is imported here.
-/
import Derived.Test.YtledmagigkpbeaaDoorMath5
namespace Go.Proofs.YtledmagigkpbeaaDoor

theorem agree_at {s u : ByteArray} {N k : Nat} (h : Agree s u N) (hk : k < N) (h1 : k < s.size) (h2 : k < u.size) : s[k] = u[k] := by
  have := h.eq k hk
  rwa [aheadB_lt h1, aheadB_lt h2] at this

/-- A run of a beginning is no longer than the whole text's. -/
theorem run_mono {s u : ByteArray} (h : Agree s u s.size) (p : UInt8 → Bool) : ∀ (f k : Nat), s.size - k ≤ f → k ≤ s.size → runN p s k ≤ runN p u k := by
  have hb := h.b
  intro f
  induction f with
  | zero => intro k hf hk; rw [runN_end (by omega)]; exact (runN_le p u k (by omega)).1
  | succ f ih =>
    intro k hf hk
    by_cases hlt : k < s.size
    · have he := agree_at h hlt hlt (by omega)
      cases hp : p s[k] with
      | true => rw [runN_go hlt hp, runN_go (s := u) (k := k) (by omega) (by rw [← he]; exact hp)]; exact ih _ (by omega) (by omega)
      | false => rw [runN_no hlt hp]; exact (runN_le p u k (by omega)).1
    · rw [runN_end hlt]; exact (runN_le p u k (by omega)).1

theorem plainGo_ge (u : ByteArray) : ∀ (f i : Nat) (has : Bool) (b : Nat), u.size - i ≤ f → b ≤ i → b ≤ plainGo u i has b := by
  intro f
  induction f with
  | zero => intro i has b hf hb; rw [plainGo_end (by omega)]; exact Nat.le_refl _
  | succ f ih =>
    intro i has b hf hb
    by_cases hlt : i < u.size
    · cases hp : bW u[i] with
      | false => rw [plainGo_no hlt hp]; exact Nat.le_refl _
      | true =>
        rw [plainGo_go hlt hp]
        by_cases hc : ((has || bL u[i]) && bF u[i]) = true
        · rw [if_pos hc]; have := ih (i + 1) (has || bL u[i]) (i + 1) (by omega) (by omega); omega
        · rw [if_neg hc]; exact ih (i + 1) _ b (by omega) (by omega)
    · rw [plainGo_end hlt]; exact Nat.le_refl _

theorem plainGo_mono {s u : ByteArray} (h : Agree s u s.size) : ∀ (f i : Nat) (has : Bool) (b : Nat), s.size - i ≤ f → i ≤ s.size → b ≤ i → plainGo s i has b ≤ plainGo u i has b := by
  have hb := h.b
  intro f
  induction f with
  | zero => intro i has b hf hi hbi; rw [plainGo_end (by omega)]; exact plainGo_ge u _ i has b (Nat.le_refl _) hbi
  | succ f ih =>
    intro i has b hf hi hbi
    by_cases hlt : i < s.size
    · have he := agree_at h hlt hlt (by omega)
      cases hp : bW s[i] with
      | false => rw [plainGo_no hlt hp]; exact plainGo_ge u _ i has b (Nat.le_refl _) hbi
      | true =>
        rw [plainGo_go hlt hp, plainGo_go (s := u) (by omega) (by rw [← he]; exact hp), ← he]
        exact ih _ _ _ (by omega) (by omega) (by split <;> omega)
    · rw [plainGo_end hlt]; exact plainGo_ge u _ i has b (Nat.le_refl _) hbi

/-- Where a byte of the beginning ends the walk, the whole text's walk is the same. -/
theorem plainGo_stop {s u : ByteArray} (h : Agree s u s.size) : ∀ (f i : Nat) (has : Bool) (b : Nat), s.size - i ≤ f → runN bW s i < s.size → plainGo u i has b = plainGo s i has b := by
  have hb := h.b
  intro f
  induction f with
  | zero => intro i has b hf hr; rw [runN_end (by omega)] at hr; omega
  | succ f ih =>
    intro i has b hf hr
    by_cases hlt : i < s.size
    · have he := agree_at h hlt hlt (by omega)
      cases hp : bW s[i] with
      | false => rw [plainGo_no hlt hp, plainGo_no (s := u) (by omega) (by rw [← he]; exact hp)]
      | true =>
        rw [runN_go hlt hp] at hr
        rw [plainGo_go hlt hp, plainGo_go (s := u) (by omega) (by rw [← he]; exact hp), ← he]
        exact ih _ _ _ (by omega) hr
    · rw [runN_end hlt] at hr; omega

theorem plain_mono {s u : ByteArray} (h : Agree s u s.size) : plainN s ≤ plainN u := by
  have hb := h.b
  unfold plainN
  by_cases h0 : 0 < s.size
  · have he := agree_at h h0 h0 (by omega)
    rw [dif_pos h0, dif_pos (by omega), ← he]
    split
    · exact plainGo_mono h _ 0 false 0 (Nat.le_refl _) (by omega) (by omega)
    · omega
  · rw [dif_neg h0]; omega

theorem plain_stop {s u : ByteArray} (h : Agree s u s.size) (hr : runN bW s 0 < s.size) : plainN u = plainN s := by
  have hb := h.b
  have h0 : 0 < s.size := by omega
  have he := agree_at h h0 h0 (by omega)
  unfold plainN
  rw [dif_pos h0, dif_pos (by omega), ← he, plainGo_stop h _ 0 false 0 (Nat.le_refl _) hr]

/-- A run ends at the latest where a byte is not of its class. -/
theorem run_to {p : UInt8 → Bool} {s : ByteArray} : ∀ (f k q : Nat), q - k ≤ f → k ≤ q → (hq : q < s.size) → p s[q] = false → runN p s k ≤ q := by
  intro f
  induction f with
  | zero => intro k q hf hk hq hp; have : k = q := by omega
            subst this; rw [runN_no hq hp]; exact Nat.le_refl _
  | succ f ih =>
    intro k q hf hk hq hp
    by_cases e : k = q
    · subst e; rw [runN_no hq hp]; exact Nat.le_refl _
    · have hlt : k < s.size := by omega
      cases hc : p s[k] with
      | true => rw [runN_go hlt hc]; exact ih _ _ (by omega) (by omega) hq hp
      | false => rw [runN_no hlt hc]; omega

theorem lib_mono {s u : ByteArray} (h : Agree s u s.size) : libN s ≤ libN u := by
  have hb := h.b
  unfold libN
  by_cases h1 : 1 < s.size
  · have e0 := agree_at h (k := 0) (by omega) (by omega) (by omega)
    have e1 := agree_at h h1 h1 (by omega)
    rw [dif_pos h1, dif_pos (by omega), ← e0, ← e1]
    split
    · split
      · exact run_mono h bQ _ 1 (Nat.le_refl _) (by omega)
      · omega
    · omega
  · rw [dif_neg h1]; omega

theorem agree_rest {s u : ByteArray} (h : Agree s u s.size) (n : Nat) : Agree (restB s n) (restB u n) (restB s n).size := by
  have := h.rest n
  rwa [← rest_size] at this

/-- A beginning that is a name as a whole: the whole text's name is no shorter. -/
theorem name_full {s u : ByteArray} (h : Agree s u s.size) (h0 : 0 < s.size) (hf : nameN s = s.size) : s.size ≤ nameN u := by
  have hb := h.b
  unfold nameN at hf
  by_cases hz : plainN s = 0
  · rw [if_pos hz] at hf; omega
  · rw [if_neg hz] at hf
    have hm := plain_mono h
    have hu : nameN u = plainN u + libN (restB u (plainN u)) := by unfold nameN; rw [if_neg (by omega)]; rfl
    change plainN s + libN (restB s (plainN s)) = s.size at hf
    by_cases hl : libN (restB s (plainN s)) = 0
    · omega
    · have hs := rest_size s (plainN s)
      have h64 : 1 < (restB s (plainN s)).size ∧ aheadB (restB s (plainN s)) 0 = 64 := by
        unfold libN at hl
        by_cases h1 : 1 < (restB s (plainN s)).size
        · rw [dif_pos h1] at hl
          refine ⟨h1, ?_⟩
          rw [aheadB_lt (by omega)]
          by_cases hc : (restB s (plainN s))[0] = 64
          · exact hc
          · rw [if_neg hc] at hl; exact absurd rfl hl
        · rw [dif_neg h1] at hl; exact absurd rfl hl
      have hq : plainN s < s.size := by omega
      have h64' : s[plainN s] = 64 := by have := h64.2; rw [ahead_rest, Nat.add_zero, aheadB_lt hq] at this; exact this
      have hr := run_to (p := bW) _ 0 (plainN s) (Nat.le_refl _) (by omega) hq (by rw [h64']; decide)
      have he := plain_stop h (by omega)
      rw [hu, he]
      have := lib_mono (agree_rest h (plainN s))
      omega

theorem int_full {s u : ByteArray} (h : Agree s u s.size) (c : UInt8) (op : Bool) (hop : op = true → (c == 45) = false) : intN s c false ≤ intN u c op := by
  unfold intN
  cases hc : (c == 45) with
  | false =>
    rw [Bool.false_and, Bool.false_and, if_neg (by simp), if_neg (by simp)]
    exact run_mono (agree_rest h 0) bD _ 0 (Nat.le_refl _) (by omega)
  | true =>
    have ho : op = false := by cases op with | false => rfl | true => rw [hop rfl] at hc; exact absurd hc (by simp)
    subst ho
    rw [Bool.true_and, Bool.not_false, if_pos rfl, if_pos rfl]
    have := run_mono (agree_rest h 1) bD _ 0 (Nat.le_refl _) (by omega)
    change (if runN bD (restB s 1) 0 = 0 then 0 else 1 + runN bD (restB s 1) 0) ≤ (if runN bD (restB u 1) 0 = 0 then 0 else 1 + runN bD (restB u 1) 0)
    split
    · omega
    · rw [if_neg (by omega)]; omega

theorem sign_full {s u : ByteArray} (h : Agree s u s.size) (h2 : 2 ≤ s.size) (hf : signN s = s.size) : s.size ≤ signN u := by
  have hb := h.b
  unfold signN at hf ⊢
  have e : u.extract 0 (min 2 u.size) = s.extract 0 (min 2 s.size) := by
    rw [show min 2 u.size = 2 by omega, show min 2 s.size = 2 by omega]; exact (h.ext (a := 0) h2).symm
  rw [e]
  split at hf
  · rename_i hx; rw [if_pos hx]; omega
  · split at hf <;> omega

theorem hash_full {s u : ByteArray} (h : Agree s u s.size) (h2 : 2 ≤ s.size) (hf : hashN s = s.size) : s.size ≤ hashN u := by
  unfold hashN at hf ⊢
  rw [← prefix_two 35 116 _ _ (h.list 0 (by omega)) (h.list 1 (by omega)), ← prefix_two 35 102 _ _ (h.list 0 (by omega)) (h.list 1 (by omega))]
  split at hf
  · rename_i hx; rw [if_pos hx]; omega
  · omega
end Go.Proofs.YtledmagigkpbeaaDoor
