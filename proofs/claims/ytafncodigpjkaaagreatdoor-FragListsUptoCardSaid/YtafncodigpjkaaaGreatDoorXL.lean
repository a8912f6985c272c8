/-
  What the reference's patterns take: the lexer's own lengths (models only).
  What each of the reference's rules takes (models only).
  What each of the reference's rules takes: keywords, pattern variables, integers, hash words (models only).
  The reference's best rule is the lexer's (models only).
  The reference's best rule is the lexer's: kind by kind (models only).
  The reference's best rule is the lexer's (models only).
  Where a hash begins (models only).
-/
import Derived.Test.YtafncodigpjkaaaGreatDoorXJ
import Derived.Test.YtafncodigpjkaaaGreatDoorXA
import Derived.Test.YtafncodigpjkaaaGreatDoorXQ
namespace Go.Proofs.YtafncodigpjkaaaGreatDoor
section

theorem one_iff {m : UInt8 → Bool} {s : ByteArray} {f : Nat → Bool} : ∀ {i : Nat}, toOne m s f i = true ↔ ∃ j, i = j + 1 ∧ f j = true ∧ m (aheadB s j) = true
  | 0 => by simp [toOne]
  | i + 1 => by
    rw [toOne, Bool.and_eq_true]
    constructor
    · rintro ⟨h1, h2⟩; exact ⟨i, rfl, h1, h2⟩
    · rintro ⟨j, hj, h1, h2⟩
      obtain rfl : i = j := by omega
      exact ⟨h1, h2⟩
theorem star_iff {m : UInt8 → Bool} {s : ByteArray} {f : Nat → Bool} : ∀ {i : Nat}, toStar m s f i = true ↔ ∃ j, j ≤ i ∧ f j = true ∧ ∀ q, j ≤ q → q < i → m (aheadB s q) = true
  | 0 => by
    rw [toStar]
    constructor
    · intro h; exact ⟨0, Nat.le_refl _, h, fun q h1 h2 => by omega⟩
    · rintro ⟨j, hj, h, _⟩
      obtain rfl : j = 0 := by omega
      exact h
  | i + 1 => by
    rw [toStar, Bool.or_eq_true, Bool.and_eq_true, star_iff (i := i)]
    constructor
    · rintro (h | ⟨⟨j, hj, h, ha⟩, hm⟩)
      · exact ⟨i + 1, Nat.le_refl _, h, fun q h1 h2 => by omega⟩
      · refine ⟨j, by omega, h, fun q h1 h2 => ?_⟩
        by_cases e : q = i
        · rw [e]; exact hm
        · exact ha q h1 (by omega)
    · rintro ⟨j, hj, h, ha⟩
      by_cases e : j = i + 1
      · subst e; exact Or.inl h
      · exact Or.inr ⟨⟨j, by omega, h, fun q h1 h2 => ha q h1 (by omega)⟩, ha i (by omega) (by omega)⟩
theorem init_iff {i : Nat} : initF i = true ↔ i = 0 := by simp [initF]

/-- The classes are the lexer's. -/
theorem mem_L : memB 76 = bL := by funext c; simp [memB]
theorem mem_D : memB 68 = bD := by funext c; simp [memB]
theorem mem_B : memB 66 = bB := by funext c; simp [memB, bB]
theorem mem_F : memB 70 = bF := by funext c; simp [memB, bF]
theorem mem_Q : memB 81 = bQ := by funext c; simp [memB, bQ]
theorem mem_A (c : UInt8) : memB 65 c = (bL c || bD c) := by simp [memB]
theorem mem_self {k : UInt8} (h : k ≠ 76 ∧ k ≠ 68 ∧ k ≠ 87 ∧ k ≠ 70 ∧ k ≠ 66 ∧ k ≠ 81 ∧ k ≠ 65) (c : UInt8) : memB k c = true ↔ c = k := by
  obtain ⟨h1, h2, h3, h4, h5, h6, h7⟩ := h
  unfold memB
  rw [if_neg h1, if_neg h2, if_neg h3, if_neg h4, if_neg h5, if_neg h6, if_neg h7, beq_iff_eq]
  constructor
  · intro e; apply UInt8.toNat_inj.1; exact Int.ofNat.inj e
  · rintro rfl; rfl
set_option maxRecDepth 100000 in
theorem mem_W : memB 87 = bW := by
  have h : ∀ n : Fin 256, memB 87 (UInt8.ofNat n.val) = bW (UInt8.ofNat n.val) := by decide +kernel
  funext c
  have := h ⟨c.toNat, c.toNat_lt⟩
  simpa using this
set_option maxRecDepth 100000 in
theorem class_facts : ∀ n : Fin 256, (bL (UInt8.ofNat n.val) = true → bF (UInt8.ofNat n.val) = true) ∧ (bF (UInt8.ofNat n.val) = true → bW (UInt8.ofNat n.val) = true) ∧ (bB (UInt8.ofNat n.val) = true → bW (UInt8.ofNat n.val) = true ∧ bL (UInt8.ofNat n.val) = false) := by decide +kernel
theorem L_F {c : UInt8} (h : bL c = true) : bF c = true := by have := (class_facts ⟨c.toNat, c.toNat_lt⟩).1; simp at this; exact this h
theorem F_W {c : UInt8} (h : bF c = true) : bW c = true := by have := (class_facts ⟨c.toNat, c.toNat_lt⟩).2.1; simp at this; exact this h
theorem B_W {c : UInt8} (h : bB c = true) : bW c = true := by have := (class_facts ⟨c.toNat, c.toNat_lt⟩).2.2; simp at this; exact (this h).1
/-- From a to i a plain name stands. -/
structure PlainAt (s : ByteArray) (a i : Nat) : Prop where
  lt : a < i
  first : (bL (aheadB s a) || bB (aheadB s a)) = true
  all : ∀ q, a ≤ q → q < i → bW (aheadB s q) = true
  letter : ∃ q, a ≤ q ∧ q < i ∧ bL (aheadB s q) = true
  last : bF (aheadB s (i - 1)) = true

/-- The four patterns of plain names, one after a set of places. -/
def plainF (s : ByteArray) (f : Nat → Bool) : Nat → Nat → Bool
  | 0 => toOne bL s f
  | 1 => toOne bF s (toStar bW s (toOne bL s f))
  | 2 => toOne bL s (toStar bW s (toOne bB s f))
  | _ => toOne bF s (toStar bW s (toOne bL s (toStar bW s (toOne bB s f))))

theorem plainF_at {s : ByteArray} {f : Nat → Bool} {k i : Nat} (h : plainF s f k i = true) : ∃ a, f a = true ∧ PlainAt s a i := by
  unfold plainF at h
  split at h
  · obtain ⟨j, rfl, hf, hl⟩ := one_iff.1 h
    exact ⟨j, hf, ⟨by omega, by rw [hl]; rfl, fun q h1 h2 => by rw [show q = j by omega]; exact F_W (L_F hl), ⟨j, Nat.le_refl _, by omega, hl⟩, by rw [Nat.add_sub_cancel]; exact L_F hl⟩⟩
  · obtain ⟨j, rfl, hs, hF⟩ := one_iff.1 h
    obtain ⟨b, hb, h1, hW⟩ := star_iff.1 hs
    obtain ⟨a, rfl, hf, hl⟩ := one_iff.1 h1
    refine ⟨a, hf, ⟨by omega, by rw [hl]; rfl, fun q q1 q2 => ?_, ⟨a, Nat.le_refl _, by omega, hl⟩, by rw [Nat.add_sub_cancel]; exact hF⟩⟩
    by_cases e : q = a
    · rw [e]; exact F_W (L_F hl)
    · by_cases e2 : q = j
      · rw [e2]; exact F_W hF
      · exact hW q (by omega) (by omega)
  · obtain ⟨j, rfl, hs, hL⟩ := one_iff.1 h
    obtain ⟨b, hb, h1, hW⟩ := star_iff.1 hs
    obtain ⟨a, rfl, hf, hB⟩ := one_iff.1 h1
    refine ⟨a, hf, ⟨by omega, by rw [hB]; simp, fun q q1 q2 => ?_, ⟨j, by omega, by omega, hL⟩, by rw [Nat.add_sub_cancel]; exact L_F hL⟩⟩
    by_cases e : q = a
    · rw [e]; exact B_W hB
    · by_cases e2 : q = j
      · rw [e2]; exact F_W (L_F hL)
      · exact hW q (by omega) (by omega)
  · obtain ⟨j, rfl, hs, hF⟩ := one_iff.1 h
    obtain ⟨b, hb, h1, hW⟩ := star_iff.1 hs
    obtain ⟨l, rfl, h2, hL⟩ := one_iff.1 h1
    obtain ⟨d, hd, h3, hW2⟩ := star_iff.1 h2
    obtain ⟨a, rfl, hf, hB⟩ := one_iff.1 h3
    refine ⟨a, hf, ⟨by omega, by rw [hB]; simp, fun q q1 q2 => ?_, ⟨l, by omega, by omega, hL⟩, by rw [Nat.add_sub_cancel]; exact hF⟩⟩
    by_cases e : q = a
    · rw [e]; exact B_W hB
    · by_cases e2 : q = j
      · rw [e2]; exact F_W hF
      · by_cases e3 : q = l
        · rw [e3]; exact F_W (L_F hL)
        · by_cases e4 : q < l
          · exact hW2 q (by omega) e4
          · exact hW q (by omega) (by omega)
theorem at_plainF {s : ByteArray} {f : Nat → Bool} {a i : Nat} (hf : f a = true) (h : PlainAt s a i) : ∃ k, k < 4 ∧ plainF s f k i = true := by
  obtain ⟨h1, h2, h3, ⟨l, l1, l2, l3⟩, h5⟩ := h
  by_cases hL : bL (aheadB s a) = true
  · by_cases e : i = a + 1
    · exact ⟨0, by omega, one_iff.2 ⟨a, e, hf, hL⟩⟩
    · exact ⟨1, by omega, one_iff.2 ⟨i - 1, by omega, star_iff.2 ⟨a + 1, by omega, one_iff.2 ⟨a, rfl, hf, hL⟩, fun q q1 q2 => h3 q (by omega) (by omega)⟩, h5⟩⟩
  · have hB : bB (aheadB s a) = true := by
      rw [Bool.or_eq_true] at h2
      rcases h2 with h | h
      · exact absurd h hL
      · exact h
    have hla : l ≠ a := by rintro rfl; exact hL l3
    by_cases e : l = i - 1
    · refine ⟨2, by omega, one_iff.2 ⟨i - 1, by omega, star_iff.2 ⟨a + 1, by omega, one_iff.2 ⟨a, rfl, hf, hB⟩, fun q q1 q2 => h3 q (by omega) (by omega)⟩, ?_⟩⟩
      rw [← e]; exact l3
    · refine ⟨3, by omega, one_iff.2 ⟨i - 1, by omega, star_iff.2 ⟨l + 1, by omega, one_iff.2 ⟨l, rfl, star_iff.2 ⟨a + 1, by omega, one_iff.2 ⟨a, rfl, hf, hB⟩, fun q q1 q2 => h3 q (by omega) (by omega)⟩, l3⟩, fun q q1 q2 => h3 q (by omega) (by omega)⟩, h5⟩⟩

/-- The longest plain name. -/
theorem plainGo_spec (s : ByteArray) : ∀ (d i : Nat) (has : Bool) (b : Nat), s.size - i ≤ d → i ≤ s.size → b ≤ i →
    (∀ n, n > b → n > i → (∀ q, i ≤ q → q < n → q < s.size ∧ bW (aheadB s q) = true) → (has = true ∨ ∃ q, i ≤ q ∧ q < n ∧ bL (aheadB s q) = true) → bF (aheadB s (n - 1)) = true → n ≤ plainGo s i has b) ∧
    (plainGo s i has b = b ∨ (i < plainGo s i has b ∧ plainGo s i has b ≤ s.size ∧ (∀ q, i ≤ q → q < plainGo s i has b → bW (aheadB s q) = true) ∧ (has = true ∨ ∃ q, i ≤ q ∧ q < plainGo s i has b ∧ bL (aheadB s q) = true) ∧ bF (aheadB s (plainGo s i has b - 1)) = true)) := by
  intro d
  induction d with
  | zero =>
    intro i has b hd hi hb
    rw [plainGo_end (by omega)]
    exact ⟨fun n h1 h2 h3 _ _ => by have := (h3 i (Nat.le_refl _) h2).1; omega, Or.inl rfl⟩
  | succ d ih =>
    intro i has b hd hi hb
    by_cases hlt : i < s.size
    · have hai := aheadB_lt hlt
      cases hp : bW s[i] with
      | false =>
        rw [plainGo_no hlt hp]
        exact ⟨fun n h1 h2 h3 _ _ => by (have := (h3 i (Nat.le_refl _) h2).2; rw [hai, hp] at this; exact absurd this (by simp)), Or.inl rfl⟩
      | true =>
        rw [plainGo_go hlt hp]
        obtain ⟨ih1, ih2⟩ := ih (i + 1) (has || bL s[i]) (if (has || bL s[i]) && bF s[i] then i + 1 else b) (by omega) (by omega) (by split <;> omega)
        constructor
        · intro n h1 h2 h3 h4 h5
          by_cases e : n = i + 1
          · have hh : (has || bL s[i]) = true := by
              rcases h4 with h | ⟨q, q1, q2, q3⟩
              · rw [h]; rfl
              · rw [show q = i by omega, hai] at q3; rw [q3]; simp
            have hF : bF s[i] = true := by rw [e, Nat.add_sub_cancel, hai] at h5; exact h5
            rw [hh, hF, if_pos (by rfl), e]
            exact plainGo_ge s _ _ _ _ (Nat.le_refl _) (Nat.le_refl _)
          · refine ih1 n (by split <;> omega) (by omega) (fun q q1 q2 => h3 q (by omega) q2) ?_ h5
            rcases h4 with h | ⟨q, q1, q2, q3⟩
            · left; rw [h]; rfl
            · by_cases eq : q = i
              · left; rw [eq, hai] at q3; rw [q3]; simp
              · right; exact ⟨q, by omega, q2, q3⟩
        · rcases ih2 with e | ⟨e1, e2, e3, e4, e5⟩
          · by_cases hc : ((has || bL s[i]) && bF s[i]) = true
            · right
              rw [if_pos hc] at e ⊢
              rw [Bool.and_eq_true, Bool.or_eq_true] at hc
              rw [e]
              refine ⟨by omega, by omega, fun q q1 q2 => by rw [show q = i by omega, hai]; exact hp, ?_, by rw [Nat.add_sub_cancel, hai]; exact hc.2⟩
              rcases hc.1 with h | h
              · left; exact h
              · right; exact ⟨i, Nat.le_refl _, by omega, by rw [hai]; exact h⟩
            · left; rw [if_neg hc] at e ⊢; exact e
          · right
            refine ⟨by omega, e2, fun q q1 q2 => ?_, ?_, e5⟩
            · by_cases eq : q = i
              · rw [eq, hai]; exact hp
              · exact e3 q (by omega) q2
            · rcases e4 with h | ⟨q, q1, q2, q3⟩
              · rw [Bool.or_eq_true] at h
                rcases h with h | h
                · left; exact h
                · right; exact ⟨i, Nat.le_refl _, by omega, by rw [hai]; exact h⟩
              · right; exact ⟨q, by omega, q2, q3⟩
    · rw [plainGo_end hlt]
      exact ⟨fun n h1 h2 h3 _ _ => by have := (h3 i (Nat.le_refl _) h2).1; omega, Or.inl rfl⟩
theorem ahead_nw {s : ByteArray} {q : Nat} (h : bW (aheadB s q) = true) : q < s.size := by
  apply Classical.byContradiction; intro hn
  rw [aheadB_ge (by omega)] at h; exact absurd h (by decide)
theorem plain_max {s : ByteArray} {i : Nat} (h : PlainAt s 0 i) : i ≤ plainN s := by
  obtain ⟨h1, h2, h3, h4, h5⟩ := h
  have h0 := ahead_nw (h3 0 (Nat.le_refl _) h1)
  unfold plainN
  rw [dif_pos h0, ← aheadB_lt h0, if_pos h2]
  exact (plainGo_spec s _ 0 false 0 (Nat.le_refl _) (by omega) (by omega)).1 i h1 h1 (fun q q1 q2 => ⟨ahead_nw (h3 q q1 q2), h3 q q1 q2⟩) (Or.inr h4) h5
theorem plain_is {s : ByteArray} (h : plainN s ≠ 0) : PlainAt s 0 (plainN s) := by
  have hh := h
  unfold plainN at h
  by_cases h0 : 0 < s.size
  · rw [dif_pos h0] at h
    by_cases hc : (bL s[0] || bB s[0]) = true
    · rw [if_pos hc] at h
      have e : plainN s = plainGo s 0 false 0 := by unfold plainN; rw [dif_pos h0, if_pos hc]
      rcases (plainGo_spec s _ 0 false 0 (Nat.le_refl _) (by omega) (by omega)).2 with e0 | ⟨e1, e2, e3, e4, e5⟩
      · exact absurd e0 h
      · rw [e]
        refine ⟨e1, by rw [aheadB_lt h0]; exact hc, e3, ?_, e5⟩
        rcases e4 with h | h
        · cases h
        · exact h
    · rw [if_neg hc] at h; exact absurd rfl h
  · rw [dif_neg h0] at h; exact absurd rfl h
end

section

theorem runP_pass {A B s : ByteArray} (hB : aheadB B 0 ≠ 42) : ∀ (d k : Nat) (f : Nat → Bool), A.size - k ≤ d → k ≤ A.size → runP (A ++ B) s k f = runP (A ++ B) s A.size (runP A s k f) := by
  have hsz : (A ++ B).size = A.size + B.size := ByteArray.size_append
  have hl : ∀ {q : Nat}, q < A.size → aheadB (A ++ B) q = aheadB A q := fun {q} h => by
    rw [aheadB_lt h, aheadB_lt (by omega), ByteArray.getElem_append_left h]
  have hr : aheadB (A ++ B) A.size = aheadB B 0 := by
    by_cases h : 0 < B.size
    · rw [aheadB_lt h, aheadB_lt (by omega), ByteArray.getElem_append_right (by omega)]
      simp
    · rw [aheadB_ge (t := B) (by omega), aheadB_ge (by omega)]
  intro d
  induction d with
  | zero =>
    intro k f hd hk
    rw [runP_end (P := A) (by omega), show k = A.size by omega]
  | succ d ih =>
    intro k f hd hk
    by_cases hlt : k < A.size
    · have hst : starAt (A ++ B) k = starAt A k := by
        unfold starAt
        by_cases h1 : k + 1 < A.size
        · rw [hl h1]; simp [h1]; omega
        · rw [show k + 1 = A.size by omega, hr]
          simp [hB]
      cases hs : starAt A k with
      | true =>
        have h2 : k + 2 ≤ A.size := by
          unfold starAt at hs
          simp only [Bool.and_eq_true, decide_eq_true_eq] at hs
          omega
        rw [runP_star (P := A) hlt hs, runP_star (P := A ++ B) (by omega) (by rw [hst]; exact hs), hl hlt]
        exact ih _ _ (by omega) h2
      | false =>
        rw [runP_one (P := A) hlt hs, runP_one (P := A ++ B) (by omega) (by rw [hst]; exact hs), hl hlt]
        exact ih _ _ (by omega) (by omega)
    · rw [runP_end (P := A) hlt, show k = A.size by omega]
theorem runP_behind {A B s : ByteArray} : ∀ (d k : Nat) (f : Nat → Bool), B.size - k ≤ d → runP (A ++ B) s (A.size + k) f = runP B s k f := by
  have hsz : (A ++ B).size = A.size + B.size := ByteArray.size_append
  have hr : ∀ q, aheadB (A ++ B) (A.size + q) = aheadB B q := fun q => by
    by_cases h : q < B.size
    · rw [aheadB_lt h, aheadB_lt (by omega), ByteArray.getElem_append_right (by omega)]
      congr 1; omega
    · rw [aheadB_ge (t := B) (by omega), aheadB_ge (by omega)]
  intro d
  induction d with
  | zero => intro k f hd; rw [runP_end (P := B) (by omega), runP_end (by omega)]
  | succ d ih =>
    intro k f hd
    by_cases hlt : k < B.size
    · have hst : starAt (A ++ B) (A.size + k) = starAt B k := by
        unfold starAt
        rw [show A.size + k + 1 = A.size + (k + 1) by omega, hr, hsz]
        congr 1
        simp
      cases hs : starAt B k with
      | true =>
        rw [runP_star (P := B) hlt hs, runP_star (P := A ++ B) (by omega) (by rw [hst]; exact hs), hr]
        exact ih (k + 2) _ (by omega)
      | false =>
        rw [runP_one (P := B) hlt hs, runP_one (P := A ++ B) (by omega) (by rw [hst]; exact hs), hr]
        exact ih (k + 1) _ (by omega)
    · rw [runP_end (P := B) hlt, runP_end (by omega)]
theorem runP_app {A B s : ByteArray} (hB : aheadB B 0 ≠ 42) (f : Nat → Bool) : runP (A ++ B) s 0 f = runP B s 0 (runP A s 0 f) := by
  rw [runP_pass hB A.size 0 f (by omega) (by omega)]
  have := runP_behind (A := A) (B := B) (s := s) B.size 0 (runP A s 0 f) (by omega)
  simpa using this

theorem none_one (m : UInt8 → Bool) (s : ByteArray) : toOne m s (fun _ => false) = fun _ => false := by
  funext i; cases i <;> rfl
theorem none_star (m : UInt8 → Bool) (s : ByteArray) : toStar m s (fun _ => false) = fun _ => false := by
  funext i
  induction i with
  | zero => rfl
  | succ i ih => rw [toStar, ih]; rfl
theorem runP_none (P s : ByteArray) : ∀ (d k : Nat), P.size - k ≤ d → runP P s k (fun _ => false) = fun _ => false := by
  intro d
  induction d with
  | zero => intro k h; rw [runP_end (by omega)]
  | succ d ih =>
    intro k h
    by_cases hlt : k < P.size
    · cases hs : starAt P k with
      | true => rw [runP_star hlt hs, none_star]; exact ih _ (by omega)
      | false => rw [runP_one hlt hs, none_one]; exact ih _ (by omega)
    · rw [runP_end hlt]
/-- The reference's matcher without its first look. -/
theorem longR_last {P s : ByteArray} (hP : 0 < P.size) (hs : starAt P 0 = false) : longR P s = lastT (runP P s 0 initF) s.size := by
  unfold longR
  by_cases h0 : s.size = 0
  · rw [if_pos h0, h0]; rfl
  · rw [if_neg h0]
    by_cases hm : memB (aheadB P 0) (aheadB s 0) = false
    · rw [if_pos hm, runP_one hP hs]
      have : toOne (memB (aheadB P 0)) s initF = fun _ => false := by
        funext i
        cases i with
        | zero => rfl
        | succ i =>
          rw [toOne]
          cases i with
          | zero => rw [hm]; simp
          | succ i => rfl
      rw [this, runP_none P s _ 1 (Nat.le_refl _)]
      have key : ∀ n, lastT (fun _ => false) n = 0 := by
        intro n
        induction n with
        | zero => rfl
        | succ n ih => rw [lastT, if_neg (by simp)]; exact ih
      exact (key _).symm
    · rw [if_neg hm]
theorem lastT_ge {f : Nat → Bool} {i : Nat} (h : f i = true) : ∀ n, i ≤ n → i ≤ lastT f n
  | 0, hn => by omega
  | n + 1, hn => by
    rw [lastT]
    by_cases hf : f (n + 1) = true
    · rw [if_pos hf]; exact hn
    · rw [if_neg hf]
      by_cases e : i = n + 1
      · subst e; exact absurd h hf
      · exact lastT_ge h n (by omega)
theorem lastT_at {f : Nat → Bool} : ∀ n, lastT f n ≠ 0 → f (lastT f n) = true ∧ lastT f n ≤ n
  | 0, h => absurd rfl h
  | n + 1, h => by
    rw [lastT] at h ⊢
    by_cases hf : f (n + 1) = true
    · rw [if_pos hf]; exact ⟨hf, Nat.le_refl _⟩
    · rw [if_neg hf] at h ⊢
      have := lastT_at n h
      exact ⟨this.1, by omega⟩

/-- The patterns of plain names. -/
theorem run_n (k : Nat) (hk : k < 4) (s : ByteArray) (f : Nat → Bool) : runP (nB k) s 0 f = plainF s f k := by
  have e76 : memB 76 = bL := mem_L
  have hk' : k = 0 ∨ k = 1 ∨ k = 2 ∨ k = 3 := by omega
  rcases hk' with rfl | rfl | rfl | rfl
  · rw [runP_one (P := nB 0) (by decide) (by decide), runP_end (by decide)]
    show toOne (memB 76) s f = _
    rw [mem_L]; rfl
  · rw [runP_one (P := nB 1) (by decide) (by decide), runP_star (by decide) (by decide), runP_one (by decide) (by decide), runP_end (by decide)]
    show toOne (memB 70) s (toStar (memB 87) s (toOne (memB 76) s f)) = _
    rw [mem_L, mem_W, mem_F]; rfl
  · rw [runP_one (P := nB 2) (by decide) (by decide), runP_star (by decide) (by decide), runP_one (by decide) (by decide), runP_end (by decide)]
    show toOne (memB 76) s (toStar (memB 87) s (toOne (memB 66) s f)) = _
    rw [mem_L, mem_W, mem_B]; rfl
  · rw [runP_one (P := nB 3) (by decide) (by decide), runP_star (by decide) (by decide), runP_one (by decide) (by decide), runP_star (by decide) (by decide), runP_one (by decide) (by decide), runP_end (by decide)]
    show toOne (memB 70) s (toStar (memB 87) s (toOne (memB 76) s (toStar (memB 87) s (toOne (memB 66) s f)))) = _
    rw [mem_L, mem_W, mem_B, mem_F]; rfl
theorem nB_head (k : Nat) : starAt (nB k) 0 = false ∧ 0 < (nB k).size ∧ aheadB (nB k) 0 ≠ 42 := by
  unfold nB
  split <;> exact ⟨by decide, by decide, by decide⟩

theorem long_n {k : Nat} (hk : k < 4) (s : ByteArray) : longR (nB k) s ≤ plainN s := by
  rw [longR_last (nB_head k).2.1 (nB_head k).1, run_n k hk]
  by_cases h : lastT (plainF s initF k) s.size = 0
  · omega
  · obtain ⟨h1, h2⟩ := lastT_at _ h
    obtain ⟨a, ha, hp⟩ := plainF_at h1
    rw [init_iff] at ha
    subst ha
    exact plain_max hp
theorem long_n_ex (s : ByteArray) : ∃ k, k < 4 ∧ longR (nB k) s = plainN s := by
  by_cases h : plainN s = 0
  · exact ⟨0, by omega, by have := long_n (k := 0) (by omega) s; omega⟩
  · obtain ⟨k, hk, hp⟩ := at_plainF (f := initF) (a := 0) rfl (plain_is h)
    refine ⟨k, hk, Nat.le_antisymm (long_n hk s) ?_⟩
    rw [longR_last (nB_head k).2.1 (nB_head k).1, run_n k hk]
    exact lastT_ge hp _ (plainN_le s)
theorem nm_iff (t : ByteArray) (i : Nat) : nmB t i 4 = decide (0 < plainN (winB t i)) := by
  have h0 := long_n (k := 0) (by omega) (winB t i)
  have h1 := long_n (k := 1) (by omega) (winB t i)
  have h2 := long_n (k := 2) (by omega) (winB t i)
  have h3 := long_n (k := 3) (by omega) (winB t i)
  obtain ⟨k, hk, he⟩ := long_n_ex (winB t i)
  simp only [nmB, Bool.false_or]
  rw [Bool.eq_iff_iff]
  simp only [Bool.or_eq_true, decide_eq_true_eq]
  have hk' : k = 0 ∨ k = 1 ∨ k = 2 ∨ k = 3 := by omega
  rcases hk' with rfl | rfl | rfl | rfl <;> omega

/-- A byte that is of no name ends the only plain name ahead of it. -/
theorem plain_ends {s : ByteArray} {j : Nat} (h : PlainAt s 0 j) (hw : bW (aheadB s j) = false) : plainN s = j := by
  have h1 := plain_max h
  have h2 := plain_is (s := s) (by have := h.lt; omega)
  apply Nat.le_antisymm _ h1
  apply Nat.le_of_not_lt; intro hlt
  have := h2.all j (by omega) hlt
  rw [hw] at this; cases this
theorem run_ge {p : UInt8 → Bool} {s : ByteArray} : ∀ (d k n : Nat), n - k ≤ d → k ≤ n → n ≤ s.size → (∀ q, k ≤ q → q < n → p (aheadB s q) = true) → n ≤ runN p s k := by
  intro d
  induction d with
  | zero => intro k n hd hk hn _; have := (runN_le p s k (by omega)).1; omega
  | succ d ih =>
    intro k n hd hk hn hall
    by_cases e : k = n
    · have := (runN_le p s k (by omega)).1; omega
    · have hlt : k < s.size := by omega
      rw [runN_go hlt (by rw [← aheadB_lt hlt]; exact hall k (Nat.le_refl _) (by omega))]
      exact ih _ _ (by omega) (by omega) hn (fun q q1 q2 => hall q (by omega) q2)

def colB : ByteArray := ⟨#[58]⟩
def atB : ByteArray := ⟨#[64, 65, 81, 42]⟩
def qB : ByteArray := ⟨#[63]⟩
theorem run_colon (s : ByteArray) (f : Nat → Bool) : runP colB s 0 f = toOne (memB 58) s f := by
  rw [runP_one (P := colB) (by decide) (by decide), runP_end (by decide)]; rfl
theorem run_quest (s : ByteArray) (f : Nat → Bool) : runP qB s 0 f = toOne (memB 63) s f := by
  rw [runP_one (P := qB) (by decide) (by decide), runP_end (by decide)]; rfl
theorem run_atq (s : ByteArray) (f : Nat → Bool) : runP atB s 0 f = toStar bQ s (toOne (memB 65) s (toOne (memB 64) s f)) := by
  rw [runP_one (P := atB) (by decide) (by decide), runP_one (by decide) (by decide), runP_star (by decide) (by decide), runP_end (by decide), ← mem_Q]; rfl
theorem head_app {A B : ByteArray} (h1 : 2 ≤ A.size ∨ aheadB B 0 ≠ 42) (h0 : 0 < A.size) (hA : starAt A 0 = false) : starAt (A ++ B) 0 = false ∧ 0 < (A ++ B).size := by
  have hsz : (A ++ B).size = A.size + B.size := ByteArray.size_append
  refine ⟨?_, by omega⟩
  unfold starAt at hA ⊢
  by_cases e : 1 < A.size
  · have : aheadB (A ++ B) (0 + 1) = aheadB A (0 + 1) := by rw [aheadB_lt (t := A) e, aheadB_lt (by omega), ByteArray.getElem_append_left e]
    rw [this]
    simp only [e, decide_true, Bool.true_and, Nat.zero_add] at hA ⊢
    rw [hA]; simp
  · have hB : aheadB B 0 ≠ 42 := by rcases h1 with h | h; omega; exact h
    have : aheadB (A ++ B) (0 + 1) = aheadB B 0 := by
      by_cases hb : 0 < B.size
      · rw [aheadB_lt hb, aheadB_lt (by omega), ByteArray.getElem_append_right (by omega)]; congr 1; omega
      · rw [aheadB_ge (t := B) (by omega), aheadB_ge (by omega)]
    rw [this]; simp [hB]

/-- Qualified names. -/
theorem long_at {k : Nat} (hk : k < 4) (s : ByteArray) : longR (nB k ++ atB) s ≤ nameN s := by
  have hh := head_app (A := nB k) (B := atB) (Or.inr (by decide)) (nB_head k).2.1 (nB_head k).1
  rw [longR_last hh.2 hh.1, runP_app (by decide), run_n k hk, run_atq]
  by_cases h : lastT (toStar bQ s (toOne (memB 65) s (toOne (memB 64) s (plainF s initF k)))) s.size = 0
  · omega
  · obtain ⟨h1, h2⟩ := lastT_at _ h
    generalize lastT (toStar bQ s (toOne (memB 65) s (toOne (memB 64) s (plainF s initF k)))) s.size = i at h h1 h2
    obtain ⟨b, hb, h3, hQ⟩ := star_iff.1 h1
    obtain ⟨c, rfl, h4, hA⟩ := one_iff.1 h3
    obtain ⟨j, rfl, h5, h64⟩ := one_iff.1 h4
    rw [mem_self (by decide)] at h64
    rw [mem_A] at hA
    obtain ⟨a, ha, hp⟩ := plainF_at h5
    rw [init_iff] at ha
    subst ha
    have hpn := plain_ends hp (by rw [h64]; decide)
    have hj := hp.lt
    unfold nameN
    rw [if_neg (by omega), hpn]
    change i ≤ j + libN (restB s j)
    have hrs := rest_size s j
    have hlib : libN (restB s j) = runN bQ (restB s j) 1 := by
      unfold libN
      rw [dif_pos (by omega), ← aheadB_lt (by omega), ← aheadB_lt (by omega), ahead_rest, ahead_rest, Nat.add_zero, if_pos h64, if_pos hA]
    rw [hlib]
    have := run_ge (p := bQ) (s := restB s j) _ 1 (i - j) (Nat.le_refl _) (by omega) (by omega) (fun q q1 q2 => by
      rw [ahead_rest]
      by_cases e : q = 1
      · rw [e]; unfold bQ; rw [hA]; rfl
      · exact hQ _ (by omega) (by omega))
    omega
end

section

theorem long_at_ex {s : ByteArray} (h : libN (restB s (plainN s)) ≠ 0) (hp : plainN s ≠ 0) : ∃ k, k < 4 ∧ longR (nB k ++ atB) s = nameN s := by
  obtain ⟨k, hk, hF⟩ := at_plainF (f := initF) (a := 0) rfl (plain_is hp)
  refine ⟨k, hk, Nat.le_antisymm (long_at hk s) ?_⟩
  have hh := head_app (A := nB k) (B := atB) (Or.inr (by decide)) (nB_head k).2.1 (nB_head k).1
  rw [longR_last hh.2 hh.1, runP_app (by decide), run_n k hk, run_atq]
  obtain ⟨j, hj⟩ : ∃ j, j = plainN s := ⟨_, rfl⟩
  rw [← hj] at h hF hp
  have hrs := rest_size s j
  have hn : nameN s = j + libN (restB s j) := by unfold nameN; rw [← hj, if_neg hp]; rfl
  rw [hn]
  have h2 := lib_two h
  have hle := libN_le (restB s j)
  have hlib := h
  unfold libN at hlib
  by_cases h1 : 1 < (restB s j).size
  · rw [dif_pos h1] at hlib
    by_cases h64 : (restB s j)[0] = 64
    · rw [if_pos h64] at hlib
      by_cases hA : (bL (restB s j)[1] || bD (restB s j)[1]) = true
      · have e : libN (restB s j) = runN bQ (restB s j) 1 := by unfold libN; rw [dif_pos h1, if_pos h64, if_pos hA]
        have b64 : aheadB s j = 64 := by rw [← h64, ← aheadB_lt (by omega), ahead_rest, Nat.add_zero]
        have bA : (bL (aheadB s (j + 1)) || bD (aheadB s (j + 1))) = true := by rw [← hA, ← aheadB_lt h1, ahead_rest]
        refine lastT_ge (star_iff.2 ⟨j + 2, by omega, one_iff.2 ⟨j + 1, rfl, one_iff.2 ⟨j, rfl, hF, ?_⟩, ?_⟩, fun q q1 q2 => ?_⟩) _ (by omega)
        · rw [mem_self (by decide)]; exact b64
        · rw [mem_A]; exact bA
        · have := run_every (p := bQ) (s := restB s j) _ 1 (q - j) (Nat.le_refl _) (by omega) (by omega)
          rw [ahead_rest, show j + (q - j) = q by omega] at this; exact this
      · rw [if_neg hA] at hlib; exact absurd rfl hlib
    · rw [if_neg h64] at hlib; exact absurd rfl hlib
  · rw [dif_neg h1] at hlib; exact absurd rfl hlib

/-- Keywords. -/
theorem long_col {k : Nat} (hk : k < 4) (s : ByteArray) : longR (nB k ++ colB) s = 0 ∨ (longR (nB k ++ colB) s = plainN s + 1 ∧ plainN s ≠ 0 ∧ aheadB s (plainN s) = 58) := by
  have hh := head_app (A := nB k) (B := colB) (Or.inr (by decide)) (nB_head k).2.1 (nB_head k).1
  rw [longR_last hh.2 hh.1, runP_app (by decide), run_n k hk, run_colon]
  by_cases h : lastT (toOne (memB 58) s (plainF s initF k)) s.size = 0
  · exact Or.inl h
  · right
    obtain ⟨h1, h2⟩ := lastT_at _ h
    generalize lastT (toOne (memB 58) s (plainF s initF k)) s.size = i at h h1 h2
    obtain ⟨j, rfl, h5, h58⟩ := one_iff.1 h1
    rw [mem_self (by decide)] at h58
    obtain ⟨a, ha, hp⟩ := plainF_at h5
    rw [init_iff] at ha
    subst ha
    have hpn := plain_ends hp (by rw [h58]; decide)
    have := hp.lt
    rw [hpn]
    exact ⟨rfl, by omega, h58⟩
theorem long_col_ex {s : ByteArray} (hp : plainN s ≠ 0) (h58 : aheadB s (plainN s) = 58) : ∃ k, k < 4 ∧ longR (nB k ++ colB) s = plainN s + 1 := by
  obtain ⟨k, hk, hF⟩ := at_plainF (f := initF) (a := 0) rfl (plain_is hp)
  refine ⟨k, hk, ?_⟩
  rcases long_col hk s with e | e
  · exfalso
    have hh := head_app (A := nB k) (B := colB) (Or.inr (by decide)) (nB_head k).2.1 (nB_head k).1
    rw [longR_last hh.2 hh.1, runP_app (by decide), run_n k hk, run_colon] at e
    have hlt : plainN s < s.size := by apply Nat.lt_of_not_le; intro hle; rw [aheadB_ge hle] at h58; exact absurd h58 (by decide)
    have := lastT_ge (f := toOne (memB 58) s (plainF s initF k)) (one_iff.2 ⟨plainN s, rfl, hF, by rw [mem_self (by decide)]; exact h58⟩) s.size (by omega)
    omega
  · exact e.1

/-- A plain name from a place on. -/
theorem PlainAt.rest {s : ByteArray} {a i : Nat} (h : PlainAt s a i) : PlainAt (restB s a) 0 (i - a) := by
  obtain ⟨h1, h2, h3, ⟨l, l1, l2, l3⟩, h5⟩ := h
  refine ⟨by omega, by rw [ahead_rest, Nat.add_zero]; exact h2, fun q q1 q2 => by rw [ahead_rest]; exact h3 _ (by omega) (by omega), ⟨l - a, by omega, by omega, by rw [ahead_rest, show a + (l - a) = l by omega]; exact l3⟩, ?_⟩
  rw [ahead_rest, show a + (i - a - 1) = i - 1 by omega]; exact h5
theorem PlainAt.of_rest {s : ByteArray} {a n : Nat} (h : PlainAt (restB s a) 0 n) : PlainAt s a (a + n) := by
  obtain ⟨h1, h2, h3, ⟨l, l1, l2, l3⟩, h5⟩ := h
  refine ⟨by omega, by rw [ahead_rest, Nat.add_zero] at h2; exact h2, fun q q1 q2 => by have := h3 (q - a) (by omega) (by omega); rw [ahead_rest, show a + (q - a) = q by omega] at this; exact this, ⟨a + l, by omega, by omega, by rw [← ahead_rest]; exact l3⟩, ?_⟩
  rw [ahead_rest, show a + (n - 1) = a + n - 1 by omega] at h5; exact h5

theorem run_q {k : Nat} (hk : k < 4) (s : ByteArray) : runP (qB ++ nB k) s 0 initF = plainF s (toOne (memB 63) s initF) k := by
  rw [runP_app (nB_head k).2.2, run_n k hk, run_quest]
theorem quest_iff {s : ByteArray} {i : Nat} : toOne (memB 63) s initF i = true ↔ i = 1 ∧ aheadB s 0 = 63 := by
  rw [one_iff]
  constructor
  · rintro ⟨j, rfl, h1, h2⟩
    rw [init_iff] at h1
    subst h1
    rw [mem_self (by decide)] at h2
    exact ⟨rfl, h2⟩
  · rintro ⟨rfl, h⟩
    exact ⟨0, rfl, rfl, by rw [mem_self (by decide)]; exact h⟩
theorem q_head {k : Nat} : starAt (qB ++ nB k) 0 = false ∧ 0 < (qB ++ nB k).size := head_app (Or.inr (nB_head k).2.2) (by decide) (by decide)

/-- Pattern variables without a kind. -/
theorem long_q {k : Nat} (hk : k < 4) (s : ByteArray) : longR (qB ++ nB k) s = 0 ∨ (aheadB s 0 = 63 ∧ plainN (restB s 1) ≠ 0 ∧ longR (qB ++ nB k) s ≤ plainN (restB s 1) + 1) := by
  rw [longR_last q_head.2 q_head.1, run_q hk]
  by_cases h : lastT (plainF s (toOne (memB 63) s initF) k) s.size = 0
  · exact Or.inl h
  · right
    obtain ⟨h1, h2⟩ := lastT_at _ h
    generalize lastT (plainF s (toOne (memB 63) s initF) k) s.size = i at h h1 h2
    obtain ⟨a, ha, hp⟩ := plainF_at h1
    obtain ⟨rfl, h63⟩ := quest_iff.1 ha
    have := plain_max hp.rest
    have := hp.lt
    exact ⟨h63, by omega, by omega⟩
theorem long_q_ex {s : ByteArray} (h63 : aheadB s 0 = 63) (hp : plainN (restB s 1) ≠ 0) : ∃ k, k < 4 ∧ longR (qB ++ nB k) s = plainN (restB s 1) + 1 := by
  obtain ⟨k, hk, hF⟩ := at_plainF (f := toOne (memB 63) s initF) (a := 1) (quest_iff.2 ⟨rfl, h63⟩) (plain_is hp).of_rest
  refine ⟨k, hk, ?_⟩
  have hle := plainN_le (restB s 1)
  have hrs := rest_size s 1
  have hge : 1 + plainN (restB s 1) ≤ longR (qB ++ nB k) s := by
    rw [longR_last q_head.2 q_head.1, run_q hk]
    exact lastT_ge hF _ (by omega)
  rcases long_q hk s with e | e
  · omega
  · omega

theorem run_qq {i k : Nat} (hi : i < 4) (hk : k < 4) (s : ByteArray) : runP ((qB ++ nB i ++ colB) ++ nB k) s 0 initF = plainF s (toOne (memB 58) s (plainF s (toOne (memB 63) s initF) i)) k := by
  rw [runP_app (nB_head k).2.2, run_n k hk, runP_app (by decide), run_colon, run_q hi]
theorem qq_head {i k : Nat} : starAt ((qB ++ nB i ++ colB) ++ nB k) 0 = false ∧ 0 < ((qB ++ nB i ++ colB) ++ nB k).size := by
  have h1 := q_head (k := i)
  have h2 := head_app (A := qB ++ nB i) (B := colB) (Or.inr (by decide)) h1.2 h1.1
  exact head_app (Or.inr (nB_head k).2.2) h2.2 h2.1

/-- Pattern variables with a kind. -/
theorem long_qq {i k : Nat} (hi : i < 4) (hk : k < 4) (s : ByteArray) : longR ((qB ++ nB i ++ colB) ++ nB k) s = 0 ∨ (aheadB s 0 = 63 ∧ plainN (restB s 1) ≠ 0 ∧ aheadB s (plainN (restB s 1) + 1) = 58 ∧ plainN (restB s (plainN (restB s 1) + 2)) ≠ 0 ∧
    longR ((qB ++ nB i ++ colB) ++ nB k) s ≤ plainN (restB s 1) + 2 + plainN (restB s (plainN (restB s 1) + 2))) := by
  rw [longR_last qq_head.2 qq_head.1, run_qq hi hk]
  by_cases h : lastT (plainF s (toOne (memB 58) s (plainF s (toOne (memB 63) s initF) i)) k) s.size = 0
  · exact Or.inl h
  · right
    obtain ⟨h1, h2⟩ := lastT_at _ h
    generalize lastT (plainF s (toOne (memB 58) s (plainF s (toOne (memB 63) s initF) i)) k) s.size = n at h h1 h2
    obtain ⟨b, hb, hp⟩ := plainF_at h1
    obtain ⟨j, rfl, h3, h58⟩ := one_iff.1 hb
    rw [mem_self (by decide)] at h58
    obtain ⟨a, ha, hq⟩ := plainF_at h3
    obtain ⟨rfl, h63⟩ := quest_iff.1 ha
    have hj := hq.lt
    have e := plain_ends hq.rest (by rw [ahead_rest, show 1 + (j - 1) = j by omega, h58]; decide)
    have e1 : plainN (restB s 1) + 1 = j := by omega
    have e2 : plainN (restB s 1) + 2 = j + 1 := by omega
    have := plain_max hp.rest
    have := hp.lt
    rw [e1, e2]
    exact ⟨h63, by omega, h58, by omega, by omega⟩
theorem long_qq_ex {s : ByteArray} (h63 : aheadB s 0 = 63) (hp : plainN (restB s 1) ≠ 0) (h58 : aheadB s (plainN (restB s 1) + 1) = 58) (hp2 : plainN (restB s (plainN (restB s 1) + 2)) ≠ 0) :
    ∃ i k, i < 4 ∧ k < 4 ∧ longR ((qB ++ nB i ++ colB) ++ nB k) s = plainN (restB s 1) + 2 + plainN (restB s (plainN (restB s 1) + 2)) := by
  obtain ⟨i, hi, hF⟩ := at_plainF (f := toOne (memB 63) s initF) (a := 1) (quest_iff.2 ⟨rfl, h63⟩) (plain_is hp).of_rest
  have hc : toOne (memB 58) s (plainF s (toOne (memB 63) s initF) i) (plainN (restB s 1) + 2) = true := one_iff.2 ⟨1 + plainN (restB s 1), by omega, hF, by rw [mem_self (by decide), Nat.add_comm]; exact h58⟩
  obtain ⟨k, hk, hG⟩ := at_plainF hc (plain_is hp2).of_rest
  refine ⟨i, k, hi, hk, ?_⟩
  have hle := plainN_le (restB s (plainN (restB s 1) + 2))
  have hrs := rest_size s (plainN (restB s 1) + 2)
  have hge : plainN (restB s 1) + 2 + plainN (restB s (plainN (restB s 1) + 2)) ≤ longR ((qB ++ nB i ++ colB) ++ nB k) s := by
    rw [longR_last qq_head.2 qq_head.1, run_qq hi hk]
    exact lastT_ge hG _ (by omega)
  rcases long_qq hi hk s with e | e
  · omega
  · omega

/-- Integers and hash words. -/
def dB : ByteArray := ⟨#[68, 68, 42]⟩
def mB : ByteArray := ⟨#[45, 68, 68, 42]⟩
def tB : ByteArray := ⟨#[35, 116]⟩
def fB : ByteArray := ⟨#[35, 102]⟩
theorem long_d (s : ByteArray) : longR dB s = runN bD s 0 := by
  rw [longR_last (by decide) (by decide), runP_one (by decide) (by decide), runP_star (by decide) (by decide), runP_end (by decide)]
  show lastT (toStar (memB 68) s (toOne (memB 68) s initF)) s.size = _
  rw [mem_D]
  have hle := (runN_le bD s 0 (by omega)).2
  apply Nat.le_antisymm
  · by_cases h : lastT (toStar bD s (toOne bD s initF)) s.size = 0
    · omega
    · obtain ⟨h1, h2⟩ := lastT_at _ h
      obtain ⟨b, hb, h3, hD⟩ := star_iff.1 h1
      obtain ⟨j, rfl, h4, h5⟩ := one_iff.1 h3
      rw [init_iff] at h4
      subst h4
      refine run_ge _ 0 _ (Nat.le_refl _) (by omega) h2 (fun q q1 q2 => ?_)
      by_cases e : q = 0
      · rw [e]; exact h5
      · exact hD q (by omega) q2
  · by_cases h : runN bD s 0 = 0
    · omega
    · exact lastT_ge (star_iff.2 ⟨1, by omega, one_iff.2 ⟨0, rfl, rfl, run_every _ 0 0 (Nat.le_refl _) (by omega) (by omega)⟩, fun q q1 q2 => run_every _ 0 q (Nat.le_refl _) (by omega) q2⟩) _ hle
theorem long_m (s : ByteArray) : longR mB s = if aheadB s 0 = 45 then (if runN bD (restB s 1) 0 = 0 then 0 else 1 + runN bD (restB s 1) 0) else 0 := by
  rw [longR_last (by decide) (by decide), runP_one (by decide) (by decide), runP_one (by decide) (by decide), runP_star (by decide) (by decide), runP_end (by decide)]
  show lastT (toStar (memB 68) s (toOne (memB 68) s (toOne (memB 45) s initF))) s.size = _
  rw [mem_D]
  have hrs := rest_size s 1
  have hle := (runN_le bD (restB s 1) 0 (by omega)).2
  have hit : ∀ i, toStar bD s (toOne bD s (toOne (memB 45) s initF)) i = true → aheadB s 0 = 45 ∧ 2 ≤ i ∧ ∀ q, 1 ≤ q → q < i → bD (aheadB s q) = true := by
    intro i hi
    obtain ⟨b, hb, h3, hD⟩ := star_iff.1 hi
    obtain ⟨j, rfl, h4, h5⟩ := one_iff.1 h3
    obtain ⟨l, rfl, h6, h7⟩ := one_iff.1 h4
    rw [init_iff] at h6
    subst h6
    rw [mem_self (by decide)] at h7
    refine ⟨h7, by omega, fun q q1 q2 => ?_⟩
    by_cases e : q = 1
    · rw [e]; exact h5
    · exact hD q (by omega) q2
  by_cases h45 : aheadB s 0 = 45
  · rw [if_pos h45]
    by_cases hz : runN bD (restB s 1) 0 = 0
    · rw [if_pos hz]
      apply Classical.byContradiction; intro hne
      obtain ⟨h1, h2⟩ := lastT_at _ hne
      obtain ⟨_, h4, h5⟩ := hit _ h1
      have := run_ge (p := bD) (s := restB s 1) 1 0 1 (by omega) (by omega) (by omega) (fun q q1 q2 => by rw [ahead_rest]; exact h5 _ (by omega) (by omega))
      omega
    · rw [if_neg hz]
      apply Nat.le_antisymm
      · by_cases h : lastT (toStar bD s (toOne bD s (toOne (memB 45) s initF))) s.size = 0
        · omega
        · obtain ⟨h1, h2⟩ := lastT_at _ h
          obtain ⟨_, h4, h5⟩ := hit _ h1
          have := run_ge (p := bD) (s := restB s 1) _ 0 (lastT (toStar bD s (toOne bD s (toOne (memB 45) s initF))) s.size - 1) (Nat.le_refl _) (by omega) (by omega) (fun q q1 q2 => by rw [ahead_rest]; exact h5 _ (by omega) (by omega))
          omega
      · have hd : ∀ q, 1 ≤ q → q < 1 + runN bD (restB s 1) 0 → bD (aheadB s q) = true := fun q q1 q2 => by
          have := run_every (p := bD) (s := restB s 1) _ 0 (q - 1) (Nat.le_refl _) (by omega) (by omega)
          rw [ahead_rest, show 1 + (q - 1) = q by omega] at this; exact this
        exact lastT_ge (star_iff.2 ⟨2, by omega, one_iff.2 ⟨1, rfl, one_iff.2 ⟨0, rfl, rfl, by rw [mem_self (by decide)]; exact h45⟩, hd 1 (by omega) (by omega)⟩, fun q q1 q2 => hd q (by omega) q2⟩) _ (by omega)
  · rw [if_neg h45]
    apply Classical.byContradiction; intro hne
    obtain ⟨h1, _⟩ := lastT_at _ hne
    exact h45 (hit _ h1).1
theorem long_two {a b : UInt8} (ha : a ≠ 76 ∧ a ≠ 68 ∧ a ≠ 87 ∧ a ≠ 70 ∧ a ≠ 66 ∧ a ≠ 81 ∧ a ≠ 65) (hb : b ≠ 76 ∧ b ≠ 68 ∧ b ≠ 87 ∧ b ≠ 70 ∧ b ≠ 66 ∧ b ≠ 81 ∧ b ≠ 65) (hb42 : b ≠ 42) (s : ByteArray) :
    longR ⟨#[a, b]⟩ s = if aheadB s 0 = a ∧ aheadB s 1 = b ∧ 2 ≤ s.size then 2 else 0 := by
  have h0 : aheadB (⟨#[a, b]⟩ : ByteArray) 0 = a := rfl
  have h1 : aheadB (⟨#[a, b]⟩ : ByteArray) 1 = b := rfl
  have hs : (⟨#[a, b]⟩ : ByteArray).size = 2 := rfl
  have s0 : starAt ⟨#[a, b]⟩ 0 = false := by unfold starAt; rw [h1]; simp [hb42]
  have s1 : starAt ⟨#[a, b]⟩ 1 = false := by unfold starAt; simp [hs]
  rw [longR_last (by rw [hs]; omega) s0, runP_one (by rw [hs]; omega) s0, runP_one (by rw [hs]; omega) s1, runP_end (by rw [hs]; omega), h0, h1]
  have hit : ∀ i, toOne (memB b) s (toOne (memB a) s initF) i = true ↔ i = 2 ∧ aheadB s 0 = a ∧ aheadB s 1 = b := by
    intro i
    rw [one_iff]
    constructor
    · rintro ⟨j, rfl, h3, h4⟩
      obtain ⟨l, rfl, h5, h6⟩ := one_iff.1 h3
      rw [init_iff] at h5
      subst h5
      exact ⟨rfl, (mem_self ha _).1 h6, (mem_self hb _).1 h4⟩
    · rintro ⟨rfl, h3, h4⟩
      exact ⟨1, rfl, one_iff.2 ⟨0, rfl, rfl, (mem_self ha _).2 h3⟩, (mem_self hb _).2 h4⟩
  by_cases hc : aheadB s 0 = a ∧ aheadB s 1 = b ∧ 2 ≤ s.size
  · rw [if_pos hc]
    have hf := (hit 2).2 ⟨rfl, hc.1, hc.2.1⟩
    have hge := lastT_ge hf s.size hc.2.2
    obtain ⟨h3, _⟩ := lastT_at (f := toOne (memB b) s (toOne (memB a) s initF)) s.size (by omega)
    exact ((hit _).1 h3).1
  · rw [if_neg hc]
    apply Classical.byContradiction; intro hne
    obtain ⟨h3, h4⟩ := lastT_at _ hne
    obtain ⟨e1, e2, e3⟩ := (hit _).1 h3
    exact hc ⟨e2, e3, by omega⟩
end

section

def valR (name op : Bool) (t : ByteArray) (i : Nat) (r : Nat × ByteArray) : Nat := if skipB name op t i r then 0 else longR r.2 (winB t i)
/-- What the choice among some rules is. -/
structure Chosen (val : Nat × ByteArray → Nat) (l : List (Nat × ByteArray)) (F : Nat × Nat) : Prop where
  most : ∀ r ∈ l, val r ≤ F.2
  least : ∀ r ∈ l, val r = F.2 → 0 < F.2 → F.1 ≤ r.1
  one : F = (0, 0) ∨ ∃ r ∈ l, F = (r.1, val r) ∧ 0 < val r
theorem long_pos {kind : Nat} {P t : ByteArray} {i : Nat} (h : allowB kind P t i = true) : 0 < longR P (winB t i) := by
  unfold allowB at h
  by_cases h0 : longR P (winB t i) = 0
  · rw [if_pos h0] at h; cases h
  · omega
theorem chosen_step {name op : Bool} {t : ByteArray} {i : Nat} {l : List (Nat × ByteArray)} {F : Nat × Nat} (h : Chosen (valR name op t i) l F) (r : Nat × ByteArray) : Chosen (valR name op t i) (l ++ [r]) (stepR name op t i F r) := by
  obtain ⟨h1, h2, h3⟩ := h
  unfold stepR
  by_cases hs : skipB name op t i r = true
  · rw [if_pos hs]
    have hv : valR name op t i r = 0 := by unfold valR; rw [if_pos hs]
    refine ⟨fun x hx => ?_, fun x hx e hp => ?_, ?_⟩
    · rcases List.mem_append.1 hx with hx | hx
      · exact h1 x hx
      · simp only [List.mem_singleton] at hx; subst hx; omega
    · rcases List.mem_append.1 hx with hx | hx
      · exact h2 x hx e hp
      · simp only [List.mem_singleton] at hx; subst hx; omega
    · rcases h3 with h | ⟨x, hx, e, hp⟩
      · exact Or.inl h
      · exact Or.inr ⟨x, List.mem_append.2 (Or.inl hx), e, hp⟩
  · rw [if_neg hs]
    have hv : valR name op t i r = longR r.2 (winB t i) := by unfold valR; rw [if_neg hs]
    have hpos : 0 < longR r.2 (winB t i) := by
      apply long_pos (kind := r.1)
      cases ha : allowB r.1 r.2 t i with
      | true => rfl
      | false => exact absurd (by unfold skipB; rw [ha]; simp) hs
    by_cases hc : F.2 < longR r.2 (winB t i) ∨ (longR r.2 (winB t i) = F.2 ∧ r.1 < F.1)
    · rw [if_pos hc]
      refine ⟨fun x hx => ?_, fun x hx e hp => ?_, Or.inr ⟨r, by simp, by rw [hv], by omega⟩⟩
      · rcases List.mem_append.1 hx with hx | hx
        · have := h1 x hx; simp only; omega
        · simp only [List.mem_singleton] at hx; subst hx; rw [hv]; exact Nat.le_refl _
      · rcases List.mem_append.1 hx with hx | hx
        · have h4 := h1 x hx
          simp only at e ⊢
          rcases hc with hc | hc
          · omega
          · have := h2 x hx (by omega) (by omega); omega
        · simp only [List.mem_singleton] at hx; subst hx; exact Nat.le_refl _
    · rw [if_neg hc]
      refine ⟨fun x hx => ?_, fun x hx e hp => ?_, ?_⟩
      · rcases List.mem_append.1 hx with hx | hx
        · exact h1 x hx
        · simp only [List.mem_singleton] at hx; subst hx; omega
      · rcases List.mem_append.1 hx with hx | hx
        · exact h2 x hx e hp
        · simp only [List.mem_singleton] at hx; subst hx; omega
      · rcases h3 with h | ⟨x, hx, e, hp⟩
        · exact Or.inl h
        · exact Or.inr ⟨x, List.mem_append.2 (Or.inl hx), e, hp⟩
theorem chosen_fold {name op : Bool} {t : ByteArray} {i : Nat} : ∀ (m l : List (Nat × ByteArray)) (F : Nat × Nat), Chosen (valR name op t i) l F → Chosen (valR name op t i) (l ++ m) (m.foldl (stepR name op t i) F) := by
  intro m
  induction m with
  | nil => intro l F h; simpa using h
  | cons r m ih =>
    intro l F h
    have := ih (l ++ [r]) _ (chosen_step h r)
    simpa using this
theorem chosen_all (name op : Bool) (t : ByteArray) (i : Nat) (l : List (Nat × ByteArray)) : Chosen (valR name op t i) l (l.foldl (stepR name op t i) (0, 0)) := by
  have := chosen_fold (name := name) (op := op) (t := t) (i := i) l [] (0, 0) ⟨fun r h => by simp at h, fun r h => by simp at h, Or.inl rfl⟩
  simpa using this

/-- The rules, by their kinds. -/
theorem mem_pats {i : Nat} {r : Nat × ByteArray} : ∀ {n : Nat}, r ∈ patsB i n ↔ ∃ k, k < n ∧ r = (6, (qB ++ nB i ++ colB) ++ nB k)
  | 0 => by simp [patsB]
  | n + 1 => by
    rw [patsB, List.mem_append, mem_pats (n := n), List.mem_singleton]
    constructor
    · rintro (⟨k, hk, e⟩ | e)
      · exact ⟨k, by omega, e⟩
      · exact ⟨n, by omega, e⟩
    · rintro ⟨k, hk, e⟩
      by_cases h : k = n
      · subst h; exact Or.inr e
      · exact Or.inl ⟨k, by omega, e⟩
def OfKind (k : Nat) (r : Nat × ByteArray) : Prop := r = (1, nB k) ∨ r = (1, nB k ++ atB) ∨ r = (3, nB k ++ colB) ∨ r = (6, qB ++ nB k) ∨ ∃ j, j < 4 ∧ r = (6, (qB ++ nB k ++ colB) ++ nB j)
theorem mem_rulesB {r : Nat × ByteArray} : ∀ {n : Nat}, r ∈ rulesB n ↔ ∃ k, k < n ∧ OfKind k r
  | 0 => by simp [rulesB]
  | n + 1 => by
    rw [rulesB, List.mem_append, List.mem_append, mem_rulesB (n := n), mem_pats]
    constructor
    · rintro ((⟨k, hk, h⟩ | h) | ⟨j, hj, e⟩)
      · exact ⟨k, by omega, h⟩
      · simp only [List.mem_cons, List.not_mem_nil, or_false] at h
        refine ⟨n, by omega, ?_⟩
        rcases h with h | h | h | h
        · exact Or.inl h
        · exact Or.inr (Or.inl h)
        · exact Or.inr (Or.inr (Or.inl h))
        · exact Or.inr (Or.inr (Or.inr (Or.inl h)))
      · exact ⟨n, by omega, Or.inr (Or.inr (Or.inr (Or.inr ⟨j, hj, e⟩)))⟩
    · rintro ⟨k, hk, h⟩
      by_cases e : k = n
      · subst e
        rcases h with h | h | h | h | ⟨j, hj, h⟩
        · exact Or.inl (Or.inr (by simp [h]))
        · exact Or.inl (Or.inr (by simp [h, atB]))
        · exact Or.inl (Or.inr (by simp [h, colB]))
        · exact Or.inl (Or.inr (by simp [h, qB]))
        · exact Or.inr ⟨j, hj, h⟩
      · exact Or.inl (Or.inl ⟨k, by omega, h⟩)
theorem mem_rules {r : Nat × ByteArray} : r ∈ rulesL ↔ (∃ k, k < 4 ∧ OfKind k r) ∨ r = (2, dB) ∨ r = (2, mB) ∨ r = (4, tB) ∨ r = (4, fB) := by
  rw [rulesL, List.mem_append, mem_rulesB]
  simp only [List.mem_cons, List.not_mem_nil, or_false]
  rfl

/-- Signs. -/
def valS (t : ByteArray) (i : Nat) (x : ByteArray) : Nat := if x.size ≤ t.size - i ∧ t.extract i (i + x.size) = x then x.size else 0
theorem signs_fold {t : ByteArray} {i : Nat} : ∀ (l : List ByteArray) (F : Nat × Nat), F.2 ≤ (l.foldl (stepS t i) F).2 ∧ (∀ x ∈ l, valS t i x ≤ (l.foldl (stepS t i) F).2) ∧ (l.foldl (stepS t i) F = F ∨ ∃ x ∈ l, l.foldl (stepS t i) F = (5, valS t i x) ∧ F.2 < valS t i x) := by
  intro l
  induction l with
  | nil => intro F; exact ⟨Nat.le_refl _, fun x h => by simp at h, Or.inl rfl⟩
  | cons y l ih =>
    intro F
    rw [List.foldl_cons]
    obtain ⟨h1, h2, h3⟩ := ih (stepS t i F y)
    by_cases hc : F.2 < y.size ∧ y.size ≤ t.size - i ∧ t.extract i (i + y.size) = y
    · have hv : valS t i y = y.size := by unfold valS; rw [if_pos hc.2]
      have hs : stepS t i F y = (5, y.size) := by unfold stepS; rw [if_pos hc]
      rw [hs] at h1 h2 h3 ⊢
      simp only at h1
      refine ⟨by omega, fun x hx => ?_, ?_⟩
      · rcases List.mem_cons.1 hx with rfl | hx
        · omega
        · exact h2 x hx
      · right
        rcases h3 with h | ⟨x, hx, e, hp⟩
        · exact ⟨y, List.mem_cons_self, by rw [h, hv], by omega⟩
        · simp only at hp
          exact ⟨x, List.mem_cons_of_mem _ hx, e, by omega⟩
    · have hs : stepS t i F y = F := by unfold stepS; rw [if_neg hc]
      rw [hs] at h1 h2 h3 ⊢
      refine ⟨h1, fun x hx => ?_, ?_⟩
      · rcases List.mem_cons.1 hx with rfl | hx
        · unfold valS
          split
          · rename_i hh
            have : ¬ F.2 < x.size := fun h => hc ⟨h, hh⟩
            omega
          · omega
        · exact h2 x hx
      · rcases h3 with h | ⟨x, hx, e, hp⟩
        · exact Or.inl h
        · exact Or.inr ⟨x, List.mem_cons_of_mem _ hx, e, hp⟩
set_option maxRecDepth 100000 in
theorem sign_cases : ∀ x ∈ signL, (x.size = 2 ∧ signTwo x.toList = true) ∨ (x.size = 1 ∧ signOne (aheadB x 0) = true) := by decide +kernel
set_option maxRecDepth 100000 in
theorem one_signB : ∀ n : Fin 256, signOne (UInt8.ofNat n.val) = true → (signL.any fun x => x.data.toList == [UInt8.ofNat n.val]) = true := by decide +kernel
theorem one_sign {c : UInt8} (h : signOne c = true) : (⟨#[c]⟩ : ByteArray) ∈ signL := by
  have h1 := one_signB ⟨c.toNat, c.toNat_lt⟩
  simp only [UInt8.ofNat_toNat] at h1
  obtain ⟨x, hx, he⟩ := List.any_eq_true.1 (h1 h)
  rw [beq_iff_eq] at he
  have : x = ⟨#[c]⟩ := by apply ByteArray.ext; apply Array.ext'; exact he
  rw [← this]; exact hx
theorem two_sign {a b : UInt8} (h : signTwo [a, b] = true) : (⟨#[a, b]⟩ : ByteArray) ∈ signL := by
  simp only [signTwo, Bool.or_eq_true, beq_iff_eq, List.cons.injEq, and_true] at h
  rcases h with ((((⟨rfl, rfl⟩ | ⟨rfl, rfl⟩) | ⟨rfl, rfl⟩) | ⟨rfl, rfl⟩) | ⟨rfl, rfl⟩) | ⟨rfl, rfl⟩ <;> simp [signL]

/-- The signs take what the lexer's rule of signs takes. -/
theorem cut_two {t : ByteArray} {i : Nat} (h : i + 2 ≤ t.size) : t.extract i (i + 2) = ⟨#[aheadB t i, aheadB t (i + 1)]⟩ := by
  refine ext_ahead (by rw [ByteArray.size_extract]; show min (i + 2) t.size - i = 2; omega) (fun q hq => ?_)
  rw [ByteArray.size_extract] at hq
  rw [ahead_part (by omega) (by omega)]
  have : q = 0 ∨ q = 1 := by omega
  rcases this with rfl | rfl <;> rfl
theorem cut_first {t : ByteArray} {i : Nat} (h : i + 1 ≤ t.size) : t.extract i (i + 1) = ⟨#[aheadB t i]⟩ := by
  refine ext_ahead (by rw [ByteArray.size_extract]; show min (i + 1) t.size - i = 1; omega) (fun q hq => ?_)
  rw [ByteArray.size_extract] at hq
  rw [ahead_part (by omega) (by omega)]
  have : q = 0 := by omega
  subst this; rfl
theorem sign_win {t : ByteArray} {i : Nat} (hi : i < t.size) : signN (winB t i) = if i + 2 ≤ t.size ∧ signTwo [aheadB t i, aheadB t (i + 1)] = true then 2 else if signOne (aheadB t i) then 1 else 0 := by
  have hw := win_sz t i
  have h0 : aheadB (winB t i) 0 = aheadB t i := by have := ahead_win (t := t) (i := i) (q := 0) (by omega); simpa using this
  unfold signN
  rw [h0]
  by_cases h2 : i + 2 ≤ t.size
  · have e : ((winB t i).extract 0 (min 2 (winB t i).size)).toList = [aheadB t i, aheadB t (i + 1)] := by
      have h1 : aheadB (winB t i) 1 = aheadB t (i + 1) := ahead_win (by omega)
      have := cut_two (t := winB t i) (i := 0) (by omega)
      rw [show min 2 (winB t i).size = 0 + 2 by omega, this, h0, Nat.zero_add, h1]
      rw [ByteArray.toList_eq]
    rw [e]
    by_cases hs : signTwo [aheadB t i, aheadB t (i + 1)] = true
    · rw [if_pos hs, if_pos ⟨h2, hs⟩]
    · rw [if_neg hs, if_neg (show ¬ (i + 2 ≤ t.size ∧ signTwo [aheadB t i, aheadB t (i + 1)] = true) from fun h => hs h.2)]
  · rw [if_neg (show ¬ (i + 2 ≤ t.size ∧ signTwo [aheadB t i, aheadB t (i + 1)] = true) from fun h => h2 h.1)]
    have hl : ((winB t i).extract 0 (min 2 (winB t i).size)).toList.length = 1 := by rw [ByteArray.toList_eq]; simp; omega
    have hs : signTwo ((winB t i).extract 0 (min 2 (winB t i).size)).toList = false := by
      generalize ((winB t i).extract 0 (min 2 (winB t i).size)).toList = l at hl
      match l, hl with
      | [x], _ => simp [signTwo]
    rw [hs]; rfl
theorem valS_le {t : ByteArray} {i : Nat} (hi : i < t.size) : ∀ x ∈ signL, valS t i x ≤ signN (winB t i) := by
  intro x hx
  unfold valS
  by_cases hc : x.size ≤ t.size - i ∧ t.extract i (i + x.size) = x
  · rw [if_pos hc, sign_win hi]
    rcases sign_cases x hx with ⟨hs, h2⟩ | ⟨hs, h1⟩
    · rw [hs] at hc ⊢
      have e := cut_two (t := t) (i := i) (by omega)
      rw [hc.2] at e
      rw [e] at h2
      have : signTwo [aheadB t i, aheadB t (i + 1)] = true := by rw [ByteArray.toList_eq] at h2; exact h2
      rw [if_pos ⟨by omega, this⟩]; exact Nat.le_refl _
    · rw [hs] at hc ⊢
      have e := cut_first (t := t) (i := i) (by omega)
      rw [hc.2] at e
      rw [e] at h1
      have : signOne (aheadB t i) = true := h1
      rw [this]
      split
      · omega
      · exact Nat.le_refl _
  · rw [if_neg hc]; omega
theorem valS_ex {t : ByteArray} {i : Nat} (hi : i < t.size) (h : signN (winB t i) ≠ 0) : ∃ x ∈ signL, valS t i x = signN (winB t i) := by
  rw [sign_win hi] at h ⊢
  by_cases h2 : i + 2 ≤ t.size ∧ signTwo [aheadB t i, aheadB t (i + 1)] = true
  · rw [if_pos h2]
    refine ⟨_, two_sign h2.2, ?_⟩
    unfold valS
    have hs : (⟨#[aheadB t i, aheadB t (i + 1)]⟩ : ByteArray).size = 2 := rfl
    rw [hs, if_pos ⟨by omega, cut_two h2.1⟩]
  · rw [if_neg h2] at h ⊢
    by_cases h1 : signOne (aheadB t i) = true
    · rw [if_pos h1]
      refine ⟨_, one_sign h1, ?_⟩
      unfold valS
      have hs : (⟨#[aheadB t i]⟩ : ByteArray).size = 1 := rfl
      rw [hs, if_pos ⟨by omega, cut_first (by omega)⟩]
    · rw [if_neg h1] at h; exact absurd rfl h
end

section

theorem patN_rest (t : ByteArray) (i : Nat) (s : ByteArray) : patN t i s = if aheadB s 0 = 63 then
    if plainN (restB s 1) = 0 then 0
    else if aheadB s (plainN (restB s 1) + 1) = 58 then
      if joinsB (aheadB t (i + (plainN (restB s 1) + 1 + 1))) then plainN (restB s 1) + 1
      else if 0 < plainN (restB s (plainN (restB s 1) + 1 + 1)) then plainN (restB s 1) + 1 + 1 + plainN (restB s (plainN (restB s 1) + 1 + 1)) else plainN (restB s 1) + 1
    else plainN (restB s 1) + 1
  else 0 := rfl
theorem first_joins {c : UInt8} (h : (bL c || bB c) = true) : joinsB c = false := by
  cases hj : joinsB c with
  | false => rfl
  | true =>
    exfalso
    unfold joinsB at hj
    rw [Bool.or_eq_true, beq_iff_eq, beq_iff_eq] at hj
    have hc : c = 58 ∨ c = 61 := by
      rcases hj with e | e
      · left; apply UInt8.toNat_inj.1; exact Int.ofNat.inj e
      · right; apply UInt8.toNat_inj.1; exact Int.ofNat.inj e
    rcases hc with rfl | rfl <;> exact absurd h (by decide)

section
variable {t : ByteArray} {i : Nat} {op : Bool} (hi : i < t.size)

theorem win_first : 1 ≤ (winB t i).size → aheadB (winB t i) 0 = aheadB t i := fun h => by
  have := ahead_win (t := t) (i := i) (q := 0) (by omega); simpa using this

include hi
/-- No rule of the reference takes more than the lexer's of its kind. -/
theorem val_le {name : Bool} {r : Nat × ByteArray} (hr : r ∈ rulesL) : (r.1 = 1 ∧ valR name op t i r ≤ ruleN t i op 0) ∨ (r.1 = 2 ∧ valR name op t i r ≤ ruleN t i op 1) ∨ (r.1 = 3 ∧ valR name op t i r ≤ ruleN t i op 2) ∨ (r.1 = 4 ∧ valR name op t i r ≤ ruleN t i op 3) ∨ (r.1 = 6 ∧ valR name op t i r ≤ ruleN t i op 5) := by
  have hw := win_sz t i
  have h0 := win_first (t := t) (i := i) (by omega)
  have hle : ∀ r, valR name op t i r ≤ longR r.2 (winB t i) := fun r => by unfold valR; split <;> omega
  rcases mem_rules.1 hr with ⟨k, hk, h⟩ | h | h | h | h
  · rcases h with rfl | rfl | rfl | rfl | ⟨j, hj, rfl⟩
    · left
      refine ⟨rfl, Nat.le_trans (hle _) (Nat.le_trans (long_n hk _) ?_)⟩
      show plainN (winB t i) ≤ nameN (winB t i)
      unfold nameN; split <;> omega
    · left; exact ⟨rfl, Nat.le_trans (hle _) (long_at hk _)⟩
    · right; right; left
      refine ⟨rfl, ?_⟩
      unfold valR
      by_cases hs : skipB name op t i (3, nB k ++ colB) = true
      · rw [if_pos hs]; omega
      · rw [if_neg hs]
        rcases long_col hk (winB t i) with e | ⟨e1, e2, e3⟩
        · show longR (nB k ++ colB) (winB t i) ≤ _
          omega
        · show longR (nB k ++ colB) (winB t i) ≤ keyN t i (winB t i)
          have ha : allowB 3 (nB k ++ colB) t i = true := by
            cases ha : allowB 3 (nB k ++ colB) t i with
            | true => rfl
            | false => exact absurd (by unfold skipB; simp only; rw [ha]; simp) hs
          unfold allowB at ha
          rw [e1, if_neg (by omega), if_pos rfl] at ha
          unfold keyN
          rw [if_neg e2, if_pos e3, if_neg (by simpa using ha), e1]
          exact Nat.le_refl _
    · right; right; right; right
      refine ⟨rfl, Nat.le_trans (hle _) ?_⟩
      show longR (qB ++ nB k) (winB t i) ≤ patN t i (winB t i)
      rcases long_q hk (winB t i) with e | ⟨e1, e2, e3⟩
      · omega
      · rw [patN_rest, if_pos e1, if_neg e2]
        split
        · split
          · exact e3
          · split <;> omega
        · exact e3
    · right; right; right; right
      refine ⟨rfl, Nat.le_trans (hle _) ?_⟩
      show longR ((qB ++ nB k ++ colB) ++ nB j) (winB t i) ≤ patN t i (winB t i)
      rcases long_qq hk hj (winB t i) with e | ⟨e1, e2, e3, e4, e5⟩
      · omega
      · have hf := (plain_is e4).first
        have hsz := ahead_nw ((plain_is e4).all 0 (Nat.le_refl _) (plain_is e4).lt)
        rw [rest_size] at hsz
        rw [ahead_rest, Nat.add_zero, ahead_win (by omega)] at hf
        have hj := first_joins hf
        rw [patN_rest, if_pos e1, if_neg e2, if_pos e3, show plainN (restB (winB t i) 1) + 1 + 1 = plainN (restB (winB t i) 1) + 2 by omega, hj, if_neg (by simp), if_pos (by omega)]
        exact e5
  · subst h
    right; left
    refine ⟨rfl, Nat.le_trans (hle _) ?_⟩
    show longR dB (winB t i) ≤ intN (winB t i) (aheadB t i) op
    rw [long_d]
    unfold intN
    have hr0 : (winB t i).extract 0 (winB t i).size = winB t i := by apply ByteArray.ext; simp
    rw [hr0]
    split
    · rename_i hc
      rw [Bool.and_eq_true, beq_iff_eq] at hc
      rw [runN_no (s := winB t i) (k := 0) (by omega) (by rw [← aheadB_lt (by omega), h0, hc.1]; decide)]
      omega
    · exact Nat.le_refl _
  · subst h
    right; left
    refine ⟨rfl, ?_⟩
    show _ ≤ intN (winB t i) (aheadB t i) op
    unfold valR
    by_cases hs : skipB name op t i (2, mB) = true
    · rw [if_pos hs]; omega
    · rw [if_neg hs]
      show longR mB (winB t i) ≤ _
      rw [long_m, h0]
      by_cases h45 : aheadB t i = 45
      · have ho : op = false := by
          cases op with
          | false => rfl
          | true => exact absurd (by unfold skipB; simp only; rw [show (aheadB mB 0 == 45) = true from rfl]; simp) hs
        subst ho
        rw [if_pos h45]
        unfold intN
        rw [h45, if_pos (show ((45 : UInt8) == 45 && !false) = true from rfl)]
        exact Nat.le_refl _
      · rw [if_neg h45]; omega
  · subst h
    right; right; right; left
    refine ⟨rfl, Nat.le_trans (hle _) ?_⟩
    show longR tB (winB t i) ≤ hashN (restB t i)
    rw [show tB = ⟨#[35, 116]⟩ from rfl, long_two (by decide) (by decide) (by decide)]
    split
    · rename_i hc
      have hp : Lib.hasPrefix (restB t i).data.toList [35, 116] = true := by
        have e0 : (restB t i).data.toList[0]? = some 35 := by rw [Array.getElem?_toList, ahead_data (by rw [rest_size]; omega), ahead_rest, Nat.add_zero, ← h0, hc.1]
        have e1 : (restB t i).data.toList[1]? = some 116 := by rw [Array.getElem?_toList, ahead_data (by rw [rest_size]; omega), ahead_rest, ← ahead_win (by omega), hc.2.1]
        generalize (restB t i).data.toList = l at e0 e1
        match l, e0, e1 with
        | x :: y :: l, e0, e1 => simp at e0 e1; subst e0 e1; simp [Lib.hasPrefix, List.isPrefixOf]
      unfold hashN; rw [hp]; exact Nat.le_refl _
    · omega
  · subst h
    right; right; right; left
    refine ⟨rfl, Nat.le_trans (hle _) ?_⟩
    show longR fB (winB t i) ≤ hashN (restB t i)
    rw [show fB = ⟨#[35, 102]⟩ from rfl, long_two (by decide) (by decide) (by decide)]
    split
    · rename_i hc
      have hp : Lib.hasPrefix (restB t i).data.toList [35, 102] = true := by
        have e0 : (restB t i).data.toList[0]? = some 35 := by rw [Array.getElem?_toList, ahead_data (by rw [rest_size]; omega), ahead_rest, Nat.add_zero, ← h0, hc.1]
        have e1 : (restB t i).data.toList[1]? = some 102 := by rw [Array.getElem?_toList, ahead_data (by rw [rest_size]; omega), ahead_rest, ← ahead_win (by omega), hc.2.1]
        generalize (restB t i).data.toList = l at e0 e1
        match l, e0, e1 with
        | x :: y :: l, e0, e1 => simp at e0 e1; subst e0 e1; simp [Lib.hasPrefix, List.isPrefixOf]
      unfold hashN; rw [hp]; simp
    · omega

omit hi in
theorem val_is {name : Bool} {r : Nat × ByteArray} (hn : name = false ∨ r.1 = 1 ∨ r.1 = 3) (ho : op = false ∨ aheadB r.2 0 ≠ 45) (ha : allowB r.1 r.2 t i = true) : valR name op t i r = longR r.2 (winB t i) := by
  have hs : skipB name op t i r = false := by
    unfold skipB
    rw [ha]
    have h1 : (name && (r.1 != 1 && r.1 != 3)) = false := by
      rcases hn with h | h | h
      · rw [h]; rfl
      · rw [h]; simp
      · rw [h]; simp
    have h2 : (op && aheadB r.2 0 == 45) = false := by
      rcases ho with h | h
      · rw [h]; rfl
      · rw [show (aheadB r.2 0 == 45) = false by simpa using h]; simp
    rw [h1, h2]; rfl
  unfold valR
  rw [if_neg (by rw [hs]; simp)]
omit hi in
theorem nB_byte (k : Nat) : aheadB (nB k) 0 ≠ 45 := by unfold nB; split <;> decide
omit hi in
theorem app_byte {A B : ByteArray} (h : 0 < A.size) : aheadB (A ++ B) 0 = aheadB A 0 := by
  have hsz : (A ++ B).size = A.size + B.size := ByteArray.size_append
  rw [aheadB_lt h, aheadB_lt (by omega), ByteArray.getElem_append_left h]

omit hi in
theorem val_ex0 {name : Bool} (h : ruleN t i op 0 ≠ 0) : ∃ r ∈ rulesL, r.1 = 1 ∧ valR name op t i r = ruleN t i op 0 := by
  change nameN (winB t i) ≠ 0 at h
  show ∃ r ∈ rulesL, r.1 = 1 ∧ valR name op t i r = nameN (winB t i)
  have hp : plainN (winB t i) ≠ 0 := by intro e; apply h; unfold nameN; rw [if_pos e]
  have hn : nameN (winB t i) = plainN (winB t i) + libN (restB (winB t i) (plainN (winB t i))) := by unfold nameN; rw [if_neg hp]; rfl
  have fin : ∀ k P, k < 4 → OfKind k (1, P) → aheadB P 0 ≠ 45 → longR P (winB t i) = nameN (winB t i) → ∃ r ∈ rulesL, r.1 = 1 ∧ valR name op t i r = nameN (winB t i) := by
    intro k P hk hK h45 hl
    refine ⟨(1, P), mem_rules.2 (Or.inl ⟨k, hk, hK⟩), rfl, ?_⟩
    rw [val_is (Or.inr (Or.inl rfl)) (Or.inr h45), hl]
    unfold allowB
    simp only
    rw [hl, if_neg h, if_neg (by omega), if_neg (by omega)]
  by_cases hl : libN (restB (winB t i) (plainN (winB t i))) = 0
  · obtain ⟨k, hk, he⟩ := long_n_ex (winB t i)
    exact fin k (nB k) hk (Or.inl rfl) (nB_byte k) (by omega)
  · obtain ⟨k, hk, he⟩ := long_at_ex hl hp
    exact fin k (nB k ++ atB) hk (Or.inr (Or.inl rfl)) (by rw [app_byte (nB_head k).2.1]; exact nB_byte k) he
omit hi in
theorem val_ex2 {name : Bool} (h : ruleN t i op 2 ≠ 0) : ∃ r ∈ rulesL, r.1 = 3 ∧ valR name op t i r = ruleN t i op 2 := by
  change keyN t i (winB t i) ≠ 0 at h
  show ∃ r ∈ rulesL, r.1 = 3 ∧ valR name op t i r = keyN t i (winB t i)
  have hk := h
  unfold keyN at hk
  by_cases hp : plainN (winB t i) = 0
  · rw [if_pos hp] at hk; exact absurd rfl hk
  · rw [if_neg hp] at hk
    by_cases h58 : aheadB (winB t i) (plainN (winB t i)) = 58
    · rw [if_pos h58] at hk
      by_cases hj : joinsB (aheadB t (i + (plainN (winB t i) + 1))) = true
      · rw [if_pos hj] at hk; exact absurd rfl hk
      · have e : keyN t i (winB t i) = plainN (winB t i) + 1 := by unfold keyN; rw [if_neg hp, if_pos h58, if_neg hj]
        obtain ⟨k, hk4, hl⟩ := long_col_ex hp h58
        refine ⟨(3, nB k ++ colB), mem_rules.2 (Or.inl ⟨k, hk4, Or.inr (Or.inr (Or.inl rfl))⟩), rfl, ?_⟩
        rw [val_is (Or.inr (Or.inr rfl)) (Or.inr (by rw [app_byte (nB_head k).2.1]; exact nB_byte k)), e]
        · exact hl
        · unfold allowB
          simp only [hl]
          rw [if_neg (by omega)]
          simpa using hj
    · rw [if_neg h58] at hk; exact absurd rfl hk
theorem val_ex1 (h : ruleN t i op 1 ≠ 0) : ∃ r ∈ rulesL, r.1 = 2 ∧ valR false op t i r = ruleN t i op 1 := by
  have hw := win_sz t i
  have h0 := win_first (t := t) (i := i) (by omega)
  change intN (winB t i) (aheadB t i) op ≠ 0 at h
  show ∃ r ∈ rulesL, r.1 = 2 ∧ valR false op t i r = intN (winB t i) (aheadB t i) op
  have hall : ∀ P, longR P (winB t i) ≠ 0 → allowB 2 P t i = true := fun P hP => by unfold allowB; rw [if_neg hP, if_neg (by omega), if_neg (by omega)]
  have hr0 : (winB t i).extract 0 (winB t i).size = winB t i := by apply ByteArray.ext; simp
  unfold intN at h ⊢
  rw [hr0] at h ⊢
  by_cases hc : (aheadB t i == 45 && !op) = true
  · rw [if_pos hc] at h ⊢
    rw [Bool.and_eq_true, beq_iff_eq] at hc
    have hl : longR mB (winB t i) = if runN bD (restB (winB t i) 1) 0 = 0 then 0 else 1 + runN bD (restB (winB t i) 1) 0 := by rw [long_m, h0, if_pos hc.1]
    refine ⟨(2, mB), mem_rules.2 (Or.inr (Or.inr (Or.inl rfl))), rfl, ?_⟩
    exact (val_is (r := (2, mB)) (Or.inl rfl) (Or.inl (by simpa using hc.2)) (hall mB (by rw [hl]; exact h))).trans hl
  · rw [if_neg hc] at h ⊢
    refine ⟨(2, dB), mem_rules.2 (Or.inr (Or.inl rfl)), rfl, ?_⟩
    exact (val_is (r := (2, dB)) (Or.inl rfl) (Or.inr (show aheadB dB 0 ≠ 45 by decide)) (hall dB (by rw [long_d]; exact h))).trans (long_d _)
theorem val_ex3 (h : ruleN t i op 3 ≠ 0) : ∃ r ∈ rulesL, r.1 = 4 ∧ valR false op t i r = ruleN t i op 3 := by
  have hw := win_sz t i
  change hashN (restB t i) ≠ 0 at h
  show ∃ r ∈ rulesL, r.1 = 4 ∧ valR false op t i r = hashN (restB t i)
  have hh : hashN (restB t i) = 2 := by unfold hashN at h ⊢; split at h; rename_i hc; rw [if_pos hc]; exact absurd rfl h
  rw [hh]
  have key : ∀ b : UInt8, Lib.hasPrefix (restB t i).data.toList [35, b] = true → aheadB (winB t i) 0 = 35 ∧ aheadB (winB t i) 1 = b ∧ 2 ≤ (winB t i).size := by
    intro b hp
    simp only [Lib.hasPrefix, List.isPrefixOf_iff_prefix] at hp
    have hlen := hp.length_le
    simp at hlen
    rw [rest_size] at hlen
    obtain ⟨z, hz⟩ := hp
    have e0 : (restB t i).data.toList[0]? = some (aheadB (restB t i) 0) := by rw [Array.getElem?_toList]; exact ahead_data (by rw [rest_size]; omega)
    have e1 : (restB t i).data.toList[1]? = some (aheadB (restB t i) 1) := by rw [Array.getElem?_toList]; exact ahead_data (by rw [rest_size]; omega)
    rw [← hz, ahead_rest] at e0 e1
    simp at e0 e1
    exact ⟨by rw [ahead_win (by omega), Nat.add_zero]; exact e0.symm, by rw [ahead_win (by omega)]; exact e1.symm, by omega⟩
  have hall : ∀ P, longR P (winB t i) = 2 → allowB 4 P t i = true := fun P hP => by unfold allowB; rw [hP, if_neg (by omega), if_neg (by omega), if_neg (by omega)]
  unfold hashN at h
  by_cases ht : Lib.hasPrefix (restB t i).data.toList [35, 116] = true
  · have hl : longR tB (winB t i) = 2 := by rw [show tB = ⟨#[35, 116]⟩ from rfl, long_two (by decide) (by decide) (by decide), if_pos (key _ ht)]
    exact ⟨(4, tB), mem_rules.2 (Or.inr (Or.inr (Or.inr (Or.inl rfl)))), rfl, (val_is (r := (4, tB)) (Or.inl rfl) (Or.inr (show aheadB tB 0 ≠ 45 by decide)) (hall tB hl)).trans hl⟩
  · by_cases hf : Lib.hasPrefix (restB t i).data.toList [35, 102] = true
    · have hl : longR fB (winB t i) = 2 := by rw [show fB = ⟨#[35, 102]⟩ from rfl, long_two (by decide) (by decide) (by decide), if_pos (key _ hf)]
      exact ⟨(4, fB), mem_rules.2 (Or.inr (Or.inr (Or.inr (Or.inr rfl)))), rfl, (val_is (r := (4, fB)) (Or.inl rfl) (Or.inr (show aheadB fB 0 ≠ 45 by decide)) (hall fB hl)).trans hl⟩
    · rw [if_neg (by simp [ht, hf])] at h; exact absurd rfl h
end
end

section

theorem ext_byte {t : ByteArray} {i n j : Nat} (hn : i + n ≤ t.size) (hj : j < n) : (t.extract i (i + n)).data.toList[j]? = some (aheadB t (i + j)) := by
  rw [Array.getElem?_toList, ahead_data (by rw [ByteArray.size_extract]; omega), ahead_part (by omega) (by omega)]

theorem val_ex5 {t : ByteArray} {i : Nat} {op : Bool} (hi : i < t.size) (h : ruleN t i op 5 ≠ 0) : ∃ r ∈ rulesL, r.1 = 6 ∧ valR false op t i r = ruleN t i op 5 := by
  have hw := win_sz t i
  change patN t i (winB t i) ≠ 0 at h
  show ∃ r ∈ rulesL, r.1 = 6 ∧ valR false op t i r = patN t i (winB t i)
  have h63 := (pat_ge h).2
  have hp1 : plainN (restB (winB t i) 1) ≠ 0 := by
    intro e
    rw [patN_rest, if_pos h63, if_pos e] at h
    exact absurd rfl h
  obtain ⟨p, hp⟩ : ∃ p, p = plainN (restB (winB t i) 1) := ⟨_, rfl⟩
  have hP := (plain_is hp1).of_rest
  rw [← hp] at hP hp1
  have hple := plainN_le (restB (winB t i) 1)
  rw [rest_size, ← hp] at hple
  have hb : ∀ q, q < (winB t i).size → aheadB t (i + q) = aheadB (winB t i) q := fun q hq => (ahead_win hq).symm
  have hno : ∀ q, q < 1 + p → aheadB (winB t i) q ≠ 58 := by
    intro q hq e
    by_cases q0 : q = 0
    · rw [q0, h63] at e; exact absurd e (by decide)
    · have := hP.all q (by omega) hq
      rw [e] at this; exact absurd this (by decide)
  by_cases hf : aheadB (winB t i) (p + 1) = 58 ∧ joinsB (aheadB t (i + (p + 1 + 1))) = false ∧ 0 < plainN (restB (winB t i) (p + 1 + 1))
  · obtain ⟨h58, hj, hp2⟩ := hf
    have e12 : p + 1 + 1 = p + 2 := by omega
    rw [e12] at hj hp2
    have e : patN t i (winB t i) = p + 2 + plainN (restB (winB t i) (p + 2)) := by
      rw [patN_rest, ← hp, e12, if_pos h63, if_neg hp1, if_pos h58, hj, if_neg (by simp), if_pos hp2]
    obtain ⟨a, b, ha, hb4, hl⟩ := long_qq_ex (s := winB t i) h63 (by rw [← hp]; exact hp1) (by rw [← hp]; exact h58) (by rw [← hp]; omega)
    rw [← hp] at hl
    have hle := plainN_le (restB (winB t i) (p + 2))
    rw [rest_size] at hle
    have hal : allowB 6 ((qB ++ nB a ++ colB) ++ nB b) t i = true := by
      unfold allowB
      rw [hl, if_neg (by omega), if_neg (by omega), if_pos rfl]
      have hx : Lib.indexByte (t.extract i (i + (p + 2 + plainN (restB (winB t i) (p + 2))))).data.toList 58 = ((p + 1 : Nat) : Int) := by
        refine idx_at 58 _ (p + 1) (fun j hjj => ?_) ?_
        · rw [ext_byte (by omega) (by omega), hb j (by omega)]
          intro e; exact hno j (by omega) (Option.some.inj e)
        · rw [ext_byte (by omega) (by omega), hb _ (by omega), h58]
      rw [hx, if_neg (by omega)]
      rw [show i + (((p + 1 : Nat) : Int)).toNat + 1 = i + (p + 2) by omega, hj]; rfl
    refine ⟨(6, (qB ++ nB a ++ colB) ++ nB b), mem_rules.2 (Or.inl ⟨a, ha, Or.inr (Or.inr (Or.inr (Or.inr ⟨b, hb4, rfl⟩)))⟩), rfl, ?_⟩
    rw [e]
    refine (val_is (r := (6, (qB ++ nB a ++ colB) ++ nB b)) (Or.inl rfl) (Or.inr ?_) hal).trans hl
    show aheadB ((qB ++ nB a ++ colB) ++ nB b) 0 ≠ 45
    rw [app_byte (by rw [ByteArray.size_append, ByteArray.size_append]; have : qB.size = 1 := rfl; omega), app_byte (by rw [ByteArray.size_append]; have : qB.size = 1 := rfl; omega), app_byte (by decide)]
    decide
  · have e : patN t i (winB t i) = p + 1 := by
      rw [patN_rest, ← hp, if_pos h63, if_neg hp1]
      split
      · rename_i h58
        split
        · rfl
        · rename_i hj
          rw [if_neg (fun hp2 => hf ⟨h58, by simpa using hj, hp2⟩)]
      · rfl
    obtain ⟨k, hk, hl⟩ := long_q_ex (s := winB t i) h63 (by rw [← hp]; exact hp1)
    rw [← hp] at hl
    have hal : allowB 6 (qB ++ nB k) t i = true := by
      unfold allowB
      rw [hl, if_neg (by omega), if_neg (by omega), if_pos rfl]
      have hx : Lib.indexByte (t.extract i (i + (p + 1))).data.toList 58 = -1 := by
        refine idx_none 58 _ (fun j hjj => ?_)
        have hjl : j < p + 1 := by simp at hjj; omega
        rw [ext_byte (by omega) hjl, hb j (by omega)]
        intro e; exact hno j (by omega) (Option.some.inj e)
      rw [hx, if_pos (by omega)]
    refine ⟨(6, qB ++ nB k), mem_rules.2 (Or.inl ⟨k, hk, Or.inr (Or.inr (Or.inr (Or.inl rfl)))⟩), rfl, ?_⟩
    rw [e]
    refine (val_is (r := (6, qB ++ nB k)) (Or.inl rfl) (Or.inr ?_) hal).trans hl
    show aheadB (qB ++ nB k) 0 ≠ 45
    rw [app_byte (by decide)]
    decide

theorem best_zero {m : Nat → Nat} (h : ∀ q, m q ≤ 0) : ∀ n, bestTo m n = (0, 0)
  | 0 => rfl
  | n + 1 => by
    rw [bestTo, best_zero h n, if_neg (by have := h n; simp only; omega)]

/-- Where a plain name begins no other rule takes as much. -/
theorem name_first {t : ByteArray} {i : Nat} {op : Bool} (hi : i < t.size) (hp : plainN (winB t i) ≠ 0) : ruleN t i op 1 = 0 ∧ ruleN t i op 3 = 0 ∧ ruleN t i op 5 = 0 ∧ ruleN t i op 4 ≤ ruleN t i op 0 := by
  have hw := win_sz t i
  have h0 := win_first (t := t) (i := i) (by omega)
  have hP := plain_is hp
  have hf := hP.first
  rw [h0] at hf
  have hne : ∀ b : UInt8, (bL b || bB b) = false → aheadB t i ≠ b := by
    intro b hb e
    rw [e, hb] at hf; cases hf
  have hnm : plainN (winB t i) ≤ nameN (winB t i) := by unfold nameN; split <;> omega
  refine ⟨?_, ?_, ?_, ?_⟩
  · show intN (winB t i) (aheadB t i) op = 0
    have hr0 : (winB t i).extract 0 (winB t i).size = winB t i := by apply ByteArray.ext; simp
    unfold intN
    rw [hr0, if_neg (by rw [show (aheadB t i == 45) = false by simpa using hne 45 (by decide)]; simp)]
    refine runN_no (s := winB t i) (k := 0) (by omega) ?_
    rw [← aheadB_lt (by omega), h0]
    have hd : ∀ n : Fin 256, (bL (UInt8.ofNat n.val) || bB (UInt8.ofNat n.val)) = true → bD (UInt8.ofNat n.val) = false := by decide +kernel
    have := hd ⟨(aheadB t i).toNat, (aheadB t i).toNat_lt⟩
    simp only [UInt8.ofNat_toNat] at this
    exact this hf
  · show hashN (restB t i) = 0
    have hpf : ∀ b, Lib.hasPrefix (restB t i).data.toList [35, b] = false := by
      intro b
      apply Bool.eq_false_iff.2
      intro hx
      simp only [Lib.hasPrefix, List.isPrefixOf_iff_prefix] at hx
      obtain ⟨z, hz⟩ := hx
      have e0 : (restB t i).data.toList[0]? = some (aheadB (restB t i) 0) := by rw [Array.getElem?_toList]; exact ahead_data (by rw [rest_size]; omega)
      rw [← hz, ahead_rest, Nat.add_zero] at e0
      simp at e0
      exact hne 35 (by decide) e0.symm
    unfold hashN; rw [hpf, hpf]; rfl
  · show patN t i (winB t i) = 0
    rw [patN_rest, if_neg (by rw [h0]; exact hne 63 (by decide))]
  · show signN (winB t i) ≤ nameN (winB t i)
    refine Nat.le_trans ?_ hnm
    rw [sign_win hi]
    have hlt := hP.lt
    by_cases h2 : i + 2 ≤ t.size ∧ signTwo [aheadB t i, aheadB t (i + 1)] = true
    · rw [if_pos h2]
      apply Nat.le_of_not_lt; intro hlt2
      have h1 : plainN (winB t i) = 1 := by omega
      rw [h1] at hP
      obtain ⟨q, q1, q2, q3⟩ := hP.letter
      rw [show q = 0 by omega, h0] at q3
      have hs := h2.2
      simp only [signTwo, Bool.or_eq_true, beq_iff_eq, List.cons.injEq] at hs
      rcases hs with ((((⟨e, _⟩ | ⟨e, _⟩) | ⟨e, _⟩) | ⟨e, _⟩) | ⟨e, _⟩) | ⟨e, _⟩ <;> (rw [e] at q3; exact absurd q3 (by decide))
    · rw [if_neg h2]
      split <;> omega

/-- THE REFERENCE's BEST RULE IS THE LEXER's. -/
theorem best_same {t : ByteArray} {i : Nat} {op : Bool} (hi : i < t.size) : bestR t i op = bestTo (ruleN t i op) 6 := by
  have h5 : ∀ q, ruleN t i op (q + 5) = ruleN t i op 5 := fun q => rfl
  have cut6 : ∀ {l : Nat}, ruleN t i op 0 ≤ l → ruleN t i op 1 ≤ l → ruleN t i op 2 ≤ l → ruleN t i op 3 ≤ l → ruleN t i op 4 ≤ l → ruleN t i op 5 ≤ l → ∀ q, ruleN t i op q ≤ l := by
    intro l a0 a1 a2 a3 a4 a5 q
    match q with
    | 0 => exact a0
    | 1 => exact a1
    | 2 => exact a2
    | 3 => exact a3
    | 4 => exact a4
    | q + 5 => exact a5
  unfold bestR
  rw [nm_iff]
  by_cases hp : plainN (winB t i) = 0
  · rw [if_neg (by simp [hp])]
    have z0 : ruleN t i op 0 = 0 := by show nameN (winB t i) = 0; unfold nameN; rw [if_pos hp]
    have z2 : ruleN t i op 2 = 0 := by show keyN t i (winB t i) = 0; unfold keyN; rw [if_pos hp]
    have C := chosen_all false op t i rulesL
    obtain ⟨F, hF⟩ : ∃ F, F = rulesL.foldl (stepR false op t i) (0, 0) := ⟨_, rfl⟩
    rw [← hF] at C ⊢
    obtain ⟨s1, s2, s3⟩ := signs_fold (t := t) (i := i) signL F
    obtain ⟨R, hR⟩ : ∃ R, R = signL.foldl (stepS t i) F := ⟨_, rfl⟩
    rw [← hR] at s1 s2 s3 ⊢
    have b1 : ruleN t i op 1 ≤ F.2 := by
      by_cases e : ruleN t i op 1 = 0
      · omega
      · obtain ⟨r, hr, _, hv⟩ := val_ex1 hi e; rw [← hv]; exact C.most r hr
    have b3 : ruleN t i op 3 ≤ F.2 := by
      by_cases e : ruleN t i op 3 = 0
      · omega
      · obtain ⟨r, hr, _, hv⟩ := val_ex3 hi e; rw [← hv]; exact C.most r hr
    have b5 : ruleN t i op 5 ≤ F.2 := by
      by_cases e : ruleN t i op 5 = 0
      · omega
      · obtain ⟨r, hr, _, hv⟩ := val_ex5 hi e; rw [← hv]; exact C.most r hr
    have b4 : ruleN t i op 4 ≤ R.2 := by
      show signN (winB t i) ≤ R.2
      by_cases e : signN (winB t i) = 0
      · omega
      · obtain ⟨x, hx, hv⟩ := valS_ex hi e; rw [← hv]; exact s2 x hx
    have most := cut6 (l := R.2) (by omega) (by omega) (by omega) (by omega) b4 (by omega)
    rcases s3 with e | ⟨x, hx, e, hlt⟩
    · rcases C.one with z | ⟨r, hr, hre, hpos⟩
      · rw [e, z]
        exact (best_zero (fun q => by have := most q; rw [e, z] at this; exact this) 6).symm
      · have hF2 : F.2 = valR false op t i r := by rw [hre]
        have hF1 : F.1 = r.1 := by rw [hre]
        have l1 : r.1 ≠ 2 → 2 < r.1 → ruleN t i op 1 < F.2 := fun h2 h3 => by
          refine Nat.lt_of_le_of_ne b1 fun he => ?_
          obtain ⟨r', hr', hk, hv⟩ := val_ex1 hi (op := op) (by omega)
          have := C.least r' hr' (by omega) (by omega); omega
        have l3 : 4 < r.1 → ruleN t i op 3 < F.2 := fun h3 => by
          refine Nat.lt_of_le_of_ne b3 fun he => ?_
          obtain ⟨r', hr', hk, hv⟩ := val_ex3 hi (op := op) (by omega)
          have := C.least r' hr' (by omega) (by omega); omega
        rw [e] at most b4
        rw [e]
        rcases val_le (op := op) hi (name := false) hr with ⟨k, hv⟩ | ⟨k, hv⟩ | ⟨k, hv⟩ | ⟨k, hv⟩ | ⟨k, hv⟩
        · omega
        · have hb := best_eq (m := ruleN t i op) (w := 1) (l := F.2) (by omega) most (by omega) (fun q hq => by rw [show q = 0 by omega]; omega) 6 (by omega)
          rw [hb]; exact Prod.ext (by rw [hF1, k]) rfl
        · omega
        · have := l1 (by omega) (by omega)
          have hb := best_eq (m := ruleN t i op) (w := 3) (l := F.2) (by omega) most (by omega) (fun q hq => by
            have : q = 0 ∨ q = 1 ∨ q = 2 := by omega
            rcases this with rfl | rfl | rfl <;> omega) 6 (by omega)
          rw [hb]; exact Prod.ext (by rw [hF1, k]) rfl
        · have := l1 (by omega) (by omega)
          have := l3 (by omega)
          have hpat : ruleN t i op 5 = F.2 := by omega
          have hg := pat_ge (t := t) (i := i) (s := winB t i) (show patN t i (winB t i) ≠ 0 by show ruleN t i op 5 ≠ 0; omega)
          have hg1 : 2 ≤ ruleN t i op 5 := hg.1
          have h4 : ruleN t i op 4 ≤ 1 := by
            show signN (winB t i) ≤ 1
            rw [sign_win hi]
            have hw := win_sz t i
            have h0 := win_first (t := t) (i := i) (by omega)
            rw [← h0, hg.2]
            rw [if_neg (by rintro ⟨_, h⟩; simp [signTwo] at h)]
            split <;> omega
          have hb := best_eq (m := ruleN t i op) (w := 5) (l := F.2) (by omega) most (by omega) (fun q hq => by
            have : q = 0 ∨ q = 1 ∨ q = 2 ∨ q = 3 ∨ q = 4 := by omega
            rcases this with rfl | rfl | rfl | rfl | rfl <;> omega) 6 (by omega)
          rw [hb]; exact Prod.ext (by rw [hF1, k]) rfl
    · have h4 := valS_le hi x hx
      have hR2 : R.2 = valS t i x := by rw [e]
      have h4' : valS t i x ≤ ruleN t i op 4 := h4
      have hb := best_eq (m := ruleN t i op) (w := 4) (l := R.2) (by omega) most (by omega) (fun q hq => by
        have : q = 0 ∨ q = 1 ∨ q = 2 ∨ q = 3 := by omega
        rcases this with rfl | rfl | rfl | rfl <;> omega) 6 (by omega)
      rw [hb]; exact Prod.ext (by rw [e]) rfl
  · rw [if_pos (by simp; omega)]
    obtain ⟨n1, n3, n5, n4⟩ := name_first (op := op) hi hp
    have C := chosen_all true op t i rulesL
    obtain ⟨F, hF⟩ : ∃ F, F = rulesL.foldl (stepR true op t i) (0, 0) := ⟨_, rfl⟩
    rw [← hF] at C ⊢
    have hn0 : ruleN t i op 0 ≠ 0 := by show nameN (winB t i) ≠ 0; unfold nameN; rw [if_neg hp]; omega
    have b0 : ruleN t i op 0 ≤ F.2 := by
      obtain ⟨r, hr, _, hv⟩ := val_ex0 (name := true) hn0; rw [← hv]; exact C.most r hr
    have b2 : ruleN t i op 2 ≤ F.2 := by
      by_cases e : ruleN t i op 2 = 0
      · omega
      · obtain ⟨r, hr, _, hv⟩ := val_ex2 (name := true) e; rw [← hv]; exact C.most r hr
    have most := cut6 (l := F.2) b0 (by omega) b2 (by omega) (by omega) (by omega)
    rcases C.one with z | ⟨r, hr, hre, hpos⟩
    · rw [z] at b0; simp only at b0; omega
    · have hF2 : F.2 = valR true op t i r := by rw [hre]
      have hF1 : F.1 = r.1 := by rw [hre]
      rcases val_le (op := op) hi (name := true) hr with ⟨k, hv⟩ | ⟨k, hv⟩ | ⟨k, hv⟩ | ⟨k, hv⟩ | ⟨k, hv⟩
      · have hb := best_eq (m := ruleN t i op) (w := 0) (l := F.2) (by omega) most (by omega) (fun q hq => by omega) 6 (by omega)
        rw [hb]; exact Prod.ext (by rw [hF1, k]) rfl
      · omega
      · have l0 : ruleN t i op 0 < F.2 := by
          refine Nat.lt_of_le_of_ne b0 fun he => ?_
          obtain ⟨r', hr', hk, hv⟩ := val_ex0 (name := true) hn0
          have := C.least r' hr' (by omega) (by omega); omega
        have hb := best_eq (m := ruleN t i op) (w := 2) (l := F.2) (by omega) most (by omega) (fun q hq => by
          have : q = 0 ∨ q = 1 := by omega
          rcases this with rfl | rfl <;> omega) 6 (by omega)
        rw [hb]; exact Prod.ext (by rw [hF1, k]) rfl
      · omega
      · omega
end

section

theorem hash_one {t : ByteArray} {i : Nat} (hi : i < t.size) (h : hashN (restB t i) ≠ 0) : aheadB t i = 35 ∧ hashN (restB t i) = 2 := by
  unfold hashN at h ⊢
  have hx : ∀ b, Lib.hasPrefix (restB t i).data.toList [35, b] = true → aheadB t i = 35 := by
    intro b hx
    simp only [Lib.hasPrefix, List.isPrefixOf_iff_prefix] at hx
    obtain ⟨z, hz⟩ := hx
    have e0 : (restB t i).data.toList[0]? = some (aheadB (restB t i) 0) := by rw [Array.getElem?_toList]; exact ahead_data (by rw [rest_size]; omega)
    rw [← hz, ahead_rest, Nat.add_zero] at e0
    simp at e0
    exact e0.symm
  split at h
  · rename_i hp
    rw [if_pos hp]
    rw [Bool.or_eq_true] at hp
    rcases hp with hp | hp <;> exact ⟨hx _ hp, rfl⟩
  · exact absurd rfl h

theorem hash_only {t : ByteArray} {i : Nat} {op : Bool} (hi : i < t.size) (h : aheadB t i = 35) (q : Nat) (hq : q ≠ 3) : ruleN t i op q = 0 := by
  have hw := win_sz t i
  have h0 := win_first (t := t) (i := i) (by omega)
  have hp : plainN (winB t i) = 0 := by
    apply Classical.byContradiction; intro hp
    have := (plain_is hp).first
    rw [h0, h] at this
    exact absurd this (by decide)
  match q with
  | 0 => show nameN (winB t i) = 0; unfold nameN; rw [if_pos hp]
  | 1 =>
    show intN (winB t i) (aheadB t i) op = 0
    have hr0 : (winB t i).extract 0 (winB t i).size = winB t i := by apply ByteArray.ext; simp
    unfold intN
    rw [hr0, h, if_neg (by simp)]
    refine runN_no (s := winB t i) (k := 0) (by omega) ?_
    rw [← aheadB_lt (by omega), h0, h]; decide
  | 2 => show keyN t i (winB t i) = 0; unfold keyN; rw [if_pos hp]
  | 3 => exact absurd rfl hq
  | 4 =>
    show signN (winB t i) = 0
    rw [sign_win hi, h, if_neg (by rintro ⟨_, h⟩; simp [signTwo] at h), if_neg (by decide)]
  | q + 5 =>
    show patN t i (winB t i) = 0
    rw [patN_rest, if_neg (by rw [h0, h]; decide)]

/-- The token's kind at a hash, and a hash at the kind. -/
theorem hash_best {t : ByteArray} {i : Nat} {op : Bool} (hi : i < t.size) : (aheadB t i = 35 → (bestTo (ruleN t i op) 6).1 = 0 ∨ bestTo (ruleN t i op) 6 = (4, 2)) ∧ ((bestTo (ruleN t i op) 6).1 = 4 → aheadB t i = 35 ∧ (bestTo (ruleN t i op) 6).2 = 2) := by
  have key : (bestTo (ruleN t i op) 6).1 ≠ 0 → ∃ j, j < 6 ∧ bestTo (ruleN t i op) 6 = (j + 1, ruleN t i op j) ∧ ruleN t i op j ≠ 0 := by
    intro h
    obtain ⟨j, hj, e⟩ := best_is _ 6 h
    have hpos := best_pos _ 6 h
    rw [e] at hpos
    exact ⟨j, hj, e, by simp only at hpos; omega⟩
  constructor
  · intro h
    by_cases h1 : (bestTo (ruleN t i op) 6).1 = 0
    · exact Or.inl h1
    · obtain ⟨j, hj, e, hn⟩ := key h1
      by_cases h3 : j = 3
      · subst h3
        exact Or.inr (by rw [e]; exact congrArg (Prod.mk 4) (hash_one hi hn).2)
      · exact absurd (hash_only hi h j h3) hn
  · intro h
    obtain ⟨j, hj, e, hn⟩ := key (by omega)
    rw [e] at h
    have h3 : j = 3 := by simp only at h; omega
    subst h3
    have := hash_one hi hn
    rw [e]
    exact this
end

end Go.Proofs.YtafncodigpjkaaaGreatDoor
