/-
  A piece depends on no byte that lies far behind it; nothing of a program is imported here.
-/
import Derived.Test.YtledmagigkpbeaaDoorMath4
namespace Go.Proofs.YtledmagigkpbeaaDoor

/-- Two texts agree on their first N bytes, and both have them. -/
structure Agree (t u : ByteArray) (N : Nat) : Prop where
  a : N ≤ t.size
  b : N ≤ u.size
  eq : ∀ j, j < N → aheadB t j = aheadB u j
theorem Agree.symm {t u : ByteArray} {N : Nat} (h : Agree t u N) : Agree u t N := ⟨h.b, h.a, fun j hj => (h.eq j hj).symm⟩
theorem Agree.le {t u : ByteArray} {N M : Nat} (h : Agree t u N) (hm : M ≤ N) : Agree t u M := ⟨Nat.le_trans hm h.a, Nat.le_trans hm h.b, fun j hj => h.eq j (Nat.lt_of_lt_of_le hj hm)⟩
theorem ahead_data {t : ByteArray} {j : Nat} (h : j < t.size) : t.data[j]? = some (aheadB t j) := by
  rw [aheadB_lt h]
  have : j < t.data.size := h
  rw [Array.getElem?_eq_getElem this]; rfl
theorem Agree.ext {t u : ByteArray} {N a b : Nat} (h : Agree t u N) (hb : b ≤ N) : t.extract a b = u.extract a b := by
  have h1 := h.a; have h2 := h.b
  have hs : t.data.size = t.size := rfl
  have hs2 : u.data.size = u.size := rfl
  apply ByteArray.ext
  apply Array.ext_getElem?
  intro j
  simp only [ByteArray.data_extract]
  by_cases hj : a + j < b
  · rw [Array.getElem?_extract, Array.getElem?_extract, if_pos (by omega), if_pos (by omega), ahead_data (by omega), ahead_data (by omega), h.eq _ (by omega)]
  · rw [Array.getElem?_extract, Array.getElem?_extract, if_neg (by omega), if_neg (by omega)]
theorem ahead_rest (t : ByteArray) (i j : Nat) : aheadB (restB t i) j = aheadB t (i + j) := by
  have hr := rest_size t i
  by_cases h : i + j < t.size
  · rw [aheadB_lt h, aheadB_lt (by omega)]
    simp [restB, ByteArray.getElem_eq_getElem_data]
  · rw [aheadB_ge (by omega), aheadB_ge (by omega)]
theorem Agree.rest {t u : ByteArray} {N : Nat} (h : Agree t u N) (i : Nat) : Agree (restB t i) (restB u i) (N - i) := by
  have h1 := h.a; have h2 := h.b
  refine ⟨by rw [rest_size]; omega, by rw [rest_size]; omega, fun j hj => ?_⟩
  rw [ahead_rest, ahead_rest, h.eq _ (by omega)]
theorem run_agree {s u : ByteArray} {N : Nat} (h : Agree s u N) (p : UInt8 → Bool) : ∀ (f k : Nat), N - k ≤ f → runN p s k < N → runN p u k = runN p s k := by
  have h1 := h.a; have h2 := h.b
  intro f
  induction f with
  | zero =>
    intro k hf hr
    by_cases hk : k < s.size
    · have := (runN_le p s k (by omega)).1; omega
    · rw [runN_end hk] at hr; omega
  | succ f ih =>
    intro k hf hr
    by_cases hk : k < N
    · have e : u[k]'(by omega) = s[k]'(by omega) := by
        have := h.eq k hk
        rw [aheadB_lt (by omega), aheadB_lt (by omega)] at this; exact this.symm
      cases hp : p (s[k]'(by omega)) with
      | true =>
        rw [runN_go (by omega) hp] at hr ⊢
        rw [runN_go (by omega) (by rw [e]; exact hp)]
        exact ih (k + 1) (by omega) hr
      | false => rw [runN_no (by omega) hp, runN_no (by omega) (by rw [e]; exact hp)]
    · by_cases hk2 : k < s.size
      · have := (runN_le p s k (by omega)).1; omega
      · rw [runN_end hk2] at hr; omega
theorem nested_ge (s : ByteArray) : ∀ (f i : Nat) (m : Int) (n : Nat), s.size - i ≤ f → nestedGo s i m = .ok n → i + 2 ≤ n := by
  intro f
  induction f with
  | zero => intro i m n hf h; rw [nested_end (by omega)] at h; cases h
  | succ f ih =>
    intro i m n hf h
    by_cases hi : i < s.size
    · cases ho : ((s.extract i (min (i + 2) s.size)).toList == [47, 42])
      · cases hc : ((s.extract i (min (i + 2) s.size)).toList == [42, 47])
        · rw [nested_on hi ho hc] at h; have := ih _ _ _ (by omega) h; omega
        · cases hz : (m - 1 == 0)
          · rw [nested_less hi ho hc hz] at h; have := ih _ _ _ (by omega) h; omega
          · rw [nested_shut hi ho hc hz] at h
            simp only [Except.ok.injEq] at h; omega
      · by_cases hd : 100 < m + 1
        · rw [nested_deep hi ho hd] at h; cases h
        · rw [nested_open hi ho hd] at h; have := ih _ _ _ (by omega) h; omega
    · rw [nested_end hi] at h; cases h
theorem nested_agree {s u : ByteArray} {N : Nat} (h : Agree s u N) : ∀ (f i : Nat) (m : Int) (n : Nat), s.size - i ≤ f → nestedGo s i m = .ok n → n ≤ N → nestedGo u i m = .ok n := by
  have h1 := h.a; have h2 := h.b
  intro f
  induction f with
  | zero => intro i m n hf hn; rw [nested_end (by omega)] at hn; cases hn
  | succ f ih =>
    intro i m n hf hn hN
    have hge := nested_ge s (f + 1) i m n hf hn
    have hi : i < s.size := by omega
    have hiu : i < u.size := by omega
    have e : u.extract i (min (i + 2) u.size) = s.extract i (min (i + 2) s.size) := by
      rw [show min (i + 2) u.size = i + 2 by omega, show min (i + 2) s.size = i + 2 by omega]; exact h.symm.ext (by omega)
    cases ho : ((s.extract i (min (i + 2) s.size)).toList == [47, 42])
    · have ho' : ((u.extract i (min (i + 2) u.size)).toList == [47, 42]) = false := by rw [e]; exact ho
      cases hc : ((s.extract i (min (i + 2) s.size)).toList == [42, 47])
      · have hc' : ((u.extract i (min (i + 2) u.size)).toList == [42, 47]) = false := by rw [e]; exact hc
        rw [nested_on hi ho hc] at hn; rw [nested_on hiu ho' hc']; exact ih _ _ _ (by omega) hn hN
      · have hc' : ((u.extract i (min (i + 2) u.size)).toList == [42, 47]) = true := by rw [e]; exact hc
        cases hz : (m - 1 == 0)
        · rw [nested_less hi ho hc hz] at hn; rw [nested_less hiu ho' hc' hz]; exact ih _ _ _ (by omega) hn hN
        · rw [nested_shut hi ho hc hz] at hn; rw [nested_shut hiu ho' hc' hz]; exact hn
    · have ho' : ((u.extract i (min (i + 2) u.size)).toList == [47, 42]) = true := by rw [e]; exact ho
      by_cases hd : 100 < m + 1
      · rw [nested_deep hi ho hd] at hn; cases hn
      · rw [nested_open hi ho hd] at hn; rw [nested_open hiu ho' hd]; exact ih _ _ _ (by omega) hn hN
theorem indexByte_agree (c : UInt8) : ∀ (xs ys : List UInt8) (N o : Nat), (∀ j, j < N → xs[j]? = ys[j]?) → Lib.indexByte xs c = o → o < N → Lib.indexByte ys c = o := by
  intro xs
  induction xs with
  | nil => intro ys N o _ h; simp [Lib.indexByte] at h
  | cons b l ih =>
    intro ys N o he h ho
    have h0 := he 0 (by omega)
    cases ys with
    | nil => simp at h0
    | cons b' l' =>
      simp at h0
      subst h0
      unfold Lib.indexByte at h ⊢
      split
      · rename_i hb; rw [if_pos hb] at h; exact h
      · rename_i hb
        rw [if_neg hb] at h
        split at h
        · omega
        · rename_i hm
          have hge := Lib.indexByte_ge l c
          obtain ⟨q, hq⟩ : ∃ q : Nat, Lib.indexByte l c = q := ⟨(Lib.indexByte l c).toNat, by
            have : ¬ Lib.indexByte l c = -1 := by simpa using hm
            omega⟩
          have := ih l' (N - 1) q (fun j hj => by have := he (j + 1) (by omega); simpa using this) hq (by omega)
          rw [this, if_neg (by simp)]
          omega
theorem prefix_two (a b : UInt8) (xs ys : List UInt8) (h0 : xs[0]? = ys[0]?) (h1 : xs[1]? = ys[1]?) : Lib.hasPrefix xs [a, b] = Lib.hasPrefix ys [a, b] := by
  cases xs with
  | nil => cases ys with
    | nil => rfl
    | cons y ys => simp at h0
  | cons x xs => cases ys with
    | nil => simp at h0
    | cons y ys =>
      simp at h0; subst h0
      cases xs with
      | nil => cases ys with
        | nil => rfl
        | cons y ys => simp at h1
      | cons x xs => cases ys with
        | nil => simp at h1
        | cons y ys => simp at h1; subst h1; simp [Lib.hasPrefix, List.isPrefixOf]
theorem Agree.list {t u : ByteArray} {N : Nat} (h : Agree t u N) (j : Nat) (hj : j < N) : t.data.toList[j]? = u.data.toList[j]? := by
  have h1 := h.a; have h2 := h.b
  rw [Array.getElem?_toList, Array.getElem?_toList, ahead_data (by omega), ahead_data (by omega), h.eq j hj]
theorem bestTo_congr {n m : Nat → Nat} (h : ∀ k, n k = m k) : ∀ k, bestTo n k = bestTo m k := by
  have : n = m := funext h
  intro k; rw [this]
/-- A piece that ends well ahead of where two texts part is the same in both. -/
theorem next_local {t u : ByteArray} {N i k l : Nat} {op : Bool} (h : Agree t u N) (hn : nextR t i op = .ok (k, l)) (hN : i + l + 102 ≤ N) : nextR u i op = .ok (k, l) := by
  have h1 := h.a; have h2 := h.b
  have hr := h.rest i
  have e0 := hr.list 0 (by omega)
  have e1 := hr.list 1 (by omega)
  have p1 := prefix_two 47 47 _ _ e0 e1
  have p2 := prefix_two 47 42 _ _ e0 e1
  have p3 := prefix_two 35 116 _ _ e0 e1
  have p4 := prefix_two 35 102 _ _ e0 e1
  have ew : winB u i = winB t i := by
    unfold winB
    rw [show min (i + 100) u.size = i + 100 by omega, show min (i + 100) t.size = i + 100 by omega]; exact h.symm.ext (by omega)
  have ea : ∀ j, j ≤ i + 101 → aheadB u j = aheadB t j := fun j hj => (h.eq j (by omega)).symm
  have hws : (winB t i).size ≤ 100 := by rw [win_sz]; omega
  have er : ∀ q, ruleN u i op q = ruleN t i op q := by
    intro q
    match q with
    | 0 => simp only [ruleN, ew]
    | 1 => simp only [ruleN, ew]; rw [ea i (by omega)]
    | 2 =>
      simp only [ruleN, ew, keyN]
      have := plainN_le (winB t i)
      rw [ea _ (by omega)]
    | 3 => simp only [ruleN, hashN]; rw [p3, p4]
    | 4 => simp only [ruleN, ew]
    | q + 5 =>
      simp only [ruleN, ew, patN]
      by_cases h63 : aheadB (winB t i) 0 = 63
      · have hz := aheadB_pos (s := winB t i) (k := 0) (by rw [h63]; decide)
        have := plainN_le ((winB t i).extract 1 (winB t i).size)
        simp only [ByteArray.size_extract, Nat.min_self] at this
        rw [ea (i + (plainN ((winB t i).extract 1 (winB t i).size) + 1 + 1)) (by omega)]
      · rw [if_neg h63, if_neg h63]
  have eb := bestTo_congr er 6
  unfold nextR at hn ⊢
  rw [← p1, ← p2, eb, ea i (by omega)]
  split
  · rename_i hp; rw [if_pos hp] at hn
    simp only [Except.ok.injEq, Prod.mk.injEq] at hn ⊢
    refine ⟨hn.1, ?_⟩
    have hl := hn.2
    unfold lineN at hl ⊢
    split at hl
    · rename_i h10
      have hi := indexByte_agree 10 _ (restB u i).data.toList (N - i) l (fun j hj => hr.list j hj) (by omega) (by omega)
      rw [hi]; simp
    · rw [rest_size] at hl; omega
  · rename_i hp; rw [if_neg hp] at hn
    split
    · rename_i hp2; rw [if_pos hp2] at hn
      split at hn
      · rename_i n hM
        simp only [Except.ok.injEq, Prod.mk.injEq] at hn
        have := nested_agree hr _ 0 0 n (Nat.le_refl _) hM (by omega)
        rw [this]; simp [hn]
      · cases hn
    · rename_i hp2; rw [if_neg hp2] at hn
      split
      · rename_i hb; rw [if_pos hb] at hn
        simp only [Except.ok.injEq, Prod.mk.injEq] at hn ⊢
        refine ⟨hn.1, ?_⟩
        have hl := hn.2
        unfold blanksN at hl ⊢
        rw [run_agree h bBlank _ (i + 1) (Nat.le_refl _) (by omega)]; exact hl
      · rename_i hb; rw [if_neg hb] at hn
        split at hn
        · rename_i hf
          have hbt : bestTo (ruleN t i op) 6 = (k, l) := by simpa using hn
          rw [hbt] at hf ⊢
          have ef : faultN u i k l = faultN t i k l := by
            unfold faultN cutB
            rw [ea i (by omega), ← h.eq (i + l) (by omega), h.ext (by omega)]
          rw [if_pos (by rw [ef]; exact hf)]
        · cases hn
end Go.Proofs.YtledmagigkpbeaaDoor
