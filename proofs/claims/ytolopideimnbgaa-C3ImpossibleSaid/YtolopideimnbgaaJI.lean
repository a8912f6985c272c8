/-
  Merging and cycles: never both, and one of the two.
-/
import Derived.Test.YtolopideimnbgaaJH
namespace Go.Proofs.Ytolopideimnbgaa
open Go.RowKit

theorem isAh_parts {L : Nms} {a b : ByteArray} (h : isAh L a b = true) : ∃ p q, L = p ++ a :: q ∧ b ∈ q := by
  unfold isAh at h
  simp only [Bool.and_eq_true, decide_eq_true_eq] at h
  obtain ⟨k, hk, hi, hx⟩ := ixM_mem h.1
  have h2 := h.2
  rw [hi] at h2
  refine ⟨L.take k, L.drop (k + 1), ?_, h2⟩
  have he := (List.getElem?_eq_some_iff.1 hx).2
  rw [← he, ← List.drop_eq_getElem_cons hk, List.take_append_drop]
theorem isAh_of {p q : Nms} {a b : ByteArray} (hn : (p ++ a :: q).Nodup) (hb : b ∈ q) : isAh (p ++ a :: q) a b = true := by
  have ha : a ∈ p ++ a :: q := by simp
  obtain ⟨k, hk, hi, hx⟩ := ixM_mem ha
  have hp : (p ++ a :: q)[p.length]? = some a := by simp
  have hkp : k = p.length := (List.getElem?_inj hk hn).1 (hx.trans hp.symm)
  unfold isAh
  rw [decide_eq_true ha, hi, hkp]
  show (true && decide (b ∈ (p ++ a :: q).drop (p.length + 1))) = true
  have hd : (p ++ a :: q).drop (p.length + 1) = q := by
    rw [show p.length + 1 = (p ++ [a]).length by simp, show p ++ a :: q = (p ++ [a]) ++ q by simp, List.drop_left]
  rw [hd, decide_eq_true hb]
  rfl
/-- Merging keeps the order of each list. -/
theorem merge_order : ∀ (n : Nat) (ls : List Nms) (m : Nms), mergeM n ls = .ok m → ∀ p a q b, (p ++ a :: q) ∈ ls → b ∈ q → ∃ i j : Nat, i < j ∧ m[i]? = some a ∧ m[j]? = some b
  | 0, ls, m, h, p, a, q, b, hL, hb => by
    unfold mergeM at h
    by_cases e : ls = []
    · subst e; cases hL
    · rw [if_neg e] at h; cases h
  | n + 1, ls, m, h, p, a, q, b, hL, hb => by
    unfold mergeM at h
    by_cases e : ls = []
    · subst e; cases hL
    · rw [if_neg e] at h
      cases hc : candM ls ls with
      | none => rw [hc] at h; cases h
      | some x =>
        rw [hc] at h
        simp only at h
        cases hm : mergeM n (nonE (ls.map (takeL x))) with
        | error e' => rw [hm] at h; cases h
        | ok m' =>
          rw [hm] at h
          cases h
          have ih := merge_order n _ m' hm
          have hmem := (merge_mem n _ m' hm).2
          have hin : ∀ l, l ∈ ls → takeL x l ≠ [] → takeL x l ∈ nonE (ls.map (takeL x)) := fun l hl hne => List.mem_filter.2 ⟨List.mem_map.2 ⟨l, hl, rfl⟩, by cases hh : takeL x l with | nil => exact absurd hh hne | cons y t => rfl⟩
          have shift : (∃ i j : Nat, i < j ∧ m'[i]? = some a ∧ m'[j]? = some b) → ∃ i j : Nat, i < j ∧ (x :: m')[i]? = some a ∧ (x :: m')[j]? = some b := fun ⟨i, j, h1, h2, h3⟩ => ⟨i + 1, j + 1, by omega, by simpa using h2, by simpa using h3⟩
          cases p with
          | nil =>
            by_cases hax : a = x
            · subst hax
              have ht : takeL a (a :: q) = q := by show (if a = a then q else a :: q) = q; rw [if_pos rfl]
              have hq := hin _ hL (by rw [List.nil_append, ht]; rintro rfl; cases hb)
              rw [List.nil_append, ht] at hq
              obtain ⟨j, hj⟩ := List.mem_iff_getElem?.1 ((hmem b).2 ⟨q, hq, hb⟩)
              exact ⟨0, j + 1, by omega, rfl, by simpa using hj⟩
            · have ht : takeL x (a :: q) = a :: q := by show (if a = x then q else a :: q) = _; rw [if_neg hax]
              have hq := hin _ hL (by rw [List.nil_append, ht]; simp)
              rw [List.nil_append, ht] at hq
              exact shift (ih [] a q b hq hb)
          | cons c p =>
            by_cases hcx : c = x
            · subst hcx
              have ht : takeL c (c :: (p ++ a :: q)) = p ++ a :: q := by show (if c = c then p ++ a :: q else c :: (p ++ a :: q)) = _; rw [if_pos rfl]
              have hq := hin _ hL (by rw [List.cons_append, ht]; simp)
              rw [List.cons_append, ht] at hq
              exact shift (ih p a q b hq hb)
            · have ht : takeL x (c :: (p ++ a :: q)) = c :: (p ++ a :: q) := by show (if c = x then p ++ a :: q else c :: (p ++ a :: q)) = _; rw [if_neg hcx]
              have hq := hin _ hL (by rw [List.cons_append, ht]; simp)
              rw [List.cons_append, ht] at hq
              exact shift (ih (c :: p) a q b hq hb)
/-- What merges has no cycle. -/
theorem no_cycle {LL : List Nms} {m l : Nms} (h : mergeM (totM (nonE LL)) (nonE LL) = .ok m) : isCyc LL l = false := by
  refine Bool.eq_false_iff.2 fun hc => ?_
  unfold isCyc at hc
  simp only [Bool.and_eq_true, decide_eq_true_eq, List.all_eq_true, List.mem_range] at hc
  obtain ⟨h2, _, hall⟩ := hc
  have hnd := (merge_mem _ _ _ h).1
  have step : ∀ i, i < l.length → ∃ u v : Nat, u < v ∧ m[u]? = some (l.getD i ⟨#[]⟩) ∧ m[v]? = some (l.getD ((i + 1) % l.length) ⟨#[]⟩) := fun i hi => by
    have := hall i hi
    unfold cycAt at this
    obtain ⟨L, hL, ha⟩ := List.any_eq_true.1 this
    obtain ⟨p, q, rfl, hb⟩ := isAh_parts ha
    exact merge_order _ _ _ h p _ q _ (List.mem_filter.2 ⟨hL, by cases p <;> rfl⟩) hb
  have uniq : ∀ {u v : Nat} {a : ByteArray}, m[u]? = some a → m[v]? = some a → u = v := fun {u v a} hu hv => (List.getElem?_inj (List.getElem?_eq_some_iff.1 hu).1 hnd).1 (hu.trans hv.symm)
  have up : ∀ i, i < l.length → ∀ u0 u : Nat, m[u0]? = some (l.getD 0 ⟨#[]⟩) → m[u]? = some (l.getD i ⟨#[]⟩) → u0 + i ≤ u := by
    intro i
    induction i with
    | zero => intro _ u0 u h0 hu; have := uniq h0 hu; omega
    | succ i ih =>
      intro hi u0 u h0 hu
      obtain ⟨a, b, hab, ha, hb⟩ := step i (by omega)
      rw [Nat.mod_eq_of_lt hi] at hb
      have := uniq hb hu
      have := ih (by omega) u0 a h0 ha
      omega
  obtain ⟨u, v, huv, hu, hv⟩ := step (l.length - 1) (by omega)
  rw [show l.length - 1 + 1 = l.length by omega, Nat.mod_self] at hv
  have := up (l.length - 1) (by omega) v u hv hu
  omega
/-- Each name of the trail is followed by the name ahead of it. -/
def Chain (ls : List Nms) (t : Nms) (x : ByteArray) : Prop := ∀ (i : Nat) (a : ByteArray), t[i]? = some a → (t ++ [x])[i + 1]? = some (ahM ls a)
theorem tr_ok {ls : List Nms} (hs : Stuck ls) : ∀ (n : Nat) (t : Nms) (x : ByteArray), t.Nodup → (∀ y ∈ t, y ∈ heads ls) → x ∈ heads ls → Chain ls t x → n + t.length = ls.length + 1 →
    (trM ls n t x).2 ∈ (trM ls n t x).1 ∧ (trM ls n t x).1.Nodup ∧ Chain ls (trM ls n t x).1 (trM ls n t x).2 ∧ ∀ y ∈ (trM ls n t x).1, y ∈ heads ls
  | 0, t, x, hn, hh, _, _, hz => by
    have := length_sub t (heads ls) hn hh
    unfold heads at this
    rw [List.length_map] at this
    omega
  | n + 1, t, x, hn, hh, hx, hc, hz => by
    unfold trM
    by_cases e : x ∈ t
    · rw [if_pos e]; exact ⟨e, hn, hc, hh⟩
    · rw [if_neg e]
      refine tr_ok hs n (t ++ [x]) (ahM ls x) (List.nodup_append.2 ⟨hn, by simp, fun a ha b hb q => e (by simp at hb; rw [← hb, ← q]; exact ha)⟩) (fun y hy => ?_) (ahM_head (head_behind hs hx)) (fun i a hi => ?_) (by simp; omega)
      · rcases List.mem_append.1 hy with h1 | h1
        · exact hh y h1
        · simp at h1; rw [h1]; exact hx
      · by_cases hl : i < t.length
        · rw [List.getElem?_append_left hl] at hi
          have := hc i a hi
          rw [List.getElem?_append_left (by simp; omega)]
          exact this
        · have hi2 := (List.getElem?_eq_some_iff.1 hi).1
          simp at hi2
          have : i = t.length := by omega
          subst this
          simp at hi
          subst hi
          rw [List.getElem?_append_right (by simp)]
          simp
theorem suffix_parts {a : ByteArray} {t L : Nms} (h : (a :: t) <:+ L) : ∃ p, L = p ++ a :: t := by
  obtain ⟨p, e⟩ := h
  exact ⟨p, e.symm⟩
/-- What is stuck has a cycle. -/
theorem has_cycle {LL ls : List Nms} (hs : Stuck ls) (hl : Left ls LL) (hnd : ∀ L ∈ LL, L.Nodup) : isCyc LL (cycM ls) = true := by
  have hah : ∀ b, b ∈ heads ls → (LL.any fun L => isAh L (ahM ls b) b) = true ∧ ahM ls b ≠ b := fun b hb => by
    obtain ⟨k, t, h1, h2, _⟩ := ahM_find (head_behind hs hb)
    obtain ⟨L, h3, h4⟩ := hl _ (List.mem_iff_getElem?.2 ⟨k, h1⟩)
    obtain ⟨p, rfl⟩ := suffix_parts h4
    have hn := hnd _ h3
    refine ⟨List.any_eq_true.2 ⟨_, h3, isAh_of hn h2⟩, fun e => ?_⟩
    rw [e] at hn
    exact (List.nodup_cons.1 (List.nodup_append.1 hn).2.1).1 h2
  obtain ⟨l0, r0, rfl⟩ : ∃ l r, ls = l :: r := by
    cases ls with
    | nil => exact absurd rfl hs.ne
    | cons l r => exact ⟨l, r, rfl⟩
  obtain ⟨x0, t0, rfl⟩ : ∃ y t, l0 = y :: t := by
    cases l0 with
    | nil => exact absurd rfl (hs.full _ (.head _))
    | cons y t => exact ⟨y, t, rfl⟩
  have hcy : cycM ((x0 :: t0) :: r0) = cutM (trM ((x0 :: t0) :: r0) (((x0 :: t0) :: r0).length + 1) [] x0).1 (trM ((x0 :: t0) :: r0) (((x0 :: t0) :: r0).length + 1) [] x0).2 := rfl
  rw [hcy]
  have htr := tr_ok hs (((x0 :: t0) :: r0).length + 1) [] x0 List.nodup_nil (fun y hy => by cases hy) (head_mem (.head _)) (fun i a h => by simp at h) rfl
  generalize trM ((x0 :: t0) :: r0) (((x0 :: t0) :: r0).length + 1) [] x0 = tx at *
  obtain ⟨t, x⟩ := tx
  obtain ⟨q1, q2, q3, q4⟩ := htr
  simp only at q1 q2 q3 q4
  generalize (x0 :: t0) :: r0 = ls at *
  obtain ⟨i, hi, he, hx⟩ := ixM_mem q1
  have hdrop : t.drop i = x :: t.drop (i + 1) := by rw [List.drop_eq_getElem_cons hi, (List.getElem?_eq_some_iff.1 hx).2]
  obtain ⟨r, hr⟩ : ∃ r, r = t.drop (i + 1) := ⟨_, rfl⟩
  rw [← hr] at hdrop
  have hcut : cutM t x = x :: r.reverse := by
    unfold cutM
    rw [he]
    show (match t.drop i with | [] => [] | y :: r => y :: r.reverse) = _
    rw [hdrop]
  show isCyc LL (cutM t x) = true
  rw [hcut]
  have hcn : (x :: r).Nodup := by rw [← hdrop]; exact List.Sublist.nodup (List.drop_sublist i t) q2
  have hch : Chain ls (x :: r) x := fun k a hk => by
    rw [← hdrop, List.getElem?_drop] at hk
    have := q3 (i + k) a hk
    have e1 : (x :: r) ++ [x] = (t ++ [x]).drop i := by rw [← hdrop, List.drop_append_of_le_length (by omega)]
    rw [e1, List.getElem?_drop]
    exact this
  have hhd : ∀ y ∈ x :: r, y ∈ heads ls := fun y hy => q4 y (List.mem_of_mem_drop (by rw [hdrop]; exact hy))
  clear hdrop hr he hx hi hcut q1 q2 q3 q4 hcy
  have hlen : (x :: r.reverse).length = r.length + 1 := by simp
  have hr1 : 1 ≤ r.length := by
    cases r with
    | nil =>
      have := hch 0 x rfl
      simp at this
      exact absurd this.symm (hah x (hhd x (by simp))).2
    | cons y r => simp
  have hrev : (x :: r.reverse) ++ [x] = ((x :: r) ++ [x]).reverse := by simp
  unfold isCyc
  simp only [Bool.and_eq_true, decide_eq_true_eq, List.all_eq_true, List.mem_range]
  refine ⟨by rw [hlen]; omega, ?_, fun j hj => ?_⟩
  · obtain ⟨c1, c2⟩ := List.nodup_cons.1 hcn
    exact List.nodup_cons.2 ⟨fun h => c1 (List.mem_reverse.1 h), (List.pairwise_reverse.2 (c2.imp fun h => Ne.symm h))⟩
  · rw [hlen] at hj
    have hw : ∀ k, k < r.length + 2 → ((x :: r.reverse) ++ [x])[k]? = ((x :: r) ++ [x])[r.length + 1 - k]? := fun k hk => by
      rw [hrev, List.getElem?_reverse (by simp; omega)]
      congr 1
      simp
    have hb : (x :: r.reverse).getD ((j + 1) % (x :: r.reverse).length) ⟨#[]⟩ = ((x :: r.reverse) ++ [x]).getD (j + 1) ⟨#[]⟩ := by
      rw [hlen]
      by_cases e : j = r.length
      · subst e
        rw [Nat.mod_self]
        simp [List.getD]
      · rw [Nat.mod_eq_of_lt (by omega)]
        simp only [List.getD]
        rw [List.getElem?_append_left (by rw [hlen]; omega)]
    have ha : (x :: r.reverse).getD j ⟨#[]⟩ = ((x :: r.reverse) ++ [x]).getD j ⟨#[]⟩ := by
      simp only [List.getD]
      rw [List.getElem?_append_left (by rw [hlen]; omega)]
    unfold cycAt
    rw [ha, hb]
    simp only [List.getD]
    rw [hw j (by omega), hw (j + 1) (by omega)]
    obtain ⟨y, hy⟩ : ∃ y, (x :: r)[r.length - j]? = some y := ⟨_, List.getElem?_eq_getElem (by simp; omega)⟩
    have h1 := hch _ y hy
    rw [show r.length + 1 - j = r.length - j + 1 by omega, h1, show r.length + 1 - (j + 1) = r.length - j by omega, List.getElem?_append_left (by simp; omega), hy]
    exact (hah y (hhd y (List.mem_iff_getElem?.2 ⟨_, hy⟩))).1
end Go.Proofs.Ytolopideimnbgaa
