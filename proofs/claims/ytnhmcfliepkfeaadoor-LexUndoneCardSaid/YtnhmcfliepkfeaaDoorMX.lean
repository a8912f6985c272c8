/-
  Pieces well ahead of a splice are kept.
-/
import Derived.Test.YtnhmcfliepkfeaaDoorMath10
import Derived.Test.YtnhmcfliepkfeaaDoorKE
import Derived.Test.YtnhmcfliepkfeaaDoorU
namespace Go.Proofs.YtnhmcfliepkfeaaDoor

theorem front_low (l m : List (Nat × Nat × Nat)) : ∀ (d k : Nat), min l.length m.length - k ≤ d → k ≤ min l.length m.length → k ≤ frontN l m k ∧ frontN l m k ≤ min l.length m.length := by
  intro d
  induction d with
  | zero => intro k hd hk; rw [frontN_end (by omega)]; omega
  | succ d ih =>
    intro k hd hk
    by_cases hlt : k < min l.length m.length
    · obtain ⟨x, hx⟩ : ∃ x, l[k]? = some x := ⟨_, List.getElem?_eq_getElem (by omega)⟩
      obtain ⟨y, hy⟩ : ∃ y, m[k]? = some y := ⟨_, List.getElem?_eq_getElem (by omega)⟩
      by_cases hxy : x = y
      · rw [frontN_on hx hy hxy]
        have := ih (k + 1) (by omega) (by omega); omega
      · rw [frontN_stop hx hy hxy]; omega
    · rw [frontN_end hlt]; omega
theorem front_ge (l m : List (Nat × Nat × Nat)) (N : Nat) (h : ∀ j, j < N → ∃ x, l[j]? = some x ∧ m[j]? = some x) : ∀ (d k : Nat), N - k ≤ d → k ≤ N → N ≤ frontN l m k := by
  have hN : N ≤ min l.length m.length := by
    by_cases h0 : N = 0
    · omega
    · obtain ⟨x, h1, h2⟩ := h (N - 1) (by omega)
      have := (List.getElem?_eq_some_iff.1 h1).1; have := (List.getElem?_eq_some_iff.1 h2).1; omega
  intro d
  induction d with
  | zero => intro k hd hk; have : k = N := by omega
            subst this; exact (front_low l m _ k (Nat.le_refl _) hN).1
  | succ d ih =>
    intro k hd hk
    by_cases hlt : k < N
    · obtain ⟨x, h1, h2⟩ := h k hlt
      rw [frontN_on h1 h2 rfl]
      exact ih (k + 1) (by omega) (by omega)
    · have : k = N := by omega
      subst this; exact (front_low l m _ k (Nat.le_refl _) hN).1
theorem back_le (l m : List (Nat × Nat × Nat)) (sh : Int) (f : Nat) : ∀ (d k : Nat), min l.length m.length - (f + k) ≤ d → f + k ≤ min l.length m.length → f + backN l m sh f k ≤ min l.length m.length := by
  intro d
  induction d with
  | zero => intro k hd hk; rw [backN_end (by omega)]; omega
  | succ d ih =>
    intro k hd hk
    by_cases hlt : f + k < min l.length m.length
    · obtain ⟨x, hx⟩ : ∃ x, l[l.length - 1 - k]? = some x := ⟨_, List.getElem?_eq_getElem (by omega)⟩
      obtain ⟨y, hy⟩ : ∃ y, m[m.length - 1 - k]? = some y := ⟨_, List.getElem?_eq_getElem (by omega)⟩
      cases hm : moved sh x y
      · rw [backN_stop hlt rfl rfl hx hy hm]; omega
      · rw [backN_on hlt rfl rfl hx hy hm]; exact ih (k + 1) (by omega) (by omega)
    · rw [backN_end hlt]; omega

/-- What LexLocal says, of the models. -/
theorem local_front {t u : ByteArray} {a : Nat} (ht : (piecesR t).2.2 = 0) (hu : (piecesR u).2.2 = 0) (hA : Agree t u a) (i : Nat) (x : Nat × Nat × Nat) (hx : (piecesR t).1[i]? = some x) (h : (x.2.1 : Int) + (x.2.2 : Int) < (a : Int) - 100 - 1) :
    i < frontN (piecesR t).1 (piecesR u).1 0 := by
  obtain ⟨_, _, _, op, c, hst⟩ := pieces_ok ht
  obtain ⟨_, _, hcu, _, _, _⟩ := pieces_ok hu
  obtain ⟨s, h1, h2⟩ := pre_both hst hA
  have hsp := unrN_spec (piecesR t).1 a (piecesR t).1.length 0 (by omega) (by omega)
  obtain ⟨N, hN⟩ : ∃ N, N = unrN (piecesR t).1 a 0 := ⟨_, rfl⟩
  rw [← hN] at h1 h2 hsp
  have hil := (List.getElem?_eq_some_iff.1 hx).1
  have hiN : i < N := by
    apply Classical.byContradiction
    intro hge
    have hNL : N < (piecesR t).1.length := by omega
    obtain ⟨y, hy⟩ : ∃ y, (piecesR t).1[N]? = some y := ⟨_, List.getElem?_eq_getElem hNL⟩
    have hstop : ¬ (y.2.1 : Int) + (y.2.2 : Int) + 100 + 1 < (a : Int) := by
      intro hlt
      have h3 : ∀ k, k ≤ N → unrN (piecesR t).1 a k = N → unrN (piecesR t).1 a N = N := by
        intro k
        intro hk
        induction hd : N - k generalizing k with
        | zero => intro h; have : k = N := by omega
                  subst this; exact h
        | succ d ih =>
          intro h
          obtain ⟨z, hz⟩ : ∃ z, (piecesR t).1[k]? = some z := ⟨_, List.getElem?_eq_getElem (by omega)⟩
          have hzl := hsp.2.2 k z (by omega) (by omega) hz
          rw [unrN_on hz hzl] at h
          exact ih (k + 1) (by omega) (by omega) h
      have h4 := h3 0 (by omega) hN.symm
      rw [unrN_on hy hlt] at h4
      have := (unrN_spec (piecesR t).1 a (piecesR t).1.length (N + 1) (by omega) (by omega)).1
      omega
    obtain ⟨sN, hsN, _⟩ := take_steps hst N
    obtain ⟨si, hsi, _⟩ := take_steps hst i
    have nN := steps_next hst hsN hy
    have ni := steps_next hst hsi hx
    have hmono : sN.1 + y.2.2 ≤ si.1 + x.2.2 := by
      by_cases he : i = N
      · subst he
        have := steps_det _ _ _ _ _ _ hsN hsi
        subst this
        rw [hx] at hy; cases hy; exact Nat.le_refl _
      · have hsub : (piecesR t).1.take i = (piecesR t).1.take (N + 1) ++ ((piecesR t).1.drop (N + 1)).take (i - (N + 1)) := by
          conv => lhs; rw [show i = (N + 1) + (i - (N + 1)) by omega, List.take_add]
        rw [hsub] at hsi
        obtain ⟨sm, q1, q2⟩ := steps_split _ _ _ _ _ _ hsi
        have := steps_det _ _ _ _ _ _ q1 nN.2.2.2.2
        subst this
        have := (steps_bounds _ _ _ _ _ q2 (by have := next_bounds nN.2.1 nN.2.2.1; simp only; omega)).1
        simp only at this
        omega
    have := nN.1; have := ni.1
    omega
  have hpre : ∃ rest, (piecesR u).1 = (piecesR t).1.take N ++ rest := by
    have hb := (steps_bounds _ _ _ _ _ h2 (by omega)).2
    have := cutAll_steps h2 (u.size - s.1 + 1) (by omega)
    rw [hcu] at this
    exact ⟨_, congrArg Prod.fst this⟩
  obtain ⟨rest, hrest⟩ := hpre
  refine Nat.lt_of_lt_of_le hiN (front_ge _ _ N (fun j hj => ?_) N 0 (by omega) (by omega))
  obtain ⟨z, hz⟩ : ∃ z, (piecesR t).1[j]? = some z := ⟨_, List.getElem?_eq_getElem (by omega)⟩
  refine ⟨z, hz, ?_⟩
  rw [hrest, List.getElem?_append_left (by rw [List.length_take]; omega), List.getElem?_take_of_lt hj]
  exact hz
theorem local_sum (l m : List (Nat × Nat × Nat)) (sh : Int) : frontN l m 0 + backN l m sh (frontN l m 0) 0 ≤ l.length := by
  have h1 := (front_low l m _ 0 (Nat.le_refl _) (by omega)).2
  have h2 := back_le l m sh (frontN l m 0) _ 0 (Nat.le_refl _) (by omega)
  omega

theorem splice_list (t ins : ByteArray) (a d : Nat) : (spliceB t a d ins).data.toList = t.data.toList.take a ++ ins.data.toList ++ t.data.toList.drop (a + d) := by
  have hsz : t.data.toList.length = t.size := by simp
  simp only [spliceB, ByteArray.data_append, Array.toList_append, ByteArray.data_extract, Array.toList_extract, List.extract_eq_take_drop, List.drop_zero, Nat.sub_zero]
  congr 1
  rw [List.take_of_length_le (by rw [List.length_drop]; omega)]
theorem bytes_ext {x y : ByteArray} (h : x.data.toList = y.data.toList) : x = y := ByteArray.ext (Array.toList_inj.1 h)
/-- A splice and the one that undoes it. -/
theorem splice_undo (t ins : ByteArray) (a d : Nat) (h : a + d ≤ t.size) : spliceB (spliceB t a d ins) a ins.size (t.extract a (a + d)) = t := by
  have hsz : t.data.toList.length = t.size := by simp
  have hiz : ins.data.toList.length = ins.size := by simp
  have hta : (t.data.toList.take a).length = a := by rw [List.length_take]; omega
  apply bytes_ext
  rw [splice_list, splice_list]
  have h1 : (t.data.toList.take a ++ ins.data.toList ++ t.data.toList.drop (a + d)).take a = t.data.toList.take a := by
    rw [List.append_assoc, List.take_append_of_le_length (by omega), List.take_of_length_le (by omega)]
  have h2 : (t.data.toList.take a ++ ins.data.toList ++ t.data.toList.drop (a + d)).drop (a + ins.size) = t.data.toList.drop (a + d) := by
    rw [List.drop_append_of_le_length (by rw [List.length_append]; omega)]
    rw [List.drop_of_length_le (by rw [List.length_append]; omega), List.nil_append]
  have h3 : (t.extract a (a + d)).data.toList = (t.data.toList.drop a).take d := by
    simp only [ByteArray.data_extract, Array.toList_extract, List.extract_eq_take_drop]
    rw [show a + d - a = d by omega]
  rw [h1, h2, h3]
  have h4 : t.data.toList.drop (a + d) = (t.data.toList.drop a).drop d := by rw [List.drop_drop]
  rw [h4, List.append_assoc, List.take_append_drop, List.take_append_drop]
end Go.Proofs.YtnhmcfliepkfeaaDoor
