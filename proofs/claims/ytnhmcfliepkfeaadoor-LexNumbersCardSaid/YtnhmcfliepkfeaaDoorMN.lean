/-
  The text of an integer is an integer's token, and its value is the integer; nothing of a program is imported here.
-/
import Derived.Test.YtnhmcfliepkfeaaDoorMath4
import Derived.Lib.ItoaLen
import Derived.Lib.ItoaMem
namespace Go.Proofs.YtnhmcfliepkfeaaDoor

theorem dig_fin : ∀ i : Fin 256, 48 ≤ i.val → i.val ≤ 57 → bD (UInt8.ofNat i.val) = true ∧ bL (UInt8.ofNat i.val) = false ∧ bB (UInt8.ofNat i.val) = false ∧ signOne (UInt8.ofNat i.val) = false ∧ bBlank (UInt8.ofNat i.val) = false := by decide +kernel
theorem dig_facts {c : UInt8} (h1 : 48 ≤ c.toNat) (h2 : c.toNat ≤ 57) : bD c = true ∧ bL c = false ∧ bB c = false ∧ signOne c = false ∧ bBlank c = false := by
  have h := dig_fin ⟨c.toNat, c.toNat_lt⟩ h1 h2
  have e : UInt8.ofNat c.toNat = c := by simp
  simp only [e] at h
  exact h
theorem dash_facts : bL 45 = false ∧ bB 45 = false ∧ signOne 45 = true ∧ bBlank 45 = false := by decide +kernel

theorem dec_all : ∀ (u : Nat), ∀ c ∈ Lib.decDigits u, 48 ≤ c.toNat ∧ c.toNat ≤ 57 := by
  intro u
  induction u using Nat.strongRecOn with
  | _ u ih =>
    intro c hc
    rw [Lib.decDigits] at hc
    split at hc
    · simp only [List.mem_singleton] at hc
      subst hc
      simp only [UInt8.toNat_ofNat']; omega
    · rcases List.mem_append.1 hc with hc | hc
      · exact ih (u / 10) (by omega) c hc
      · simp only [List.mem_singleton] at hc
        subst hc
        simp only [UInt8.toNat_ofNat']; omega
theorem dec_ne (u : Nat) : Lib.decDigits u ≠ [] := by
  intro h
  have := Lib.decDigits_length u
  have := Lib.nDigits_pos u
  rw [h] at *; simp at *; omega

def parse1 (a : Nat) (c : UInt8) : Lib.NumEnd Nat :=
  if 48 ≤ c.toNat ∧ c.toNat ≤ 57 then
    if 1844674407370955162 ≤ a then .range
    else if 18446744073709551616 ≤ a * 10 + (c.toNat - 48) then .range
    else .ok (a * 10 + (c.toNat - 48))
  else .syntax
theorem parse_snoc : ∀ (l : List UInt8) (acc a : Nat) (c : UInt8), Lib.parseUint10 acc l = .ok a → Lib.parseUint10 acc (l ++ [c]) = parse1 a c := by
  intro l
  induction l with
  | nil =>
    intro acc a c h
    simp only [Lib.parseUint10, Lib.NumEnd.ok.injEq] at h
    subst h
    simp only [List.nil_append, Lib.parseUint10, parse1]
  | cons x l ih =>
    intro acc a c h
    simp only [Lib.parseUint10, List.cons_append] at h ⊢
    split at h
    · rename_i h1
      rw [if_pos h1]
      split at h
      · cases h
      · rename_i h2
        rw [if_neg h2]
        split at h
        · cases h
        · rename_i h3
          rw [if_neg h3]
          exact ih _ a c h
    · cases h
theorem parse_dec : ∀ (u : Nat), u < 18446744073709551616 → Lib.parseUint10 0 (Lib.decDigits u) = .ok u := by
  intro u
  induction u using Nat.strongRecOn with
  | _ u ih =>
    intro hu
    rw [Lib.decDigits]
    split
    · rename_i h
      simp only [Lib.parseUint10, UInt8.toNat_ofNat']
      rw [if_pos (by omega), if_neg (by omega), if_neg (by omega)]
      congr 1; omega
    · rename_i h
      rw [parse_snoc _ _ _ _ (ih (u / 10) (by omega) (by omega))]
      simp only [parse1, UInt8.toNat_ofNat']
      rw [if_pos (by omega), if_neg (by omega), if_neg (by omega)]
      congr 1; omega
theorem mag_dec (u : Nat) (h : u < 18446744073709551616) : Lib.parseMag (Lib.decDigits u) = .ok u := by
  unfold Lib.parseMag
  rw [if_neg (dec_ne u), parse_dec u h]

theorem atoi_itoa (n : Int) (h0 : -9223372036854775808 ≤ n) (h1 : n ≤ 9223372036854775807) : Lib.atoiAll (Lib.itoa n) = .ok n := by
  unfold Lib.itoa
  split
  · rename_i hn
    simp only [Lib.atoiAll, UInt8.reduceToNat]
    simp only [or_true, if_true]
    rw [mag_dec _ (by omega)]
    simp only [not_true, false_and, if_false, true_and]
    rw [if_neg (by omega)]
    congr 1; omega
  · rename_i hn
    have hm := mag_dec n.toNat (by omega)
    have ha := dec_all n.toNat
    have hne := dec_ne n.toNat
    generalize Lib.decDigits n.toNat = l at *
    cases l with
    | nil => exact absurd rfl hne
    | cons c r =>
      have hc := ha c List.mem_cons_self
      simp only [Lib.atoiAll]
      rw [if_neg (show ¬ (c.toNat = 43 ∨ c.toNat = 45) by omega), hm]
      simp only []
      rw [if_neg (by omega), if_neg (by omega), if_neg (by omega)]
      congr 1; omega
theorem val_itoa (n : Int) (h0 : -9223372036854775808 ≤ n) (h1 : n ≤ 9223372036854775807) : valO ⟨(Lib.itoa n).toArray⟩ = some n := by
  unfold valO
  simp only [atoi_itoa n h0 h1, if_true]

theorem run_all (p : UInt8 → Bool) (s : ByteArray) (h : ∀ k (hk : k < s.size), p s[k] = true) : ∀ (m k : Nat), s.size - k ≤ m → k ≤ s.size → runN p s k = s.size := by
  intro m
  induction m with
  | zero => intro k hm hk; rw [runN_end (by omega)]; omega
  | succ m ih =>
    intro k hm hk
    by_cases hlt : k < s.size
    · rw [runN_go hlt (h k hlt)]; exact ih (k + 1) (by omega) (by omega)
    · rw [runN_end hlt]; omega
theorem ext_all (s : ByteArray) : s.extract 0 s.size = s := by simp
theorem win_all {s : ByteArray} (h : s.size ≤ 100) : winB s 0 = s := by
  unfold winB
  rw [show min (0 + 100) s.size = s.size by omega]
  simp
theorem rest_all (s : ByteArray) : restB s 0 = s := by unfold restB; simp
theorem cut_all (s : ByteArray) : cutB s 0 s.size = s := by unfold cutB; simp

theorem two_no {c : UInt8} {l : List UInt8} (h1 : c ≠ 58) (h2 : c ≠ 61) (h3 : c ≠ 60) (h4 : c ≠ 62) : signTwo (c :: l) = false := by
  simp [signTwo, h1, h2, h3, h4]

/-- A token that begins with a digit or a dash, and has digits alone behind it. -/
theorem kind_num {s : ByteArray} {c : UInt8} {r : List UInt8} (hs : s.data.toList = c :: r) (hsz : s.size ≤ 100) (hr : ∀ x ∈ r, 48 ≤ x.toNat ∧ x.toNat ≤ 57) (hc : (48 ≤ c.toNat ∧ c.toNat ≤ 57) ∨ (c = 45 ∧ r ≠ [])) (hv : (valO s).isSome = true) : kindN s = 2 := by
  have hlen : s.size = r.length + 1 := by have := congrArg List.length hs; simpa using this
  have h0 : s[0]'(by omega) = c := by
    have : s.data.toList[0]? = some c := by rw [hs]; rfl
    rw [Array.getElem?_toList, Array.getElem?_eq_getElem (by show 0 < s.size; omega)] at this
    simpa [ByteArray.getElem_eq_getElem_data] using this
  have hrest : ∀ k (hk : k < s.size), 1 ≤ k → 48 ≤ (s[k]).toNat ∧ (s[k]).toNat ≤ 57 := by
    intro k hk h1
    have : s.data.toList[k]? = some s[k] := by
      rw [Array.getElem?_toList, Array.getElem?_eq_getElem (by exact hk)]
      simp [ByteArray.getElem_eq_getElem_data]
    rw [hs, List.getElem?_cons, if_neg (by omega)] at this
    exact hr _ (List.mem_iff_getElem?.2 ⟨_, this⟩)
  have ah : aheadB s 0 = c := by rw [aheadB_lt (by omega), h0]
  have cl : bL c = false ∧ bB c = false ∧ bBlank c = false ∧ c ≠ 47 ∧ c ≠ 35 ∧ c ≠ 63 ∧ c ≠ 58 ∧ c ≠ 61 ∧ c ≠ 60 ∧ c ≠ 62 := by
    rcases hc with ⟨h1, h2⟩ | ⟨rfl, _⟩
    · have f := dig_facts h1 h2
      refine ⟨f.2.1, f.2.2.1, f.2.2.2.2, ?_, ?_, ?_, ?_, ?_, ?_, ?_⟩ <;> (rintro rfl; simp at h1 h2)
    · refine ⟨dash_facts.1, dash_facts.2.1, dash_facts.2.2.2, ?_, ?_, ?_, ?_, ?_, ?_, ?_⟩ <;> decide
  have hp : plainN s = 0 := by
    unfold plainN
    rw [dif_pos (by omega), h0, cl.1, cl.2.1]; simp
  have r0 : ruleN s 0 false 0 = 0 := by simp only [ruleN, win_all hsz, nameN, hp, if_true]
  have r1 : ruleN s 0 false 1 = s.size := by
    simp only [ruleN, win_all hsz, ah, intN]
    rcases hc with ⟨h1, h2⟩ | ⟨rfl, hne⟩
    · have hcn : (c == 45) = false := by rw [beq_eq_false_iff_ne]; rintro rfl; simp at h1
      rw [hcn]
      simp only [Bool.false_and, Bool.false_eq_true, if_false, ext_all]
      refine run_all bD s (fun k hk => ?_) s.size 0 (by omega) (by omega)
      by_cases hk0 : k = 0
      · subst hk0; rw [h0]; exact (dig_facts h1 h2).1
      · have := hrest k hk (by omega); exact (dig_facts this.1 this.2).1
    · have hsr : (s.extract 1 s.size).size = s.size - 1 := by simp
      have hrn : runN bD (s.extract 1 s.size) 0 = s.size - 1 := by
        rw [← hsr]
        refine run_all bD (s.extract 1 s.size) (fun k hk => ?_) (s.extract 1 s.size).size 0 (by omega) (by omega)
        have : (s.extract 1 s.size)[k] = s[1 + k]'(by rw [hsr] at hk; omega) := by simp [ByteArray.getElem_extract]
        rw [this]
        have := hrest (1 + k) (by rw [hsr] at hk; omega) (by omega)
        exact (dig_facts this.1 this.2).1
      have hl1 : 1 ≤ r.length := by cases r with
        | nil => exact absurd rfl hne
        | cons _ _ => simp
      simp only [beq_self_eq_true, Bool.not_false, Bool.and_self, if_true, hrn]
      rw [if_neg (by omega)]; omega
  have r2 : ruleN s 0 false 2 = 0 := by simp only [ruleN, win_all hsz, keyN, hp, if_true]
  have r3 : ruleN s 0 false 3 = 0 := by
    simp only [ruleN, rest_all, hashN, hs]
    have h35 := cl.2.2.2.2.1
    simp [Lib.hasPrefix, List.isPrefixOf, Ne.symm h35]
  have r4 : ruleN s 0 false 4 < 2 ∧ (ruleN s 0 false 4 = 0 ∨ 2 ≤ s.size) := by
    simp only [ruleN, win_all hsz, signN]
    have ht : signTwo (s.extract 0 (min 2 s.size)).toList = false := by
      have : ∃ l, (s.extract 0 (min 2 s.size)).toList = c :: l := by
        rw [ByteArray.toList_eq]
        refine ⟨r.take (min 2 s.size - 1), ?_⟩
        simp only [ByteArray.data_extract, Array.toList_extract, hs, List.extract_eq_take_drop, List.drop_zero, Nat.sub_zero]
        rw [show min 2 s.size = (min 2 s.size - 1) + 1 by omega, List.take_succ_cons]; simp
      obtain ⟨l, hl⟩ := this
      rw [hl]
      exact two_no cl.2.2.2.2.2.2.1 cl.2.2.2.2.2.2.2.1 cl.2.2.2.2.2.2.2.2.1 cl.2.2.2.2.2.2.2.2.2
    rw [ht, ah]
    simp only [Bool.false_eq_true, if_false]
    rcases hc with ⟨h1, h2⟩ | ⟨rfl, hne⟩
    · rw [(dig_facts h1 h2).2.2.2.1]; simp
    · have hl1 : 1 ≤ r.length := by cases r with
        | nil => exact absurd rfl hne
        | cons _ _ => simp
      rw [dash_facts.2.2.1]; simp; omega
  have r5 : ruleN s 0 false 5 = 0 := by simp only [ruleN, win_all hsz, patN, ah]; rw [if_neg cl.2.2.2.2.2.1]
  have hb : bestTo (ruleN s 0 false) 6 = (2, s.size) := by
    have st : ∀ k, bestTo (ruleN s 0 false) (k + 1) = if (bestTo (ruleN s 0 false) k).2 < ruleN s 0 false k then (k + 1, ruleN s 0 false k) else bestTo (ruleN s 0 false) k := fun k => rfl
    have b1 : bestTo (ruleN s 0 false) 1 = (0, 0) := by rw [st, r0]; rfl
    have b2 : bestTo (ruleN s 0 false) 2 = (2, s.size) := by rw [st, b1, r1, if_pos (by simp only; omega)]
    have b3 : bestTo (ruleN s 0 false) 3 = (2, s.size) := by rw [st, b2, r2, if_neg (by simp)]
    have b4 : bestTo (ruleN s 0 false) 4 = (2, s.size) := by rw [st, b3, r3, if_neg (by simp)]
    have b5 : bestTo (ruleN s 0 false) 5 = (2, s.size) := by rw [st, b4, if_neg (by simp only; omega)]
    rw [st, b5, r5, if_neg (by simp)]
  have hn1 : Lib.hasPrefix s.data.toList [47, 47] = false := by rw [hs]; simp [Lib.hasPrefix, List.isPrefixOf, Ne.symm cl.2.2.2.1]
  have hn2 : Lib.hasPrefix s.data.toList [47, 42] = false := by rw [hs]; simp [Lib.hasPrefix, List.isPrefixOf, Ne.symm cl.2.2.2.1]
  have hf : faultN s 0 2 s.size = 0 := by
    have hsp : bSpoils 0 = false := by decide +kernel
    unfold faultN
    rw [if_pos rfl, cut_all, hv, Nat.zero_add, aheadB_ge (Nat.le_refl _), hsp]; rfl
  have hnx : nextR s 0 false = .ok (2, s.size) := by
    unfold nextR
    rw [rest_all, hn1, hn2, ah, cl.2.2.1, hb]
    simp only [Bool.false_eq_true, if_false]
    rw [if_pos hf]
  unfold kindN
  rw [if_neg (by omega), hnx]
  simp [isTok]
theorem kind_itoa (n : Int) (h0 : -9223372036854775808 ≤ n) (h1 : n ≤ 9223372036854775807) : kindN ⟨(Lib.itoa n).toArray⟩ = 2 := by
  have hv := val_itoa n h0 h1
  have hl := Lib.itoa_length_le n h0 h1
  have hsz : (⟨(Lib.itoa n).toArray⟩ : ByteArray).size ≤ 100 := by show (Lib.itoa n).toArray.size ≤ 100; simp; omega
  have hvs : (valO ⟨(Lib.itoa n).toArray⟩).isSome = true := by rw [hv]; rfl
  by_cases hn : n < 0
  · have e : Lib.itoa n = 45 :: Lib.decDigits n.natAbs := by unfold Lib.itoa; rw [if_pos hn]
    exact kind_num (c := 45) (r := Lib.decDigits n.natAbs) (by simp [e]) hsz (dec_all _) (.inr ⟨rfl, dec_ne _⟩) hvs
  · have e : Lib.itoa n = Lib.decDigits n.toNat := by unfold Lib.itoa; rw [if_neg hn]
    have hne := dec_ne n.toNat
    have ha := dec_all n.toNat
    generalize Lib.decDigits n.toNat = l at *
    cases l with
    | nil => exact absurd rfl hne
    | cons c r => exact kind_num (c := c) (r := r) (by simp [e]) hsz (fun x hx => ha x (List.mem_cons_of_mem _ hx)) (.inl (ha c List.mem_cons_self)) hvs
end Go.Proofs.YtnhmcfliepkfeaaDoor
