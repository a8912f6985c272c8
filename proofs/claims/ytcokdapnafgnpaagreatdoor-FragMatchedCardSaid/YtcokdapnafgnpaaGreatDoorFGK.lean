/-
  What is read is read again from its own tokens: the models, part one.
  What is read is read again from its own tokens: the models, part two.
  What is read is read again from its own tokens: the models, part three.
  What is read is read again from its own tokens: the models, part four.
  The tokens of what is read are those that were read, but for names that are dropped.
-/
import Derived.Test.YtcokdapnafgnpaaGreatDoorFGB
import Derived.Test.YtcokdapnafgnpaaGreatDoorFGI
import Derived.Test.YtcokdapnafgnpaaGreatDoorFGJ
namespace Go.Proofs.YtcokdapnafgnpaaGreatDoor
section

mutual
/-- The tokens of fragments, however deep they are. -/
def tkF : Fg → List Tkn
  | .mk t o ks => if o = sNo then [t] else t :: (tkA ks ++ [closeTok (.mk t o [])])
def tkA : List Fg → List Tkn
  | [] => []
  | x :: r => tkF x ++ tkA r
end
mutual
def dpF : Fg → Nat
  | .mk _ o ks => if o = sNo then 0 else 1 + dpA ks
def dpA : List Fg → Nat
  | [] => 0
  | x :: r => max (dpF x) (dpA r)
end
theorem tkA_nil : tkA [] = [] := by rw [tkA]
theorem tkA_cons (x : Fg) (r : List Fg) : tkA (x :: r) = tkF x ++ tkA r := by rw [tkA]
theorem tkA_append : ∀ (a b : List Fg), tkA (a ++ b) = tkA a ++ tkA b
  | [], b => by rw [tkA_nil]; rfl
  | x :: r, b => by rw [List.cons_append, tkA_cons, tkA_cons, tkA_append r b, List.append_assoc]
theorem tkA_one (x : Fg) : tkA [x] = tkF x := by rw [tkA_cons, tkA_nil, List.append_nil]
theorem dpA_nil : dpA [] = 0 := by rw [dpA]
theorem dpA_cons (x : Fg) (r : List Fg) : dpA (x :: r) = max (dpF x) (dpA r) := by rw [dpA]
theorem dpA_append : ∀ (a b : List Fg), dpA (a ++ b) = max (dpA a) (dpA b)
  | [], b => by rw [dpA_nil, List.nil_append]; omega
  | x :: r, b => by rw [List.cons_append, dpA_cons, dpA_cons, dpA_append r b]; omega
theorem tkF_leaf {x : Fg} (h : x.opn = sNo) : tkF x = [x.tok] := by
  obtain ⟨t, o, ks⟩ := x
  rw [tkF]
  exact if_pos h
theorem tkF_group {x : Fg} (h : ¬ x.opn = sNo) : tkF x = x.tok :: (tkA x.kids ++ [closeTok x]) := by
  obtain ⟨t, o, ks⟩ := x
  rw [tkF]
  exact if_neg h
theorem dpF_leaf {x : Fg} (h : x.opn = sNo) : dpF x = 0 := by
  obtain ⟨t, o, ks⟩ := x
  rw [dpF]
  exact if_pos h
theorem dpF_group {x : Fg} (h : ¬ x.opn = sNo) : dpF x = 1 + dpA x.kids := by
  obtain ⟨t, o, ks⟩ := x
  rw [dpF]
  exact if_neg h
theorem tokL_full {F : List Fg → List Tkn} {z : Bool} {m : Nat} (hz : z = true → m = 0) (hF : ∀ ks, 1 + dpA ks ≤ m → F ks = tkA ks) : ∀ (l : List Fg), dpA l ≤ m → tokL F z l = tkA l
  | [], _ => by rw [tkA_nil]; rfl
  | x :: r, h => by
    rw [dpA_cons] at h
    rw [tkA_cons]
    unfold tokL
    rw [tokL_full hz hF r (by omega)]
    by_cases ho : x.opn = sNo
    · rw [if_pos ho, tkF_leaf ho]
    · have hd := dpF_group ho
      rw [if_neg ho, tkF_group ho]
      have hm : ¬ z = true := fun e => by have := hz e; omega
      rw [if_neg hm, hF x.kids (by omega)]
theorem tokM_full : ∀ (m : Nat) (l : List Fg), dpA l ≤ m → tokM m l = tkA l
  | 0, l, h => tokL_full (fun _ => rfl) (fun ks hk => by omega) l h
  | m + 1, l, h => tokL_full (fun e => by cases e) (fun ks hk => tokM_full m ks (by omega)) l h
theorem depL_full {F : List Fg → Nat} {m : Nat} (hF : 0 < m → ∀ ks, F ks = min (dpA ks) (m - 1)) : ∀ (l : List Fg) (d : Nat), d ≤ m → depL F m l d = min m (max d (dpA l))
  | [], d, h => by rw [dpA_nil]; unfold depL; omega
  | x :: r, d, h => by
    rw [dpA_cons]
    unfold depL
    by_cases hd : d = m
    · rw [if_pos hd]; omega
    · rw [if_neg hd]
      by_cases ho : x.opn = sNo
      · rw [if_pos ho, depL_full hF r d h, dpF_leaf ho]; omega
      · have h1 := hF (by omega) x.kids
        have h2 := dpF_group ho
        rw [if_neg ho, depL_full hF r _ (by omega), h1, h2]; omega
theorem depM_full : ∀ (m : Nat) (l : List Fg), depM m l = min (dpA l) m
  | 0, l => by unfold depM; rw [depL_full (fun h => absurd h (by omega)) l 0 (by omega)]; omega
  | m + 1, l => by
    unfold depM
    rw [depL_full (fun _ ks => by rw [depM_full m ks]; rfl) l 0 (by omega)]; omega

/-- Kind and text. -/
def kt (t : Tkn) : Int × ByteArray := (t.1, t.2.2.1)
theorem isName_kt {l m : List Tkn} {i j : Nat} (h : l[i]?.map kt = m[j]?.map kt) (s : ByteArray) : isNameM l i s = isNameM m j s := by
  unfold isNameM
  cases h1 : l[i]? with
  | none =>
    cases h2 : m[j]? with
    | none => rfl
    | some u => rw [h1, h2] at h; cases h
  | some t =>
    cases h2 : m[j]? with
    | none => rw [h1, h2] at h; cases h
    | some u =>
      rw [h1, h2] at h
      have he : kt t = kt u := Option.some.inj h
      unfold kt at he
      rw [Prod.mk.injEq] at he
      simp only [he.1, he.2]
theorem isStop_kt {l m : List Tkn} {i j : Nat} (h : l[i]?.map kt = m[j]?.map kt) : isStopM l i = isStopM m j := by
  unfold isStopM
  cases h1 : l[i]? with
  | none =>
    cases h2 : m[j]? with
    | none => rfl
    | some u => rw [h1, h2] at h; cases h
  | some t =>
    cases h2 : m[j]? with
    | none => rw [h1, h2] at h; cases h
    | some u =>
      rw [h1, h2] at h
      have he : kt t = kt u := Option.some.inj h
      unfold kt at he
      rw [Prod.mk.injEq] at he
      simp only [he.1, he.2]

/-- What tokens and words owe. -/
structure OkTk (ok : Tkn → Bool) (ws : List ByteArray) : Prop where
  kind : ∀ t, ok t = true → t.2.2.1 ∈ closers → t.1 = if t.2.2.1 = sEnd then 1 else 5
  clos : ∀ t o, ok t = true → o ∈ basics ++ ws → ok (closeTok (.mk t o [])) = true
  word : ∀ c ∈ closers, ¬ c ∈ basics ++ ws
theorem closing_mem (o : ByteArray) : closingM o ∈ closers := by
  unfold closingM closers
  repeat' split
  all_goals simp
theorem closeK_kind (o : ByteArray) : closeK o = if closingM o = sEnd then 1 else 5 := by
  unfold closeK closingM
  by_cases h1 : o = sPar
  · simp only [h1, if_true]; decide
  · by_cases h2 : o = sBra
    · simp only [h2, if_true]; decide
    · by_cases h3 : o = sCur
      · simp only [h3, if_true]; decide
      · simp only [h1, h2, h3, if_false, if_true]
def flG (g : Gp) : List Tkn := if g.opn = sNo then tkA g.kids else g.tok :: tkA g.kids
def flS (s : RS) : List Tkn := s.pre.flatMap flG ++ flG s.top
theorem flG_add (g : Gp) (f : Fg) : flG (g.add f) = flG g ++ tkF f := by
  unfold flG Gp.add
  by_cases h : g.opn = sNo
  · simp only [h, if_true, tkA_append, tkA_one]
  · simp only [h, if_false, tkA_append, tkA_one, List.cons_append]
section
variable {ok : Tkn → Bool} {ws : List ByteArray} {l : List Tkn}
/-- What a step hands on. -/
def emit (ws : List ByteArray) (l : List Tkn) (i : Nat) (t : Tkn) (s : RS) : List Tkn := match actM ws l i t s with
  | .skip => []
  | .cls => [closeTok s.top.fg]
  | .opn => [t]
  | .put => [t]
def emM (ok : Tkn → Bool) (ws : List ByteArray) (l : List Tkn) : List Tkn → Nat → RS → List Tkn
  | [], _, _ => []
  | t :: r, i, s => match stepM ok ws l i t s with
    | .error _ => []
    | .ok s' => emit ws l i t s ++ emM ok ws l r (i + 1) s'
theorem step_cases {i : Nat} {t : Tkn} {s s' : RS} (h : stepM ok ws l i t s = .ok s') : ok t = true ∧
    ((actM ws l i t s = .skip ∧ s' = s) ∨ (actM ws l i t s = .opn ∧ ¬ 100 < s.pre.length + 1 ∧ s' = ⟨s.pre ++ [s.top], ⟨t, t.2.2.1, [], i⟩, s.beh⟩) ∨
      (actM ws l i t s = .cls ∧ ¬ s.top.opn = sNo ∧ closingM s.top.opn = t.2.2.1 ∧ s' = clsM l i s) ∨ (actM ws l i t s = .put ∧ s' = ⟨s.pre, s.top.add (.mk t sNo []), s.beh⟩)) := by
  unfold stepM at h
  split at h
  · rename_i hok
    refine ⟨hok, ?_⟩
    split at h
    · rename_i ha
      cases h; exact .inl ⟨ha, rfl⟩
    · rename_i ha
      split at h
      · cases h
      · rename_i hn
        cases h; exact .inr (.inl ⟨ha, hn, rfl⟩)
    · rename_i ha
      split at h
      · cases h
      · rename_i hn
        cases h
        refine .inr (.inr (.inl ⟨ha, fun e => hn (.inl e), ?_, rfl⟩))
        exact Decidable.of_not_not fun e => hn (.inr e)
    · rename_i ha
      cases h; exact .inr (.inr (.inr ⟨ha, rfl⟩))
  · cases h
theorem act_skip {i : Nat} {t : Tkn} {s : RS} : actM ws l i t s = .skip ↔ i < s.beh := by
  unfold actM
  constructor
  · intro h
    split at h
    · assumption
    · split at h
      · cases h
      · split at h <;> cases h
  · intro h; rw [if_pos h]
theorem act_cls {i : Nat} {t : Tkn} {s : RS} (h : actM ws l i t s = .cls) : t.2.2.1 ∈ closers := by
  unfold actM at h
  split at h
  · cases h
  · split at h
    · cases h
    · split at h
      · assumption
      · cases h
theorem act_put {i : Nat} {t : Tkn} {s : RS} (h : actM ws l i t s = .put) : ¬ t.2.2.1 ∈ closers := by
  unfold actM at h
  split at h
  · cases h
  · split at h
    · cases h
    · split at h
      · cases h
      · assumption
theorem act_opn {i : Nat} {t : Tkn} {s : RS} (h : actM ws l i t s = .opn) : t.2.2.1 ∈ basics ++ ws := by
  unfold actM at h
  split at h
  · cases h
  · split at h
    · rename_i ho
      unfold opensM at ho
      split at ho
      · assumption
      · cases ho
    · split at h <;> cases h
theorem pre_last {s : RS} {g : Gp} (h : s.pre.getLast? = some g) : s.pre = s.pre.dropLast ++ [g] := by
  have hne : s.pre ≠ [] := by rintro e; rw [e] at h; cases h
  have h1 := List.dropLast_concat_getLast hne
  rw [List.getLast?_eq_some_getLast hne] at h
  cases h
  exact h1.symm
theorem step_flat {i : Nat} {t : Tkn} {s s' : RS} (hr : RsOk ws i s) (h : stepM ok ws l i t s = .ok s') (hne : ∀ o ∈ basics ++ ws, ¬ o = sNo) : flS s' = flS s ++ emit ws l i t s := by
  obtain ⟨_, ⟨ha, rfl⟩ | ⟨ha, _, rfl⟩ | ⟨ha, ho, hc, rfl⟩ | ⟨ha, rfl⟩⟩ := step_cases h
  · unfold emit; rw [ha]; simp
  · unfold emit flS; rw [ha]
    have : flG ⟨t, t.2.2.1, [], i⟩ = [t] := by
      unfold flG
      rw [if_neg (hne _ (act_opn ha)), tkA_nil]
    simp only [this, List.flatMap_append, List.flatMap_cons, List.flatMap_nil, List.append_nil]
  · unfold emit; rw [ha]
    unfold clsM
    cases hp : s.pre.getLast? with
    | none => exact absurd (hr.root (List.getLast?_eq_none_iff.1 hp)) ho
    | some g =>
      have hg := pre_last hp
      unfold flS
      simp only
      rw [flG_add]
      conv => rhs; rw [hg]
      have ht : tkF s.top.fg = flG s.top ++ [closeTok s.top.fg] := by
        have := tkF_group (x := s.top.fg) ho
        rw [this]
        unfold flG
        rw [if_neg ho]
        rfl
      rw [ht, List.flatMap_append]
      simp
  · unfold emit flS; rw [ha]
    simp only
    rw [flG_add, tkF_leaf (by rfl)]
    simp [Fg.tok]
theorem run_flat (hne : ∀ o ∈ basics ++ ws, ¬ o = sNo) : ∀ (r : List Tkn) (i : Nat) (s : RS) (L : List Fg), RsOk ws i s → runM ok ws l r i s = .ok L → flS s ++ emM ok ws l r i s = tkA L
  | [], i, s, L, hr, h => by
    unfold runM at h
    split at h
    · rename_i hp
      cases h
      unfold emM flS flG
      rw [hp, hr.root hp]
      simp
    · cases h
  | t :: r, i, s, L, hr, h => by
    unfold runM at h
    split at h
    · cases h
    · rename_i s' hs'
      have := run_flat hne r (i + 1) s' L (stepM_ok hr hs') h
      unfold emM
      rw [hs']
      simp only
      rw [← this, step_flat hr hs' hne, List.append_assoc]
theorem em_len : ∀ (r : List Tkn) (i : Nat) (s : RS), (emM ok ws l r i s).length ≤ r.length
  | [], _, _ => by unfold emM; simp
  | t :: r, i, s => by
    unfold emM
    split
    · simp
    · rename_i s' _
      have := em_len r (i + 1) s'
      have h2 : (emit ws l i t s).length ≤ 1 := by unfold emit; split <;> simp
      rw [List.length_append, List.length_cons]; omega
end
end

section

section
variable {ok : Tkn → Bool} {ws : List ByteArray} {l m : List Tkn}
theorem emit_kt (HK : OkTk ok ws) {i : Nat} {t : Tkn} {s s' : RS} (h : stepM ok ws l i t s = .ok s') (hb : s.beh ≤ i) : ∃ u, emit ws l i t s = [u] ∧ kt u = kt t := by
  obtain ⟨hok, ⟨ha, _⟩ | ⟨ha, _⟩ | ⟨ha, ho, hc, _⟩ | ⟨ha, _⟩⟩ := step_cases h
  · exact absurd (act_skip.1 ha) (by omega)
  · exact ⟨t, by unfold emit; rw [ha], rfl⟩
  · refine ⟨closeTok s.top.fg, by unfold emit; rw [ha], ?_⟩
    show (closeK s.top.opn, closingM s.top.opn) = (t.1, t.2.2.1)
    rw [HK.kind t hok (act_cls ha), ← hc, closeK_kind]
  · exact ⟨t, by unfold emit; rw [ha], rfl⟩
theorem run_cons {r : List Tkn} {t : Tkn} {i : Nat} {s : RS} {L : List Fg} (h : runM ok ws l (t :: r) i s = .ok L) : ∃ s', stepM ok ws l i t s = .ok s' ∧ runM ok ws l r (i + 1) s' = .ok L := by
  unfold runM at h
  split at h
  · cases h
  · rename_i s' hs'
    exact ⟨s', hs', h⟩
theorem em_cons {r : List Tkn} {t : Tkn} {i : Nat} {s s' : RS} (h : stepM ok ws l i t s = .ok s') : emM ok ws l (t :: r) i s = emit ws l i t s ++ emM ok ws l r (i + 1) s' := by
  conv => lhs; unfold emM
  rw [h]
theorem kt0 (HK : OkTk ok ws) {r : List Tkn} {i : Nat} {s : RS} {L : List Fg} (h : runM ok ws l r i s = .ok L) (hb : s.beh ≤ i) : r[0]?.map kt = (emM ok ws l r i s)[0]?.map kt := by
  cases r with
  | nil => unfold emM; rfl
  | cons t r =>
    obtain ⟨s', hs, _⟩ := run_cons h
    obtain ⟨u, hu, hk⟩ := emit_kt HK hs hb
    rw [em_cons hs, hu]
    simp [hk]
theorem beh_keep {i : Nat} {t : Tkn} {s s' : RS} (h : stepM ok ws l i t s = .ok s') (ht : ¬ t.2.2.1 ∈ closers) : s'.beh = s.beh := by
  obtain ⟨_, ⟨_, rfl⟩ | ⟨_, _, rfl⟩ | ⟨ha, _⟩ | ⟨_, rfl⟩⟩ := step_cases h
  · rfl
  · rfl
  · exact absurd (act_cls ha) ht
  · rfl
theorem kt1 (HK : OkTk ok ws) {t : Tkn} {r : List Tkn} {i : Nat} {s : RS} {L : List Fg} (h : runM ok ws l (t :: r) i s = .ok L) (hb : s.beh ≤ i) (ht : ¬ t.2.2.1 ∈ closers) : r[0]?.map kt = (emM ok ws l (t :: r) i s)[1]?.map kt := by
  obtain ⟨s', hs, hr⟩ := run_cons h
  obtain ⟨u, hu, hk⟩ := emit_kt HK hs hb
  rw [em_cons hs, hu, kt0 HK hr (by have := beh_keep hs ht; omega)]
  rfl
theorem kt2 (HK : OkTk ok ws) {t t2 : Tkn} {r : List Tkn} {i : Nat} {s : RS} {L : List Fg} (h : runM ok ws l (t :: t2 :: r) i s = .ok L) (hb : s.beh ≤ i) (ht : ¬ t.2.2.1 ∈ closers) (ht2 : ¬ t2.2.2.1 ∈ closers) : r[0]?.map kt = (emM ok ws l (t :: t2 :: r) i s)[2]?.map kt := by
  obtain ⟨s', hs, hr⟩ := run_cons h
  obtain ⟨u, hu, hk⟩ := emit_kt HK hs hb
  rw [em_cons hs, hu, kt1 HK hr (by have := beh_keep hs ht; omega) ht2]
  rfl
theorem em_skip {L : List Fg} {s : RS} : ∀ (n : Nat) (r : List Tkn) (i : Nat), s.beh = i + n → n ≤ r.length → runM ok ws l r i s = .ok L → emM ok ws l r i s = emM ok ws l (r.drop n) (i + n) s ∧ runM ok ws l (r.drop n) (i + n) s = .ok L
  | 0, r, i, _, _, h => ⟨rfl, h⟩
  | n + 1, [], i, _, hl, _ => absurd hl (by simp)
  | n + 1, t :: r, i, hb, hl, h => by
    obtain ⟨s', hs, hr⟩ := run_cons h
    have ha : actM ws l i t s = .skip := act_skip.2 (by omega)
    have hs' : s' = s := by
      obtain ⟨_, ⟨_, e⟩ | ⟨hb, _⟩ | ⟨hb, _⟩ | ⟨hb, _⟩⟩ := step_cases hs
      · exact e
      all_goals rw [ha] at hb; cases hb
    subst hs'
    have ih := em_skip (s := s') n r (i + 1) (by omega) (by simpa using hl) hr
    rw [em_cons hs]
    have e : emit ws l i t s' = [] := by unfold emit; rw [ha]
    have e2 : i + 1 + n = i + (n + 1) := by omega
    rw [e, List.nil_append, List.drop_succ_cons, ← e2]
    exact ih
theorem stop_name {p : Nat} {x : ByteArray} (h : isStopM l p = true) (hx : ¬ x = sEnd) : isNameM l p x = false := by
  unfold isStopM at h
  unfold isNameM
  cases hp : l[p]? with
  | none => rfl
  | some t =>
    rw [hp] at h
    simp only [Bool.or_eq_true, Bool.and_eq_true, decide_eq_true_eq] at h
    show (decide (t.1 = 1) && decide (t.2.2.1 = x)) = false
    rcases h with ⟨h1, h2⟩ | ⟨h1, _⟩
    · have : ¬ t.2.2.1 = x := fun e => hx (by rw [← e, h2])
      rw [decide_eq_false this, Bool.and_false]
    · have : ¬ t.1 = 1 := by omega
      rw [decide_eq_false this, Bool.false_and]
theorem name_some {p : Nat} {x : ByteArray} (h : isNameM l p x = true) : ∃ t, l[p]? = some t ∧ t.2.2.1 = x ∧ t.1 = 1 := by
  unfold isNameM at h
  cases hp : l[p]? with
  | none => rw [hp] at h; cases h
  | some t =>
    rw [hp] at h
    simp only [Bool.and_eq_true, decide_eq_true_eq] at h
    exact ⟨t, rfl, h.2, h.1⟩
theorem drop_at {i : Nat} {r : List Tkn} (h : l.drop i = r) (k : Nat) : l[i + k]? = r[k]? := by rw [← h, List.getElem?_drop]
theorem drop_next {i : Nat} {t : Tkn} {r : List Tkn} (h : l.drop i = t :: r) : l.drop (i + 1) = r := by
  rw [← List.drop_drop, h]
  rfl
def NmOk (g : Gp) : Prop := ∀ nm, nameOfM g.kids = some nm → ¬ nm ∈ closers
theorem named_no {o : ByteArray} (h : isNamed o = true) : ¬ o = sEnd ∧ ¬ o ∈ closers := by
  unfold isNamed at h
  simp only [Bool.or_eq_true, decide_eq_true_eq] at h
  rcases h with rfl | rfl | rfl <;> decide
theorem end_closer : sEnd ∈ closers := by decide
/-- How far the words behind an end reach in the other list. -/
theorem behind_sim (HK : OkTk ok ws) {i j b' : Nat} {s s1 : RS} {r e1 : List Tkn} {L : List Fg} {g' : Gp} (hi : i < l.length) (hl : l.drop (i + 1) = r) (hm : m.drop (j + 1) = e1) (he : e1 = emM ok ws l r (i + 1) s1) (hrun : runM ok ws l r (i + 1) s1 = .ok L)
    (hb1 : s1.beh = behindM l i s.top s.beh) (hb : s.beh ≤ i) (hn : isNamed s.top.opn = true) (hnm : NmOk s.top) (ho : g'.opn = s.top.opn) (hk : g'.kids = s.top.kids) (hb' : b' ≤ j) : behindM m j g' b' ≤ j + 1 := by
  obtain ⟨hn1, hn2⟩ := named_no hn
  have hml : ∀ k, m[j + 1 + k]? = e1[k]? := fun k => drop_at hm k
  have hll : ∀ k, l[i + 1 + k]? = r[k]? := fun k => drop_at hl k
  unfold behindM at hb1 ⊢
  rw [ho, hk]
  by_cases hst : isStopM l (skipN l (skipW l (i + 1) s.top.opn) s.top.kids) = true
  · rw [if_pos hst] at hb1
    generalize hp : skipN l (skipW l (i + 1) s.top.opn) s.top.kids = p at hst hb1
    have hp1 : i + 1 ≤ p := by
      have h1 := skipW_le l (i + 1) s.top.opn
      have h2 := skipN_le l (skipW l (i + 1) s.top.opn) s.top.kids
      omega
    have hp2 : p ≤ l.length := by rw [← hp]; exact skipN_len _ _ _ (skipW_len _ _ _ (by omega))
    have hrl : r.length = l.length - (i + 1) := by rw [← hl, List.length_drop]
    obtain ⟨h1, h2⟩ := em_skip (s := s1) (p - (i + 1)) r (i + 1) (by omega) (by omega) hrun
    have e : i + 1 + (p - (i + 1)) = p := by omega
    rw [e] at h1 h2
    have hkt := kt0 HK h2 (by omega)
    rw [← h1, ← he, List.getElem?_drop, Nat.add_zero, ← hll (p - (i + 1)), e, ← hml 0] at hkt
    simp only [Nat.add_zero] at hkt
    have hs2 : isStopM m (j + 1) = true := by rw [← isStop_kt hkt]; exact hst
    have hw : skipW m (j + 1) s.top.opn = j + 1 := by
      unfold skipW
      rw [← isName_kt hkt, stop_name hst hn1]
      rfl
    have hv : skipN m (j + 1) s.top.kids = j + 1 := by
      unfold skipN
      cases hq : nameOfM s.top.kids with
      | none => rfl
      | some nm =>
        have hne : ¬ nm = sEnd := fun e => hnm nm hq (by rw [e]; exact end_closer)
        simp only
        rw [← isName_kt hkt, stop_name hst hne]
        rfl
    rw [hw, hv, if_pos hs2]
    omega
  · rw [if_neg hst] at hb1
    have hA0 : l[i + 1]?.map kt = m[j + 1]?.map kt := by
      have := kt0 HK hrun (by omega)
      rw [← he, ← hll 0, ← hml 0] at this
      exact this
    have key : ∃ d, skipN l (skipW l (i + 1) s.top.opn) s.top.kids = i + 1 + d ∧ skipN m (skipW m (j + 1) s.top.opn) s.top.kids = j + 1 + d ∧ l[i + 1 + d]?.map kt = m[j + 1 + d]?.map kt := by
      by_cases hw : isNameM l (i + 1) s.top.opn = true
      · have hw' : isNameM m (j + 1) s.top.opn = true := by rw [← isName_kt hA0]; exact hw
        obtain ⟨t, ht, htx, _⟩ := name_some hw
        have hr0 : r[0]? = some t := by rw [← hll 0]; exact ht
        obtain ⟨r2, rfl⟩ : ∃ r2, r = t :: r2 := by
          cases r with
          | nil => cases hr0
          | cons a b => simp only [List.getElem?_cons_zero, Option.some.injEq] at hr0; exact ⟨b, by rw [hr0]⟩
        have htc : ¬ t.2.2.1 ∈ closers := by rw [htx]; exact hn2
        have hA1 : l[i + 1 + 1]?.map kt = m[j + 1 + 1]?.map kt := by
          have := kt1 HK hrun (by omega) htc
          rw [← he, ← hml 1] at this
          rw [hll 1]
          exact this
        unfold skipW
        rw [if_pos hw, if_pos hw']
        unfold skipN
        cases hq : nameOfM s.top.kids with
        | none => exact ⟨1, rfl, rfl, hA1⟩
        | some nm =>
          simp only
          by_cases hv : isNameM l (i + 1 + 1) nm = true
          · have hv' : isNameM m (j + 1 + 1) nm = true := by rw [← isName_kt hA1]; exact hv
            rw [if_pos hv, if_pos hv']
            obtain ⟨t2, ht2, ht2x, _⟩ := name_some hv
            have hr1 : r2[0]? = some t2 := by have := hll 1; rw [ht2] at this; exact this.symm
            obtain ⟨r3, rfl⟩ : ∃ r3, r2 = t2 :: r3 := by
              cases r2 with
              | nil => cases hr1
              | cons a b => simp only [List.getElem?_cons_zero, Option.some.injEq] at hr1; exact ⟨b, by rw [hr1]⟩
            have ht2c : ¬ t2.2.2.1 ∈ closers := by rw [ht2x]; exact hnm nm hq
            refine ⟨2, rfl, rfl, ?_⟩
            have := kt2 HK hrun (by omega) htc ht2c
            rw [← he, ← hml 2] at this
            rw [hll 2]
            exact this
          · have hv' : ¬ isNameM m (j + 1 + 1) nm = true := by rw [← isName_kt hA1]; exact hv
            rw [if_neg hv, if_neg hv']
            exact ⟨1, rfl, rfl, hA1⟩
      · have hw' : ¬ isNameM m (j + 1) s.top.opn = true := by rw [← isName_kt hA0]; exact hw
        unfold skipW
        rw [if_neg hw, if_neg hw']
        unfold skipN
        cases hq : nameOfM s.top.kids with
        | none => exact ⟨0, rfl, rfl, hA0⟩
        | some nm =>
          simp only
          by_cases hv : isNameM l (i + 1) nm = true
          · have hv' : isNameM m (j + 1) nm = true := by rw [← isName_kt hA0]; exact hv
            rw [if_pos hv, if_pos hv']
            obtain ⟨t, ht, htx, _⟩ := name_some hv
            have hr0 : r[0]? = some t := by rw [← hll 0]; exact ht
            obtain ⟨r2, rfl⟩ : ∃ r2, r = t :: r2 := by
              cases r with
              | nil => cases hr0
              | cons a b => simp only [List.getElem?_cons_zero, Option.some.injEq] at hr0; exact ⟨b, by rw [hr0]⟩
            have htc : ¬ t.2.2.1 ∈ closers := by rw [htx]; exact hnm nm hq
            refine ⟨1, rfl, rfl, ?_⟩
            have := kt1 HK hrun (by omega) htc
            rw [← he, ← hml 1] at this
            rw [hll 1]
            exact this
          · have hv' : ¬ isNameM m (j + 1) nm = true := by rw [← isName_kt hA0]; exact hv
            rw [if_neg hv, if_neg hv']
            exact ⟨0, rfl, rfl, hA0⟩
    obtain ⟨d, h1, h2, h3⟩ := key
    rw [h1] at hst
    rw [h2, if_neg (by rw [← isStop_kt h3]; exact hst)]
    omega
end
end

section

def bare (g : Gp) : Tkn × ByteArray × List Fg := (g.tok, g.opn, g.kids)
def PlAt (i : Nat) (g : Gp) : Prop := g.opn = sMacro → (g.kids = [] → g.pl + 1 = i) ∧ (¬ g.kids = [] → g.pl + 1 < i)
def PlPre (i : Nat) (g : Gp) : Prop := g.opn = sMacro → g.pl + 1 ≤ i
def TkGp (ok : Tkn → Bool) (ws : List ByteArray) (g : Gp) : Prop := ¬ g.opn = sNo → ok g.tok = true ∧ g.opn ∈ basics ++ ws
/-- One run follows the other. -/
structure Sim (ok : Tkn → Bool) (ws : List ByteArray) (i j : Nat) (s s' : RS) : Prop where
  pre : s.pre.map bare = s'.pre.map bare
  top : bare s.top = bare s'.top
  beh : s'.beh ≤ j
  skp : i < s.beh → ¬ s.top.kids = []
  pt : PlAt i s.top
  pt' : PlAt j s'.top
  pp : ∀ g ∈ s.pre, PlPre i g
  pp' : ∀ g ∈ s'.pre, PlPre j g
  nmt : NmOk s.top
  nmp : ∀ g ∈ s.pre, NmOk g
  gtt : TkGp ok ws s.top
  gtp : ∀ g ∈ s.pre, TkGp ok ws g
theorem PlPre.up {i i' : Nat} {g : Gp} (h : PlPre i g) (hi : i ≤ i') : PlPre i' g := fun ho => Nat.le_trans (h ho) hi
theorem PlAt.pre {i : Nat} {g : Gp} (h : PlAt i g) : PlPre (i + 1) g := fun ho => by
  by_cases hk : g.kids = []
  · have := (h ho).1 hk; omega
  · have := (h ho).2 hk; omega
theorem PlAt.add {i : Nat} {g : Gp} {f : Fg} (h : PlPre i g) : PlAt (i + 1) (g.add f) := fun ho =>
  ⟨fun hk => by simp [Gp.add] at hk, fun _ => by have := h ho; show g.pl + 1 < i + 1; omega⟩
theorem PlAt.put {i : Nat} {g : Gp} {f : Fg} (h : PlAt i g) : PlAt (i + 1) (g.add f) := fun ho =>
  ⟨fun hk => by simp [Gp.add] at hk, fun _ => by
    show g.pl + 1 < i + 1
    by_cases hk : g.kids = []
    · have := (h ho).1 hk; omega
    · have := (h ho).2 hk; omega⟩
theorem nameOf_add (k : List Fg) (f : Fg) : nameOfM (k ++ [f]) = if k = [] then nameOfM [f] else nameOfM k := by
  cases k with
  | nil => rfl
  | cons a b => simp [nameOfM]
theorem NmOk.add {g : Gp} {f : Fg} (h : NmOk g) (hf : ∀ nm, nameOfM [f] = some nm → ¬ nm ∈ closers) : NmOk (g.add f) := fun nm hn => by
  have e : nameOfM (g.kids ++ [f]) = some nm := hn
  rw [nameOf_add] at e
  split at e
  · exact hf nm e
  · exact h nm e
theorem bare_eq {a b : Gp} (h : bare a = bare b) : a.tok = b.tok ∧ a.opn = b.opn ∧ a.kids = b.kids := by
  exact ⟨congrArg (fun x => x.1) h, congrArg (fun x => x.2.1) h, congrArg (fun x => x.2.2) h⟩
theorem bare_fg {a b : Gp} (h : bare a = bare b) : a.fg = b.fg := by
  obtain ⟨h1, h2, h3⟩ := bare_eq h
  unfold Gp.fg
  rw [h1, h2, h3]
theorem bare_add {a b : Gp} (h : bare a = bare b) (f : Fg) : bare (a.add f) = bare (b.add f) := by
  obtain ⟨h1, h2, h3⟩ := bare_eq h
  unfold bare Gp.add
  rw [h1, h2, h3]
section
variable {ok : Tkn → Bool} {ws : List ByteArray} {l m : List Tkn}
theorem opens_sim {i j : Nat} {s s' : RS} (hS : Sim ok ws i j s s') (t : Tkn) (hk : l[i + 1]?.map kt = m[j + 1]?.map kt) : opensM ws m j t s'.top = opensM ws l i t s.top := by
  obtain ⟨_, h2, h3⟩ := bare_eq hS.top
  have hmac : (decide (s'.top.opn = sMacro) && decide (s'.top.pl + 1 = j)) = (decide (s.top.opn = sMacro) && decide (s.top.pl + 1 = i)) := by
    by_cases ho : s.top.opn = sMacro
    · have ho' : s'.top.opn = sMacro := by rw [← h2]; exact ho
      by_cases hk : s.top.kids = []
      · have e1 := (hS.pt ho).1 hk
        have e2 := (hS.pt' ho').1 (by rw [← h3]; exact hk)
        rw [decide_eq_true ho, decide_eq_true ho', decide_eq_true e1, decide_eq_true e2]
      · have e1 := (hS.pt ho).2 hk
        have e2 := (hS.pt' ho').2 (by rw [← h3]; exact hk)
        rw [decide_eq_false (show ¬ s.top.pl + 1 = i by omega), decide_eq_false (show ¬ s'.top.pl + 1 = j by omega), decide_eq_true ho, decide_eq_true ho']
    · have ho' : ¬ s'.top.opn = sMacro := by rw [← h2]; exact ho
      rw [decide_eq_false ho, decide_eq_false ho', Bool.false_and, Bool.false_and]
  unfold opensM
  rw [hmac, isName_kt hk]
theorem act_sim {i j : Nat} {s s' : RS} (hS : Sim ok ws i j s s') (t : Tkn) (hb : s.beh ≤ i) (hk : l[i + 1]?.map kt = m[j + 1]?.map kt) : actM ws m j t s' = actM ws l i t s := by
  unfold actM
  rw [if_neg (show ¬ j < s'.beh by have := hS.beh; omega), if_neg (show ¬ i < s.beh by omega), opens_sim hS t hk]
theorem not_skip {i : Nat} {t : Tkn} {s : RS} {a : Act3} (h : actM ws l i t s = a) (ha : a ≠ .skip) : s.beh ≤ i := by
  apply Nat.le_of_not_lt
  intro hlt
  have := (act_skip (ws := ws) (l := l) (t := t)).2 hlt
  rw [h] at this
  exact ha this
theorem last_sim {s s' : RS} (h : s.pre.map bare = s'.pre.map bare) {g : Gp} (hg : s.pre.getLast? = some g) : ∃ g', s'.pre.getLast? = some g' ∧ bare g = bare g' := by
  have e1 : (s.pre.map bare).getLast? = some (bare g) := by rw [List.getLast?_map, hg]; rfl
  rw [h, List.getLast?_map] at e1
  cases h2 : s'.pre.getLast? with
  | none => rw [h2] at e1; cases e1
  | some g' =>
    rw [h2] at e1
    exact ⟨g', rfl, (Option.some.inj e1).symm⟩
theorem sim_run (HK : OkTk ok ws) (hne : ∀ o ∈ basics ++ ws, ¬ o = sNo) {L : List Fg} : ∀ (r : List Tkn) (i : Nat) (s : RS) (j : Nat) (s' : RS), l.drop i = r → m.drop j = emM ok ws l r i s → runM ok ws l r i s = .ok L → RsOk ws i s → Sim ok ws i j s s' →
    runM ok ws m (m.drop j) j s' = .ok L
  | [], i, s, j, s', hl, hm, h, hr, hS => by
    have e : emM ok ws l [] i s = [] := by unfold emM; rfl
    rw [hm, e]
    unfold runM at h ⊢
    split at h
    · rename_i hp
      have hp' : s'.pre = [] := by have := hS.pre; rw [hp] at this; exact List.map_eq_nil_iff.1 this.symm
      rw [if_pos hp', ← (bare_eq hS.top).2.2]
      exact h
    · cases h
  | t :: r, i, s, j, s', hl, hm, h, hr, hS => by
    obtain ⟨s1, hs, hrun⟩ := run_cons h
    have hr1 := stepM_ok hr hs
    have hl1 := drop_next hl
    have hil : i < l.length := by
      apply Nat.lt_of_not_le
      intro hge
      rw [List.drop_eq_nil_of_le hge] at hl
      cases hl
    rw [em_cons hs] at hm
    obtain ⟨hok, ⟨ha, rfl⟩ | ⟨ha, hd, rfl⟩ | ⟨ha, ho, hc, rfl⟩ | ⟨ha, rfl⟩⟩ := step_cases hs
    · have he : emit ws l i t s1 = [] := by unfold emit; rw [ha]
      rw [he, List.nil_append] at hm
      have hlt := act_skip.1 ha
      have hkids := hS.skp hlt
      refine sim_run HK hne r (i + 1) s1 j s' hl1 hm hrun hr1 { hS with skp := fun _ => hkids, pt := fun ho => ⟨fun hk => absurd hk hkids, fun hk => by have := (hS.pt ho).2 hk; omega⟩, pp := fun g hg => (hS.pp g hg).up (by omega) }
    · have hb := not_skip ha (by simp)
      have he : emit ws l i t s = [t] := by unfold emit; rw [ha]
      rw [he, List.singleton_append] at hm
      have hk : l[i + 1]?.map kt = m[j + 1]?.map kt := by
        have := kt0 HK hrun (by simp only; omega)
        have h1 := drop_at hl1 0
        have h2 := drop_at (drop_next hm) 0
        rw [Nat.add_zero] at h1 h2
        rw [h1, h2]; exact this
      have ham := act_sim hS t hb hk
      rw [ha] at ham
      have hst : stepM ok ws m j t s' = .ok ⟨s'.pre ++ [s'.top], ⟨t, t.2.2.1, [], j⟩, s'.beh⟩ := by
        unfold stepM
        rw [if_pos hok, ham]
        have hlen : s'.pre.length = s.pre.length := by have := congrArg List.length hS.pre; simpa using this.symm
        simp only [hlen, hd, if_false]
      have hop := act_opn ha
      have ih := sim_run HK hne r (i + 1) _ (j + 1) ⟨s'.pre ++ [s'.top], ⟨t, t.2.2.1, [], j⟩, s'.beh⟩ hl1 (drop_next hm) hrun hr1
        ⟨by simp only [List.map_append, List.map_cons, List.map_nil, hS.pre, hS.top], rfl, by have := hS.beh; simp only; omega, fun h => by simp only at h; omega, fun _ => ⟨fun _ => rfl, fun hk => absurd rfl hk⟩, fun _ => ⟨fun _ => rfl, fun hk => absurd rfl hk⟩,
         (fun g hg => by
          rcases List.mem_append.1 hg with hg | hg
          · exact (hS.pp g hg).up (by omega)
          · rw [List.mem_singleton.1 hg]; exact hS.pt.pre),
         (fun g hg => by
          rcases List.mem_append.1 hg with hg | hg
          · exact (hS.pp' g hg).up (by omega)
          · rw [List.mem_singleton.1 hg]; exact hS.pt'.pre),
         (fun nm hn => by cases hn),
         (fun g hg => by
          rcases List.mem_append.1 hg with hg | hg
          · exact hS.nmp g hg
          · rw [List.mem_singleton.1 hg]; exact hS.nmt),
         fun _ => ⟨hok, hop⟩,
         fun g hg => by
          rcases List.mem_append.1 hg with hg | hg
          · exact hS.gtp g hg
          · rw [List.mem_singleton.1 hg]; exact hS.gtt⟩
      rw [hm]
      unfold runM
      rw [hst]
      rw [drop_next hm] at ih
      exact ih
    · have hb := not_skip ha (by simp)
      have he : emit ws l i t s = [closeTok s.top.fg] := by unfold emit; rw [ha]
      rw [he, List.singleton_append] at hm
      obtain ⟨hb1, hb2, hb3⟩ := bare_eq hS.top
      obtain ⟨hgk, hgo⟩ := hS.gtt ho
      have hcok : ok (closeTok s.top.fg) = true := HK.clos s.top.tok s.top.opn hgk hgo
      have hct : (closeTok s.top.fg).2.2.1 = closingM s.top.opn := rfl
      have hcm : (closeTok s.top.fg).2.2.1 ∈ closers := closing_mem _
      have ham : actM ws m j (closeTok s.top.fg) s' = .cls := by
        unfold actM
        have hop : opensM ws m j (closeTok s.top.fg) s'.top = false := by
          unfold opensM
          rw [if_neg (HK.word _ hcm)]
        rw [if_neg (by have := hS.beh; omega), hop, if_pos hcm]
        simp
      have hst : stepM ok ws m j (closeTok s.top.fg) s' = .ok (clsM m j s') := by
        unfold stepM
        rw [if_pos hcok, ham]
        have hc2 : ¬ (s'.top.opn = sNo ∨ closingM s'.top.opn ≠ (closeTok s.top.fg).2.2.1) := by
          rw [← hb2, hct]
          rintro (h | h)
          · exact ho h
          · exact h rfl
        simp only [hc2, if_false]
      rw [hm]
      unfold runM
      rw [hst]
      simp only
      cases hp : s.pre.getLast? with
      | none => exact absurd (hr.root (List.getLast?_eq_none_iff.1 hp)) ho
      | some g =>
        obtain ⟨g', hp', hbg⟩ := last_sim hS.pre hp
        have hgm : g ∈ s.pre := List.mem_of_getLast? hp
        have hgm' : g' ∈ s'.pre := List.mem_of_getLast? hp'
        have hs1 : clsM l i s = ⟨s.pre.dropLast, g.add s.top.fg, if isNamed s.top.opn then behindM l i s.top s.beh else s.beh⟩ := by unfold clsM; rw [hp]
        have hs1' : clsM m j s' = ⟨s'.pre.dropLast, g'.add s'.top.fg, if isNamed s'.top.opn then behindM m j s'.top s'.beh else s'.beh⟩ := by unfold clsM; rw [hp']
        have hbeh : (clsM m j s').beh ≤ j + 1 := by
          rw [hs1']
          simp only
          by_cases hn : isNamed s.top.opn = true
          · rw [← hb2, if_pos hn]
            exact behind_sim HK hil hl1 (drop_next hm) rfl hrun (by rw [hs1]; simp only [hn, if_true]) hb hn hS.nmt hb2.symm hb3.symm hS.beh
          · rw [← hb2, if_neg hn]
            have := hS.beh; omega
        have ih := sim_run HK hne r (i + 1) _ (j + 1) (clsM m j s') hl1 (drop_next hm) hrun hr1
          ⟨by rw [hs1, hs1']; simp only [List.map_dropLast, hS.pre], by rw [hs1, hs1']; simp only; rw [← bare_fg hS.top]; exact bare_add hbg _, hbeh, fun _ => by rw [hs1]; simp [Gp.add],
           by rw [hs1]; exact PlAt.add (hS.pp g hgm), by rw [hs1']; exact PlAt.add (hS.pp' g' hgm'),
           by rw [hs1]; exact fun x hx => (hS.pp x ((List.dropLast_sublist _).subset hx)).up (by omega),
           by rw [hs1']; exact fun x hx => (hS.pp' x ((List.dropLast_sublist _).subset hx)).up (by omega),
           (by
            rw [hs1]
            refine (hS.nmp g hgm).add fun nm hn => ?_
            unfold nameOfM Gp.fg at hn
            simp only [Fg.opn, ho, false_and, if_false] at hn
            cases hn),
           by rw [hs1]; exact fun x hx => hS.nmp x ((List.dropLast_sublist _).subset hx),
           by rw [hs1]; exact hS.gtp g hgm,
           by rw [hs1]; exact fun x hx => hS.gtp x ((List.dropLast_sublist _).subset hx)⟩
        rw [drop_next hm] at ih
        exact ih
    · have hb := not_skip ha (by simp)
      have he : emit ws l i t s = [t] := by unfold emit; rw [ha]
      rw [he, List.singleton_append] at hm
      have hk : l[i + 1]?.map kt = m[j + 1]?.map kt := by
        have := kt0 HK hrun (by simp only; omega)
        have h1 := drop_at hl1 0
        have h2 := drop_at (drop_next hm) 0
        rw [Nat.add_zero] at h1 h2
        rw [h1, h2]; exact this
      have ham := act_sim hS t hb hk
      rw [ha] at ham
      have hst : stepM ok ws m j t s' = .ok ⟨s'.pre, s'.top.add (.mk t sNo []), s'.beh⟩ := by
        unfold stepM
        rw [if_pos hok, ham]
      have hput := act_put ha
      have ih := sim_run HK hne r (i + 1) _ (j + 1) ⟨s'.pre, s'.top.add (.mk t sNo []), s'.beh⟩ hl1 (drop_next hm) hrun hr1
        ⟨hS.pre, bare_add hS.top _, by have := hS.beh; simp only; omega, fun h => by simp only at h; omega, hS.pt.put, hS.pt'.put, fun g hg => (hS.pp g hg).up (by omega), fun g hg => (hS.pp' g hg).up (by omega),
         (hS.nmt.add fun nm hn => by
          have hn2 : (if (Fg.mk t sNo []).opn = sNo ∧ (Fg.mk t sNo []).tok.1 = 1 then some (Fg.mk t sNo []).tok.2.2.1 else none) = some nm := hn
          split at hn2
          · cases hn2; exact hput
          · cases hn2),
         hS.nmp, hS.gtt, hS.gtp⟩
      rw [hm]
      unfold runM
      rw [hst]
      rw [drop_next hm] at ih
      exact ih
end
end

section

theorem kind_par : kindN sRap = 5 ∧ kindN sKet = 5 ∧ kindN sRuc = 5 ∧ kindN sEnd = 1 := by decide +kernel
theorem num_par : numK sRap = 0 ∧ numK sKet = 0 ∧ numK sRuc = 0 ∧ numK sEnd = 0 := by decide +kernel
theorem plain_par : isPlainB sRap = false ∧ isPlainB sKet = false ∧ isPlainB sRuc = false ∧ isPlainB sNo = false := by decide +kernel
theorem right_parts {plain : ByteArray → Bool} {ws : List ByteArray} (h : rightM plain ws = true) : (∀ w ∈ ws, plain w = true) ∧ (∀ w ∈ ws, ¬ w ∈ [sBegin, sIf, sBlock, sMethod, sClass, sMacro, sEnd, sSlot]) := by
  unfold rightM at h
  simp only [Bool.and_eq_true, List.all_eq_true, Bool.not_eq_true', decide_eq_false_iff_not] at h
  exact ⟨h.2.1, h.2.2.1⟩
theorem basics_no : ∀ o ∈ basics, ¬ o = sNo ∧ ¬ o ∈ closers := by decide
theorem words_no {ws : List ByteArray} (h : rightM isPlainB ws = true) : ∀ o ∈ basics ++ ws, ¬ o = sNo := by
  intro o ho e
  rcases List.mem_append.1 ho with ho | ho
  · exact (basics_no o ho).1 e
  · have := (right_parts h).1 o ho
    rw [e, plain_par.2.2.2] at this
    cases this
theorem okTk {ws : List ByteArray} (h : rightM isPlainB ws = true) : OkTk tokOk ws := by
  obtain ⟨k1, k2, k3, k4⟩ := kind_par
  obtain ⟨n1, n2, n3, n4⟩ := num_par
  obtain ⟨p1, p2, p3, _⟩ := plain_par
  refine ⟨fun t ht hc => ?_, fun t o ht _ => ?_, fun c hc hm => ?_⟩
  · unfold tokOk at ht
    simp only [Bool.and_eq_true, decide_eq_true_eq] at ht
    have hk := ht.2.1
    unfold closers at hc
    simp only [List.mem_cons, List.not_mem_nil, or_false] at hc
    rcases hc with e | e | e | e
    · rw [e, k1] at hk; rw [e, if_neg (by decide)]; exact hk.symm
    · rw [e, k2] at hk; rw [e, if_neg (by decide)]; exact hk.symm
    · rw [e, k3] at hk; rw [e, if_neg (by decide)]; exact hk.symm
    · rw [e, k4] at hk; rw [e, if_pos rfl]; exact hk.symm
  · unfold tokOk at ht
    simp only [Bool.and_eq_true, decide_eq_true_eq] at ht
    obtain ⟨_, _, ha, hm, _⟩ := ht
    show tokOk (closeK o, 0, closingM o, t.2.2.2.1, t.2.2.2.2) = true
    have hc := closing_mem o
    rw [closeK_kind]
    generalize closingM o = c at hc ⊢
    unfold tokOk
    simp only [Bool.and_eq_true]
    unfold closers at hc
    simp only [List.mem_cons, List.not_mem_nil, or_false] at hc
    rcases hc with e | e | e | e
    · rw [e, k1, n1, if_neg (by decide)]; exact ⟨by simp, by simp, ha, hm, by simp⟩
    · rw [e, k2, n2, if_neg (by decide)]; exact ⟨by simp, by simp, ha, hm, by simp⟩
    · rw [e, k3, n3, if_neg (by decide)]; exact ⟨by simp, by simp, ha, hm, by simp⟩
    · rw [e, k4, n4, if_pos rfl]; exact ⟨by simp, by simp, ha, hm, by simp⟩
  · rcases List.mem_append.1 hm with hm | hm
    · exact (basics_no c hm).2 hc
    · have h1 := (right_parts h).1 c hm
      have h2 := (right_parts h).2 c hm
      unfold closers at hc
      simp only [List.mem_cons, List.not_mem_nil, or_false] at hc
      rcases hc with e | e | e | e
      · rw [e, p1] at h1; cases h1
      · rw [e, p2] at h1; cases h1
      · rw [e, p3] at h1; cases h1
      · rw [e] at h2; exact h2 (by simp)
theorem readM_run {ok : Tkn → Bool} {plain : ByteArray → Bool} {l : List Tkn} {ws : List ByteArray} {L : List Fg} (h : readM ok plain l ws = .ok L) : rightM plain ws = true ∧ l.length ≤ 6000 ∧ runM ok ws l l 0 rs0 = .ok L := by
  unfold readM at h
  split at h
  · split at h
    · cases h
    · exact ⟨by assumption, by omega, h⟩
  · cases h
theorem em_all {ws : List ByteArray} {l : List Tkn} {L : List Fg} (h : readM tokOk isPlainB l ws = .ok L) : emM tokOk ws l l 0 rs0 = tkA L := by
  obtain ⟨hr, _, hrun⟩ := readM_run h
  have h1 := run_flat (words_no hr) l 0 rs0 L (rs0_ok ws) hrun
  have h2 : flS rs0 = [] := by
    unfold flS flG rs0
    simp [tkA_nil]
  rw [h2, List.nil_append] at h1
  exact h1
theorem FgsSz.append {B : Nat} : ∀ {a b : List Fg}, FgsSz B a → FgsSz B b → FgsSz B (a ++ b)
  | [], b, _, hb => hb
  | x :: r, b, ha, hb => by
    rw [List.cons_append]
    unfold FgsSz at ha ⊢
    exact ⟨ha.1, ha.2.append hb⟩
theorem FgsSz.one {B : Nat} {x : Fg} (h : FgSz B x) : FgsSz B [x] := by
  unfold FgsSz
  exact ⟨h, by unfold FgsSz; trivial⟩
end

section

section
variable {ok : Tkn → Bool} {ws : List ByteArray} {l m : List Tkn}
def StW (l : List Tkn) (i : Nat) (s : RS) : Prop :=
  (∀ q, i ≤ q → q < s.beh → ∃ u, l[q]? = some u ∧ u.1 = 1 ∧ ¬ u.2.2.1 = sEnd) ∧ (i < s.beh → isStopM l s.beh = true) ∧ NmOk s.top ∧ ∀ g ∈ s.pre, NmOk g
theorem win_names {i : Nat} {g : Gp} (hn : isNamed g.opn = true) (hk : NmOk g) : ∀ q, i + 1 ≤ q → q < skipN l (skipW l (i + 1) g.opn) g.kids → ∃ u, l[q]? = some u ∧ u.1 = 1 ∧ ¬ u.2.2.1 = sEnd := by
  intro q hq hp
  by_cases hw : q < skipW l (i + 1) g.opn
  · unfold skipW at hw
    split at hw
    · rename_i h
      obtain ⟨u, hu, hx, h1⟩ := name_some h
      have : q = i + 1 := by omega
      subst this
      exact ⟨u, hu, h1, by rw [hx]; exact (named_no hn).1⟩
    · omega
  · unfold skipN at hp
    split at hp
    · rename_i nm hnm
      split at hp
      · rename_i h
        obtain ⟨u, hu, hx, h1⟩ := name_some h
        have : q = skipW l (i + 1) g.opn := by omega
        rw [this]
        exact ⟨u, hu, h1, by rw [hx]; exact fun e => hk nm hnm (by rw [e]; exact end_closer)⟩
      · omega
    · omega
theorem step_w {i : Nat} {t : Tkn} {s s' : RS} (hw : StW l i s) (h : stepM ok ws l i t s = .ok s') : StW l (i + 1) s' := by
  obtain ⟨h1, h2, h3, h4⟩ := hw
  obtain ⟨_, ⟨_, rfl⟩ | ⟨ha, hn, rfl⟩ | ⟨ha, ho, _, rfl⟩ | ⟨ha, rfl⟩⟩ := step_cases h
  · exact ⟨fun q a b => h1 q (by omega) b, fun a => h2 (by omega), h3, h4⟩
  · have hb := not_skip ha (by simp)
    refine ⟨fun q a b => by simp only at b; omega, fun a => by simp only at a; omega, (fun nm hm => by cases hm), fun g hg => ?_⟩
    rcases List.mem_append.1 hg with hg | hg
    · exact h4 g hg
    · rw [List.mem_singleton.1 hg]; exact h3
  · have hb := not_skip ha (by simp)
    unfold clsM
    cases hp : s.pre.getLast? with
    | none => exact ⟨fun q a b => by simp only at b; omega, fun a => by simp only at a; omega, h3, h4⟩
    | some g =>
      have hgm := List.mem_of_getLast? hp
      have hadd : NmOk (g.add s.top.fg) := (h4 g hgm).add fun nm hn => by
        unfold nameOfM Gp.fg at hn
        simp only [Fg.opn, ho, false_and, if_false] at hn
        cases hn
      have hpre : ∀ x ∈ s.pre.dropLast, NmOk x := fun x hx => h4 x ((List.dropLast_sublist _).subset hx)
      show StW l (i + 1) ⟨s.pre.dropLast, g.add s.top.fg, if isNamed s.top.opn then behindM l i s.top s.beh else s.beh⟩
      by_cases hn : isNamed s.top.opn = true
      · rw [if_pos hn]
        unfold behindM
        by_cases hst : isStopM l (skipN l (skipW l (i + 1) s.top.opn) s.top.kids) = true
        · rw [if_pos hst]
          exact ⟨fun q a b => win_names hn h3 q a b, fun _ => hst, hadd, hpre⟩
        · rw [if_neg hst]
          exact ⟨fun q a b => by simp only at b; omega, fun a => by simp only at a; omega, hadd, hpre⟩
      · rw [if_neg hn]
        exact ⟨fun q a b => by simp only at b; omega, fun a => by simp only at a; omega, hadd, hpre⟩
  · have hb := not_skip ha (by simp)
    have hput := act_put ha
    refine ⟨fun q a b => by simp only at b; omega, fun a => by simp only at a; omega, h3.add fun nm hn => ?_, h4⟩
    have hn2 : (if (Fg.mk t sNo []).opn = sNo ∧ (Fg.mk t sNo []).tok.1 = 1 then some (Fg.mk t sNo []).tok.2.2.1 else none) = some nm := hn
    split at hn2
    · cases hn2; exact hput
    · cases hn2
end
end

end Go.Proofs.YtcokdapnafgnpaaGreatDoor
