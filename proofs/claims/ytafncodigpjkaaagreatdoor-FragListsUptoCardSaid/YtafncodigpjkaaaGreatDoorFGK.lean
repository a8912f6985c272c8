/-
  What is read is read again from its own tokens: the models, part one.
  What is read is read again from its own tokens: the models, part two.
  What is read is read again from its own tokens: the models, part three.
  What is read is read again from its own tokens: the models, part four.
  The tokens of what is read are those that were read, but for names that are dropped.
-/
import Derived.Test.YtafncodigpjkaaaGreatDoorFGB
import Derived.Test.YtafncodigpjkaaaGreatDoorFGI
import Derived.Test.YtafncodigpjkaaaGreatDoorFGJ
namespace Go.Proofs.YtafncodigpjkaaaGreatDoor
section

mutual
/-- The tokens of fragments, however deep they are. -/
def tkF : Fg → List Tkn
  | .mk t o ks => if o = sNo then [t] else t :: (tkA ks ++ [closeTok (.mk t o [])])
def tkA : List Fg → List Tkn
  | [] => []
  | x :: r => tkF x ++ tkA r
end
theorem tkA_nil : tkA [] = [] := by rw [tkA]
theorem tkA_cons (x : Fg) (r : List Fg) : tkA (x :: r) = tkF x ++ tkA r := by rw [tkA]
theorem tkA_append : ∀ (a b : List Fg), tkA (a ++ b) = tkA a ++ tkA b
  | [], b => by rw [tkA_nil]; rfl
  | x :: r, b => by rw [List.cons_append, tkA_cons, tkA_cons, tkA_append r b, List.append_assoc]
theorem tkA_one (x : Fg) : tkA [x] = tkF x := by rw [tkA_cons, tkA_nil, List.append_nil]
theorem tkF_leaf {x : Fg} (h : x.opn = sNo) : tkF x = [x.tok] := by
  obtain ⟨t, o, ks⟩ := x
  rw [tkF]
  exact if_pos h
theorem tkF_group {x : Fg} (h : ¬ x.opn = sNo) : tkF x = x.tok :: (tkA x.kids ++ [closeTok x]) := by
  obtain ⟨t, o, ks⟩ := x
  rw [tkF]
  exact if_neg h
/-- Kind and text. -/
def kt (t : Tkn) : Int × ByteArray := (t.1, t.2.2.1)
theorem isName_kt {l m : List Tkn} {i j : Nat} (h : l[i]?.map kt = m[j]?.map kt) (s : ByteArray) : isNameM l i s = isNameM m j s := by
  unfold isNameM
  cases h1 : l[i]? with
  | none =>
    cases h2 : m[j]? with
    | none => rfl
    | some u => rw [h1, h2] at h; cases h
  | some t =>
    cases h2 : m[j]? with
    | none => rw [h1, h2] at h; cases h
    | some u =>
      rw [h1, h2] at h
      have he : kt t = kt u := Option.some.inj h
      unfold kt at he
      rw [Prod.mk.injEq] at he
      simp only [he.1, he.2]
theorem isStop_kt {l m : List Tkn} {i j : Nat} (h : l[i]?.map kt = m[j]?.map kt) : isStopM l i = isStopM m j := by
  unfold isStopM
  cases h1 : l[i]? with
  | none =>
    cases h2 : m[j]? with
    | none => rfl
    | some u => rw [h1, h2] at h; cases h
  | some t =>
    cases h2 : m[j]? with
    | none => rw [h1, h2] at h; cases h
    | some u =>
      rw [h1, h2] at h
      have he : kt t = kt u := Option.some.inj h
      unfold kt at he
      rw [Prod.mk.injEq] at he
      simp only [he.1, he.2]

theorem closing_mem (o : ByteArray) : closingM o ∈ closers := by
  unfold closingM closers
  repeat' split
  all_goals simp
theorem closeK_kind (o : ByteArray) : closeK o = if closingM o = sEnd then 1 else 5 := by
  unfold closeK closingM
  by_cases h1 : o = sPar
  · simp only [h1, if_true]; decide
  · by_cases h2 : o = sBra
    · simp only [h2, if_true]; decide
    · by_cases h3 : o = sCur
      · simp only [h3, if_true]; decide
      · simp only [h1, h2, h3, if_false, if_true]
def flG (g : Gp) : List Tkn := if g.opn = sNo then tkA g.kids else g.tok :: tkA g.kids
def flS (s : RS) : List Tkn := s.pre.flatMap flG ++ flG s.top
theorem flG_add (g : Gp) (f : Fg) : flG (g.add f) = flG g ++ tkF f := by
  unfold flG Gp.add
  by_cases h : g.opn = sNo
  · simp only [h, if_true, tkA_append, tkA_one]
  · simp only [h, if_false, tkA_append, tkA_one, List.cons_append]
section
variable {ok : Tkn → Bool} {ws : List ByteArray} {l : List Tkn}
/-- What a step hands on. -/
def emit (ws : List ByteArray) (l : List Tkn) (i : Nat) (t : Tkn) (s : RS) : List Tkn := match actM ws l i t s with
  | .skip => []
  | .cls => [closeTok s.top.fg]
  | .opn => [t]
  | .put => [t]
def emM (ok : Tkn → Bool) (ws : List ByteArray) (l : List Tkn) : List Tkn → Nat → RS → List Tkn
  | [], _, _ => []
  | t :: r, i, s => match stepM ok ws l i t s with
    | .error _ => []
    | .ok s' => emit ws l i t s ++ emM ok ws l r (i + 1) s'
theorem step_cases {i : Nat} {t : Tkn} {s s' : RS} (h : stepM ok ws l i t s = .ok s') : ok t = true ∧
    ((actM ws l i t s = .skip ∧ s' = s) ∨ (actM ws l i t s = .opn ∧ ¬ 100 < s.pre.length + 1 ∧ s' = ⟨s.pre ++ [s.top], ⟨t, t.2.2.1, [], i⟩, s.beh⟩) ∨
      (actM ws l i t s = .cls ∧ ¬ s.top.opn = sNo ∧ closingM s.top.opn = t.2.2.1 ∧ s' = clsM l i s) ∨ (actM ws l i t s = .put ∧ s' = ⟨s.pre, s.top.add (.mk t sNo []), s.beh⟩)) := by
  unfold stepM at h
  split at h
  · rename_i hok
    refine ⟨hok, ?_⟩
    split at h
    · rename_i ha
      cases h; exact .inl ⟨ha, rfl⟩
    · rename_i ha
      split at h
      · cases h
      · rename_i hn
        cases h; exact .inr (.inl ⟨ha, hn, rfl⟩)
    · rename_i ha
      split at h
      · cases h
      · rename_i hn
        cases h
        refine .inr (.inr (.inl ⟨ha, fun e => hn (.inl e), ?_, rfl⟩))
        exact Decidable.of_not_not fun e => hn (.inr e)
    · rename_i ha
      cases h; exact .inr (.inr (.inr ⟨ha, rfl⟩))
  · cases h
theorem act_skip {i : Nat} {t : Tkn} {s : RS} : actM ws l i t s = .skip ↔ i < s.beh := by
  unfold actM
  constructor
  · intro h
    split at h
    · assumption
    · split at h
      · cases h
      · split at h <;> cases h
  · intro h; rw [if_pos h]
theorem act_put {i : Nat} {t : Tkn} {s : RS} (h : actM ws l i t s = .put) : ¬ t.2.2.1 ∈ closers := by
  unfold actM at h
  split at h
  · cases h
  · split at h
    · cases h
    · split at h
      · cases h
      · assumption
theorem act_opn {i : Nat} {t : Tkn} {s : RS} (h : actM ws l i t s = .opn) : t.2.2.1 ∈ basics ++ ws := by
  unfold actM at h
  split at h
  · cases h
  · split at h
    · rename_i ho
      unfold opensM at ho
      split at ho
      · assumption
      · cases ho
    · split at h <;> cases h
theorem pre_last {s : RS} {g : Gp} (h : s.pre.getLast? = some g) : s.pre = s.pre.dropLast ++ [g] := by
  have hne : s.pre ≠ [] := by rintro e; rw [e] at h; cases h
  have h1 := List.dropLast_concat_getLast hne
  rw [List.getLast?_eq_some_getLast hne] at h
  cases h
  exact h1.symm
theorem step_flat {i : Nat} {t : Tkn} {s s' : RS} (hr : RsOk ws i s) (h : stepM ok ws l i t s = .ok s') (hne : ∀ o ∈ basics ++ ws, ¬ o = sNo) : flS s' = flS s ++ emit ws l i t s := by
  obtain ⟨_, ⟨ha, rfl⟩ | ⟨ha, _, rfl⟩ | ⟨ha, ho, hc, rfl⟩ | ⟨ha, rfl⟩⟩ := step_cases h
  · unfold emit; rw [ha]; simp
  · unfold emit flS; rw [ha]
    have : flG ⟨t, t.2.2.1, [], i⟩ = [t] := by
      unfold flG
      rw [if_neg (hne _ (act_opn ha)), tkA_nil]
    simp only [this, List.flatMap_append, List.flatMap_cons, List.flatMap_nil, List.append_nil]
  · unfold emit; rw [ha]
    unfold clsM
    cases hp : s.pre.getLast? with
    | none => exact absurd (hr.root (List.getLast?_eq_none_iff.1 hp)) ho
    | some g =>
      have hg := pre_last hp
      unfold flS
      simp only
      rw [flG_add]
      conv => rhs; rw [hg]
      have ht : tkF s.top.fg = flG s.top ++ [closeTok s.top.fg] := by
        have := tkF_group (x := s.top.fg) ho
        rw [this]
        unfold flG
        rw [if_neg ho]
        rfl
      rw [ht, List.flatMap_append]
      simp
  · unfold emit flS; rw [ha]
    simp only
    rw [flG_add, tkF_leaf (by rfl)]
    simp [Fg.tok]
theorem run_flat (hne : ∀ o ∈ basics ++ ws, ¬ o = sNo) : ∀ (r : List Tkn) (i : Nat) (s : RS) (L : List Fg), RsOk ws i s → runM ok ws l r i s = .ok L → flS s ++ emM ok ws l r i s = tkA L
  | [], i, s, L, hr, h => by
    unfold runM at h
    split at h
    · rename_i hp
      cases h
      unfold emM flS flG
      rw [hp, hr.root hp]
      simp
    · cases h
  | t :: r, i, s, L, hr, h => by
    unfold runM at h
    split at h
    · cases h
    · rename_i s' hs'
      have := run_flat hne r (i + 1) s' L (stepM_ok hr hs') h
      unfold emM
      rw [hs']
      simp only
      rw [← this, step_flat hr hs' hne, List.append_assoc]
theorem em_len : ∀ (r : List Tkn) (i : Nat) (s : RS), (emM ok ws l r i s).length ≤ r.length
  | [], _, _ => by unfold emM; simp
  | t :: r, i, s => by
    unfold emM
    split
    · simp
    · rename_i s' _
      have := em_len r (i + 1) s'
      have h2 : (emit ws l i t s).length ≤ 1 := by unfold emit; split <;> simp
      rw [List.length_append, List.length_cons]; omega
end
end

section

section
variable {ok : Tkn → Bool} {ws : List ByteArray} {l m : List Tkn}
theorem run_cons {r : List Tkn} {t : Tkn} {i : Nat} {s : RS} {L : List Fg} (h : runM ok ws l (t :: r) i s = .ok L) : ∃ s', stepM ok ws l i t s = .ok s' ∧ runM ok ws l r (i + 1) s' = .ok L := by
  unfold runM at h
  split at h
  · cases h
  · rename_i s' hs'
    exact ⟨s', hs', h⟩
theorem em_cons {r : List Tkn} {t : Tkn} {i : Nat} {s s' : RS} (h : stepM ok ws l i t s = .ok s') : emM ok ws l (t :: r) i s = emit ws l i t s ++ emM ok ws l r (i + 1) s' := by
  conv => lhs; unfold emM
  rw [h]
theorem name_some {p : Nat} {x : ByteArray} (h : isNameM l p x = true) : ∃ t, l[p]? = some t ∧ t.2.2.1 = x ∧ t.1 = 1 := by
  unfold isNameM at h
  cases hp : l[p]? with
  | none => rw [hp] at h; cases h
  | some t =>
    rw [hp] at h
    simp only [Bool.and_eq_true, decide_eq_true_eq] at h
    exact ⟨t, rfl, h.2, h.1⟩
def NmOk (g : Gp) : Prop := ∀ nm, nameOfM g.kids = some nm → ¬ nm ∈ closers
theorem named_no {o : ByteArray} (h : isNamed o = true) : ¬ o = sEnd ∧ ¬ o ∈ closers := by
  unfold isNamed at h
  simp only [Bool.or_eq_true, decide_eq_true_eq] at h
  rcases h with rfl | rfl | rfl <;> decide
theorem end_closer : sEnd ∈ closers := by decide
end
end

section

def PlAt (i : Nat) (g : Gp) : Prop := g.opn = sMacro → (g.kids = [] → g.pl + 1 = i) ∧ (¬ g.kids = [] → g.pl + 1 < i)
def PlPre (i : Nat) (g : Gp) : Prop := g.opn = sMacro → g.pl + 1 ≤ i
theorem PlPre.up {i i' : Nat} {g : Gp} (h : PlPre i g) (hi : i ≤ i') : PlPre i' g := fun ho => Nat.le_trans (h ho) hi
theorem PlAt.pre {i : Nat} {g : Gp} (h : PlAt i g) : PlPre (i + 1) g := fun ho => by
  by_cases hk : g.kids = []
  · have := (h ho).1 hk; omega
  · have := (h ho).2 hk; omega
theorem PlAt.add {i : Nat} {g : Gp} {f : Fg} (h : PlPre i g) : PlAt (i + 1) (g.add f) := fun ho =>
  ⟨fun hk => by simp [Gp.add] at hk, fun _ => by have := h ho; show g.pl + 1 < i + 1; omega⟩
theorem PlAt.put {i : Nat} {g : Gp} {f : Fg} (h : PlAt i g) : PlAt (i + 1) (g.add f) := fun ho =>
  ⟨fun hk => by simp [Gp.add] at hk, fun _ => by
    show g.pl + 1 < i + 1
    by_cases hk : g.kids = []
    · have := (h ho).1 hk; omega
    · have := (h ho).2 hk; omega⟩
theorem nameOf_add (k : List Fg) (f : Fg) : nameOfM (k ++ [f]) = if k = [] then nameOfM [f] else nameOfM k := by
  cases k with
  | nil => rfl
  | cons a b => simp [nameOfM]
theorem NmOk.add {g : Gp} {f : Fg} (h : NmOk g) (hf : ∀ nm, nameOfM [f] = some nm → ¬ nm ∈ closers) : NmOk (g.add f) := fun nm hn => by
  have e : nameOfM (g.kids ++ [f]) = some nm := hn
  rw [nameOf_add] at e
  split at e
  · exact hf nm e
  · exact h nm e
section
variable {ok : Tkn → Bool} {ws : List ByteArray} {l m : List Tkn}
theorem not_skip {i : Nat} {t : Tkn} {s : RS} {a : Act3} (h : actM ws l i t s = a) (ha : a ≠ .skip) : s.beh ≤ i := by
  apply Nat.le_of_not_lt
  intro hlt
  have := (act_skip (ws := ws) (l := l) (t := t)).2 hlt
  rw [h] at this
  exact ha this
end
end

section

theorem FgsSz.append {B : Nat} : ∀ {a b : List Fg}, FgsSz B a → FgsSz B b → FgsSz B (a ++ b)
  | [], b, _, hb => hb
  | x :: r, b, ha, hb => by
    rw [List.cons_append]
    unfold FgsSz at ha ⊢
    exact ⟨ha.1, ha.2.append hb⟩
theorem FgsSz.one {B : Nat} {x : Fg} (h : FgSz B x) : FgsSz B [x] := by
  unfold FgsSz
  exact ⟨h, by unfold FgsSz; trivial⟩
end

section

section
variable {ok : Tkn → Bool} {ws : List ByteArray} {l m : List Tkn}
def StW (l : List Tkn) (i : Nat) (s : RS) : Prop :=
  (∀ q, i ≤ q → q < s.beh → ∃ u, l[q]? = some u ∧ u.1 = 1 ∧ ¬ u.2.2.1 = sEnd) ∧ (i < s.beh → isStopM l s.beh = true) ∧ NmOk s.top ∧ ∀ g ∈ s.pre, NmOk g
theorem win_names {i : Nat} {g : Gp} (hn : isNamed g.opn = true) (hk : NmOk g) : ∀ q, i + 1 ≤ q → q < skipN l (skipW l (i + 1) g.opn) g.kids → ∃ u, l[q]? = some u ∧ u.1 = 1 ∧ ¬ u.2.2.1 = sEnd := by
  intro q hq hp
  by_cases hw : q < skipW l (i + 1) g.opn
  · unfold skipW at hw
    split at hw
    · rename_i h
      obtain ⟨u, hu, hx, h1⟩ := name_some h
      have : q = i + 1 := by omega
      subst this
      exact ⟨u, hu, h1, by rw [hx]; exact (named_no hn).1⟩
    · omega
  · unfold skipN at hp
    split at hp
    · rename_i nm hnm
      split at hp
      · rename_i h
        obtain ⟨u, hu, hx, h1⟩ := name_some h
        have : q = skipW l (i + 1) g.opn := by omega
        rw [this]
        exact ⟨u, hu, h1, by rw [hx]; exact fun e => hk nm hnm (by rw [e]; exact end_closer)⟩
      · omega
    · omega
theorem step_w {i : Nat} {t : Tkn} {s s' : RS} (hw : StW l i s) (h : stepM ok ws l i t s = .ok s') : StW l (i + 1) s' := by
  obtain ⟨h1, h2, h3, h4⟩ := hw
  obtain ⟨_, ⟨_, rfl⟩ | ⟨ha, hn, rfl⟩ | ⟨ha, ho, _, rfl⟩ | ⟨ha, rfl⟩⟩ := step_cases h
  · exact ⟨fun q a b => h1 q (by omega) b, fun a => h2 (by omega), h3, h4⟩
  · have hb := not_skip ha (by simp)
    refine ⟨fun q a b => by simp only at b; omega, fun a => by simp only at a; omega, (fun nm hm => by cases hm), fun g hg => ?_⟩
    rcases List.mem_append.1 hg with hg | hg
    · exact h4 g hg
    · rw [List.mem_singleton.1 hg]; exact h3
  · have hb := not_skip ha (by simp)
    unfold clsM
    cases hp : s.pre.getLast? with
    | none => exact ⟨fun q a b => by simp only at b; omega, fun a => by simp only at a; omega, h3, h4⟩
    | some g =>
      have hgm := List.mem_of_getLast? hp
      have hadd : NmOk (g.add s.top.fg) := (h4 g hgm).add fun nm hn => by
        unfold nameOfM Gp.fg at hn
        simp only [Fg.opn, ho, false_and, if_false] at hn
        cases hn
      have hpre : ∀ x ∈ s.pre.dropLast, NmOk x := fun x hx => h4 x ((List.dropLast_sublist _).subset hx)
      show StW l (i + 1) ⟨s.pre.dropLast, g.add s.top.fg, if isNamed s.top.opn then behindM l i s.top s.beh else s.beh⟩
      by_cases hn : isNamed s.top.opn = true
      · rw [if_pos hn]
        unfold behindM
        by_cases hst : isStopM l (skipN l (skipW l (i + 1) s.top.opn) s.top.kids) = true
        · rw [if_pos hst]
          exact ⟨fun q a b => win_names hn h3 q a b, fun _ => hst, hadd, hpre⟩
        · rw [if_neg hst]
          exact ⟨fun q a b => by simp only at b; omega, fun a => by simp only at a; omega, hadd, hpre⟩
      · rw [if_neg hn]
        exact ⟨fun q a b => by simp only at b; omega, fun a => by simp only at a; omega, hadd, hpre⟩
  · have hb := not_skip ha (by simp)
    have hput := act_put ha
    refine ⟨fun q a b => by simp only at b; omega, fun a => by simp only at a; omega, h3.add fun nm hn => ?_, h4⟩
    have hn2 : (if (Fg.mk t sNo []).opn = sNo ∧ (Fg.mk t sNo []).tok.1 = 1 then some (Fg.mk t sNo []).tok.2.2.1 else none) = some nm := hn
    split at hn2
    · cases hn2; exact hput
    · cases hn2
end
end

end Go.Proofs.YtafncodigpjkaaaGreatDoor
