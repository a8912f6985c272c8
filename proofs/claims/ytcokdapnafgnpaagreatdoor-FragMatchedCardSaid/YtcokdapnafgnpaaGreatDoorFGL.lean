/-
  Two readable lists, one behind the other: the models.
  The fragments of a group of a readable list: the models, part one: what is open on the way to a result.
  The fragments of a group of a readable list: the models, part two: they are read alone as within the group.
-/
import Derived.Test.YtcokdapnafgnpaaGreatDoorFGK
namespace Go.Proofs.YtcokdapnafgnpaaGreatDoor
section

/-- The root with other fragments ahead of its own. -/
def addG (tk : Tkn) (a : List Fg) (g : Gp) : Gp := ⟨tk, g.opn, a ++ g.kids, g.pl⟩
def addR (tk : Tkn) (a : List Fg) (s : RS) : RS := match s.pre with
  | [] => ⟨[], addG tk a s.top, s.beh⟩
  | g :: r => ⟨addG tk a g :: r, s.top, s.beh⟩
theorem addG_add (tk : Tkn) (a : List Fg) (g : Gp) (f : Fg) : (addG tk a g).add f = addG tk a (g.add f) := by
  unfold addG Gp.add
  simp only [List.append_assoc]
section
variable {ok : Tkn → Bool} {ws : List ByteArray} {l m : List Tkn}
theorem act_top {i : Nat} {t : Tkn} {s s' : RS} (hb : s.beh = s'.beh) (ho : s.top.opn = s'.top.opn) (hp : s.top.pl = s'.top.pl) : actM ws l i t s = actM ws l i t s' := by
  unfold actM opensM
  rw [hb, ho, hp]
theorem step_addR (tk : Tkn) (a : List Fg) {i : Nat} {t : Tkn} {s : RS} (hr : RsOk ws i s) : stepM ok ws l i t (addR tk a s) = (stepM ok ws l i t s).map (addR tk a) ∧ emit ws l i t (addR tk a s) = emit ws l i t s ∨ (s.pre = [] ∧ actM ws l i t s = .cls) := by
  obtain ⟨pre, top, beh⟩ := s
  cases pre with
  | nil =>
    have hto : top.opn = sNo := hr.root rfl
    have ha : actM ws l i t (addR tk a ⟨[], top, beh⟩) = actM ws l i t ⟨[], top, beh⟩ := act_top rfl rfl rfl
    by_cases hc : actM ws l i t ⟨[], top, beh⟩ = .cls
    · exact .inr ⟨rfl, hc⟩
    refine .inl ⟨?_, ?_⟩
    · unfold stepM
      by_cases hk : ok t = true
      · rw [if_pos hk, if_pos hk, ha]
        cases h : actM ws l i t ⟨[], top, beh⟩ with
        | skip => rfl
        | opn => rfl
        | cls => exact absurd h hc
        | put =>
          show Except.ok _ = Except.ok _
          unfold addR
          simp only [addG_add]
      · rw [if_neg hk, if_neg hk]; rfl
    · unfold emit
      rw [ha]
      cases h : actM ws l i t ⟨[], top, beh⟩ with
      | skip => rfl
      | opn => rfl
      | cls => exact absurd h hc
      | put => rfl
  | cons g r =>
    have ha : actM ws l i t (addR tk a ⟨g :: r, top, beh⟩) = actM ws l i t ⟨g :: r, top, beh⟩ := act_top rfl rfl rfl
    refine .inl ⟨?_, ?_⟩
    · unfold stepM
      by_cases hk : ok t = true
      · rw [if_pos hk, if_pos hk, ha]
        cases h : actM ws l i t ⟨g :: r, top, beh⟩ with
        | skip => rfl
        | opn =>
          show (if 100 < (addG tk a g :: r).length + 1 then _ else _) = _
          by_cases hd : 100 < (g :: r).length + 1
          · rw [if_pos (by simpa using hd)]
            simp only [hd, if_true]
            rfl
          · rw [if_neg (by simpa using hd)]
            simp only [hd, if_false]
            rfl
        | cls =>
          show (if top.opn = sNo ∨ closingM top.opn ≠ t.2.2.1 then _ else _) = _
          by_cases hd : top.opn = sNo ∨ closingM top.opn ≠ t.2.2.1
          · simp only [hd, if_true]
            rfl
          · simp only [hd, if_false]
            show Except.ok _ = Except.ok _
            congr 1
            unfold clsM addR
            cases r with
            | nil =>
              simp only [List.getLast?_singleton, List.dropLast_singleton, addG_add]
            | cons g2 r2 =>
              simp only [List.getLast?_cons_cons, List.dropLast_cons_cons]
              cases (g2 :: r2).getLast? with
              | none => rfl
              | some g3 => rfl
        | put => rfl
      · rw [if_neg hk, if_neg hk]; rfl
    · unfold emit
      rw [ha]
      cases actM ws l i t ⟨g :: r, top, beh⟩ <;> rfl
theorem run_addR (tk : Tkn) (a : List Fg) {L : List Fg} : ∀ (r : List Tkn) (i : Nat) (s : RS), RsOk ws i s → runM ok ws l r i s = .ok L → runM ok ws l r i (addR tk a s) = .ok (a ++ L) ∧ emM ok ws l r i (addR tk a s) = emM ok ws l r i s
  | [], i, s, hr, h => by
    unfold runM at h
    split at h
    · rename_i hp
      cases h
      refine ⟨?_, by unfold emM; rfl⟩
      unfold runM addR
      rw [hp]
      simp only [if_true]
      rfl
    · cases h
  | t :: r, i, s, hr, h => by
    obtain ⟨s', hs, hrun⟩ := run_cons h
    rcases step_addR (ok := ok) (l := l) tk a (t := t) hr with ⟨h1, h2⟩ | ⟨h1, h2⟩
    · rw [hs] at h1
      have ih := run_addR tk a r (i + 1) s' (stepM_ok hr hs) hrun
      have h1' : stepM ok ws l i t (addR tk a s) = .ok (addR tk a s') := h1
      rw [em_cons h1', em_cons hs, h2, ih.2]
      refine ⟨?_, rfl⟩
      unfold runM
      rw [h1']
      exact ih.1
    · exfalso
      obtain ⟨_, ⟨ha, _⟩ | ⟨ha, _⟩ | ⟨_, ho, _⟩ | ⟨ha, _⟩⟩ := step_cases hs
      · rw [h2] at ha; cases ha
      · rw [h2] at ha; cases ha
      · exact ho (hr.root h1)
      · rw [h2] at ha; cases ha
theorem nosk {r : List Tkn} {t : Tkn} {i : Nat} {s s' : RS} (hs : stepM ok ws l i t s = .ok s') (hn : (emM ok ws l (t :: r) i s).length = (t :: r).length) : s.beh ≤ i ∧ (emM ok ws l r (i + 1) s').length = r.length := by
  rw [em_cons hs, List.length_append, List.length_cons] at hn
  have h1 := em_len (ok := ok) (ws := ws) (l := l) r (i + 1) s'
  have h2 : (emit ws l i t s).length ≤ 1 := by unfold emit; split <;> simp
  refine ⟨?_, by omega⟩
  apply Nat.le_of_not_lt
  intro hlt
  have ha := (act_skip (ws := ws) (l := l) (t := t)).2 hlt
  have : emit ws l i t s = [] := by unfold emit; rw [ha]
  rw [this] at hn
  simp at hn; omega
theorem behind_agree {i b : Nat} {g : Gp} (h : ∀ j, i + 1 ≤ j → j ≤ skipN l (skipW l (i + 1) g.opn) g.kids → l[j]? = m[j]?) : behindM m i g b = behindM l i g b := by
  have h1 := skipW_le l (i + 1) g.opn
  have h2 := skipN_le l (skipW l (i + 1) g.opn) g.kids
  unfold behindM
  rw [← skipW_agree (h (i + 1) (by omega) (by omega)), ← skipN_agree (h _ (by omega) (by omega)), ← isStop_agree (h _ (by omega) (by omega))]
theorem opens_end {i : Nat} {t : Tkn} {g : Gp} (h : opensM ws l i t g = false) (hn : isNameM l (i + 1) sSlot = false) : opensM ws m i t g = false := by
  unfold opensM at h ⊢
  split
  · rename_i hm
    rw [if_pos hm] at h
    split
    · rename_i hk
      rw [if_pos hk, hn, Bool.and_false, Bool.not_false, Bool.and_true] at h
      rw [h, Bool.false_and]
    · rename_i hk
      rw [if_neg hk] at h
      cases h
  · rfl
/-- Does a list end with a group of the words behind whose end names are dropped? -/
def endsM (a : List Fg) : Bool := match a.getLast? with
  | none => false
  | some x => isNamed x.opn
theorem concat_run {b : List Tkn} {a : List Fg} (hm : m = l ++ b) (hne : ∀ o ∈ basics ++ ws, ¬ o = sNo) (hend : endsM a = false) : ∀ (r : List Tkn) (i : Nat) (s : RS), i ≤ l.length → l.drop i = r → runM ok ws l r i s = .ok a → (emM ok ws l r i s).length = r.length → s.beh ≤ i → RsOk ws i s →
    ∃ sF, sF.pre = [] ∧ sF.top.opn = sNo ∧ sF.top.kids = a ∧ sF.beh ≤ l.length ∧ runM ok ws m (m.drop i) i s = runM ok ws m b l.length sF
  | [], i, s, hi, hl, h, _, hb, hr => by
    have hie : i = l.length := by
      have := congrArg List.length hl
      rw [List.length_drop] at this
      simp at this; omega
    subst hie
    unfold runM at h
    split at h
    · rename_i hp
      cases h
      refine ⟨s, hp, hr.root hp, rfl, hb, ?_⟩
      rw [hm, List.drop_append_of_le_length (Nat.le_refl _), List.drop_eq_nil_of_le (Nat.le_refl _), List.nil_append]
    · cases h
  | t :: r, i, s, hi, hl, h, hn, hb, hr => by
    obtain ⟨s', hs, hrun⟩ := run_cons h
    obtain ⟨_, hn'⟩ := nosk hs hn
    have hl1 := drop_next hl
    have hil : i < l.length := by
      apply Nat.lt_of_not_le
      intro hge
      rw [List.drop_eq_nil_of_le hge] at hl
      cases hl
    have hrl : r.length = l.length - (i + 1) := by rw [← hl1, List.length_drop]
    have hag : ∀ j, j < l.length → l[j]? = m[j]? := fun j hj => by rw [hm, List.getElem?_append_left hj]
    have hdm : m.drop i = t :: m.drop (i + 1) := by
      have h1 : m.drop i = l.drop i ++ b := by rw [hm, List.drop_append_of_le_length (by omega)]
      have h2 : m.drop (i + 1) = l.drop (i + 1) ++ b := by rw [hm, List.drop_append_of_le_length (by omega)]
      rw [h1, h2, hl, hl1]; rfl
    have hact : actM ws m i t s = actM ws l i t s ∧ (actM ws l i t s = .cls → isNamed s.top.opn = true → i + 1 < l.length) := by
      by_cases hlast : i + 1 < l.length
      · exact ⟨(act_agree (hag _ hlast) t s).symm, fun _ _ => hlast⟩
      · have hnil : r = [] := List.length_eq_zero_iff.1 (by omega)
        subst hnil
        have hnm : isNameM l (i + 1) sSlot = false := isNameM_out (by omega) _
        have hpre : s'.pre = [] := by
          unfold runM at hrun
          split at hrun
          · assumption
          · cases hrun
        have hkids : s'.top.kids = a := by
          unfold runM at hrun
          rw [if_pos hpre] at hrun
          exact Except.ok.inj hrun
        have hop : opensM ws l i t s.top = false := by
          cases ho : opensM ws l i t s.top with
          | false => rfl
          | true =>
            have ha : actM ws l i t s = .opn := by
              unfold actM
              rw [if_neg (by omega), if_pos ho]
            obtain ⟨_, ⟨hc, _⟩ | ⟨_, _, rfl⟩ | ⟨hc, _⟩ | ⟨hc, _⟩⟩ := step_cases hs
            · rw [ha] at hc; cases hc
            · simp at hpre
            · rw [ha] at hc; cases hc
            · rw [ha] at hc; cases hc
        refine ⟨?_, fun hc hnn => ?_⟩
        · unfold actM
          rw [hop, opens_end hop hnm]
        · exfalso
          obtain ⟨_, ⟨ha, _⟩ | ⟨ha, _⟩ | ⟨_, ho, _, rfl⟩ | ⟨ha, _⟩⟩ := step_cases hs
          · rw [hc] at ha; cases ha
          · rw [hc] at ha; cases ha
          · cases hp : s.pre.getLast? with
            | none => exact ho (hr.root (List.getLast?_eq_none_iff.1 hp))
            | some g =>
              have hs1 : clsM l i s = ⟨s.pre.dropLast, g.add s.top.fg, if isNamed s.top.opn then behindM l i s.top s.beh else s.beh⟩ := by unfold clsM; rw [hp]
              rw [hs1] at hkids
              simp only [Gp.add] at hkids
              unfold endsM at hend
              rw [← hkids, List.getLast?_append] at hend
              simp only [List.getLast?_singleton, Option.some_or] at hend
              have : s.top.fg.opn = s.top.opn := rfl
              rw [this, hnn] at hend
              cases hend
          · rw [hc] at ha; cases ha
    have hcls : actM ws l i t s = .cls → clsM m i s = clsM l i s ∧ (clsM l i s).beh ≤ i + 1 := by
      intro hc
      have hs' : s' = clsM l i s := by
        obtain ⟨_, ⟨ha, _⟩ | ⟨ha, _⟩ | ⟨_, _, _, e⟩ | ⟨ha, _⟩⟩ := step_cases hs
        · rw [hc] at ha; cases ha
        · rw [hc] at ha; cases ha
        · exact e
        · rw [hc] at ha; cases ha
      by_cases hnn : isNamed s.top.opn = true
      · have hlast := hact.2 hc hnn
        have hb' : (clsM l i s).beh ≤ i + 1 := by
          cases r with
          | nil => rw [List.length_nil] at hrl; omega
          | cons t2 r2 =>
            obtain ⟨s2, hs2, _⟩ := run_cons hrun
            have := (nosk hs2 hn').1
            rw [hs'] at this
            exact this
        refine ⟨?_, hb'⟩
        unfold clsM at hb' ⊢
        cases hp : s.pre.getLast? with
        | none => rfl
        | some g =>
          rw [hp] at hb'
          simp only [hnn, if_true] at hb' ⊢
          rw [behind_agree (l := l) (m := m)]
          intro j h1 h2
          refine hag j ?_
          unfold behindM at hb'
          by_cases hst : isStopM l (skipN l (skipW l (i + 1) s.top.opn) s.top.kids) = true
          · rw [if_pos hst] at hb'; omega
          · have : skipN l (skipW l (i + 1) s.top.opn) s.top.kids < l.length := by
              apply Nat.lt_of_not_le
              intro hge
              unfold isStopM at hst
              rw [List.getElem?_eq_none hge] at hst
              exact hst rfl
            omega
      · unfold clsM
        cases hp : s.pre.getLast? with
        | none => exact ⟨rfl, by simp only; omega⟩
        | some g => simp only [hnn]; exact ⟨rfl, by simp; omega⟩
    have hstep : stepM ok ws m i t s = .ok s' := by
      rw [← hs]
      unfold stepM
      rw [hact.1]
      cases hc : actM ws l i t s with
      | skip => rfl
      | opn => rfl
      | cls => rw [(hcls hc).1]
      | put => rfl
    have hb1 : s'.beh ≤ i + 1 := by
      obtain ⟨_, ⟨_, rfl⟩ | ⟨_, _, rfl⟩ | ⟨hc, _, _, rfl⟩ | ⟨_, rfl⟩⟩ := step_cases hs
      · omega
      · simp only; omega
      · exact (hcls hc).2
      · simp only; omega
    obtain ⟨sF, f1, f2, f3, f4, f5⟩ := concat_run hm hne hend r (i + 1) s' (by omega) hl1 hrun hn' hb1 (stepM_ok hr hs)
    refine ⟨sF, f1, f2, f3, f4, ?_⟩
    rw [← f5, hdm]
    conv => lhs; unfold runM
    rw [hstep]
end
theorem run_nm {ok : Tkn → Bool} {ws : List ByteArray} {l : List Tkn} : ∀ (r : List Tkn) (i : Nat) (s : RS) (L : List Fg), StW l i s → runM ok ws l r i s = .ok L → ∀ nm, nameOfM L = some nm → ¬ nm ∈ closers
  | [], i, s, L, hw, h => by
    unfold runM at h
    split at h
    · cases h; exact hw.2.2.1
    · cases h
  | t :: r, i, s, L, hw, h => by
    obtain ⟨s', hs, hr⟩ := run_cons h
    exact run_nm r (i + 1) s' L (step_w hw hs) hr
theorem read_nm {ok : Tkn → Bool} {plain : ByteArray → Bool} {l : List Tkn} {ws : List ByteArray} {L : List Fg} (h : readM ok plain l ws = .ok L) : ∀ nm, nameOfM L = some nm → ¬ nm ∈ closers :=
  run_nm l 0 rs0 L ⟨fun q a b => absurd b (Nat.not_lt_zero _), fun a => absurd a (Nat.not_lt_zero _), (fun nm hn => by cases hn), (fun g hg => by cases hg)⟩ (readM_run h).2.2
/-- PARTS, of the models: one behind the other. -/
theorem read_concat {ws : List ByteArray} {a b : List Fg} (ha : readM tokOk isPlainB (tkA a) ws = .ok a) (hb : readM tokOk isPlainB (tkA b) ws = .ok b) (hend : endsM a = false) (hlen : (tkA a).length + (tkA b).length ≤ 6000) :
    readM tokOk isPlainB (tkA (a ++ b)) ws = .ok (a ++ b) := by
  obtain ⟨hr, _, hra⟩ := readM_run ha
  obtain ⟨_, _, hrb⟩ := readM_run hb
  have hea := em_all ha
  have heb := em_all hb
  obtain ⟨sF, f1, f2, f3, f4, f5⟩ := concat_run (l := tkA a) (m := tkA a ++ tkA b) rfl (words_no hr) hend (tkA a) 0 rs0 (Nat.zero_le _) rfl hra (by rw [hea]) (Nat.le_refl _) (rs0_ok ws)
  rw [List.drop_zero] at f5
  obtain ⟨g1, g2⟩ := run_addR sF.top.tok a (tkA b) 0 rs0 (rs0_ok ws) hrb
  have hS : Sim tokOk ws 0 (tkA a).length (addR sF.top.tok a rs0) sF := by
    have hmac : ¬ sNo = sMacro := by decide
    have e : addR sF.top.tok a rs0 = ⟨[], ⟨sF.top.tok, sNo, a ++ [], 0⟩, 0⟩ := rfl
    rw [e]
    refine ⟨by rw [f1], ?_, f4, fun h => absurd h (Nat.not_lt_zero _), fun h => absurd h hmac, fun h => absurd (f2.symm.trans h) hmac, (fun g hg => by cases hg), (fun g hg => by rw [f1] at hg; cases hg), ?_, (fun g hg => by cases hg), fun h => absurd rfl h, (fun g hg => by cases hg)⟩
    · unfold bare
      rw [f2, f3]
      simp
    · exact fun nm hn => read_nm ha nm (by simpa [addG] using hn)
  have h1 := sim_run (l := tkA b) (m := tkA a ++ tkA b) (okTk hr) (words_no hr) (tkA b) 0 _ (tkA a).length sF rfl (by rw [g2, heb, List.drop_append_of_le_length (Nat.le_refl _), List.drop_eq_nil_of_le (Nat.le_refl _), List.nil_append]) g1 ⟨by simp [addR, rs0], fun _ => rfl, (fun _ _ h => by cases h), fun h => absurd rfl h, (fun _ _ _ h => by cases h), by simp [addR, rs0, addG], (fun _ h => by cases h), by simp [addR, rs0]⟩ hS
  rw [List.drop_append_of_le_length (Nat.le_refl _), List.drop_eq_nil_of_le (Nat.le_refl _), List.nil_append] at h1
  rw [tkA_append]
  unfold readM
  rw [if_pos hr, if_neg (by rw [List.length_append]; omega), f5]
  exact h1
end

section

/-- Open groups, the outermost first, on the way to a list. -/
def Cmp : List Gp → List Fg → Prop
  | [], _ => True
  | g :: gs, L => match gs with
    | [] => ∃ more, L = g.kids ++ more
    | g2 :: _ => ∃ K more, L = g.kids ++ (.mk g2.tok g2.opn K :: more) ∧ Cmp gs K
theorem cmp_one (g : Gp) (L : List Fg) : Cmp [g] L ↔ ∃ more, L = g.kids ++ more := by unfold Cmp; exact Iff.rfl
theorem cmp_two (g g2 : Gp) (gs : List Gp) (L : List Fg) : Cmp (g :: g2 :: gs) L ↔ ∃ K more, L = g.kids ++ (.mk g2.tok g2.opn K :: more) ∧ Cmp (g2 :: gs) K := by
  conv => lhs; unfold Cmp
theorem cmp_mono {a b : Gp} {A B : List Gp} (h : ∀ K, Cmp (a :: A) K → Cmp (b :: B) K) (ht : a.tok = b.tok) (ho : a.opn = b.opn) : ∀ (gs : List Gp) (L : List Fg), Cmp (gs ++ a :: A) L → Cmp (gs ++ b :: B) L
  | [], L, hc => h L hc
  | [g], L, hc => by
    obtain ⟨K, more, e, hk⟩ := (cmp_two _ _ _ _).1 hc
    exact (cmp_two _ _ _ _).2 ⟨K, more, by rw [← ht, ← ho]; exact e, h K hk⟩
  | g :: g2 :: gs, L, hc => by
    obtain ⟨K, more, e, hk⟩ := (cmp_two _ _ _ _).1 hc
    exact (cmp_two _ _ _ _).2 ⟨K, more, e, cmp_mono h ht ho (g2 :: gs) K hk⟩
theorem cmp_add {g : Gp} {f : Fg} (K : List Fg) (h : Cmp [g.add f] K) : Cmp [g] K := by
  obtain ⟨more, e⟩ := (cmp_one _ _).1 h
  exact (cmp_one _ _).2 ⟨f :: more, by rw [e]; simp [Gp.add]⟩
theorem cmp_new {g n : Gp} (K : List Fg) (h : Cmp [g, n] K) : Cmp [g] K := by
  obtain ⟨K2, more, e, _⟩ := (cmp_two _ _ _ _).1 h
  exact (cmp_one _ _).2 ⟨_, e⟩
theorem cmp_close {g n : Gp} (K : List Fg) (h : Cmp [g.add n.fg] K) : Cmp [g, n] K := by
  obtain ⟨more, e⟩ := (cmp_one _ _).1 h
  exact (cmp_two _ _ _ _).2 ⟨n.kids, more, by rw [e]; simp [Gp.add, Gp.fg], (cmp_one _ _).2 ⟨[], by simp⟩⟩
section
variable {ok : Tkn → Bool} {ws : List ByteArray} {l : List Tkn}
theorem cmp_step {i : Nat} {t : Tkn} {s s' : RS} {L : List Fg} (hr : RsOk ws i s) (hs : stepM ok ws l i t s = .ok s') (h : Cmp (s'.pre ++ [s'.top]) L) : Cmp (s.pre ++ [s.top]) L := by
  obtain ⟨_, ⟨_, rfl⟩ | ⟨_, _, rfl⟩ | ⟨_, ho, _, rfl⟩ | ⟨_, rfl⟩⟩ := step_cases hs
  · exact h
  · simp only [List.append_assoc, List.singleton_append] at h
    exact cmp_mono (fun K hk => cmp_new K hk) rfl rfl s.pre L h
  · cases hp : s.pre.getLast? with
    | none => exact absurd (hr.root (List.getLast?_eq_none_iff.1 hp)) ho
    | some g =>
      have hs1 : clsM l i s = ⟨s.pre.dropLast, g.add s.top.fg, if isNamed s.top.opn then behindM l i s.top s.beh else s.beh⟩ := by unfold clsM; rw [hp]
      rw [hs1] at h
      simp only at h
      rw [pre_last hp, List.append_assoc, List.singleton_append]
      exact cmp_mono (fun K hk => cmp_close K hk) rfl rfl _ L h
  · exact cmp_mono (fun K hk => cmp_add K hk) rfl rfl s.pre L h
theorem cmp_run {L : List Fg} : ∀ (r : List Tkn) (i : Nat) (s : RS), RsOk ws i s → runM ok ws l r i s = .ok L → Cmp (s.pre ++ [s.top]) L
  | [], i, s, hr, h => by
    unfold runM at h
    split at h
    · rename_i hp
      cases h
      rw [hp, List.nil_append]
      exact (cmp_one _ _).2 ⟨[], by simp⟩
    · cases h
  | t :: r, i, s, hr, h => by
    obtain ⟨s', hs, hrun⟩ := run_cons h
    exact cmp_step hr hs (cmp_run r (i + 1) s' (stepM_ok hr hs) hrun)
end
theorem tkA_len (a b : List Fg) : (tkA (a ++ b)).length = (tkA a).length + (tkA b).length := by rw [tkA_append, List.length_append]
theorem tkF_len (x : Fg) : (tkF x).length = if x.opn = sNo then 1 else 2 + (tkA x.kids).length := by
  by_cases h : x.opn = sNo
  · rw [if_pos h, tkF_leaf h]; rfl
  · rw [if_neg h, tkF_group h, List.length_cons, List.length_append]; simp; omega
theorem tkA_cons_len (x : Fg) (r : List Fg) : (tkA (x :: r)).length = (tkF x).length + (tkA r).length := by rw [tkA_cons, List.length_append]
theorem tkF_pos (x : Fg) : 1 ≤ (tkF x).length := by rw [tkF_len]; split <;> omega
theorem tkA_zero {l : List Fg} (h : (tkA l).length = 0) : l = [] := by
  cases l with
  | nil => rfl
  | cons x r => rw [tkA_cons_len] at h; have := tkF_pos x; omega
theorem flat_group {g : Gp} (h : ¬ g.opn = sNo) : (flG g).length = 1 + (tkA g.kids).length := by
  unfold flG; rw [if_neg h, List.length_cons]; omega
/-- What is open within a group has fewer tokens than the group. -/
theorem cmp_size : ∀ (gs : List Gp) (g : Gp) (K : List Fg), (∀ h ∈ g :: gs, ¬ h.opn = sNo) → Cmp (g :: gs) K → ((g :: gs).flatMap flG).length ≤ 1 + (tkA K).length
  | [], g, K, ho, h => by
    obtain ⟨more, rfl⟩ := (cmp_one _ _).1 h
    rw [List.flatMap_cons, List.flatMap_nil, List.append_nil, flat_group (ho g (by simp)), tkA_len]; omega
  | g2 :: gs, g, K, ho, h => by
    obtain ⟨K2, more, rfl, hk⟩ := (cmp_two _ _ _ _).1 h
    have ih := cmp_size gs g2 K2 (fun x hx => ho x (List.mem_cons_of_mem _ hx)) hk
    have h2 := tkF_len (.mk g2.tok g2.opn K2)
    have h3 : ¬ (Fg.mk g2.tok g2.opn K2).opn = sNo := ho g2 (by simp)
    rw [if_neg h3] at h2
    rw [List.flatMap_cons, List.length_append, flat_group (ho g (by simp)), tkA_len, tkA_cons_len, h2]
    simp only [Fg.kids] at *
    omega
theorem take_len (a : List Fg) {n c : Nat} (h : n ≤ c) : (tkA (a.take n)).length ≤ (tkA (a.take c)).length := by
  have : a.take c = a.take n ++ (a.take c).drop n := by
    conv => lhs; rw [← List.take_append_drop n (a.take c)]
    rw [List.take_take, Nat.min_eq_left h]
  rw [this, tkA_len]; omega
theorem take_succ_len {a : List Fg} {n : Nat} {x : Fg} (h : a[n]? = some x) : (tkA (a.take (n + 1))).length = (tkA (a.take n)).length + (tkF x).length := by
  rw [List.take_add_one, h, tkA_len]
  show _ + (tkA [x]).length = _
  rw [tkA_one]
/-- At the beginning of a fragment nothing but the root is open. -/
theorem at_top {a : List Fg} {s : RS} {c : Nat} (hc : c ≤ a.length) (hroot : ∀ g r, s.pre ++ [s.top] = g :: r → g.opn = sNo ∧ ∀ h ∈ r, ¬ h.opn = sNo) (hk : Cmp (s.pre ++ [s.top]) a) (hl : (flS s).length = (tkA (a.take c)).length) : s.pre = [] ∧ s.top.kids = a.take c := by
  have hfl : (flS s).length = ((s.pre ++ [s.top]).flatMap flG).length := by unfold flS; simp
  rw [hl] at hfl
  cases hp : s.pre with
  | nil =>
    refine ⟨rfl, ?_⟩
    rw [hp, List.nil_append] at hk hroot hfl
    obtain ⟨more, he⟩ := (cmp_one _ _).1 hk
    have ho := (hroot _ _ rfl).1
    have hg : (flG s.top).length = (tkA s.top.kids).length := by unfold flG; rw [if_pos ho]
    rw [List.flatMap_cons, List.flatMap_nil, List.append_nil, hg] at hfl
    have hn : s.top.kids = a.take s.top.kids.length := by rw [he]; simp
    have hle : s.top.kids.length ≤ a.length := by rw [he, List.length_append]; omega
    generalize s.top.kids.length = n at hn hle
    rw [hn] at hfl ⊢
    rcases Nat.lt_trichotomy n c with h | h | h
    · exfalso
      obtain ⟨x, hx⟩ : ∃ x, a[n]? = some x := ⟨_, List.getElem?_eq_getElem (by omega)⟩
      have h1 := take_succ_len hx
      have h2 := take_len a (show n + 1 ≤ c by omega)
      have := tkF_pos x
      omega
    · rw [h]
    · exfalso
      obtain ⟨x, hx⟩ : ∃ x, a[c]? = some x := ⟨_, List.getElem?_eq_getElem (by omega)⟩
      have h1 := take_succ_len hx
      have h2 := take_len a (show c + 1 ≤ n by omega)
      have := tkF_pos x
      omega
  | cons g r =>
    exfalso
    rw [hp, List.cons_append] at hk hroot hfl
    obtain ⟨ho, hr⟩ := hroot _ _ rfl
    obtain ⟨g2, gs, hgs⟩ : ∃ g2 gs, r ++ [s.top] = g2 :: gs := by
      cases r with
      | nil => exact ⟨_, _, rfl⟩
      | cons x y => exact ⟨_, _, rfl⟩
    rw [hgs] at hk hr hfl
    obtain ⟨K, more, he, hk2⟩ := (cmp_two _ _ _ _).1 hk
    have hsz := cmp_size gs g2 K hr hk2
    have hg : (flG g).length = (tkA g.kids).length := by unfold flG; rw [if_pos ho]
    have hpos : 1 ≤ ((g2 :: gs).flatMap flG).length := by
      rw [List.flatMap_cons, List.length_append, flat_group (hr g2 (by simp))]; omega
    rw [List.flatMap_cons, List.length_append, hg] at hfl
    have hx : a[g.kids.length]? = some (.mk g2.tok g2.opn K) := by rw [he]; simp
    have hn : g.kids = a.take g.kids.length := by rw [he]; simp
    have h1 := take_succ_len hx
    have h2 := tkF_len (.mk g2.tok g2.opn K)
    rw [if_neg (show ¬ (Fg.mk g2.tok g2.opn K).opn = sNo from hr g2 (by simp))] at h2
    simp only [Fg.kids] at h2
    have h3 : (tkA (a.take g.kids.length)).length = (tkA g.kids).length := by rw [← hn]
    by_cases hcn : c ≤ g.kids.length
    · have := take_len a hcn; omega
    · have := take_len a (show g.kids.length + 1 ≤ c by omega); omega
section
variable {ok : Tkn → Bool} {ws : List ByteArray} {m : List Tkn}
/-- A run that drops nothing, on its way. -/
structure OnWay (ok : Tkn → Bool) (ws : List ByteArray) (m : List Tkn) (a : List Fg) (j : Nat) (s : RS) : Prop where
  rs : RsOk ws j s
  run : runM ok ws m (m.drop j) j s = .ok a
  no : (emM ok ws m (m.drop j) j s).length = (m.drop j).length
  w : StW m j s
theorem OnWay.len (hne : ∀ o ∈ basics ++ ws, ¬ o = sNo) {a : List Fg} {j : Nat} {s : RS} (h : OnWay ok ws m a j s) (hm : m = tkA a) (hj : j ≤ m.length) : (flS s).length = j := by
  have h1 := run_flat hne _ _ _ _ h.rs h.run
  have h2 := congrArg List.length h1
  rw [List.length_append, h.no, List.length_drop, ← hm] at h2
  omega
theorem OnWay.cmp {a : List Fg} {j : Nat} {s : RS} (h : OnWay ok ws m a j s) : Cmp (s.pre ++ [s.top]) a := cmp_run _ _ _ h.rs h.run
theorem OnWay.next {a : List Fg} {j : Nat} {s : RS} {t : Tkn} (h : OnWay ok ws m a j s) (ht : m[j]? = some t) : s.beh ≤ j ∧ ∃ s', stepM ok ws m j t s = .ok s' ∧ OnWay ok ws m a (j + 1) s' := by
  obtain ⟨hj, rfl⟩ := List.getElem?_eq_some_iff.1 ht
  have hd : m.drop j = m[j] :: m.drop (j + 1) := List.drop_eq_getElem_cons hj
  have hrun := h.run
  have hno := h.no
  rw [hd] at hrun hno
  obtain ⟨s', hs, hr⟩ := run_cons hrun
  obtain ⟨hb, hn⟩ := nosk hs hno
  exact ⟨hb, s', hs, stepM_ok h.rs hs, hr, hn, step_w h.w hs⟩
theorem OnWay.reach {a : List Fg} : ∀ (j : Nat), j ≤ m.length → OnWay ok ws m a 0 rs0 → ∃ s, OnWay ok ws m a j s
  | 0, _, h => ⟨_, h⟩
  | j + 1, hj, h => by
    obtain ⟨s, hs⟩ := OnWay.reach j (by omega) h
    obtain ⟨_, s', _, h'⟩ := hs.next (List.getElem?_eq_getElem (by omega))
    exact ⟨s', h'⟩
/-- The root is the one group without an opening. -/
theorem OnWay.root (hne : ∀ o ∈ basics ++ ws, ¬ o = sNo) {a : List Fg} {j : Nat} {s : RS} (h : OnWay ok ws m a j s) : ∀ g r, s.pre ++ [s.top] = g :: r → g.opn = sNo ∧ ∀ x ∈ r, ¬ x.opn = sNo := by
  intro g r e
  have hr := h.rs
  cases hp : s.pre with
  | nil =>
    rw [hp, List.nil_append] at e
    simp only [List.cons.injEq] at e
    obtain ⟨rfl, rfl⟩ := e
    exact ⟨hr.root hp, fun x hx => by cases hx⟩
  | cons g0 r0 =>
    rw [hp, List.cons_append] at e
    simp only [List.cons.injEq] at e
    obtain ⟨rfl, rfl⟩ := e
    refine ⟨hr.root' _ _ hp, fun x hx => ?_⟩
    rcases List.mem_append.1 hx with hx | hx
    · exact hne _ (hr.mid _ _ _ hp hx)
    · rw [List.mem_singleton.1 hx]; exact hne _ (hr.top (by rw [hp]; simp))
end
theorem onway0 {ws : List ByteArray} {a : List Fg} (h : readM tokOk isPlainB (tkA a) ws = .ok a) : OnWay tokOk ws (tkA a) a 0 rs0 :=
  ⟨rs0_ok ws, (readM_run h).2.2, by rw [List.drop_zero, em_all h], ⟨fun q a b => absurd b (Nat.not_lt_zero _), fun a => absurd a (Nat.not_lt_zero _), (fun nm hn => by cases hn), (fun g hg => by cases hg)⟩⟩
end

section

/-- A run within a group, and a run of what is within it alone. -/
def SK (x : Fg) (tc : List Fg) (j i : Nat) (s s' : RS) : Prop := s'.beh ≤ i ∧ ∃ R : Gp, R.kids = tc ∧
  ((s.pre = [R] ∧ s'.pre = [] ∧ s.top.tok = x.tok ∧ s.top.opn = x.opn ∧ s'.top.opn = sNo ∧ s.top.kids = s'.top.kids) ∨
   (∃ g g' p p', s.pre = R :: g :: p ∧ s'.pre = g' :: p' ∧ g.tok = x.tok ∧ g.opn = x.opn ∧ g'.opn = sNo ∧ g.kids = g'.kids ∧ p.map bare = p'.map bare ∧ bare s.top = bare s'.top ∧ PlAt j s.top ∧ PlAt i s'.top ∧
     (∀ y ∈ p, PlPre j y) ∧ (∀ y ∈ p', PlPre i y)))
/-- Where the tokens of a group lie. -/
structure InG (m l : List Tkn) (x : Fg) (J : Nat) : Prop where
  same : ∀ q, q < l.length → l[q]? = m[J + q]?
  clos : m[J + l.length]? = some (closeTok x)
section
variable {m l : List Tkn} {x : Fg} {J : Nat}
theorem InG.name (h : InG m l x J) {q : Nat} (hq : q ≤ l.length) {y : ByteArray} (hy : ¬ y ∈ closers) : isNameM l q y = isNameM m (J + q) y ∧ (isNameM l q y = true → q < l.length) := by
  by_cases hlt : q < l.length
  · exact ⟨isName_kt (by rw [h.same q hlt]) y, fun _ => hlt⟩
  · have : q = l.length := by omega
    subst this
    have h1 : isNameM l l.length y = false := isNameM_out (by omega) y
    refine ⟨?_, fun e => by rw [h1] at e; cases e⟩
    rw [h1]
    unfold isNameM
    rw [h.clos]
    have hne : ¬ (closeTok x).2.2.1 = y := fun e => hy (by rw [← e]; exact closing_mem _)
    show false = (decide ((closeTok x).1 = 1) && decide ((closeTok x).2.2.1 = y))
    rw [decide_eq_false hne, Bool.and_false]
theorem InG.stop (h : InG m l x J) {q : Nat} (hq : q ≤ l.length) : isStopM l q = isStopM m (J + q) := by
  by_cases hlt : q < l.length
  · exact isStop_kt (by rw [h.same q hlt])
  · have : q = l.length := by omega
    subst this
    unfold isStopM
    rw [h.clos, List.getElem?_eq_none (Nat.le_refl _)]
    show true = ((decide ((closeTok x).1 = 1) && decide ((closeTok x).2.2.1 = sEnd)) || (decide ((closeTok x).1 = 5) && decide ((closeTok x).2.2.1 ∈ stops)))
    have hk : (closeTok x).1 = closeK x.opn := rfl
    have ht : (closeTok x).2.2.1 = closingM x.opn := rfl
    rw [hk, ht, closeK_kind]
    have hc := closing_mem x.opn
    generalize closingM x.opn = c at hc ⊢
    unfold closers at hc
    simp only [List.mem_cons, List.not_mem_nil, or_false] at hc
    rcases hc with rfl | rfl | rfl | rfl <;> decide
theorem slot_no : ¬ sSlot ∈ closers := by decide
theorem behind_in (h : InG m l x J) {i b b' : Nat} {g g' : Gp} (hi : i + 1 ≤ l.length) (hn : isNamed g.opn = true) (hnm : NmOk g) (ho : g'.opn = g.opn) (hk : g'.kids = g.kids) (hb : behindM m (J + i) g b ≤ J + i + 1) (hb' : b' ≤ i) : behindM l i g' b' ≤ i + 1 := by
  obtain ⟨_, hn2⟩ := named_no hn
  have hw : skipW l (i + 1) g.opn ≤ l.length ∧ skipW m (J + i + 1) g.opn = J + skipW l (i + 1) g.opn := by
    obtain ⟨h1, h2⟩ := h.name hi hn2
    have e : J + i + 1 = J + (i + 1) := by omega
    unfold skipW
    rw [e, ← h1]
    split
    · rename_i ht
      have := h2 ht
      omega
    · omega
  have hp : skipN l (skipW l (i + 1) g.opn) g.kids ≤ l.length ∧ skipN m (J + skipW l (i + 1) g.opn) g.kids = J + skipN l (skipW l (i + 1) g.opn) g.kids := by
    generalize skipW l (i + 1) g.opn = w at hw ⊢
    unfold skipN
    cases hq : nameOfM g.kids with
    | none => exact ⟨hw.1, rfl⟩
    | some nm =>
      obtain ⟨h1, h2⟩ := h.name hw.1 (hnm nm hq)
      simp only
      rw [← h1]
      split
      · rename_i ht
        have := h2 ht
        omega
      · omega
  unfold behindM at hb ⊢
  rw [ho, hk]
  rw [hw.2, hp.2] at hb
  rw [h.stop hp.1]
  split
  · rename_i hst
    rw [if_pos hst] at hb
    omega
  · omega
end
section
variable {ws : List ByteArray} {m l : List Tkn} {x : Fg} {J : Nat} {a : List Fg}
theorem plat_new (i : Nat) (t : Tkn) : PlAt (i + 1) ⟨t, t.2.2.1, [], i⟩ := fun _ => ⟨fun _ => rfl, fun hk => absurd rfl hk⟩
theorem snoc_of {α : Type} {l : List α} (h : ¬ l = []) : ∃ q y, l = q ++ [y] := by
  rcases List.eq_nil_or_concat l with e | ⟨q, y, e⟩
  · exact absurd e h
  · exact ⟨q, y, by rw [e, List.concat_eq_append]⟩
theorem map_snoc {p' q : List Gp} {y : Gp} (h : (q ++ [y]).map bare = p'.map bare) : ∃ q' y', p' = q' ++ [y'] ∧ q.map bare = q'.map bare ∧ bare y = bare y' := by
  have hne : ¬ p' = [] := by rintro rfl; simp at h
  obtain ⟨q', y', rfl⟩ := snoc_of hne
  rw [List.map_append, List.map_append] at h
  have hl := List.append_inj' h (by simp)
  exact ⟨q', y', rfl, hl.1, by simpa using hl.2⟩
theorem sk_step {c : Nat} {s s1 s' : RS} {i : Nat} {t : Tkn} (hr : rightM isPlainB ws = true) (hG : InG m l x J) (hJ : J = (tkA (a.take c)).length + 1) (hx : a[c]? = some x) (hxo : ¬ x.opn = sNo) (hxm : ¬ x.opn = sMacro) (hm : m = tkA a) (hln : l.length = (tkA x.kids).length)
    (hi : i < l.length) (hW : OnWay tokOk ws m a (J + i) s) (hS : SK x (a.take c) (J + i) i s s') (hs : stepM tokOk ws m (J + i) t s = .ok s1) (hW1 : OnWay tokOk ws m a (J + i + 1) s1) (hb : s.beh ≤ J + i) :
    ∃ s1', stepM tokOk ws l i t s' = .ok s1' ∧ SK x (a.take c) (J + i + 1) (i + 1) s1 s1' := by
  have hne := words_no hr
  obtain ⟨hb', R, hR, hsh⟩ := hS
  have hjm : J + i + 1 < m.length := by
    have := (List.getElem?_eq_some_iff.1 hG.clos).1; omega
  have hs1b : s1.beh ≤ J + i + 1 := (hW1.next (List.getElem?_eq_getElem hjm)).1
  have hnam : (decide (s'.top.opn = sMacro) && decide (s'.top.pl + 1 = i)) = (decide (s.top.opn = sMacro) && decide (s.top.pl + 1 = J + i)) := by
    rcases hsh with ⟨_, _, _, ho, ho', _⟩ | ⟨g, g', p, p', _, _, _, _, _, _, _, hbt, hp1, hp2, _, _⟩
    · have h1 : ¬ s.top.opn = sMacro := by rw [ho]; exact hxm
      have h2 : ¬ s'.top.opn = sMacro := by rw [ho']; decide
      rw [decide_eq_false h1, decide_eq_false h2, Bool.false_and, Bool.false_and]
    · obtain ⟨_, h2, h3⟩ := bare_eq hbt
      by_cases ho : s.top.opn = sMacro
      · have ho' : s'.top.opn = sMacro := by rw [← h2]; exact ho
        by_cases hk : s.top.kids = []
        · have e1 := (hp1 ho).1 hk
          have e2 := (hp2 ho').1 (by rw [← h3]; exact hk)
          rw [decide_eq_true ho, decide_eq_true ho', decide_eq_true e1, decide_eq_true e2]
        · have e1 := (hp1 ho).2 hk
          have e2 := (hp2 ho').2 (by rw [← h3]; exact hk)
          rw [decide_eq_false (show ¬ s.top.pl + 1 = J + i by omega), decide_eq_false (show ¬ s'.top.pl + 1 = i by omega), decide_eq_true ho, decide_eq_true ho']
      · have ho' : ¬ s'.top.opn = sMacro := by rw [← h2]; exact ho
        rw [decide_eq_false ho, decide_eq_false ho', Bool.false_and, Bool.false_and]
  have hact : actM ws l i t s' = actM ws m (J + i) t s := by
    unfold actM opensM
    rw [if_neg (show ¬ i < s'.beh by omega), if_neg (show ¬ J + i < s.beh by omega), hnam, (hG.name (q := i + 1) (by omega) slot_no).1]
    have e : J + (i + 1) = J + i + 1 := by omega
    rw [e]
  obtain ⟨hok, ⟨ha, _⟩ | ⟨ha, hd, rfl⟩ | ⟨ha, ho, hc, rfl⟩ | ⟨ha, rfl⟩⟩ := step_cases hs
  · exact absurd (act_skip.1 ha) (by omega)
  · rw [ha] at hact
    have hlen : s'.pre.length + 1 = s.pre.length := by
      rcases hsh with ⟨h1, h2, _⟩ | ⟨g, g', p, p', h1, h2, _, _, _, _, h3, _⟩
      · rw [h1, h2]; rfl
      · rw [h1, h2]
        have := congrArg List.length h3
        simp at this
        simp [this]
    refine ⟨⟨s'.pre ++ [s'.top], ⟨t, t.2.2.1, [], i⟩, s'.beh⟩, ?_, by simp only; omega, R, hR, .inr ?_⟩
    · unfold stepM
      rw [if_pos hok, hact]
      have : ¬ 100 < s'.pre.length + 1 := by omega
      simp only [this, if_false]
    · rcases hsh with ⟨h1, h2, h3, h4, h5, h6⟩ | ⟨g, g', p, p', h1, h2, h3, h4, h5, h6, h7, h8, h9, h10, h11, h12⟩
      · exact ⟨s.top, s'.top, [], [], by rw [h1]; rfl, by rw [h2]; rfl, h3, h4, h5, h6, rfl, rfl, plat_new _ _, plat_new _ _, (fun y hy => by cases hy), (fun y hy => by cases hy)⟩
      · refine ⟨g, g', p ++ [s.top], p' ++ [s'.top], by rw [h1]; rfl, by rw [h2]; rfl, h3, h4, h5, h6, by rw [List.map_append, List.map_append, h7]; simp [h8], rfl, plat_new _ _, plat_new _ _, fun y hy => ?_, fun y hy => ?_⟩
        · rcases List.mem_append.1 hy with hy | hy
          · exact (h11 y hy).up (by omega)
          · rw [List.mem_singleton.1 hy]; exact h9.pre
        · rcases List.mem_append.1 hy with hy | hy
          · exact (h12 y hy).up (by omega)
          · rw [List.mem_singleton.1 hy]; exact h10.pre
  · rw [ha] at hact
    rcases hsh with ⟨h1, h2, h3, h4, h5, h6⟩ | ⟨g, g', p, p', h1, h2, h3, h4, h5, h6, h7, h8, h9, h10, h11, h12⟩
    · exfalso
      have hs1 : clsM m (J + i) s = ⟨[], R.add s.top.fg, if isNamed s.top.opn then behindM m (J + i) s.top s.beh else s.beh⟩ := by unfold clsM; rw [h1]; rfl
      rw [hs1] at hW1
      have hcm := hW1.cmp
      have hl := hW1.len hne hm (by omega)
      have hroot := hW1.root hne
      simp only [List.nil_append] at hcm hroot
      obtain ⟨more, he⟩ := (cmp_one _ _).1 hcm
      have hro := (hroot _ _ rfl).1
      have hcl : (a.take c).length = c := by rw [List.length_take]; have := (List.getElem?_eq_some_iff.1 hx).1; omega
      have hxe : x = s.top.fg := by
        have : a[c]? = some s.top.fg := by
          rw [he]
          simp only [Gp.add, hR]
          rw [List.append_assoc, List.getElem?_append_right (by rw [hcl]; exact Nat.le_refl _), hcl, Nat.sub_self]
          rfl
        rw [hx] at this
        exact Option.some.inj this
      have hf : flS ⟨[], R.add s.top.fg, if isNamed s.top.opn then behindM m (J + i) s.top s.beh else s.beh⟩ = tkA (R.kids ++ [s.top.fg]) := by
        unfold flS flG
        rw [if_pos hro]
        rfl
      rw [hf, hR, tkA_len, tkA_one, ← hxe, tkF_len, if_neg hxo] at hl
      omega
    · have hct : closingM s'.top.opn = t.2.2.1 ∧ ¬ s'.top.opn = sNo := by rw [← (bare_eq h8).2.1]; exact ⟨hc, ho⟩
      have hst : stepM tokOk ws l i t s' = .ok (clsM l i s') := by
        unfold stepM
        rw [if_pos hok, hact]
        have : ¬ (s'.top.opn = sNo ∨ closingM s'.top.opn ≠ t.2.2.1) := by
          rintro (h | h)
          · exact hct.2 h
          · exact h hct.1
        simp only [this, if_false]
      refine ⟨_, hst, ?_⟩
      have hbeh : ∀ q' y', (clsM l i s') = ⟨q', y', if isNamed s'.top.opn then behindM l i s'.top s'.beh else s'.beh⟩ → ∀ q y, clsM m (J + i) s = ⟨q, y, if isNamed s.top.opn then behindM m (J + i) s.top s.beh else s.beh⟩ → (clsM l i s').beh ≤ i + 1 := by
        intro q' y' e' q y e
        rw [e']
        simp only
        rw [← (bare_eq h8).2.1]
        by_cases hnn : isNamed s.top.opn = true
        · rw [if_pos hnn]
          rw [e] at hs1b
          simp only [hnn, if_true] at hs1b
          exact behind_in hG (by omega) hnn hW.w.2.2.1 (bare_eq h8).2.1.symm (bare_eq h8).2.2.symm hs1b hb'
        · rw [if_neg hnn]; omega
      by_cases hp : p = []
      · subst hp
        have hp' : p' = [] := List.map_eq_nil_iff.1 h7.symm
        subst hp'
        have e1 : clsM m (J + i) s = ⟨[R], g.add s.top.fg, if isNamed s.top.opn then behindM m (J + i) s.top s.beh else s.beh⟩ := by unfold clsM; rw [h1]; rfl
        have e2 : clsM l i s' = ⟨[], g'.add s'.top.fg, if isNamed s'.top.opn then behindM l i s'.top s'.beh else s'.beh⟩ := by unfold clsM; rw [h2]; rfl
        refine ⟨hbeh _ _ e2 _ _ e1, R, hR, .inl ?_⟩
        rw [e1, e2]
        exact ⟨rfl, rfl, h3, h4, h5, by simp only [Gp.add, h6, bare_fg h8]⟩
      · obtain ⟨q, y, rfl⟩ := snoc_of hp
        obtain ⟨q', y', rfl, hq, hy⟩ := map_snoc h7
        have e1 : clsM m (J + i) s = ⟨R :: g :: q, y.add s.top.fg, if isNamed s.top.opn then behindM m (J + i) s.top s.beh else s.beh⟩ := by
          have hl : (R :: g :: (q ++ [y])) = (R :: g :: q) ++ [y] := rfl
          unfold clsM; rw [h1, hl, List.getLast?_concat, List.dropLast_concat]
        have e2 : clsM l i s' = ⟨g' :: q', y'.add s'.top.fg, if isNamed s'.top.opn then behindM l i s'.top s'.beh else s'.beh⟩ := by
          have hl : (g' :: (q' ++ [y'])) = (g' :: q') ++ [y'] := rfl
          unfold clsM; rw [h2, hl, List.getLast?_concat, List.dropLast_concat]
        refine ⟨hbeh _ _ e2 _ _ e1, R, hR, .inr ?_⟩
        rw [e1, e2]
        exact ⟨g, g', q, q', rfl, rfl, h3, h4, h5, h6, hq, by simp only; rw [← bare_fg h8]; exact bare_add hy _, PlAt.add (h11 y (by simp)), PlAt.add (h12 y' (by simp)), fun z hz => (h11 z (by simp [hz])).up (by omega), fun z hz => (h12 z (by simp [hz])).up (by omega)⟩
  · rw [ha] at hact
    refine ⟨⟨s'.pre, s'.top.add (.mk t sNo []), s'.beh⟩, ?_, by simp only; omega, R, hR, ?_⟩
    · unfold stepM
      rw [if_pos hok, hact]
    · rcases hsh with ⟨h1, h2, h3, h4, h5, h6⟩ | ⟨g, g', p, p', h1, h2, h3, h4, h5, h6, h7, h8, h9, h10, h11, h12⟩
      · exact .inl ⟨h1, h2, h3, h4, h5, by simp only [Gp.add, h6]⟩
      · exact .inr ⟨g, g', p, p', h1, h2, h3, h4, h5, h6, h7, bare_add h8 _, h9.put, h10.put, fun y hy => (h11 y hy).up (by omega), fun y hy => (h12 y hy).up (by omega)⟩
/-- At the end of a group's fragments nothing is open within it. -/
theorem sk_end {c : Nat} {s s' : RS} (hr : rightM isPlainB ws = true) (hJ : J = (tkA (a.take c)).length + 1) (hx : a[c]? = some x) (hm : m = tkA a) (hjm : J + (tkA x.kids).length ≤ m.length)
    (hW : OnWay tokOk ws m a (J + (tkA x.kids).length) s) (hS : SK x (a.take c) (J + (tkA x.kids).length) (tkA x.kids).length s s') : s'.pre = [] ∧ s'.top.kids = x.kids := by
  have hne := words_no hr
  obtain ⟨_, R, hR, hsh⟩ := hS
  have hcm := hW.cmp
  have hl := hW.len hne hm hjm
  have hroot := hW.root hne
  have hcl : (a.take c).length = c := by rw [List.length_take]; have := (List.getElem?_eq_some_iff.1 hx).1; omega
  have hfl : (flS s).length = ((s.pre ++ [s.top]).flatMap flG).length := by unfold flS; simp
  rw [hl] at hfl
  have hxis : ∀ (t : Tkn) (o : ByteArray) (K : List Fg) (more : List Fg), a = R.kids ++ (.mk t o K :: more) → x = .mk t o K := by
    intro t o K more he
    have : a[c]? = some (.mk t o K) := by
      rw [he, hR, List.getElem?_append_right (by rw [hcl]; exact Nat.le_refl _), hcl, Nat.sub_self]
      rfl
    rw [hx] at this
    exact Option.some.inj this
  rcases hsh with ⟨h1, h2, h3, h4, h5, h6⟩ | ⟨g, g', p, p', h1, h2, h3, h4, h5, h6, h7, h8, _⟩
  · refine ⟨h2, ?_⟩
    rw [h1] at hcm hroot hfl
    simp only [List.singleton_append] at hcm hroot hfl
    obtain ⟨K, more, he, hk⟩ := (cmp_two _ _ _ _).1 hcm
    have hxe := hxis _ _ _ _ he
    have hK : x.kids = K := by rw [hxe]; rfl
    obtain ⟨more2, he2⟩ := (cmp_one _ _).1 hk
    have hro := (hroot _ _ rfl).1
    have hto : ¬ s.top.opn = sNo := (hroot _ _ rfl).2 _ (by simp)
    rw [List.flatMap_cons, List.flatMap_cons, List.flatMap_nil, List.append_nil, List.length_append, flat_group hto] at hfl
    have hg : (flG R).length = (tkA R.kids).length := by unfold flG; rw [if_pos hro]
    rw [hg, hR] at hfl
    rw [hK, he2, tkA_len] at hfl
    have hz : more2 = [] := tkA_zero (by omega)
    rw [hK, he2, hz, List.append_nil, ← h6]
  · exfalso
    rw [h1] at hcm hroot hfl
    obtain ⟨g2, gs, hgs⟩ : ∃ g2 gs, p ++ [s.top] = g2 :: gs := by
      cases p with
      | nil => exact ⟨_, _, rfl⟩
      | cons y z => exact ⟨_, _, rfl⟩
    have hall : R :: g :: p ++ [s.top] = R :: g :: g2 :: gs := by rw [← hgs]; rfl
    rw [hall] at hcm hroot hfl
    obtain ⟨K, more, he, hk⟩ := (cmp_two _ _ _ _).1 hcm
    have hxe := hxis _ _ _ _ he
    have hK : x.kids = K := by rw [hxe]; rfl
    obtain ⟨K2, more2, he2, hk2⟩ := (cmp_two _ _ _ _).1 hk
    obtain ⟨hro, hrest⟩ := hroot _ _ rfl
    have hsz := cmp_size gs g2 K2 (fun y hy => hrest y (List.mem_cons_of_mem _ hy)) hk2
    have hg : (flG R).length = (tkA R.kids).length := by unfold flG; rw [if_pos hro]
    have hF := tkF_len (.mk g2.tok g2.opn K2)
    rw [if_neg (show ¬ (Fg.mk g2.tok g2.opn K2).opn = sNo from hrest g2 (by simp))] at hF
    simp only [Fg.kids] at hF
    rw [List.flatMap_cons, List.flatMap_cons, List.length_append, List.length_append, flat_group (hrest g (by simp)), hg, hR, hK, he2, tkA_len, tkA_cons_len, hF] at hfl
    omega
theorem sk_run {c : Nat} (hr : rightM isPlainB ws = true) (hG : InG m l x J) (hJ : J = (tkA (a.take c)).length + 1) (hx : a[c]? = some x) (hxo : ¬ x.opn = sNo) (hxm : ¬ x.opn = sMacro) (hm : m = tkA a) (hl : l = tkA x.kids) :
    ∀ (n i : Nat) (s s' : RS), l.length - i = n → i ≤ l.length → OnWay tokOk ws m a (J + i) s → SK x (a.take c) (J + i) i s s' → runM tokOk ws l (l.drop i) i s' = .ok x.kids
  | 0, i, s, s', hn, hi, hW, hS => by
    have hie : i = l.length := by omega
    have hjm := (List.getElem?_eq_some_iff.1 hG.clos).1
    rw [hie, hl] at hW hS
    have hle : l.length = (tkA x.kids).length := by rw [hl]
    obtain ⟨h1, h2⟩ := sk_end hr hJ hx hm (by omega) hW hS
    rw [hie, List.drop_eq_nil_of_le (Nat.le_refl _)]
    unfold runM
    rw [if_pos h1, h2]
  | n + 1, i, s, s', hn, hi, hW, hS => by
    have hil : i < l.length := by omega
    have hjm := (List.getElem?_eq_some_iff.1 hG.clos).1
    have hms := hG.same i hil
    have hmt : m[J + i]? = some l[i] := by rw [← hms]; exact List.getElem?_eq_getElem hil
    obtain ⟨hb, s1, hs, hW1⟩ := hW.next hmt
    obtain ⟨s1', hs', hS1⟩ := sk_step hr hG hJ hx hxo hxm hm (by rw [hl]) hil hW hS hs hW1 hb
    have ih := sk_run hr hG hJ hx hxo hxm hm hl n (i + 1) s1 s1' (by omega) (by omega) hW1 hS1
    rw [List.drop_eq_getElem_cons hil]
    unfold runM
    rw [hs']
    exact ih
end
/-- PARTS, of the models: the fragments of a group. -/
theorem read_kids {ws : List ByteArray} {a : List Fg} {c : Nat} {x : Fg} (h : readM tokOk isPlainB (tkA a) ws = .ok a) (hx : a[c]? = some x) (hxo : ¬ x.opn = sNo) (hxm : ¬ x.opn = sMacro) : readM tokOk isPlainB (tkA x.kids) ws = .ok x.kids := by
  obtain ⟨hr, h6, _⟩ := readM_run h
  have hne := words_no hr
  have hca := (List.getElem?_eq_some_iff.1 hx).1
  have hsplit : tkA a = tkA (a.take c) ++ (x.tok :: (tkA x.kids ++ (closeTok x :: tkA (a.drop (c + 1))))) := by
    have e1 : a = a.take c ++ (x :: a.drop (c + 1)) := by
      conv => lhs; rw [← List.take_append_drop c a, List.drop_eq_getElem_cons hca]
      rw [List.getElem?_eq_getElem hca] at hx
      rw [Option.some.inj hx]
    conv => lhs; rw [e1]
    rw [tkA_append, tkA_cons, tkF_group hxo]
    simp
  have hlen := congrArg List.length hsplit
  simp only [List.length_append, List.length_cons] at hlen
  have hG : InG (tkA a) (tkA x.kids) x ((tkA (a.take c)).length + 1) := by
    refine ⟨fun q hq => ?_, ?_⟩
    · rw [hsplit, List.getElem?_append_right (by omega)]
      have e : (tkA (a.take c)).length + 1 + q - (tkA (a.take c)).length = q + 1 := by omega
      rw [e, List.getElem?_cons_succ, List.getElem?_append_left hq]
    · rw [hsplit, List.getElem?_append_right (by omega)]
      have e : (tkA (a.take c)).length + 1 + (tkA x.kids).length - (tkA (a.take c)).length = (tkA x.kids).length + 1 := by omega
      rw [e, List.getElem?_cons_succ, List.getElem?_append_right (Nat.le_refl _), Nat.sub_self]
      rfl
  have hx0 : (tkA a)[(tkA (a.take c)).length]? = some x.tok := by
    rw [hsplit, List.getElem?_append_right (Nat.le_refl _), Nat.sub_self]
    rfl
  obtain ⟨s, hW⟩ := OnWay.reach (tkA (a.take c)).length (by omega) (onway0 h)
  obtain ⟨hp, hk⟩ := at_top (by omega) (hW.root hne) hW.cmp (hW.len hne rfl (by omega))
  obtain ⟨hb, s1, hs, hW1⟩ := hW.next hx0
  have hto : s.top.opn = sNo := hW.rs.root hp
  have hcl : (a.take c).length = c := by rw [List.length_take]; omega
  obtain ⟨_, ⟨ha, _⟩ | ⟨ha, _, rfl⟩ | ⟨_, ho, _⟩ | ⟨ha, rfl⟩⟩ := step_cases hs
  · exact absurd (act_skip.1 ha) (by omega)
  · have hcm := hW1.cmp
    rw [hp] at hcm
    obtain ⟨K, more, he, _⟩ := (cmp_two _ _ _ _).1 hcm
    have hxe : a[c]? = some (.mk x.tok x.tok.2.2.1 K) := by
      rw [he, hk, List.getElem?_append_right (by rw [hcl]; exact Nat.le_refl _), hcl, Nat.sub_self]
      rfl
    rw [hx] at hxe
    have hxo2 : x.tok.2.2.1 = x.opn := (congrArg Fg.opn (Option.some.inj hxe)).symm
    have hS : SK x (a.take c) ((tkA (a.take c)).length + 1 + 0) 0 ⟨s.pre ++ [s.top], ⟨x.tok, x.tok.2.2.1, [], (tkA (a.take c)).length⟩, s.beh⟩ rs0 :=
      ⟨Nat.le_refl _, s.top, hk, .inl ⟨by rw [hp]; rfl, rfl, rfl, hxo2, rfl, rfl⟩⟩
    have h1 := sk_run hr hG rfl hx hxo hxm rfl rfl _ 0 _ rs0 rfl (Nat.zero_le _) hW1 hS
    rw [List.drop_zero] at h1
    unfold readM
    rw [if_pos hr, if_neg (by omega)]
    exact h1
  · exact absurd hto ho
  · exfalso
    have hcm := hW1.cmp
    rw [hp, List.nil_append] at hcm
    obtain ⟨more, he⟩ := (cmp_one _ _).1 hcm
    have hxe : a[c]? = some (.mk x.tok sNo []) := by
      rw [he]
      simp only [Gp.add, hk]
      rw [List.append_assoc, List.getElem?_append_right (by rw [hcl]; exact Nat.le_refl _), hcl, Nat.sub_self]
      rfl
    rw [hx] at hxe
    exact hxo (congrArg Fg.opn (Option.some.inj hxe))
end

end Go.Proofs.YtcokdapnafgnpaaGreatDoor
