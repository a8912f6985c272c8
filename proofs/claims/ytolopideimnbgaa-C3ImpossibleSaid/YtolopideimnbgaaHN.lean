/-
  Linearizations: the model.
-/
import Derived.Test.YtolopideimnbgaaHM
namespace Go.Proofs.Ytolopideimnbgaa
open Go.RowKit

def seqM : List (Except Nat Nms) → Except Nat (List Nms)
  | [] => .ok []
  | .error e :: _ => .error e
  | .ok l :: r => (seqM r).map (l :: ·)
def preM : List (Except Nat Nms) → List Nms
  | .ok l :: r => l :: preM r
  | _ => []
/-- What is merged for a class. -/
def linEnd (n : Nat) (x : Hr) (r : Except Nat (List Nms)) : Except Nat Nms := match r with
  | .error e => .error e
  | .ok ls => match mergeM (totM (nonE (ls ++ [x.2]))) (nonE (ls ++ [x.2])) with
    | .ok m => .ok (x.1 :: m)
    | .error _ => .error n
def linM (g : List Hr) (n : Nat) : Except Nat Nms :=
  match g[n]? with
  | none => .error n
  | some x => linEnd n x (seqM (x.2.map fun s => match posM g s with
    | none => .error n
    | some j => if _h : j < n then linM g j else .error n))
termination_by n
/-- The linearizations of the superclasses. -/
def supsM (g : List Hr) (x : Hr) : List (Except Nat Nms) := x.2.map fun s => linM g ((posM g s).getD 0)
theorem okAt_parts {pre : Nms} {x : Hr} (h : okAt pre x = true) : x.1 ≠ ⟨#[]⟩ ∧ ¬ x.1 ∈ pre ∧ x.2.length ≤ 8 ∧ (∀ s ∈ x.2, s ∈ pre) ∧ x.2.Nodup := by
  unfold okAt supM at h
  simp only [Bool.and_eq_true, Bool.not_eq_true', decide_eq_false_iff_not, decide_eq_true_eq] at h
  exact ⟨h.1, h.2.1, h.2.2.1, h.2.2.2.1, h.2.2.2.2⟩
theorem hier_at : ∀ (g : List Hr) (pre : Nms), hierB pre g = true → ∀ n x, g[n]? = some x → okAt (pre ++ (g.take n).map (·.1)) x = true
  | [], _, _, n, x, hx => by simp at hx
  | y :: r, pre, h, n, x, hx => by
    simp only [hierB, Bool.and_eq_true] at h
    cases n with
    | zero => simp at hx; subst hx; simpa using h.1
    | succ n =>
      have := hier_at r (pre ++ [y.1]) h.2 n x (by simpa using hx)
      simpa using this
theorem check_at {g : List Hr} (hg : checkM g = 0) {n : Nat} {x : Hr} (hx : g[n]? = some x) : okAt ((g.take n).map (·.1)) x = true := by
  have hl := checkM_len hg
  have hh : hierB [] g = true := by
    unfold checkM at hg
    rw [if_neg (by omega)] at hg
    by_cases h : hierB [] g = true
    · exact h
    · rw [if_neg h] at hg; omega
  simpa using hier_at g [] hh n x hx
theorem mem_take {g : List Hr} {n : Nat} {s : ByteArray} (h : s ∈ (g.take n).map (·.1)) : ∃ j x, j < n ∧ g[j]? = some x ∧ x.1 = s := by
  obtain ⟨x, hx, e⟩ := List.mem_map.1 h
  obtain ⟨j, hj⟩ := List.mem_iff_getElem?.1 hx
  rw [List.getElem?_take] at hj
  by_cases hjn : j < n
  · rw [if_pos hjn] at hj; exact ⟨j, x, hjn, hj, e⟩
  · rw [if_neg hjn] at hj; cases hj
theorem take_mem {g : List Hr} {n j : Nat} {x : Hr} (h : g[j]? = some x) (hj : j < n) : x.1 ∈ (g.take n).map (·.1) :=
  List.mem_map.2 ⟨x, List.mem_iff_getElem?.2 ⟨j, by rw [List.getElem?_take, if_pos hj]; exact h⟩, rfl⟩
/-- Names are different. -/
theorem name_inj {g : List Hr} (hg : checkM g = 0) {i j : Nat} {x y : Hr} (hi : g[i]? = some x) (hj : g[j]? = some y) (e : x.1 = y.1) : i = j := by
  rcases Nat.lt_trichotomy i j with h | h | h
  · exact absurd (e ▸ take_mem hi h) (okAt_parts (check_at hg hj)).2.1
  · exact h
  · exact absurd (e ▸ take_mem hj h) (okAt_parts (check_at hg hi)).2.1
theorem pos_at {g : List Hr} (hg : checkM g = 0) {j : Nat} {x : Hr} (hj : g[j]? = some x) : posM g x.1 = some j := by
  cases h : posM g x.1 with
  | none => exact absurd (List.mem_map.2 ⟨x, List.mem_iff_getElem?.2 ⟨j, hj⟩, rfl⟩) (posM_none.1 h)
  | some k =>
    obtain ⟨y, hy, e⟩ := posM_some h
    rw [name_inj hg hy hj e]
/-- Superclasses stand ahead. -/
theorem sup_pos {g : List Hr} (hg : checkM g = 0) {n : Nat} {x : Hr} (hx : g[n]? = some x) {s : ByteArray} (hs : s ∈ x.2) : ∃ j y, j < n ∧ g[j]? = some y ∧ y.1 = s ∧ posM g s = some j := by
  obtain ⟨j, y, h1, h2, h3⟩ := mem_take ((okAt_parts (check_at hg hx)).2.2.2.1 s hs)
  exact ⟨j, y, h1, h2, h3, h3 ▸ pos_at hg h2⟩
theorem lin_eq {g : List Hr} (hg : checkM g = 0) {n : Nat} {x : Hr} (hx : g[n]? = some x) : linM g n = linEnd n x (seqM (supsM g x)) := by
  rw [linM, hx]
  show linEnd n x _ = _
  congr 2
  refine List.map_congr_left fun s hs => ?_
  obtain ⟨j, y, h1, _, _, h4⟩ := sup_pos hg hx hs
  rw [h4]
  simp only [Option.getD_some]
  rw [dif_pos h1]
theorem mem_takeL {x y : ByteArray} {l : Nms} (h : y ∈ takeL x l) : y ∈ l := by
  cases l with
  | nil => exact h
  | cons z t =>
    unfold takeL at h
    by_cases e : z = x
    · simp only [if_pos e] at h; exact .tail _ h
    · simp only [if_neg e] at h; exact h
theorem cntL_mem {s : ByteArray} : ∀ {l : Nms}, cntL s l = 0 ↔ ¬ s ∈ l
  | [] => by simp [cntL]
  | x :: r => by
    have := cntL_mem (s := s) (l := r)
    unfold cntL
    by_cases h : x = s
    · rw [if_pos h]; simp [h]
    · have h' : ¬ s = x := fun e => h e.symm
      rw [if_neg h]; simp [h', this]
theorem behM_zero {s : ByteArray} : ∀ {ls : List Nms}, behM ls s = 0 ↔ ∀ l ∈ ls, ¬ s ∈ l.tail
  | [] => by simp [behM]
  | l :: r => by
    have h1 := behM_zero (s := s) (ls := r)
    have h2 := cntL_mem (s := s) (l := l.tail)
    constructor
    · intro h
      have h3 : cntL s l.tail + behM r s = 0 := h
      intro l' hl'
      cases hl' with
      | head => exact h2.1 (by omega)
      | tail _ hl' => exact h1.1 (by omega) l' hl'
    · intro h
      show cntL s l.tail + behM r s = 0
      rw [h2.2 (h l (.head _)), h1.2 fun l' hl' => h l' (.tail _ hl')]
theorem cand_zero {all : List Nms} {x : ByteArray} : ∀ {ls : List Nms}, candM all ls = some x → behM all x = 0 ∧ ∃ l ∈ ls, l.head? = some x
  | [], h => by cases h
  | [] :: r, h => by
    obtain ⟨h1, l, h2, h3⟩ := cand_zero (ls := r) h
    exact ⟨h1, l, .tail _ h2, h3⟩
  | (y :: t) :: r, h => by
    unfold candM at h
    by_cases hb : behM all y = 0
    · rw [if_pos hb] at h; cases h
      exact ⟨hb, _, .head _, rfl⟩
    · rw [if_neg hb] at h
      obtain ⟨h1, l, h2, h3⟩ := cand_zero (ls := r) h
      exact ⟨h1, l, .tail _ h2, h3⟩
/-- What merging has: all elements, each once. -/
theorem merge_mem : ∀ (n : Nat) (ls : List Nms) (m : Nms), mergeM n ls = .ok m → m.Nodup ∧ ∀ x, x ∈ m ↔ ∃ l ∈ ls, x ∈ l
  | 0, ls, m, h => by
    unfold mergeM at h
    by_cases h0 : ls = []
    · rw [if_pos h0] at h; cases h; subst h0; simp
    · rw [if_neg h0] at h; cases h
  | n + 1, ls, m, h => by
    unfold mergeM at h
    by_cases h0 : ls = []
    · rw [if_pos h0] at h; cases h; subst h0; simp
    · rw [if_neg h0] at h
      cases hc : candM ls ls with
      | none => rw [hc] at h; cases h
      | some x =>
        rw [hc] at h
        simp only at h
        cases hm : mergeM n (nonE (ls.map (takeL x))) with
        | error e => rw [hm] at h; cases h
        | ok m' =>
          rw [hm] at h
          cases h
          obtain ⟨h1, h2⟩ := merge_mem n _ m' hm
          obtain ⟨hz, l0, hl0, hh0⟩ := cand_zero hc
          have ht := behM_zero.1 hz
          have key : ∀ y, y ∈ m' ↔ y ≠ x ∧ ∃ l ∈ ls, y ∈ l := by
            intro y
            rw [h2 y]
            constructor
            · rintro ⟨l', hl', hy⟩
              obtain ⟨l, hl, rfl⟩ := List.mem_map.1 (List.mem_filter.1 hl').1
              refine ⟨?_, l, hl, mem_takeL hy⟩
              rintro rfl
              cases l with
              | nil => cases hy
              | cons z t =>
                have := ht _ hl
                unfold takeL at hy
                by_cases e : z = y
                · simp only [if_pos e] at hy; exact this hy
                · simp only [if_neg e] at hy
                  cases hy with
                  | head => exact e rfl
                  | tail _ hy => exact this hy
            · rintro ⟨hne, l, hl, hy⟩
              have hyt : y ∈ takeL x l := by
                cases l with
                | nil => cases hy
                | cons z t =>
                  unfold takeL
                  by_cases e : z = x
                  · simp only [if_pos e]
                    cases hy with
                    | head => exact absurd e hne
                    | tail _ hy => exact hy
                  · simp only [if_neg e]; exact hy
              refine ⟨takeL x l, List.mem_filter.2 ⟨List.mem_map.2 ⟨l, hl, rfl⟩, ?_⟩, hyt⟩
              cases hh : takeL x l with
              | nil => rw [hh] at hyt; cases hyt
              | cons _ _ => rfl
          refine ⟨List.nodup_cons.2 ⟨fun hx => ((key x).1 hx).1 rfl, h1⟩, fun y => ?_⟩
          rw [List.mem_cons, key y]
          constructor
          · rintro (rfl | ⟨_, h⟩)
            · refine ⟨l0, hl0, ?_⟩
              cases l0 with
              | nil => cases hh0
              | cons z t => simp at hh0; subst hh0; exact .head _
            · exact h
          · rintro h
            by_cases e : y = x
            · exact .inl e
            · exact .inr ⟨e, h⟩
theorem seq_mem : ∀ (rs : List (Except Nat Nms)) (ls : List Nms), seqM rs = .ok ls → preM rs = ls ∧ rs = ls.map .ok
  | [], ls, h => by cases h; exact ⟨rfl, rfl⟩
  | .error e :: r, ls, h => by cases h
  | .ok l :: r, ls, h => by
    unfold seqM at h
    cases hr : seqM r with
    | error e => rw [hr] at h; cases h
    | ok ls' =>
      rw [hr] at h
      cases h
      obtain ⟨h1, h2⟩ := seq_mem r ls' hr
      exact ⟨by show l :: preM r = _; rw [h1], by rw [h2]; rfl⟩
theorem nonE_mem {ls : List Nms} {x : ByteArray} : (∃ l ∈ nonE ls, x ∈ l) ↔ ∃ l ∈ ls, x ∈ l := by
  constructor
  · rintro ⟨l, hl, hx⟩; exact ⟨l, (List.mem_filter.1 hl).1, hx⟩
  · rintro ⟨l, hl, hx⟩
    refine ⟨l, List.mem_filter.2 ⟨hl, ?_⟩, hx⟩
    cases l with
    | nil => cases hx
    | cons _ _ => rfl
theorem length_sub : ∀ (l k : Nms), l.Nodup → (∀ x ∈ l, x ∈ k) → l.length ≤ k.length
  | [], _, _, _ => Nat.zero_le _
  | x :: l, k, hn, hs => by
    obtain ⟨a, b, rfl⟩ := List.append_of_mem (hs x (.head _))
    obtain ⟨h1, h2⟩ := List.nodup_cons.1 hn
    have := length_sub l (a ++ b) h2 fun y hy => by
      have := hs y (.tail _ hy)
      rcases List.mem_append.1 this with h | h
      · exact List.mem_append_left _ h
      · cases h with
        | head => exact absurd hy h1
        | tail _ h => exact List.mem_append_right _ h
    simp only [List.length_append, List.length_cons] at *
    omega
/-- A linearization has names up to its class, each once. -/
theorem lin_sub {g : List Hr} (hg : checkM g = 0) : ∀ (n : Nat) (l : Nms), linM g n = .ok l → l.Nodup ∧ (∀ y ∈ l, y ∈ (g.take (n + 1)).map (·.1)) ∧ ∃ x, g[n]? = some x ∧ l.head? = some x.1 := by
  intro n
  induction n using Nat.strongRecOn with
  | ind n ih =>
    intro l h
    cases hx : g[n]? with
    | none => rw [linM, hx] at h; cases h
    | some x =>
      rw [lin_eq hg hx] at h
      unfold linEnd at h
      cases hq : seqM (supsM g x) with
      | error e => rw [hq] at h; cases h
      | ok ls =>
        rw [hq] at h
        simp only at h
        cases hm : mergeM (totM (nonE (ls ++ [x.2]))) (nonE (ls ++ [x.2])) with
        | error e => rw [hm] at h; cases h
        | ok m =>
          rw [hm] at h
          cases h
          obtain ⟨h1, h2⟩ := merge_mem _ _ m hm
          have h3 : ∀ y ∈ m, y ∈ (g.take n).map (·.1) := by
            intro y hy
            obtain ⟨l, hl, hyl⟩ := nonE_mem.1 ((h2 y).1 hy)
            rcases List.mem_append.1 hl with hl | hl
            · have hr := (seq_mem _ _ hq).2
              have : Except.ok l ∈ supsM g x := by rw [hr]; exact List.mem_map.2 ⟨l, hl, rfl⟩
              obtain ⟨s, hs, e⟩ := List.mem_map.1 this
              obtain ⟨j, y', hj, hj2, hj3, hj4⟩ := sup_pos hg hx hs
              rw [hj4] at e
              obtain ⟨_, h5, _⟩ := ih j hj l e
              obtain ⟨i, z, hi, hz, e2⟩ := mem_take (h5 y hyl)
              rw [← e2]
              exact take_mem hz (by omega)
            · simp at hl; subst hl
              obtain ⟨j, y', hj, hj2, hj3, _⟩ := sup_pos hg hx hyl
              rw [← hj3]
              exact take_mem hj2 hj
          refine ⟨List.nodup_cons.2 ⟨fun hxm => (okAt_parts (check_at hg hx)).2.1 (h3 _ hxm), h1⟩, fun y hy => ?_, x, rfl, rfl⟩
          cases hy with
          | head => exact take_mem hx (by omega)
          | tail _ hy =>
            obtain ⟨i, z, hi, hz, e2⟩ := mem_take (h3 y hy)
            rw [← e2]
            exact take_mem hz (by omega)
theorem lin_len {g : List Hr} (hg : checkM g = 0) {n : Nat} {l : Nms} (h : linM g n = .ok l) : l.length ≤ 120 := by
  obtain ⟨h1, h2, _⟩ := lin_sub hg n l h
  have := length_sub l _ h1 h2
  have hl := checkM_len hg
  simp only [List.length_map, List.length_take] at this
  omega
theorem pre_len : ∀ (rs : List (Except Nat Nms)), (preM rs).length ≤ rs.length
  | [] => Nat.le_refl _
  | .ok l :: r => by have := pre_len r; simp only [preM, List.length_cons]; omega
  | .error e :: r => by simp [preM]
theorem pre_tot : ∀ (rs : List (Except Nat Nms)), (∀ l, Except.ok l ∈ rs → l.length ≤ 120) → totM (preM rs) ≤ rs.length * 120
  | [], _ => Nat.le_refl _
  | .ok l :: r, h => by
    have h1 := pre_tot r fun l' hl => h l' (.tail _ hl)
    have h2 := h l (.head _)
    simp only [preM, totM, List.length_cons]; omega
  | .error e :: r, _ => by simp [preM, totM]
/-- What is yielded for a class is short. -/
theorem lists_small {g : List Hr} (hg : checkM g = 0) {n : Nat} {x : Hr} (hx : g[n]? = some x) : totM (preM (supsM g x) ++ [x.2]) ≤ 1000 ∧ (preM (supsM g x) ++ [x.2]).length ≤ 9 := by
  have h8 := (okAt_parts (check_at hg hx)).2.2.1
  have hl : (supsM g x).length = x.2.length := by simp [supsM]
  have h1 := pre_len (supsM g x)
  have h2 := pre_tot (supsM g x) fun l hl => by
    obtain ⟨s, hs, e⟩ := List.mem_map.1 hl
    exact lin_len hg e
  rw [totM_app]
  simp only [totM, List.length_append, List.length_cons, List.length_nil]
  omega
end Go.Proofs.Ytolopideimnbgaa
