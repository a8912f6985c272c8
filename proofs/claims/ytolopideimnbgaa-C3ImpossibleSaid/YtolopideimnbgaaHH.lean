/-
  Merging lists: the model; rows of lists; counts in a map.
-/
import Derived.Test.YtolopideimnbgaaHG
namespace Go.Proofs.Ytolopideimnbgaa
open Go.RowKit

abbrev Nms := List ByteArray
def cntL (s : ByteArray) : Nms → Nat
  | [] => 0
  | x :: r => (if x = s then 1 else 0) + cntL s r
/-- How often a name stands behind the first elements. -/
def behM : List Nms → ByteArray → Nat
  | [], _ => 0
  | l :: r, s => cntL s l.tail + behM r s
def totM : List Nms → Nat
  | [] => 0
  | l :: r => l.length + totM r
def candM (all : List Nms) : List Nms → Option ByteArray
  | [] => none
  | [] :: r => candM all r
  | (x :: _) :: r => if behM all x = 0 then some x else candM all r
def takeL (x : ByteArray) : Nms → Nms
  | [] => []
  | y :: t => if y = x then t else y :: t
def nonE (ls : List Nms) : List Nms := ls.filter fun l => !l.isEmpty
def mergeM : Nat → List Nms → Except (List Nms) Nms
  | 0, ls => if ls = [] then .ok [] else .error ls
  | n + 1, ls => if ls = [] then .ok [] else
    match candM ls ls with
    | none => .error ls
    | some x => (mergeM n (nonE (ls.map (takeL x)))).map (x :: ·)
theorem cntL_le (s : ByteArray) : ∀ l : Nms, cntL s l ≤ l.length
  | [] => Nat.le_refl _
  | x :: r => by
    have := cntL_le s r
    unfold cntL
    by_cases h : x = s <;> simp [h] <;> omega
theorem behM_le (s : ByteArray) : ∀ ls : List Nms, behM ls s ≤ totM ls
  | [] => Nat.le_refl _
  | l :: r => by
    have h1 := behM_le s r
    have h2 := cntL_le s l.tail
    have h3 : l.tail.length ≤ l.length := by rw [List.length_tail]; omega
    show cntL s l.tail + behM r s ≤ l.length + totM r
    omega
theorem behM_app (s : ByteArray) : ∀ (a b : List Nms), behM (a ++ b) s = behM a s + behM b s
  | [], b => by simp [behM]
  | l :: a, b => by
    show cntL s l.tail + behM (a ++ b) s = cntL s l.tail + behM a s + behM b s
    rw [behM_app s a b]; omega
theorem totM_app : ∀ (a b : List Nms), totM (a ++ b) = totM a + totM b
  | [], b => by simp [totM]
  | l :: a, b => by
    show l.length + totM (a ++ b) = l.length + totM a + totM b
    rw [totM_app a b]; omega
theorem behM_nonE (s : ByteArray) : ∀ ls : List Nms, behM (nonE ls) s = behM ls s
  | [] => rfl
  | [] :: r => by
    show behM (nonE r) s = cntL s [] + behM r s
    rw [behM_nonE s r]; simp [cntL]
  | (x :: t) :: r => by
    show cntL s t + behM (nonE r) s = cntL s t + behM r s
    rw [behM_nonE s r]
theorem totM_nonE : ∀ ls : List Nms, totM (nonE ls) = totM ls
  | [] => rfl
  | [] :: r => by
    show totM (nonE r) = 0 + totM r
    rw [totM_nonE r]; omega
  | (x :: t) :: r => by
    show (x :: t).length + totM (nonE r) = (x :: t).length + totM r
    rw [totM_nonE r]
theorem nonE_ne {ls : List Nms} : ∀ l ∈ nonE ls, l ≠ [] := by
  intro l hl
  have := (List.mem_filter.1 hl).2
  rintro rfl
  simp at this
theorem nonE_snoc (ls : List Nms) (l : Nms) : nonE (ls ++ [l]) = nonE ls ++ if l = [] then [] else [l] := by
  unfold nonE
  rw [List.filter_append]
  cases l <;> simp
theorem totM_take (x : ByteArray) : ∀ ls : List Nms, totM (ls.map (takeL x)) ≤ totM ls
  | [] => Nat.le_refl _
  | l :: r => by
    have h1 := totM_take x r
    have h2 : (takeL x l).length ≤ l.length := by
      cases l with
      | nil => exact Nat.le_refl _
      | cons y t => unfold takeL; by_cases h : y = x <;> simp [h]
    show (takeL x l).length + totM (r.map (takeL x)) ≤ l.length + totM r
    omega
theorem totM_lt {x : ByteArray} {all : List Nms} : ∀ ls : List Nms, candM all ls = some x → totM (ls.map (takeL x)) < totM ls
  | [], h => by cases h
  | [] :: r, h => by
    have := totM_lt r h
    show 0 + totM (r.map (takeL x)) < 0 + totM r
    omega
  | (y :: t) :: r, h => by
    unfold candM at h
    by_cases hb : behM all y = 0
    · rw [if_pos hb] at h
      cases h
      have := totM_take x r
      show (takeL x (x :: t)).length + totM (r.map (takeL x)) < (x :: t).length + totM r
      simp [takeL]; omega
    · rw [if_neg hb] at h
      have h1 := totM_lt r h
      have h2 := totM_take x [y :: t]
      simp only [List.map_cons, List.map_nil, totM, Nat.add_zero] at h2
      show (takeL x (y :: t)).length + totM (r.map (takeL x)) < (y :: t).length + totM r
      omega
/-- More steps than there are elements make no difference. -/
theorem mergeM_fuel : ∀ (n m : Nat) (ls : List Nms), (∀ l ∈ ls, l ≠ []) → totM ls ≤ n → totM ls ≤ m → mergeM n ls = mergeM m ls
  | 0, 0, _, _, _, _ => rfl
  | 0, m + 1, ls, hne, h, _ => by
    have : ls = [] := by
      cases ls with
      | nil => rfl
      | cons l r =>
        have := hne l (.head _)
        have hl : 0 < l.length := List.length_pos_iff.2 this
        simp only [totM] at h; omega
    subst this; rfl
  | n + 1, 0, ls, hne, _, h => by
    have : ls = [] := by
      cases ls with
      | nil => rfl
      | cons l r =>
        have := hne l (.head _)
        have hl : 0 < l.length := List.length_pos_iff.2 this
        simp only [totM] at h; omega
    subst this; rfl
  | n + 1, m + 1, ls, hne, h1, h2 => by
    unfold mergeM
    by_cases h0 : ls = []
    · rw [if_pos h0, if_pos h0]
    · rw [if_neg h0, if_neg h0]
      cases hc : candM ls ls with
      | none => rfl
      | some x =>
        have := totM_lt ls hc
        simp only
        rw [mergeM_fuel n m (nonE (ls.map (takeL x))) nonE_ne (by rw [totM_nonE]; omega) (by rw [totM_nonE]; omega)]

/-- Rows of lists. -/
def LAt (w : World) (Q : Nat → Prop) (g o : Nat) (ls : List Nms) : Prop := ∀ i (l : Nms), ls[i]? = some l → ∃ u, w.cell? ⟨g, o + i, none⟩ = some u ∧ SRow w Q u l
def LRow (w : World) (Q : Nat → Prop) (v : Value) (ls : List Nms) : Prop := ∃ b c, v = .slice b ls.length c ∧ (ls ≠ [] → ∃ g o, b = some ⟨g, o, none⟩ ∧ Q g ∧ g < w.heap.size ∧ LAt w Q g o ls ∧ ls.length ≤ c)
theorem LRow.keep {w w' : World} {Q : Nat → Prop} {v : Value} {l : List Nms} (h : LRow w Q v l) (hk : ∀ b, Q b → b < w.heap.size → w'.heap[b]? = w.heap[b]?) (hs : w.heap.size ≤ w'.heap.size) : LRow w' Q v l := by
  obtain ⟨b, c, e, hr⟩ := h
  refine ⟨b, c, e, fun hne => ?_⟩
  obtain ⟨g, o, hb, hq, hg, ha, hc⟩ := hr hne
  refine ⟨g, o, hb, hq, by omega, fun i x hi => ?_, hc⟩
  obtain ⟨u, h1, h2⟩ := ha i x hi
  exact ⟨u, (World.cell?_of_block (w := w) (hk g hq hg)).trans h1, h2.keep hk hs⟩
theorem LRow.keepS {w w' : World} {Q S : Nat → Prop} {v : Value} {l : List Nms} (h : LRow w Q v l) (hk : Keep S w w') (hd : ∀ b, Q b → b < w.heap.size → ¬ S b) : LRow w' Q v l := h.keep (fun b q z => hk.block b z (hd b q z)) hk.size
theorem LRow.below {w w' : World} {Q : Nat → Prop} {v : Value} {l : List Nms} (h : LRow w Q v l) (hk : Below w.heap.size w w') : LRow w' Q v l := h.keep (fun b _ z => hk.block b z) hk.size
theorem LRow.mono {w : World} {Q Q' : Nat → Prop} {v : Value} {l : List Nms} (h : LRow w Q v l) (hq : ∀ b, b < w.heap.size → Q b → Q' b) : LRow w Q' v l := by
  obtain ⟨b, c, e, hr⟩ := h
  refine ⟨b, c, e, fun hne => ?_⟩
  obtain ⟨g, o, hb, q, hg, ha, hc⟩ := hr hne
  refine ⟨g, o, hb, hq g hg q, hg, fun i x hi => ?_, hc⟩
  obtain ⟨u, h1, h2⟩ := ha i x hi
  exact ⟨u, h1, h2.mono hq⟩
/-- A row of lists of one's own. -/
def LOwn (w : World) (base : Nat) (Q : Nat → Prop) (v : Value) (ls : List Nms) : Prop := ∃ us, w.ownsRow base 24 1 v ls.length us ∧ ∀ (i : Nat) (l : Nms), ls[i]? = some l → ∃ u, us[i]? = some u ∧ SRow w Q u l
theorem LOwn.nil (w : World) (base : Nat) (Q : Nat → Prop) : LOwn w base Q (.slice none 0 0) [] := ⟨[], ⟨rfl, .inl ⟨rfl, rfl⟩⟩, fun i l h => by simp at h⟩
theorem LOwn.lt {w : World} {base : Nat} {Q : Nat → Prop} {v : Value} {ls : List Nms} (h : LOwn w base Q v ls) : ∀ k, v.ownBlock = some k → base ≤ k ∧ k < w.heap.size := by
  obtain ⟨us, h1, _⟩ := h
  exact World.ownsRow.lt h1
theorem row_at {W W' : World} {base : Nat} {e : TypeId} {n : Nat} {v : Value} {us : List Value} (h : W.ownsRow base e 1 v n us) (hb : ∀ k, v.ownBlock = some k → W'.heap[k]? = W.heap[k]?) : W'.ownsRow base e 1 v n us := by
  obtain ⟨h1, h2⟩ := h
  refine ⟨h1, ?_⟩
  rcases h2 with h2 | ⟨g, cap, cur, e, h3, h4, h5⟩
  · exact .inl h2
  · exact .inr ⟨g, cap, cur, e, h3, (hb g (by rw [e]; rfl)).trans h4, h5⟩
theorem LOwn.keep {w w' : World} {base : Nat} {Q : Nat → Prop} {v : Value} {ls : List Nms} (h : LOwn w base Q v ls) (hb : ∀ k, v.ownBlock = some k → w'.heap[k]? = w.heap[k]?) (hk : ∀ b, Q b → b < w.heap.size → w'.heap[b]? = w.heap[b]?) (hs : w.heap.size ≤ w'.heap.size) : LOwn w' base Q v ls := by
  obtain ⟨us, h1, h2⟩ := h
  refine ⟨us, row_at h1 hb, fun i l hi => ?_⟩
  obtain ⟨u, h3, h4⟩ := h2 i l hi
  exact ⟨u, h3, h4.keep hk hs⟩
theorem LOwn.below {w w' : World} {base : Nat} {Q : Nat → Prop} {v : Value} {ls : List Nms} (h : LOwn w base Q v ls) (hb : Below w.heap.size w w') : LOwn w' base Q v ls := h.keep (fun k hk => hb.block k (h.lt k hk).2) (fun b _ z => hb.block b z) hb.size
theorem LOwn.len {w : World} {base : Nat} {Q : Nat → Prop} {v : Value} {ls : List Nms} (h : LOwn w base Q v ls) : ∃ b c, v = .slice b ls.length c := by
  obtain ⟨us, ⟨_, h2⟩, _⟩ := h
  rcases h2 with ⟨e, h3⟩ | ⟨g, cap, cur, e, _⟩
  · exact ⟨none, 0, by rw [e, h3]⟩
  · exact ⟨_, _, e⟩
theorem LOwn.lrow {w : World} {base : Nat} {Q Q' : Nat → Prop} {v : Value} {ls : List Nms} (h : LOwn w base Q v ls) (hq : ∀ b, b < w.heap.size → Q b → Q' b) (ho : ∀ b, base ≤ b → v.ownBlock = some b → Q' b) : LRow w Q' v ls := by
  obtain ⟨us, h1, h2⟩ := h
  have h0 := h1
  obtain ⟨_, h3⟩ := h1
  rcases h3 with ⟨e, h4⟩ | ⟨g, cap, cur, e, h3, h4, h5⟩
  · exact ⟨none, 0, by rw [e, h4], fun hne => absurd (List.length_eq_zero_iff.1 h4) hne⟩
  · refine ⟨some ⟨g, 0, none⟩, cap, e, fun _ => ⟨g, 0, rfl, ho g h3 (by rw [e]; rfl), (Array.getElem?_eq_some_iff.1 h4).1, fun i l hi => ?_, h5.1⟩⟩
    obtain ⟨u, h6, h7⟩ := h2 i l hi
    refine ⟨u, ?_, h7.mono hq⟩
    have := World.ownsRow.cells h0 (g := g) (by rw [e]; rfl) i u h6
    by_cases hz : i = 0
    · subst hz; simpa [Addr.add] using this
    · simpa [Addr.add, hz] using this
theorem wpList_append_lst {ops : Array Oper} {rest : List Oper} {o : Oper} {a : Act} {w : World} {Q : Exit → Act → World → Prop} (hgd : o.guard = none) (s x : Operand)
    (ho : o.op = .call { callee := .builtin .append, args := #[s, x], argTypes := #[31, 31] }) (base : Nat) (R : Nat → Prop) (v : Value) (ls : List Nms) (hs : a.eval s = v) (hown : LOwn w base R v ls)
    (b c : Nat) (lb : Option Addr) (lc : Nat) (l : Nms) (hx : a.eval x = .slice (some ⟨b, 0, none⟩) 1 c) (hc : w.heap[b]? = some (.cells #[.slice lb l.length lc] 24)) (hr : SRow w R (.slice lb l.length lc) l) (hR : ∀ k, R k → v.ownBlock ≠ some k) (hl : ls.length + 1 ≤ 1099511627776) (hbase : base ≤ w.heap.size) (H : Nat) (hH : w.heap.size = H)
    (h : ∀ g cap w', LOwn w' base R (.slice (some ⟨g, 0, none⟩) (ls.length + 1) cap) (ls ++ [l]) → w.grownBy w' v.ownBlock → (v.ownBlock = some g ∨ g = H) → wpList Try.prog ops Q rest (a.put o.dst (.slice (some ⟨g, 0, none⟩) (ls.length + 1) cap)) w') : wpList Try.prog ops Q (o :: rest) a w := by
  obtain ⟨i, hi, hz0, hz1, hz2⟩ := info_parts infoStrs
  obtain ⟨us, h1, h2⟩ := hown
  have hus : us.length = ls.length := by have := h1.1; omega
  refine wpList_append_lies w hgd s x 31 ho base 24 i _ 1 24 Try.underlying31 hi hz0 hz1 hz2 rfl (by omega) v ls.length us hs h1 ⟨b, 0, none⟩ 1 c [.slice lb l.length lc] hx rfl (new_one hc) (by simp [Value.oneCell']) (by omega) (by unfold maxLen; omega) (by omega) hbase H hH ?_
  intro g cap w' h3 h4 h5 _
  refine h g cap w' ⟨us ++ [.slice lb l.length lc], by rw [List.length_append]; exact h3, fun j l' hj => ?_⟩ h4 h5
  have hk : ∀ q, R q → q < w.heap.size → w'.heap[q]? = w.heap[q]? := fun q hq hz => h4.block q hz fun e => hR q hq e.symm
  by_cases hlt : j < ls.length
  · rw [List.getElem?_append_left hlt] at hj
    obtain ⟨u, h6, h7⟩ := h2 j l' hj
    exact ⟨u, by rw [List.getElem?_append_left (by omega)]; exact h6, h7.keep hk h4.size⟩
  · have hj2 := (List.getElem?_eq_some_iff.1 hj).1
    simp at hj2
    have : j = ls.length := by omega
    subst this
    simp at hj
    subst hj
    exact ⟨_, by rw [← hus]; simp, hr.keep hk h4.size⟩
/-- Counts in a map. -/
def CntF (W : World) (bm : Nat) (c : ByteArray → Nat) : Prop := ∃ f, MapF W bm f ∧ ∀ s, (f s).getD (.int .i64 0) = .int .i64 (c s : Int)
theorem CntF.keep {W W' : World} {bm : Nat} {c : ByteArray → Nat} (h : CntF W bm c) (hb : W'.heap[bm]? = W.heap[bm]?) : CntF W' bm c := by
  obtain ⟨f, h1, h2⟩ := h
  exact ⟨f, h1.keep hb, h2⟩
theorem CntF.lt {W : World} {bm : Nat} {c : ByteArray → Nat} (h : CntF W bm c) : bm < W.heap.size := h.choose_spec.1.lt
theorem CntF.ext {W : World} {bm : Nat} {c c' : ByteArray → Nat} (h : CntF W bm c) (he : ∀ s, c s = c' s) : CntF W bm c' := by
  obtain ⟨f, h1, h2⟩ := h
  exact ⟨f, h1, fun s => by rw [h2 s, he s]⟩
theorem CntF.look {W : World} {bm : Nat} {c : ByteArray → Nat} (h : CntF W bm c) (s : ByteArray) :
    (Instr.lookup 96 (.map (some bm)) (.string s) false).run Try.prog W = .ok (.int .i64 (c s : Int)) W := by
  obtain ⟨f, h1, h2⟩ := h
  rw [h1.look Try.underlying96 Try.underlying9 (zero_int W) s, h2 s]
theorem CntF.upd {W : World} {bm : Nat} {c : ByteArray → Nat} (h : CntF W bm c) (s : ByteArray) (n : Nat) :
    ∃ o, ∀ W' : World, W'.heap[bm]? = W.heap[bm]? → (Instr.mapUpdate 96 (.map (some bm)) (.string s) (.int .i64 (n : Int))).run Try.prog W' = .ok () (W'.putObj bm o) ∧ CntF (W'.putObj bm o) bm (fun t => if s = t then n else c t) := by
  obtain ⟨f, h1, h2⟩ := h
  obtain ⟨o, ho⟩ := h1.upd Try.underlying96 Try.underlying9 s (.int .i64 (n : Int))
  refine ⟨o, fun W' hb => ⟨(ho W' hb).1, _, (ho W' hb).2, fun t => ?_⟩⟩
  by_cases e : s = t
  · simp [e]
  · simp only [if_neg e]; exact h2 t
end Go.Proofs.Ytolopideimnbgaa
