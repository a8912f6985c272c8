/-
  Ranges over the functions that yield lists: what a body owes; a drawn region in a round; an append in a round.
-/
import Derived.Test.YtolopideimnbgaaHJ
import Derived.Test.YtolopideimnbgaaRN
import Derived.OwnWalkIn
import Derived.TacticsInMore
import Derived.LoopNIn
import Derived.LoopIn
namespace Go.Proofs.Ytolopideimnbgaa
open Go.RowKit

/-- What a body keeps: Q are the blocks that it may write. -/
structure Kp (Q Q' : Nat → Prop) (w w' : World) : Prop where
  keep : Keep Q w w'
  more : ∀ b, Q' b → Q b ∨ w.heap.size ≤ b
theorem Kp.refl (Q : Nat → Prop) (w : World) : Kp Q Q w w := ⟨Keep.refl _ _, fun _ h => .inl h⟩
/-- What the body's invariant owes: kb is the one old block that the iterator may turn. -/
structure BOk (kb : Nat) (J : (Nat → Prop) → List Nms → World → Prop) : Prop where
  step : ∀ Q pre w w', J Q pre w → Keep (fun b => b = kb) w w' → J Q pre w'
  blocks : ∀ Q pre w, J Q pre w → (∀ b, Q b → b < w.heap.size) ∧ ¬ Q kb
/-- What a round leaves. -/
def RPost (J : (Nat → Prop) → List Nms → World → Prop) (Q : Nat → Prop) (pre : List Nms) (w : World) (e : Ending) (w' : World) : Prop :=
  e = .returned (.bool true) ∧ ∃ Q', J Q' pre w' ∧ Kp Q Q' w w'
/-- What the yield of a body does. -/
def YOk (kb lp : Nat) (J : (Nat → Prop) → List Nms → World → Prop) (LL : List Nms) : Prop :=
  ∀ n Q pre l u w, pre ++ [l] <+: LL → J Q pre w → SRow w (fun b => ¬ Q b ∧ b ≠ kb) u l → YieldAt Fence.wide n Try.prog lp #[u] w (RPost J Q (pre ++ [l]) w)

section
variable {P : Program} {w : World} {n l : Nat}
theorem region_any_round {F : Fence} {id : Nat} {Q : Exit → Act → World → Prop} {a : Act} {w : World} {lo : List Oper} (hro : F.round = none) (hm : P.follows .mixedOrders = true) (hd : lo.all notDefer = true)
    (h : wpAnyIn F n P .any lo.toArray Q lo.length (Array.replicate lo.length false) a w.drew) : (Code.region id lo.toArray true).wpIn (F.inRound l) n P Q a w := by
  have hd' : ∀ o ∈ lo.toArray, notDefer o = true := fun o ho => List.all_eq_true.1 hd o (by simpa using ho)
  refine wpIn_region_draw fun t => ?_
  simp only [Region.schedule, hm, Bool.true_or, if_true]
  exact wpOpsIn_round hro hd' _ _ _ (wpAnyIn_sound _ t _ a _ (by simpa using h))
theorem stepIn_append_lies {F : Fence} {ops : Array Oper} {o : Oper} {a : Act} {K : Act → World → Prop} {Q : Exit → Act → World → Prop} {E : Prop} (hro : F.round = none)
    (hg : o.guard = none) (s x : Operand) (t : TypeId) (hop : o.op = Op.call { callee := Callee.builtin Builtin.append, args := #[s, x], argTypes := #[t, t] })
    (base : Nat) (e : TypeId) (i : TypeInfo) (z : Value) (size bytes : Nat) (h1 : P.underlying t = some (.slice e)) (h2 : P.info? e = some i) (h3 : i.zero = some z) (h4 : i.size = size) (h5 : i.bytes = bytes) (h6 : z.cells.size = size) (h7 : 0 < size)
    (v : Value) (k : Nat) (xs : List Value) (hs : a.eval s = v) (hown : w.ownsRow base e size v k xs) (ad : Addr) (m c : Nat) (news : List Value) (hx : a.eval x = .slice (some ad) m c) (hn : news.length = m * size)
    (hc : ∀ j u, news[j]? = some u → w.cell? (ad.add j) = some u) (h1c : ∀ u ∈ news, u.oneCell' = true) (hm : 0 < m) (b1 : k + m ≤ maxLen) (b2 : (k + m) * bytes ≤ 140737488355328) (b3 : base ≤ w.heap.size) (H : Nat) (hH : w.heap.size = H)
    (hK : ∀ g cap w', w'.ownsRow base e size (.slice (some ⟨g, 0, none⟩) (k + m) cap) (k + m) (xs ++ news) → w.grownBy w' v.ownBlock → (v.ownBlock = some g ∨ g = H) → g < w'.heap.size → K (a.put o.dst (.slice (some ⟨g, 0, none⟩) (k + m) cap)) w') :
    if Region.wanted o (yielded ops a.tmps) = true then Oper.wpIn F n P o a w K Q else E := by
  rw [if_pos (by simp [Region.wanted, hg])]
  obtain ⟨g, cap, w', hrun, r1, r2, r3, r4⟩ := run_append_lies (P := P) w t o.type base e i z size bytes h1 h2 h3 h4 h5 h6 h7 v k xs hown ad m c news hn hc h1c hm b1 b2 b3 H hH
  unfold Oper.wpIn
  refine ⟨?_, ?_⟩
  · simp [Oper.about, hop, resolve, Target.leads, Sem.run_pure]
  · rw [hro, Oper.semAt_none]
    simp [execOp, hop, resolve, invoke, builtin, hs, hx, hrun, Result.andThen]
    exact hK _ _ _ r1 r2 r3 r4
end
/-- The append of a list in a drawn region of a round. -/
theorem stepIn_append_lst {n : Nat} {ops : Array Oper} {o : Oper} {a : Act} {w : World} {K : Act → World → Prop} {Q : Exit → Act → World → Prop} {E : Prop} (hgd : o.guard = none) (s x : Operand)
    (ho : o.op = .call { callee := .builtin .append, args := #[s, x], argTypes := #[31, 31] }) (base : Nat) (R : Nat → Prop) (v : Value) (ls : List Nms) (hs : a.eval s = v) (hown : LOwn w base R v ls)
    (b c : Nat) (lb : Option Addr) (lc : Nat) (l : Nms) (hx : a.eval x = .slice (some ⟨b, 0, none⟩) 1 c) (hc : w.heap[b]? = some (.cells #[.slice lb l.length lc] 24)) (hr : SRow w R (.slice lb l.length lc) l) (hR : ∀ k, R k → v.ownBlock ≠ some k) (hl : ls.length + 1 ≤ 1099511627776) (hbase : base ≤ w.heap.size) (H : Nat) (hH : w.heap.size = H)
    (h : ∀ g cap w', LOwn w' base R (.slice (some ⟨g, 0, none⟩) (ls.length + 1) cap) (ls ++ [l]) → w.grownBy w' v.ownBlock → (v.ownBlock = some g ∨ g = H) → K (a.put o.dst (.slice (some ⟨g, 0, none⟩) (ls.length + 1) cap)) w') :
    if Region.wanted o (yielded ops a.tmps) = true then Oper.wpIn Fence.wide n Try.prog o a w K Q else E := by
  obtain ⟨i, hi, hz0, hz1, hz2⟩ := info_parts infoStrs
  obtain ⟨us, h1, h2⟩ := hown
  have hus : us.length = ls.length := by have := h1.1; omega
  refine stepIn_append_lies rfl hgd s x 31 ho base 24 i _ 1 24 Try.underlying31 hi hz0 hz1 hz2 rfl (by omega) v ls.length us hs h1 ⟨b, 0, none⟩ 1 c [.slice lb l.length lc] hx rfl (new_one hc) (by simp [Value.oneCell']) (by omega) (by unfold maxLen; omega) (by omega) hbase H hH ?_
  intro g cap w' h3 h4 h5 _
  refine h g cap w' ⟨us ++ [.slice lb l.length lc], by rw [List.length_append]; exact h3, fun j l' hj => ?_⟩ h4 h5
  have hk : ∀ q, R q → q < w.heap.size → w'.heap[q]? = w.heap[q]? := fun q hq hz => h4.block q hz fun e => hR q hq e.symm
  by_cases hlt : j < ls.length
  · rw [List.getElem?_append_left hlt] at hj
    obtain ⟨u, h6, h7⟩ := h2 j l' hj
    exact ⟨u, by rw [List.getElem?_append_left (by omega)]; exact h6, h7.keep hk h4.size⟩
  · have hj2 := (List.getElem?_eq_some_iff.1 hj).1
    simp at hj2
    have : j = ls.length := by omega
    subst this
    simp at hj
    subst hj
    exact ⟨_, by rw [← hus]; simp, hr.keep hk h4.size⟩
end Go.Proofs.Ytolopideimnbgaa
