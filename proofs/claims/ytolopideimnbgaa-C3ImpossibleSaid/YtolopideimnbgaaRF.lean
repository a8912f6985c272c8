/-
  A range over a function whose rounds all go on, and which may panic between two rounds: the statement and a round, over any program.
-/
import Derived.RangeFuncNested
import Derived.RangeFuncBound
import Derived.RangeFuncCalls
import Derived.RangeFuncLeaves
namespace Go.Proofs.Ytolopideimnbgaa
open Go.RowKit

theorem range_own {F : Fence} {n : Nat} {P : Program} {g : Operand} {ps : Array Tmp} {assign body : Code} {Q : Exit → Act → World → Prop} {a : Act} {w : World}
    (hro : F.round = none) (h1 : 1 ≤ n) {gf : Nat} {lb : Array Value} (hg : a.eval g = .func (.func gf) #[] lb) (hFg : F.fn gf) (eg : ∀ args w, (callFunc gf args).run P w = .ok (.enter gf args) w)
    (H : ∀ (fn : FuncId) (R : Loop), F.fn fn → R = { state := .ready, pending := none, fn, tmps := a.tmps, params := ps, assign, body, defers := w.heap.size } →
      CallsIn F (n - 1) P gf (#[.func (.yield (w.heap.size + 1)) #[] #[]] ++ lb) ((w.alloc (.deferred (some []))).alloc (.loop R))
        (rangePost F n P (w.heap.size + 1) Q { a with defers := [{ target := .collected w.heap.size, args := #[] }] ++ a.defers })) :
    (Code.rangeFunc g ps assign body).wpIn F n P Q a w := by
  refine wpIn_rangeFunc ?_
  intro fn hfn
  rw [hro]
  obtain ⟨R, hR⟩ : ∃ R : Loop, R = { state := .ready, pending := none, fn, tmps := a.tmps, params := ps, assign, body, defers := w.heap.size } := ⟨_, rfl⟩
  have HH := H fn R hfn hR
  clear H
  obtain ⟨W1, hW1⟩ : ∃ W1, (w.alloc (.deferred (some []))).alloc (.loop R) = W1 := ⟨_, rfl⟩
  rw [hW1] at HH
  refine ⟨w.heap.size + 1, [{ target := .collected w.heap.size, args := #[] }], W1, { target := .fn (.func gf) lb, args := #[.func (.yield (w.heap.size + 1)) #[] #[]] }, W1, gf,
    #[.func (.yield (w.heap.size + 1)) #[] #[]] ++ lb, W1, ?_, ?_, ?_, ?_, fun _ => h1, ?_⟩
  · rw [← hW1, hR]; exact run_enterLoop_outer _ _ _ _ _
  · clear HH; simp only [resolve, hg]
    simp [go_sem]
  · clear HH; intro f' hf'; simp [Target.leads] at hf'; subst hf'; exact hFg
  · clear HH; simp [invoke, go_sem, eg]
  · exact HH

theorem yield_own {F : Fence} {m : Nat} {P : Program} {l : Nat} {R Rb : Loop} (hRb : Rb = { R with state := .busy }) {args : Array Value} {W : World} {S : Ending → World → Prop}
    (hF : F.fn R.fn) (hl : W.heap[l]? = some (.loop R)) (hst : R.state = .ready) (hpe : R.pending = none) (hs : args.size = R.params.size)
    (h : R.assign.wpIn (F.inRound l) m P (Exit.then (fun a₁ w₁ => w₁.heap[l]? = some (.loop R) ∧
        R.body.wpIn (F.inRound l) m P (fun e _ W3 => e = .normal ∧ W3.heap[l]? = some (.loop Rb) ∧ S (.returned (.bool true)) (W3.putObj l (.loop R))) a₁ (w₁.putObj l (.loop Rb))) (fun _ _ _ => False))
      { tmps := (R.params.zip args).foldl (fun tmps (t, a) => tmps.setIfInBounds t a) R.tmps, defers := [] } W) :
    YieldAt F m P l args W S := by
  subst hRb
  refine ⟨R.fn, _, R.assign, R.body, run_yield hl hs, roundIn_of_wpIn hF (wpIn_mono h ?_)⟩
  intro e a₁ w₁ hq
  cases e with
  | normal =>
    obtain ⟨hl1, hb⟩ := hq
    refine ⟨_, run_beginRound hl1 hst, wpIn_mono hb ?_⟩
    rintro e3 a3 W3 ⟨rfl, hl3, hS⟩
    have hr := run_endRound (P := P) none hl3
    refine ⟨_, _, hr, ?_⟩
    have e1 : ({ ({ R with state := .busy } : Loop) with state := if (none : Option Code).isNone then .ready else .done, pending := none } : Loop) = R := by
      cases R; simp_all
    simp only [] at e1
    rw [e1]
    exact hS
  | ret => exact hq.elim
  | exit id => exact hq.elim
  | goto t => exact hq.elim
  | panic ch => exact hq.elim
  | outgrown => exact hq.elim
end Go.Proofs.Ytolopideimnbgaa
