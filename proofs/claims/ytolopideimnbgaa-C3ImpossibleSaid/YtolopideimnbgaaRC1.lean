/-
  A round of a range over a function that goes on or is broken off: the statement and a round, over any program.
-/
import Derived.Test.YtolopideimnbgaaRF
namespace Go.Proofs.Ytolopideimnbgaa
open Go.RowKit

/-- The record of a range that is broken off. -/
def doneL (R : Loop) (id : Nat) : Loop := { R with state := .done, pending := some (.exit id) }
theorem yield_own2 {F : Fence} {m : Nat} {P : Program} {l : Nat} {R Rb : Loop} (hRb : Rb = { R with state := .busy }) {args : Array Value} {W : World} {S : Ending → World → Prop}
    (hF : F.fn R.fn) (hl : W.heap[l]? = some (.loop R)) (hst : R.state = .ready) (hpe : R.pending = none) (hs : args.size = R.params.size)
    (h : R.assign.wpIn (F.inRound l) m P (Exit.then (fun a₁ w₁ => w₁.heap[l]? = some (.loop R) ∧
        R.body.wpIn (F.inRound l) m P (fun e _ W3 => W3.heap[l]? = some (.loop Rb) ∧ ((e = .normal ∧ S (.returned (.bool true)) (W3.putObj l (.loop R))) ∨
          (∃ id, e = .exit id ∧ S (.returned (.bool false)) (W3.putObj l (.loop (doneL R id)))))) a₁ (w₁.putObj l (.loop Rb))) (fun _ _ _ => False))
      { tmps := (R.params.zip args).foldl (fun tmps (t, a) => tmps.setIfInBounds t a) R.tmps, defers := [] } W) :
    YieldAt F m P l args W S := by
  subst hRb
  refine ⟨R.fn, _, R.assign, R.body, run_yield hl hs, roundIn_of_wpIn hF (wpIn_mono h ?_)⟩
  intro e a₁ w₁ hq
  cases e with
  | normal =>
    obtain ⟨hl1, hb⟩ := hq
    refine ⟨_, run_beginRound hl1 hst, wpIn_mono hb ?_⟩
    rintro e3 a3 W3 ⟨hl3, (⟨rfl, hS⟩ | ⟨id, rfl, hS⟩)⟩
    · have hr := run_endRound (P := P) none hl3
      refine ⟨_, _, hr, ?_⟩
      have e1 : ({ ({ R with state := .busy } : Loop) with state := if (none : Option Code).isNone then .ready else .done, pending := none } : Loop) = R := by
        cases R; simp_all
      simp only [] at e1
      rw [e1]
      exact hS
    · have hr := run_endRound (P := P) (some (.exit id)) hl3
      exact ⟨_, _, hr, hS⟩
  | ret => exact hq.elim
  | exit id => exact hq.elim
  | goto t => exact hq.elim
  | panic ch => exact hq.elim
  | outgrown => exact hq.elim
end Go.Proofs.Ytolopideimnbgaa
