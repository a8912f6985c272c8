/-
  The reader of fragments does not look at places and marks.
  What is read is no longer than the tokens.
  Equality of fragments, by the reference.
  Equality of fragments, by the reference, of any depth.
-/
import Derived.Test.YtcokdapnafgnpaaGreatDoorFG1
import Derived.Test.YtcokdapnafgnpaaGreatDoorFGC
import Derived.Test.YtcokdapnafgnpaaGreatDoorFG2
import Derived.Test.YtcokdapnafgnpaaGreatDoorXY
namespace Go.Proofs.YtcokdapnafgnpaaGreatDoor
section

mutual
/-- Equal but for places and marks, or wholly. -/
def sameF (lo : Bool) : Fg → Fg → Bool
  | .mk t o ks, y => (decide (t.1 = y.tok.1) && (decide (t.2.1 = y.tok.2.1) && (decide (t.2.2.1 = y.tok.2.2.1) && (lo || (decide (t.2.2.2.1 = y.tok.2.2.2.1) && decide (t.2.2.2.2 = y.tok.2.2.2.2)))))) && (decide (o = y.opn) && sameL lo ks y.kids)
def sameL (lo : Bool) : List Fg → List Fg → Bool
  | [], [] => true
  | x :: r, y :: s => sameF lo x y && sameL lo r s
  | [], _ :: _ => false
  | _ :: _, [] => false
end
mutual
theorem sameF_eq : ∀ (x y : Fg), sameF false x y = true ↔ x = y
  | .mk t o ks, .mk t' o' ks' => by
    have ih := sameL_eq ks ks'
    obtain ⟨k, n, s, a, m⟩ := t
    obtain ⟨k', n', s', a', m'⟩ := t'
    unfold sameF
    simp only [Bool.and_eq_true, decide_eq_true_eq, Bool.false_or]
    simp only [Fg.tok, Fg.opn, Fg.kids, ih, Fg.mk.injEq, Prod.mk.injEq]
theorem sameL_eq : ∀ (a b : List Fg), sameL false a b = true ↔ a = b
  | [], [] => by unfold sameL; simp
  | [], y :: s => by unfold sameL; simp
  | x :: r, [] => by unfold sameL; simp
  | x :: r, y :: s => by
    have h1 := sameF_eq x y
    have h2 := sameL_eq r s
    unfold sameL
    simp only [Bool.and_eq_true, h1, h2, List.cons.injEq]
end
theorem sameL_len {lo : Bool} : ∀ {a b : List Fg}, sameL lo a b = true → a.length = b.length
  | [], [], _ => rfl
  | [], _ :: _, h => by unfold sameL at h; cases h
  | _ :: _, [], h => by unfold sameL at h; cases h
  | x :: r, y :: s, h => by
    unfold sameL at h
    rw [Bool.and_eq_true] at h
    rw [List.length_cons, List.length_cons, sameL_len h.2]
theorem sameL_at {lo : Bool} {a b : List Fg} {k : Nat} {x y : Fg} (hx : a[k]? = some x) (hy : b[k]? = some y) : sameL lo (a.drop k) (b.drop k) = (sameF lo x y && sameL lo (a.drop (k + 1)) (b.drop (k + 1))) := by
  obtain ⟨h1, rfl⟩ := List.getElem?_eq_some_iff.1 hx
  obtain ⟨h2, rfl⟩ := List.getElem?_eq_some_iff.1 hy
  rw [List.drop_eq_getElem_cons h1, List.drop_eq_getElem_cons h2]
  conv => lhs; unfold sameL
end

section
open Go.RowKit

theorem FgsLe.append {B : Nat} : ∀ {a b : List Fg}, FgsLe B a → FgsLe B b → FgsLe B (a ++ b)
  | [], b, _, hb => hb
  | x :: r, b, ha, hb => by
    rw [List.cons_append]
    unfold FgsLe at ha ⊢
    exact ⟨ha.1, ha.2.append hb⟩
theorem FgsLe.one {B : Nat} {x : Fg} (h : FgLe B x) : FgsLe B [x] := by
  unfold FgsLe
  exact ⟨h, by unfold FgsLe; trivial⟩
theorem FgsLe.none (B : Nat) : FgsLe B [] := by unfold FgsLe; trivial
def GpLe (B : Nat) (g : Gp) : Prop := g.kids.length ≤ B ∧ FgsLe B g.kids
def StLe (B : Nat) (s : RS) : Prop := (∀ g ∈ s.pre, GpLe B g) ∧ GpLe B s.top
theorem GpLe.up {B B' : Nat} (hb : B ≤ B') {g : Gp} (h : GpLe B g) : GpLe B' g := ⟨Nat.le_trans h.1 hb, fgsLe_up hb h.2⟩
theorem GpLe.add {B : Nat} {g : Gp} {f : Fg} (h : GpLe B g) (hf : FgLe B f) : GpLe (B + 1) (g.add f) :=
  ⟨by have := h.1; simp only [Gp.add, List.length_append, List.length_cons, List.length_nil]; omega, (fgsLe_up (by omega) h.2).append (.one (fgLe_mono (by omega) hf))⟩
theorem step_le {ok : Tkn → Bool} {ws : List ByteArray} {l : List Tkn} {i B : Nat} {t : Tkn} {s s' : RS} (hr : StLe B s) (h : stepM ok ws l i t s = .ok s') : StLe (B + 1) s' := by
  unfold stepM at h
  split at h
  · split at h
    · cases h
      exact ⟨fun g hg => (hr.1 g hg).up (by omega), hr.2.up (by omega)⟩
    · split at h
      · cases h
      · cases h
        refine ⟨fun g hg => ?_, by simp, .none _⟩
        rcases List.mem_append.1 hg with hg | hg
        · exact (hr.1 g hg).up (by omega)
        · rw [List.mem_singleton.1 hg]; exact hr.2.up (by omega)
    · split at h
      · cases h
      · cases h
        unfold clsM
        cases hp : s.pre.getLast? with
        | none => exact ⟨fun g hg => (hr.1 g hg).up (by omega), hr.2.up (by omega)⟩
        | some g =>
          have hgm : g ∈ s.pre := List.mem_of_getLast? hp
          refine ⟨fun x hx => (hr.1 x ((List.dropLast_sublist _).subset hx)).up (by omega), (hr.1 g hgm).add ?_⟩
          unfold Gp.fg FgLe
          exact hr.2
    · cases h
      refine ⟨fun g hg => (hr.1 g hg).up (by omega), hr.2.add ?_⟩
      unfold FgLe
      exact ⟨by simp, .none _⟩
  · cases h
theorem run_le {ok : Tkn → Bool} {ws : List ByteArray} {l : List Tkn} : ∀ (r : List Tkn) (i B : Nat) (s : RS) (L : List Fg), StLe B s → runM ok ws l r i s = .ok L → L.length ≤ B + r.length ∧ FgsLe (B + r.length) L
  | [], i, B, s, L, hs, h => by
    unfold runM at h
    split at h
    · cases h; exact hs.2
    · cases h
  | t :: r, i, B, s, L, hs, h => by
    unfold runM at h
    split at h
    · cases h
    · rename_i s' hs'
      have := run_le r (i + 1) (B + 1) s' L (step_le hs hs') h
      rw [List.length_cons]
      have e : B + (r.length + 1) = B + 1 + r.length := by omega
      rw [e]; exact this
theorem read_le {ok : Tkn → Bool} {plain : ByteArray → Bool} {l : List Tkn} {ws : List ByteArray} {L : List Fg} (h : readM ok plain l ws = .ok L) : L.length ≤ 140737488351232 ∧ FgsLe 140737488351232 L := by
  unfold readM at h
  split at h
  · split at h
    · cases h
    · have := run_le l 0 0 rs0 L ⟨(fun g hg => by cases hg), by simp [rs0], .none _⟩ h
      exact ⟨by omega, fgsLe_up (by omega) this.2⟩
  · cases h
/-- What Read returns, in one form. -/
def outM (r : Except (Nat × Nat) (List Fg)) : List Fg × Nat × Nat := match r with
  | .ok L => (L, 0, 0)
  | .error p => ([], p.1, p.2)
theorem ReadPost.out {l : List Tkn} {ws : List ByteArray} {W w' : World} {e : Ending} (h : ReadPost l ws W e w') : Below W.heap.size W w' ∧
    ∃ b cap, e = .returned (.tuple #[.slice b (outM (readM tokOk isPlainB l ws)).1.length cap, .int .i64 ((outM (readM tokOk isPlainB l ws)).2.1 : Int), .int .i64 ((outM (readM tokOk isPlainB l ws)).2.2 : Int)]) ∧
      FVal w' (fun g => W.heap.size ≤ g) (.slice b (outM (readM tokOk isPlainB l ws)).1.length cap) (outM (readM tokOk isPlainB l ws)).1 := by
  obtain ⟨hb, ⟨a, c, h1, h2⟩ | ⟨L, b, cap, h1, h2, h3⟩⟩ := h
  · rw [h1]
    exact ⟨hb, none, 0, h2, FVal.nil _ _ _ _⟩
  · rw [h1]
    exact ⟨hb, b, cap, h2, h3⟩
/-- The tokens with other places and marks. -/
def markT (mk : Nat) (i : Nat) (t : Tkn) : Tkn := if 0 ≤ t.2.2.2.1 ∧ 0 ≤ t.2.2.2.2 then (t.1, t.2.1, t.2.2.1, (i : Int), (mk : Int)) else t
structure MkRow (mk : Nat) (l : List Tkn) (k : Nat) (M : List Tkn) : Prop where
  len : M.length = k
  at' : ∀ i x, i < k → l[i]? = some x → M[i]? = some (markT mk i x)
theorem MkRow.nil (mk : Nat) (l : List Tkn) : MkRow mk l 0 [] := ⟨rfl, fun i x h => absurd h (by omega)⟩
end

section
open Go.RowKit
end

section
open Go.RowKit

theorem kids_lt {x : Fg} {a : List Fg} (h : x ∈ a) : SizeOf.sizeOf x.kids < SizeOf.sizeOf a := by
  have h1 := List.sizeOf_lt_of_mem h
  obtain ⟨t, o, ks⟩ := x
  simp only [Fg.kids]
  simp only [Fg.mk.sizeOf_spec] at h1
  omega
theorem FgsLe.mem {B : Nat} {l : List Fg} (h : FgsLe B l) {x : Fg} (hx : x ∈ l) : x.kids.length ≤ B ∧ FgsLe B x.kids := by
  obtain ⟨k, hk⟩ := List.mem_iff_getElem?.1 hx
  exact h.get hk
end

end Go.Proofs.YtcokdapnafgnpaaGreatDoor
