/-
  The example, and what the models say of it.
-/
import Derived.Test.YtolopideimnbgaaJA
namespace Go.Proofs.Ytolopideimnbgaa
open Go.RowKit

abbrev nO : ByteArray := ⟨#[111]⟩
abbrev nA : ByteArray := ⟨#[97]⟩
abbrev nB : ByteArray := ⟨#[98]⟩
abbrev nC : ByteArray := ⟨#[99]⟩
abbrev nD : ByteArray := ⟨#[100]⟩
abbrev nE : ByteArray := ⟨#[101]⟩
abbrev nX : ByteArray := ⟨#[120]⟩
abbrev nY : ByteArray := ⟨#[121]⟩
def exG : List Hr := [(nO, []), (nA, [nO]), (nB, [nO]), (nC, [nA, nB]), (nD, [nB, nA]), (nE, [nC, nD]), (nX, [nO]), (nY, [nA, nX])]
def okIs (r : Except Int Nms) (l : Nms) : Bool := match r with
  | .ok m => decide (m = l)
  | .error _ => false
def errIs (r : Except Int Nms) (c : Int) : Bool := match r with
  | .ok _ => false
  | .error d => decide (d = c)
theorem of_okIs {r : Except Int Nms} {l : Nms} (h : okIs r l = true) : r = .ok l := by
  cases r with
  | ok m => exact congrArg _ (of_decide_eq_true h)
  | error d => cases h
theorem of_errIs {r : Except Int Nms} {c : Int} (h : errIs r c = true) : r = .error c := by
  cases r with
  | ok m => cases h
  | error d => exact congrArg _ (of_decide_eq_true h)
theorem ex_anc : ancestorsM exG nY = .ok [nO, nA, nX, nY] := of_okIs (by kernel_rfl)
theorem ex_merge : mergeTop [[nA, nO], [nB, nO], [nA, nB]] = some [nA, nB, nO] := by kernel_rfl
theorem ex_linc : linearizeM exG nC = .ok [nC, nA, nB, nO] := of_okIs (by kernel_rfl)
theorem ex_line : linearizeM exG nE = .error 71 := of_errIs (by kernel_rfl)
theorem ex_cyc : cycleM exG nE = .ok [nA, nB] := of_okIs (by kernel_rfl)
def allErr (r : Except (Nat × Int) (List Nms)) (c : Nat × Int) : Bool := match r with
  | .ok _ => false
  | .error d => decide (d = c)
theorem of_allErr {r : Except (Nat × Int) (List Nms)} {c : Nat × Int} (h : allErr r c = true) : r = .error c := by
  cases r with
  | ok m => cases h
  | error d => exact congrArg _ (of_decide_eq_true h)
theorem ex_all : allM exG = .error (5, 71) := of_allErr (by kernel_rfl)
theorem ex_prec : precedesM exG nC nA nB = (true, 0) := by kernel_rfl
theorem SRow.of_cells {w : World} {g : Nat} {t : TypeId} {l : Nms} (h : w.heap[g]? = some (.cells (l.map Value.string).toArray t)) : SRow w (fun b => b = g) (.slice (some ⟨g, 0, none⟩) l.length l.length) l :=
  ⟨_, _, rfl, fun _ => ⟨g, 0, rfl, rfl, (Array.getElem?_eq_some_iff.1 h).1, fun i x hi => by rw [cellOf h, Nat.zero_add]; simp [hi], Nat.le_refl _⟩⟩
def HCl (w : World) (Q : Nat → Prop) : List Value → List Hr → Prop
  | n :: s :: r, x :: l => n = .string x.1 ∧ SRow w Q s x.2 ∧ HCl w Q r l
  | [], [] => True
  | _, _ => False
theorem HCl.at {w : World} {Q : Nat → Prop} : ∀ (cs : List Value) (l : List Hr), HCl w Q cs l → ∀ (i : Nat) (x : Hr), l[i]? = some x → cs[i * 2]? = some (.string x.1) ∧ ∃ sv, cs[i * 2 + 1]? = some sv ∧ SRow w Q sv x.2
  | n :: s :: r, y :: l, h, 0, x, hi => by
    cases hi
    obtain ⟨rfl, h2, _⟩ := h
    exact ⟨rfl, s, rfl, h2⟩
  | n :: s :: r, y :: l, h, i + 1, x, hi => by
    obtain ⟨_, _, h3⟩ := h
    obtain ⟨e1, sv, e2, e3⟩ := HCl.at r l h3 i x (by simpa using hi)
    refine ⟨?_, sv, ?_, e3⟩
    · rw [show (i + 1) * 2 = i * 2 + 1 + 1 by omega]; simpa using e1
    · rw [show (i + 1) * 2 + 1 = i * 2 + 1 + 1 + 1 by omega]; simpa using e2
  | [], [], _, i, x, hi => by simp at hi
  | [], _ :: _, h, _, _, _ => h.elim
  | [_], [], h, _, _, _ => h.elim
  | [_], _ :: _, h, _, _, _ => h.elim
  | _ :: _ :: _, [], h, _, _, _ => h.elim
theorem HRow.of_cells {w : World} {Q : Nat → Prop} {g : Nat} {t : TypeId} {cs : List Value} {l : List Hr} (h : w.heap[g]? = some (.cells cs.toArray t)) (hq : Q g) (hc : HCl w Q cs l) : HRow w Q (.slice (some ⟨g, 0, none⟩) l.length l.length) l :=
  ⟨_, _, rfl, fun _ => ⟨g, 0, rfl, hq, (Array.getElem?_eq_some_iff.1 h).1, fun i x hi => by
    obtain ⟨e1, sv, e2, e3⟩ := hc.at _ _ i x hi
    exact ⟨by rw [cellOf h, Nat.zero_add]; simpa using e1, sv, by rw [cellOf h, Nat.zero_add]; simpa using e2, e3⟩, Nat.le_refl _⟩⟩
theorem new_at {w : World} {o : Obj} {b : Nat} (h : w.heap.size = b) : (w.alloc o).heap[b]? = some o := h ▸ heap_alloc_new w o
set_option maxHeartbeats 2000000 in
theorem example_any (W : World) : Calls Try.prog 44 #[] W fun e w' => ∃ v, e = .returned v ∧ Below W.heap.size W w' ∧ HRow w' (fun b => W.heap.size ≤ b) v exG := by
  go_enter Try.func44, Try.ntmps44
  go_wp2_with fail
  refine bodyPost_ret (v := .slice (some ⟨W.heap.size + 1 + 1 + 1 + 1 + 1 + 1 + 1, 0, none⟩) 8 8) (by simp [results, Try.results44, go_sem]) rfl ⟨_, rfl, ?_, ?_⟩
  · repeat (first | exact Below.refl _ _ | refine Below.alloc ?_ (by first | exact Nat.le_refl _ | (simp only [World.size_alloc]; omega)) _)
  · refine HRow.of_cells (l := exG) (cs := [.string ⟨#[111]⟩, .slice none 0 0, .string ⟨#[97]⟩, .slice (some ⟨W.heap.size, 0, none⟩) 1 1, .string ⟨#[98]⟩, .slice (some ⟨W.heap.size + 1, 0, none⟩) 1 1, .string ⟨#[99]⟩, .slice (some ⟨W.heap.size + 1 + 1, 0, none⟩) 2 2, .string ⟨#[100]⟩, .slice (some ⟨W.heap.size + 1 + 1 + 1, 0, none⟩) 2 2, .string ⟨#[101]⟩, .slice (some ⟨W.heap.size + 1 + 1 + 1 + 1, 0, none⟩) 2 2, .string ⟨#[120]⟩, .slice (some ⟨W.heap.size + 1 + 1 + 1 + 1 + 1, 0, none⟩) 1 1, .string ⟨#[121]⟩, .slice (some ⟨W.heap.size + 1 + 1 + 1 + 1 + 1 + 1, 0, none⟩) 2 2]) (new_at (by simp only [World.size_alloc])) (by show _ ≤ _; omega) ?_
    refine ⟨rfl, SRow.nil _ _ _ _, rfl, ?_, rfl, ?_, rfl, ?_, rfl, ?_, rfl, ?_, rfl, ?_, rfl, ?_, trivial⟩
    · exact (SRow.of_cells (l := [nO]) (t := 9) (by repeat (first | (refine new_at ?_; first | with_reducible rfl | (simp only [World.size_alloc]; done)) | rw [Below.heap_alloc _ _ _ (by simp only [World.size_alloc]; omega)]))).mono fun b _ e => by omega
    · exact (SRow.of_cells (l := [nO]) (t := 9) (by repeat (first | (refine new_at ?_; first | with_reducible rfl | (simp only [World.size_alloc]; done)) | rw [Below.heap_alloc _ _ _ (by simp only [World.size_alloc]; omega)]))).mono fun b _ e => by omega
    · exact (SRow.of_cells (l := [nA, nB]) (t := 9) (by repeat (first | (refine new_at ?_; first | with_reducible rfl | (simp only [World.size_alloc]; done)) | rw [Below.heap_alloc _ _ _ (by simp only [World.size_alloc]; omega)]))).mono fun b _ e => by omega
    · exact (SRow.of_cells (l := [nB, nA]) (t := 9) (by repeat (first | (refine new_at ?_; first | with_reducible rfl | (simp only [World.size_alloc]; done)) | rw [Below.heap_alloc _ _ _ (by simp only [World.size_alloc]; omega)]))).mono fun b _ e => by omega
    · exact (SRow.of_cells (l := [nC, nD]) (t := 9) (by repeat (first | (refine new_at ?_; first | with_reducible rfl | (simp only [World.size_alloc]; done)) | rw [Below.heap_alloc _ _ _ (by simp only [World.size_alloc]; omega)]))).mono fun b _ e => by omega
    · exact (SRow.of_cells (l := [nO]) (t := 9) (by repeat (first | (refine new_at ?_; first | with_reducible rfl | (simp only [World.size_alloc]; done)) | rw [Below.heap_alloc _ _ _ (by simp only [World.size_alloc]; omega)]))).mono fun b _ e => by omega
    · exact (SRow.of_cells (l := [nA, nX]) (t := 9) (by repeat (first | (refine new_at ?_; first | with_reducible rfl | (simp only [World.size_alloc]; done)) | rw [Below.heap_alloc _ _ _ (by simp only [World.size_alloc]; omega)]))).mono fun b _ e => by omega
end Go.Proofs.Ytolopideimnbgaa
