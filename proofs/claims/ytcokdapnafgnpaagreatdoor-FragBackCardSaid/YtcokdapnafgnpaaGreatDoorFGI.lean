/-
  The reader of fragments does not look at places and marks.
  What is read is no longer than the tokens.
  Equality of fragments, by the reference.
  Equality of fragments, by the reference, of any depth.
-/
import Derived.Test.YtcokdapnafgnpaaGreatDoorFG1
import Derived.Test.YtcokdapnafgnpaaGreatDoorFGC
import Derived.Test.YtcokdapnafgnpaaGreatDoorFG2
import Derived.Test.YtcokdapnafgnpaaGreatDoorXY
namespace Go.Proofs.YtcokdapnafgnpaaGreatDoor
section

def erT (t : Tkn) : Tkn := (t.1, t.2.1, t.2.2.1, 0, 0)
mutual
def erF : Fg → Fg
  | .mk t o ks => .mk (erT t) o (erL ks)
def erL : List Fg → List Fg
  | [] => []
  | x :: r => erF x :: erL r
end
theorem erL_nil : erL [] = [] := by unfold erL; rfl
theorem erL_cons (x : Fg) (r : List Fg) : erL (x :: r) = erF x :: erL r := by rw [erL]
theorem erL_append : ∀ (a b : List Fg), erL (a ++ b) = erL a ++ erL b
  | [], b => by rw [List.nil_append, erL_nil, List.nil_append]
  | x :: r, b => by rw [List.cons_append, erL_cons, erL_append r b, erL_cons, List.cons_append]
def erG (g : Gp) : Gp := ⟨erT g.tok, g.opn, erL g.kids, g.pl⟩
def erS (s : RS) : RS := ⟨s.pre.map erG, erG s.top, s.beh⟩
theorem erG_fg (g : Gp) : (erG g).fg = erF g.fg := by unfold Gp.fg erG erF; rfl
theorem erG_add (g : Gp) (f : Fg) : (erG g).add (erF f) = erG (g.add f) := by
  unfold Gp.add erG
  have : erL (g.kids ++ [f]) = erL g.kids ++ [erF f] := by
    rw [erL_append, erL_cons, erL_nil]
  simp only [this]
theorem isName_er (l : List Tkn) (i : Nat) (s : ByteArray) : isNameM (l.map erT) i s = isNameM l i s := by
  unfold isNameM
  rw [List.getElem?_map]
  cases l[i]? <;> rfl
theorem isStop_er (l : List Tkn) (i : Nat) : isStopM (l.map erT) i = isStopM l i := by
  unfold isStopM
  rw [List.getElem?_map]
  cases l[i]? <;> rfl
theorem nameOf_er (k : List Fg) : nameOfM (erL k) = nameOfM k := by
  rcases k with _ | ⟨⟨t, o, ks⟩, r⟩
  · unfold erL; rfl
  · unfold erL erF nameOfM Fg.opn Fg.tok erT; rfl
theorem skipW_er (l : List Tkn) (i : Nat) (o : ByteArray) : skipW (l.map erT) i o = skipW l i o := by unfold skipW; rw [isName_er]
theorem skipN_er (l : List Tkn) (i : Nat) (k : List Fg) : skipN (l.map erT) i (erL k) = skipN l i k := by
  unfold skipN
  rw [nameOf_er]
  split
  · rw [isName_er]
  · rfl
theorem behind_er (l : List Tkn) (i : Nat) (g : Gp) (b : Nat) : behindM (l.map erT) i (erG g) b = behindM l i g b := by
  unfold behindM
  show (if isStopM (l.map erT) (skipN (l.map erT) (skipW (l.map erT) (i + 1) g.opn) (erL g.kids)) then skipN (l.map erT) (skipW (l.map erT) (i + 1) g.opn) (erL g.kids) else b) = _
  rw [skipW_er, skipN_er, isStop_er]
theorem opens_er (ws : List ByteArray) (l : List Tkn) (i : Nat) (t : Tkn) (g : Gp) : opensM ws (l.map erT) i (erT t) (erG g) = opensM ws l i t g := by
  unfold opensM
  rw [isName_er]
  rfl
theorem act_er (ws : List ByteArray) (l : List Tkn) (i : Nat) (t : Tkn) (s : RS) : actM ws (l.map erT) i (erT t) (erS s) = actM ws l i t s := by
  unfold actM
  show (if i < s.beh then _ else if opensM ws (l.map erT) i (erT t) (erG s.top) then _ else if t.2.2.1 ∈ closers then _ else _) = _
  rw [opens_er]
theorem cls_er (l : List Tkn) (i : Nat) (s : RS) : clsM (l.map erT) i (erS s) = erS (clsM l i s) := by
  unfold clsM
  show (match (s.pre.map erG).getLast? with
    | none => erS s
    | some g => ⟨(s.pre.map erG).dropLast, g.add (erG s.top).fg, if isNamed s.top.opn then behindM (l.map erT) i (erG s.top) s.beh else s.beh⟩) = _
  rw [List.getLast?_map, behind_er]
  cases s.pre.getLast? with
  | none => rfl
  | some g =>
    show RS.mk _ _ _ = erS (RS.mk _ _ _)
    unfold erS
    rw [erG_fg, List.map_dropLast]
    show RS.mk _ ((erG g).add (erF s.top.fg)) _ = _
    rw [erG_add]
theorem step_er (ok : Tkn → Bool) (ws : List ByteArray) (l : List Tkn) (i : Nat) (t : Tkn) (s : RS) (h : ok t = true) : stepM (fun _ => true) ws (l.map erT) i (erT t) (erS s) = (stepM ok ws l i t s).map erS := by
  unfold stepM
  rw [if_pos rfl, if_pos h, act_er, cls_er]
  cases actM ws l i t s with
  | skip => rfl
  | opn =>
    show (if 100 < (s.pre.map erG).length + 1 then _ else _) = _
    rw [List.length_map]
    by_cases hd : 100 < s.pre.length + 1
    · rw [if_pos hd]
      simp only [hd, if_true]
      rfl
    · rw [if_neg hd]
      simp only [hd, if_false]
      show Except.ok (RS.mk (s.pre.map erG ++ [erG s.top]) ⟨erT t, t.2.2.1, [], i⟩ s.beh) = Except.ok (RS.mk _ _ _)
      rw [List.map_append]
      unfold erG
      rfl
  | cls =>
    show (if s.top.opn = sNo ∨ closingM s.top.opn ≠ t.2.2.1 then _ else _) = _
    by_cases hd : s.top.opn = sNo ∨ closingM s.top.opn ≠ t.2.2.1
    · simp only [hd, if_true]
      rfl
    · simp only [hd, if_false]
      rfl
  | put =>
    show Except.ok (RS.mk (s.pre.map erG) ((erG s.top).add (.mk (erT t) sNo [])) s.beh) = Except.ok (RS.mk _ _ _)
    rw [← erG_add]
    rfl
theorem run_er (ok : Tkn → Bool) (ws : List ByteArray) {l l' : List Tkn} (he : l.map erT = l'.map erT) : ∀ (r r' : List Tkn) (i : Nat) (s s' : RS), r.map erT = r'.map erT → r.map ok = r'.map ok → erS s = erS s' →
    (runM ok ws l r i s).map erL = (runM ok ws l' r' i s').map erL
  | [], [], i, s, s', _, _, hs => by
    have h1 : s.pre.map erG = s'.pre.map erG := congrArg RS.pre hs
    have h2 : erG s.top = erG s'.top := congrArg RS.top hs
    have h3 : s.pre = [] ↔ s'.pre = [] := by
      constructor
      · intro e; rw [e] at h1; exact List.map_eq_nil_iff.1 h1.symm
      · intro e; rw [e] at h1; exact List.map_eq_nil_iff.1 h1
    have h4' := congrArg (fun g : Gp => g.pl) h2
    have h5' := congrArg (fun g : Gp => g.kids) h2
    have h4 : s.top.pl = s'.top.pl := h4'
    have h5 : erL s.top.kids = erL s'.top.kids := h5'

    unfold runM
    by_cases hp : s.pre = []
    · rw [if_pos hp, if_pos (h3.1 hp)]
      show Except.ok _ = Except.ok _
      rw [h5]
    · rw [if_neg hp, if_neg (fun h => hp (h3.2 h)), h4]
  | [], _ :: _, _, _, _, h, _, _ => by cases h
  | _ :: _, [], _, _, _, h, _, _ => by cases h
  | t :: r, t' :: r', i, s, s', h, hk, hs => by
    rw [List.map_cons, List.map_cons, List.cons.injEq] at h hk
    have ht : stepM ok ws l i t s = stepM ok ws l i t s := rfl
    by_cases hok : ok t = true
    · have hok' : ok t' = true := by rw [← hk.1]; exact hok
      have e1 := step_er ok ws l i t s hok
      have e2 := step_er ok ws l' i t' s' hok'
      rw [he, h.1, hs] at e1
      have e3 := e1.symm.trans e2
      unfold runM
      cases h1 : stepM ok ws l i t s with
      | error p =>
        cases h2 : stepM ok ws l' i t' s' with
        | error p' => rw [h1, h2] at e3; exact congrArg _ (by cases e3; rfl)
        | ok u => rw [h1, h2] at e3; cases e3
      | ok u =>
        cases h2 : stepM ok ws l' i t' s' with
        | error p' => rw [h1, h2] at e3; cases e3
        | ok u' =>
          rw [h1, h2] at e3
          exact run_er ok ws he r r' (i + 1) u u' h.2 hk.2 (Except.ok.inj e3)
    · have hok' : ¬ ok t' = true := by rw [← hk.1]; exact hok
      unfold runM stepM
      rw [if_neg hok, if_neg hok']
/-- MARKS, of the models. -/
theorem read_marks {ok : Tkn → Bool} {plain : ByteArray → Bool} {l l' : List Tkn} {ws : List ByteArray} (he : l.map erT = l'.map erT) (hk : l.map ok = l'.map ok) :
    (readM ok plain l ws).map erL = (readM ok plain l' ws).map erL := by
  have hl : l.length = l'.length := by have := congrArg List.length he; simpa using this
  unfold readM
  rw [hl]
  split
  · split
    · rfl
    · exact run_er ok ws he l l' 0 rs0 rs0 he hk rfl
  · rfl
mutual
/-- Equal but for places and marks, or wholly. -/
def sameF (lo : Bool) : Fg → Fg → Bool
  | .mk t o ks, y => (decide (t.1 = y.tok.1) && (decide (t.2.1 = y.tok.2.1) && (decide (t.2.2.1 = y.tok.2.2.1) && (lo || (decide (t.2.2.2.1 = y.tok.2.2.2.1) && decide (t.2.2.2.2 = y.tok.2.2.2.2)))))) && (decide (o = y.opn) && sameL lo ks y.kids)
def sameL (lo : Bool) : List Fg → List Fg → Bool
  | [], [] => true
  | x :: r, y :: s => sameF lo x y && sameL lo r s
  | [], _ :: _ => false
  | _ :: _, [] => false
end
mutual
theorem sameF_er : ∀ (x y : Fg), sameF true x y = true ↔ erF x = erF y
  | .mk t o ks, .mk t' o' ks' => by
    have ih := sameL_er ks ks'
    unfold sameF erF
    simp only [Bool.and_eq_true, decide_eq_true_eq, Bool.true_or, and_true]
    simp only [Fg.tok, Fg.opn, Fg.kids, and_true, ih, Fg.mk.injEq, erT, Prod.mk.injEq]
theorem sameL_er : ∀ (a b : List Fg), sameL true a b = true ↔ erL a = erL b
  | [], [] => by unfold sameL erL; simp
  | [], y :: s => by unfold sameL erL; simp
  | x :: r, [] => by unfold sameL erL; simp
  | x :: r, y :: s => by
    have h1 := sameF_er x y
    have h2 := sameL_er r s
    unfold sameL erL
    simp only [Bool.and_eq_true, h1, h2, List.cons.injEq]
end
mutual
theorem sameF_eq : ∀ (x y : Fg), sameF false x y = true ↔ x = y
  | .mk t o ks, .mk t' o' ks' => by
    have ih := sameL_eq ks ks'
    obtain ⟨k, n, s, a, m⟩ := t
    obtain ⟨k', n', s', a', m'⟩ := t'
    unfold sameF
    simp only [Bool.and_eq_true, decide_eq_true_eq, Bool.false_or]
    simp only [Fg.tok, Fg.opn, Fg.kids, ih, Fg.mk.injEq, Prod.mk.injEq]
theorem sameL_eq : ∀ (a b : List Fg), sameL false a b = true ↔ a = b
  | [], [] => by unfold sameL; simp
  | [], y :: s => by unfold sameL; simp
  | x :: r, [] => by unfold sameL; simp
  | x :: r, y :: s => by
    have h1 := sameF_eq x y
    have h2 := sameL_eq r s
    unfold sameL
    simp only [Bool.and_eq_true, h1, h2, List.cons.injEq]
end
theorem sameL_len {lo : Bool} : ∀ {a b : List Fg}, sameL lo a b = true → a.length = b.length
  | [], [], _ => rfl
  | [], _ :: _, h => by unfold sameL at h; cases h
  | _ :: _, [], h => by unfold sameL at h; cases h
  | x :: r, y :: s, h => by
    unfold sameL at h
    rw [Bool.and_eq_true] at h
    rw [List.length_cons, List.length_cons, sameL_len h.2]
theorem sameL_at {lo : Bool} {a b : List Fg} {k : Nat} {x y : Fg} (hx : a[k]? = some x) (hy : b[k]? = some y) : sameL lo (a.drop k) (b.drop k) = (sameF lo x y && sameL lo (a.drop (k + 1)) (b.drop (k + 1))) := by
  obtain ⟨h1, rfl⟩ := List.getElem?_eq_some_iff.1 hx
  obtain ⟨h2, rfl⟩ := List.getElem?_eq_some_iff.1 hy
  rw [List.drop_eq_getElem_cons h1, List.drop_eq_getElem_cons h2]
  conv => lhs; unfold sameL
end

section
open Go.RowKit

theorem FgsLe.append {B : Nat} : ∀ {a b : List Fg}, FgsLe B a → FgsLe B b → FgsLe B (a ++ b)
  | [], b, _, hb => hb
  | x :: r, b, ha, hb => by
    rw [List.cons_append]
    unfold FgsLe at ha ⊢
    exact ⟨ha.1, ha.2.append hb⟩
theorem FgsLe.one {B : Nat} {x : Fg} (h : FgLe B x) : FgsLe B [x] := by
  unfold FgsLe
  exact ⟨h, by unfold FgsLe; trivial⟩
theorem FgsLe.none (B : Nat) : FgsLe B [] := by unfold FgsLe; trivial
def GpLe (B : Nat) (g : Gp) : Prop := g.kids.length ≤ B ∧ FgsLe B g.kids
def StLe (B : Nat) (s : RS) : Prop := (∀ g ∈ s.pre, GpLe B g) ∧ GpLe B s.top
theorem GpLe.up {B B' : Nat} (hb : B ≤ B') {g : Gp} (h : GpLe B g) : GpLe B' g := ⟨Nat.le_trans h.1 hb, fgsLe_up hb h.2⟩
theorem GpLe.add {B : Nat} {g : Gp} {f : Fg} (h : GpLe B g) (hf : FgLe B f) : GpLe (B + 1) (g.add f) :=
  ⟨by have := h.1; simp only [Gp.add, List.length_append, List.length_cons, List.length_nil]; omega, (fgsLe_up (by omega) h.2).append (.one (fgLe_mono (by omega) hf))⟩
theorem step_le {ok : Tkn → Bool} {ws : List ByteArray} {l : List Tkn} {i B : Nat} {t : Tkn} {s s' : RS} (hr : StLe B s) (h : stepM ok ws l i t s = .ok s') : StLe (B + 1) s' := by
  unfold stepM at h
  split at h
  · split at h
    · cases h
      exact ⟨fun g hg => (hr.1 g hg).up (by omega), hr.2.up (by omega)⟩
    · split at h
      · cases h
      · cases h
        refine ⟨fun g hg => ?_, by simp, .none _⟩
        rcases List.mem_append.1 hg with hg | hg
        · exact (hr.1 g hg).up (by omega)
        · rw [List.mem_singleton.1 hg]; exact hr.2.up (by omega)
    · split at h
      · cases h
      · cases h
        unfold clsM
        cases hp : s.pre.getLast? with
        | none => exact ⟨fun g hg => (hr.1 g hg).up (by omega), hr.2.up (by omega)⟩
        | some g =>
          have hgm : g ∈ s.pre := List.mem_of_getLast? hp
          refine ⟨fun x hx => (hr.1 x ((List.dropLast_sublist _).subset hx)).up (by omega), (hr.1 g hgm).add ?_⟩
          unfold Gp.fg FgLe
          exact hr.2
    · cases h
      refine ⟨fun g hg => (hr.1 g hg).up (by omega), hr.2.add ?_⟩
      unfold FgLe
      exact ⟨by simp, .none _⟩
  · cases h
theorem run_le {ok : Tkn → Bool} {ws : List ByteArray} {l : List Tkn} : ∀ (r : List Tkn) (i B : Nat) (s : RS) (L : List Fg), StLe B s → runM ok ws l r i s = .ok L → L.length ≤ B + r.length ∧ FgsLe (B + r.length) L
  | [], i, B, s, L, hs, h => by
    unfold runM at h
    split at h
    · cases h; exact hs.2
    · cases h
  | t :: r, i, B, s, L, hs, h => by
    unfold runM at h
    split at h
    · cases h
    · rename_i s' hs'
      have := run_le r (i + 1) (B + 1) s' L (step_le hs hs') h
      rw [List.length_cons]
      have e : B + (r.length + 1) = B + 1 + r.length := by omega
      rw [e]; exact this
theorem read_le {ok : Tkn → Bool} {plain : ByteArray → Bool} {l : List Tkn} {ws : List ByteArray} {L : List Fg} (h : readM ok plain l ws = .ok L) : L.length ≤ 140737488351232 ∧ FgsLe 140737488351232 L := by
  unfold readM at h
  split at h
  · split at h
    · cases h
    · have := run_le l 0 0 rs0 L ⟨(fun g hg => by cases hg), by simp [rs0], .none _⟩ h
      exact ⟨by omega, fgsLe_up (by omega) this.2⟩
  · cases h
/-- What Read returns, in one form. -/
def outM (r : Except (Nat × Nat) (List Fg)) : List Fg × Nat × Nat := match r with
  | .ok L => (L, 0, 0)
  | .error p => ([], p.1, p.2)
theorem outM_le {ok : Tkn → Bool} {plain : ByteArray → Bool} {l : List Tkn} {ws : List ByteArray} : (outM (readM ok plain l ws)).1.length ≤ 140737488351232 ∧ FgsLe 140737488351232 (outM (readM ok plain l ws)).1 := by
  cases h : readM ok plain l ws with
  | ok L => exact read_le h
  | error p => exact ⟨by simp [outM], .none _⟩
theorem ReadPost.out {l : List Tkn} {ws : List ByteArray} {W w' : World} {e : Ending} (h : ReadPost l ws W e w') : Below W.heap.size W w' ∧
    ∃ b cap, e = .returned (.tuple #[.slice b (outM (readM tokOk isPlainB l ws)).1.length cap, .int .i64 ((outM (readM tokOk isPlainB l ws)).2.1 : Int), .int .i64 ((outM (readM tokOk isPlainB l ws)).2.2 : Int)]) ∧
      FVal w' (fun g => W.heap.size ≤ g) (.slice b (outM (readM tokOk isPlainB l ws)).1.length cap) (outM (readM tokOk isPlainB l ws)).1 := by
  obtain ⟨hb, ⟨a, c, h1, h2⟩ | ⟨L, b, cap, h1, h2, h3⟩⟩ := h
  · rw [h1]
    exact ⟨hb, none, 0, h2, FVal.nil _ _ _ _⟩
  · rw [h1]
    exact ⟨hb, b, cap, h2, h3⟩
theorem out_marks {ok : Tkn → Bool} {plain : ByteArray → Bool} {l l' : List Tkn} {ws : List ByteArray} (he : l.map erT = l'.map erT) (hk : l.map ok = l'.map ok) :
    (outM (readM ok plain l ws)).2 = (outM (readM ok plain l' ws)).2 ∧ sameL true (outM (readM ok plain l ws)).1 (outM (readM ok plain l' ws)).1 = true := by
  have h := read_marks (plain := plain) (ws := ws) he hk
  cases h1 : readM ok plain l ws with
  | ok L =>
    cases h2 : readM ok plain l' ws with
    | ok L' =>
      rw [h1, h2] at h
      exact ⟨rfl, (sameL_er _ _).2 (Except.ok.inj h)⟩
    | error p => rw [h1, h2] at h; cases h
  | error p =>
    cases h2 : readM ok plain l' ws with
    | ok L' => rw [h1, h2] at h; cases h
    | error p' =>
      rw [h1, h2] at h
      have : p = p' := Except.error.inj h
      subst this
      exact ⟨rfl, by unfold outM sameL; rfl⟩
/-- The tokens with other places and marks. -/
def markT (mk : Nat) (i : Nat) (t : Tkn) : Tkn := if 0 ≤ t.2.2.2.1 ∧ 0 ≤ t.2.2.2.2 then (t.1, t.2.1, t.2.2.1, (i : Int), (mk : Int)) else t
structure MkRow (mk : Nat) (l : List Tkn) (k : Nat) (M : List Tkn) : Prop where
  len : M.length = k
  at' : ∀ i x, i < k → l[i]? = some x → M[i]? = some (markT mk i x)
theorem MkRow.nil (mk : Nat) (l : List Tkn) : MkRow mk l 0 [] := ⟨rfl, fun i x h => absurd h (by omega)⟩
theorem MkRow.snoc {mk : Nat} {l : List Tkn} {k : Nat} {M : List Tkn} {x : Tkn} (h : MkRow mk l k M) (hx : l[k]? = some x) : MkRow mk l (k + 1) (M ++ [markT mk k x]) :=
  ⟨by rw [List.length_append, h.len]; rfl, fun i y hi hy => by
    by_cases e : i = k
    · subst e
      rw [hx] at hy
      cases hy
      rw [List.getElem?_append_right (by rw [h.len]; omega), h.len]
      simp
    · rw [List.getElem?_append_left (by rw [h.len]; omega)]
      exact h.at' i y (by omega) hy⟩
theorem erT_mark (mk i : Nat) (t : Tkn) : erT (markT mk i t) = erT t := by
  unfold markT
  split <;> rfl
theorem ok_mark (mk i : Nat) (t : Tkn) : tokOk (markT mk i t) = tokOk t := by
  unfold markT
  split
  · rename_i h
    unfold tokOk
    simp only [show ¬ ((i : Int) < 0) by omega, show ¬ ((mk : Int) < 0) by omega, show ¬ (t.2.2.2.1 < 0) by omega, show ¬ (t.2.2.2.2 < 0) by omega]
  · rfl
theorem MkRow.maps {mk : Nat} {l M : List Tkn} (h : MkRow mk l l.length M) {α : Type} (f : Tkn → α) (hf : ∀ i t, f (markT mk i t) = f t) : l.map f = M.map f := by
  refine List.ext_getElem? fun i => ?_
  rw [List.getElem?_map, List.getElem?_map]
  by_cases hi : i < l.length
  · rw [h.at' i l[i] hi (List.getElem?_eq_getElem hi), List.getElem?_eq_getElem hi]
    simp [hf]
  · rw [List.getElem?_eq_none (by omega), List.getElem?_eq_none (by rw [h.len]; omega)]
end

section
open Go.RowKit

def AlPost (r : Bool) (W : World) (e : Ending) (w' : World) : Prop := e = .returned (.bool r) ∧ Below W.heap.size W w'
def AlLoop (lo : Bool) (a b : List Fg) (W : World) (k : Nat) (wr : World) : Prop := k ≤ a.length ∧ sameL lo (a.drop k) (b.drop k) = sameL lo a b ∧ Below W.heap.size W wr
set_option maxRecDepth 100000 in
set_option maxHeartbeats 16000000 in
theorem alike_run (lo : Bool) (P P' : Nat → Prop) (a b : List Fg) (va vb : Value) (W : World) (hva : FVal W P va a) (hvb : FVal W P' vb b) (hl : a.length ≤ 140737488351232)
    (HC : ∀ (x : Fg), x ∈ a → ∀ (ks' : List Fg) (kv kv' : Value) (w : World), FVal w P kv x.kids → FVal w P' kv' ks' → Calls Tryz.prog 20 #[kv, kv', .bool lo] w (AlPost (sameL lo x.kids ks') w)) :
    Calls Tryz.prog 20 #[va, vb, .bool lo] W (AlPost (sameL lo a b) W) := by
  obtain ⟨ba, ca, rfl, ha⟩ := hva
  obtain ⟨bb, cb, rfl, hb⟩ := hvb
  have HCC := Lib.hid HC
  have HA := Lib.hid ha
  have HB := Lib.hid hb
  clear HC ha hb
  by_cases hlen : a.length = b.length
  rotate_left
  · have hs : sameL lo a b = false := by
      cases h : sameL lo a b with
      | false => rfl
      | true => exact absurd (sameL_len h) hlen
    rw [hs]
    obtain ⟨q1, q2⟩ := ne_int (show ¬ (a.length : Int) = (b.length : Int) by omega)
    clear hs hlen
    go_enter Tryz.func20, Tryz.ntmps20
    go_wp2_with fail
    exact bodyPost_ret (v := .bool false) (by simp [results, Tryz.results20, go_sem]) rfl ⟨rfl, Below.refl _ _⟩
  · obtain ⟨q1, q2⟩ := eq_int (show (a.length : Int) = (b.length : Int) by omega)
    go_enter Tryz.func20, Tryz.ntmps20
    go_wp2_with fail
    clear q1 q2
    go_loopw [7] (fun iv wr => ∃ k : Nat, iv = .int .i64 (k : Int) ∧ Hid (AlLoop lo a b W k wr)) (fun iv _ => a.length - (intOf iv).toNat)
    case atStart => exact ⟨0, rfl, Lib.hid ⟨by omega, by rw [List.drop_zero, List.drop_zero], Below.refl _ _⟩⟩
    case round =>
      obtain ⟨k, rfl, hr⟩ := hrel
      obtain ⟨hk, hres, hbe⟩ := hr.out
      have w3' : IntKind.i64.wrap ((k : Int) + 1) = (k : Int) + 1 := IntWalk.i64_in _ (by omega)
      by_cases hlt : k < a.length
      · obtain ⟨x, hx⟩ : ∃ x, a[k]? = some x := ⟨_, List.getElem?_eq_getElem hlt⟩
        obtain ⟨y, hy⟩ : ∃ y, b[k]? = some y := ⟨_, List.getElem?_eq_getElem (by omega)⟩
        obtain ⟨g, o, rfl, hp, hg, hrw⟩ := HA.out (by rintro rfl; simp at hlt)
        obtain ⟨g', o', rfl, hp', hg', hrw'⟩ := HB.out (by rintro rfl; simp at hy)
        obtain ⟨kv, hcell, ka, kc, rfl, hkr⟩ := (hrw.get hx).parts
        obtain ⟨kv', hcell', ka', kc', rfl, hkr'⟩ := (hrw'.get hy).parts
        rw [sameL_at hx hy] at hres
        have hc : ∀ w', Below W.heap.size W w' → ∀ j u, (fgV x (.slice ka x.kids.length kc))[j]? = some u → w'.cell? ⟨g, o + k * 7 + j, none⟩ = some u := fun w' hb j u hu => (hb.cell (p := ⟨g, o + k * 7 + j, none⟩) hg).trans (hcell j u hu)
        have hc' : ∀ w', Below W.heap.size W w' → ∀ j u, (fgV y (.slice ka' y.kids.length kc'))[j]? = some u → w'.cell? ⟨g', o' + k * 7 + j, none⟩ = some u := fun w' hb j u hu => (hb.cell (p := ⟨g', o' + k * 7 + j, none⟩) hg').trans (hcell' j u hu)
        have hlt' : (k : Int) < (a.length : Int) := by omega
        have hlt2 : (k : Int) < (b.length : Int) := by omega
        have HKV : Hid (FVal W P (.slice ka x.kids.length kc) x.kids) := Lib.hid ⟨_, _, rfl, hkr⟩
        have HKV' : Hid (FVal W P' (.slice ka' y.kids.length kc') y.kids) := Lib.hid ⟨_, _, rfl, hkr'⟩
        have HCK := Lib.hid (HCC.out x (List.mem_of_getElem? hx) y.kids (.slice ka x.kids.length kc) (.slice ka' y.kids.length kc'))
        clear hr hcell hcell' hrw hrw' hx hy hkr hkr'
        obtain ⟨⟨k0, n0, s0, a0, m0⟩, op, ks⟩ := x
        obtain ⟨⟨k1, n1, s1, a1, m1⟩, oq, kt⟩ := y
        have hsf : sameF lo (Fg.mk (k0, n0, s0, a0, m0) op ks) (Fg.mk (k1, n1, s1, a1, m1) oq kt) = ((decide (k0 = k1) && (decide (n0 = n1) && (decide (s0 = s1) && (lo || (decide (a0 = a1) && decide (m0 = m1)))))) && (decide (op = oq) && sameL lo ks kt)) := by
          unfold sameF; rfl
        rw [hsf] at hres
        simp only [Fg.kids] at HKV HKV' HCK
        have HBE := Lib.hid hbe
        have HH := Lib.hid hc
        have HH' := Lib.hid hc'
        have hcl := hc _ hbe
        have hcl' := hc' _ hbe
        have e0 : wr.cell? ⟨g, o + k * 7, none⟩ = some (.int .i64 k0) := hcl 0 _ rfl
        have e1 : wr.cell? ⟨g, o + k * 7 + 1, none⟩ = some (.int .i64 n0) := hcl 1 _ rfl
        have e2 : wr.cell? ⟨g, o + k * 7 + 2, none⟩ = some (.string s0) := hcl 2 _ rfl
        have e3 : wr.cell? ⟨g, o + k * 7 + 3, none⟩ = some (.int .i64 a0) := hcl 3 _ rfl
        have e4 : wr.cell? ⟨g, o + k * 7 + 4, none⟩ = some (.int .i64 m0) := hcl 4 _ rfl
        obtain ⟨WA, hWA⟩ : ∃ WA, WA = wr.alloc (.cells #[.int .i64 k0, .int .i64 n0, .string s0, .int .i64 a0, .int .i64 m0] 50) := ⟨_, rfl⟩
        have hbA : Below W.heap.size W WA := by rw [hWA]; exact hbe.alloc hbe.size _
        have hcm := hc' _ hbA
        have f0 : WA.cell? ⟨g', o' + k * 7, none⟩ = some (.int .i64 k1) := hcm 0 _ rfl
        have f1 : WA.cell? ⟨g', o' + k * 7 + 1, none⟩ = some (.int .i64 n1) := hcm 1 _ rfl
        have f2 : WA.cell? ⟨g', o' + k * 7 + 2, none⟩ = some (.string s1) := hcm 2 _ rfl
        have f3 : WA.cell? ⟨g', o' + k * 7 + 3, none⟩ = some (.int .i64 a1) := hcm 3 _ rfl
        have f4 : WA.cell? ⟨g', o' + k * 7 + 4, none⟩ = some (.int .i64 m1) := hcm 4 _ rfl
        rw [hWA] at f0 f1 f2 f3 f4
        have HB2 : Hid (Below W.heap.size W ((wr.alloc (.cells #[.int .i64 k0, .int .i64 n0, .string s0, .int .i64 a0, .int .i64 m0] 50)).alloc (.cells #[.int .i64 k1, .int .i64 n1, .string s1, .int .i64 a1, .int .i64 m1] 50))) := Lib.hid (by rw [← hWA]; exact hbA.alloc hbA.size _)
        clear hcl hcl' hcm hWA hbA hc hc' hbe WA
        by_cases h0 : k0 = k1
        rotate_left
        · obtain ⟨y1, y2⟩ := ne_int h0
          have HRES : Hid (sameL lo a b = false) := Lib.hid (by rw [← hres]; simp [h0])
          clear hres hsf h0
          go_wp2_with fail
          have d5 := fun x : BW ((wr.alloc (.cells #[.int .i64 k0, .int .i64 n0, .string s0, .int .i64 a0, .int .i64 m0] 50)).alloc (.cells #[.int .i64 k1, .int .i64 n1, .string s1, .int .i64 a1, .int .i64 m1] 50)) => HH.out x.val (HB2.out.trans (x.prop.mono HB2.out.size)) 5 (.string op) rfl
          have d6 := fun x : BW ((wr.alloc (.cells #[.int .i64 k0, .int .i64 n0, .string s0, .int .i64 a0, .int .i64 m0] 50)).alloc (.cells #[.int .i64 k1, .int .i64 n1, .string s1, .int .i64 a1, .int .i64 m1] 50)) => HH.out x.val (HB2.out.trans (x.prop.mono HB2.out.size)) 6 (.slice ka ks.length kc) rfl
          have b5 := fun x : BW ((wr.alloc (.cells #[.int .i64 k0, .int .i64 n0, .string s0, .int .i64 a0, .int .i64 m0] 50)).alloc (.cells #[.int .i64 k1, .int .i64 n1, .string s1, .int .i64 a1, .int .i64 m1] 50)) => HH'.out x.val (HB2.out.trans (x.prop.mono HB2.out.size)) 5 (.string oq) rfl
          have b6 := fun x : BW ((wr.alloc (.cells #[.int .i64 k0, .int .i64 n0, .string s0, .int .i64 a0, .int .i64 m0] 50)).alloc (.cells #[.int .i64 k1, .int .i64 n1, .string s1, .int .i64 a1, .int .i64 m1] 50)) => HH'.out x.val (HB2.out.trans (x.prop.mono HB2.out.size)) 6 (.slice ka' kt.length kc') rfl
          refine region_below (by kernel_rfl) (by kernel_rfl) ?_
          repeat (go_big_quiet_step (fail))
          refine wpQuiet_nil ?_
          rintro _ ⟨⟨w3, b3⟩, rfl⟩
          have B3 := Lib.hid (HB2.out.trans (b3.mono HB2.out.size))
          clear d5 d6 b5 b6 b3
          go_wp2_with fail
          exact bodyPost_ret (v := .bool false) (by simp [results, Tryz.results20, go_sem]) rfl ⟨by rw [HRES.out], B3.out⟩
        obtain ⟨y1, y2⟩ := eq_int h0
        by_cases h1 : n0 = n1
        rotate_left
        · obtain ⟨z1, z2⟩ := ne_int h1
          have HRES : Hid (sameL lo a b = false) := Lib.hid (by rw [← hres]; simp [h1])
          clear hres hsf h0 h1
          go_wp2_with fail
          have d5 := fun x : BW ((wr.alloc (.cells #[.int .i64 k0, .int .i64 n0, .string s0, .int .i64 a0, .int .i64 m0] 50)).alloc (.cells #[.int .i64 k1, .int .i64 n1, .string s1, .int .i64 a1, .int .i64 m1] 50)) => HH.out x.val (HB2.out.trans (x.prop.mono HB2.out.size)) 5 (.string op) rfl
          have d6 := fun x : BW ((wr.alloc (.cells #[.int .i64 k0, .int .i64 n0, .string s0, .int .i64 a0, .int .i64 m0] 50)).alloc (.cells #[.int .i64 k1, .int .i64 n1, .string s1, .int .i64 a1, .int .i64 m1] 50)) => HH.out x.val (HB2.out.trans (x.prop.mono HB2.out.size)) 6 (.slice ka ks.length kc) rfl
          have b5 := fun x : BW ((wr.alloc (.cells #[.int .i64 k0, .int .i64 n0, .string s0, .int .i64 a0, .int .i64 m0] 50)).alloc (.cells #[.int .i64 k1, .int .i64 n1, .string s1, .int .i64 a1, .int .i64 m1] 50)) => HH'.out x.val (HB2.out.trans (x.prop.mono HB2.out.size)) 5 (.string oq) rfl
          have b6 := fun x : BW ((wr.alloc (.cells #[.int .i64 k0, .int .i64 n0, .string s0, .int .i64 a0, .int .i64 m0] 50)).alloc (.cells #[.int .i64 k1, .int .i64 n1, .string s1, .int .i64 a1, .int .i64 m1] 50)) => HH'.out x.val (HB2.out.trans (x.prop.mono HB2.out.size)) 6 (.slice ka' kt.length kc') rfl
          refine region_below (by kernel_rfl) (by kernel_rfl) ?_
          repeat (go_big_quiet_step (fail))
          refine wpQuiet_nil ?_
          rintro _ ⟨⟨w3, b3⟩, rfl⟩
          have B3 := Lib.hid (HB2.out.trans (b3.mono HB2.out.size))
          clear d5 d6 b5 b6 b3
          go_wp2_with fail
          exact bodyPost_ret (v := .bool false) (by simp [results, Tryz.results20, go_sem]) rfl ⟨by rw [HRES.out], B3.out⟩
        obtain ⟨z1, z2⟩ := eq_int h1
        by_cases h2 : s0 = s1
        rotate_left
        · obtain ⟨u1, u2⟩ := str_ne h2
          have HRES : Hid (sameL lo a b = false) := Lib.hid (by rw [← hres]; simp [h2])
          clear hres hsf h0 h1 h2
          go_wp2_with fail
          have d5 := fun x : BW ((wr.alloc (.cells #[.int .i64 k0, .int .i64 n0, .string s0, .int .i64 a0, .int .i64 m0] 50)).alloc (.cells #[.int .i64 k1, .int .i64 n1, .string s1, .int .i64 a1, .int .i64 m1] 50)) => HH.out x.val (HB2.out.trans (x.prop.mono HB2.out.size)) 5 (.string op) rfl
          have d6 := fun x : BW ((wr.alloc (.cells #[.int .i64 k0, .int .i64 n0, .string s0, .int .i64 a0, .int .i64 m0] 50)).alloc (.cells #[.int .i64 k1, .int .i64 n1, .string s1, .int .i64 a1, .int .i64 m1] 50)) => HH.out x.val (HB2.out.trans (x.prop.mono HB2.out.size)) 6 (.slice ka ks.length kc) rfl
          have b5 := fun x : BW ((wr.alloc (.cells #[.int .i64 k0, .int .i64 n0, .string s0, .int .i64 a0, .int .i64 m0] 50)).alloc (.cells #[.int .i64 k1, .int .i64 n1, .string s1, .int .i64 a1, .int .i64 m1] 50)) => HH'.out x.val (HB2.out.trans (x.prop.mono HB2.out.size)) 5 (.string oq) rfl
          have b6 := fun x : BW ((wr.alloc (.cells #[.int .i64 k0, .int .i64 n0, .string s0, .int .i64 a0, .int .i64 m0] 50)).alloc (.cells #[.int .i64 k1, .int .i64 n1, .string s1, .int .i64 a1, .int .i64 m1] 50)) => HH'.out x.val (HB2.out.trans (x.prop.mono HB2.out.size)) 6 (.slice ka' kt.length kc') rfl
          refine region_below (by kernel_rfl) (by kernel_rfl) ?_
          repeat (go_big_quiet_step (fail))
          refine wpQuiet_nil ?_
          rintro _ ⟨⟨w3, b3⟩, rfl⟩
          have B3 := Lib.hid (HB2.out.trans (b3.mono HB2.out.size))
          clear d5 d6 b5 b6 b3
          go_wp2_with fail
          exact bodyPost_ret (v := .bool false) (by simp [results, Tryz.results20, go_sem]) rfl ⟨by rw [HRES.out], B3.out⟩
        obtain ⟨u1, u2⟩ := str_eq h2
        cases lo with
        | true =>
          by_cases h5 : op = oq
          rotate_left
          · obtain ⟨r1, r2⟩ := str_ne h5
            have HRES : Hid (sameL true a b = false) := Lib.hid (by rw [← hres]; simp [h5])
            clear hres hsf h5 h0 h1 h2
            go_wp2_with fail
            have d5 := fun x : BW ((wr.alloc (.cells #[.int .i64 k0, .int .i64 n0, .string s0, .int .i64 a0, .int .i64 m0] 50)).alloc (.cells #[.int .i64 k1, .int .i64 n1, .string s1, .int .i64 a1, .int .i64 m1] 50)) => HH.out x.val (HB2.out.trans (x.prop.mono HB2.out.size)) 5 (.string op) rfl
            have d6 := fun x : BW ((wr.alloc (.cells #[.int .i64 k0, .int .i64 n0, .string s0, .int .i64 a0, .int .i64 m0] 50)).alloc (.cells #[.int .i64 k1, .int .i64 n1, .string s1, .int .i64 a1, .int .i64 m1] 50)) => HH.out x.val (HB2.out.trans (x.prop.mono HB2.out.size)) 6 (.slice ka ks.length kc) rfl
            have b5 := fun x : BW ((wr.alloc (.cells #[.int .i64 k0, .int .i64 n0, .string s0, .int .i64 a0, .int .i64 m0] 50)).alloc (.cells #[.int .i64 k1, .int .i64 n1, .string s1, .int .i64 a1, .int .i64 m1] 50)) => HH'.out x.val (HB2.out.trans (x.prop.mono HB2.out.size)) 5 (.string oq) rfl
            have b6 := fun x : BW ((wr.alloc (.cells #[.int .i64 k0, .int .i64 n0, .string s0, .int .i64 a0, .int .i64 m0] 50)).alloc (.cells #[.int .i64 k1, .int .i64 n1, .string s1, .int .i64 a1, .int .i64 m1] 50)) => HH'.out x.val (HB2.out.trans (x.prop.mono HB2.out.size)) 6 (.slice ka' kt.length kc') rfl
            refine region_below (by kernel_rfl) (by kernel_rfl) ?_
            repeat (go_big_quiet_step (fail))
            refine wpQuiet_nil ?_
            rintro _ ⟨⟨w3, b3⟩, rfl⟩
            have B3 := Lib.hid (HB2.out.trans (b3.mono HB2.out.size))
            clear d5 d6 b5 b6 b3
            go_wp2_with fail
            exact bodyPost_ret (v := .bool false) (by simp [results, Tryz.results20, go_sem]) rfl ⟨by rw [HRES.out], B3.out⟩
          obtain ⟨r1, r2⟩ := str_eq h5
          have hre2 : (sameL true ks kt && sameL true (a.drop (k + 1)) (b.drop (k + 1))) = sameL true a b := by rw [← hres]; simp [h0, h1, h2, h5]
          clear hres hsf h5 h0 h1 h2
          generalize sameL true ks kt = rr at hre2 HCK
          have HRE := Lib.hid hre2
          clear hre2
          cases rr with
          | false =>
            have HRES : Hid (sameL true a b = false) := Lib.hid (by rw [← HRE.out]; rfl)
            go_wp2_with fail
            have d5 := fun x : BW ((wr.alloc (.cells #[.int .i64 k0, .int .i64 n0, .string s0, .int .i64 a0, .int .i64 m0] 50)).alloc (.cells #[.int .i64 k1, .int .i64 n1, .string s1, .int .i64 a1, .int .i64 m1] 50)) => HH.out x.val (HB2.out.trans (x.prop.mono HB2.out.size)) 5 (.string op) rfl
            have d6 := fun x : BW ((wr.alloc (.cells #[.int .i64 k0, .int .i64 n0, .string s0, .int .i64 a0, .int .i64 m0] 50)).alloc (.cells #[.int .i64 k1, .int .i64 n1, .string s1, .int .i64 a1, .int .i64 m1] 50)) => HH.out x.val (HB2.out.trans (x.prop.mono HB2.out.size)) 6 (.slice ka ks.length kc) rfl
            have b5 := fun x : BW ((wr.alloc (.cells #[.int .i64 k0, .int .i64 n0, .string s0, .int .i64 a0, .int .i64 m0] 50)).alloc (.cells #[.int .i64 k1, .int .i64 n1, .string s1, .int .i64 a1, .int .i64 m1] 50)) => HH'.out x.val (HB2.out.trans (x.prop.mono HB2.out.size)) 5 (.string oq) rfl
            have b6 := fun x : BW ((wr.alloc (.cells #[.int .i64 k0, .int .i64 n0, .string s0, .int .i64 a0, .int .i64 m0] 50)).alloc (.cells #[.int .i64 k1, .int .i64 n1, .string s1, .int .i64 a1, .int .i64 m1] 50)) => HH'.out x.val (HB2.out.trans (x.prop.mono HB2.out.size)) 6 (.slice ka' kt.length kc') rfl
            have HCX := Lib.hid (fun x : BW ((wr.alloc (.cells #[.int .i64 k0, .int .i64 n0, .string s0, .int .i64 a0, .int .i64 m0] 50)).alloc (.cells #[.int .i64 k1, .int .i64 n1, .string s1, .int .i64 a1, .int .i64 m1] 50)) => HCK.out x.val (HKV.out.below (HB2.out.trans (x.prop.mono HB2.out.size))) (HKV'.out.below (HB2.out.trans (x.prop.mono HB2.out.size))))
            refine region_below (by kernel_rfl) (by kernel_rfl) ?_
            repeat (go_big_quiet_step ((go_at_call 20; exact calls_bw (HCX.out _))))
            refine wpQuiet_nil ?_
            rintro _ ⟨⟨w3, b3⟩, rfl⟩
            have B3 := Lib.hid (HB2.out.trans (b3.mono HB2.out.size))
            clear d5 d6 b5 b6 b3
            go_wp2_with fail
            exact bodyPost_ret (v := .bool false) (by simp [results, Tryz.results20, go_sem]) rfl ⟨by rw [HRES.out], B3.out⟩
          | true =>
            go_wp2_with fail
            have d5 := fun x : BW ((wr.alloc (.cells #[.int .i64 k0, .int .i64 n0, .string s0, .int .i64 a0, .int .i64 m0] 50)).alloc (.cells #[.int .i64 k1, .int .i64 n1, .string s1, .int .i64 a1, .int .i64 m1] 50)) => HH.out x.val (HB2.out.trans (x.prop.mono HB2.out.size)) 5 (.string op) rfl
            have d6 := fun x : BW ((wr.alloc (.cells #[.int .i64 k0, .int .i64 n0, .string s0, .int .i64 a0, .int .i64 m0] 50)).alloc (.cells #[.int .i64 k1, .int .i64 n1, .string s1, .int .i64 a1, .int .i64 m1] 50)) => HH.out x.val (HB2.out.trans (x.prop.mono HB2.out.size)) 6 (.slice ka ks.length kc) rfl
            have b5 := fun x : BW ((wr.alloc (.cells #[.int .i64 k0, .int .i64 n0, .string s0, .int .i64 a0, .int .i64 m0] 50)).alloc (.cells #[.int .i64 k1, .int .i64 n1, .string s1, .int .i64 a1, .int .i64 m1] 50)) => HH'.out x.val (HB2.out.trans (x.prop.mono HB2.out.size)) 5 (.string oq) rfl
            have b6 := fun x : BW ((wr.alloc (.cells #[.int .i64 k0, .int .i64 n0, .string s0, .int .i64 a0, .int .i64 m0] 50)).alloc (.cells #[.int .i64 k1, .int .i64 n1, .string s1, .int .i64 a1, .int .i64 m1] 50)) => HH'.out x.val (HB2.out.trans (x.prop.mono HB2.out.size)) 6 (.slice ka' kt.length kc') rfl
            have HCX := Lib.hid (fun x : BW ((wr.alloc (.cells #[.int .i64 k0, .int .i64 n0, .string s0, .int .i64 a0, .int .i64 m0] 50)).alloc (.cells #[.int .i64 k1, .int .i64 n1, .string s1, .int .i64 a1, .int .i64 m1] 50)) => HCK.out x.val (HKV.out.below (HB2.out.trans (x.prop.mono HB2.out.size))) (HKV'.out.below (HB2.out.trans (x.prop.mono HB2.out.size))))
            refine region_below (by kernel_rfl) (by kernel_rfl) ?_
            repeat (go_big_quiet_step ((go_at_call 20; exact calls_bw (HCX.out _))))
            refine wpQuiet_nil ?_
            rintro _ ⟨⟨w3, b3⟩, rfl⟩
            have B3 := Lib.hid (HB2.out.trans (b3.mono HB2.out.size))
            clear d5 d6 b5 b6 b3
            go_wp2_with fail
            exact ⟨⟨k + 1, by simp, Lib.hid ⟨by omega, by rw [← HRE.out]; rfl, B3.out⟩⟩, by simp only [intOf]; omega⟩
        | false =>
          by_cases h3 : a0 = a1
          rotate_left
          · obtain ⟨p1, p2⟩ := ne_int h3
            have HRES : Hid (sameL false a b = false) := Lib.hid (by rw [← hres]; simp [h3])
            clear hres hsf h0 h1 h2 h3
            go_wp2_with fail
            have d5 := fun x : BW ((wr.alloc (.cells #[.int .i64 k0, .int .i64 n0, .string s0, .int .i64 a0, .int .i64 m0] 50)).alloc (.cells #[.int .i64 k1, .int .i64 n1, .string s1, .int .i64 a1, .int .i64 m1] 50)) => HH.out x.val (HB2.out.trans (x.prop.mono HB2.out.size)) 5 (.string op) rfl
            have d6 := fun x : BW ((wr.alloc (.cells #[.int .i64 k0, .int .i64 n0, .string s0, .int .i64 a0, .int .i64 m0] 50)).alloc (.cells #[.int .i64 k1, .int .i64 n1, .string s1, .int .i64 a1, .int .i64 m1] 50)) => HH.out x.val (HB2.out.trans (x.prop.mono HB2.out.size)) 6 (.slice ka ks.length kc) rfl
            have b5 := fun x : BW ((wr.alloc (.cells #[.int .i64 k0, .int .i64 n0, .string s0, .int .i64 a0, .int .i64 m0] 50)).alloc (.cells #[.int .i64 k1, .int .i64 n1, .string s1, .int .i64 a1, .int .i64 m1] 50)) => HH'.out x.val (HB2.out.trans (x.prop.mono HB2.out.size)) 5 (.string oq) rfl
            have b6 := fun x : BW ((wr.alloc (.cells #[.int .i64 k0, .int .i64 n0, .string s0, .int .i64 a0, .int .i64 m0] 50)).alloc (.cells #[.int .i64 k1, .int .i64 n1, .string s1, .int .i64 a1, .int .i64 m1] 50)) => HH'.out x.val (HB2.out.trans (x.prop.mono HB2.out.size)) 6 (.slice ka' kt.length kc') rfl
            refine region_below (by kernel_rfl) (by kernel_rfl) ?_
            repeat (go_big_quiet_step (fail))
            refine wpQuiet_nil ?_
            rintro _ ⟨⟨w3, b3⟩, rfl⟩
            have B3 := Lib.hid (HB2.out.trans (b3.mono HB2.out.size))
            clear d5 d6 b5 b6 b3
            go_wp2_with fail
            exact bodyPost_ret (v := .bool false) (by simp [results, Tryz.results20, go_sem]) rfl ⟨by rw [HRES.out], B3.out⟩
          obtain ⟨p1, p2⟩ := eq_int h3
          by_cases h4 : m0 = m1
          rotate_left
          · obtain ⟨v1, v2⟩ := ne_int h4
            have HRES : Hid (sameL false a b = false) := Lib.hid (by rw [← hres]; simp [h4])
            clear hres hsf h0 h1 h2 h3 h4
            go_wp2_with fail
            have d5 := fun x : BW ((wr.alloc (.cells #[.int .i64 k0, .int .i64 n0, .string s0, .int .i64 a0, .int .i64 m0] 50)).alloc (.cells #[.int .i64 k1, .int .i64 n1, .string s1, .int .i64 a1, .int .i64 m1] 50)) => HH.out x.val (HB2.out.trans (x.prop.mono HB2.out.size)) 5 (.string op) rfl
            have d6 := fun x : BW ((wr.alloc (.cells #[.int .i64 k0, .int .i64 n0, .string s0, .int .i64 a0, .int .i64 m0] 50)).alloc (.cells #[.int .i64 k1, .int .i64 n1, .string s1, .int .i64 a1, .int .i64 m1] 50)) => HH.out x.val (HB2.out.trans (x.prop.mono HB2.out.size)) 6 (.slice ka ks.length kc) rfl
            have b5 := fun x : BW ((wr.alloc (.cells #[.int .i64 k0, .int .i64 n0, .string s0, .int .i64 a0, .int .i64 m0] 50)).alloc (.cells #[.int .i64 k1, .int .i64 n1, .string s1, .int .i64 a1, .int .i64 m1] 50)) => HH'.out x.val (HB2.out.trans (x.prop.mono HB2.out.size)) 5 (.string oq) rfl
            have b6 := fun x : BW ((wr.alloc (.cells #[.int .i64 k0, .int .i64 n0, .string s0, .int .i64 a0, .int .i64 m0] 50)).alloc (.cells #[.int .i64 k1, .int .i64 n1, .string s1, .int .i64 a1, .int .i64 m1] 50)) => HH'.out x.val (HB2.out.trans (x.prop.mono HB2.out.size)) 6 (.slice ka' kt.length kc') rfl
            refine region_below (by kernel_rfl) (by kernel_rfl) ?_
            repeat (go_big_quiet_step (fail))
            refine wpQuiet_nil ?_
            rintro _ ⟨⟨w3, b3⟩, rfl⟩
            have B3 := Lib.hid (HB2.out.trans (b3.mono HB2.out.size))
            clear d5 d6 b5 b6 b3
            go_wp2_with fail
            exact bodyPost_ret (v := .bool false) (by simp [results, Tryz.results20, go_sem]) rfl ⟨by rw [HRES.out], B3.out⟩
          obtain ⟨v1, v2⟩ := eq_int h4
          by_cases h5 : op = oq
          rotate_left
          · obtain ⟨r1, r2⟩ := str_ne h5
            have HRES : Hid (sameL false a b = false) := Lib.hid (by rw [← hres]; simp [h5])
            clear hres hsf h5 h0 h1 h2 h3 h4
            go_wp2_with fail
            have d5 := fun x : BW ((wr.alloc (.cells #[.int .i64 k0, .int .i64 n0, .string s0, .int .i64 a0, .int .i64 m0] 50)).alloc (.cells #[.int .i64 k1, .int .i64 n1, .string s1, .int .i64 a1, .int .i64 m1] 50)) => HH.out x.val (HB2.out.trans (x.prop.mono HB2.out.size)) 5 (.string op) rfl
            have d6 := fun x : BW ((wr.alloc (.cells #[.int .i64 k0, .int .i64 n0, .string s0, .int .i64 a0, .int .i64 m0] 50)).alloc (.cells #[.int .i64 k1, .int .i64 n1, .string s1, .int .i64 a1, .int .i64 m1] 50)) => HH.out x.val (HB2.out.trans (x.prop.mono HB2.out.size)) 6 (.slice ka ks.length kc) rfl
            have b5 := fun x : BW ((wr.alloc (.cells #[.int .i64 k0, .int .i64 n0, .string s0, .int .i64 a0, .int .i64 m0] 50)).alloc (.cells #[.int .i64 k1, .int .i64 n1, .string s1, .int .i64 a1, .int .i64 m1] 50)) => HH'.out x.val (HB2.out.trans (x.prop.mono HB2.out.size)) 5 (.string oq) rfl
            have b6 := fun x : BW ((wr.alloc (.cells #[.int .i64 k0, .int .i64 n0, .string s0, .int .i64 a0, .int .i64 m0] 50)).alloc (.cells #[.int .i64 k1, .int .i64 n1, .string s1, .int .i64 a1, .int .i64 m1] 50)) => HH'.out x.val (HB2.out.trans (x.prop.mono HB2.out.size)) 6 (.slice ka' kt.length kc') rfl
            refine region_below (by kernel_rfl) (by kernel_rfl) ?_
            repeat (go_big_quiet_step (fail))
            refine wpQuiet_nil ?_
            rintro _ ⟨⟨w3, b3⟩, rfl⟩
            have B3 := Lib.hid (HB2.out.trans (b3.mono HB2.out.size))
            clear d5 d6 b5 b6 b3
            go_wp2_with fail
            exact bodyPost_ret (v := .bool false) (by simp [results, Tryz.results20, go_sem]) rfl ⟨by rw [HRES.out], B3.out⟩
          obtain ⟨r1, r2⟩ := str_eq h5
          have hre2 : (sameL false ks kt && sameL false (a.drop (k + 1)) (b.drop (k + 1))) = sameL false a b := by rw [← hres]; simp [h0, h1, h2, h3, h4, h5]
          clear hres hsf h5 h0 h1 h2 h3 h4
          generalize sameL false ks kt = rr at hre2 HCK
          have HRE := Lib.hid hre2
          clear hre2
          cases rr with
          | false =>
            have HRES : Hid (sameL false a b = false) := Lib.hid (by rw [← HRE.out]; rfl)
            go_wp2_with fail
            have d5 := fun x : BW ((wr.alloc (.cells #[.int .i64 k0, .int .i64 n0, .string s0, .int .i64 a0, .int .i64 m0] 50)).alloc (.cells #[.int .i64 k1, .int .i64 n1, .string s1, .int .i64 a1, .int .i64 m1] 50)) => HH.out x.val (HB2.out.trans (x.prop.mono HB2.out.size)) 5 (.string op) rfl
            have d6 := fun x : BW ((wr.alloc (.cells #[.int .i64 k0, .int .i64 n0, .string s0, .int .i64 a0, .int .i64 m0] 50)).alloc (.cells #[.int .i64 k1, .int .i64 n1, .string s1, .int .i64 a1, .int .i64 m1] 50)) => HH.out x.val (HB2.out.trans (x.prop.mono HB2.out.size)) 6 (.slice ka ks.length kc) rfl
            have b5 := fun x : BW ((wr.alloc (.cells #[.int .i64 k0, .int .i64 n0, .string s0, .int .i64 a0, .int .i64 m0] 50)).alloc (.cells #[.int .i64 k1, .int .i64 n1, .string s1, .int .i64 a1, .int .i64 m1] 50)) => HH'.out x.val (HB2.out.trans (x.prop.mono HB2.out.size)) 5 (.string oq) rfl
            have b6 := fun x : BW ((wr.alloc (.cells #[.int .i64 k0, .int .i64 n0, .string s0, .int .i64 a0, .int .i64 m0] 50)).alloc (.cells #[.int .i64 k1, .int .i64 n1, .string s1, .int .i64 a1, .int .i64 m1] 50)) => HH'.out x.val (HB2.out.trans (x.prop.mono HB2.out.size)) 6 (.slice ka' kt.length kc') rfl
            have HCX := Lib.hid (fun x : BW ((wr.alloc (.cells #[.int .i64 k0, .int .i64 n0, .string s0, .int .i64 a0, .int .i64 m0] 50)).alloc (.cells #[.int .i64 k1, .int .i64 n1, .string s1, .int .i64 a1, .int .i64 m1] 50)) => HCK.out x.val (HKV.out.below (HB2.out.trans (x.prop.mono HB2.out.size))) (HKV'.out.below (HB2.out.trans (x.prop.mono HB2.out.size))))
            refine region_below (by kernel_rfl) (by kernel_rfl) ?_
            repeat (go_big_quiet_step ((go_at_call 20; exact calls_bw (HCX.out _))))
            refine wpQuiet_nil ?_
            rintro _ ⟨⟨w3, b3⟩, rfl⟩
            have B3 := Lib.hid (HB2.out.trans (b3.mono HB2.out.size))
            clear d5 d6 b5 b6 b3
            go_wp2_with fail
            exact bodyPost_ret (v := .bool false) (by simp [results, Tryz.results20, go_sem]) rfl ⟨by rw [HRES.out], B3.out⟩
          | true =>
            go_wp2_with fail
            have d5 := fun x : BW ((wr.alloc (.cells #[.int .i64 k0, .int .i64 n0, .string s0, .int .i64 a0, .int .i64 m0] 50)).alloc (.cells #[.int .i64 k1, .int .i64 n1, .string s1, .int .i64 a1, .int .i64 m1] 50)) => HH.out x.val (HB2.out.trans (x.prop.mono HB2.out.size)) 5 (.string op) rfl
            have d6 := fun x : BW ((wr.alloc (.cells #[.int .i64 k0, .int .i64 n0, .string s0, .int .i64 a0, .int .i64 m0] 50)).alloc (.cells #[.int .i64 k1, .int .i64 n1, .string s1, .int .i64 a1, .int .i64 m1] 50)) => HH.out x.val (HB2.out.trans (x.prop.mono HB2.out.size)) 6 (.slice ka ks.length kc) rfl
            have b5 := fun x : BW ((wr.alloc (.cells #[.int .i64 k0, .int .i64 n0, .string s0, .int .i64 a0, .int .i64 m0] 50)).alloc (.cells #[.int .i64 k1, .int .i64 n1, .string s1, .int .i64 a1, .int .i64 m1] 50)) => HH'.out x.val (HB2.out.trans (x.prop.mono HB2.out.size)) 5 (.string oq) rfl
            have b6 := fun x : BW ((wr.alloc (.cells #[.int .i64 k0, .int .i64 n0, .string s0, .int .i64 a0, .int .i64 m0] 50)).alloc (.cells #[.int .i64 k1, .int .i64 n1, .string s1, .int .i64 a1, .int .i64 m1] 50)) => HH'.out x.val (HB2.out.trans (x.prop.mono HB2.out.size)) 6 (.slice ka' kt.length kc') rfl
            have HCX := Lib.hid (fun x : BW ((wr.alloc (.cells #[.int .i64 k0, .int .i64 n0, .string s0, .int .i64 a0, .int .i64 m0] 50)).alloc (.cells #[.int .i64 k1, .int .i64 n1, .string s1, .int .i64 a1, .int .i64 m1] 50)) => HCK.out x.val (HKV.out.below (HB2.out.trans (x.prop.mono HB2.out.size))) (HKV'.out.below (HB2.out.trans (x.prop.mono HB2.out.size))))
            refine region_below (by kernel_rfl) (by kernel_rfl) ?_
            repeat (go_big_quiet_step ((go_at_call 20; exact calls_bw (HCX.out _))))
            refine wpQuiet_nil ?_
            rintro _ ⟨⟨w3, b3⟩, rfl⟩
            have B3 := Lib.hid (HB2.out.trans (b3.mono HB2.out.size))
            clear d5 d6 b5 b6 b3
            go_wp2_with fail
            exact ⟨⟨k + 1, by simp, Lib.hid ⟨by omega, by rw [← HRE.out]; rfl, B3.out⟩⟩, by simp only [intOf]; omega⟩
      · have hlt' : ((k : Int) < (a.length : Int)) = False := by simp; omega
        have HRES : Hid (sameL lo a b = true) := Lib.hid (by rw [← hres, List.drop_eq_nil_of_le (by omega), List.drop_eq_nil_of_le (by omega)]; unfold sameL; rfl)
        have HBE := Lib.hid hbe
        clear hr hres hbe
        go_wp2_with fail
        exact bodyPost_ret (v := .bool true) (by simp [results, Tryz.results20, go_sem]) rfl ⟨by rw [HRES.out], HBE.out⟩
end

section
open Go.RowKit

theorem kids_lt {x : Fg} {a : List Fg} (h : x ∈ a) : SizeOf.sizeOf x.kids < SizeOf.sizeOf a := by
  have h1 := List.sizeOf_lt_of_mem h
  obtain ⟨t, o, ks⟩ := x
  simp only [Fg.kids]
  simp only [Fg.mk.sizeOf_spec] at h1
  omega
theorem FgsLe.mem {B : Nat} {l : List Fg} (h : FgsLe B l) {x : Fg} (hx : x ∈ l) : x.kids.length ≤ B ∧ FgsLe B x.kids := by
  obtain ⟨k, hk⟩ := List.mem_iff_getElem?.1 hx
  exact h.get hk
theorem alike_any (lo : Bool) (P P' : Nat → Prop) : ∀ (a b : List Fg) (va vb : Value) (W : World), FVal W P va a → FVal W P' vb b → a.length ≤ 140737488351232 → FgsLe 140737488351232 a → Calls Tryz.prog 20 #[va, vb, .bool lo] W (AlPost (sameL lo a b) W)
  | a, b, va, vb, W, h1, h2, h3, h4 => alike_run lo P P' a b va vb W h1 h2 h3 fun x hx ks' kv kv' w k1 k2 =>
    have := kids_lt hx
    alike_any lo P P' x.kids ks' kv kv' w k1 k2 (h4.mem hx).1 (h4.mem hx).2
termination_by a => SizeOf.sizeOf a
end

end Go.Proofs.YtcokdapnafgnpaaGreatDoor
