/-
  Pieces of a list of fragments at a sign, their joining, and ways into fragments: models.
  No list of fragments in memory has more elements than room.
  Fragments copied.
-/
import Derived.Test.YtafncodigpjkaaaGreatDoorFGI
import Derived.Test.YtafncodigpjkaaaGreatDoorFG1
import Derived.Test.YtafncodigpjkaaaGreatDoorFGJ
import Derived.Deep.RegionLaw
import Derived.Laws.MakeOwn
namespace Go.Proofs.YtafncodigpjkaaaGreatDoor
section

/-- A token that is a sign. -/
def isS (s : ByteArray) (x : Fg) : Bool := decide (x.opn = sNo) && (decide (x.tok.1 = 5) && decide (x.tok.2.2.1 = s))
def signF (s : ByteArray) : Fg := .mk (5, 0, s, 0, 0) sNo []
def splG (s : ByteArray) (acc : List Fg) : List Fg → List (List Fg)
  | [] => [acc]
  | x :: r => if isS s x = true then acc :: splG s [] r else splG s (acc ++ [x]) r
def splitM (s : ByteArray) (l : List Fg) : List (List Fg) := splG s [] l
def joinG (s : ByteArray) : List (List Fg) → List Fg
  | [] => []
  | p :: r => signF s :: (p ++ joinG s r)
def joinM (s : ByteArray) : List (List Fg) → List Fg
  | [] => []
  | p :: r => p ++ joinG s r
theorem splG_at {s : ByteArray} {acc l : List Fg} {k : Nat} {x : Fg} (h : l[k]? = some x) : splG s acc (l.drop k) = if isS s x = true then acc :: splG s [] (l.drop (k + 1)) else splG s (acc ++ [x]) (l.drop (k + 1)) := by
  obtain ⟨hk, rfl⟩ := List.getElem?_eq_some_iff.1 h
  rw [List.drop_eq_getElem_cons hk]
  rfl
theorem splG_ne (s : ByteArray) : ∀ (l acc : List Fg), splG s acc l ≠ []
  | [], _ => by simp [splG]
  | x :: r, acc => by
    unfold splG
    split
    · simp
    · exact splG_ne s r _
theorem joinG_append (s : ByteArray) : ∀ (a b : List (List Fg)), joinG s (a ++ b) = joinG s a ++ joinG s b
  | [], b => rfl
  | p :: r, b => by rw [List.cons_append, joinG, joinG, joinG_append s r b]; simp
theorem joinM_snoc (s : ByteArray) (a : List (List Fg)) (p : List Fg) : joinM s (a ++ [p]) = joinM s a ++ ((if a = [] then [] else [signF s]) ++ p) := by
  cases a with
  | nil => simp [joinM, joinG]
  | cons q r => rw [List.cons_append, joinM, joinM, joinG_append]; simp [joinG]
theorem joinM_take {s : ByteArray} {ls : List (List Fg)} {k : Nat} {p : List Fg} (h : ls[k]? = some p) : joinM s (ls.take (k + 1)) = joinM s (ls.take k) ++ ((if k = 0 then [] else [signF s]) ++ p) := by
  obtain ⟨hk, _⟩ := List.getElem?_eq_some_iff.1 h
  rw [List.take_add_one, h, Option.toList_some, joinM_snoc]
  have e : (ls.take k = []) ↔ k = 0 := by
    rw [← List.length_eq_zero_iff, List.length_take]; omega
  by_cases h0 : k = 0
  · rw [if_pos (e.2 h0), if_pos h0]
  · rw [if_neg (fun h => h0 (e.1 h)), if_neg h0]
def mapS (s : ByteArray) (l : List Fg) : List Fg := l.map fun x => if isS s x = true then signF s else x
theorem joinG_eq (s : ByteArray) : ∀ {ls : List (List Fg)}, ls ≠ [] → joinG s ls = signF s :: joinM s ls
  | [], h => absurd rfl h
  | _ :: _, _ => rfl
theorem join_spl (s : ByteArray) : ∀ (l acc : List Fg), joinM s (splG s acc l) = acc ++ mapS s l
  | [], acc => by simp [splG, joinM, joinG, mapS]
  | x :: r, acc => by
    have e : mapS s (x :: r) = (if isS s x = true then signF s else x) :: mapS s r := rfl
    rw [e]
    unfold splG
    by_cases h : isS s x = true
    · rw [if_pos h, if_pos h]
      rw [joinM, joinG_eq s (splG_ne s r []), join_spl s r []]
      simp
    · rw [if_neg h, if_neg h, join_spl s r (acc ++ [x])]
      simp
theorem join_split (s : ByteArray) (l : List Fg) : joinM s (splitM s l) = mapS s l := by unfold splitM; rw [join_spl]; rfl
theorem spl_len (s : ByteArray) : ∀ (l acc : List Fg), (splG s acc l).length ≤ l.length + 1
  | [], acc => by simp [splG]
  | x :: r, acc => by
    unfold splG
    split
    · have := spl_len s r []; simp; omega
    · have := spl_len s r (acc ++ [x]); simp; omega
theorem join_len (s : ByteArray) (l : List Fg) : (joinM s (splitM s l)).length = l.length := by rw [join_split]; unfold mapS; rw [List.length_map]
/-- A sign with a number or with fragments in it. -/
def signedM (s : ByteArray) (l : List Fg) : Bool := l.any fun x => isS s x && (!decide (x.tok.2.1 = 0) || !decide (x.kids.length = 0))
theorem erF_sign {s : ByteArray} {x : Fg} (h : isS s x = true) (h0 : x.tok.2.1 = 0) (h1 : x.kids.length = 0) : erF (signF s) = erF x := by
  obtain ⟨⟨k, n, t, a, m⟩, o, ks⟩ := x
  unfold isS at h
  rw [Bool.and_eq_true, Bool.and_eq_true, decide_eq_true_eq, decide_eq_true_eq, decide_eq_true_eq] at h
  simp only [Fg.tok, Fg.opn, Fg.kids] at h h0 h1
  obtain ⟨rfl, rfl, rfl⟩ := h
  rw [List.length_eq_zero_iff] at h1
  subst h1; subst h0
  unfold signF erF erT
  rfl
theorem signed_same {s : ByteArray} : ∀ {l : List Fg}, signedM s l = false → erL (mapS s l) = erL l
  | [], _ => rfl
  | x :: r, h => by
    have e : mapS s (x :: r) = (if isS s x = true then signF s else x) :: mapS s r := rfl
    unfold signedM at h
    rw [List.any_cons, Bool.or_eq_false_iff] at h
    rw [e, erL_cons, erL_cons, signed_same (l := r) h.2]
    congr 1
    by_cases hs : isS s x = true
    · rw [if_pos hs]
      have h1 := h.1
      rw [hs, Bool.true_and, Bool.or_eq_false_iff] at h1
      exact erF_sign hs (by simpa using h1.1) (by simpa using h1.2)
    · rw [if_neg hs]
theorem pieces_ok {s : ByteArray} {l : List Fg} (h : signedM s l = false) : sameL true (joinM s (splitM s l)) l = true := by
  rw [join_split, sameL_er]
  exact signed_same h
theorem signed_at {s : ByteArray} {l : List Fg} {k : Nat} {x : Fg} (h : l[k]? = some x) : signedM s (l.drop k) = (isS s x && (!decide (x.tok.2.1 = 0) || !decide (x.kids.length = 0)) || signedM s (l.drop (k + 1))) := by
  obtain ⟨hk, rfl⟩ := List.getElem?_eq_some_iff.1 h
  unfold signedM
  rw [List.drop_eq_getElem_cons hk, List.any_cons]

/-! Ways -/
/-- The fragment of a list with a number. -/
def getI (l : List Fg) (i : Int) : Option Fg := if 0 ≤ i then l[i.toNat]? else none
theorem getI_some {l : List Fg} {i : Int} {x : Fg} (h : getI l i = some x) : ∃ k : Nat, i = (k : Int) ∧ k < l.length ∧ l[k]? = some x := by
  unfold getI at h
  split at h
  · rename_i h0
    exact ⟨i.toNat, by omega, (List.getElem?_eq_some_iff.1 h).1, h⟩
  · cases h
theorem getI_none {l : List Fg} {i : Int} (h : getI l i = none) : i < 0 ∨ (l.length : Int) ≤ i := by
  unfold getI at h
  split at h
  · rename_i h0
    rw [List.getElem?_eq_none_iff] at h
    right; omega
  · left; omega
theorem getI_nat {l : List Fg} {k : Nat} : getI l (k : Int) = l[k]? := by
  unfold getI
  rw [if_pos (by omega)]
  rfl
/-- The lists through which a way leads. -/
def walkP : List Fg → List Int → Option (List (List Fg))
  | _, [] => some []
  | l, i :: p => match getI l i with
    | none => none
    | some x => match walkP x.kids p with
      | none => none
      | some ls => some (l :: ls)
/-- The fragment to which a way leads. -/
def endP : List Fg → List Int → Option Fg
  | _, [] => none
  | l, i :: p => match getI l i with
    | none => none
    | some x => if p = [] then some x else endP x.kids p
def setK (x : Fg) (ks : List Fg) : Fg := .mk x.tok x.opn ks
def upM (l : List Fg) (i : Int) (X : List Fg) : List Fg := l.take i.toNat ++ (X ++ l.drop (i.toNat + 1))
def putM (by' : List Fg) : List Fg → List Int → List Fg
  | _, [] => by'
  | l, i :: p => match getI l i with
    | none => l
    | some x => upM l i (if p = [] then by' else [setK x (putM by' x.kids p)])
theorem walk_end : ∀ {l : List Fg} {p : List Int}, p ≠ [] → ((walkP l p).isSome = true ↔ (endP l p).isSome = true)
  | l, [], h => absurd rfl h
  | l, i :: p, _ => by
    unfold walkP endP
    cases getI l i with
    | none => simp
    | some x =>
      simp only
      by_cases hp : p = []
      · subst hp; simp [walkP]
      · rw [if_neg hp]
        have := walk_end (l := x.kids) hp
        rw [← this]
        cases walkP x.kids p <;> simp
theorem upM_get {l : List Fg} {k : Nat} (hk : k < l.length) (x : Fg) : getI (upM l (k : Int) [x]) (k : Int) = some x := by
  rw [getI_nat]
  unfold upM
  have e : ((k : Int)).toNat = k := by omega
  rw [e, List.getElem?_append_right (by rw [List.length_take]; omega), List.length_take]
  have e2 : k - min k l.length = 0 := by omega
  rw [e2]; rfl
theorem put_end (x : Fg) : ∀ {l : List Fg} {p : List Int}, (endP l p).isSome = true → endP (putM [x] l p) p = some x
  | l, [], h => by simp [endP] at h
  | l, i :: p, h => by
    unfold endP at h
    unfold putM
    cases hg : getI l i with
    | none => rw [hg] at h; cases h
    | some y =>
      rw [hg] at h
      simp only at h ⊢
      obtain ⟨k, rfl, hk, _⟩ := getI_some hg
      by_cases hp : p = []
      · subst hp
        rw [if_pos rfl]
        unfold endP
        rw [upM_get hk]
        rfl
      · rw [if_neg hp] at h ⊢
        unfold endP
        rw [upM_get hk]
        simp only
        rw [if_neg hp]
        exact put_end x h
theorem walk_len : ∀ {l : List Fg} {p : List Int} {ls : List (List Fg)}, walkP l p = some ls → ls.length = p.length
  | l, [], ls, h => by unfold walkP at h; cases h; rfl
  | l, i :: p, ls, h => by
    unfold walkP at h
    cases hg : getI l i with
    | none => rw [hg] at h; cases h
    | some y =>
      rw [hg] at h
      simp only at h
      cases hw : walkP y.kids p with
      | none => rw [hw] at h; cases h
      | some m => rw [hw] at h; cases h; rw [List.length_cons, List.length_cons, walk_len hw]
end

section
open Go.RowKit

mutual
/-- No list in memory has more elements than room. -/
def EltC (w : World) : Fg → Nat → Nat → Prop
  | .mk _ _ ks, g, off => ∃ a c, w.cell? ⟨g, off + 6, none⟩ = some (.slice a ks.length c) ∧ ks.length ≤ c ∧ (ks ≠ [] → ∃ g' o', a = some ⟨g', o', none⟩ ∧ RowC w ks g' o')
def RowC (w : World) : List Fg → Nat → Nat → Prop
  | [], _, _ => True
  | x :: r, g, off => EltC w x g off ∧ RowC w r g (off + 7)
end
def ValC (w : World) (v : Value) (l : List Fg) : Prop := ∃ a c, v = .slice a l.length c ∧ l.length ≤ c ∧ (l ≠ [] → ∃ g o, a = some ⟨g, o, none⟩ ∧ RowC w l g o)
theorem RowC.get {w : World} : ∀ {l : List Fg} {g off : Nat}, RowC w l g off → ∀ {i : Nat} {x : Fg}, l[i]? = some x → EltC w x g (off + i * 7)
  | [], _, _, _, _, _, h => by cases h
  | y :: r, g, off, h, 0, x, hx => by
    unfold RowC at h
    simp only [List.getElem?_cons_zero, Option.some.injEq] at hx
    subst hx
    simpa using h.1
  | y :: r, g, off, h, i + 1, x, hx => by
    unfold RowC at h
    have := h.2.get (i := i) (x := x) (by simpa using hx)
    have e : off + 7 + i * 7 = off + (i + 1) * 7 := by omega
    rwa [e] at this
theorem RowC.of {w : World} : ∀ {l : List Fg} {g off : Nat}, (∀ i x, l[i]? = some x → EltC w x g (off + i * 7)) → RowC w l g off
  | [], _, _, _ => by unfold RowC; trivial
  | y :: r, g, off, h => by
    unfold RowC
    refine ⟨by simpa using h 0 y rfl, RowC.of fun i x hx => ?_⟩
    have := h (i + 1) x (by simpa using hx)
    have e : off + 7 + i * 7 = off + (i + 1) * 7 := by omega
    rwa [e]
theorem EltC.val {w : World} : ∀ {x : Fg} {g off : Nat} {u : Value}, EltC w x g off → w.cell? ⟨g, off + 6, none⟩ = some u → ValC w u x.kids
  | .mk t o ks, g, off, u, h, hu => by
    unfold EltC at h
    obtain ⟨a, c, h1, h2, h3⟩ := h
    rw [h1] at hu
    cases hu
    exact ⟨a, c, rfl, h2, h3⟩
theorem EltC.of {w : World} : ∀ {x : Fg} {g off : Nat} {u : Value}, w.cell? ⟨g, off + 6, none⟩ = some u → ValC w u x.kids → EltC w x g off
  | .mk t o ks, g, off, u, hu, ⟨a, c, e, h2, h3⟩ => by
    unfold EltC
    subst e
    exact ⟨a, c, hu, h2, h3⟩
theorem ValC.cap {w : World} {a : Option Addr} {n c : Nat} {l : List Fg} (h : ValC w (.slice a n c) l) : n ≤ c := by
  obtain ⟨_, _, e, h1, _⟩ := h
  cases e
  exact h1
theorem ValC.kid {w : World} {g o n c k : Nat} {l : List Fg} {x : Fg} {u : Value} (h : ValC w (.slice (some ⟨g, o, none⟩) n c) l) (hx : l[k]? = some x) (hu : w.cell? ⟨g, o + k * 7 + 6, none⟩ = some u) : ValC w u x.kids := by
  obtain ⟨_, _, e, _, h2⟩ := h
  cases e
  obtain ⟨_, _, e, hr⟩ := h2 (by rintro rfl; cases hx)
  cases e
  exact (hr.get hx).val hu
theorem ValC.nil (w : World) : ValC w (.slice none 0 0) [] := ⟨none, 0, rfl, Nat.le_refl _, fun h => absurd rfl h⟩
mutual
theorem EltC.keep {w w' : World} {P : Nat → Prop} (hP : ∀ b, P b → b < w.heap.size → w'.heap[b]? = w.heap[b]?) : ∀ {x : Fg} {g off : Nat}, w'.heap[g]? = w.heap[g]? → FElt w P x g off → EltC w x g off → EltC w' x g off
  | .mk t o ks, g, off, hg, hf, h => by
    unfold FElt at hf
    unfold EltC at h ⊢
    obtain ⟨a', c', f1, f2⟩ := hf
    obtain ⟨a, c, h1, h2, h3⟩ := h
    have f6 := f1 6 (.slice a' ks.length c') rfl
    rw [h1] at f6
    cases f6
    refine ⟨_, _, (World.cell?_of_block (w := w) (a := ⟨g, off + 6, none⟩) hg).trans h1, h2, fun hk => ?_⟩
    obtain ⟨g', o', e, hr⟩ := h3 hk
    obtain ⟨g2, o2, e2, p, z, hrf⟩ := f2 hk
    rw [e] at e2
    cases e2
    exact ⟨g', o', e, RowC.keep hP (hP g' p z) hrf hr⟩
theorem RowC.keep {w w' : World} {P : Nat → Prop} (hP : ∀ b, P b → b < w.heap.size → w'.heap[b]? = w.heap[b]?) : ∀ {l : List Fg} {g off : Nat}, w'.heap[g]? = w.heap[g]? → FRow w P l g off → RowC w l g off → RowC w' l g off
  | [], _, _, _, _, _ => by unfold RowC; trivial
  | x :: r, g, off, hg, hf, h => by
    unfold FRow at hf
    unfold RowC at h ⊢
    exact ⟨EltC.keep hP hg hf.1 h.1, RowC.keep hP hg hf.2 h.2⟩
end
theorem ValC.keep {w w' : World} {P : Nat → Prop} {v : Value} {l : List Fg} (h : ValC w v l) (hf : FVal w P v l) (hP : ∀ b, P b → b < w.heap.size → w'.heap[b]? = w.heap[b]?) : ValC w' v l := by
  obtain ⟨a, c, rfl, h2, h3⟩ := h
  obtain ⟨a', c', e, f2⟩ := hf
  cases e
  refine ⟨_, _, rfl, h2, fun hk => ?_⟩
  obtain ⟨g', o', e, hr⟩ := h3 hk
  obtain ⟨g2, o2, e2, p, z, hrf⟩ := f2 hk
  rw [e] at e2
  cases e2
  exact ⟨g', o', e, RowC.keep hP (hP g' p z) hrf hr⟩
end

section
open Go.RowKit

theorem FgsLe.mono {B B' : Nat} (h : B ≤ B') : ∀ {l : List Fg}, FgsLe B l → FgsLe B' l := fun hl => FgsLe.of fun x hx =>
  have := kids_lt hx
  ⟨Nat.le_trans (hl.mem hx).1 h, FgsLe.mono h (hl.mem hx).2⟩
termination_by l => SizeOf.sizeOf l
theorem ownsRow_block {w w' : World} {base : Nat} {e : TypeId} {size n cap g : Nat} {xs : List Value} (h : w.ownsRow base e size (.slice (some ⟨g, 0, none⟩) n cap) n xs) (hg : w'.heap[g]? = w.heap[g]?) : w'.ownsRow base e size (.slice (some ⟨g, 0, none⟩) n cap) n xs := by
  refine ⟨h.1, ?_⟩
  rcases h.2 with hn | ⟨g', cap', cur, e1, hb, hh, rest⟩
  · exact .inl hn
  · cases e1
    exact .inr ⟨_, _, cur, rfl, hb, hg.trans hh, rest⟩
theorem below_undrew {B : Nat} {a w : World} (h : Below B a.drew w) : Below B a w := ⟨h.os, h.tape, h.output, h.size, h.block⟩
def CopPost (l : List Fg) (W : World) (e : Ending) (w' : World) : Prop :=
  ∃ v, e = .returned v ∧ FVal w' (fun b => W.heap.size ≤ b) v l ∧ Below W.heap.size W w' ∧ ValC w' v l
theorem make_frags (n : Nat) (hn : n * 88 ≤ 281474976710656) : ∃ MC : Array Value, (∀ (W : World), (W.alloc (.cells MC 52)).ownsRow W.heap.size 52 7 (.slice (some ⟨W.heap.size, 0, none⟩) n n) n MC.toList) ∧
    ∀ W : World, (Instr.makeSlice 25 (.int .i64 (n : Int)) (.int .i64 (n : Int))).run Tryz.prog W = .ok (.slice (some ⟨W.heap.size, 0, none⟩) n n) (W.alloc (.cells MC 52)) := by
  obtain ⟨i0, hi, hz0, hz1, hz2⟩ := info_parts infoFrag
  refine ⟨madeCells #[.int .i64 0, .int .i64 0, .string ⟨#[]⟩, .int .i64 0, .int .i64 0, .string ⟨#[]⟩, .slice none 0 0] (n * 7), fun W => World.ownsRow_lit W _ n (Nat.le_refl _) (by unfold maxLen; omega) (size_madeCells _ _), fun W => ?_⟩
  have := run_make (P := Tryz.prog) W 25 52 i0 _ Tryz.underlying25 hi hz0 .i64 .i64 (n : Int) (n : Int) (by omega) (Int.le_refl _) (by rw [hz2]; omega) (by omega)
  rw [show ((n : Int)).toNat = n by omega, hz1] at this
  exact this
theorem set7 {xs : List Value} {m : Nat} (hm : m + 7 ≤ xs.length) (v0 v1 v2 v3 v4 v5 v6 : Value) : ∀ j u, [v0, v1, v2, v3, v4, v5, v6][j]? = some u →
    (((((((xs.set m v0).set (m + 1) v1).set (m + 2) v2).set (m + 3) v3).set (m + 4) v4).set (m + 5) v5).set (m + 6) v6)[m + j]? = some u := by
  intro j u hu
  rcases j with _ | _ | _ | _ | _ | _ | _ | j
  case succ.succ.succ.succ.succ.succ.succ => simp at hu
  all_goals
    simp at hu
    subst hu
    simp [List.getElem?_set]
    omega
theorem set7_ne {xs : List Value} {m i : Nat} (hi : i < m) (v0 v1 v2 v3 v4 v5 v6 : Value) :
    (((((((xs.set m v0).set (m + 1) v1).set (m + 2) v2).set (m + 3) v3).set (m + 4) v4).set (m + 5) v5).set (m + 6) v6)[i]? = xs[i]? := by
  rw [List.getElem?_set_ne (by omega), List.getElem?_set_ne (by omega), List.getElem?_set_ne (by omega), List.getElem?_set_ne (by omega), List.getElem?_set_ne (by omega), List.getElem?_set_ne (by omega), List.getElem?_set_ne (by omega)]
/-- The loop over the fragments. -/
def CLoop (l : List Fg) (W : World) (k : Nat) (wr : World) : Prop :=
  k ≤ l.length ∧ Below W.heap.size W wr ∧ W.heap.size < wr.heap.size ∧ ∃ xs : List Value, wr.ownsRow W.heap.size 52 7 (.slice (some ⟨W.heap.size, 0, none⟩) l.length l.length) l.length xs ∧
    ∀ i y, i < k → l[i]? = some y → ∃ kv, (∀ j u, (fgV y kv)[j]? = some u → xs[i * 7 + j]? = some u) ∧ FVal wr (fun b => W.heap.size < b) kv y.kids ∧ ValC wr kv y.kids
theorem cop_next {l : List Fg} {W w4 : World} {k : Nat} {x : Fg} {kv v0 v1 v2 v3 v4 v5 v6 : Value} {xs : List Value} (hx : l[k]? = some x) (e : fgV x kv = [v0, v1, v2, v3, v4, v5, v6]) (hb : Below W.heap.size W w4) (hz : W.heap.size < w4.heap.size)
    (ho : w4.ownsRow W.heap.size 52 7 (.slice (some ⟨W.heap.size, 0, none⟩) l.length l.length) l.length xs) (hold : ∀ i y, i < k → l[i]? = some y → ∃ kv, (∀ j u, (fgV y kv)[j]? = some u → xs[i * 7 + j]? = some u) ∧ FVal w4 (fun b => W.heap.size < b) kv y.kids ∧ ValC w4 kv y.kids)
    (hk : FVal w4 (fun b => W.heap.size < b) kv x.kids) (hkc : ValC w4 kv x.kids) :
    CLoop l W (k + 1) (((((((w4.setCell ⟨W.heap.size, k * 7, none⟩ v0).setCell ⟨W.heap.size, k * 7 + 1, none⟩ v1).setCell ⟨W.heap.size, k * 7 + 2, none⟩ v2).setCell ⟨W.heap.size, k * 7 + 3, none⟩ v3).setCell ⟨W.heap.size, k * 7 + 4, none⟩ v4).setCell ⟨W.heap.size, k * 7 + 5, none⟩ v5).setCell ⟨W.heap.size, k * 7 + 6, none⟩ v6) := by
  have hkl := (List.getElem?_eq_some_iff.1 hx).1
  have hlen := ho.1
  have hK : KeepS (fun b => b = W.heap.size) w4 (((((((w4.setCell ⟨W.heap.size, k * 7, none⟩ v0).setCell ⟨W.heap.size, k * 7 + 1, none⟩ v1).setCell ⟨W.heap.size, k * 7 + 2, none⟩ v2).setCell ⟨W.heap.size, k * 7 + 3, none⟩ v3).setCell ⟨W.heap.size, k * 7 + 4, none⟩ v4).setCell ⟨W.heap.size, k * 7 + 5, none⟩ v5).setCell ⟨W.heap.size, k * 7 + 6, none⟩ v6) :=
    (((((((KeepS.refl (fun b => b = W.heap.size) w4).setCell rfl _ _).setCell rfl _ _).setCell rfl _ _).setCell rfl _ _).setCell rfl _ _).setCell rfl _ _).setCell rfl _ _
  have h0 := (ho.stored (k * 7) v0).1
  have h1 := (h0.stored (k * 7 + 1) v1).1
  have h2 := (h1.stored (k * 7 + 2) v2).1
  have h3 := (h2.stored (k * 7 + 3) v3).1
  have h4 := (h3.stored (k * 7 + 4) v4).1
  have h5 := (h4.stored (k * 7 + 5) v5).1
  have h6 := (h5.stored (k * 7 + 6) v6).1
  generalize (((((((w4.setCell ⟨W.heap.size, k * 7, none⟩ v0).setCell ⟨W.heap.size, k * 7 + 1, none⟩ v1).setCell ⟨W.heap.size, k * 7 + 2, none⟩ v2).setCell ⟨W.heap.size, k * 7 + 3, none⟩ v3).setCell ⟨W.heap.size, k * 7 + 4, none⟩ v4).setCell ⟨W.heap.size, k * 7 + 5, none⟩ v5).setCell ⟨W.heap.size, k * 7 + 6, none⟩ v6) = w5 at hK h6
  have hkeepc : ∀ {kv : Value} {ks : List Fg}, FVal w4 (fun b => W.heap.size < b) kv ks → ValC w4 kv ks → ValC w5 kv ks := fun h k => k.keep h (fun b p z => hK.block b z (by omega))
  have hkeep : ∀ {kv : Value} {ks : List Fg}, FVal w4 (fun b => W.heap.size < b) kv ks → FVal w5 (fun b => W.heap.size < b) kv ks := fun h => h.keep (fun b p z => ⟨p, hK.block b z (by omega)⟩) hK.size
  refine ⟨hkl, hb.trans (hK.below (fun b e => Nat.le_of_eq e.symm) (by omega)), by have := hK.size; omega, _, h6, fun i y hi hy => ?_⟩
  by_cases hik : i = k
  · subst hik
    rw [hx] at hy
    cases hy
    refine ⟨kv, fun j u hu => ?_, hkeep hk, hkeepc hk hkc⟩
    rw [e] at hu
    exact set7 (by omega) v0 v1 v2 v3 v4 v5 v6 j u hu
  · obtain ⟨kv', a1, a2, a3⟩ := hold i y (by omega) hy
    refine ⟨kv', fun j u hu => ?_, hkeep a2, hkeepc a2 a3⟩
    have hj : j < 7 := by have := (List.getElem?_eq_some_iff.1 hu).1; simpa [fgV] using this
    rw [set7_ne (by omega)]
    exact a1 j u hu
theorem cop_end {l : List Fg} {W wr : World} (h : CLoop l W l.length wr) : CopPost l W (.returned (.slice (some ⟨W.heap.size, 0, none⟩) l.length l.length)) wr := by
  obtain ⟨_, hb, hz, xs, ho, hold⟩ := h
  have hcell : ∀ i x, l[i]? = some x → ∃ kv, (∀ j u, (fgV x kv)[j]? = some u → wr.cell? ⟨W.heap.size, 0 + i * 7 + j, none⟩ = some u) ∧ FVal wr (fun b => W.heap.size < b) kv x.kids ∧ ValC wr kv x.kids := fun i x hx => by
    have hil := (List.getElem?_eq_some_iff.1 hx).1
    obtain ⟨kv, h1, h2, h3⟩ := hold i x hil hx
    refine ⟨kv, fun j u hu => ?_, h2, h3⟩
    have hj : j < 7 := by have := (List.getElem?_eq_some_iff.1 hu).1; simpa [fgV] using this
    rw [Nat.zero_add, ho.cellAt _ (by omega)]
    exact h1 j u hu
  refine ⟨_, rfl, ⟨some ⟨W.heap.size, 0, none⟩, l.length, rfl, fun _ => ⟨W.heap.size, 0, rfl, Nat.le_refl _, hz, FRow.of fun i x hx => ?_⟩⟩, hb, ⟨some ⟨W.heap.size, 0, none⟩, l.length, rfl, Nat.le_refl _, fun _ => ⟨W.heap.size, 0, rfl, RowC.of fun i x hx => ?_⟩⟩⟩
  · obtain ⟨kv, h1, h2, h3⟩ := hcell i x hx
    exact FElt.of (kv := kv) h1 (h2.keep (fun b p _ => ⟨Nat.le_of_lt p, rfl⟩) (Nat.le_refl _))
  · obtain ⟨kv, h1, h2, h3⟩ := hcell i x hx
    exact EltC.of (h1 6 kv rfl) h3
set_option maxRecDepth 100000 in
set_option maxHeartbeats 8000000 in
theorem copied_run (P : Nat → Prop) (l : List Fg) (v : Value) (W : World) (hv : FVal W P v l) (hl : l.length ≤ 1599289640000)
    (HC : ∀ x ∈ l, ∀ (kv : Value) (w : World), FVal w P kv x.kids → Calls Tryz.prog 55 #[kv] w (CopPost x.kids w)) : Calls Tryz.prog 55 #[v] W (CopPost l W) := by
  obtain ⟨b, c, rfl, hrow⟩ := hv
  obtain ⟨MC, hMC, hmk⟩ := make_frags l.length (by omega)
  have HCC := Lib.hid HC
  have HR := Lib.hid hrow
  have HMC := Lib.hid hMC
  clear HC hrow hMC
  by_cases h0 : l = []
  · subst h0
    go_enter Tryz.func55, Tryz.ntmps55
    go_wp2_with fail
    exact bodyPost_ret (v := .slice none 0 0) (by simp [results, Tryz.results55, go_sem]) rfl ⟨_, rfl, FVal.nil _ _ _ _, Below.refl _ _, ValC.nil _⟩
  have h0' : ((l.length : Int) == 0) = false := by rw [beq_eq_false_iff_ne]; have : l.length ≠ 0 := fun h => h0 (List.length_eq_zero_iff.1 h); omega
  clear h0
  go_enter Tryz.func55, Tryz.ntmps55
  go_wp2_with fail
  go_loopw [14] (fun iv wr => ∃ k : Nat, iv = .int .i64 (k : Int) ∧ Hid (CLoop l W k wr)) (fun iv _ => l.length - (intOf iv).toNat)
  case atStart => exact ⟨0, rfl, Lib.hid ⟨Nat.zero_le _, (Below.refl _ W).alloc (Nat.le_refl _) _, by simp, _, HMC.out W, fun i y h => absurd h (Nat.not_lt_zero _)⟩⟩
  case round =>
    obtain ⟨k, rfl, hr⟩ := hrel
    obtain ⟨hk, hbe, hzz, xs, how, hold⟩ := hr.out
    have w3' : IntKind.i64.wrap ((k : Int) + 1) = (k : Int) + 1 := IntWalk.i64_in _ (by omega)
    by_cases hlt : k < l.length
    · obtain ⟨x, hx⟩ : ∃ x, l[k]? = some x := ⟨_, List.getElem?_eq_getElem hlt⟩
      obtain ⟨g, o, rfl, hp, hg, hrw⟩ := HR.out (by rintro rfl; simp at hlt)
      obtain ⟨kv, hcell, ka, kc, rfl, hkr⟩ := (hrw.get hx).parts
      have hcell' : ∀ j u, (fgV x (.slice ka x.kids.length kc))[j]? = some u → wr.cell? ⟨g, o + k * 7 + j, none⟩ = some u := fun j u hu => (hbe.cell (p := ⟨g, o + k * 7 + j, none⟩) hg).trans (hcell j u hu)
      have e0 : wr.cell? ⟨g, o + k * 7, none⟩ = some (.int .i64 x.tok.1) := hcell' 0 _ rfl
      have e1 : wr.cell? ⟨g, o + k * 7 + 1, none⟩ = some (.int .i64 x.tok.2.1) := hcell' 1 _ rfl
      have e2 : wr.cell? ⟨g, o + k * 7 + 2, none⟩ = some (.string x.tok.2.2.1) := hcell' 2 _ rfl
      have e3 : wr.cell? ⟨g, o + k * 7 + 3, none⟩ = some (.int .i64 x.tok.2.2.2.1) := hcell' 3 _ rfl
      have e4 : wr.cell? ⟨g, o + k * 7 + 4, none⟩ = some (.int .i64 x.tok.2.2.2.2) := hcell' 4 _ rfl
      have e5 : wr.cell? ⟨g, o + k * 7 + 5, none⟩ = some (.string x.opn) := hcell' 5 _ rfl
      have e6 : wr.cell? ⟨g, o + k * 7 + 6, none⟩ = some (.slice ka x.kids.length kc) := hcell' 6 _ rfl
      have hlt' : (k : Int) < (l.length : Int) := by omega
      have HKV : Hid (FVal W P (.slice ka x.kids.length kc) x.kids) := Lib.hid ⟨_, _, rfl, hkr⟩
      have HBE := Lib.hid hbe
      have HZZ := Lib.hid hzz
      have HX := Lib.hid hx
      have HOW := Lib.hid how
      have HOLD := Lib.hid hold
      have hCx : ∀ (kv : Value) (w : World), FVal w P kv x.kids → Calls Tryz.prog 55 #[kv] w (CopPost x.kids w) := HCC.out x (List.mem_of_getElem? hx)
      have HCX := Lib.hid hCx
      clear hr hcell hcell' hbe hzz hrw hx hkr how hold hCx
      obtain ⟨⟨k0, n0, s0, a0, m0⟩, op, ks⟩ := x
      simp only [Fg.tok, Fg.opn, Fg.kids] at e0 e1 e2 e3 e4 e5 e6 HKV HCX
      have HXS : Hid (∀ w4 : World, Below (wr.heap.size + 1) (wr.alloc (.cells #[.int .i64 k0, .int .i64 n0, .string s0, .int .i64 a0, .int .i64 m0, .string op, .slice ka ks.length kc] 52)) w4 →
          w4.ownsRow W.heap.size 52 7 (.slice (some ⟨W.heap.size, 0, none⟩) l.length l.length) l.length xs ∧ ∀ j v, (#[Value.int .i64 k0, .int .i64 n0, .string s0, .int .i64 a0, .int .i64 m0, .string op, .slice ka ks.length kc] : Array Value)[j]? = some v → w4.cell? ⟨wr.heap.size, j, none⟩ = some v) := Lib.hid fun w4 hb4 =>
        ⟨ownsRow_block HOW.out ((hb4.block _ (by have := HZZ.out; omega)).trans (Below.heap_alloc _ _ _ HZZ.out)), fun j v hv => (hb4.cell (p := ⟨wr.heap.size, j, none⟩) (Nat.lt_succ_self _)).trans (by rw [fcell_at (heap_alloc_new wr _)]; exact hv)⟩
      have HCELL : Hid (∀ m, m < 7 → ∃ z, xs[k * 7 + m]? = some z) := Lib.hid fun m hm => ⟨_, List.getElem?_eq_getElem (by have := HOW.out.1; omega)⟩
      go_wp2_with fail
      have HBA : Hid (Below W.heap.size W (wr.alloc (.cells #[.int .i64 k0, .int .i64 n0, .string s0, .int .i64 a0, .int .i64 m0, .string op, .slice ka ks.length kc] 52))) := Lib.hid (HBE.out.alloc HBE.out.size _)
      go_region_law (go_simp; go_at_call 55; refine (HCX.out _ _ (HKV.out.below (by first | exact (HBA.out).drew | exact HBA.out))).mono ?_; rintro e w4 ⟨_, rfl, ⟨a4, c4, rfl, hr4⟩, hb4, hvc4⟩; have HVC := Lib.hid hvc4; have HB4 : Hid (Below (wr.heap.size + 1) (wr.alloc (.cells #[.int .i64 k0, .int .i64 n0, .string s0, .int .i64 a0, .int .i64 m0, .string op, .slice ka ks.length kc] 52)) w4) := Lib.hid (below_undrew (hb4.mono (by simp))); have HV4 : Hid (FVal w4 (fun b => W.heap.size < b) (.slice a4 ks.length c4) ks) := Lib.hid (FVal.keep (w := w4) (P := fun b => _ ≤ b) ⟨a4, c4, rfl, hr4⟩ (fun q p _ => ⟨by have := HZZ.out; simp at p; omega, rfl⟩) (Nat.le_refl _)); obtain ⟨ho4, hc4⟩ := HXS.out w4 HB4.out; have c0 := hc4 0 _ rfl; have c1 := hc4 1 _ rfl; have c2 := hc4 2 _ rfl; have c3 := hc4 3 _ rfl; have c4' := hc4 4 _ rfl; have c5 := hc4 5 _ rfl; have c6 := hc4 6 _ rfl; obtain ⟨z0, hz0⟩ := HCELL.out 0 (by omega); obtain ⟨z1, hz1⟩ := HCELL.out 1 (by omega); obtain ⟨z2, hz2⟩ := HCELL.out 2 (by omega); obtain ⟨z3, hz3⟩ := HCELL.out 3 (by omega); obtain ⟨z4, hz4⟩ := HCELL.out 4 (by omega); obtain ⟨z5, hz5⟩ := HCELL.out 5 (by omega); obtain ⟨z6, hz6⟩ := HCELL.out 6 (by omega); have y0 : w4.cell? ⟨W.heap.size, k * 7, none⟩ = some z0 := (ho4.cellAt _ (by omega)).trans hz0; have y1 := (ho4.cellAt _ (by omega)).trans hz1; have y2 := (ho4.cellAt _ (by omega)).trans hz2; have y3 := (ho4.cellAt _ (by omega)).trans hz3; have y4 := (ho4.cellAt _ (by omega)).trans hz4; have y5 := (ho4.cellAt _ (by omega)).trans hz5; have y6 := (ho4.cellAt _ (by omega)).trans hz6; have fz := ho4.frozenAt; have HO4 := Lib.hid ho4; clear hr4 hb4 hvc4 ho4 hc4 hz0 hz1 hz2 hz3 hz4 hz5 hz6)
      all_goals go_wp2_with fail
      all_goals exact ⟨⟨k + 1, by simp, Lib.hid (cop_next HX.out rfl (HBA.out.trans (HB4.out.mono (by have := HZZ.out; omega))) (by have := HB4.out.size; have := HZZ.out; simp at *; omega) HO4.out (fun i y hi hy => by
        obtain ⟨kv, a1, a2, a3⟩ := HOLD.out i y hi hy
        exact ⟨kv, a1, a2.keep (fun q p z => ⟨p, (HB4.out.block q (by omega)).trans (Below.heap_alloc _ _ _ z)⟩) (by have := HB4.out.size; simp at this; omega), a3.keep a2 (fun q p z => (HB4.out.block q (by omega)).trans (Below.heap_alloc _ _ _ z))⟩) HV4.out HVC.out)⟩, by simp only [intOf]; omega⟩
    · have hlt' : ((k : Int) < (l.length : Int)) = False := by simp; omega
      have hkl : k = l.length := by omega
      subst hkl
      have HEND := Lib.hid (cop_end hr.out)
      clear hr hbe hzz how hold
      go_wp2_with fail
      exact bodyPost_ret (v := .slice (some ⟨W.heap.size, 0, none⟩) l.length l.length) (by simp [results, Tryz.results55, go_sem]) rfl HEND.out
theorem copied_any (P : Nat → Prop) : ∀ (l : List Fg) (v : Value) (W : World), FVal W P v l → l.length ≤ 1599289640000 → FgsLe 1599289640000 l → Calls Tryz.prog 55 #[v] W (CopPost l W)
  | l, v, W, h1, h2, h3 => copied_run P l v W h1 h2 fun x hx kv w hk =>
    have := kids_lt hx
    copied_any P x.kids kv w hk (h3.mem hx).1 (h3.mem hx).2
termination_by l => SizeOf.sizeOf l
end

end Go.Proofs.YtafncodigpjkaaaGreatDoor
