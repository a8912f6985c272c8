/-
  The reader of fragments, as a function of lists.
  An error of the reader at a place does not depend on what lies more than two tokens behind it.
  Fragments in memory.
-/
import Derived.Below
import Derived.OwnWalk
import Derived.Laws.OwnMore
namespace Go.Proofs.YtafncodigpjkaaaGreatDoor
section

instance memB' (x : ByteArray) : (l : List ByteArray) → Decidable (x ∈ l)
  | [] => .isFalse (by simp)
  | y :: r => if h : x = y then .isTrue (by simp [h]) else match memB' x r with
    | .isTrue h' => .isTrue (by simp [h'])
    | .isFalse h' => .isFalse (by simp [h, h'])
/-- A token: kind, number, text, place, mark. -/
abbrev Tkn := Int × Int × ByteArray × Int × Int
inductive Fg where
  | mk (tok : Tkn) (opn : ByteArray) (kids : List Fg)
def Fg.tok : Fg → Tkn | .mk t _ _ => t
def Fg.opn : Fg → ByteArray | .mk _ o _ => o
def Fg.kids : Fg → List Fg | .mk _ _ k => k
structure Gp where
  tok : Tkn
  opn : ByteArray
  kids : List Fg
  pl : Nat
def Gp.fg (g : Gp) : Fg := .mk g.tok g.opn g.kids
def Gp.add (g : Gp) (f : Fg) : Gp := { g with kids := g.kids ++ [f] }
def sNo : ByteArray := ⟨#[]⟩
def sPar : ByteArray := ⟨#[40]⟩
def sRap : ByteArray := ⟨#[41]⟩
def sBra : ByteArray := ⟨#[91]⟩
def sKet : ByteArray := ⟨#[93]⟩
def sCur : ByteArray := ⟨#[123]⟩
def sRuc : ByteArray := ⟨#[125]⟩
def sBegin : ByteArray := ⟨#[98, 101, 103, 105, 110]⟩
def sIf : ByteArray := ⟨#[105, 102]⟩
def sBlock : ByteArray := ⟨#[98, 108, 111, 99, 107]⟩
def sMethod : ByteArray := ⟨#[109, 101, 116, 104, 111, 100]⟩
def sClass : ByteArray := ⟨#[99, 108, 97, 115, 115]⟩
def sMacro : ByteArray := ⟨#[109, 97, 99, 114, 111]⟩
def sEnd : ByteArray := ⟨#[101, 110, 100]⟩
def sSlot : ByteArray := ⟨#[115, 108, 111, 116]⟩
def sSemi : ByteArray := ⟨#[59]⟩
def sComma : ByteArray := ⟨#[44]⟩
def basics : List ByteArray := [sPar, sBra, sCur, sBegin, sIf, sBlock, sMethod, sClass, sMacro]
def closers : List ByteArray := [sRap, sKet, sRuc, sEnd]
def stops : List ByteArray := [sSemi, sComma, sRap, sKet, sRuc]
def isNamed (s : ByteArray) : Bool := decide (s = sMethod) || (decide (s = sClass) || decide (s = sMacro))
def isNameM (l : List Tkn) (i : Nat) (s : ByteArray) : Bool := match l[i]? with
  | some t => decide (t.1 = 1) && decide (t.2.2.1 = s)
  | none => false
def opensM (ws : List ByteArray) (l : List Tkn) (i : Nat) (t : Tkn) (top : Gp) : Bool :=
  if t.2.2.1 ∈ basics ++ ws then
    if t.1 = 1 then !(decide (top.opn = sMacro) && decide (top.pl + 1 = i)) && !(decide (t.2.2.1 = sClass) && isNameM l (i + 1) sSlot) else true
  else false
def closingM (o : ByteArray) : ByteArray := if o = sPar then sRap else if o = sBra then sKet else if o = sCur then sRuc else sEnd
def nameOfM : List Fg → Option ByteArray
  | [] => none
  | f :: _ => if f.opn = sNo ∧ f.tok.1 = 1 then some f.tok.2.2.1 else none
def isStopM (l : List Tkn) (j : Nat) : Bool := match l[j]? with
  | none => true
  | some t => (decide (t.1 = 1) && decide (t.2.2.1 = sEnd)) || (decide (t.1 = 5) && decide (t.2.2.1 ∈ stops))
def skipW (l : List Tkn) (i : Nat) (o : ByteArray) : Nat := if isNameM l i o then i + 1 else i
def skipN (l : List Tkn) (i : Nat) (k : List Fg) : Nat := match nameOfM k with
  | some nm => if isNameM l i nm then i + 1 else i
  | none => i
def behindM (l : List Tkn) (i : Nat) (g : Gp) (b : Nat) : Nat :=
  if isStopM l (skipN l (skipW l (i + 1) g.opn) g.kids) then skipN l (skipW l (i + 1) g.opn) g.kids else b
structure RS where
  pre : List Gp
  top : Gp
  beh : Nat
inductive Act3 where
  | skip | opn | cls | put
def actM (ws : List ByteArray) (l : List Tkn) (i : Nat) (t : Tkn) (s : RS) : Act3 :=
  if i < s.beh then .skip else if opensM ws l i t s.top then .opn else if t.2.2.1 ∈ closers then .cls else .put
def clsM (l : List Tkn) (i : Nat) (s : RS) : RS := match s.pre.getLast? with
  | none => s
  | some g => ⟨s.pre.dropLast, g.add s.top.fg, if isNamed s.top.opn then behindM l i s.top s.beh else s.beh⟩
def stepM (ok : Tkn → Bool) (ws : List ByteArray) (l : List Tkn) (i : Nat) (t : Tkn) (s : RS) : Except (Nat × Nat) RS :=
  if ok t then match actM ws l i t s with
    | .skip => .ok s
    | .opn => if 100 < s.pre.length + 1 then .error (i, 6) else .ok ⟨s.pre ++ [s.top], ⟨t, t.2.2.1, [], i⟩, s.beh⟩
    | .cls => if s.top.opn = sNo ∨ closingM s.top.opn ≠ t.2.2.1 then .error (i, 20) else .ok (clsM l i s)
    | .put => .ok ⟨s.pre, s.top.add (.mk t sNo []), s.beh⟩
  else .error (i, 14)
/-- The rest of the tokens, from the place i on. -/
def runM (ok : Tkn → Bool) (ws : List ByteArray) (l : List Tkn) : List Tkn → Nat → RS → Except (Nat × Nat) (List Fg)
  | [], _, s => if s.pre = [] then .ok s.top.kids else .error (s.top.pl, 21)
  | t :: r, i, s => match stepM ok ws l i t s with
    | .error p => .error p
    | .ok s' => runM ok ws l r (i + 1) s'
def zeroT : Tkn := (0, 0, sNo, 0, 0)
def rs0 : RS := ⟨[], ⟨zeroT, sNo, [], 0⟩, 0⟩
def rightM (plain : ByteArray → Bool) (ws : List ByteArray) : Bool :=
  decide (ws.length ≤ 40) && (ws.all plain && (ws.all (fun x => !decide (x ∈ [sBegin, sIf, sBlock, sMethod, sClass, sMacro, sEnd, sSlot])) && decide ws.Nodup))
def readM (ok : Tkn → Bool) (plain : ByteArray → Bool) (l : List Tkn) (ws : List ByteArray) : Except (Nat × Nat) (List Fg) :=
  if rightM plain ws then if 6000 < l.length then .error (0, 2) else runM ok ws l l 0 rs0 else .error (0, 1)

/-- What holds of the groups that are open. -/
structure RsOk (ws : List ByteArray) (i : Nat) (s : RS) : Prop where
  deep : s.pre.length ≤ 100
  root : s.pre = [] → s.top.opn = sNo
  root' : ∀ g r, s.pre = g :: r → g.opn = sNo
  top : s.pre ≠ [] → s.top.opn ∈ basics ++ ws
  mid : ∀ g r x, s.pre = g :: r → x ∈ r → x.opn ∈ basics ++ ws
  pl : s.top.pl ≤ i
  pls : ∀ x ∈ s.pre, x.pl ≤ i
  beh : s.beh ≤ i + 3
theorem rs0_ok (ws : List ByteArray) : RsOk ws 0 rs0 :=
  ⟨by simp [rs0], fun _ => rfl, (fun _ _ h => by cases h), fun h => absurd rfl h, (fun _ _ _ h => by cases h), by simp [rs0], (fun _ h => by cases h), by simp [rs0]⟩
theorem skipW_le (l : List Tkn) (i : Nat) (o : ByteArray) : i ≤ skipW l i o ∧ skipW l i o ≤ i + 1 := by unfold skipW; split <;> omega
theorem skipN_le (l : List Tkn) (i : Nat) (k : List Fg) : i ≤ skipN l i k ∧ skipN l i k ≤ i + 1 := by
  unfold skipN; split
  · split <;> omega
  · omega
theorem isNameM_lt {l : List Tkn} {i : Nat} {s : ByteArray} (h : isNameM l i s = true) : i < l.length := by
  unfold isNameM at h
  split at h
  · exact (List.getElem?_eq_some_iff.1 ‹_›).1
  · cases h
theorem skipW_len (l : List Tkn) (i : Nat) (o : ByteArray) (h : i ≤ l.length) : skipW l i o ≤ l.length := by
  unfold skipW
  split
  · have := isNameM_lt ‹_›; omega
  · exact h
theorem skipN_len (l : List Tkn) (i : Nat) (k : List Fg) (h : i ≤ l.length) : skipN l i k ≤ l.length := by
  unfold skipN
  split
  · split
    · have := isNameM_lt ‹_›; omega
    · exact h
  · exact h
theorem stepM_ok {ok : Tkn → Bool} {ws : List ByteArray} {l : List Tkn} {i : Nat} {t : Tkn} {s s' : RS} (hr : RsOk ws i s) (h : stepM ok ws l i t s = .ok s') : RsOk ws (i + 1) s' := by
  unfold stepM at h
  split at h
  · split at h
    · cases h
      exact { hr with pl := by have := hr.pl; omega, pls := fun x hx => by have := hr.pls x hx; omega, beh := by have := hr.beh; omega }
    · rename_i ha
      split at h
      · cases h
      · cases h
        have hop : t.2.2.1 ∈ basics ++ ws := by
          unfold actM at ha
          split at ha
          · cases ha
          · split at ha
            · rename_i ho
              unfold opensM at ho
              split at ho
              · assumption
              · cases ho
            · split at ha <;> cases ha
        refine ⟨by simp; omega, fun h => by simp at h, ?_, fun _ => hop, ?_, by simp, ?_, by have := hr.beh; simp only; omega⟩
        · intro g r h
          rcases hp : s.pre with _ | ⟨g0, r0⟩
          · rw [hp] at h
            simp only [List.nil_append, List.cons.injEq] at h
            rw [← h.1]
            exact hr.root hp
          · rw [hp] at h
            simp only [List.cons_append, List.cons.injEq] at h
            rw [← h.1]
            exact hr.root' _ _ hp
        · intro g r x h hx
          rcases hp : s.pre with _ | ⟨g0, r0⟩
          · rw [hp] at h
            simp only [List.nil_append, List.cons.injEq] at h
            rw [← h.2] at hx
            cases hx
          · rw [hp] at h
            simp only [List.cons_append, List.cons.injEq] at h
            rw [← h.2] at hx
            rcases List.mem_append.1 hx with hx | hx
            · exact hr.mid _ _ _ hp hx
            · simp only [List.mem_singleton] at hx
              subst hx
              exact hr.top (by rw [hp]; simp)
        · intro x hx
          rcases List.mem_append.1 hx with hx | hx
          · have := hr.pls x hx; omega
          · simp only [List.mem_singleton] at hx
            subst hx
            have := hr.pl; omega
    · split at h
      · cases h
      · rename_i hne
        cases h
        unfold clsM
        rcases hp : s.pre.getLast? with _ | g
        · have : s.pre = [] := List.getLast?_eq_none_iff.1 hp
          exact absurd (.inl (hr.root this)) hne
        · have hne' : s.pre ≠ [] := by rintro e; rw [e] at hp; cases hp
          have hg : s.pre = s.pre.dropLast ++ [g] := by
            have h1 := List.dropLast_concat_getLast hne'
            rw [List.getLast?_eq_some_getLast hne'] at hp
            cases hp
            exact h1.symm
          have hgm : g ∈ s.pre := by rw [hg]; simp
          have hb : ∀ b, b ≤ i + 3 → (if isNamed s.top.opn then behindM l i s.top b else b) ≤ i + 1 + 3 := by
            intro b hb
            split
            · unfold behindM
              have h1 := skipW_le l (i + 1) s.top.opn
              have h2 := skipN_le l (skipW l (i + 1) s.top.opn) s.top.kids
              split <;> omega
            · omega
          refine ⟨by have := hr.deep; simp; omega, ?_, ?_, ?_, ?_, by have := hr.pls g hgm; simp [Gp.add]; omega, ?_, hb _ hr.beh⟩
          · intro e
            have e' : s.pre.dropLast = [] := e
            rw [e', List.nil_append] at hg
            show g.opn = sNo
            exact hr.root' _ _ hg
          · intro g0 r e
            have e' : s.pre.dropLast = g0 :: r := e
            rw [e'] at hg
            exact hr.root' _ _ hg
          · intro e
            have e' : s.pre.dropLast ≠ [] := e
            rcases hd : s.pre.dropLast with _ | ⟨g0, r⟩
            · exact absurd hd e'
            · rw [hd] at hg
              exact hr.mid g0 (r ++ [g]) g hg (by simp)
          · intro g0 r x e hx
            have e' : s.pre.dropLast = g0 :: r := e
            rw [e'] at hg
            exact hr.mid g0 (r ++ [g]) x hg (List.mem_append_left _ hx)
          · intro x hx
            have := hr.pls x ((List.dropLast_sublist _).subset hx); omega
    · cases h
      exact { hr with pl := by have := hr.pl; simp only [Gp.add]; omega, pls := fun x hx => by have := hr.pls x hx; omega, beh := by have := hr.beh; simp only; omega, top := fun h => hr.top h, root := fun h => hr.root h }
  · cases h
end

section

section
variable {ok : Tkn → Bool} {ws : List ByteArray}
theorem drop_cons {α : Type} {l : List α} {i : Nat} (h : i < l.length) : l.drop i = l[i] :: l.drop (i + 1) := List.drop_eq_getElem_cons h
end
end

section
open Go.RowKit

def fgV (x : Fg) (kv : Value) : List Value :=
  [.int .i64 x.tok.1, .int .i64 x.tok.2.1, .string x.tok.2.2.1, .int .i64 x.tok.2.2.2.1, .int .i64 x.tok.2.2.2.2, .string x.opn, kv]
theorem fgV_length (x : Fg) (kv : Value) : (fgV x kv).length = 7 := rfl

mutual
/-- At an address lies a fragment; the blocks of its kids, and of theirs, are P's. -/
def FElt (w : World) (P : Nat → Prop) : Fg → Nat → Nat → Prop
  | .mk t o ks, g, off => ∃ a c, (∀ j u, (fgV (.mk t o ks) (.slice a ks.length c))[j]? = some u → w.cell? ⟨g, off + j, none⟩ = some u) ∧
      (ks ≠ [] → ∃ g' o', a = some ⟨g', o', none⟩ ∧ P g' ∧ g' < w.heap.size ∧ FRow w P ks g' o')
def FRow (w : World) (P : Nat → Prop) : List Fg → Nat → Nat → Prop
  | [], _, _ => True
  | x :: r, g, off => FElt w P x g off ∧ FRow w P r g (off + 7)
end
/-- A value is a list of fragments. -/
def FVal (w : World) (P : Nat → Prop) (v : Value) (l : List Fg) : Prop :=
  ∃ a c, v = .slice a l.length c ∧ (l ≠ [] → ∃ g o, a = some ⟨g, o, none⟩ ∧ P g ∧ g < w.heap.size ∧ FRow w P l g o)

theorem FElt.parts {w : World} {P : Nat → Prop} : ∀ {x : Fg} {g off : Nat}, FElt w P x g off → ∃ kv, (∀ j u, (fgV x kv)[j]? = some u → w.cell? ⟨g, off + j, none⟩ = some u) ∧ FVal w P kv x.kids
  | .mk t o ks, g, off, h => by
    unfold FElt at h
    obtain ⟨a, c, h1, h2⟩ := h
    exact ⟨.slice a ks.length c, h1, a, c, rfl, h2⟩
theorem FElt.of {w : World} {P : Nat → Prop} {kv : Value} : ∀ {x : Fg} {g off : Nat}, (∀ j u, (fgV x kv)[j]? = some u → w.cell? ⟨g, off + j, none⟩ = some u) → FVal w P kv x.kids → FElt w P x g off
  | .mk t o ks, g, off, h, ⟨a, c, hv, hk⟩ => by
    unfold FElt
    subst hv
    exact ⟨a, c, h, hk⟩
theorem FRow.get {w : World} {P : Nat → Prop} : ∀ {l : List Fg} {g off : Nat}, FRow w P l g off → ∀ {i : Nat} {x : Fg}, l[i]? = some x → FElt w P x g (off + i * 7)
  | [], _, _, _, _, _, h => by cases h
  | y :: r, g, off, h, 0, x, hx => by
    unfold FRow at h
    simp only [List.getElem?_cons_zero, Option.some.injEq] at hx
    subst hx
    simpa using h.1
  | y :: r, g, off, h, i + 1, x, hx => by
    unfold FRow at h
    have := h.2.get (i := i) (x := x) (by simpa using hx)
    have e : off + 7 + i * 7 = off + (i + 1) * 7 := by omega
    rwa [e] at this
theorem FRow.of {w : World} {P : Nat → Prop} : ∀ {l : List Fg} {g off : Nat}, (∀ i x, l[i]? = some x → FElt w P x g (off + i * 7)) → FRow w P l g off
  | [], _, _, _ => by unfold FRow; trivial
  | y :: r, g, off, h => by
    unfold FRow
    refine ⟨by simpa using h 0 y rfl, FRow.of fun i x hx => ?_⟩
    have := h (i + 1) x (by simpa using hx)
    have e : off + 7 + i * 7 = off + (i + 1) * 7 := by omega
    rwa [e]
mutual
theorem FElt.keep {w w' : World} {P P' : Nat → Prop} (hP : ∀ b, P b → b < w.heap.size → P' b ∧ w'.heap[b]? = w.heap[b]?) (hs : w.heap.size ≤ w'.heap.size) : ∀ {x : Fg} {g off : Nat}, w'.heap[g]? = w.heap[g]? → FElt w P x g off → FElt w' P' x g off
  | .mk t o ks, g, off, hg, h => by
    unfold FElt at h ⊢
    obtain ⟨a, c, h1, h2⟩ := h
    refine ⟨a, c, fun j u hu => (World.cell?_of_block (w := w) (a := ⟨g, off + j, none⟩) hg).trans (h1 j u hu), fun hk => ?_⟩
    obtain ⟨g', o', e, p, z, hr⟩ := h2 hk
    exact ⟨g', o', e, (hP g' p z).1, by omega, FRow.keep hP hs (hP g' p z).2 hr⟩
theorem FRow.keep {w w' : World} {P P' : Nat → Prop} (hP : ∀ b, P b → b < w.heap.size → P' b ∧ w'.heap[b]? = w.heap[b]?) (hs : w.heap.size ≤ w'.heap.size) : ∀ {l : List Fg} {g off : Nat}, w'.heap[g]? = w.heap[g]? → FRow w P l g off → FRow w' P' l g off
  | [], _, _, _, _ => by unfold FRow; trivial
  | x :: r, g, off, hg, h => by
    unfold FRow at h ⊢
    exact ⟨FElt.keep hP hs hg h.1, FRow.keep hP hs hg h.2⟩
end
theorem FVal.keep {w w' : World} {P P' : Nat → Prop} {v : Value} {l : List Fg} (h : FVal w P v l) (hP : ∀ b, P b → b < w.heap.size → P' b ∧ w'.heap[b]? = w.heap[b]?) (hs : w.heap.size ≤ w'.heap.size) : FVal w' P' v l := by
  obtain ⟨a, c, rfl, hr⟩ := h
  refine ⟨a, c, rfl, fun hne => ?_⟩
  obtain ⟨g, o, e, p, z, hr⟩ := hr hne
  exact ⟨g, o, e, (hP g p z).1, by omega, FRow.keep hP hs (hP g p z).2 hr⟩
theorem FVal.nil (w : World) (P : Nat → Prop) (a : Option Addr) (c : Nat) : FVal w P (.slice a 0 c) [] := ⟨a, c, rfl, fun h => absurd rfl h⟩
theorem FVal.below {w w' : World} {P : Nat → Prop} {v : Value} {l : List Fg} (h : FVal w P v l) (hb : Below w.heap.size w w') : FVal w' P v l := h.keep (fun b p z => ⟨p, hb.block b z⟩) hb.size

/-- The cells of a row of fragments, given the values of their kids. -/
def flatF (l : List Fg) (kvs : List Value) : List Value := (l.zip kvs).flatMap fun p => fgV p.1 p.2
theorem flatF_snoc {l : List Fg} {kvs : List Value} (h : kvs.length = l.length) (x : Fg) (kv : Value) : flatF (l ++ [x]) (kvs ++ [kv]) = flatF l kvs ++ fgV x kv := by
  unfold flatF
  rw [List.zip_append h.symm, List.flatMap_append]
  simp
theorem flatMap_get {α β : Type} (f : α → List β) (n : Nat) : ∀ (l : List α) (i j : Nat) (x : α), (∀ y ∈ l, (f y).length = n) → l[i]? = some x → j < n → (l.flatMap f)[i * n + j]? = (f x)[j]?
  | [], _, _, _, _, h, _ => by cases h
  | y :: r, 0, j, x, hn, h, hj => by
    simp only [List.getElem?_cons_zero, Option.some.injEq] at h
    subst h
    rw [List.flatMap_cons, List.getElem?_append_left (by rw [hn y (by simp)]; omega)]
    congr 1; omega
  | y :: r, i + 1, j, x, hn, h, hj => by
    rw [List.flatMap_cons, List.getElem?_append_right (by rw [hn y (by simp), Nat.succ_mul]; omega), hn y (by simp)]
    have := flatMap_get f n r i j x (fun z hz => hn z (by simp [hz])) (by simpa using h) hj
    rw [← this]
    congr 1
    rw [Nat.succ_mul]; omega
theorem flatF_get {l : List Fg} {kvs : List Value} {i j : Nat} {x : Fg} {kv : Value} (hx : l[i]? = some x) (hk : kvs[i]? = some kv) (hj : j < 7) : (flatF l kvs)[i * 7 + j]? = (fgV x kv)[j]? := by
  unfold flatF
  exact flatMap_get (fun p : Fg × Value => fgV p.1 p.2) 7 (l.zip kvs) i j (x, kv) (fun _ _ => rfl) (by rw [List.getElem?_zip_eq_some]; exact ⟨hx, hk⟩) hj
theorem flatF_length {l : List Fg} {kvs : List Value} (h : kvs.length = l.length) : (flatF l kvs).length = l.length * 7 := by
  induction l generalizing kvs with
  | nil => simp [flatF]
  | cons x r ih =>
    rcases kvs with _ | ⟨kv, kvs⟩
    · cases h
    · have e : flatF (x :: r) (kv :: kvs) = fgV x kv ++ flatF r kvs := by simp [flatF]
      rw [e, List.length_append, ih (by simpa using h), fgV_length, List.length_cons]; omega

theorem addr_zero (g j : Nat) : (⟨g, 0, none⟩ : Addr).add j = ⟨g, j, none⟩ := by unfold Addr.add; split <;> simp_all
/-- A list of fragments in a row of the call's own. -/
def FOwn (w : World) (base : Nat) (P : Nat → Prop) (v : Value) (l : List Fg) : Prop :=
  ∃ kvs : List Value, kvs.length = l.length ∧ w.ownsRow base 52 7 v l.length (flatF l kvs) ∧ ∀ (i : Nat) (x : Fg) (u : Value), l[i]? = some x → kvs[i]? = some u → FVal w P u x.kids
theorem FOwn.nil (w : World) (base : Nat) (P : Nat → Prop) : FOwn w base P (.slice none 0 0) [] := ⟨[], rfl, World.ownsRow_nil _ _ _ _, (fun _ _ _ h => by cases h)⟩
theorem FOwn.keep {w w' : World} {base : Nat} {P P' : Nat → Prop} {v : Value} {l : List Fg} (h : FOwn w base P v l) (hP : ∀ b, P b → b < w.heap.size → P' b ∧ w'.heap[b]? = w.heap[b]?) (hs : w.heap.size ≤ w'.heap.size)
    (hv : ∀ b, v.ownBlock = some b → b < w.heap.size → w'.heap[b]? = w.heap[b]?) : FOwn w' base P' v l := by
  obtain ⟨kvs, h1, h2, h3⟩ := h
  refine ⟨kvs, h1, ⟨h2.1, ?_⟩, fun i x u hx hu => (h3 i x u hx hu).keep hP hs⟩
  rcases h2.2 with hn | ⟨g, cap, cur, rfl, hb, hg, rest⟩
  · exact .inl hn
  · exact .inr ⟨g, cap, cur, rfl, hb, (hv g rfl (Array.getElem?_eq_some_iff.1 hg).1).trans hg, rest⟩
theorem FOwn.val {w : World} {base : Nat} {P P' : Nat → Prop} {v : Value} {l : List Fg} (h : FOwn w base P v l) (hP : ∀ b, P b → P' b) (hv : ∀ b, v.ownBlock = some b → P' b) : FVal w P' v l := by
  obtain ⟨kvs, h1, h2, h3⟩ := h
  have hc := fun g => h2.cells (g := g)
  rcases h2.2 with ⟨rfl, hn⟩ | ⟨g, cap, cur, rfl, hb, hg, _⟩
  · rw [List.length_eq_zero_iff.1 hn]
    exact FVal.nil _ _ _ _
  · refine ⟨some ⟨g, 0, none⟩, cap, rfl, fun _ => ⟨g, 0, rfl, hv g rfl, (Array.getElem?_eq_some_iff.1 hg).1, FRow.of fun i x hx => ?_⟩⟩
    obtain ⟨kv, hkv⟩ : ∃ kv, kvs[i]? = some kv := ⟨_, List.getElem?_eq_getElem (by have := (List.getElem?_eq_some_iff.1 hx).1; omega)⟩
    refine FElt.of (kv := kv) (fun j u hu => ?_) ((h3 i x kv hx hkv).keep (fun b p _ => ⟨hP b p, rfl⟩) (Nat.le_refl _))
    have hj : j < 7 := by have := (List.getElem?_eq_some_iff.1 hu).1; simpa [fgV] using this
    have := hc g rfl (i * 7 + j) u (by rw [flatF_get hx hkv hj]; exact hu)
    rw [addr_zero] at this
    rw [Nat.zero_add]
    exact this
end

end Go.Proofs.YtafncodigpjkaaaGreatDoor
