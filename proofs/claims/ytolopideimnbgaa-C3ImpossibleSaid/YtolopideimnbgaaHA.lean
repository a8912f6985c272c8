/-
  What lies as it lay; rows of strings; maps from strings.
-/
import Derived.Test.YtolopideimnbgaaChecked
import Derived.Test.YtolopideimnbgaaShelf
import Derived.Tactics
import Derived.Tactics2
import Derived.WalkKit
import Derived.WalkSmall
import Derived.Outline
import Derived.KernelRfl
import Derived.Below
import Derived.BigQuiet
import Derived.IntWalk
import Derived.Carry
import Derived.MapKept
import Derived.Deep.QuietTactic
import Derived.Deep.AppendLies
import Derived.Laws.EntriesVeiled
import Derived.Laws.OwnMore
import Derived.Lib.Hide
import Derived.LoopTactic
import Derived.OwnWalk
import Derived.RangeFuncNested
import Derived.RangeFuncBound
import Derived.RangeFuncBox
import Derived.RangeFuncCalls
import Derived.RangeFuncLeaves
namespace Go.Proofs.Ytolopideimnbgaa
open Go.RowKit

/-- All blocks but those of S lie as they lay; new ones may have come. -/
structure Keep (S : Nat → Prop) (w w' : World) : Prop where
  os : w'.os = w.os
  tape : w'.tape = w.tape
  output : w'.output = w.output
  size : w.heap.size ≤ w'.heap.size
  block : ∀ k, k < w.heap.size → ¬ S k → w'.heap[k]? = w.heap[k]?
theorem Keep.refl (S : Nat → Prop) (w : World) : Keep S w w := ⟨rfl, rfl, rfl, Nat.le_refl _, fun _ _ _ => rfl⟩
theorem Keep.trans {S : Nat → Prop} {x y z : World} (h : Keep S x y) (k : Keep S y z) : Keep S x z :=
  ⟨k.os.trans h.os, k.tape.trans h.tape, k.output.trans h.output, Nat.le_trans h.size k.size, fun j hj hn => (k.block j (Nat.lt_of_lt_of_le hj h.size) hn).trans (h.block j hj hn)⟩
/-- The second step may turn what is new besides. -/
theorem Keep.trans' {S T : Nat → Prop} {x y z : World} (h : Keep S x y) (k : Keep T y z) (hT : ∀ b, T b → S b ∨ x.heap.size ≤ b) : Keep S x z :=
  ⟨k.os.trans h.os, k.tape.trans h.tape, k.output.trans h.output, Nat.le_trans h.size k.size, fun j hj hn => (k.block j (Nat.lt_of_lt_of_le hj h.size) (fun ht => (hT j ht).elim hn (by omega))).trans (h.block j hj hn)⟩
theorem Keep.mono {S T : Nat → Prop} {x y : World} (h : Keep S x y) (hs : ∀ k, k < x.heap.size → S k → T k) : Keep T x y := ⟨h.os, h.tape, h.output, h.size, fun k hk hn => h.block k hk (fun e => hn (hs k hk e))⟩
theorem Keep.of_below {S : Nat → Prop} {x y : World} (h : Below x.heap.size x y) : Keep S x y := ⟨h.os, h.tape, h.output, h.size, fun k hk _ => h.block k hk⟩
theorem Keep.alloc {S : Nat → Prop} {x y : World} (h : Keep S x y) (o : Obj) : Keep S x (y.alloc o) := h.trans (.of_below ((Below.refl _ _).alloc (Nat.le_refl _) o))
theorem Keep.drew {S : Nat → Prop} {x y : World} (h : Keep S x y) (n : Nat) : Keep S x (y.drewN n) := h.trans (.of_below (below_drewN (Below.refl _ _) n))
theorem Keep.setCell {S : Nat → Prop} {x w : World} (h : Keep S x w) {b : Nat} (hb : S b ∨ x.heap.size ≤ b) (o : Nat) (v : Value) : Keep S x (w.setCell ⟨b, o, none⟩ v) := by
  have hs : (w.setCell ⟨b, o, none⟩ v).heap.size = w.heap.size := by simp
  have hz := (Below.refl 0 w).setCell (p := ⟨b, o, none⟩) (Nat.zero_le _) v
  refine ⟨hz.os.trans h.os, hz.tape.trans h.tape, hz.output.trans h.output, by rw [hs]; exact h.size, fun k hk hn => ?_⟩
  rw [Below.heap_setCell w ⟨b, o, none⟩ v k (fun e => by subst e; exact hb.elim hn (by omega))]; exact h.block k hk hn
theorem Keep.putObj {S : Nat → Prop} {x w : World} (h : Keep S x w) {b : Nat} (hb : S b ∨ x.heap.size ≤ b) (o : Obj) : Keep S x (w.putObj b o) :=
  ⟨h.os, h.tape, h.output, by simpa using h.size, fun k hk hn => (World.putObj_heap_other (fun e => by subst e; exact hb.elim hn (by omega))).trans (h.block k hk hn)⟩
theorem Keep.of_grown {S : Nat → Prop} {x y : World} {row : Option Nat} (h : x.grownBy y row) (hr : ∀ k, row = some k → S k) : Keep S x y :=
  ⟨h.os, h.tape, h.output, h.size, fun k hk hn => h.block k hk (fun e => hn (hr k e.symm))⟩
theorem Keep.cell {S : Nat → Prop} {c o : Nat} {w w' : World} (h : Keep S w w') (hc : c < w.heap.size) (hn : ¬ S c) : w'.cell? ⟨c, o, none⟩ = w.cell? ⟨c, o, none⟩ := World.cell?_of_block (w := w) (h.block c hc hn)
theorem Keep.frozen {S : Nat → Prop} {c o : Nat} {w w' : World} (h : Keep S w w') (hc : c < w.heap.size) (hn : ¬ S c) : w'.frozen? ⟨c, o, none⟩ = w.frozen? ⟨c, o, none⟩ := World.frozen?_of_block (w := w) (h.block c hc hn)
theorem Keep.below {S : Nat → Prop} {B : Nat} {w w' : World} (h : Keep S w w') (hS : ∀ k, S k → B ≤ k) (hB : B ≤ w.heap.size) : Below B w w' :=
  ⟨h.os, h.tape, h.output, h.size, fun k hk => h.block k (by omega) (fun e => by have := hS k e; omega)⟩
theorem Keep.below0 {w w' : World} (h : Keep (fun _ => False) w w') : Below w.heap.size w w' := h.below (fun _ h => h.elim) (Nat.le_refl _)

theorem cellOf {W : World} {k j : Nat} {cs : Array Value} {tt : TypeId} (h : W.heap[k]? = some (.cells cs tt)) : W.cell? ⟨k, j, none⟩ = cs[j]? := by simp [World.cell?, h]
theorem frozenOf {W : World} {k j : Nat} {cs : Array Value} {tt : TypeId} (h : W.heap[k]? = some (.cells cs tt)) : W.frozen? ⟨k, j, none⟩ = false := by simp [World.frozen?, h]
theorem toList_inj {x y : ByteArray} (h : x.toList = y.toList) : x = y := by
  rw [ByteArray.toList_eq, ByteArray.toList_eq] at h
  cases x; cases y; simp at h ⊢; exact h
theorem str_eq {x y : ByteArray} (h : x = y) : (x.toList == y.toList) = true ∧ (x.toList != y.toList) = false := by subst h; simp
theorem str_ne {x y : ByteArray} (h : ¬ x = y) : (x.toList == y.toList) = false ∧ (x.toList != y.toList) = true := by
  have : (x.toList == y.toList) = false := beq_eq_false_iff_ne.2 fun e => h (toList_inj e)
  exact ⟨this, by rw [bne, this]; rfl⟩
theorem str_dec (x y : ByteArray) : (x.toList == y.toList) = decide (x = y) := by
  by_cases h : x = y
  · rw [(str_eq h).1, decide_eq_true h]
  · rw [(str_ne h).1, decide_eq_false h]
theorem lit_eq {o : ByteArray} (l : List UInt8) (h : o = ⟨l.toArray⟩) : (o.toList == l) = true ∧ (o.toList != l) = false := by
  subst h; rw [ByteArray.toList_eq]; simp
theorem lit_ne {o : ByteArray} (l : List UInt8) (h : ¬ o = ⟨l.toArray⟩) : (o.toList == l) = false ∧ (o.toList != l) = true := by
  have : (o.toList == l) = false := beq_eq_false_iff_ne.2 fun e => h (toList_inj (by rw [e, ByteArray.toList_eq]))
  exact ⟨this, by rw [bne, this]; rfl⟩

instance memH (x : ByteArray) : (l : List ByteArray) → Decidable (x ∈ l)
  | [] => .isFalse (by simp)
  | y :: r => match decEq x y, memH x r with
    | .isTrue h, _ => .isTrue (by simp [h])
    | _, .isTrue h => .isTrue (by simp [h])
    | .isFalse h, .isFalse k => .isFalse (by simp [h, k])
instance allH (l : List ByteArray) : (r : List ByteArray) → Decidable (∀ s ∈ r, s ∈ l)
  | [] => .isTrue (by simp)
  | y :: r => match memH y l, allH l r with
    | .isTrue h, .isTrue k => .isTrue (by simpa using ⟨h, k⟩)
    | .isFalse h, _ => .isFalse (fun a => h (a y (.head _)))
    | _, .isFalse h => .isFalse (fun a => h fun s hs => a s (.tail _ hs))
instance nodupH : (l : List ByteArray) → Decidable l.Nodup
  | [] => .isTrue .nil
  | y :: r => match memH y r, nodupH r with
    | .isFalse h, .isTrue k => .isTrue (List.nodup_cons.2 ⟨h, k⟩)
    | .isTrue h, _ => .isFalse fun n => (List.nodup_cons.1 n).1 h
    | _, .isFalse h => .isFalse fun n => h (List.nodup_cons.1 n).2

/-- A list of strings in memory; its row lies in a block of Q. -/
def SAt (w : World) (g o : Nat) (l : List ByteArray) : Prop := ∀ i x, l[i]? = some x → w.cell? ⟨g, o + i, none⟩ = some (.string x)
def SRow (w : World) (Q : Nat → Prop) (v : Value) (l : List ByteArray) : Prop := ∃ b c, v = .slice b l.length c ∧ (l ≠ [] → ∃ g o, b = some ⟨g, o, none⟩ ∧ Q g ∧ g < w.heap.size ∧ SAt w g o l ∧ l.length ≤ c)
theorem SAt.keep {w w' : World} {g o : Nat} {l : List ByteArray} (h : SAt w g o l) (hb : w'.heap[g]? = w.heap[g]?) : SAt w' g o l := fun i x hi => (World.cell?_of_block (w := w) hb).trans (h i x hi)
theorem SRow.keep {w w' : World} {Q : Nat → Prop} {v : Value} {l : List ByteArray} (h : SRow w Q v l) (hk : ∀ b, Q b → b < w.heap.size → w'.heap[b]? = w.heap[b]?) (hs : w.heap.size ≤ w'.heap.size) : SRow w' Q v l := by
  obtain ⟨b, c, e, hr⟩ := h
  refine ⟨b, c, e, fun hne => ?_⟩
  obtain ⟨g, o, hb, hq, hg, ha, hc⟩ := hr hne
  exact ⟨g, o, hb, hq, by omega, ha.keep (hk g hq hg), hc⟩
theorem SRow.keepS {w w' : World} {Q S : Nat → Prop} {v : Value} {l : List ByteArray} (h : SRow w Q v l) (hk : Keep S w w') (hd : ∀ b, Q b → b < w.heap.size → ¬ S b) : SRow w' Q v l := h.keep (fun b q z => hk.block b z (hd b q z)) hk.size
theorem SRow.below {w w' : World} {Q : Nat → Prop} {v : Value} {l : List ByteArray} (h : SRow w Q v l) (hk : Below w.heap.size w w') : SRow w' Q v l := h.keep (fun b _ z => hk.block b z) hk.size
theorem SRow.mono {w : World} {Q Q' : Nat → Prop} {v : Value} {l : List ByteArray} (h : SRow w Q v l) (hq : ∀ b, b < w.heap.size → Q b → Q' b) : SRow w Q' v l := by
  obtain ⟨b, c, e, hr⟩ := h
  refine ⟨b, c, e, fun hne => ?_⟩
  obtain ⟨g, o, hb, q, hg, ha, hc⟩ := hr hne
  exact ⟨g, o, hb, hq g hg q, hg, ha, hc⟩
theorem SRow.nil (w : World) (Q : Nat → Prop) (b : Option Addr) (c : Nat) : SRow w Q (.slice b 0 c) [] := ⟨b, c, rfl, fun h => absurd rfl h⟩

/-- What a map from strings holds. -/
def fOf (es : Array MapEntry) (s : ByteArray) : Option Value := match Instr.findNow .string (.string s) es.toList 0 with
  | some (some (_, v)) => some v
  | _ => none
def MapF (W : World) (mb : Nat) (f : ByteArray → Option Value) : Prop :=
  ∃ es clk, W.heap[mb]? = some (.map es clk) ∧ (∀ x ∈ es.toList, MapKept.IsKey .string x.key) ∧ ∀ s, fOf es s = f s
theorem MapF.keep {W W' : World} {mb : Nat} {f : ByteArray → Option Value} (h : MapF W mb f) (hb : W'.heap[mb]? = W.heap[mb]?) : MapF W' mb f := by
  obtain ⟨es, clk, h1, h2⟩ := h
  exact ⟨es, clk, hb.trans h1, h2⟩
theorem MapF.lt {W : World} {mb : Nat} {f : ByteArray → Option Value} (h : MapF W mb f) : mb < W.heap.size := by
  obtain ⟨es, clk, h1, _⟩ := h
  exact (Array.getElem?_eq_some_iff.1 h1).1
theorem MapF.ext {W : World} {mb : Nat} {f f' : ByteArray → Option Value} (h : MapF W mb f) (he : ∀ s, f s = f' s) : MapF W mb f' := by
  obtain ⟨es, clk, h1, h2, h3⟩ := h
  exact ⟨es, clk, h1, h2, fun s => (h3 s).trans (he s)⟩
theorem MapF.new (W : World) (mb : Nat) (h : mb = W.heap.size) : MapF (W.alloc (.map #[] 0)) mb fun _ => none := by
  subst h
  exact ⟨#[], 0, heap_alloc_new W _, by simp, fun s => rfl⟩
theorem MapF.not_cells {W : World} {mb : Nat} {f : ByteArray → Option Value} (h : MapF W mb f) {j : Nat} {v : Value} : ¬ W.cell? ⟨mb, j, none⟩ = some v := by
  obtain ⟨es, clk, h1, _⟩ := h
  simp [World.cell?, h1]
section
variable {P : Program} {mty kt et : TypeId} {W : World} {mb : Nat} {f : ByteArray → Option Value}
theorem MapF.look (h : MapF W mb f) (hm : P.underlying mty = some (.map kt et)) (hk : P.underlying kt = some .string) {z : Value} (hz : (zeroValue et).run P W = .ok z W) (s : ByteArray) :
    (Instr.lookup mty (.map (some mb)) (.string s) false).run P W = .ok ((f s).getD z) W := by
  obtain ⟨es, clk, h1, h2, h3⟩ := h
  have hc := MapKept.run_checkKey (P := P) (w := W) (k := .string s) hk (by simp [MapKept.IsKey]) es.isEmpty 9999
  have e := h3 s
  unfold fOf at e
  rcases MapKept.findNow_spec (d := .string) (k := .string s) (by simp [MapKept.IsKey]) es.toList 0 h2 with ⟨h4, _⟩ | ⟨j, x, h4, _, _⟩
  · rw [h4] at e
    have hf := MapKept.run_findKey (P := P) (w := W) (k := .string s) hk h4
    rw [← e]
    simp [Instr.lookup, run_underlying hm, MapKept.run_getObj_map h1, hc, hf, hz, Result.andThen]
  · rw [h4] at e
    have hf := MapKept.run_findKey (P := P) (w := W) (k := .string s) hk h4
    rw [← e]
    simp [Instr.lookup, run_underlying hm, MapKept.run_getObj_map h1, hc, hf, Result.andThen]
theorem MapF.lookOk (h : MapF W mb f) (hm : P.underlying mty = some (.map kt et)) (hk : P.underlying kt = some .string) {z : Value} (hz : (zeroValue et).run P W = .ok z W) (s : ByteArray) :
    (Instr.lookup mty (.map (some mb)) (.string s) true).run P W = .ok (.tuple #[(f s).getD z, .bool (f s).isSome]) W := by
  obtain ⟨es, clk, h1, h2, h3⟩ := h
  have hc := MapKept.run_checkKey (P := P) (w := W) (k := .string s) hk (by simp [MapKept.IsKey]) es.isEmpty 9999
  have e := h3 s
  unfold fOf at e
  rcases MapKept.findNow_spec (d := .string) (k := .string s) (by simp [MapKept.IsKey]) es.toList 0 h2 with ⟨h4, _⟩ | ⟨j, x, h4, _, _⟩
  · rw [h4] at e
    have hf := MapKept.run_findKey (P := P) (w := W) (k := .string s) hk h4
    rw [← e]
    simp [Instr.lookup, run_underlying hm, MapKept.run_getObj_map h1, hc, hf, hz, Result.andThen]
  · rw [h4] at e
    have hf := MapKept.run_findKey (P := P) (w := W) (k := .string s) hk h4
    rw [← e]
    simp [Instr.lookup, run_underlying hm, MapKept.run_getObj_map h1, hc, hf, Result.andThen]

theorem find_push (s t : ByteArray) (v : Value) (n : Nat) : ∀ (l : List MapEntry) (i : Nat), (∀ x ∈ l, MapKept.IsKey .string x.key) →
    Instr.findNow .string (.string t) (l ++ [{ key := .string s, val := v, born := n }]) i = match Instr.findNow .string (.string t) l i with
      | some none => if s = t then some (some (i + l.length, v)) else some none
      | r => r
  | [], i, _ => by
    simp only [List.nil_append, Instr.findNow, Instr.sameNow, List.length_nil, Nat.add_zero]
    by_cases h : s = t
    · rw [if_pos h, (MapKept.bytes_beq t s).2 h.symm]
    · rw [if_neg h, show (t == s) = false from by rw [Bool.eq_false_iff]; exact fun e => h ((MapKept.bytes_beq t s).1 e).symm]
  | e :: l, i, h => by
    obtain ⟨r, hr, _⟩ := MapKept.sameNow_of_keys (d := .string) (a := .string t) (by simp [MapKept.IsKey]) (h e (.head _))
    have ih := find_push s t v n l (i + 1) fun x hx => h x (.tail _ hx)
    cases r with
    | true => simp [Instr.findNow, hr]
    | false =>
      simp only [List.cons_append, Instr.findNow, hr, ih, List.length_cons]
      rw [show i + 1 + l.length = i + (l.length + 1) by omega]
theorem find_mod (s t : ByteArray) (v : Value) : ∀ (l : List MapEntry) (i j : Nat) (e : MapEntry), (∀ x ∈ l, MapKept.IsKey .string x.key) → l[j]? = some e → e.key = .string s → (∀ k x, k < j → l[k]? = some x → x.key ≠ .string s) →
    Instr.findNow .string (.string t) (l.set j { e with key := .string s, val := v }) i = if s = t then some (some (i + j, v)) else Instr.findNow .string (.string t) l i
  | [], i, j, e, _, hj, _, _ => by simp at hj
  | a :: l, i, 0, e, h, hj, hk, hn => by
    simp at hj; subst hj
    simp only [List.set_cons_zero, Instr.findNow, Instr.sameNow, Nat.add_zero, hk]
    by_cases h : s = t
    · rw [if_pos h, (MapKept.bytes_beq t s).2 h.symm]
    · rw [if_neg h, show (t == s) = false from by rw [Bool.eq_false_iff]; exact fun e => h ((MapKept.bytes_beq t s).1 e).symm]
  | a :: l, i, j + 1, e, h, hj, hk, hn => by
    have ih := find_mod s t v l (i + 1) j e (fun x hx => h x (.tail _ hx)) (by simpa using hj) hk (fun k x hk' hx => hn (k + 1) x (by omega) (by simpa using hx))
    obtain ⟨r, hr, hiff⟩ := MapKept.sameNow_of_keys (d := .string) (a := .string t) (by simp [MapKept.IsKey]) (h a (.head _))
    have ha := hn 0 a (by omega) rfl
    simp only [List.set_cons_succ, Instr.findNow, hr]
    cases r with
    | true =>
      have : s ≠ t := fun e => ha (by rw [e]; exact (hiff.1 rfl).symm)
      simp [this]
    | false => simp only [ih]; rw [show i + 1 + j = i + (j + 1) by omega]
theorem find_first (k : Value) : ∀ (l : List MapEntry) (i m : Nat) (v : Value), (∀ x ∈ l, MapKept.IsKey .string x.key) → MapKept.IsKey .string k → Instr.findNow .string k l i = some (some (m, v)) → ∃ j e, m = i + j ∧ l[j]? = some e ∧ e.key = k ∧ e.val = v ∧ ∀ n x, n < j → l[n]? = some x → x.key ≠ k
  | [], i, m, v, _, _, h => by simp [Instr.findNow] at h
  | a :: l, i, m, v, h, hk, hf => by
    obtain ⟨r, hr, hiff⟩ := MapKept.sameNow_of_keys (d := .string) hk (h a (.head _))
    simp only [Instr.findNow, hr] at hf
    cases r with
    | true =>
      simp at hf
      exact ⟨0, a, by omega, rfl, (hiff.1 rfl).symm, hf.2, fun n x hn => by omega⟩
    | false =>
      obtain ⟨j, e, h1, h2, h3, h4, h5⟩ := find_first k l (i + 1) m v (fun x hx => h x (.tail _ hx)) hk hf
      refine ⟨j + 1, e, by omega, by simpa using h2, h3, h4, fun n x hn hx => ?_⟩
      cases n with
      | zero => simp at hx; subst hx; intro e; have := hiff.2 e.symm; cases this
      | succ n => exact h5 n x (by omega) (by simpa using hx)
/-- What an update leaves. -/
theorem MapF.upd (h : MapF W mb f) (hm : P.underlying mty = some (.map kt et)) (hk : P.underlying kt = some .string) (s : ByteArray) (v : Value) :
    ∃ o, ∀ W' : World, W'.heap[mb]? = W.heap[mb]? → (Instr.mapUpdate mty (.map (some mb)) (.string s) v).run P W' = .ok () (W'.putObj mb o) ∧ MapF (W'.putObj mb o) mb (fun t => if s = t then some v else f t) := by
  obtain ⟨es, clk, h1, h2, h3⟩ := h
  have hc := fun W' : World => MapKept.run_checkKey (P := P) (w := W') (k := .string s) hk (by simp [MapKept.IsKey]) false 9999
  rcases MapKept.findNow_spec (d := .string) (k := .string s) (by simp [MapKept.IsKey]) es.toList 0 h2 with ⟨h4, _⟩ | ⟨j, x, h4, h5, h6⟩
  · refine ⟨.map (es.push { key := .string s, val := v, born := clk }) (clk + 1), fun W' hb => ?_⟩
    have hb' := hb.trans h1
    have hf := MapKept.run_findKey (P := P) (w := W') (k := .string s) hk h4
    refine ⟨?_, _, _, World.putObj_heap_same (Array.getElem?_eq_some_iff.1 hb').1, ?_, fun t => ?_⟩
    · simp [Instr.mapUpdate, run_underlying hm, MapKept.run_getObj_map hb', hc, hf, MapKept.run_setObj_map _ hb', Result.andThen, World.putObj]
    · intro x hx
      simp only [Array.toList_push, List.mem_append, List.mem_singleton] at hx
      rcases hx with hx | rfl
      · exact h2 x hx
      · simp [MapKept.IsKey]
    · show _ = if s = t then some v else f t
      rw [← h3 t]
      unfold fOf
      rw [Array.toList_push, find_push s t v clk es.toList 0 h2]
      by_cases e : s = t
      · subst e; rw [h4]; simp
      · rw [if_neg e]
        rcases MapKept.findNow_spec (d := .string) (k := .string t) (by simp [MapKept.IsKey]) es.toList 0 h2 with ⟨h7, _⟩ | ⟨j', x', h7, _⟩ <;> rw [h7] <;> simp [e]
  · rw [Nat.zero_add] at h4
    obtain ⟨j', e', e1, e2, e3, e4, e5⟩ := find_first (.string s) es.toList 0 _ _ h2 (by simp [MapKept.IsKey]) h4
    rw [Nat.zero_add] at e1; subst e1
    have hx : x = e' := by rw [h5] at e2; exact Option.some.inj e2
    subst hx
    have hj : es[j]? = some x := by simpa using h5
    refine ⟨.map (es.modify j fun e => { e with key := .string s, val := v }) clk, fun W' hb => ?_⟩
    have hb' := hb.trans h1
    have hf := MapKept.run_findKey (P := P) (w := W') (k := .string s) hk h4
    have hks := MapKept.run_keyThatStays (P := P) (w := W') (d := .string) (k := .string s) (by simp [MapKept.IsKey])
    refine ⟨?_, _, _, World.putObj_heap_same (Array.getElem?_eq_some_iff.1 hb').1, ?_, fun t => ?_⟩
    · simp [Instr.mapUpdate, run_underlying hm, MapKept.run_getObj_map hb', hc, hf, hj, h6, hks, MapKept.run_setObj_map _ hb', Result.andThen, World.putObj]
    · exact MapKept.isKey_modify h2 _ _ fun e he => by rw [hj] at he; cases he; exact h6.symm
    · show _ = if s = t then some v else f t
      rw [← h3 t]
      unfold fOf
      have hml : (es.modify j fun e => { e with key := .string s, val := v }).toList = es.toList.set j { x with key := .string s, val := v } := by
        apply List.ext_getElem?
        intro n
        rw [Array.getElem?_toList, Array.getElem?_modify, List.getElem?_set]
        by_cases hn : j = n
        · subst hn
          have hl := (List.getElem?_eq_some_iff.1 h5).1
          simp only [if_true, hj, Option.map_some, if_pos hl]
        · simp [hn]
      rw [hml, find_mod s t v es.toList 0 j x h2 h5 h6 e5]
      by_cases e : s = t
      · rw [if_pos e, if_pos e]
      · rw [if_neg e, if_neg e]
end
end Go.Proofs.Ytolopideimnbgaa
