/-
  The reader's smallest methods.
  All but some blocks lie as they lay.
  The closing token of a group, the name of a group, a stop.
  The groups that are open, in memory.
  What add leaves.
-/
import Derived.Test.YtafncodigpjkaaaGreatDoorChecked
import Derived.Test.YtafncodigpjkaaaGreatDoorFG1
import Derived.Tactics
import Derived.Tactics2
import Derived.WalkKit
import Derived.Outline
import Derived.KernelRfl
import Derived.Deep.QuietTactic
import Derived.BigQuiet
import Derived.Lib.Hide
import Derived.Test.YtafncodigpjkaaaGreatDoorXO
import Derived.Test.YtafncodigpjkaaaGreatDoorXY
import Derived.WalkSmall
import Derived.Deep.AppendLies
import Derived.Deep.RegionLaw
import Derived.Deep.RegionHeld3
namespace Go.Proofs.YtafncodigpjkaaaGreatDoor
section
open Go.RowKit

theorem fcell_at {W : World} {k j : Nat} {cs : Array Value} {tt : TypeId} (h : W.heap[k]? = some (.cells cs tt)) : W.cell? ⟨k, j, none⟩ = cs[j]? := by simp [World.cell?, h]

theorem toList_inj {x y : ByteArray} (h : x.toList = y.toList) : x = y := by
  rw [ByteArray.toList_eq, ByteArray.toList_eq] at h
  cases x; cases y; simp at h ⊢; exact h
theorem str_eq {x y : ByteArray} (h : x = y) : (x.toList == y.toList) = true ∧ (x.toList != y.toList) = false := by subst h; simp
theorem str_ne {x y : ByteArray} (h : ¬ x = y) : (x.toList == y.toList) = false ∧ (x.toList != y.toList) = true := by
  have : (x.toList == y.toList) = false := beq_eq_false_iff_ne.2 fun e => h (toList_inj e)
  exact ⟨this, by rw [bne, this]; rfl⟩
theorem str_dec (x y : ByteArray) : (x.toList == y.toList) = decide (x = y) := by
  by_cases h : x = y
  · rw [(str_eq h).1, decide_eq_true h]
  · rw [(str_ne h).1, decide_eq_false h]
/-- A list of tokens in memory. -/
def TAt (w : World) (g o : Nat) (l : List Tkn) : Prop := ∀ i x, l[i]? = some x → w.cell? ⟨g, o + i * 5, none⟩ = some (.int .i64 x.1) ∧ w.cell? ⟨g, o + i * 5 + 1, none⟩ = some (.int .i64 x.2.1) ∧ w.cell? ⟨g, o + i * 5 + 2, none⟩ = some (.string x.2.2.1) ∧ w.cell? ⟨g, o + i * 5 + 3, none⟩ = some (.int .i64 x.2.2.2.1) ∧ w.cell? ⟨g, o + i * 5 + 4, none⟩ = some (.int .i64 x.2.2.2.2)
def TRow (w : World) (Q : Nat → Prop) (v : Value) (l : List Tkn) : Prop := ∃ b c, v = .slice b l.length c ∧ (l ≠ [] → ∃ g o, b = some ⟨g, o, none⟩ ∧ Q g ∧ g < w.heap.size ∧ TAt w g o l)

set_option maxRecDepth 100000 in
theorem innermost_any (rb ob n cap : Nat) (hn : n + 1 ≤ 1048576) (W : World) (h3 : W.cell? ⟨rb, 3, none⟩ = some (.slice (some ⟨ob, 0, none⟩) (n + 1) cap)) :
    Calls Tryz.prog 71 #[.pointer (some ⟨rb, 0, none⟩)] W fun e w' => e = .returned (.pointer (some ⟨ob, n * 8, none⟩)) ∧ ∃ q, w' = W.drewN q := by
  have w1 : IntKind.i64.wrap (((n + 1 : Nat) : Int) - 1) = (n : Int) := by rw [IntWalk.i64_in _ (by omega)]; omega
  have w2 : ((n + 1 : Nat) : Int) - 1 = (n : Int) := by omega
  go_enter Tryz.func71, Tryz.ntmps71
  go_wp2_with fail
  go_quiet (fail)
  go_wp2_with fail
  exact bodyPost_ret (v := .pointer (some ⟨ob, n * 8, none⟩)) (by simp [results, Tryz.results71, go_sem]) rfl ⟨rfl, _, rfl⟩

/-- How a reader leaves that refuses. -/
def refEnd (i c : Int) : Ending := .panicked [{ v := .iface 63 (.agg #[.int .i64 i, .int .i64 c]), recovered := false }]
theorem frefuse_any (rb : Nat) (i c : Int) (W : World) (h1 : W.cell? ⟨rb, 1, none⟩ = some (.int .i64 i)) :
    Calls Tryz.prog 66 #[.pointer (some ⟨rb, 0, none⟩), .int .i64 c] W fun e w' => e = refEnd i c ∧ W = w' := by
  go_enter Tryz.func66, Tryz.ntmps66
  go_wp2_with fail
  exact ⟨rfl, rfl, rfl⟩

theorem isNameM_at {l : List Tkn} {i : Nat} {x : Tkn} (h : l[i]? = some x) (s : ByteArray) : isNameM l i s = (decide (x.1 = 1) && decide (x.2.2.1 = s)) := by unfold isNameM; rw [h]
theorem isNameM_out {l : List Tkn} {i : Nat} (h : ¬ i < l.length) (s : ByteArray) : isNameM l i s = false := by unfold isNameM; rw [List.getElem?_eq_none (by omega)]
set_option maxRecDepth 100000 in
theorem fisName_any (rb : Nat) {tv : Value} {l : List Tkn} {Q : Nat → Prop} (i : Nat) (s : ByteArray) (W : World) (h0 : W.cell? ⟨rb, 0, none⟩ = some tv) (ht : TRow W Q tv l) :
    Calls Tryz.prog 92 #[.pointer (some ⟨rb, 0, none⟩), .int .i64 (i : Int), .string s] W fun e w' => e = .returned (.bool (isNameM l i s)) ∧ W = w' := by
  obtain ⟨b, c, rfl, hrow⟩ := ht
  by_cases hlt : i < l.length
  · obtain ⟨x, hx⟩ : ∃ x, l[i]? = some x := ⟨_, List.getElem?_eq_getElem hlt⟩
    obtain ⟨g, o, rfl, _, _, hat⟩ := hrow (by rintro rfl; simp at hlt)
    obtain ⟨e0, _, e2, _, _⟩ := hat i x hx
    rw [isNameM_at hx]
    have hl : (i : Int) < (l.length : Int) := by omega
    clear hrow hat hx
    by_cases hk : x.1 = 1
    · have k1 : ((x.1 : Int) == 1) = true := by simp [hk]
      rw [decide_eq_true hk, Bool.true_and]
      clear hk
      have HD := Lib.hid (str_dec x.2.2.1 s)
      go_enter Tryz.func92, Tryz.ntmps92
      go_wp2_with fail
      exact bodyPost_ret (v := .bool (x.2.2.1.toList == s.toList)) (by simp [results, Tryz.results92, go_sem]) rfl ⟨by rw [HD.out], rfl⟩
    · have k1 : ((x.1 : Int) == 1) = false := by simp [hk]
      rw [decide_eq_false hk, Bool.false_and]
      clear hk
      go_enter Tryz.func92, Tryz.ntmps92
      go_wp2_with fail
      exact bodyPost_ret (v := .bool false) (by simp [results, Tryz.results92, go_sem]) rfl ⟨rfl, rfl⟩
  · rw [isNameM_out hlt]
    have hl : ((i : Int) < (l.length : Int)) = False := by simp; omega
    clear hrow
    go_enter Tryz.func92, Tryz.ntmps92
    go_wp2_with fail
    exact bodyPost_ret (v := .bool false) (by simp [results, Tryz.results92, go_sem]) rfl ⟨rfl, rfl⟩

/-- A list of strings in memory. -/
def SAt (w : World) (g o : Nat) (l : List ByteArray) : Prop := ∀ i x, l[i]? = some x → w.cell? ⟨g, o + i, none⟩ = some (.string x)
def SRow (w : World) (v : Value) (l : List ByteArray) : Prop := ∃ b c, v = .slice b l.length c ∧ (l ≠ [] → ∃ g o, b = some ⟨g, o, none⟩ ∧ g < w.heap.size ∧ SAt w g o l)
set_option maxRecDepth 100000 in
theorem among_any (x : ByteArray) {v : Value} {l : List ByteArray} (hn : l.length ≤ 1048576) (W : World) (hl : SRow W v l) :
    Calls Tryz.prog 61 #[.string x, v] W fun e w' => e = .returned (.bool (decide (x ∈ l))) ∧ W = w' := by
  obtain ⟨b, c, rfl, hrow⟩ := hl
  go_enter Tryz.func61, Tryz.ntmps61
  go_wp2_with fail
  go_loop [9] (fun i => ∃ k : Nat, k ≤ l.length ∧ i = .int .i64 (k : Int) ∧ Hid (¬ x ∈ l.take k)) (fun i => l.length - (intOf i).toNat)
  case atStart => exact ⟨0, by omega, rfl, Lib.hid (by simp)⟩
  case round =>
    obtain ⟨k, hk, rfl, hno⟩ := hrel
    by_cases hlt : k < l.length
    · obtain ⟨y, hy⟩ : ∃ y, l[k]? = some y := ⟨_, List.getElem?_eq_getElem hlt⟩
      obtain ⟨g, o, rfl, _, hat⟩ := hrow (by rintro rfl; simp at hlt)
      have e0 := hat k y hy
      have hl : (k : Int) < (l.length : Int) := by omega
      have w3 : IntKind.i64.wrap ((k : Int) + 1) = (k : Int) + 1 := IntWalk.i64_in _ (by omega)
      have htk : l.take (k + 1) = l.take k ++ [y] := by rw [List.take_add_one, hy]; rfl
      have HT := Lib.hid htk
      have HY := Lib.hid (List.mem_iff_getElem?.2 ⟨k, hy⟩ : y ∈ l)
      clear hat htk hy
      by_cases he : x = y
      · obtain ⟨q1, q2⟩ := str_eq he
        have hc : Hid (x ∈ l) := Lib.hid (by rw [he]; exact HY.out)
        clear he
        go_wp2_with fail
        exact bodyPost_ret (v := .bool true) (by simp [results, Tryz.results61, go_sem]) rfl ⟨by rw [decide_eq_true hc.out], rfl⟩
      · obtain ⟨q1, q2⟩ := str_ne he
        have hc : Hid (¬ x ∈ l.take (k + 1)) := Lib.hid (by rw [HT.out, List.mem_append, List.mem_singleton]; rintro (h | h); exact hno.out h; exact he h)
        clear he
        go_wp2_with fail
        go_round
        case rel => exact ⟨k + 1, by omega, by go_num, hc⟩
        case measure => simp [intOf]; omega
    · have hl : ((k : Int) < (l.length : Int)) = False := by simp; omega
      have hc : Hid (¬ x ∈ l) := Lib.hid (by have := hno.out; rwa [List.take_of_length_le (by omega)] at this)
      go_wp2_with fail
      exact bodyPost_ret (v := .bool false) (by simp [results, Tryz.results61, go_sem]) rfl ⟨by rw [decide_eq_false hc.out], rfl⟩
end

section
open Go.RowKit

structure KeepS (S : Nat → Prop) (w w' : World) : Prop where
  os : w'.os = w.os
  tape : w'.tape = w.tape
  output : w'.output = w.output
  size : w.heap.size ≤ w'.heap.size
  block : ∀ k, k < w.heap.size → ¬ S k → w'.heap[k]? = w.heap[k]?
theorem KeepS.refl (S : Nat → Prop) (w : World) : KeepS S w w := ⟨rfl, rfl, rfl, Nat.le_refl _, fun _ _ _ => rfl⟩
theorem KeepS.trans {S : Nat → Prop} {x y z : World} (h : KeepS S x y) (k : KeepS S y z) : KeepS S x z :=
  ⟨k.os.trans h.os, k.tape.trans h.tape, k.output.trans h.output, Nat.le_trans h.size k.size, fun j hj hn => (k.block j (Nat.lt_of_lt_of_le hj h.size) hn).trans (h.block j hj hn)⟩
theorem KeepS.mono {S T : Nat → Prop} {x y : World} (h : KeepS S x y) (hs : ∀ k, S k → T k) : KeepS T x y := ⟨h.os, h.tape, h.output, h.size, fun k hk hn => h.block k hk (fun e => hn (hs k e))⟩
theorem KeepS.of_kept {b : Nat} {S : Nat → Prop} {x y : World} (h : KeptBut b x y) (hb : S b) : KeepS S x y := ⟨h.os, h.tape, h.output, h.size, fun k hk hn => h.block k hk (fun e => hn (e ▸ hb))⟩
theorem KeepS.of_below {S : Nat → Prop} {x y : World} (h : Below x.heap.size x y) : KeepS S x y := ⟨h.os, h.tape, h.output, h.size, fun k hk _ => h.block k hk⟩
theorem KeepS.alloc {S : Nat → Prop} {x y : World} (h : KeepS S x y) (o : Obj) : KeepS S x (y.alloc o) := h.trans (.of_below ((Below.refl _ _).alloc (Nat.le_refl _) o))
theorem KeepS.drew {S : Nat → Prop} {x y : World} (h : KeepS S x y) (n : Nat) : KeepS S x (y.drewN n) := h.trans (.of_below (below_drewN (Below.refl _ _) n))
theorem KeepS.setCell {S : Nat → Prop} {x w : World} (h : KeepS S x w) {b : Nat} (hb : S b) (o : Nat) (v : Value) : KeepS S x (w.setCell ⟨b, o, none⟩ v) :=
  h.trans (.of_kept ((KeptBut.refl b w).setCell v) hb)
theorem KeepS.putObj {S : Nat → Prop} {x w : World} (h : KeepS S x w) {b : Nat} (hb : S b) (o : Obj) : KeepS S x (w.putObj b o) :=
  h.trans ⟨rfl, rfl, rfl, by simp, fun k _ hn => World.putObj_heap_other (fun e => hn (e ▸ hb))⟩
theorem KeepS.of_grown {S : Nat → Prop} {x y : World} {row : Option Nat} (h : x.grownBy y row) (hr : ∀ k, row = some k → S k) : KeepS S x y :=
  ⟨h.os, h.tape, h.output, h.size, fun k hk hn => h.block k hk (fun e => hn (hr k e.symm))⟩
theorem KeepS.cell {S : Nat → Prop} {c o : Nat} {w w' : World} (h : KeepS S w w') (hc : c < w.heap.size) (hn : ¬ S c) : w'.cell? ⟨c, o, none⟩ = w.cell? ⟨c, o, none⟩ := World.cell?_of_block (w := w) (h.block c hc hn)
theorem KeepS.frozen {S : Nat → Prop} {c o : Nat} {w w' : World} (h : KeepS S w w') (hc : c < w.heap.size) (hn : ¬ S c) : w'.frozen? ⟨c, o, none⟩ = w.frozen? ⟨c, o, none⟩ := World.frozen?_of_block (w := w) (h.block c hc hn)
theorem KeepS.below {S : Nat → Prop} {B : Nat} {w w' : World} (h : KeepS S w w') (hS : ∀ k, S k → B ≤ k) (hB : B ≤ w.heap.size) : Below B w w' :=
  ⟨h.os, h.tape, h.output, h.size, fun k hk => h.block k (by omega) (fun e => by have := hS k e; omega)⟩
end

section
open Go.RowKit

theorem lit_eq {o : ByteArray} (l : List UInt8) (h : o = ⟨l.toArray⟩) : (o.toList == l) = true ∧ (o.toList != l) = false := by
  have e : o.toList = l := by rw [h, ByteArray.toList_eq]
  rw [e]; simp
theorem lit_ne {o : ByteArray} (l : List UInt8) (h : ¬ o = ⟨l.toArray⟩) : (o.toList == l) = false ∧ (o.toList != l) = true := by
  have : (o.toList == l) = false := beq_eq_false_iff_ne.2 fun e => h (toList_inj (by rw [e, ByteArray.toList_eq]))
  exact ⟨this, by rw [bne, this]; rfl⟩
def tkL (x : Tkn) : List Value := [.int .i64 x.1, .int .i64 x.2.1, .string x.2.2.1, .int .i64 x.2.2.2.1, .int .i64 x.2.2.2.2]
def closeK (o : ByteArray) : Int := if o = sPar then 5 else if o = sBra then 5 else if o = sCur then 5 else 1
def closeTok (x : Fg) : Tkn := (closeK x.opn, 0, closingM x.opn, x.tok.2.2.2.1, x.tok.2.2.2.2)
theorem below_three (W : World) (a b c : Obj) : Below W.heap.size W (((W.alloc a).alloc b).alloc c) :=
  (((Below.refl _ W).alloc (Nat.le_refl _) _).alloc (by simp) _).alloc (by simp; omega) _
theorem closing_cases (o : ByteArray) : (o = ⟨#[40]⟩ ∧ closeK o = 5 ∧ closingM o = ⟨#[41]⟩) ∨ (¬ o = ⟨#[40]⟩ ∧ o = ⟨#[91]⟩ ∧ closeK o = 5 ∧ closingM o = ⟨#[93]⟩) ∨
    (¬ o = ⟨#[40]⟩ ∧ ¬ o = ⟨#[91]⟩ ∧ o = ⟨#[123]⟩ ∧ closeK o = 5 ∧ closingM o = ⟨#[125]⟩) ∨ (¬ o = ⟨#[40]⟩ ∧ ¬ o = ⟨#[91]⟩ ∧ ¬ o = ⟨#[123]⟩ ∧ closeK o = 1 ∧ closingM o = ⟨#[101, 110, 100]⟩) := by
  unfold closeK closingM
  by_cases h1 : o = sPar
  · left; exact ⟨h1, by rw [if_pos h1], by rw [if_pos h1]; rfl⟩
  · right
    by_cases h2 : o = sBra
    · left; exact ⟨h1, h2, by rw [if_neg h1, if_pos h2], by rw [if_neg h1, if_pos h2]; rfl⟩
    · right
      by_cases h3 : o = sCur
      · left; exact ⟨h1, h2, h3, by rw [if_neg h1, if_neg h2, if_pos h3], by rw [if_neg h1, if_neg h2, if_pos h3]; rfl⟩
      · right; exact ⟨h1, h2, h3, by rw [if_neg h1, if_neg h2, if_neg h3], by rw [if_neg h1, if_neg h2, if_neg h3]; rfl⟩
set_option maxRecDepth 100000 in
set_option maxHeartbeats 1000000 in
theorem closing_any (x : Fg) (kv : Value) (W : World) :
    Calls Tryz.prog 97 #[.agg (fgV x kv).toArray] W fun e w' => e = .returned (.agg (tkL (closeTok x)).toArray) ∧ Below W.heap.size W w' := by
  obtain ⟨⟨k, n, s, a, m⟩, o, ks⟩ := x
  show Calls Tryz.prog 97 #[.agg #[.int .i64 k, .int .i64 n, .string s, .int .i64 a, .int .i64 m, .string o, kv]] W fun e w' => e = .returned (.agg #[.int .i64 (closeK o), .int .i64 0, .string (closingM o), .int .i64 a, .int .i64 m]) ∧ Below W.heap.size W w'
  have hc := closing_cases o
  generalize closeK o = ck at hc ⊢
  generalize closingM o = cm at hc ⊢
  rcases hc with ⟨h1, rfl, rfl⟩ | ⟨h1, h2, rfl, rfl⟩ | ⟨h1, h2, h3, rfl, rfl⟩ | ⟨h1, h2, h3, rfl, rfl⟩
  · obtain ⟨q1, q2⟩ := lit_eq [40] h1
    clear h1
    go_enter Tryz.func97, Tryz.ntmps97
    go_wp2_with fail
    exact bodyPost_ret (v := .agg #[.int .i64 5, .int .i64 0, .string ⟨#[41]⟩, .int .i64 a, .int .i64 m]) (by simp [results, Tryz.results97, go_sem]) rfl ⟨rfl, below_three _ _ _ _⟩
  · obtain ⟨q1, q2⟩ := lit_ne [40] h1
    obtain ⟨q3, q4⟩ := lit_eq [91] h2
    clear h1 h2
    go_enter Tryz.func97, Tryz.ntmps97
    go_wp2_with fail
    exact bodyPost_ret (v := .agg #[.int .i64 5, .int .i64 0, .string ⟨#[93]⟩, .int .i64 a, .int .i64 m]) (by simp [results, Tryz.results97, go_sem]) rfl ⟨rfl, below_three _ _ _ _⟩
  · obtain ⟨q1, q2⟩ := lit_ne [40] h1
    obtain ⟨q3, q4⟩ := lit_ne [91] h2
    obtain ⟨q5, q6⟩ := lit_eq [123] h3
    clear h1 h2 h3
    go_enter Tryz.func97, Tryz.ntmps97
    go_wp2_with fail
    exact bodyPost_ret (v := .agg #[.int .i64 5, .int .i64 0, .string ⟨#[125]⟩, .int .i64 a, .int .i64 m]) (by simp [results, Tryz.results97, go_sem]) rfl ⟨rfl, below_three _ _ _ _⟩
  · obtain ⟨q1, q2⟩ := lit_ne [40] h1
    obtain ⟨q3, q4⟩ := lit_ne [91] h2
    obtain ⟨q5, q6⟩ := lit_ne [123] h3
    clear h1 h2 h3
    go_enter Tryz.func97, Tryz.ntmps97
    go_wp2_with fail
    exact bodyPost_ret (v := .agg #[.int .i64 1, .int .i64 0, .string ⟨#[101, 110, 100]⟩, .int .i64 a, .int .i64 m]) (by simp [results, Tryz.results97, go_sem]) rfl ⟨rfl, below_three _ _ _ _⟩

def nameV (k : List Fg) : ByteArray × Bool := match nameOfM k with
  | some s => (s, true)
  | none => (⟨#[]⟩, false)
theorem name_cases (f : Fg) (r : List Fg) : (¬ f.opn = ⟨#[]⟩ ∧ nameV (f :: r) = (⟨#[]⟩, false)) ∨ (f.opn = ⟨#[]⟩ ∧ ¬ f.tok.1 = 1 ∧ nameV (f :: r) = (⟨#[]⟩, false)) ∨ (f.opn = ⟨#[]⟩ ∧ f.tok.1 = 1 ∧ nameV (f :: r) = (f.tok.2.2.1, true)) := by
  have e : nameOfM (f :: r) = if f.opn = sNo ∧ f.tok.1 = 1 then some f.tok.2.2.1 else none := rfl
  unfold nameV
  rw [e]
  by_cases h1 : f.opn = sNo
  · by_cases h2 : f.tok.1 = 1
    · right; right; exact ⟨h1, h2, by rw [if_pos ⟨h1, h2⟩]⟩
    · right; left; exact ⟨h1, h2, by rw [if_neg (fun h => h2 h.2)]⟩
  · left; exact ⟨h1, by rw [if_neg (fun h => h1 h.1)]⟩
theorem box_cell (W : World) (o : Obj) {v : Value} {g j : Nat} (h : W.cell? ⟨g, j, none⟩ = some v) (hg : g < W.heap.size) : (W.alloc o).cell? ⟨g, j, none⟩ = some v :=
  (((Below.refl _ W).alloc (Nat.le_refl _) o).cell (p := ⟨g, j, none⟩) hg).trans h
set_option maxRecDepth 100000 in
set_option maxHeartbeats 1000000 in
theorem nameOf_any (x : Fg) {kv : Value} {P : Nat → Prop} (W : World) (hk : FVal W P kv x.kids) :
    Calls Tryz.prog 93 #[.agg (fgV x kv).toArray] W fun e w' => e = .returned (.tuple #[.string (nameV x.kids).1, .bool (nameV x.kids).2]) ∧ Below W.heap.size W w' := by
  obtain ⟨⟨k, n, s, a, m⟩, o, ks⟩ := x
  show Calls Tryz.prog 93 #[.agg #[.int .i64 k, .int .i64 n, .string s, .int .i64 a, .int .i64 m, .string o, kv]] W fun e w' => e = .returned (.tuple #[.string (nameV ks).1, .bool (nameV ks).2]) ∧ Below W.heap.size W w'
  obtain ⟨b, c, rfl, hrow⟩ := hk
  simp only [Fg.kids] at hrow ⊢
  have fin := (Below.refl _ W).alloc (Nat.le_refl _) (.cells #[.int .i64 k, .int .i64 n, .string s, .int .i64 a, .int .i64 m, .string o, .slice b ks.length c] 52)
  rcases ks with _ | ⟨f, r⟩
  · have hn : nameV [] = (⟨#[]⟩, false) := rfl
    rw [hn]
    clear hn hrow
    go_enter Tryz.func93, Tryz.ntmps93
    go_wp2_with fail
    exact bodyPost_ret (v := .tuple #[.string ⟨#[]⟩, .bool false]) (by simp [results, Tryz.results93, go_sem]) rfl ⟨rfl, fin⟩
  · obtain ⟨g, q, rfl, _, hg, hr⟩ := hrow (by simp)
    obtain ⟨kv0, hc, _⟩ := (hr.get (i := 0) rfl).parts
    have e0 := fun o => box_cell W o (hc 0 _ rfl) hg
    have e2 := fun o => box_cell W o (hc 2 _ rfl) hg
    have e5 := fun o => box_cell W o (hc 5 _ rfl) hg
    simp only [Nat.zero_mul, Nat.add_zero] at e0 e2 e5
    have hcs := name_cases f r
    generalize nameV (f :: r) = nv at hcs ⊢
    obtain ⟨L, hL⟩ : ∃ L, L = (f :: r).length := ⟨_, rfl⟩
    have hL0 : 0 < L := by rw [hL]; simp
    have hL1 : ((L : Int) == 0) = false := by simp; omega
    rw [← hL] at fin ⊢
    clear hc hr hrow hL
    rcases hcs with ⟨h1, rfl⟩ | ⟨h1, h2, rfl⟩ | ⟨h1, h2, rfl⟩
    · obtain ⟨q1, q2⟩ := lit_ne [] h1
      clear h1
      go_enter Tryz.func93, Tryz.ntmps93
      go_wp2_with fail
      exact bodyPost_ret (v := .tuple #[.string ⟨#[]⟩, .bool false]) (by simp [results, Tryz.results93, go_sem]) rfl ⟨rfl, fin⟩
    · obtain ⟨q1, q2⟩ := lit_eq [] h1
      have k1 : ((f.tok.1 : Int) != 1) = true := by simp [h2]
      clear h1 h2
      go_enter Tryz.func93, Tryz.ntmps93
      go_wp2_with fail
      exact bodyPost_ret (v := .tuple #[.string ⟨#[]⟩, .bool false]) (by simp [results, Tryz.results93, go_sem]) rfl ⟨rfl, fin⟩
    · obtain ⟨q1, q2⟩ := lit_eq [] h1
      have k1 : ((f.tok.1 : Int) != 1) = false := by simp [h2]
      clear h1 h2
      go_enter Tryz.func93, Tryz.ntmps93
      go_wp2_with fail
      exact bodyPost_ret (v := .tuple #[.string f.tok.2.2.1, .bool true]) (by simp [results, Tryz.results93, go_sem]) rfl ⟨rfl, fin⟩

theorem isStopM_at {l : List Tkn} {i : Nat} {x : Tkn} (h : l[i]? = some x) : isStopM l i = ((decide (x.1 = 1) && decide (x.2.2.1 = sEnd)) || (decide (x.1 = 5) && decide (x.2.2.1 ∈ stops))) := by unfold isStopM; rw [h]
theorem isStopM_out {l : List Tkn} {i : Nat} (h : ¬ i < l.length) : isStopM l i = true := by unfold isStopM; rw [List.getElem?_eq_none (by omega)]
/-- A list of strings that the call has just laid. -/
theorem srow_new (W : World) (cs : Array Value) (l : List ByteArray) (t : TypeId) (h : cs.toList = l.map Value.string) : SRow (W.alloc (.cells cs t)) (.slice (some ⟨W.heap.size, 0, none⟩) l.length l.length) l := by
  refine ⟨_, _, rfl, fun _ => ⟨W.heap.size, 0, rfl, by simp, fun i x hx => ?_⟩⟩
  have hn : (W.alloc (.cells cs t)).heap[W.heap.size]? = some (.cells cs t) := heap_alloc_new W _
  rw [fcell_at hn, Nat.zero_add, ← Array.getElem?_toList, h, List.getElem?_map, hx]
  rfl
set_option maxRecDepth 100000 in
set_option maxHeartbeats 1000000 in
theorem isStop_any (rb : Nat) {tv : Value} {l : List Tkn} {Q : Nat → Prop} (i : Nat) (hi : i ≤ l.length) (hz : l.length ≤ 1048576) (W : World) (h0 : W.cell? ⟨rb, 0, none⟩ = some tv) (ht : TRow W Q tv l) :
    Calls Tryz.prog 94 #[.pointer (some ⟨rb, 0, none⟩), .int .i64 (i : Int)] W fun e w' => e = .returned (.bool (isStopM l i)) ∧ Below W.heap.size W w' := by
  have HN := Lib.hid (fun s => fisName_any rb i s W h0 ht)
  obtain ⟨b, c, rfl, hrow⟩ := ht
  by_cases hlt : i < l.length
  · obtain ⟨x, hx⟩ : ∃ x, l[i]? = some x := ⟨_, List.getElem?_eq_getElem hlt⟩
    obtain ⟨g, o, rfl, _, hg, hat⟩ := hrow (by rintro rfl; simp at hlt)
    obtain ⟨e0, e1, e2, e3, e4⟩ := hat i x hx
    rw [isStopM_at hx]
    have hl : (i : Int) < (l.length : Int) := by omega
    have hl2 : ((i : Int) == (l.length : Int)) = false := by simp; omega
    have hN : Hid (isNameM l i sEnd = (decide (x.1 = 1) && decide (x.2.2.1 = sEnd))) := Lib.hid (isNameM_at hx sEnd)
    clear hrow hat hx
    by_cases hk : x.1 = 1 ∧ x.2.2.1 = sEnd
    · have hT : Hid (isNameM l i sEnd = true) := Lib.hid (by rw [hN.out, decide_eq_true hk.1, decide_eq_true hk.2]; rfl)
      rw [decide_eq_true hk.1, decide_eq_true hk.2]
      have HC : Hid (Calls Tryz.prog 92 #[.pointer (some ⟨rb, 0, none⟩), .int .i64 (i : Int), .string ⟨#[101, 110, 100]⟩] W fun e w' => e = .returned (.bool true) ∧ W = w') := Lib.hid (by have := HN.out sEnd; rw [hT.out] at this; exact this)
      clear hk hN HN hT
      go_enter Tryz.func94, Tryz.ntmps94
      go_wp2_with fail
      refine HC.out.mono ?_
      rintro e w1 ⟨rfl, rfl⟩
      go_wp2_with fail
      exact bodyPost_ret (v := .bool true) (by simp [results, Tryz.results94, go_sem]) rfl ⟨rfl, Below.refl _ _⟩
    · have hT : Hid (isNameM l i sEnd = false) := Lib.hid (by
        rw [hN.out]
        by_cases h1 : x.1 = 1
        · rw [decide_eq_false (fun h2 => hk ⟨h1, h2⟩), Bool.and_false]
        · rw [decide_eq_false h1, Bool.false_and])
      rw [← hN.out, hT.out, Bool.false_or]
      have HC : Hid (Calls Tryz.prog 92 #[.pointer (some ⟨rb, 0, none⟩), .int .i64 (i : Int), .string ⟨#[101, 110, 100]⟩] W fun e w' => e = .returned (.bool false) ∧ W = w') := Lib.hid (by have := HN.out sEnd; rw [hT.out] at this; exact this)
      clear hk hN HN hT
      by_cases h5 : x.1 = 5
      · rw [decide_eq_true h5, Bool.true_and]
        have k1 : ((x.1 : Int) == 5) = true := by simp [h5]
        have HA : Hid (∀ (W : World) (b : Nat) (hb : b = W.heap.size), Calls Tryz.prog 61 #[.string x.2.2.1, .slice (some ⟨b, 0, none⟩) 5 5] (W.alloc (.cells #[.string ⟨#[59]⟩, .string ⟨#[44]⟩, .string ⟨#[41]⟩, .string ⟨#[93]⟩, .string ⟨#[125]⟩] 9)) fun e w' => e = .returned (.bool (decide (x.2.2.1 ∈ stops))) ∧ (W.alloc (.cells #[.string ⟨#[59]⟩, .string ⟨#[44]⟩, .string ⟨#[41]⟩, .string ⟨#[93]⟩, .string ⟨#[125]⟩] 9)) = w') :=
          Lib.hid fun W b hb => by subst hb; exact among_any x.2.2.1 (l := stops) (by decide) _ (srow_new W _ stops 9 rfl)
        clear h5
        go_enter Tryz.func94, Tryz.ntmps94
        go_wp2_with fail
        refine HC.out.mono ?_
        rintro e w1 ⟨rfl, rfl⟩
        go_wp2_with fail
        (with_reducible refine (HA.out _ _ (by simp)).mono ?_)
        rintro e w2 ⟨rfl, rfl⟩
        go_wp2_with fail
        exact bodyPost_ret (v := .bool (decide (x.2.2.1 ∈ stops))) (by simp [results, Tryz.results94, go_sem]) rfl ⟨rfl, ((Below.refl _ _).alloc (Nat.le_refl _) _).alloc (by simp) _⟩
      · rw [decide_eq_false h5, Bool.false_and]
        have k1 : ((x.1 : Int) == 5) = false := by simp [h5]
        clear h5
        go_enter Tryz.func94, Tryz.ntmps94
        go_wp2_with fail
        refine HC.out.mono ?_
        rintro e w1 ⟨rfl, rfl⟩
        go_wp2_with fail
        exact bodyPost_ret (v := .bool false) (by simp [results, Tryz.results94, go_sem]) rfl ⟨rfl, (Below.refl _ _).alloc (Nat.le_refl _) _⟩
  · rw [isStopM_out hlt]
    have hl2 : ((i : Int) == (l.length : Int)) = true := by simp; omega
    clear hrow HN
    go_enter Tryz.func94, Tryz.ntmps94
    go_wp2_with fail
    exact bodyPost_ret (v := .bool true) (by simp [results, Tryz.results94, go_sem]) rfl ⟨rfl, Below.refl _ _⟩
end

section
open Go.RowKit

def gpV (g : Gp) (kv : Value) : List Value := fgV g.fg kv ++ [.int .i64 (g.pl : Int)]
def flatG (gs : List Gp) (kvs : List Value) : List Value := (gs.zip kvs).flatMap fun p => gpV p.1 p.2
theorem flatG_snoc {l : List Gp} {kvs : List Value} (h : kvs.length = l.length) (x : Gp) (kv : Value) : flatG (l ++ [x]) (kvs ++ [kv]) = flatG l kvs ++ gpV x kv := by
  unfold flatG
  rw [List.zip_append h.symm, List.flatMap_append]
  simp
theorem flatG_length {l : List Gp} {kvs : List Value} (h : kvs.length = l.length) : (flatG l kvs).length = l.length * 8 := by
  induction l generalizing kvs with
  | nil => simp [flatG]
  | cons x r ih =>
    rcases kvs with _ | ⟨kv, kvs⟩
    · cases h
    · have e : flatG (x :: r) (kv :: kvs) = gpV x kv ++ flatG r kvs := by simp [flatG]
      rw [e, List.length_append, ih (by simpa using h), List.length_cons]; simp [gpV, fgV]; omega
/-- Blocks that are no row of a group that is open. -/
def Sealed (base : Nat) (ob : Nat) (kvs : List Value) (b : Nat) : Prop := base ≤ b ∧ b ≠ ob ∧ ∀ kv ∈ kvs, kv.ownBlock ≠ some b
structure Opn (W : World) (base : Nat) (gs : List Gp) (ob cap : Nat) (kvs : List Value) : Prop where
  len : kvs.length = gs.length
  row : W.ownsRow base 102 8 (.slice (some ⟨ob, 0, none⟩) gs.length cap) gs.length (flatG gs kvs)
  ne : ∀ kv ∈ kvs, kv.ownBlock ≠ some ob
  nd : ∀ (i j : Nat) (x y : Value) (b : Nat), kvs[i]? = some x → kvs[j]? = some y → x.ownBlock = some b → y.ownBlock = some b → i = j
  kids : ∀ (i : Nat) (g : Gp) (kv : Value), gs[i]? = some g → kvs[i]? = some kv → FOwn W base (Sealed base ob kvs) kv g.kids

section
variable {W W' : World} {base : Nat} {pre : List Gp} {top : Gp} {ob cap : Nat} {kp : List Value} {kt : Value}
theorem get_snoc_lt {α : Type} {l : List α} {x y : α} {i : Nat} (h : (l ++ [x])[i]? = some y) (hi : i ≠ l.length) : l[i]? = some y := by
  have hl := (List.getElem?_eq_some_iff.1 h).1
  rw [List.length_append, List.length_singleton] at hl
  rwa [List.getElem?_append_left (by omega)] at h
theorem get_snoc_eq {α : Type} {l : List α} {x y : α} {i : Nat} (h : (l ++ [x])[i]? = some y) (hi : i = l.length) : x = y := by
  subst hi
  simpa using h
theorem FOwn.lt {v : Value} {P : Nat → Prop} {l : List Fg} (h : FOwn W base P v l) {b : Nat} (hb : v.ownBlock = some b) : base ≤ b ∧ b < W.heap.size := by
  obtain ⟨kvs, _, h2, _⟩ := h
  exact h2.lt b hb
theorem Opn.push {gs : List Gp} {kvs : List Value} {g : Gp} {ob' cap' : Nat} (h : Opn W base gs ob cap kvs) (hg : g.kids = [])
    (hk : ∀ b, b < W.heap.size → b ≠ ob → W'.heap[b]? = W.heap[b]?) (hs : W.heap.size ≤ W'.heap.size) (ho : ob' = ob ∨ W.heap.size ≤ ob')
    (hr : W'.ownsRow base 102 8 (.slice (some ⟨ob', 0, none⟩) (gs.length + 1) cap') (gs.length + 1) (flatG gs kvs ++ gpV g (.slice none 0 0))) :
    Opn W' base (gs ++ [g]) ob' cap' (kvs ++ [.slice none 0 0]) := by
  have hlt : ∀ (i : Nat) (kv : Value) (b : Nat), kvs[i]? = some kv → kv.ownBlock = some b → b < W.heap.size := fun i kv b h1 h2 => by
    obtain ⟨g0, hg0⟩ : ∃ g0, gs[i]? = some g0 := ⟨_, List.getElem?_eq_getElem (by have := (List.getElem?_eq_some_iff.1 h1).1; have := h.len; omega)⟩
    exact ((h.kids i g0 kv hg0 h1).lt h2).2
  have hne : ∀ kv ∈ kvs, kv.ownBlock ≠ some ob' := fun kv hkv e => by
    obtain ⟨i, hi⟩ := List.mem_iff_getElem?.1 hkv
    rcases ho with rfl | ho
    · exact h.ne kv hkv e
    · have := hlt i kv ob' hi e; omega
  refine ⟨by simp [h.len], ?_, ?_, ?_, ?_⟩
  · rw [flatG_snoc h.len, List.length_append, List.length_singleton]
    exact hr
  · intro kv hkv
    rcases List.mem_append.1 hkv with hkv | hkv
    · exact hne kv hkv
    · simp only [List.mem_singleton] at hkv; subst hkv; simp [Value.ownBlock]
  · intro i j x y b hi hj hx hy
    by_cases h1 : i = kvs.length
    · have := get_snoc_eq hi h1; subst this; cases hx
    · by_cases h2 : j = kvs.length
      · have := get_snoc_eq hj h2; subst this; cases hy
      · exact h.nd i j x y b (get_snoc_lt hi h1) (get_snoc_lt hj h2) hx hy
  · intro i g0 kv hi hj
    by_cases h1 : i = kvs.length
    · have := get_snoc_eq hj h1; subst this
      have := get_snoc_eq hi (by rw [h1, h.len]); subst this
      rw [hg]
      exact FOwn.nil _ _ _
    · refine (h.kids i g0 kv (get_snoc_lt hi (by rw [← h.len]; exact h1)) (get_snoc_lt hj h1)).keep (fun b hb hz => ⟨⟨hb.1, by rcases ho with rfl | ho; exact hb.2.1; omega, fun kv' hkv' => ?_⟩, hk b hz hb.2.1⟩) hs (fun b hb hz => hk b hz ?_)
      · rcases List.mem_append.1 hkv' with hkv' | hkv'
        · exact hb.2.2 kv' hkv'
        · simp only [List.mem_singleton] at hkv'; subst hkv'; simp [Value.ownBlock]
      · rintro rfl
        exact h.ne kv (List.mem_iff_getElem?.2 ⟨i, get_snoc_lt hj h1⟩) hb
theorem Opn.pop (h : Opn W base (pre ++ [top]) ob cap (kp ++ [kt])) : Opn W base pre ob cap kp ∧ FVal W (Sealed base ob kp) kt top.kids := by
  have hl : kp.length = pre.length := by have := h.len; simpa using this
  have hsub : ∀ b, Sealed base ob (kp ++ [kt]) b → Sealed base ob kp b := fun b hb => ⟨hb.1, hb.2.1, fun kv hkv => hb.2.2 kv (List.mem_append_left _ hkv)⟩
  have hkt := h.kids pre.length top kt (by simp) (by rw [← hl]; simp)
  refine ⟨⟨hl, ?_, fun kv hkv => h.ne kv (List.mem_append_left _ hkv), ?_, ?_⟩, hkt.val hsub ?_⟩
  · have hr := h.row
    rw [flatG_snoc hl, List.length_append, List.length_singleton] at hr
    exact ownsRow_pop (flatG_length hl) hr
  · intro i j x y b hi hj
    exact h.nd i j x y b (by rw [List.getElem?_append_left (List.getElem?_eq_some_iff.1 hi).1]; exact hi) (by rw [List.getElem?_append_left (List.getElem?_eq_some_iff.1 hj).1]; exact hj)
  · intro i g kv hi hj
    exact (h.kids i g kv (by rw [List.getElem?_append_left (List.getElem?_eq_some_iff.1 hi).1]; exact hi) (by rw [List.getElem?_append_left (List.getElem?_eq_some_iff.1 hj).1]; exact hj)).keep (fun b hb _ => ⟨hsub b hb, rfl⟩) (Nat.le_refl _) (fun _ _ _ => rfl)
  · intro b hb
    refine ⟨(hkt.lt hb).1, fun e => h.ne kt (by simp) (by rw [hb, e]), fun kv hkv e => ?_⟩
    obtain ⟨i, hi⟩ := List.mem_iff_getElem?.1 hkv
    have hil := (List.getElem?_eq_some_iff.1 hi).1
    have := h.nd i kp.length kv kt b (by rw [List.getElem?_append_left hil]; exact hi) (by simp) e hb
    omega
theorem Opn.add {f : Fg} {kv : Value} {g c' : Nat} {kk : List Value} (h : Opn W base (pre ++ [top]) ob cap (kp ++ [kt])) (hf : FVal W (Sealed base ob (kp ++ [kt])) kv f.kids)
    (hkk : kk.length = top.kids.length) (hkv : ∀ (i : Nat) (x : Fg) (u : Value), top.kids[i]? = some x → kk[i]? = some u → FVal W (Sealed base ob (kp ++ [kt])) u x.kids)
    (hk : ∀ b, b < W.heap.size → b ≠ ob → b ≠ g → kt.ownBlock ≠ some b → W'.heap[b]? = W.heap[b]?) (hs : W.heap.size ≤ W'.heap.size) (ho : kt.ownBlock = some g ∨ W.heap.size ≤ g)
    (hr : W'.ownsRow base 102 8 (.slice (some ⟨ob, 0, none⟩) (pre.length + 1) cap) (pre.length + 1) (flatG pre kp ++ gpV (top.add f) (.slice (some ⟨g, 0, none⟩) (top.kids.length + 1) c')))
    (hv : W'.ownsRow base 52 7 (.slice (some ⟨g, 0, none⟩) (top.kids.length + 1) c') (top.kids.length + 1) (flatF top.kids kk ++ fgV f kv)) :
    Opn W' base (pre ++ [top.add f]) ob cap (kp ++ [.slice (some ⟨g, 0, none⟩) (top.kids.length + 1) c']) := by
  have hl : kp.length = pre.length := by have := h.len; simpa using this
  have hkp : ∀ {i : Nat} {kv : Value}, kp[i]? = some kv → (kp ++ [kt])[i]? = some kv := fun {i kv} hi => by rw [List.getElem?_append_left (List.getElem?_eq_some_iff.1 hi).1]; exact hi
  have hgp : ∀ {i : Nat} {g0 : Gp}, pre[i]? = some g0 → (pre ++ [top])[i]? = some g0 := fun {i g0} hi => by rw [List.getElem?_append_left (List.getElem?_eq_some_iff.1 hi).1]; exact hi
  have hlt : ∀ (i : Nat) (kv : Value) (b : Nat), kp[i]? = some kv → kv.ownBlock = some b → b < W.heap.size := fun i kv b h1 h2 => by
    obtain ⟨g0, hg0⟩ : ∃ g0, pre[i]? = some g0 := ⟨_, List.getElem?_eq_getElem (by have := (List.getElem?_eq_some_iff.1 h1).1; omega)⟩
    exact ((h.kids i g0 kv (hgp hg0) (hkp h1)).lt h2).2
  have hob : ob < W.heap.size := by
    have := h.row.lt ob rfl
    omega
  have hng : ∀ (i : Nat) (kv : Value), kp[i]? = some kv → kv.ownBlock ≠ some g := fun i kv h1 e => by
    rcases ho with ho | ho
    · have := h.nd i kp.length kv kt g (hkp h1) (by simp) e ho
      have := (List.getElem?_eq_some_iff.1 h1).1
      omega
    · have := hlt i kv g h1 e; omega
  have hgo : g ≠ ob := by
    rintro rfl
    rcases ho with ho | ho
    · exact h.ne kt (by simp) ho
    · omega
  have hsl : ∀ b, Sealed base ob (kp ++ [kt]) b → b < W.heap.size → Sealed base ob (kp ++ [.slice (some ⟨g, 0, none⟩) (top.kids.length + 1) c']) b ∧ W'.heap[b]? = W.heap[b]? := fun b hb hz => by
    have hbg : b ≠ g := by
      rintro rfl
      rcases ho with ho | ho
      · exact hb.2.2 kt (by simp) ho
      · omega
    refine ⟨⟨hb.1, hb.2.1, fun kv' hkv' => ?_⟩, hk b hz hb.2.1 hbg (hb.2.2 kt (by simp))⟩
    rcases List.mem_append.1 hkv' with hkv' | hkv'
    · exact hb.2.2 kv' (List.mem_append_left _ hkv')
    · simp only [List.mem_singleton] at hkv'; subst hkv'
      simp only [Value.ownBlock, ne_eq, Option.some.injEq]
      exact fun e => hbg e.symm
  refine ⟨by simp [hl], ?_, ?_, ?_, ?_⟩
  · rw [flatG_snoc hl, List.length_append, List.length_singleton]
    exact hr
  · intro kv' hkv'
    rcases List.mem_append.1 hkv' with hkv' | hkv'
    · exact h.ne kv' (List.mem_append_left _ hkv')
    · simp only [List.mem_singleton] at hkv'; subst hkv'
      simp only [Value.ownBlock, ne_eq, Option.some.injEq]
      exact hgo
  · intro i j x y b hi hj hx hy
    by_cases h1 : i = kp.length
    · by_cases h2 : j = kp.length
      · omega
      · have := get_snoc_eq hi h1; subst this
        simp only [Value.ownBlock, Option.some.injEq] at hx
        exact absurd (by rw [hy, hx]) (hng j y (get_snoc_lt hj h2))
    · by_cases h2 : j = kp.length
      · have := get_snoc_eq hj h2; subst this
        simp only [Value.ownBlock, Option.some.injEq] at hy
        exact absurd (by rw [hx, hy]) (hng i x (get_snoc_lt hi h1))
      · exact h.nd i j x y b (hkp (get_snoc_lt hi h1)) (hkp (get_snoc_lt hj h2)) hx hy
  · intro i g0 kv' hi hj
    by_cases h1 : i = kp.length
    · have := get_snoc_eq hj h1; subst this
      have := get_snoc_eq hi (by rw [h1, hl]); subst this
      refine ⟨kk ++ [kv], by simp [Gp.add, hkk], ?_, fun i' x' u' hx' hu' => ?_⟩
      · show W'.ownsRow base 52 7 _ (top.kids ++ [f]).length (flatF (top.kids ++ [f]) (kk ++ [kv]))
        rw [flatF_snoc hkk, List.length_append, List.length_singleton]
        exact hv
      · have hx2 : (top.kids ++ [f])[i']? = some x' := hx'
        by_cases h2 : i' = kk.length
        · have := get_snoc_eq hu' h2; subst this
          have := get_snoc_eq hx2 (by rw [h2, hkk]); subst this
          exact hf.keep (fun b hb hz => hsl b hb hz) hs
        · exact (hkv i' x' u' (get_snoc_lt hx2 (by rw [← hkk]; exact h2)) (get_snoc_lt hu' h2)).keep (fun b hb hz => hsl b hb hz) hs
    · have hj' := get_snoc_lt hj h1
      refine (h.kids i g0 kv' (hgp (get_snoc_lt hi (by rw [← hl]; exact h1))) (hkp hj')).keep (fun b hb hz => hsl b hb hz) hs (fun b hb hz => hk b hz ?_ ?_ ?_)
      · rintro rfl; exact h.ne kv' (List.mem_iff_getElem?.2 ⟨i, hkp hj'⟩) hb
      · rintro rfl; exact hng i kv' hj' hb
      · intro e
        have := h.nd i kp.length kv' kt b (hkp hj') (by simp) hb e
        omega
end
end

section
open Go.RowKit

theorem infoFrag : (Tryz.prog.info? 52).map (fun i => (i.zero, i.size, i.bytes)) = some (some (.agg #[.int .i64 0, .int .i64 0, .string ⟨#[]⟩, .int .i64 0, .int .i64 0, .string ⟨#[]⟩, .slice none 0 0]), 7, 88) := by kernel_rfl
theorem infoGroup : (Tryz.prog.info? 102).map (fun i => (i.zero, i.size, i.bytes)) = some (some (.agg #[.int .i64 0, .int .i64 0, .string ⟨#[]⟩, .int .i64 0, .int .i64 0, .string ⟨#[]⟩, .slice none 0 0, .int .i64 0]), 8, 96) := by kernel_rfl

theorem ownsRow_drewN {w : World} {base : Nat} {e : TypeId} {size : Nat} {v : Value} {n : Nat} {xs : List Value} (h : w.ownsRow base e size v n xs) (q : Nat) : (w.drewN q).ownsRow base e size v n xs :=
  ⟨h.1, by rw [World.heap_drewN]; exact h.2⟩
theorem app_cell {w2 : World} {base g2 k cap2 size : Nat} {t : TypeId} {xs news : List Value} (h : w2.ownsRow base t size (.slice (some ⟨g2, 0, none⟩) (k + 1) cap2) (k + 1) (xs ++ news)) (hx : xs.length = k * size) {j : Nat} {u : Value} (hu : news[j]? = some u) (hj : j < size) :
    w2.cell? ⟨g2, k * size + j, none⟩ = some u := by
  rw [h.cellAt _ (by rw [Nat.succ_mul]; omega), List.getElem?_append_right (by omega), hx, Nat.add_sub_cancel_left]
  exact hu
theorem ne_of_hat {v : Value} {g ob H : Nat} (hat : v.ownBlock = some g ∨ g = H) (hne : v.ownBlock ≠ some ob) (ho : ob < H) : ¬ g = ob ∧ ¬ ob = g := by
  have h : ¬ g = ob := by
    rintro rfl
    rcases hat with h | h
    · exact hne h
    · omega
  exact ⟨h, fun e => h e.symm⟩
/-- What add leaves. -/
def Added (base ob n k : Nat) (kt : Value) (xs ys : List Value) (W W' : World) : Prop :=
  ∃ g c' w3, W' = World.setCell w3 ⟨ob, n * 8 + 6, none⟩ (.slice (some ⟨g, 0, none⟩) (k + 1) c') ∧ KeepS (fun b => b = g ∨ kt.ownBlock = some b) W w3 ∧ (kt.ownBlock = some g ∨ W.heap.size ≤ g) ∧ g ≠ ob ∧
    w3.ownsRow base 52 7 (.slice (some ⟨g, 0, none⟩) (k + 1) c') (k + 1) (xs ++ ys)
theorem set_app {xs zs : List Value} {m j : Nat} (hx : xs.length = m) (u : Value) : (xs ++ zs).set (m + j) u = xs ++ zs.set j u := by
  rw [List.set_append_right _ _ (by omega), hx, Nat.add_sub_cancel_left]
theorem add_end {base ob n k : Nat} {kt : Value} {xs : List Value} {W W2 w2 : World} {g2 cap2 : Nat} {O : Obj} {v0 v1 v2 v3 v4 v5 v6 z0 z1 z2 z3 z4 z5 z6 : Value} (hB : Below W.heap.size W W2) (hz : W2.heap.size = W.heap.size + 1) (hne : kt.ownBlock ≠ some ob) (hob : ob < W2.heap.size)
    (hgrow : ((W2.alloc O).drew).grownBy w2 kt.ownBlock) (hown2 : w2.ownsRow base 52 7 (.slice (some ⟨g2, 0, none⟩) (k + 1) cap2) (k + 1) (xs ++ [z0, z1, z2, z3, z4, z5, z6])) (hat : kt.ownBlock = some g2 ∨ g2 = W2.heap.size + 1) (hx : xs.length = k * 7) :
    Added base ob n k kt xs [v0, v1, v2, v3, v4, v5, v6] W ((((((((w2.setCell ⟨g2, k * 7, none⟩ v0).setCell ⟨g2, k * 7 + 1, none⟩ v1).setCell ⟨g2, k * 7 + 2, none⟩ v2).setCell ⟨g2, k * 7 + 3, none⟩ v3).setCell ⟨g2, k * 7 + 4, none⟩ v4).setCell ⟨g2, k * 7 + 5, none⟩ v5).setCell ⟨g2, k * 7 + 6, none⟩ v6).setCell ⟨ob, n * 8 + 6, none⟩ (.slice (some ⟨g2, 0, none⟩) (k + 1) cap2)) := by
  have hk : KeepS (fun b => b = g2 ∨ kt.ownBlock = some b) W w2 := (KeepS.of_below hB).trans ((((KeepS.refl _ W2).alloc O).drew 1).trans (.of_grown hgrow fun k e => .inr e))
  refine ⟨g2, cap2, _, rfl, ((((((((hk.setCell (.inl rfl) _ _).setCell (.inl rfl) _ _).setCell (.inl rfl) _ _).setCell (.inl rfl) _ _).setCell (.inl rfl) _ _).setCell (.inl rfl) _ _).setCell (.inl rfl) _ _)), ?_, (ne_of_hat hat hne (by omega)).1, ?_⟩
  · rcases hat with h | h
    · exact .inl h
    · right; omega
  · have h0 := (hown2.stored (k * 7 + 0) v0).1
    rw [set_app hx, Nat.add_zero] at h0
    have h1 := (h0.stored (k * 7 + 1) v1).1
    rw [set_app hx] at h1
    have h2 := (h1.stored (k * 7 + 2) v2).1
    rw [set_app hx] at h2
    have h3 := (h2.stored (k * 7 + 3) v3).1
    rw [set_app hx] at h3
    have h4 := (h3.stored (k * 7 + 4) v4).1
    rw [set_app hx] at h4
    have h5 := (h4.stored (k * 7 + 5) v5).1
    rw [set_app hx] at h5
    have h6 := (h5.stored (k * 7 + 6) v6).1
    rw [set_app hx] at h6
    exact h6
theorem modify_comm {α : Type} (l : Array α) (f g : α → α) {a b : Nat} (h : a ≠ b) : (l.modify a f).modify b g = (l.modify b g).modify a f := by
  apply Array.ext
  · simp
  · intro i h1 h2
    simp only [Array.getElem_modify]
    split
    · split
      · omega
      · rfl
    · split <;> rfl
theorem setCell_comm (w : World) {a b : Addr} (u v : Value) (h : a.block ≠ b.block) : (w.setCell a u).setCell b v = (w.setCell b v).setCell a u := by
  unfold World.setCell
  simp only
  rw [modify_comm _ _ _ h]
theorem add_end2 {base ob n k : Nat} {kt : Value} {xs : List Value} {W W2 w2 : World} {g2 cap2 : Nat} {O : Obj} {v0 v1 v2 v3 v4 v5 v6 z0 z1 z2 z3 z4 z5 z6 : Value} (hB : Below W.heap.size W W2) (hz : W2.heap.size = W.heap.size + 1) (hne : kt.ownBlock ≠ some ob) (hob : ob < W2.heap.size)
    (hgrow : ((W2.alloc O).drew).grownBy w2 kt.ownBlock) (hown2 : w2.ownsRow base 52 7 (.slice (some ⟨g2, 0, none⟩) (k + 1) cap2) (k + 1) (xs ++ [z0, z1, z2, z3, z4, z5, z6])) (hat : kt.ownBlock = some g2 ∨ g2 = W2.heap.size + 1) (hx : xs.length = k * 7) :
    Added base ob n k kt xs [v0, v1, v2, v3, v4, v5, v6] W ((((((((w2.setCell ⟨ob, n * 8 + 6, none⟩ (.slice (some ⟨g2, 0, none⟩) (k + 1) cap2)).setCell ⟨g2, k * 7, none⟩ v0).setCell ⟨g2, k * 7 + 1, none⟩ v1).setCell ⟨g2, k * 7 + 2, none⟩ v2).setCell ⟨g2, k * 7 + 3, none⟩ v3).setCell ⟨g2, k * 7 + 4, none⟩ v4).setCell ⟨g2, k * 7 + 5, none⟩ v5).setCell ⟨g2, k * 7 + 6, none⟩ v6) := by
  have hc := fun (w : World) (j : Nat) (v : Value) => setCell_comm w (a := ⟨ob, n * 8 + 6, none⟩) (b := ⟨g2, j, none⟩) (.slice (some ⟨g2, 0, none⟩) (k + 1) cap2) v (ne_of_hat hat hne (by omega)).2
  rw [hc, hc, hc, hc, hc, hc, hc]
  exact add_end hB hz hne hob hgrow hown2 hat hx
end

end Go.Proofs.YtafncodigpjkaaaGreatDoor
