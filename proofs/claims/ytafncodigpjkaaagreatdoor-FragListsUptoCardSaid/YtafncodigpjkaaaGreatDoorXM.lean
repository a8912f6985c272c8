/-
  The value of digits, by canonical digits (models only).
  The reference's comments and blanks.
  The reference's value of digits, without a dash.
  The reference's value of digits behind a dash.
  The reference's value of a string: all cases.
  The reference's fault of an integer.
  The reference's nested comments.
  The reference: what makes a dash a sign; a text with a splice.
-/
import Derived.Test.YtafncodigpjkaaaGreatDoorXA
import Derived.Test.YtafncodigpjkaaaGreatDoorXC
import Derived.Test.YtafncodigpjkaaaGreatDoorXJ
import Derived.Laws.Cover1
import Derived.Lib.ItoaLen
import Derived.Test.YtafncodigpjkaaaGreatDoorXH
namespace Go.Proofs.YtafncodigpjkaaaGreatDoor
section

theorem dval_ge {l : List UInt8} (h : Canon l) (h0 : l.head? ≠ some 48) : 10 ^ (l.length - 1) ≤ dvalA 0 l := by
  cases l with
  | nil => exact absurd rfl h.ne
  | cons c r =>
    have hc := h.all c List.mem_cons_self
    have : c.toNat ≠ 48 := by
      intro e; apply h0; simp only [List.head?_cons]; congr 1; exact UInt8.toNat_inj.1 e
    rw [dval_cons, List.length_cons, Nat.add_sub_cancel]
    have : 1 * 10 ^ r.length ≤ (c.toNat - 48) * 10 ^ r.length := Nat.mul_le_mul_right _ (by omega)
    omega
theorem gt_iff {d m : List UInt8} (hl : d.length = m.length) (hd : Canon d) (hm : Canon m) : (!(Op.bytesLess d m || d == m)) = true ↔ dvalA 0 m < dvalA 0 d := by
  have h := less_val d m hl hd.all hm.all
  have hi : d = m ↔ dvalA 0 d = dvalA 0 m := by
    constructor
    · intro e; rw [e]
    · intro e
      rw [← dec_canon _ d rfl hd, ← dec_canon _ m rfl hm, e]
  cases hb : Op.bytesLess d m with
  | true => have := h.1 hb; simp; omega
  | false =>
    have h1 : ¬ dvalA 0 d < dvalA 0 m := fun x => by rw [h.2 x] at hb; cases hb
    by_cases e : d = m
    · have := hi.1 e; simp [e]
    · have : dvalA 0 d ≠ dvalA 0 m := fun x => e (hi.2 x)
      simp only [Bool.false_or, Bool.not_eq_true', beq_eq_false_iff_ne]
      exact ⟨fun _ => by omega, fun _ => e⟩
def mostL : Bool → List UInt8
  | false => [57, 50, 50, 51, 51, 55, 50, 48, 51, 54, 56, 53, 52, 55, 55, 53, 56, 48, 55]
  | true => [57, 50, 50, 51, 51, 55, 50, 48, 51, 54, 56, 53, 52, 55, 55, 53, 56, 48, 56]
def mostN : Bool → Nat
  | false => 9223372036854775807
  | true => 9223372036854775808
theorem most_val (b : Bool) : Canon (mostL b) ∧ dvalA 0 (mostL b) = mostN b ∧ (mostL b).length = 19 := by
  cases b
  all_goals
    refine ⟨⟨by decide, ?_, by decide⟩, by decide, by decide⟩
    intro c hc
    simp only [mostL, List.mem_cons, List.not_mem_nil, or_false] at hc
    rcases hc with rfl | rfl | rfl | rfl | rfl | rfl | rfl | rfl | rfl | rfl | rfl | rfl | rfl | rfl | rfl | rfl | rfl | rfl | rfl <;> decide
/-- Too long, or beyond the greatest. -/
def farB (b : Bool) (d : List UInt8) : Bool := decide (19 < d.length) || (decide (d.length = 19) && !(Op.bytesLess d (mostL b) || d == mostL b))
theorem far_iff {b : Bool} {d : List UInt8} (h : Canon d) : farB b d = true ↔ mostN b < dvalA 0 d := by
  obtain ⟨m1, m2, m3⟩ := most_val b
  have hM : mostN b < 10 ^ 19 ∧ 10 ^ 18 ≤ mostN b := by cases b <;> decide
  unfold farB
  rw [Bool.or_eq_true, Bool.and_eq_true, decide_eq_true_eq, decide_eq_true_eq]
  by_cases h1 : 19 < d.length
  · have hf : d.head? ≠ some 48 := fun e => by rw [h.first e] at h1; simp at h1
    have := dval_ge h hf
    have : 10 ^ 19 ≤ 10 ^ (d.length - 1) := Nat.pow_le_pow_right (by omega) (by omega)
    exact ⟨fun _ => by omega, fun _ => Or.inl h1⟩
  · by_cases h2 : d.length = 19
    · rw [gt_iff (by rw [h2, m3]) h m1, m2]
      exact ⟨fun x => by rcases x with x | ⟨_, x⟩; exact absurd x h1; exact x, fun x => Or.inr ⟨h2, x⟩⟩
    · have := dval_lt d h.all
      have : 10 ^ d.length ≤ 10 ^ 18 := Nat.pow_le_pow_right (by omega) (by omega)
      exact ⟨fun x => by rcases x with x | ⟨x, _⟩; exact absurd x h1; exact absurd x h2, fun x => by omega⟩
theorem val_some {s : ByteArray} {v : Int} (h : valO s = some v) : -9223372036854775808 ≤ v ∧ v ≤ 9223372036854775807 ∧ s.data.toList = Lib.itoa v := by
  unfold valO at h
  split at h
  · rename_i x hx
    split at h
    · rename_i hi
      simp only [Option.some.injEq] at h; subst h
      have := atoi_bounds hx
      exact ⟨this.1, this.2, hi.symm⟩
    · cases h
  · cases h
theorem val_list {s : ByteArray} {v : Int} (h0 : -9223372036854775808 ≤ v) (h1 : v ≤ 9223372036854775807) (h : s.data.toList = Lib.itoa v) : valO s = some v := by
  have e : s = ⟨(Lib.itoa v).toArray⟩ := by apply ByteArray.ext; rw [← h]
  rw [e]; exact val_itoa v h0 h1
theorem val_pos_ok {s : ByteArray} (h : Canon s.data.toList) (hf : farB false s.data.toList = false) : valO s = some (dvalA 0 s.data.toList : Int) := by
  have hle : dvalA 0 s.data.toList ≤ 9223372036854775807 := by
    have : ¬ mostN false < dvalA 0 s.data.toList := fun x => by rw [(far_iff h).2 x] at hf; cases hf
    simp only [mostN] at this; omega
  refine val_list (by omega) (by omega) ?_
  unfold Lib.itoa
  rw [if_neg (by omega), show ((dvalA 0 s.data.toList : Nat) : Int).toNat = dvalA 0 s.data.toList by omega, dec_canon _ _ rfl h]
theorem val_neg_ok {s : ByteArray} {d : List UInt8} (hs : s.data.toList = 45 :: d) (h : Canon d) (h0 : d.head? ≠ some 48) (hf : farB true d = false) : valO s = some (-(dvalA 0 d : Int)) := by
  have hle : dvalA 0 d ≤ 9223372036854775808 := by
    have : ¬ mostN true < dvalA 0 d := fun x => by rw [(far_iff h).2 x] at hf; cases hf
    simp only [mostN] at this; omega
  have hge := dval_ge h h0
  have : 1 ≤ 10 ^ (d.length - 1) := Nat.one_le_pow _ _ (by omega)
  refine val_list (by omega) (by omega) ?_
  unfold Lib.itoa
  rw [if_pos (by omega), show (-(dvalA 0 d : Int)).natAbs = dvalA 0 d by omega, dec_canon _ _ rfl h, hs]
theorem val_pos_no {s : ByteArray} (hs : s.data.toList.head? ≠ some 45) (h : ¬ (Canon s.data.toList ∧ farB false s.data.toList = false)) : valO s = none := by
  cases hv : valO s with
  | none => rfl
  | some v =>
    exfalso
    obtain ⟨h0, h1, hi⟩ := val_some hv
    unfold Lib.itoa at hi
    split at hi
    · rw [hi] at hs; exact hs rfl
    · obtain ⟨hC, hd⟩ := canon_dec v.toNat
      rw [← hi] at hC hd
      apply h
      refine ⟨hC, Bool.eq_false_iff.2 fun x => ?_⟩
      have := (far_iff hC).1 x
      simp only [mostN] at this
      omega
theorem val_neg_no {s : ByteArray} {d : List UInt8} (hs : s.data.toList = 45 :: d) (h : ¬ (Canon d ∧ d.head? ≠ some 48 ∧ farB true d = false)) : valO s = none := by
  cases hv : valO s with
  | none => rfl
  | some v =>
    exfalso
    obtain ⟨h0, h1, hi⟩ := val_some hv
    unfold Lib.itoa at hi
    rw [hs] at hi
    split at hi
    · simp only [List.cons.injEq, true_and] at hi
      obtain ⟨hC, hd⟩ := canon_dec v.natAbs
      rw [← hi] at hC hd
      apply h
      refine ⟨hC, fun e => ?_, Bool.eq_false_iff.2 fun x => ?_⟩
      · rw [hC.first e] at hd
        simp [dvalA] at hd
        omega
      · have := (far_iff hC).1 x
        simp only [mostN] at this
        omega
    · have := dec_all v.toNat 45 (by rw [← hi]; exact List.mem_cons_self)
      exact absurd this (by decide)
end

section
open Go.RowKit

def cutV (k a l e : Nat) : Value := .agg #[.int .i64 (k : Int), .int .i64 (a : Int), .int .i64 (l : Int), .int .i64 (e : Int)]

theorem rBlank_any (c : UInt8) (w : World) : Calls Tryz.prog 125 #[.int .u8 (c.toNat : Int)] w fun e w' => e = .returned (.bool (bBlank c)) ∧ w = w' := by
  have hB : Hid (∀ n : Fin 256, bBlank (UInt8.ofNat n.val) = (((((n.val : Int) == 32) || ((n.val : Int) == 9)) || ((n.val : Int) == 10)) || ((n.val : Int) == 13))) := Lib.hid (by decide +kernel)
  have hb : Hid (bBlank c = (((((c.toNat : Int) == 32) || ((c.toNat : Int) == 9)) || ((c.toNat : Int) == 10)) || ((c.toNat : Int) == 13))) := Lib.hid (by
    have := hB.out ⟨c.toNat, c.toNat_lt⟩
    simp only [UInt8.ofNat_toNat] at this
    rw [this])
  clear hB
  go_enter Tryz.func125, Tryz.ntmps125
  go_wp2_with fail
  all_goals
    go_ret
    refine ⟨?_, rfl⟩
    rw [hb.out]
    simp only [*]
    try rfl

/-- Does a comment begin at a place? -/
def isCom (t : ByteArray) (i : Nat) (x : UInt8) : Prop := i + 1 < t.size ∧ aheadB t i = 47 ∧ aheadB t (i + 1) = x

theorem b_eq {c d : UInt8} (h : c = d) : ((c.toNat : Int) == (d.toNat : Int)) = true ∧ ((c.toNat : Int) != (d.toNat : Int)) = false := by
  rw [h]; simp
theorem b_ne {c d : UInt8} (h : c ≠ d) : ((c.toNat : Int) == (d.toNat : Int)) = false ∧ ((c.toNat : Int) != (d.toNat : Int)) = true := by
  have : ((c.toNat : Int) == (d.toNat : Int)) = false := by
    rw [beq_eq_false_iff_ne]; intro e; apply h; apply UInt8.toNat_inj.1; exact Int.ofNat.inj e
  exact ⟨this, by rw [bne, this]; rfl⟩

set_option maxHeartbeats 1000000 in
theorem comment_none (t : ByteArray) (i : Nat) (hi : i ≤ t.size) (ht : t.size ≤ 140737488351232) (h1 : ¬ isCom t i 47) (h2 : ¬ isCom t i 42) (w : World) :
    Calls Tryz.prog 124 #[.string t, .int .i64 (i : Int)] w fun e w' => e = .returned (cutV 0 0 0 0) ∧ Below w.heap.size w w' := by
  have ws : IntKind.i64.wrap ((t.size : Int) - (i : Int)) = (t.size : Int) - (i : Int) := IntWalk.i64_in _ (by omega)
  have wi : IntKind.i64.wrap ((i : Int) + 1) = (i : Int) + 1 := IntWalk.i64_in _ (by omega)
  by_cases hs : i + 1 < t.size
  · have hs' : ((t.size : Int) - (i : Int) < 2) = False := by simp; omega
    have hi1 : (i : Int) < (t.size : Int) := by omega
    have hi2 : (i : Int) + 1 < (t.size : Int) := by omega
    have hn0 : (0 : Int) ≤ (i : Int) + 1 := by omega
    have hn1 : ((i : Int) + 1).toNat = i + 1 := by omega
    have hlt : i < t.size := by omega
    unfold isCom at h1 h2
    rw [aheadB_lt hlt, aheadB_lt hs] at h1 h2
    by_cases ha : t[i] = 47
    · have hb1 : t[i + 1] ≠ 47 := fun e => h1 ⟨hs, ha, e⟩
      have hb2 : t[i + 1] ≠ 42 := fun e => h2 ⟨hs, ha, e⟩
      obtain ⟨p1, p2⟩ : ((t[i].toNat : Int) == 47) = true ∧ ((t[i].toNat : Int) != 47) = false := b_eq ha
      obtain ⟨p3, p4⟩ : ((t[i + 1].toNat : Int) == 47) = false ∧ ((t[i + 1].toNat : Int) != 47) = true := b_ne hb1
      obtain ⟨p5, p6⟩ : ((t[i + 1].toNat : Int) == 42) = false ∧ ((t[i + 1].toNat : Int) != 42) = true := b_ne hb2
      clear hb1 hb2 ha h1 h2
      go_enter Tryz.func124, Tryz.ntmps124
      go_wp2_with fail
      all_goals
        exact bodyPost_ret (v := cutV 0 0 0 0) (by simp [results, Tryz.results124, go_sem, cutV]) rfl ⟨rfl, (Below.refl _ w).alloc (Nat.le_refl _) _⟩
    · obtain ⟨p1, p2⟩ : ((t[i].toNat : Int) == 47) = false ∧ ((t[i].toNat : Int) != 47) = true := b_ne ha
      clear ha h1 h2
      go_enter Tryz.func124, Tryz.ntmps124
      go_wp2_with fail
      all_goals
        exact bodyPost_ret (v := cutV 0 0 0 0) (by simp [results, Tryz.results124, go_sem, cutV]) rfl ⟨rfl, (Below.refl _ w).alloc (Nat.le_refl _) _⟩
  · have hs' : ((t.size : Int) - (i : Int) < 2) = True := by simp; omega
    clear h1 h2
    go_enter Tryz.func124, Tryz.ntmps124
    go_wp2_with fail
    exact bodyPost_ret (v := cutV 0 0 0 0) (by simp [results, Tryz.results124, go_sem, cutV]) rfl ⟨rfl, (Below.refl _ w).alloc (Nat.le_refl _) _⟩

theorem line_at {t : ByteArray} {i n : Nat} (hi : i + n < t.size) (hn : ∀ j, j < n → aheadB t (i + j) ≠ 10) (h : aheadB t (i + n) = 10) : lineN (restB t i) = n := by
  have : Lib.indexByte (restB t i).data.toList 10 = (n : Int) := by
    have hb : ∀ j, j < t.size - i → (restB t i).data.toList[j]? = some (aheadB t (i + j)) := by
      intro j hj
      rw [Array.getElem?_toList, ahead_data (by rw [rest_size]; omega), ahead_rest]
    refine idx_at 10 _ n (fun j hj => ?_) ?_
    · rw [hb j (by omega)]; intro e; exact hn j hj (Option.some.inj e)
    · rw [hb n (by omega), h]
  unfold lineN; rw [this, if_pos (by omega)]; rfl
theorem line_end {t : ByteArray} {i n : Nat} (hi : i + n = t.size) (hn : ∀ j, j < n → aheadB t (i + j) ≠ 10) : lineN (restB t i) = n := by
  have : Lib.indexByte (restB t i).data.toList 10 = -1 := by
    refine idx_none 10 _ (fun j hj => ?_)
    have hj2 : j < n := by
      have : (restB t i).data.toList.length = (restB t i).size := by simp
      rw [this, rest_size] at hj; omega
    rw [Array.getElem?_toList, ahead_data (by rw [rest_size]; omega), ahead_rest]
    intro e; exact hn j hj2 (Option.some.inj e)
  unfold lineN; rw [this, if_neg (by omega), rest_size]
  omega

set_option maxHeartbeats 2000000 in
theorem comment_line (t : ByteArray) (i : Nat) (ht : t.size ≤ 140737488351232) (h : isCom t i 47) (w : World) :
    Calls Tryz.prog 124 #[.string t, .int .i64 (i : Int)] w fun e w' => e = .returned (cutV 8 i (lineN (restB t i)) 0) ∧ Below w.heap.size w w' := by
  obtain ⟨hs, ha, hb⟩ := h
  have ws : IntKind.i64.wrap ((t.size : Int) - (i : Int)) = (t.size : Int) - (i : Int) := IntWalk.i64_in _ (by omega)
  have wi : IntKind.i64.wrap ((i : Int) + 1) = (i : Int) + 1 := IntWalk.i64_in _ (by omega)
  have hs' : ((t.size : Int) - (i : Int) < 2) = False := by simp; omega
  have hi1 : (i : Int) < (t.size : Int) := by omega
  have hi2 : (i : Int) + 1 < (t.size : Int) := by omega
  have hn0 : (0 : Int) ≤ (i : Int) + 1 := by omega
  have hn1 : ((i : Int) + 1).toNat = i + 1 := by omega
  have hlt : i < t.size := by omega
  have H2 : Hid (∀ j, j < 2 → aheadB t (i + j) ≠ 10) := Lib.hid (fun j hj => by
    have : j = 0 ∨ j = 1 := by omega
    rcases this with rfl | rfl
    · rw [Nat.add_zero, ha]; decide
    · rw [hb]; decide)
  rw [aheadB_lt hlt] at ha
  rw [aheadB_lt hs] at hb
  obtain ⟨p1, p2⟩ : ((t[i].toNat : Int) == 47) = true ∧ ((t[i].toNat : Int) != 47) = false := b_eq ha
  obtain ⟨p3, p4⟩ : ((t[i + 1].toNat : Int) == 47) = true ∧ ((t[i + 1].toNat : Int) != 47) = false := b_eq hb
  clear ha hb
  go_enter Tryz.func124, Tryz.ntmps124
  go_wp2_with fail
  go_loop [5] (fun iv => ∃ n : Nat, 2 ≤ n ∧ i + n ≤ t.size ∧ iv = .int .i64 (n : Int) ∧ Hid (∀ j, j < n → aheadB t (i + j) ≠ 10)) (fun iv => t.size - (intOf iv).toNat)
  case atStart => exact ⟨2, by omega, by omega, rfl, H2⟩
  case round =>
    obtain ⟨n, hn2, hle, rfl, hn⟩ := hrel
    have w1 : IntKind.i64.wrap ((i : Int) + (n : Int)) = (i : Int) + (n : Int) := IntWalk.i64_in _ (by omega)
    have w2 : IntKind.i64.wrap ((n : Int) + 1) = (n : Int) + 1 := IntWalk.i64_in _ (by omega)
    by_cases hl : i + n < t.size
    · have hl' : (i : Int) + (n : Int) < (t.size : Int) := by omega
      have hp : (0 : Int) ≤ (i : Int) + (n : Int) := by omega
      have hq : ((i : Int) + (n : Int)).toNat = i + n := by omega
      by_cases hc : t[i + n] = 10
      · have hE : Hid (lineN (restB t i) = n) := Lib.hid (line_at hl hn.out (by rw [aheadB_lt hl]; exact hc))
        obtain ⟨p5, p6⟩ : ((t[i + n].toNat : Int) == 10) = true ∧ ((t[i + n].toNat : Int) != 10) = false := b_eq hc
        clear hc
        go_wp2_with fail
        exact bodyPost_ret (v := cutV 8 i n 0) (by simp [results, Tryz.results124, go_sem, cutV]) rfl ⟨by rw [hE.out], (Below.refl _ w).alloc (Nat.le_refl _) _⟩
      · obtain ⟨p5, p6⟩ : ((t[i + n].toNat : Int) == 10) = false ∧ ((t[i + n].toNat : Int) != 10) = true := b_ne hc
        have hn' : Hid (∀ j, j < n + 1 → aheadB t (i + j) ≠ 10) := Lib.hid (fun j hj => by
          by_cases e : j = n
          · rw [e, aheadB_lt hl]; exact hc
          · exact hn.out j (by omega))
        clear hc
        go_wp2_with fail
        exact ⟨⟨n + 1, by omega, by omega, by simp, hn'⟩, by simp only [intOf]; omega⟩
    · have hl' : ((i : Int) + (n : Int) < (t.size : Int)) = False := by simp; omega
      have hE : Hid (lineN (restB t i) = n) := Lib.hid (line_end (by omega) hn.out)
      go_wp2_with fail
      exact bodyPost_ret (v := cutV 8 i n 0) (by simp [results, Tryz.results124, go_sem, cutV]) rfl ⟨by rw [hE.out], (Below.refl _ w).alloc (Nat.le_refl _) _⟩
end

section
open Go.RowKit

theorem u8_in (x : Int) (h : 0 ≤ x ∧ x ≤ 255) : IntKind.u8.wrap x = x := by
  simp [IntKind.wrap, IntKind.bits, IntKind.signed]
  omega
def numV (o : Option Int) : Value := .tuple #[.int .i64 (o.getD 0), .int .i64 (if o.isSome then 0 else 11)]
theorem num_take {s : ByteArray} {k : Nat} (h : k < s.size) : dvalA 0 (s.data.toList.take (k + 1)) = dvalA 0 (s.data.toList.take k) * 10 + (s[k].toNat - 48) := by
  rw [List.take_add_one, get_byte h]; exact dval_snoc _ _ _
theorem num_allD {s : ByteArray} {k : Nat} (h : k < s.size) (ha : allD (s.data.toList.take k)) (h0 : bD s[k] = true) : allD (s.data.toList.take (k + 1)) := by
  rw [List.take_add_one, get_byte h]
  intro c hc
  rcases List.mem_append.1 hc with hc | hc
  · exact ha c hc
  · simp at hc; subst hc
    simp only [bD, Bool.and_eq_true, decide_eq_true_eq] at h0; omega

set_option maxHeartbeats 4000000 in
set_option maxRecDepth 100000 in
theorem number_pos (s : ByteArray) (h0 : 0 < s.size) (h19 : s.size ≤ 19) (h45 : s[0] ≠ 45) (q b1 b2 c : Bool) (hq : ((s.size : Int) == 19) = q) (h1 : Op.bytesLess s.toList (mostL false) = b1) (h2 : (s.toList == mostL false) = b2)
    (hqb : q = true → b1 = true ∨ b2 = true) (hc : ((s[0].toNat : Int) == 48) = c) (hcb : c = true → (s.toList == [48]) = true) (w : World) :
    Calls Tryz.prog 89 #[.string s] w fun e w' => e = .returned (numV (valO s)) ∧ w = w' := by
  have hd : s.data.toList.length = s.size := by simp
  have hL : s.toList = s.data.toList := ByteArray.toList_eq s
  have HF : Hid (farB false s.data.toList = false) := Lib.hid (by
    unfold farB
    rw [hd, ← hL, h1, h2]
    have : decide (19 < s.size) = false := by simp; omega
    rw [this, Bool.false_or]
    by_cases e : s.size = 19
    · have : q = true := by rw [← hq, e]; rfl
      rcases hqb this with rfl | rfl <;> simp
    · simp [e])
  have HFst : Hid (s.data.toList.head? = some 48 → s.data.toList = [48]) := Lib.hid (by
    intro e
    rw [List.head?_eq_getElem?, get_byte h0] at e
    have : s[0] = 48 := Option.some.inj e
    have hc1 : c = true := by rw [← hc, this]; rfl
    have := hcb hc1
    rw [beq_iff_eq, hL] at this; exact this)
  have HNo : Hid (∀ j (hj : j < s.size), bD s[j] = false → valO s = none) := Lib.hid (fun j hj hb => by
    refine val_pos_no ?_ ?_
    · rw [List.head?_eq_getElem?, get_byte h0]; intro e; exact h45 (Option.some.inj e)
    · rintro ⟨hC, _⟩
      have := hC.all s[j] (List.mem_of_getElem? (get_byte hj))
      unfold bD at hb
      rw [Bool.and_eq_false_iff, decide_eq_false_iff_not, decide_eq_false_iff_not] at hb
      omega)
  have HYes : Hid (allD (s.data.toList.take s.size) → valO s = some (dvalA 0 (s.data.toList.take s.size) : Int)) := Lib.hid (fun ha => by
    rw [← hd, List.take_length] at ha ⊢
    exact val_pos_ok ⟨fun e => by rw [e] at hd; simp at hd; omega, ha, HFst.out⟩ HF.out)
  have HMax : Hid (∀ k, k ≤ s.size → allD (s.data.toList.take k) → dvalA 0 (s.data.toList.take k) ≤ 9223372036854775807) := Lib.hid (fun k hk ha => by
    by_cases e : k = 19
    · have es : k = s.size := by omega
      have e2 : s.data.toList.take k = s.data.toList := by rw [es, ← hd, List.take_length]
      rw [e2] at ha ⊢
      have hC : Canon s.data.toList := ⟨fun e => by rw [e] at hd; simp at hd; omega, ha, HFst.out⟩
      have hf := HF.out
      have : ¬ mostN false < dvalA 0 s.data.toList := fun x => by rw [(far_iff hC).2 x] at hf; cases hf
      simp only [mostN] at this; omega
    · have := dval_lt _ ha
      have hl : (s.data.toList.take k).length = k := by rw [List.length_take, hd]; omega
      rw [hl] at this
      have : 10 ^ k ≤ 10 ^ 18 := Nat.pow_le_pow_right (by omega) (by omega)
      omega)
  obtain ⟨o, ho⟩ : ∃ o, o = valO s := ⟨_, rfl⟩
  rw [← ho] at HNo HYes ⊢
  obtain ⟨p1, p2⟩ : ((s[0].toNat : Int) == 45) = false ∧ ((s[0].toNat : Int) != 45) = true := b_ne h45
  have hz : ((s.size : Int) == 0) = false := by rw [beq_eq_false_iff_ne]; omega
  have hpos : (0 : Int) < (s.size : Int) := by omega
  have hbig : ((19 : Int) < (s.size : Int)) = False := by simp; omega
  clear HF HFst h45 ho
  simp only [mostL] at h1 h2
  have hcases : (q = false ∧ c = false) ∨ (q = false ∧ c = true) ∨ (q = true ∧ b1 = true ∧ c = false) ∨ (q = true ∧ b2 = true ∧ c = false) := by
    cases q with
    | false => cases c <;> simp
    | true =>
      cases c with
      | false => have := hqb rfl; simp [this]
      | true =>
        exfalso
        have := hcb rfl
        rw [beq_iff_eq, hL] at this
        have := congrArg List.length this
        rw [hd] at this
        simp at this
        simp at hq
        omega
  rcases hcases with ⟨rfl, rfl⟩ | ⟨rfl, rfl⟩ | ⟨rfl, rfl, rfl⟩ | ⟨rfl, rfl, rfl⟩
  · clear hqb hcb hL hd h1 h2
    go_enter Tryz.func89, Tryz.ntmps89
    go_wp2_with fail
    go_loop [7, 8] (fun nv iv => ∃ k : Nat, k ≤ s.size ∧ iv = .int .i64 (k : Int) ∧ nv = .int .i64 (dvalA 0 (s.data.toList.take k) : Int) ∧ Hid (allD (s.data.toList.take k))) (fun _ iv => s.size - (intOf iv).toNat)
    case atStart => exact ⟨0, by omega, rfl, rfl, Lib.hid (fun c hc => by simp at hc)⟩
    case round =>
      obtain ⟨k, hk, rfl, rfl, ha⟩ := hrel
      by_cases hlt : k < s.size
      · have hlt' : (k : Int) < (s.size : Int) := by omega
        have wk : IntKind.i64.wrap ((k : Int) + 1) = (k : Int) + 1 := IntWalk.i64_in _ (by omega)
        cases hb : bD s[k] with
        | false =>
          have HE : Hid (o = none) := Lib.hid (HNo.out k hlt hb)
          have HM : Hid (∀ W, Calls Tryz.prog 111 #[.int .u8 68, .int .u8 (s[k].toNat : Int)] W fun e w' => e = .returned (.bool false) ∧ W = w') := Lib.hid (fun W => by have := cls68 s[k] W; rw [show memB 68 s[k] = false from hb] at this; exact this)
          clear hb
          go_wp2_with (go_at_call 111; refine (HM.out _).mono ?_; rintro e w2 ⟨rfl, rfl⟩)
          go_ret2
          exact ⟨by rw [HE.out]; rfl, rfl⟩
        | true =>
          have ha' := num_allD hlt ha.out hb
          have hv := num_take hlt
          have hmx := HMax.out (k + 1) (by omega) ha'
          have hr : 48 ≤ s[k].toNat ∧ s[k].toNat ≤ 57 := by
            simp only [bD, Bool.and_eq_true, decide_eq_true_eq] at hb; omega
          have HA := Lib.hid ha'
          rw [hv] at hmx
          have HV := Lib.hid hv
          obtain ⟨v, hvv⟩ : ∃ v, v = dvalA 0 (s.data.toList.take k) := ⟨_, rfl⟩
          have HVV := Lib.hid hvv
          rw [← hvv] at hmx ⊢
          have w1 : IntKind.u8.wrap ((s[k].toNat : Int) - 48) = (s[k].toNat : Int) - 48 := u8_in _ (by omega)
          have w2 : IntKind.i64.wrap ((s[k].toNat : Int) - 48) = (s[k].toNat : Int) - 48 := IntWalk.i64_in _ (by omega)
          have w3 : IntKind.i64.wrap ((v : Int) * 10) = (v : Int) * 10 := IntWalk.i64_in _ (by omega)
          have w4 : IntKind.i64.wrap ((v : Int) * 10 + ((s[k].toNat : Int) - 48)) = (v : Int) * 10 + ((s[k].toNat : Int) - 48) := IntWalk.i64_in _ (by omega)
          have HM : Hid (∀ W, Calls Tryz.prog 111 #[.int .u8 68, .int .u8 (s[k].toNat : Int)] W fun e w' => e = .returned (.bool true) ∧ W = w') := Lib.hid (fun W => by have := cls68 s[k] W; rw [show memB 68 s[k] = true from hb] at this; exact this)
          have hvn : Hid (((dvalA 0 (s.data.toList.take (k + 1)) : Nat) : Int) = (v : Int) * 10 + ((s[k].toNat : Int) - 48)) := Lib.hid (by rw [HV.out, ← HVV.out]; omega)
          clear hb ha' hv hvv hmx hr
          go_wp2_with (go_at_call 111; refine (HM.out _).mono ?_; rintro e w2 ⟨rfl, rfl⟩)
          exact ⟨⟨k + 1, by omega, by simp, by rw [hvn.out], HA⟩, by simp only [intOf]; omega⟩
      · have hlt' : ((k : Int) < (s.size : Int)) = False := by simp; omega
        have hks : k = s.size := by omega
        have HE : Hid (o = some (dvalA 0 (s.data.toList.take k) : Int)) := Lib.hid (by rw [hks]; exact HYes.out (by rw [← hks]; exact ha.out))
        clear hks
        go_wp2_with fail
        go_ret2
        exact ⟨by rw [HE.out]; rfl, rfl⟩
  · have h3 := hcb rfl
    have h4 : (s.toList != [48]) = false := by rw [bne, h3]; rfl
    clear hqb hcb hL hd h1 h2
    go_enter Tryz.func89, Tryz.ntmps89
    go_wp2_with fail
    go_loop [7, 8] (fun nv iv => ∃ k : Nat, k ≤ s.size ∧ iv = .int .i64 (k : Int) ∧ nv = .int .i64 (dvalA 0 (s.data.toList.take k) : Int) ∧ Hid (allD (s.data.toList.take k))) (fun _ iv => s.size - (intOf iv).toNat)
    case atStart => exact ⟨0, by omega, rfl, rfl, Lib.hid (fun c hc => by simp at hc)⟩
    case round =>
      obtain ⟨k, hk, rfl, rfl, ha⟩ := hrel
      by_cases hlt : k < s.size
      · have hlt' : (k : Int) < (s.size : Int) := by omega
        have wk : IntKind.i64.wrap ((k : Int) + 1) = (k : Int) + 1 := IntWalk.i64_in _ (by omega)
        cases hb : bD s[k] with
        | false =>
          have HE : Hid (o = none) := Lib.hid (HNo.out k hlt hb)
          have HM : Hid (∀ W, Calls Tryz.prog 111 #[.int .u8 68, .int .u8 (s[k].toNat : Int)] W fun e w' => e = .returned (.bool false) ∧ W = w') := Lib.hid (fun W => by have := cls68 s[k] W; rw [show memB 68 s[k] = false from hb] at this; exact this)
          clear hb
          go_wp2_with (go_at_call 111; refine (HM.out _).mono ?_; rintro e w2 ⟨rfl, rfl⟩)
          go_ret2
          exact ⟨by rw [HE.out]; rfl, rfl⟩
        | true =>
          have ha' := num_allD hlt ha.out hb
          have hv := num_take hlt
          have hmx := HMax.out (k + 1) (by omega) ha'
          have hr : 48 ≤ s[k].toNat ∧ s[k].toNat ≤ 57 := by
            simp only [bD, Bool.and_eq_true, decide_eq_true_eq] at hb; omega
          have HA := Lib.hid ha'
          rw [hv] at hmx
          have HV := Lib.hid hv
          obtain ⟨v, hvv⟩ : ∃ v, v = dvalA 0 (s.data.toList.take k) := ⟨_, rfl⟩
          have HVV := Lib.hid hvv
          rw [← hvv] at hmx ⊢
          have w1 : IntKind.u8.wrap ((s[k].toNat : Int) - 48) = (s[k].toNat : Int) - 48 := u8_in _ (by omega)
          have w2 : IntKind.i64.wrap ((s[k].toNat : Int) - 48) = (s[k].toNat : Int) - 48 := IntWalk.i64_in _ (by omega)
          have w3 : IntKind.i64.wrap ((v : Int) * 10) = (v : Int) * 10 := IntWalk.i64_in _ (by omega)
          have w4 : IntKind.i64.wrap ((v : Int) * 10 + ((s[k].toNat : Int) - 48)) = (v : Int) * 10 + ((s[k].toNat : Int) - 48) := IntWalk.i64_in _ (by omega)
          have HM : Hid (∀ W, Calls Tryz.prog 111 #[.int .u8 68, .int .u8 (s[k].toNat : Int)] W fun e w' => e = .returned (.bool true) ∧ W = w') := Lib.hid (fun W => by have := cls68 s[k] W; rw [show memB 68 s[k] = true from hb] at this; exact this)
          have hvn : Hid (((dvalA 0 (s.data.toList.take (k + 1)) : Nat) : Int) = (v : Int) * 10 + ((s[k].toNat : Int) - 48)) := Lib.hid (by rw [HV.out, ← HVV.out]; omega)
          clear hb ha' hv hvv hmx hr
          go_wp2_with (go_at_call 111; refine (HM.out _).mono ?_; rintro e w2 ⟨rfl, rfl⟩)
          exact ⟨⟨k + 1, by omega, by simp, by rw [hvn.out], HA⟩, by simp only [intOf]; omega⟩
      · have hlt' : ((k : Int) < (s.size : Int)) = False := by simp; omega
        have hks : k = s.size := by omega
        have HE : Hid (o = some (dvalA 0 (s.data.toList.take k) : Int)) := Lib.hid (by rw [hks]; exact HYes.out (by rw [← hks]; exact ha.out))
        clear hks
        go_wp2_with fail
        go_ret2
        exact ⟨by rw [HE.out]; rfl, rfl⟩
  · clear hqb hcb hL hd
    go_enter Tryz.func89, Tryz.ntmps89
    go_wp2_with fail
    go_loop [7, 8] (fun nv iv => ∃ k : Nat, k ≤ s.size ∧ iv = .int .i64 (k : Int) ∧ nv = .int .i64 (dvalA 0 (s.data.toList.take k) : Int) ∧ Hid (allD (s.data.toList.take k))) (fun _ iv => s.size - (intOf iv).toNat)
    case atStart => exact ⟨0, by omega, rfl, rfl, Lib.hid (fun c hc => by simp at hc)⟩
    case round =>
      obtain ⟨k, hk, rfl, rfl, ha⟩ := hrel
      by_cases hlt : k < s.size
      · have hlt' : (k : Int) < (s.size : Int) := by omega
        have wk : IntKind.i64.wrap ((k : Int) + 1) = (k : Int) + 1 := IntWalk.i64_in _ (by omega)
        cases hb : bD s[k] with
        | false =>
          have HE : Hid (o = none) := Lib.hid (HNo.out k hlt hb)
          have HM : Hid (∀ W, Calls Tryz.prog 111 #[.int .u8 68, .int .u8 (s[k].toNat : Int)] W fun e w' => e = .returned (.bool false) ∧ W = w') := Lib.hid (fun W => by have := cls68 s[k] W; rw [show memB 68 s[k] = false from hb] at this; exact this)
          clear hb
          go_wp2_with (go_at_call 111; refine (HM.out _).mono ?_; rintro e w2 ⟨rfl, rfl⟩)
          go_ret2
          exact ⟨by rw [HE.out]; rfl, rfl⟩
        | true =>
          have ha' := num_allD hlt ha.out hb
          have hv := num_take hlt
          have hmx := HMax.out (k + 1) (by omega) ha'
          have hr : 48 ≤ s[k].toNat ∧ s[k].toNat ≤ 57 := by
            simp only [bD, Bool.and_eq_true, decide_eq_true_eq] at hb; omega
          have HA := Lib.hid ha'
          rw [hv] at hmx
          have HV := Lib.hid hv
          obtain ⟨v, hvv⟩ : ∃ v, v = dvalA 0 (s.data.toList.take k) := ⟨_, rfl⟩
          have HVV := Lib.hid hvv
          rw [← hvv] at hmx ⊢
          have w1 : IntKind.u8.wrap ((s[k].toNat : Int) - 48) = (s[k].toNat : Int) - 48 := u8_in _ (by omega)
          have w2 : IntKind.i64.wrap ((s[k].toNat : Int) - 48) = (s[k].toNat : Int) - 48 := IntWalk.i64_in _ (by omega)
          have w3 : IntKind.i64.wrap ((v : Int) * 10) = (v : Int) * 10 := IntWalk.i64_in _ (by omega)
          have w4 : IntKind.i64.wrap ((v : Int) * 10 + ((s[k].toNat : Int) - 48)) = (v : Int) * 10 + ((s[k].toNat : Int) - 48) := IntWalk.i64_in _ (by omega)
          have HM : Hid (∀ W, Calls Tryz.prog 111 #[.int .u8 68, .int .u8 (s[k].toNat : Int)] W fun e w' => e = .returned (.bool true) ∧ W = w') := Lib.hid (fun W => by have := cls68 s[k] W; rw [show memB 68 s[k] = true from hb] at this; exact this)
          have hvn : Hid (((dvalA 0 (s.data.toList.take (k + 1)) : Nat) : Int) = (v : Int) * 10 + ((s[k].toNat : Int) - 48)) := Lib.hid (by rw [HV.out, ← HVV.out]; omega)
          clear hb ha' hv hvv hmx hr
          go_wp2_with (go_at_call 111; refine (HM.out _).mono ?_; rintro e w2 ⟨rfl, rfl⟩)
          exact ⟨⟨k + 1, by omega, by simp, by rw [hvn.out], HA⟩, by simp only [intOf]; omega⟩
      · have hlt' : ((k : Int) < (s.size : Int)) = False := by simp; omega
        have hks : k = s.size := by omega
        have HE : Hid (o = some (dvalA 0 (s.data.toList.take k) : Int)) := Lib.hid (by rw [hks]; exact HYes.out (by rw [← hks]; exact ha.out))
        clear hks
        go_wp2_with fail
        go_ret2
        exact ⟨by rw [HE.out]; rfl, rfl⟩
  · clear hqb hcb hL hd
    go_enter Tryz.func89, Tryz.ntmps89
    go_wp2_with fail
    go_loop [7, 8] (fun nv iv => ∃ k : Nat, k ≤ s.size ∧ iv = .int .i64 (k : Int) ∧ nv = .int .i64 (dvalA 0 (s.data.toList.take k) : Int) ∧ Hid (allD (s.data.toList.take k))) (fun _ iv => s.size - (intOf iv).toNat)
    case atStart => exact ⟨0, by omega, rfl, rfl, Lib.hid (fun c hc => by simp at hc)⟩
    case round =>
      obtain ⟨k, hk, rfl, rfl, ha⟩ := hrel
      by_cases hlt : k < s.size
      · have hlt' : (k : Int) < (s.size : Int) := by omega
        have wk : IntKind.i64.wrap ((k : Int) + 1) = (k : Int) + 1 := IntWalk.i64_in _ (by omega)
        cases hb : bD s[k] with
        | false =>
          have HE : Hid (o = none) := Lib.hid (HNo.out k hlt hb)
          have HM : Hid (∀ W, Calls Tryz.prog 111 #[.int .u8 68, .int .u8 (s[k].toNat : Int)] W fun e w' => e = .returned (.bool false) ∧ W = w') := Lib.hid (fun W => by have := cls68 s[k] W; rw [show memB 68 s[k] = false from hb] at this; exact this)
          clear hb
          go_wp2_with (go_at_call 111; refine (HM.out _).mono ?_; rintro e w2 ⟨rfl, rfl⟩)
          go_ret2
          exact ⟨by rw [HE.out]; rfl, rfl⟩
        | true =>
          have ha' := num_allD hlt ha.out hb
          have hv := num_take hlt
          have hmx := HMax.out (k + 1) (by omega) ha'
          have hr : 48 ≤ s[k].toNat ∧ s[k].toNat ≤ 57 := by
            simp only [bD, Bool.and_eq_true, decide_eq_true_eq] at hb; omega
          have HA := Lib.hid ha'
          rw [hv] at hmx
          have HV := Lib.hid hv
          obtain ⟨v, hvv⟩ : ∃ v, v = dvalA 0 (s.data.toList.take k) := ⟨_, rfl⟩
          have HVV := Lib.hid hvv
          rw [← hvv] at hmx ⊢
          have w1 : IntKind.u8.wrap ((s[k].toNat : Int) - 48) = (s[k].toNat : Int) - 48 := u8_in _ (by omega)
          have w2 : IntKind.i64.wrap ((s[k].toNat : Int) - 48) = (s[k].toNat : Int) - 48 := IntWalk.i64_in _ (by omega)
          have w3 : IntKind.i64.wrap ((v : Int) * 10) = (v : Int) * 10 := IntWalk.i64_in _ (by omega)
          have w4 : IntKind.i64.wrap ((v : Int) * 10 + ((s[k].toNat : Int) - 48)) = (v : Int) * 10 + ((s[k].toNat : Int) - 48) := IntWalk.i64_in _ (by omega)
          have HM : Hid (∀ W, Calls Tryz.prog 111 #[.int .u8 68, .int .u8 (s[k].toNat : Int)] W fun e w' => e = .returned (.bool true) ∧ W = w') := Lib.hid (fun W => by have := cls68 s[k] W; rw [show memB 68 s[k] = true from hb] at this; exact this)
          have hvn : Hid (((dvalA 0 (s.data.toList.take (k + 1)) : Nat) : Int) = (v : Int) * 10 + ((s[k].toNat : Int) - 48)) := Lib.hid (by rw [HV.out, ← HVV.out]; omega)
          clear hb ha' hv hvv hmx hr
          go_wp2_with (go_at_call 111; refine (HM.out _).mono ?_; rintro e w2 ⟨rfl, rfl⟩)
          exact ⟨⟨k + 1, by omega, by simp, by rw [hvn.out], HA⟩, by simp only [intOf]; omega⟩
      · have hlt' : ((k : Int) < (s.size : Int)) = False := by simp; omega
        have hks : k = s.size := by omega
        have HE : Hid (o = some (dvalA 0 (s.data.toList.take k) : Int)) := Lib.hid (by rw [hks]; exact HYes.out (by rw [← hks]; exact ha.out))
        clear hks
        go_wp2_with fail
        go_ret2
        exact ⟨by rw [HE.out]; rfl, rfl⟩
end

section
open Go.RowKit

theorem dash_list {s D : ByteArray} (h0 : 0 < s.size) (h45 : s[0] = 45) (hX : s.extract 1 s.size = D) : s.data.toList = 45 :: D.data.toList ∧ D.size = s.size - 1 := by
  have hsz : D.size = s.size - 1 := by rw [← hX]; simp
  refine ⟨?_, hsz⟩
  apply List.ext_getElem?
  intro j
  cases j with
  | zero => rw [get_byte h0, h45]; rfl
  | succ j =>
    rw [List.getElem?_cons_succ]
    by_cases hj : j + 1 < s.size
    · rw [get_byte hj, get_byte (s := D) (k := j) (by omega)]
      subst hX
      rw [ByteArray.getElem_extract]
      congr 2; omega
    · rw [List.getElem?_eq_none (by simp; omega), List.getElem?_eq_none (by simp; omega)]

set_option maxHeartbeats 4000000 in
set_option maxRecDepth 100000 in
theorem number_neg (s D : ByteArray) (h0 : 0 < s.size) (h45 : s[0] = 45) (hX : s.extract 1 s.size = D) (hD0 : 0 < D.size) (h19 : D.size ≤ 19) (q b1 b2 : Bool) (hq : ((D.size : Int) == 19) = q) (h1 : Op.bytesLess D.toList (mostL true) = b1) (h2 : (D.toList == mostL true) = b2)
    (hqb : q = true → b1 = true ∨ b2 = true) (hc : D[0] ≠ 48) (w : World) :
    Calls Tryz.prog 89 #[.string s] w fun e w' => e = .returned (numV (valO s)) ∧ w = w' := by
  have hd : D.data.toList.length = D.size := by simp
  have hL : D.toList = D.data.toList := ByteArray.toList_eq D
  obtain ⟨hS, hSz⟩ := dash_list h0 h45 hX
  have HF : Hid (farB true D.data.toList = false) := Lib.hid (by
    unfold farB
    rw [hd, ← hL, h1, h2]
    have : decide (19 < D.size) = false := by simp; omega
    rw [this, Bool.false_or]
    by_cases e : D.size = 19
    · have : q = true := by rw [← hq, e]; rfl
      rcases hqb this with rfl | rfl <;> simp
    · simp [e])
  have HFst : Hid (D.data.toList.head? ≠ some 48) := Lib.hid (by
    intro e
    rw [List.head?_eq_getElem?, get_byte hD0] at e
    exact hc (Option.some.inj e))
  have HNo : Hid (∀ j (hj : j < D.size), bD D[j] = false → valO s = none) := Lib.hid (fun j hj hb => by
    refine val_neg_no hS ?_
    rintro ⟨hC, _⟩
    have := hC.all D[j] (List.mem_of_getElem? (get_byte hj))
    unfold bD at hb
    rw [Bool.and_eq_false_iff, decide_eq_false_iff_not, decide_eq_false_iff_not] at hb
    omega)
  have hCan : allD D.data.toList → Canon D.data.toList := fun ha => ⟨fun e => by rw [e] at hd; simp at hd; omega, ha, fun e => absurd e HFst.out⟩
  have HYes : Hid (allD (D.data.toList.take D.size) → valO s = some (-(dvalA 0 (D.data.toList.take D.size) : Int))) := Lib.hid (fun ha => by
    rw [← hd, List.take_length] at ha ⊢
    exact val_neg_ok hS (hCan ha) HFst.out HF.out)
  have HMax : Hid (∀ k, k ≤ D.size → allD (D.data.toList.take k) → dvalA 0 (D.data.toList.take k) ≤ 9223372036854775808) := Lib.hid (fun k hk ha => by
    by_cases e : k = 19
    · have es : k = D.size := by omega
      have e2 : D.data.toList.take k = D.data.toList := by rw [es, ← hd, List.take_length]
      rw [e2] at ha ⊢
      have hf := HF.out
      have : ¬ mostN true < dvalA 0 D.data.toList := fun x => by rw [(far_iff (hCan ha)).2 x] at hf; cases hf
      simp only [mostN] at this; omega
    · have := dval_lt _ ha
      have hl : (D.data.toList.take k).length = k := by rw [List.length_take, hd]; omega
      rw [hl] at this
      have : 10 ^ k ≤ 10 ^ 18 := Nat.pow_le_pow_right (by omega) (by omega)
      omega)
  obtain ⟨o, ho⟩ : ∃ o, o = valO s := ⟨_, rfl⟩
  rw [← ho] at HNo HYes ⊢
  obtain ⟨p1, p2⟩ : ((s[0].toNat : Int) == 45) = true ∧ ((s[0].toNat : Int) != 45) = false := b_eq h45
  obtain ⟨p3, p4⟩ : ((D[0].toNat : Int) == 48) = false ∧ ((D[0].toNat : Int) != 48) = true := b_ne hc
  have hz : ((D.size : Int) == 0) = false := by rw [beq_eq_false_iff_ne]; omega
  have hpos : (0 : Int) < (s.size : Int) := by omega
  have hone : 1 ≤ s.size := by omega
  have hone' : (1 : Int) ≤ (s.size : Int) := by omega
  have hbig : ((19 : Int) < (D.size : Int)) = False := by simp; omega
  clear HF HFst h45 ho hCan hc hS hSz
  simp only [mostL] at h1 h2
  have hcases : q = false ∨ (q = true ∧ b1 = true) ∨ (q = true ∧ b2 = true) := by
    cases q with
    | false => simp
    | true => have := hqb rfl; simp [this]
  rcases hcases with rfl | ⟨rfl, rfl⟩ | ⟨rfl, rfl⟩
  · clear hqb hL hd h1 h2
    go_enter Tryz.func89, Tryz.ntmps89
    go_wp2_with fail
    go_loop [7, 8] (fun nv iv => ∃ (k : Nat) (u : Int), k ≤ D.size ∧ iv = .int .i64 (k : Int) ∧ nv = .int .i64 u ∧ Hid (u = -(dvalA 0 (D.data.toList.take k) : Int)) ∧ Hid (allD (D.data.toList.take k))) (fun _ iv => D.size - (intOf iv).toNat)
    case atStart => exact ⟨0, 0, by omega, rfl, rfl, Lib.hid (by simp [dvalA]), Lib.hid (fun c hc => by simp at hc)⟩
    case round =>
      obtain ⟨k, u, hk, rfl, rfl, hu, ha⟩ := hrel
      by_cases hlt : k < D.size
      · have hlt' : (k : Int) < (D.size : Int) := by omega
        have wk : IntKind.i64.wrap ((k : Int) + 1) = (k : Int) + 1 := IntWalk.i64_in _ (by omega)
        cases hb : bD D[k] with
        | false =>
          have HE : Hid (o = none) := Lib.hid (HNo.out k hlt hb)
          have HM : Hid (∀ W, Calls Tryz.prog 111 #[.int .u8 68, .int .u8 (D[k].toNat : Int)] W fun e w' => e = .returned (.bool false) ∧ W = w') := Lib.hid (fun W => by have := cls68 D[k] W; rw [show memB 68 D[k] = false from hb] at this; exact this)
          clear hb
          go_wp2_with (go_at_call 111; refine (HM.out _).mono ?_; rintro e w2 ⟨rfl, rfl⟩)
          go_ret2
          exact ⟨by rw [HE.out]; rfl, rfl⟩
        | true =>
          have ha' := num_allD hlt ha.out hb
          have hv := num_take hlt
          have hmx := HMax.out (k + 1) (by omega) ha'
          have hr : 48 ≤ D[k].toNat ∧ D[k].toNat ≤ 57 := by
            simp only [bD, Bool.and_eq_true, decide_eq_true_eq] at hb; omega
          have HA := Lib.hid ha'
          rw [hv] at hmx
          have hu' := hu.out
          have w1 : IntKind.u8.wrap ((D[k].toNat : Int) - 48) = (D[k].toNat : Int) - 48 := u8_in _ (by omega)
          have w2 : IntKind.i64.wrap ((D[k].toNat : Int) - 48) = (D[k].toNat : Int) - 48 := IntWalk.i64_in _ (by omega)
          have wA : IntKind.i64.wrap (-1 * ((D[k].toNat : Int) - 48)) = 48 - (D[k].toNat : Int) := by rw [IntWalk.i64_in _ (by omega)]; omega
          have wB : IntKind.i64.wrap (-((D[k].toNat : Int) - 48)) = 48 - (D[k].toNat : Int) := by rw [IntWalk.i64_in _ (by omega)]; omega
          have wC : IntKind.i64.wrap (48 - (D[k].toNat : Int)) = 48 - (D[k].toNat : Int) := by rw [IntWalk.i64_in _ (by omega)]
          have w3 : IntKind.i64.wrap (u * 10) = u * 10 := IntWalk.i64_in _ (by omega)
          have w4 : IntKind.i64.wrap (u * 10 + (48 - (D[k].toNat : Int))) = u * 10 + (48 - (D[k].toNat : Int)) := IntWalk.i64_in _ (by omega)
          have HM : Hid (∀ W, Calls Tryz.prog 111 #[.int .u8 68, .int .u8 (D[k].toNat : Int)] W fun e w' => e = .returned (.bool true) ∧ W = w') := Lib.hid (fun W => by have := cls68 D[k] W; rw [show memB 68 D[k] = true from hb] at this; exact this)
          have hvn : Hid (u * 10 + (48 - (D[k].toNat : Int)) = -((dvalA 0 (D.data.toList.take (k + 1)) : Nat) : Int)) := Lib.hid (by rw [hv]; omega)
          clear hb ha' hv hmx hr hu'
          go_wp2_with (go_at_call 111; refine (HM.out _).mono ?_; rintro e w2 ⟨rfl, rfl⟩)
          exact ⟨⟨k + 1, _, by omega, by simp, rfl, hvn, HA⟩, by simp only [intOf]; omega⟩
      · have hlt' : ((k : Int) < (D.size : Int)) = False := by simp; omega
        have hks : k = D.size := by omega
        have HE : Hid (o = some u) := Lib.hid (by rw [hu.out, hks]; exact HYes.out (by rw [← hks]; exact ha.out))
        clear hks
        go_wp2_with fail
        go_ret2
        exact ⟨by rw [HE.out]; rfl, rfl⟩
  · clear hqb hL hd
    go_enter Tryz.func89, Tryz.ntmps89
    go_wp2_with fail
    go_loop [7, 8] (fun nv iv => ∃ (k : Nat) (u : Int), k ≤ D.size ∧ iv = .int .i64 (k : Int) ∧ nv = .int .i64 u ∧ Hid (u = -(dvalA 0 (D.data.toList.take k) : Int)) ∧ Hid (allD (D.data.toList.take k))) (fun _ iv => D.size - (intOf iv).toNat)
    case atStart => exact ⟨0, 0, by omega, rfl, rfl, Lib.hid (by simp [dvalA]), Lib.hid (fun c hc => by simp at hc)⟩
    case round =>
      obtain ⟨k, u, hk, rfl, rfl, hu, ha⟩ := hrel
      by_cases hlt : k < D.size
      · have hlt' : (k : Int) < (D.size : Int) := by omega
        have wk : IntKind.i64.wrap ((k : Int) + 1) = (k : Int) + 1 := IntWalk.i64_in _ (by omega)
        cases hb : bD D[k] with
        | false =>
          have HE : Hid (o = none) := Lib.hid (HNo.out k hlt hb)
          have HM : Hid (∀ W, Calls Tryz.prog 111 #[.int .u8 68, .int .u8 (D[k].toNat : Int)] W fun e w' => e = .returned (.bool false) ∧ W = w') := Lib.hid (fun W => by have := cls68 D[k] W; rw [show memB 68 D[k] = false from hb] at this; exact this)
          clear hb
          go_wp2_with (go_at_call 111; refine (HM.out _).mono ?_; rintro e w2 ⟨rfl, rfl⟩)
          go_ret2
          exact ⟨by rw [HE.out]; rfl, rfl⟩
        | true =>
          have ha' := num_allD hlt ha.out hb
          have hv := num_take hlt
          have hmx := HMax.out (k + 1) (by omega) ha'
          have hr : 48 ≤ D[k].toNat ∧ D[k].toNat ≤ 57 := by
            simp only [bD, Bool.and_eq_true, decide_eq_true_eq] at hb; omega
          have HA := Lib.hid ha'
          rw [hv] at hmx
          have hu' := hu.out
          have w1 : IntKind.u8.wrap ((D[k].toNat : Int) - 48) = (D[k].toNat : Int) - 48 := u8_in _ (by omega)
          have w2 : IntKind.i64.wrap ((D[k].toNat : Int) - 48) = (D[k].toNat : Int) - 48 := IntWalk.i64_in _ (by omega)
          have wA : IntKind.i64.wrap (-1 * ((D[k].toNat : Int) - 48)) = 48 - (D[k].toNat : Int) := by rw [IntWalk.i64_in _ (by omega)]; omega
          have wB : IntKind.i64.wrap (-((D[k].toNat : Int) - 48)) = 48 - (D[k].toNat : Int) := by rw [IntWalk.i64_in _ (by omega)]; omega
          have wC : IntKind.i64.wrap (48 - (D[k].toNat : Int)) = 48 - (D[k].toNat : Int) := by rw [IntWalk.i64_in _ (by omega)]
          have w3 : IntKind.i64.wrap (u * 10) = u * 10 := IntWalk.i64_in _ (by omega)
          have w4 : IntKind.i64.wrap (u * 10 + (48 - (D[k].toNat : Int))) = u * 10 + (48 - (D[k].toNat : Int)) := IntWalk.i64_in _ (by omega)
          have HM : Hid (∀ W, Calls Tryz.prog 111 #[.int .u8 68, .int .u8 (D[k].toNat : Int)] W fun e w' => e = .returned (.bool true) ∧ W = w') := Lib.hid (fun W => by have := cls68 D[k] W; rw [show memB 68 D[k] = true from hb] at this; exact this)
          have hvn : Hid (u * 10 + (48 - (D[k].toNat : Int)) = -((dvalA 0 (D.data.toList.take (k + 1)) : Nat) : Int)) := Lib.hid (by rw [hv]; omega)
          clear hb ha' hv hmx hr hu'
          go_wp2_with (go_at_call 111; refine (HM.out _).mono ?_; rintro e w2 ⟨rfl, rfl⟩)
          exact ⟨⟨k + 1, _, by omega, by simp, rfl, hvn, HA⟩, by simp only [intOf]; omega⟩
      · have hlt' : ((k : Int) < (D.size : Int)) = False := by simp; omega
        have hks : k = D.size := by omega
        have HE : Hid (o = some u) := Lib.hid (by rw [hu.out, hks]; exact HYes.out (by rw [← hks]; exact ha.out))
        clear hks
        go_wp2_with fail
        go_ret2
        exact ⟨by rw [HE.out]; rfl, rfl⟩
  · clear hqb hL hd
    go_enter Tryz.func89, Tryz.ntmps89
    go_wp2_with fail
    go_loop [7, 8] (fun nv iv => ∃ (k : Nat) (u : Int), k ≤ D.size ∧ iv = .int .i64 (k : Int) ∧ nv = .int .i64 u ∧ Hid (u = -(dvalA 0 (D.data.toList.take k) : Int)) ∧ Hid (allD (D.data.toList.take k))) (fun _ iv => D.size - (intOf iv).toNat)
    case atStart => exact ⟨0, 0, by omega, rfl, rfl, Lib.hid (by simp [dvalA]), Lib.hid (fun c hc => by simp at hc)⟩
    case round =>
      obtain ⟨k, u, hk, rfl, rfl, hu, ha⟩ := hrel
      by_cases hlt : k < D.size
      · have hlt' : (k : Int) < (D.size : Int) := by omega
        have wk : IntKind.i64.wrap ((k : Int) + 1) = (k : Int) + 1 := IntWalk.i64_in _ (by omega)
        cases hb : bD D[k] with
        | false =>
          have HE : Hid (o = none) := Lib.hid (HNo.out k hlt hb)
          have HM : Hid (∀ W, Calls Tryz.prog 111 #[.int .u8 68, .int .u8 (D[k].toNat : Int)] W fun e w' => e = .returned (.bool false) ∧ W = w') := Lib.hid (fun W => by have := cls68 D[k] W; rw [show memB 68 D[k] = false from hb] at this; exact this)
          clear hb
          go_wp2_with (go_at_call 111; refine (HM.out _).mono ?_; rintro e w2 ⟨rfl, rfl⟩)
          go_ret2
          exact ⟨by rw [HE.out]; rfl, rfl⟩
        | true =>
          have ha' := num_allD hlt ha.out hb
          have hv := num_take hlt
          have hmx := HMax.out (k + 1) (by omega) ha'
          have hr : 48 ≤ D[k].toNat ∧ D[k].toNat ≤ 57 := by
            simp only [bD, Bool.and_eq_true, decide_eq_true_eq] at hb; omega
          have HA := Lib.hid ha'
          rw [hv] at hmx
          have hu' := hu.out
          have w1 : IntKind.u8.wrap ((D[k].toNat : Int) - 48) = (D[k].toNat : Int) - 48 := u8_in _ (by omega)
          have w2 : IntKind.i64.wrap ((D[k].toNat : Int) - 48) = (D[k].toNat : Int) - 48 := IntWalk.i64_in _ (by omega)
          have wA : IntKind.i64.wrap (-1 * ((D[k].toNat : Int) - 48)) = 48 - (D[k].toNat : Int) := by rw [IntWalk.i64_in _ (by omega)]; omega
          have wB : IntKind.i64.wrap (-((D[k].toNat : Int) - 48)) = 48 - (D[k].toNat : Int) := by rw [IntWalk.i64_in _ (by omega)]; omega
          have wC : IntKind.i64.wrap (48 - (D[k].toNat : Int)) = 48 - (D[k].toNat : Int) := by rw [IntWalk.i64_in _ (by omega)]
          have w3 : IntKind.i64.wrap (u * 10) = u * 10 := IntWalk.i64_in _ (by omega)
          have w4 : IntKind.i64.wrap (u * 10 + (48 - (D[k].toNat : Int))) = u * 10 + (48 - (D[k].toNat : Int)) := IntWalk.i64_in _ (by omega)
          have HM : Hid (∀ W, Calls Tryz.prog 111 #[.int .u8 68, .int .u8 (D[k].toNat : Int)] W fun e w' => e = .returned (.bool true) ∧ W = w') := Lib.hid (fun W => by have := cls68 D[k] W; rw [show memB 68 D[k] = true from hb] at this; exact this)
          have hvn : Hid (u * 10 + (48 - (D[k].toNat : Int)) = -((dvalA 0 (D.data.toList.take (k + 1)) : Nat) : Int)) := Lib.hid (by rw [hv]; omega)
          clear hb ha' hv hmx hr hu'
          go_wp2_with (go_at_call 111; refine (HM.out _).mono ?_; rintro e w2 ⟨rfl, rfl⟩)
          exact ⟨⟨k + 1, _, by omega, by simp, rfl, hvn, HA⟩, by simp only [intOf]; omega⟩
      · have hlt' : ((k : Int) < (D.size : Int)) = False := by simp; omega
        have hks : k = D.size := by omega
        have HE : Hid (o = some u) := Lib.hid (by rw [hu.out, hks]; exact HYes.out (by rw [← hks]; exact ha.out))
        clear hks
        go_wp2_with fail
        go_ret2
        exact ⟨by rw [HE.out]; rfl, rfl⟩
end

section
open Go.RowKit

set_option maxHeartbeats 4000000 in
set_option maxRecDepth 100000 in
theorem number_pos_bad (s : ByteArray) (h0 : 0 < s.size) (h45 : s[0] ≠ 45) (q b1 b2 c b3 : Bool) (hq : ((s.size : Int) == 19) = q) (h1 : Op.bytesLess s.toList (mostL false) = b1) (h2 : (s.toList == mostL false) = b2)
    (hc : ((s[0].toNat : Int) == 48) = c) (h3 : (s.toList == [48]) = b3) (hv : valO s = none)
    (h : 19 < s.size ∨ (s.size ≤ 19 ∧ q = true ∧ b1 = false ∧ b2 = false) ∨ (s.size ≤ 19 ∧ (q = true → b1 = true ∨ b2 = true) ∧ c = true ∧ b3 = false)) (w : World) :
    Calls Tryz.prog 89 #[.string s] w fun e w' => e = .returned (numV (valO s)) ∧ w = w' := by
  have HE : Hid (valO s = none) := Lib.hid hv
  obtain ⟨p1, p2⟩ : ((s[0].toNat : Int) == 45) = false ∧ ((s[0].toNat : Int) != 45) = true := b_ne h45
  have hz : ((s.size : Int) == 0) = false := by rw [beq_eq_false_iff_ne]; omega
  have hpos : (0 : Int) < (s.size : Int) := by omega
  simp only [mostL] at h1 h2
  clear h45 hv
  rcases h with h | ⟨h, rfl, rfl, rfl⟩ | ⟨h, hqb, rfl, rfl⟩
  · have hbig : (19 : Int) < (s.size : Int) := by omega
    clear h hq h1 h2 hc h3
    go_enter Tryz.func89, Tryz.ntmps89
    go_wp2_with fail
    go_ret2
    exact ⟨by rw [HE.out]; rfl, rfl⟩
  · have hbig : ((19 : Int) < (s.size : Int)) = False := by simp; omega
    clear h hc h3
    go_enter Tryz.func89, Tryz.ntmps89
    go_wp2_with fail
    go_ret2
    exact ⟨by rw [HE.out]; rfl, rfl⟩
  · have hbig : ((19 : Int) < (s.size : Int)) = False := by simp; omega
    have h4 : (s.toList != [48]) = true := by rw [bne, h3]; rfl
    have hcases : q = false ∨ (q = true ∧ b1 = true) ∨ (q = true ∧ b2 = true) := by
      cases q with
      | false => simp
      | true => have := hqb rfl; simp [this]
    rcases hcases with rfl | ⟨rfl, rfl⟩ | ⟨rfl, rfl⟩
    · clear hqb h h1 h2
      go_enter Tryz.func89, Tryz.ntmps89
      go_wp2_with fail
      go_ret2
      exact ⟨by rw [HE.out]; rfl, rfl⟩
    · clear hqb h
      go_enter Tryz.func89, Tryz.ntmps89
      go_wp2_with fail
      go_ret2
      exact ⟨by rw [HE.out]; rfl, rfl⟩
    · clear hqb h
      go_enter Tryz.func89, Tryz.ntmps89
      go_wp2_with fail
      go_ret2
      exact ⟨by rw [HE.out]; rfl, rfl⟩

set_option maxHeartbeats 4000000 in
set_option maxRecDepth 100000 in
theorem number_neg_bad (s D : ByteArray) (h0 : 0 < s.size) (h45 : s[0] = 45) (hX : s.extract 1 s.size = D) (hD0 : 0 < D.size) (q b1 b2 c : Bool) (hq : ((D.size : Int) == 19) = q) (h1 : Op.bytesLess D.toList (mostL true) = b1) (h2 : (D.toList == mostL true) = b2)
    (hc : ((D[0].toNat : Int) == 48) = c) (h3 : (s.toList == [48]) = false) (hv : valO s = none)
    (h : 19 < D.size ∨ (D.size ≤ 19 ∧ q = true ∧ b1 = false ∧ b2 = false) ∨ (D.size ≤ 19 ∧ (q = true → b1 = true ∨ b2 = true) ∧ c = true)) (w : World) :
    Calls Tryz.prog 89 #[.string s] w fun e w' => e = .returned (numV (valO s)) ∧ w = w' := by
  have HE : Hid (valO s = none) := Lib.hid hv
  obtain ⟨p1, p2⟩ : ((s[0].toNat : Int) == 45) = true ∧ ((s[0].toNat : Int) != 45) = false := b_eq h45
  have hz : ((D.size : Int) == 0) = false := by rw [beq_eq_false_iff_ne]; omega
  have hpos : (0 : Int) < (s.size : Int) := by omega
  have hone : 1 ≤ s.size := by omega
  have hone' : (1 : Int) ≤ (s.size : Int) := by omega
  have h4 : (s.toList != [48]) = true := by rw [bne, h3]; rfl
  simp only [mostL] at h1 h2
  clear h45 hv
  rcases h with h | ⟨h, rfl, rfl, rfl⟩ | ⟨h, hqb, rfl⟩
  · have hbig : (19 : Int) < (D.size : Int) := by omega
    clear h hq h1 h2 hc h3 h4
    go_enter Tryz.func89, Tryz.ntmps89
    go_wp2_with fail
    go_ret2
    exact ⟨by rw [HE.out]; rfl, rfl⟩
  · have hbig : ((19 : Int) < (D.size : Int)) = False := by simp; omega
    clear h hc h3 h4
    go_enter Tryz.func89, Tryz.ntmps89
    go_wp2_with fail
    go_ret2
    exact ⟨by rw [HE.out]; rfl, rfl⟩
  · have hbig : ((19 : Int) < (D.size : Int)) = False := by simp; omega
    have hcases : q = false ∨ (q = true ∧ b1 = true) ∨ (q = true ∧ b2 = true) := by
      cases q with
      | false => simp
      | true => have := hqb rfl; simp [this]
    rcases hcases with rfl | ⟨rfl, rfl⟩ | ⟨rfl, rfl⟩
    · clear hqb h h1 h2
      go_enter Tryz.func89, Tryz.ntmps89
      go_wp2_with fail
      go_ret2
      exact ⟨by rw [HE.out]; rfl, rfl⟩
    · clear hqb h
      go_enter Tryz.func89, Tryz.ntmps89
      go_wp2_with fail
      go_ret2
      exact ⟨by rw [HE.out]; rfl, rfl⟩
    · clear hqb h
      go_enter Tryz.func89, Tryz.ntmps89
      go_wp2_with fail
      go_ret2
      exact ⟨by rw [HE.out]; rfl, rfl⟩

set_option maxHeartbeats 1000000 in
theorem number_empty (s : ByteArray) (h0 : s.size = 0) (hv : valO s = none) (w : World) :
    Calls Tryz.prog 89 #[.string s] w fun e w' => e = .returned (numV (valO s)) ∧ w = w' := by
  have HE : Hid (valO s = none) := Lib.hid hv
  have hz : ((s.size : Int) == 0) = true := by rw [h0]; rfl
  have hpos : ((0 : Int) < (s.size : Int)) = False := by rw [h0]; simp
  have hpn : (0 < s.size) = False := by rw [h0]; simp
  clear hv h0
  go_enter Tryz.func89, Tryz.ntmps89
  go_wp2_with fail
  go_ret2
  exact ⟨by rw [HE.out]; rfl, rfl⟩

set_option maxHeartbeats 1000000 in
theorem number_dash (s D : ByteArray) (h0 : 0 < s.size) (h45 : s[0] = 45) (hX : s.extract 1 s.size = D) (hD : D.size = 0) (hv : valO s = none) (w : World) :
    Calls Tryz.prog 89 #[.string s] w fun e w' => e = .returned (numV (valO s)) ∧ w = w' := by
  have HE : Hid (valO s = none) := Lib.hid hv
  obtain ⟨p1, p2⟩ : ((s[0].toNat : Int) == 45) = true ∧ ((s[0].toNat : Int) != 45) = false := b_eq h45
  have hz : ((D.size : Int) == 0) = true := by rw [hD]; rfl
  have hpos : (0 : Int) < (s.size : Int) := by omega
  have hone : 1 ≤ s.size := by omega
  have hone' : (1 : Int) ≤ (s.size : Int) := by omega
  clear hv hD h45
  go_enter Tryz.func89, Tryz.ntmps89
  go_wp2_with fail
  go_ret2
  exact ⟨by rw [HE.out]; rfl, rfl⟩

theorem far_or {b1 b2 : Bool} (h : (decide (19 = 19) && !(b1 || b2)) = false) : b1 = true ∨ b2 = true := by
  cases b1 <;> cases b2 <;> simp_all

/-- Number of the reference is the lexer's value. -/
theorem rNumber_any (s : ByteArray) (w : World) : Calls Tryz.prog 89 #[.string s] w fun e w' => e = .returned (numV (valO s)) ∧ w = w' := by
  by_cases h0 : s.size = 0
  · refine number_empty s h0 (val_pos_no ?_ ?_) w
    · have : s.data.toList = [] := List.eq_nil_of_length_eq_zero (by simpa using h0)
      rw [this]; simp
    · rintro ⟨hC, _⟩
      exact hC.ne (List.eq_nil_of_length_eq_zero (by simpa using h0))
  have h0' : 0 < s.size := by omega
  have hh : s.data.toList.head? = some s[0] := by rw [List.head?_eq_getElem?, get_byte h0']
  have hl : s.data.toList.length = s.size := by simp
  by_cases h45 : s[0] = 45
  · obtain ⟨D, hX⟩ : ∃ D, s.extract 1 s.size = D := ⟨_, rfl⟩
    obtain ⟨hS, hSz⟩ := dash_list h0' h45 hX
    have hd : D.data.toList.length = D.size := by simp
    by_cases hD : D.size = 0
    · refine number_dash s D h0' h45 hX hD (val_neg_no hS ?_) w
      rintro ⟨hC, _⟩
      exact hC.ne (List.eq_nil_of_length_eq_zero (by omega))
    have hD0 : 0 < D.size := by omega
    have hdh : D.data.toList.head? = some D[0] := by rw [List.head?_eq_getElem?, get_byte hD0]
    have h3 : (s.toList == [48]) = false := by
      rw [beq_eq_false_iff_ne, ByteArray.toList_eq, hS]
      intro e; simp only [List.cons.injEq] at e; exact absurd e.1 (by decide)
    by_cases hgood : farB true D.data.toList = false ∧ D[0] ≠ 48
    · have hf := hgood.1
      unfold farB at hf
      rw [Bool.or_eq_false_iff, hd, decide_eq_false_iff_not] at hf
      refine number_neg s D h0' h45 hX hD0 (by omega) _ _ _ rfl rfl rfl ?_ hgood.2 w
      intro e
      have e19 : D.size = 19 := by have := beq_iff_eq.1 e; omega
      have := hf.2
      rw [e19] at this
      rw [ByteArray.toList_eq]; exact far_or this
    · have hv := val_neg_no hS (s := s) (fun h => hgood ⟨h.2.2, fun e => h.2.1 (by rw [hdh, e])⟩)
      refine number_neg_bad s D h0' h45 hX hD0 _ _ _ _ rfl rfl rfl rfl h3 hv ?_ w
      by_cases h19 : 19 < D.size
      · exact Or.inl h19
      · right
        by_cases hf : farB true D.data.toList = false
        · right
          have e48 : D[0] = 48 := Classical.byContradiction fun e => hgood ⟨hf, e⟩
          refine ⟨by omega, fun e => ?_, by rw [e48]; rfl⟩
          unfold farB at hf
          rw [Bool.or_eq_false_iff, hd] at hf
          have e19 : D.size = 19 := by have := beq_iff_eq.1 e; omega
          have := hf.2
          rw [e19] at this
          rw [ByteArray.toList_eq]; exact far_or this
        · left
          unfold farB at hf
          rw [hd] at hf
          simp only [Bool.not_eq_false, Bool.or_eq_true, Bool.and_eq_true, decide_eq_true_eq] at hf
          rcases hf with hf | ⟨e19, hf⟩
          · exact absurd hf h19
          · rw [Bool.not_eq_true', Bool.or_eq_false_iff] at hf
            refine ⟨by omega, by simp [e19], ?_, ?_⟩
            · rw [ByteArray.toList_eq]; exact hf.1
            · rw [ByteArray.toList_eq]; exact hf.2
  · have hne : s.data.toList.head? ≠ some 45 := by rw [hh]; intro e; exact h45 (Option.some.inj e)
    have h48 : ∀ (c : Bool), ((s[0].toNat : Int) == 48) = c → (c = true ↔ s[0] = 48) := by
      intro c hc
      rw [← hc, beq_iff_eq]
      exact ⟨fun e => UInt8.toNat_inj.1 (Int.ofNat.inj e), fun e => by rw [e]; rfl⟩
    by_cases hgood : farB false s.data.toList = false ∧ (s[0] = 48 → s.data.toList = [48])
    · have hf := hgood.1
      unfold farB at hf
      rw [Bool.or_eq_false_iff, hl, decide_eq_false_iff_not] at hf
      refine number_pos s h0' (by omega) h45 _ _ _ _ rfl rfl rfl ?_ rfl (fun e => ?_) w
      · intro e
        have e19 : s.size = 19 := by have := beq_iff_eq.1 e; omega
        have := hf.2
        rw [e19] at this
        rw [ByteArray.toList_eq]; exact far_or this
      · have := hgood.2 ((h48 _ rfl).1 e)
        rw [ByteArray.toList_eq, this]; rfl
    · have hv := val_pos_no hne (fun h => hgood ⟨h.2, fun e => h.1.first (by rw [hh, e])⟩)
      refine number_pos_bad s h0' h45 _ _ _ _ _ rfl rfl rfl rfl rfl hv ?_ w
      by_cases h19 : 19 < s.size
      · exact Or.inl h19
      · right
        by_cases hf : farB false s.data.toList = false
        · right
          have hnz : ¬ (s[0] = 48 → s.data.toList = [48]) := fun e => hgood ⟨hf, e⟩
          have e48 : s[0] = 48 := Classical.byContradiction fun e => hnz (fun x => absurd x e)
          have en : s.data.toList ≠ [48] := fun e => hnz (fun _ => e)
          refine ⟨by omega, fun e => ?_, (h48 _ rfl).2 e48, by rw [beq_eq_false_iff_ne, ByteArray.toList_eq]; exact en⟩
          unfold farB at hf
          rw [Bool.or_eq_false_iff, hl] at hf
          have e19 : s.size = 19 := by have := beq_iff_eq.1 e; omega
          have := hf.2
          rw [e19] at this
          rw [ByteArray.toList_eq]; exact far_or this
        · left
          unfold farB at hf
          rw [hl] at hf
          simp only [Bool.not_eq_false, Bool.or_eq_true, Bool.and_eq_true, decide_eq_true_eq] at hf
          rcases hf with hf | ⟨e19, hf⟩
          · exact absurd hf h19
          · rw [Bool.not_eq_true', Bool.or_eq_false_iff] at hf
            refine ⟨by omega, by simp [e19], ?_, ?_⟩
            · rw [ByteArray.toList_eq]; exact hf.1
            · rw [ByteArray.toList_eq]; exact hf.2
end

section
open Go.RowKit

theorem val_short {s : ByteArray} (h : 100 ≤ s.size) : valO s = none := by
  cases hv : valO s with
  | none => rfl
  | some v =>
    obtain ⟨h0, h1, hi⟩ := val_some hv
    have := Lib.itoa_length_le v h0 h1
    rw [← hi] at this
    simp at this
    omega

set_option maxHeartbeats 4000000 in
set_option maxRecDepth 100000 in
theorem integral_any (t : ByteArray) (i l : Nat) (hi : i + l ≤ t.size) (ht : t.size ≤ 140737488351232) (w : World) :
    Calls Tryz.prog 127 #[.string t, .int .i64 (i : Int), .int .i64 (l : Int)] w fun e w' => e = .returned (.int .i64 (faultN t i 2 l : Int)) ∧ w = w' := by
  obtain ⟨r, hr⟩ : ∃ r, r = faultN t i 2 l := ⟨_, rfl⟩
  rw [← hr]
  unfold faultN at hr
  rw [if_pos rfl] at hr
  have HR := Lib.hid hr
  clear hr
  have ws : IntKind.i64.wrap ((i : Int) + (l : Int)) = (i : Int) + (l : Int) := IntWalk.i64_in _ (by omega)
  by_cases h100 : 100 ≤ l
  · have hE : Hid (r = 11) := Lib.hid (by
      rw [HR.out, val_short (by rw [cutB, ByteArray.size_extract]; omega)]; rfl)
    have hb : (100 : Int) ≤ (l : Int) := by omega
    clear HR
    go_enter Tryz.func127, Tryz.ntmps127
    go_wp2_with fail
    go_ret
    exact ⟨by rw [hE.out]; rfl, rfl⟩
  · have hb : ((100 : Int) ≤ (l : Int)) = False := by simp; omega
    have s1 : (i : Int) ≤ (i : Int) + (l : Int) := by omega
    have s2 : (i : Int) + (l : Int) ≤ (t.size : Int) := by omega
    have s3 : ((i : Int) + (l : Int)).toNat = i + l := by omega
    have s4 : (0 : Int) ≤ (i : Int) + (l : Int) := by omega
    obtain ⟨o, ho⟩ : ∃ o, o = valO (cutB t i l) := ⟨_, rfl⟩
    obtain ⟨y, hy⟩ : ∃ y : Nat, y = if o.isSome then 0 else 11 := ⟨_, rfl⟩
    obtain ⟨v, hv⟩ : ∃ v, v = o.getD 0 := ⟨_, rfl⟩
    have HN : Hid (∀ W, Calls Tryz.prog 89 #[.string (t.extract i (i + l))] W fun e w' => e = .returned (.tuple #[.int .i64 v, .int .i64 (y : Int)]) ∧ W = w') := Lib.hid (fun W => by
      have := rNumber_any (cutB t i l) W
      rw [← ho] at this
      rw [hv, hy]
      refine this.mono ?_
      rintro e w' ⟨rfl, rfl⟩
      exact ⟨by unfold numV; cases o <;> rfl, rfl⟩)
    rw [← ho] at HR
    have HY := Lib.hid hy
    clear ho hy hv
    by_cases he : i + l < t.size
    · have he' : (i : Int) + (l : Int) < (t.size : Int) := by omega
      obtain ⟨c, hc⟩ : ∃ c, c = t[i + l] := ⟨_, rfl⟩
      have HM : Hid (∀ W, Calls Tryz.prog 111 #[.int .u8 76, .int .u8 (t[i + l].toNat : Int)] W fun e w' => e = .returned (.bool (bL t[i + l])) ∧ W = w') := Lib.hid (fun W => cls76 t[i + l] W)
      obtain ⟨x, hx⟩ : ∃ x, x = Lib.indexByte [95, 63, 33, 36] t[i + l] := ⟨_, rfl⟩
      have HF : Hid (∀ W, Calls Tryz.prog 99 #[.string ⟨#[95, 63, 33, 36]⟩, .int .u8 (t[i + l].toNat : Int)] W fun e w' => e = .returned (.int .i64 x) ∧ W = w') := Lib.hid (fun W => by
        have := find_any ⟨#[95, 63, 33, 36]⟩ t[i + l] (by decide) W
        rw [hx]; exact this)
      have hsp : Hid (bSpoils (aheadB t (i + l)) = (bL t[i + l] || decide (0 ≤ x))) := Lib.hid (by rw [aheadB_lt he, hx]; rfl)
      clear hc hx
      cases hL : bL t[i + l] with
      | true =>
        have hE : Hid (r = 11) := Lib.hid (by rw [HR.out, hsp.out, hL]; simp)
        rw [hL] at HM
        clear hL HR
        go_enter Tryz.func127, Tryz.ntmps127
        go_wp2_with (first
          | (go_at_call 111; refine (HM.out _).mono ?_; rintro e w2 ⟨rfl, rfl⟩)
          | (go_at_call 99; refine (HF.out _).mono ?_; rintro e w2 ⟨rfl, rfl⟩))
        go_ret
        exact ⟨by rw [hE.out]; rfl, rfl⟩
      | false =>
        rw [hL] at HM hsp
        clear hL
        by_cases hx0 : 0 ≤ x
        · have hE : Hid (r = 11) := Lib.hid (by rw [HR.out, hsp.out]; simp [hx0])
          clear HR
          go_enter Tryz.func127, Tryz.ntmps127
          go_wp2_with (first
            | (go_at_call 111; refine (HM.out _).mono ?_; rintro e w2 ⟨rfl, rfl⟩)
            | (go_at_call 99; refine (HF.out _).mono ?_; rintro e w2 ⟨rfl, rfl⟩))
          go_ret
          exact ⟨by rw [hE.out]; rfl, rfl⟩
        · have hx1 : (0 ≤ x) = False := by simpa using hx0
          have hE : Hid (r = y) := Lib.hid (by rw [HR.out, hsp.out, HY.out]; simp [hx1])
          clear HR hx0
          go_enter Tryz.func127, Tryz.ntmps127
          go_wp2_with (first
            | (go_at_call 111; refine (HM.out _).mono ?_; rintro e w2 ⟨rfl, rfl⟩)
            | (go_at_call 89; refine (HN.out _).mono ?_; rintro e w2 ⟨rfl, rfl⟩)
            | (go_at_call 99; refine (HF.out _).mono ?_; rintro e w2 ⟨rfl, rfl⟩))
          go_ret
          exact ⟨by rw [hE.out]; rfl, rfl⟩
    · have he' : ((i : Int) + (l : Int) < (t.size : Int)) = False := by simp; omega
      have hE : Hid (r = y) := Lib.hid (by
        rw [HR.out, HY.out, aheadB_ge (by omega), show bSpoils 0 = false by decide +kernel]; simp)
      clear HR
      go_enter Tryz.func127, Tryz.ntmps127
      go_wp2_with (go_at_call 89; refine (HN.out _).mono ?_; rintro e w2 ⟨rfl, rfl⟩)
      go_ret
      exact ⟨by rw [hE.out]; rfl, rfl⟩
end

section
open Go.RowKit

theorem rest_ext (t : ByteArray) (i a b : Nat) (h : i + b ≤ t.size) : (restB t i).extract a b = t.extract (i + a) (i + b) := by
  unfold restB
  rw [ByteArray.extract_extract, Nat.min_eq_left h]
def nestV (i : Nat) : Except Nat Nat → Value
  | .ok n => cutV 8 i n 0
  | .error c => cutV 0 0 0 c

set_option maxHeartbeats 4000000 in
set_option maxRecDepth 100000 in
theorem comment_nest (t : ByteArray) (i : Nat) (ht : t.size ≤ 140737488351232) (h : isCom t i 42) (w : World) :
    Calls Tryz.prog 124 #[.string t, .int .i64 (i : Int)] w fun e w' => e = .returned (nestV i (nestedGo (restB t i) 0 0)) ∧ Below w.heap.size w w' := by
  obtain ⟨hs, ha, hb⟩ := h
  have ws : IntKind.i64.wrap ((t.size : Int) - (i : Int)) = (t.size : Int) - (i : Int) := IntWalk.i64_in _ (by omega)
  have wi : IntKind.i64.wrap ((i : Int) + 1) = (i : Int) + 1 := IntWalk.i64_in _ (by omega)
  have hs' : ((t.size : Int) - (i : Int) < 2) = False := by simp; omega
  have hi1 : (i : Int) < (t.size : Int) := by omega
  have hi2 : (i : Int) + 1 < (t.size : Int) := by omega
  have hn0 : (0 : Int) ≤ (i : Int) + 1 := by omega
  have hn1 : ((i : Int) + 1).toNat = i + 1 := by omega
  have hlt : i < t.size := by omega
  obtain ⟨R, hR⟩ : ∃ R, R = nestedGo (restB t i) 0 0 := ⟨_, rfl⟩
  have H0 : Hid (nestedGo (restB t i) 2 1 = R) := Lib.hid (by
    rw [hR, nested_open (i := 0) (m := 0) (by rw [rest_size]; omega) ?_ (by omega)]; rfl
    rw [show min (0 + 2) (restB t i).size = 2 by rw [rest_size]; omega, rest_ext t i 0 2 (by omega), ByteArray.toList_eq]
    rw [beq_iff_eq]
    apply List.ext_getElem?
    intro j
    by_cases hj : j < 2
    · rw [Nat.add_zero, Array.getElem?_toList, ahead_data (by rw [ByteArray.size_extract]; omega), ahead_part (by omega) (by omega)]
      have : j = 0 ∨ j = 1 := by omega
      rcases this with rfl | rfl
      · rw [Nat.add_zero, ha]; rfl
      · rw [hb]; rfl
    · rw [List.getElem?_eq_none (by simp; omega), List.getElem?_eq_none (by simp; omega)])
  rw [← hR]
  rw [aheadB_lt hlt] at ha
  rw [aheadB_lt hs] at hb
  obtain ⟨p1, p2⟩ : ((t[i].toNat : Int) == 47) = true ∧ ((t[i].toNat : Int) != 47) = false := b_eq ha
  obtain ⟨p3, p4⟩ : ((t[i + 1].toNat : Int) == 47) = false ∧ ((t[i + 1].toNat : Int) != 47) = true := b_ne (c := t[i + 1]) (d := 47) (by rw [hb]; decide)
  obtain ⟨p5, p6⟩ : ((t[i + 1].toNat : Int) == 42) = true ∧ ((t[i + 1].toNat : Int) != 42) = false := b_eq hb
  clear ha hb hR
  go_enter Tryz.func124, Tryz.ntmps124
  go_wp2_with fail

  go_loop [5, 6] (fun iv mv => ∃ n m : Nat, i + n ≤ t.size ∧ m ≤ 100 ∧ iv = .int .i64 (n : Int) ∧ mv = .int .i64 (m : Int) ∧ Hid ((m = 0 ∧ R = .ok n) ∨ (0 < m ∧ nestedGo (restB t i) n (m : Int) = R))) (fun iv _ => t.size - (intOf iv).toNat)
  case atStart => exact ⟨2, 1, by omega, by omega, rfl, rfl, Lib.hid (Or.inr ⟨by omega, H0.out⟩)⟩
  case round =>
    obtain ⟨n, m, hle, hm, rfl, rfl, hn⟩ := hrel
    have w1 : IntKind.i64.wrap ((i : Int) + (n : Int)) = (i : Int) + (n : Int) := IntWalk.i64_in _ (by omega)
    by_cases hm0 : m = 0
    · have hE : Hid (R = .ok n) := Lib.hid (by rcases hn.out with h | h; exact h.2; omega)
      have hmm : ((0 : Int) < (m : Int)) = False := by simp; omega
      have hmn : (0 < m) = False := by simp; omega
      clear hm0
      go_wp2_with fail
      exact bodyPost_ret (v := cutV 8 i n 0) (by simp [results, Tryz.results124, go_sem, cutV]) rfl ⟨by rw [hE.out]; rfl, (Below.refl _ w).alloc (Nat.le_refl _) _⟩
    · have hN : Hid (nestedGo (restB t i) n (m : Int) = R) := Lib.hid (by rcases hn.out with h | h; omega; exact h.2)
      have hmm : (0 : Int) < (m : Int) := by omega
      have w2 : IntKind.i64.wrap ((n : Int) + 1) = (n : Int) + 1 := IntWalk.i64_in _ (by omega)
      have w3 : IntKind.i64.wrap ((n : Int) + 1 + 1) = (n : Int) + 1 + 1 := IntWalk.i64_in _ (by omega)
      have w4 : IntKind.i64.wrap ((m : Int) + 1) = (m : Int) + 1 := IntWalk.i64_in _ (by omega)
      have w5 : IntKind.i64.wrap ((m : Int) - 1) = (m : Int) - 1 := IntWalk.i64_in _ (by omega)
      have w6 : IntKind.i64.wrap ((i : Int) + (n : Int) + 2) = (i : Int) + (n : Int) + 2 := IntWalk.i64_in _ (by omega)
      have hp : (0 : Int) ≤ (i : Int) + (n : Int) := by omega
      have hq : ((i : Int) + (n : Int)).toNat = i + n := by omega
      by_cases hl : i + n < t.size
      · have hl' : (i : Int) + (n : Int) < (t.size : Int) := by omega
        have hkl : n < (restB t i).size := by rw [rest_size]; omega
        obtain ⟨X, hX⟩ : ∃ X, X = min (i + n + 2) t.size := ⟨_, rfl⟩
        have hXI : min (t.size : Int) ((i : Int) + (n : Int) + 2) = (X : Int) := by omega
        have hX1 : (i : Int) + (n : Int) ≤ (X : Int) := by omega
        have hX2 : (X : Int) ≤ (t.size : Int) := by omega
        have HX : Hid ((restB t i).extract n (min (n + 2) (restB t i).size) = t.extract (i + n) X) := Lib.hid (by
          rw [rest_size, rest_ext t i n _ (by omega)]
          congr 1; omega)
        have HX2 : Hid (((t.extract (i + n) X).toList == [47, 42]) = true ∨ ((t.extract (i + n) X).toList == [42, 47]) = true → i + n + 2 ≤ t.size) := Lib.hid (by
          intro h
          have hlen : (t.extract (i + n) X).toList.length = 2 := by
            rcases h with h | h <;> (rw [beq_iff_eq.1 h]; rfl)
          rw [ByteArray.toList_eq] at hlen
          simp at hlen
          omega)
        clear hX
        cases ho : ((t.extract (i + n) X).toList == [47, 42])
        · cases hc : ((t.extract (i + n) X).toList == [42, 47])
          · have HE := Lib.hid (nested_on (m := (m : Int)) hkl (by rw [HX.out]; exact ho) (by rw [HX.out]; exact hc))
            clear hkl
            go_wp2_with fail
            exact ⟨⟨n + 1, m, by omega, by omega, by simp, rfl, Lib.hid (Or.inr ⟨by omega, by rw [← HE.out]; exact hN.out⟩)⟩, by simp only [intOf]; omega⟩
          · have hfit := HX2.out (Or.inr hc)
            by_cases hz : m = 1
            · have HE := Lib.hid (nested_shut (m := (m : Int)) hkl (by rw [HX.out]; exact ho) (by rw [HX.out]; exact hc) (by rw [hz]; rfl))
              clear hkl
              go_wp2_with fail
              exact ⟨⟨n + 2, m - 1, by omega, by omega, by first | rfl | (simp; done) | (simp; omega) | (congr 1; omega) | congr 1, by first | rfl | (simp; done) | (simp; omega) | (congr 1; omega) | congr 1, Lib.hid (Or.inl ⟨by omega, by rw [← hN.out, HE.out]⟩)⟩, by simp only [intOf]; omega⟩
            · have HE := Lib.hid (nested_less (m := (m : Int)) hkl (by rw [HX.out]; exact ho) (by rw [HX.out]; exact hc) (by rw [beq_eq_false_iff_ne]; omega))
              clear hkl
              go_wp2_with fail
              exact ⟨⟨n + 2, m - 1, by omega, by omega, by first | rfl | (simp; done) | (simp; omega) | (congr 1; omega) | congr 1, by first | rfl | (simp; done) | (simp; omega) | (congr 1; omega) | congr 1, Lib.hid (Or.inr ⟨by omega, by rw [show ((m - 1 : Nat) : Int) = (m : Int) - 1 by omega, ← HE.out]; exact hN.out⟩)⟩, by simp only [intOf]; omega⟩
        · have hfit := HX2.out (Or.inl ho)
          by_cases hd : 100 < m + 1
          · have HE := Lib.hid (nested_deep (m := (m : Int)) hkl (by rw [HX.out]; exact ho) (by omega))
            have hd' : (100 : Int) < (m : Int) + 1 := by omega
            clear hkl hd
            go_wp2_with fail
            exact bodyPost_ret (v := cutV 0 0 0 6) (by simp [results, Tryz.results124, go_sem, cutV]) rfl ⟨by rw [← hN.out, HE.out]; rfl, (Below.refl _ w).alloc (Nat.le_refl _) _⟩
          · have HE := Lib.hid (nested_open (m := (m : Int)) hkl (by rw [HX.out]; exact ho) (by omega))
            have hd' : ((100 : Int) < (m : Int) + 1) = False := by simp; omega
            have hm1 : m + 1 ≤ 100 := by omega
            clear hkl hd
            go_wp2_with fail
            exact ⟨⟨n + 2, m + 1, by omega, by omega, by first | rfl | (simp; done) | (simp; omega) | (congr 1; omega) | congr 1, by first | rfl | (simp; done) | (simp; omega) | (congr 1; omega) | congr 1, Lib.hid (Or.inr ⟨by omega, by rw [show ((m + 1 : Nat) : Int) = (m : Int) + 1 by omega, ← HE.out]; exact hN.out⟩)⟩, by simp only [intOf]; omega⟩
      · have hl' : ((i : Int) + (n : Int) < (t.size : Int)) = False := by simp; omega
        have hE : Hid (R = .error 13) := Lib.hid (by rw [← hN.out]; exact nested_end (by rw [rest_size]; omega))
        go_wp2_with fail
        exact bodyPost_ret (v := cutV 0 0 0 13) (by simp [results, Tryz.results124, go_sem, cutV]) rfl ⟨by rw [hE.out]; rfl, (Below.refl _ w).alloc (Nat.le_refl _) _⟩
end

section
open Go.RowKit

set_option maxHeartbeats 1000000 in
theorem operand_any (k : Nat) (s : ByteArray) (hk : k ≤ 6) (hsign : k = 3 ∨ k = 6 → (s.toList == [41]) = false ∧ (s.toList == [93]) = false) (w : World) :
    Calls Tryz.prog 110 #[.int .i64 (k : Int), .string s] w fun e w' => e = .returned (.bool (if k = 0 then false else opE k s)) ∧ w = w' := by
  obtain ⟨v, hv⟩ : ∃ v, v = (if k = 0 then false else opE k s) := ⟨_, rfl⟩
  rw [← hv]
  have HV : Hid (v = (if k = 0 then false else opE k s)) := Lib.hid hv
  clear hv
  cases h1 : (s.toList == [41]) <;> cases h2 : (s.toList == [93])
  all_goals
    rw [h1, h2] at hsign
    have hk' : k = 0 ∨ k = 1 ∨ k = 2 ∨ k = 3 ∨ k = 4 ∨ k = 5 ∨ k = 6 := by omega
    rcases hk' with rfl | rfl | rfl | rfl | rfl | rfl | rfl
  all_goals
    first
      | exact absurd (hsign (by omega)).1 (by decide)
      | exact absurd (hsign (by omega)).2 (by decide)
      | (clear hsign
         go_enter Tryz.func110, Tryz.ntmps110
         go_wp2_with fail
         go_ret
         refine ⟨?_, rfl⟩
         rw [HV.out]
         simp [opE, h1, h2])
end

end Go.Proofs.YtafncodigpjkaaaGreatDoor
