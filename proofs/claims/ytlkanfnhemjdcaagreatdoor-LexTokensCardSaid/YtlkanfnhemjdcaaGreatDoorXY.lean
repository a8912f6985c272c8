/-
  A region that draws its order, whose operations read old cells, and whose callees may make memory but turn none that is there: ONE walk in the order of the text serves every order. The class of worlds: those that keep all that the first one has.
  Check of a token, the lexer's and the reference's.
  Check of a token: the reference's.
  The parts of a pattern variable, the lexer's and the reference's.
  The parts of a pattern variable, the reference's.
  Whether two lists of tokens are the same: the function, and the lexer's walk.
  Whether two lists of tokens are the same: the reference's walk.
  The joined texts of tokens: the lexer's.
  The joined texts of tokens: the reference's.
-/
import Derived.BigQuiet
import Derived.Below
import Derived.Test.YtlkanfnhemjdcaaGreatDoorXW
import Derived.Laws.MakeOwn
import Derived.Laws.OwnMore
import Derived.Deep.OwnRows
import Derived.Lib.AppendStr
import Derived.Laws.IdiomStrings
import Derived.Laws.BytesArg
namespace Go.Proofs.YtlkanfnhemjdcaaGreatDoor
section
open Go.RowKit

/-- A world that keeps all that W has. -/
structure BW (W : World) where
  val : World
  prop : Below W.heap.size W val
instance bwNonempty (W : World) : Nonempty (BW W) := ⟨⟨W, Below.refl _ _⟩⟩
theorem BW.cell {W : World} (x : BW W) {p : Addr} {v : Value} (h : W.cell? p = some v) (hp : p.block < W.heap.size) : x.val.cell? p = some v := (x.prop.cell (p := p) hp).trans h
theorem BW.frozen {W : World} (x : BW W) {p : Addr} {b : Bool} (h : W.frozen? p = b) (hp : p.block < W.heap.size) : x.val.frozen? p = b := (x.prop.frozen (p := p) hp).trans h

theorem region_below {P : Program} {id : Nat} {Q : Exit → Act → World → Prop} {a : Act} {w : World} {l : List Oper} (hm : P.follows .mixedOrders = true) (hB : Region.lexB .any l.toArray = true)
    (h : wpQuiet P l.toArray (fun w' => ∃ x : BW w, w' = x.val) (fun a' => ∀ w', (∃ x : BW w, w' = x.val) → Q .normal a' w') l a) : (Code.region id l.toArray true).wp P Q a w :=
  wp_region_quiet (C := fun w' => ∃ x : BW w, w' = x.val) hm hB ⟨⟨_, (Below.refl _ w).drew⟩, rfl⟩ (by simpa using h)

/-- A callee's contract, met in a world of the class. -/
theorem calls_bw {P : Program} {f : FuncId} {args : Array Value} {W : World} {x : BW W} {v : Value} (h : Calls P f args x.val fun e w' => e = .returned v ∧ Below x.val.heap.size x.val w') :
    Calls P f args x.val fun e w'' => e = .returned v ∧ ∃ y : BW W, w'' = y.val :=
  h.mono fun _ w'' ⟨he, hb⟩ => ⟨he, ⟨w'', x.prop.trans (hb.mono x.prop.size)⟩, rfl⟩
theorem calls_bw_same {P : Program} {f : FuncId} {args : Array Value} {W : World} {x : BW W} {v : Value} (h : Calls P f args x.val fun e w' => e = .returned v ∧ x.val = w') :
    Calls P f args x.val fun e w'' => e = .returned v ∧ ∃ y : BW W, w'' = y.val :=
  h.mono fun _ _ ⟨he, hw⟩ => ⟨he, x, hw.symm⟩
end

section
open Go.RowKit

/-- A token: kind, number, text, place, mark. -/
abbrev Tk := Int × Int × ByteArray × Int × Int
def tkV (x : Tk) : Value := .agg #[.int .i64 x.1, .int .i64 x.2.1, .string x.2.2.1, .int .i64 x.2.2.2.1, .int .i64 x.2.2.2.2]
def numK (s : ByteArray) : Int := if kindN s = 2 then (valO s).getD 0 else 0
def tokOk (x : Tk) : Bool := !decide (kindN x.2.2.1 = 0) && (decide ((kindN x.2.2.1 : Int) = x.1) && (!decide (x.2.2.2.1 < 0) && (!decide (x.2.2.2.2 < 0) && decide (numK x.2.2.1 = x.2.1))))
def chkN (x : Tk) : Int := if tokOk x then 0 else 14

theorem tok_cases (k n : Int) (s : ByteArray) (a m : Int) :
    (kindN s = 0 ∧ chkN (k, n, s, a, m) = 14) ∨
    (kindN s ≠ 0 ∧ (kindN s : Int) ≠ k ∧ chkN (k, n, s, a, m) = 14) ∨
    (kindN s ≠ 0 ∧ (kindN s : Int) = k ∧ a < 0 ∧ chkN (k, n, s, a, m) = 14) ∨
    (kindN s ≠ 0 ∧ (kindN s : Int) = k ∧ ¬ a < 0 ∧ m < 0 ∧ chkN (k, n, s, a, m) = 14) ∨
    (kindN s ≠ 0 ∧ (kindN s : Int) = k ∧ ¬ a < 0 ∧ ¬ m < 0 ∧ numK s ≠ n ∧ chkN (k, n, s, a, m) = 14) ∨
    (kindN s ≠ 0 ∧ (kindN s : Int) = k ∧ ¬ a < 0 ∧ ¬ m < 0 ∧ numK s = n ∧ chkN (k, n, s, a, m) = 0) := by
  unfold chkN tokOk
  simp only
  by_cases h1 : kindN s = 0
  · left; exact ⟨h1, by rw [decide_eq_true h1]; rfl⟩
  right
  by_cases h2 : (kindN s : Int) = k
  · right
    by_cases h3 : a < 0
    · left; exact ⟨h1, h2, h3, by rw [decide_eq_true h3]; simp⟩
    right
    by_cases h4 : m < 0
    · left; exact ⟨h1, h2, h3, h4, by rw [decide_eq_true h4]; simp⟩
    right
    by_cases h5 : numK s = n
    · right; exact ⟨h1, h2, h3, h4, h5, by rw [decide_eq_false h1, decide_eq_true h2, decide_eq_false h3, decide_eq_false h4, decide_eq_true h5]; rfl⟩
    · left; exact ⟨h1, h2, h3, h4, h5, by rw [decide_eq_false h5]; simp⟩
  · left; exact ⟨h1, h2, by rw [decide_eq_false h2]; simp⟩

theorem ne_int {a b : Int} (h : a ≠ b) : (a == b) = false ∧ (a != b) = true := by
  have : (a == b) = false := beq_eq_false_iff_ne.2 h
  exact ⟨this, by rw [bne, this]; rfl⟩
theorem eq_int {a b : Int} (h : a = b) : (a == b) = true ∧ (a != b) = false := by subst h; simp

set_option maxHeartbeats 4000000 in
set_option maxRecDepth 100000 in
theorem check_any (k n : Int) (s : ByteArray) (a m : Int) (hs : s.size ≤ 140737488351232) (w : World) (E : Env w) :
    Calls Tryz.prog 29 #[.agg #[.int .i64 k, .int .i64 n, .string s, .int .i64 a, .int .i64 m]] w fun e w' => e = .returned (.int .i64 (chkN (k, n, s, a, m))) ∧ Below w.heap.size w w' := by
  have HE := Lib.hid (fun (W : World) (h : Below w.heap.size w W) => E.below E.size h)
  have HK := Lib.hid (fun W E => kind_any s hs W E)
  have HV := Lib.hid (fun W E => value_any s hs W E)
  have hnum : numK s = if kindN s = 2 then (valO s).getD 0 else 0 := rfl
  have hc := tok_cases k n s a m
  generalize chkN (k, n, s, a, m) = R at hc ⊢
  generalize numK s = nk at hc hnum
  generalize kindN s = kd at hc hnum HK
  clear E hs
  rcases hc with ⟨h, rfl⟩ | ⟨h, h1, rfl⟩ | ⟨h, h1, h3, rfl⟩ | ⟨h, h1, h3, h4, rfl⟩ | ⟨h, h1, h3, h4, h5, rfl⟩ | ⟨h, h1, h3, h4, h5, rfl⟩
  · obtain ⟨z1, z2⟩ := eq_int (a := (kd : Int)) (b := 0) (by omega)
    clear HV hnum h
    go_enter Tryz.func29, Tryz.ntmps29
    go_wp2_with fail
    refine (HK.out _ (HE.out _ ((Below.refl _ w).alloc (Nat.le_refl _) _))).mono ?_
    rintro e w1 ⟨rfl, b1⟩
    have B' := b1.mono (show w.heap.size + 1 ≤ _ by simp)
    have c0 : w1.cell? ⟨w.heap.size, 0, none⟩ = some (.int .i64 k) := (res_at B' (j := 0) rfl).1
    have c1 : w1.cell? ⟨w.heap.size, 1, none⟩ = some (.int .i64 n) := (res_at B' (j := 1) rfl).1
    have c2 : w1.cell? ⟨w.heap.size, 2, none⟩ = some (.string s) := (res_at B' (j := 2) rfl).1
    have c3 : w1.cell? ⟨w.heap.size, 3, none⟩ = some (.int .i64 a) := (res_at B' (j := 3) rfl).1
    have c4 : w1.cell? ⟨w.heap.size, 4, none⟩ = some (.int .i64 m) := (res_at B' (j := 4) rfl).1
    have hz1 : w.heap.size + 1 ≤ w1.heap.size := by simpa using B'.size
    have B1 := Lib.hid (res_below B')
    clear b1 B' HK
    go_wp2_with fail
    exact bodyPost_ret (v := .int .i64 14) (by simp [results, Tryz.results29, go_sem]) rfl ⟨rfl, B1.out⟩
  · obtain ⟨z1, z2⟩ := ne_int (a := (kd : Int)) (b := 0) (by omega)
    obtain ⟨y1, y2⟩ := ne_int h1
    clear HV hnum h h1
    go_enter Tryz.func29, Tryz.ntmps29
    go_wp2_with fail
    refine (HK.out _ (HE.out _ ((Below.refl _ w).alloc (Nat.le_refl _) _))).mono ?_
    rintro e w1 ⟨rfl, b1⟩
    have B' := b1.mono (show w.heap.size + 1 ≤ _ by simp)
    have c0 : w1.cell? ⟨w.heap.size, 0, none⟩ = some (.int .i64 k) := (res_at B' (j := 0) rfl).1
    have c1 : w1.cell? ⟨w.heap.size, 1, none⟩ = some (.int .i64 n) := (res_at B' (j := 1) rfl).1
    have c2 : w1.cell? ⟨w.heap.size, 2, none⟩ = some (.string s) := (res_at B' (j := 2) rfl).1
    have c3 : w1.cell? ⟨w.heap.size, 3, none⟩ = some (.int .i64 a) := (res_at B' (j := 3) rfl).1
    have c4 : w1.cell? ⟨w.heap.size, 4, none⟩ = some (.int .i64 m) := (res_at B' (j := 4) rfl).1
    have hz1 : w.heap.size + 1 ≤ w1.heap.size := by simpa using B'.size
    have B1 := Lib.hid (res_below B')
    clear b1 B' HK
    go_wp2_with fail
    exact bodyPost_ret (v := .int .i64 14) (by simp [results, Tryz.results29, go_sem]) rfl ⟨rfl, B1.out⟩
  · obtain ⟨z1, z2⟩ := ne_int (a := (kd : Int)) (b := 0) (by omega)
    obtain ⟨y1, y2⟩ := eq_int h1
    clear HV hnum h h1
    go_enter Tryz.func29, Tryz.ntmps29
    go_wp2_with fail
    refine (HK.out _ (HE.out _ ((Below.refl _ w).alloc (Nat.le_refl _) _))).mono ?_
    rintro e w1 ⟨rfl, b1⟩
    have B' := b1.mono (show w.heap.size + 1 ≤ _ by simp)
    have c0 : w1.cell? ⟨w.heap.size, 0, none⟩ = some (.int .i64 k) := (res_at B' (j := 0) rfl).1
    have c1 : w1.cell? ⟨w.heap.size, 1, none⟩ = some (.int .i64 n) := (res_at B' (j := 1) rfl).1
    have c2 : w1.cell? ⟨w.heap.size, 2, none⟩ = some (.string s) := (res_at B' (j := 2) rfl).1
    have c3 : w1.cell? ⟨w.heap.size, 3, none⟩ = some (.int .i64 a) := (res_at B' (j := 3) rfl).1
    have c4 : w1.cell? ⟨w.heap.size, 4, none⟩ = some (.int .i64 m) := (res_at B' (j := 4) rfl).1
    have hz1 : w.heap.size + 1 ≤ w1.heap.size := by simpa using B'.size
    have B1 := Lib.hid (res_below B')
    clear b1 B' HK
    go_wp2_with fail
    exact bodyPost_ret (v := .int .i64 14) (by simp [results, Tryz.results29, go_sem]) rfl ⟨rfl, B1.out⟩
  · obtain ⟨z1, z2⟩ := ne_int (a := (kd : Int)) (b := 0) (by omega)
    obtain ⟨y1, y2⟩ := eq_int h1
    have h3' : (a < 0) = False := by simp [h3]
    clear HV hnum h h1 h3
    go_enter Tryz.func29, Tryz.ntmps29
    go_wp2_with fail
    refine (HK.out _ (HE.out _ ((Below.refl _ w).alloc (Nat.le_refl _) _))).mono ?_
    rintro e w1 ⟨rfl, b1⟩
    have B' := b1.mono (show w.heap.size + 1 ≤ _ by simp)
    have c0 : w1.cell? ⟨w.heap.size, 0, none⟩ = some (.int .i64 k) := (res_at B' (j := 0) rfl).1
    have c1 : w1.cell? ⟨w.heap.size, 1, none⟩ = some (.int .i64 n) := (res_at B' (j := 1) rfl).1
    have c2 : w1.cell? ⟨w.heap.size, 2, none⟩ = some (.string s) := (res_at B' (j := 2) rfl).1
    have c3 : w1.cell? ⟨w.heap.size, 3, none⟩ = some (.int .i64 a) := (res_at B' (j := 3) rfl).1
    have c4 : w1.cell? ⟨w.heap.size, 4, none⟩ = some (.int .i64 m) := (res_at B' (j := 4) rfl).1
    have hz1 : w.heap.size + 1 ≤ w1.heap.size := by simpa using B'.size
    have B1 := Lib.hid (res_below B')
    clear b1 B' HK
    go_wp2_with fail
    exact bodyPost_ret (v := .int .i64 14) (by simp [results, Tryz.results29, go_sem]) rfl ⟨rfl, B1.out⟩
  · obtain ⟨z1, z2⟩ := ne_int (a := (kd : Int)) (b := 0) (by omega)
    obtain ⟨y1, y2⟩ := eq_int h1
    have h3' : (a < 0) = False := by simp [h3]
    have h4' : (m < 0) = False := by simp [h4]
    obtain ⟨x1, x2⟩ := ne_int h5
    by_cases h2 : kd = 2
    · rw [if_pos h2] at hnum
      rw [← hnum] at HV
      obtain ⟨v1, v2⟩ := eq_int (a := (kd : Int)) (b := 2) (by omega)
      clear h2 hnum h h1 h3 h4 h5
      go_enter Tryz.func29, Tryz.ntmps29
      go_wp2_with fail
      refine (HK.out _ (HE.out _ ((Below.refl _ w).alloc (Nat.le_refl _) _))).mono ?_
      rintro e w1 ⟨rfl, b1⟩
      have B' := b1.mono (show w.heap.size + 1 ≤ _ by simp)
      have c0 : w1.cell? ⟨w.heap.size, 0, none⟩ = some (.int .i64 k) := (res_at B' (j := 0) rfl).1
      have c1 : w1.cell? ⟨w.heap.size, 1, none⟩ = some (.int .i64 n) := (res_at B' (j := 1) rfl).1
      have c2 : w1.cell? ⟨w.heap.size, 2, none⟩ = some (.string s) := (res_at B' (j := 2) rfl).1
      have c3 : w1.cell? ⟨w.heap.size, 3, none⟩ = some (.int .i64 a) := (res_at B' (j := 3) rfl).1
      have c4 : w1.cell? ⟨w.heap.size, 4, none⟩ = some (.int .i64 m) := (res_at B' (j := 4) rfl).1
      have hz1 : w.heap.size + 1 ≤ w1.heap.size := by simpa using B'.size
      have B1 := Lib.hid (res_below B')
      clear b1 B' HK
      go_wp2_with fail
      refine (HV.out _ (HE.out _ B1.out)).mono ?_
      rintro e w2 ⟨rfl, b2⟩
      have d1 : w2.cell? ⟨w.heap.size, 1, none⟩ = some (.int .i64 n) := (b2.cell (p := ⟨w.heap.size, 1, none⟩) hz1).trans c1
      have B2 := Lib.hid (B1.out.trans (b2.mono B1.out.size))
      clear b2 HV
      go_wp2_with fail
      exact bodyPost_ret (v := .int .i64 14) (by simp [results, Tryz.results29, go_sem]) rfl ⟨rfl, B2.out⟩
    · rw [if_neg h2] at hnum
      subst hnum
      obtain ⟨v1, v2⟩ := ne_int (a := (kd : Int)) (b := 2) (by omega)
      clear HV h2 h h1 h3 h4 h5
      go_enter Tryz.func29, Tryz.ntmps29
      go_wp2_with fail
      refine (HK.out _ (HE.out _ ((Below.refl _ w).alloc (Nat.le_refl _) _))).mono ?_
      rintro e w1 ⟨rfl, b1⟩
      have B' := b1.mono (show w.heap.size + 1 ≤ _ by simp)
      have c0 : w1.cell? ⟨w.heap.size, 0, none⟩ = some (.int .i64 k) := (res_at B' (j := 0) rfl).1
      have c1 : w1.cell? ⟨w.heap.size, 1, none⟩ = some (.int .i64 n) := (res_at B' (j := 1) rfl).1
      have c2 : w1.cell? ⟨w.heap.size, 2, none⟩ = some (.string s) := (res_at B' (j := 2) rfl).1
      have c3 : w1.cell? ⟨w.heap.size, 3, none⟩ = some (.int .i64 a) := (res_at B' (j := 3) rfl).1
      have c4 : w1.cell? ⟨w.heap.size, 4, none⟩ = some (.int .i64 m) := (res_at B' (j := 4) rfl).1
      have hz1 : w.heap.size + 1 ≤ w1.heap.size := by simpa using B'.size
      have B1 := Lib.hid (res_below B')
      clear b1 B' HK
      go_wp2_with fail
      exact bodyPost_ret (v := .int .i64 14) (by simp [results, Tryz.results29, go_sem]) rfl ⟨rfl, B1.out⟩
  · obtain ⟨z1, z2⟩ := ne_int (a := (kd : Int)) (b := 0) (by omega)
    obtain ⟨y1, y2⟩ := eq_int h1
    have h3' : (a < 0) = False := by simp [h3]
    have h4' : (m < 0) = False := by simp [h4]
    obtain ⟨x1, x2⟩ := eq_int h5
    by_cases h2 : kd = 2
    · rw [if_pos h2] at hnum
      rw [← hnum] at HV
      obtain ⟨v1, v2⟩ := eq_int (a := (kd : Int)) (b := 2) (by omega)
      clear h2 hnum h h1 h3 h4 h5
      go_enter Tryz.func29, Tryz.ntmps29
      go_wp2_with fail
      refine (HK.out _ (HE.out _ ((Below.refl _ w).alloc (Nat.le_refl _) _))).mono ?_
      rintro e w1 ⟨rfl, b1⟩
      have B' := b1.mono (show w.heap.size + 1 ≤ _ by simp)
      have c0 : w1.cell? ⟨w.heap.size, 0, none⟩ = some (.int .i64 k) := (res_at B' (j := 0) rfl).1
      have c1 : w1.cell? ⟨w.heap.size, 1, none⟩ = some (.int .i64 n) := (res_at B' (j := 1) rfl).1
      have c2 : w1.cell? ⟨w.heap.size, 2, none⟩ = some (.string s) := (res_at B' (j := 2) rfl).1
      have c3 : w1.cell? ⟨w.heap.size, 3, none⟩ = some (.int .i64 a) := (res_at B' (j := 3) rfl).1
      have c4 : w1.cell? ⟨w.heap.size, 4, none⟩ = some (.int .i64 m) := (res_at B' (j := 4) rfl).1
      have hz1 : w.heap.size + 1 ≤ w1.heap.size := by simpa using B'.size
      have B1 := Lib.hid (res_below B')
      clear b1 B' HK
      go_wp2_with fail
      refine (HV.out _ (HE.out _ B1.out)).mono ?_
      rintro e w2 ⟨rfl, b2⟩
      have d1 : w2.cell? ⟨w.heap.size, 1, none⟩ = some (.int .i64 n) := (b2.cell (p := ⟨w.heap.size, 1, none⟩) hz1).trans c1
      have B2 := Lib.hid (B1.out.trans (b2.mono B1.out.size))
      clear b2 HV
      go_wp2_with fail
      exact bodyPost_ret (v := .int .i64 0) (by simp [results, Tryz.results29, go_sem]) rfl ⟨rfl, B2.out⟩
    · rw [if_neg h2] at hnum
      subst hnum
      obtain ⟨v1, v2⟩ := ne_int (a := (kd : Int)) (b := 2) (by omega)
      clear HV h2 h h1 h3 h4 h5
      go_enter Tryz.func29, Tryz.ntmps29
      go_wp2_with fail
      refine (HK.out _ (HE.out _ ((Below.refl _ w).alloc (Nat.le_refl _) _))).mono ?_
      rintro e w1 ⟨rfl, b1⟩
      have B' := b1.mono (show w.heap.size + 1 ≤ _ by simp)
      have c0 : w1.cell? ⟨w.heap.size, 0, none⟩ = some (.int .i64 k) := (res_at B' (j := 0) rfl).1
      have c1 : w1.cell? ⟨w.heap.size, 1, none⟩ = some (.int .i64 n) := (res_at B' (j := 1) rfl).1
      have c2 : w1.cell? ⟨w.heap.size, 2, none⟩ = some (.string s) := (res_at B' (j := 2) rfl).1
      have c3 : w1.cell? ⟨w.heap.size, 3, none⟩ = some (.int .i64 a) := (res_at B' (j := 3) rfl).1
      have c4 : w1.cell? ⟨w.heap.size, 4, none⟩ = some (.int .i64 m) := (res_at B' (j := 4) rfl).1
      have hz1 : w.heap.size + 1 ≤ w1.heap.size := by simpa using B'.size
      have B1 := Lib.hid (res_below B')
      clear b1 B' HK
      go_wp2_with fail
      exact bodyPost_ret (v := .int .i64 0) (by simp [results, Tryz.results29, go_sem]) rfl ⟨rfl, B1.out⟩
end

section
open Go.RowKit

theorem tok_cases2 (k n : Int) (s : ByteArray) (a m : Int) :
    (k = 0 ∧ chkN (k, n, s, a, m) = 14) ∨
    (k ≠ 0 ∧ (kindN s : Int) ≠ k ∧ chkN (k, n, s, a, m) = 14) ∨
    (k ≠ 0 ∧ (kindN s : Int) = k ∧ n ≠ numK s ∧ chkN (k, n, s, a, m) = 14) ∨
    (k ≠ 0 ∧ (kindN s : Int) = k ∧ n = numK s ∧ a < 0 ∧ chkN (k, n, s, a, m) = 14) ∨
    (k ≠ 0 ∧ (kindN s : Int) = k ∧ n = numK s ∧ ¬ a < 0 ∧ m < 0 ∧ chkN (k, n, s, a, m) = 14) ∨
    (k ≠ 0 ∧ (kindN s : Int) = k ∧ n = numK s ∧ ¬ a < 0 ∧ ¬ m < 0 ∧ chkN (k, n, s, a, m) = 0) := by
  rcases tok_cases k n s a m with ⟨h, e⟩ | ⟨h, h1, e⟩ | ⟨h, h1, h3, e⟩ | ⟨h, h1, h3, h4, e⟩ | ⟨h, h1, h3, h4, h5, e⟩ | ⟨h, h1, h3, h4, h5, e⟩
  · by_cases h0 : k = 0
    · exact .inl ⟨h0, e⟩
    · exact .inr (.inl ⟨h0, by omega, e⟩)
  · by_cases h0 : k = 0
    · exact .inl ⟨h0, e⟩
    · exact .inr (.inl ⟨h0, h1, e⟩)
  · by_cases h5 : n = numK s
    · exact .inr (.inr (.inr (.inl ⟨by omega, h1, h5, h3, e⟩)))
    · exact .inr (.inr (.inl ⟨by omega, h1, h5, e⟩))
  · by_cases h5 : n = numK s
    · exact .inr (.inr (.inr (.inr (.inl ⟨by omega, h1, h5, h3, h4, e⟩))))
    · exact .inr (.inr (.inl ⟨by omega, h1, h5, e⟩))
  · exact .inr (.inr (.inl ⟨by omega, h1, fun x => h5 x.symm, e⟩))
  · exact .inr (.inr (.inr (.inr (.inr ⟨by omega, h1, h5.symm, h3, h4, e⟩))))

theorem box_drew {w w1 : World} {cs : Array Value} {tt : TypeId} (b1 : Below ((w.alloc (.cells cs tt)).drew).heap.size ((w.alloc (.cells cs tt)).drew) w1) : Below (w.heap.size + 1) (w.alloc (.cells cs tt)) w1 :=
  ((Below.refl _ (w.alloc (.cells cs tt))).drew).trans (b1.mono (by simp))

set_option maxHeartbeats 8000000 in
set_option maxRecDepth 100000 in
theorem rCheck_any (k n : Int) (s : ByteArray) (a m : Int) (w : World) :
    Calls Tryz.prog 30 #[.agg #[.int .i64 k, .int .i64 n, .string s, .int .i64 a, .int .i64 m]] w fun e w' => e = .returned (.int .i64 (chkN (k, n, s, a, m))) ∧ Below w.heap.size w w' := by
  have HK := Lib.hid (fun W => rKind_any s W)
  have HV : Hid (∀ W, Calls Tryz.prog 20 #[.string s] W fun e w' => ∃ y : Int, e = .returned (.tuple #[.int .i64 ((valO s).getD 0), .int .i64 y]) ∧ W = w') := Lib.hid (fun W => (rNumber_any s W).mono fun e w' ⟨h1, h2⟩ => ⟨_, h1, h2⟩)
  have hnum : numK s = if kindN s = 2 then (valO s).getD 0 else 0 := rfl
  have hc := tok_cases2 k n s a m
  generalize chkN (k, n, s, a, m) = R at hc ⊢
  generalize numK s = nk at hc hnum
  generalize kindN s = kd at hc hnum HK
  generalize (valO s).getD 0 = vo at hnum HV
  by_cases h2 : k = 2
  · obtain ⟨v1, v2⟩ := eq_int h2
    rcases hc with ⟨h, rfl⟩ | ⟨h, h1, rfl⟩ | ⟨h, h1, h5, rfl⟩ | ⟨h, h1, h5, h3, rfl⟩ | ⟨h, h1, h5, h3, h4, rfl⟩ | ⟨h, h1, h5, h3, h4, rfl⟩
    · omega
    · obtain ⟨z1, z2⟩ := ne_int h
      obtain ⟨y1, y2⟩ := ne_int h1
      clear h h1 h2 hnum
      go_enter Tryz.func30, Tryz.ntmps30
      go_wp2_with fail
      refine (HV.out _).mono ?_
      rintro e w0 ⟨y, rfl, rfl⟩
      go_wp2_with fail
      have c0 := fun x : BW (w.alloc (.cells #[.int .i64 k, .int .i64 n, .string s, .int .i64 a, .int .i64 m] 51)) => x.cell (p := ⟨w.heap.size, 0, none⟩) (v := .int .i64 k) (by simp) (by simp)
      have c1 := fun x : BW (w.alloc (.cells #[.int .i64 k, .int .i64 n, .string s, .int .i64 a, .int .i64 m] 51)) => x.cell (p := ⟨w.heap.size, 1, none⟩) (v := .int .i64 n) (by simp) (by simp)
      have c2 := fun x : BW (w.alloc (.cells #[.int .i64 k, .int .i64 n, .string s, .int .i64 a, .int .i64 m] 51)) => x.cell (p := ⟨w.heap.size, 2, none⟩) (v := .string s) (by simp) (by simp)
      have c3 := fun x : BW (w.alloc (.cells #[.int .i64 k, .int .i64 n, .string s, .int .i64 a, .int .i64 m] 51)) => x.cell (p := ⟨w.heap.size, 3, none⟩) (v := .int .i64 a) (by simp) (by simp)
      have c4 := fun x : BW (w.alloc (.cells #[.int .i64 k, .int .i64 n, .string s, .int .i64 a, .int .i64 m] 51)) => x.cell (p := ⟨w.heap.size, 4, none⟩) (v := .int .i64 m) (by simp) (by simp)
      refine region_below (by kernel_rfl) (by kernel_rfl) ?_
      repeat (go_big_quiet_step ((go_at_call 22; exact calls_bw (HK.out _))))
      refine wpQuiet_nil ?_
      rintro _ ⟨⟨w1, b1⟩, rfl⟩
      have B1 := Lib.hid (((Below.refl _ w).alloc (Nat.le_refl _) _).trans (b1.mono (by simp)))
      clear c0 c1 c2 c3 c4 b1
      go_wp2_with fail
      exact bodyPost_ret (v := .int .i64 14) (by simp [results, Tryz.results30, go_sem]) rfl ⟨rfl, B1.out⟩
    · obtain ⟨z1, z2⟩ := ne_int h
      obtain ⟨y1, y2⟩ := eq_int h1
      rw [if_pos (by omega)] at hnum
      rw [hnum] at h5
      obtain ⟨x1, x2⟩ := ne_int h5
      clear h h1 h2 hnum h5
      go_enter Tryz.func30, Tryz.ntmps30
      go_wp2_with fail
      refine (HV.out _).mono ?_
      rintro e w0 ⟨y, rfl, rfl⟩
      go_wp2_with fail
      have c0 := fun x : BW (w.alloc (.cells #[.int .i64 k, .int .i64 n, .string s, .int .i64 a, .int .i64 m] 51)) => x.cell (p := ⟨w.heap.size, 0, none⟩) (v := .int .i64 k) (by simp) (by simp)
      have c1 := fun x : BW (w.alloc (.cells #[.int .i64 k, .int .i64 n, .string s, .int .i64 a, .int .i64 m] 51)) => x.cell (p := ⟨w.heap.size, 1, none⟩) (v := .int .i64 n) (by simp) (by simp)
      have c2 := fun x : BW (w.alloc (.cells #[.int .i64 k, .int .i64 n, .string s, .int .i64 a, .int .i64 m] 51)) => x.cell (p := ⟨w.heap.size, 2, none⟩) (v := .string s) (by simp) (by simp)
      have c3 := fun x : BW (w.alloc (.cells #[.int .i64 k, .int .i64 n, .string s, .int .i64 a, .int .i64 m] 51)) => x.cell (p := ⟨w.heap.size, 3, none⟩) (v := .int .i64 a) (by simp) (by simp)
      have c4 := fun x : BW (w.alloc (.cells #[.int .i64 k, .int .i64 n, .string s, .int .i64 a, .int .i64 m] 51)) => x.cell (p := ⟨w.heap.size, 4, none⟩) (v := .int .i64 m) (by simp) (by simp)
      refine region_below (by kernel_rfl) (by kernel_rfl) ?_
      repeat (go_big_quiet_step ((go_at_call 22; exact calls_bw (HK.out _))))
      refine wpQuiet_nil ?_
      rintro _ ⟨⟨w1, b1⟩, rfl⟩
      have B1 := Lib.hid (((Below.refl _ w).alloc (Nat.le_refl _) _).trans (b1.mono (by simp)))
      clear c0 c1 c2 c3 c4 b1
      go_wp2_with fail
      exact bodyPost_ret (v := .int .i64 14) (by simp [results, Tryz.results30, go_sem]) rfl ⟨rfl, B1.out⟩
    · obtain ⟨z1, z2⟩ := ne_int h
      obtain ⟨y1, y2⟩ := eq_int h1
      rw [if_pos (by omega)] at hnum
      rw [hnum] at h5
      obtain ⟨x1, x2⟩ := eq_int h5
      have h3' : (a < 0) = True := by simp [h3]
      clear h h1 h2 hnum h5 h3
      go_enter Tryz.func30, Tryz.ntmps30
      go_wp2_with fail
      refine (HV.out _).mono ?_
      rintro e w0 ⟨y, rfl, rfl⟩
      go_wp2_with fail
      have c0 := fun x : BW (w.alloc (.cells #[.int .i64 k, .int .i64 n, .string s, .int .i64 a, .int .i64 m] 51)) => x.cell (p := ⟨w.heap.size, 0, none⟩) (v := .int .i64 k) (by simp) (by simp)
      have c1 := fun x : BW (w.alloc (.cells #[.int .i64 k, .int .i64 n, .string s, .int .i64 a, .int .i64 m] 51)) => x.cell (p := ⟨w.heap.size, 1, none⟩) (v := .int .i64 n) (by simp) (by simp)
      have c2 := fun x : BW (w.alloc (.cells #[.int .i64 k, .int .i64 n, .string s, .int .i64 a, .int .i64 m] 51)) => x.cell (p := ⟨w.heap.size, 2, none⟩) (v := .string s) (by simp) (by simp)
      have c3 := fun x : BW (w.alloc (.cells #[.int .i64 k, .int .i64 n, .string s, .int .i64 a, .int .i64 m] 51)) => x.cell (p := ⟨w.heap.size, 3, none⟩) (v := .int .i64 a) (by simp) (by simp)
      have c4 := fun x : BW (w.alloc (.cells #[.int .i64 k, .int .i64 n, .string s, .int .i64 a, .int .i64 m] 51)) => x.cell (p := ⟨w.heap.size, 4, none⟩) (v := .int .i64 m) (by simp) (by simp)
      refine region_below (by kernel_rfl) (by kernel_rfl) ?_
      repeat (go_big_quiet_step ((go_at_call 22; exact calls_bw (HK.out _))))
      refine wpQuiet_nil ?_
      rintro _ ⟨⟨w1, b1⟩, rfl⟩
      have B1 := Lib.hid (((Below.refl _ w).alloc (Nat.le_refl _) _).trans (b1.mono (by simp)))
      clear c0 c1 c2 c3 c4 b1
      go_wp2_with fail
      exact bodyPost_ret (v := .int .i64 14) (by simp [results, Tryz.results30, go_sem]) rfl ⟨rfl, B1.out⟩
    · obtain ⟨z1, z2⟩ := ne_int h
      obtain ⟨y1, y2⟩ := eq_int h1
      rw [if_pos (by omega)] at hnum
      rw [hnum] at h5
      obtain ⟨x1, x2⟩ := eq_int h5
      have h3' : (a < 0) = False := by simp [h3]
      have h4' : (m < 0) = True := by simp [h4]
      clear h h1 h2 hnum h5 h3 h4
      go_enter Tryz.func30, Tryz.ntmps30
      go_wp2_with fail
      refine (HV.out _).mono ?_
      rintro e w0 ⟨y, rfl, rfl⟩
      go_wp2_with fail
      have c0 := fun x : BW (w.alloc (.cells #[.int .i64 k, .int .i64 n, .string s, .int .i64 a, .int .i64 m] 51)) => x.cell (p := ⟨w.heap.size, 0, none⟩) (v := .int .i64 k) (by simp) (by simp)
      have c1 := fun x : BW (w.alloc (.cells #[.int .i64 k, .int .i64 n, .string s, .int .i64 a, .int .i64 m] 51)) => x.cell (p := ⟨w.heap.size, 1, none⟩) (v := .int .i64 n) (by simp) (by simp)
      have c2 := fun x : BW (w.alloc (.cells #[.int .i64 k, .int .i64 n, .string s, .int .i64 a, .int .i64 m] 51)) => x.cell (p := ⟨w.heap.size, 2, none⟩) (v := .string s) (by simp) (by simp)
      have c3 := fun x : BW (w.alloc (.cells #[.int .i64 k, .int .i64 n, .string s, .int .i64 a, .int .i64 m] 51)) => x.cell (p := ⟨w.heap.size, 3, none⟩) (v := .int .i64 a) (by simp) (by simp)
      have c4 := fun x : BW (w.alloc (.cells #[.int .i64 k, .int .i64 n, .string s, .int .i64 a, .int .i64 m] 51)) => x.cell (p := ⟨w.heap.size, 4, none⟩) (v := .int .i64 m) (by simp) (by simp)
      refine region_below (by kernel_rfl) (by kernel_rfl) ?_
      repeat (go_big_quiet_step ((go_at_call 22; exact calls_bw (HK.out _))))
      refine wpQuiet_nil ?_
      rintro _ ⟨⟨w1, b1⟩, rfl⟩
      have B1 := Lib.hid (((Below.refl _ w).alloc (Nat.le_refl _) _).trans (b1.mono (by simp)))
      clear c0 c1 c2 c3 c4 b1
      go_wp2_with fail
      exact bodyPost_ret (v := .int .i64 14) (by simp [results, Tryz.results30, go_sem]) rfl ⟨rfl, B1.out⟩
    · obtain ⟨z1, z2⟩ := ne_int h
      obtain ⟨y1, y2⟩ := eq_int h1
      rw [if_pos (by omega)] at hnum
      rw [hnum] at h5
      obtain ⟨x1, x2⟩ := eq_int h5
      have h3' : (a < 0) = False := by simp [h3]
      have h4' : (m < 0) = False := by simp [h4]
      clear h h1 h2 hnum h5 h3 h4
      go_enter Tryz.func30, Tryz.ntmps30
      go_wp2_with fail
      refine (HV.out _).mono ?_
      rintro e w0 ⟨y, rfl, rfl⟩
      go_wp2_with fail
      have c0 := fun x : BW (w.alloc (.cells #[.int .i64 k, .int .i64 n, .string s, .int .i64 a, .int .i64 m] 51)) => x.cell (p := ⟨w.heap.size, 0, none⟩) (v := .int .i64 k) (by simp) (by simp)
      have c1 := fun x : BW (w.alloc (.cells #[.int .i64 k, .int .i64 n, .string s, .int .i64 a, .int .i64 m] 51)) => x.cell (p := ⟨w.heap.size, 1, none⟩) (v := .int .i64 n) (by simp) (by simp)
      have c2 := fun x : BW (w.alloc (.cells #[.int .i64 k, .int .i64 n, .string s, .int .i64 a, .int .i64 m] 51)) => x.cell (p := ⟨w.heap.size, 2, none⟩) (v := .string s) (by simp) (by simp)
      have c3 := fun x : BW (w.alloc (.cells #[.int .i64 k, .int .i64 n, .string s, .int .i64 a, .int .i64 m] 51)) => x.cell (p := ⟨w.heap.size, 3, none⟩) (v := .int .i64 a) (by simp) (by simp)
      have c4 := fun x : BW (w.alloc (.cells #[.int .i64 k, .int .i64 n, .string s, .int .i64 a, .int .i64 m] 51)) => x.cell (p := ⟨w.heap.size, 4, none⟩) (v := .int .i64 m) (by simp) (by simp)
      refine region_below (by kernel_rfl) (by kernel_rfl) ?_
      repeat (go_big_quiet_step ((go_at_call 22; exact calls_bw (HK.out _))))
      refine wpQuiet_nil ?_
      rintro _ ⟨⟨w1, b1⟩, rfl⟩
      have B1 := Lib.hid (((Below.refl _ w).alloc (Nat.le_refl _) _).trans (b1.mono (by simp)))
      clear c0 c1 c2 c3 c4 b1
      go_wp2_with fail
      exact bodyPost_ret (v := .int .i64 0) (by simp [results, Tryz.results30, go_sem]) rfl ⟨rfl, B1.out⟩
  · obtain ⟨v1, v2⟩ := ne_int h2
    rcases hc with ⟨h, rfl⟩ | ⟨h, h1, rfl⟩ | ⟨h, h1, h5, rfl⟩ | ⟨h, h1, h5, h3, rfl⟩ | ⟨h, h1, h5, h3, h4, rfl⟩ | ⟨h, h1, h5, h3, h4, rfl⟩
    · obtain ⟨z1, z2⟩ := eq_int h
      clear HV HK hnum h h2
      go_enter Tryz.func30, Tryz.ntmps30
      go_wp2_with fail
      go_quiet (fail)
      go_wp2_with fail
      exact bodyPost_ret (v := .int .i64 14) (by simp [results, Tryz.results30, go_sem]) rfl ⟨rfl, below_drewN ((Below.refl _ w).alloc (Nat.le_refl _) _) _⟩
    · obtain ⟨z1, z2⟩ := ne_int h
      obtain ⟨y1, y2⟩ := ne_int h1
      clear h h1 h2 hnum
      go_enter Tryz.func30, Tryz.ntmps30
      go_wp2_with fail
      have c0 := fun x : BW (w.alloc (.cells #[.int .i64 k, .int .i64 n, .string s, .int .i64 a, .int .i64 m] 51)) => x.cell (p := ⟨w.heap.size, 0, none⟩) (v := .int .i64 k) (by simp) (by simp)
      have c1 := fun x : BW (w.alloc (.cells #[.int .i64 k, .int .i64 n, .string s, .int .i64 a, .int .i64 m] 51)) => x.cell (p := ⟨w.heap.size, 1, none⟩) (v := .int .i64 n) (by simp) (by simp)
      have c2 := fun x : BW (w.alloc (.cells #[.int .i64 k, .int .i64 n, .string s, .int .i64 a, .int .i64 m] 51)) => x.cell (p := ⟨w.heap.size, 2, none⟩) (v := .string s) (by simp) (by simp)
      have c3 := fun x : BW (w.alloc (.cells #[.int .i64 k, .int .i64 n, .string s, .int .i64 a, .int .i64 m] 51)) => x.cell (p := ⟨w.heap.size, 3, none⟩) (v := .int .i64 a) (by simp) (by simp)
      have c4 := fun x : BW (w.alloc (.cells #[.int .i64 k, .int .i64 n, .string s, .int .i64 a, .int .i64 m] 51)) => x.cell (p := ⟨w.heap.size, 4, none⟩) (v := .int .i64 m) (by simp) (by simp)
      refine region_below (by kernel_rfl) (by kernel_rfl) ?_
      repeat (go_big_quiet_step ((go_at_call 22; exact calls_bw (HK.out _))))
      refine wpQuiet_nil ?_
      rintro _ ⟨⟨w1, b1⟩, rfl⟩
      have B1 := Lib.hid (((Below.refl _ w).alloc (Nat.le_refl _) _).trans (b1.mono (by simp)))
      clear c0 c1 c2 c3 c4 b1
      go_wp2_with fail
      exact bodyPost_ret (v := .int .i64 14) (by simp [results, Tryz.results30, go_sem]) rfl ⟨rfl, B1.out⟩
    · obtain ⟨z1, z2⟩ := ne_int h
      obtain ⟨y1, y2⟩ := eq_int h1
      rw [if_neg (by omega)] at hnum
      rw [hnum] at h5
      obtain ⟨x1, x2⟩ := ne_int h5
      clear h h1 h2 hnum h5
      go_enter Tryz.func30, Tryz.ntmps30
      go_wp2_with fail
      have c0 := fun x : BW (w.alloc (.cells #[.int .i64 k, .int .i64 n, .string s, .int .i64 a, .int .i64 m] 51)) => x.cell (p := ⟨w.heap.size, 0, none⟩) (v := .int .i64 k) (by simp) (by simp)
      have c1 := fun x : BW (w.alloc (.cells #[.int .i64 k, .int .i64 n, .string s, .int .i64 a, .int .i64 m] 51)) => x.cell (p := ⟨w.heap.size, 1, none⟩) (v := .int .i64 n) (by simp) (by simp)
      have c2 := fun x : BW (w.alloc (.cells #[.int .i64 k, .int .i64 n, .string s, .int .i64 a, .int .i64 m] 51)) => x.cell (p := ⟨w.heap.size, 2, none⟩) (v := .string s) (by simp) (by simp)
      have c3 := fun x : BW (w.alloc (.cells #[.int .i64 k, .int .i64 n, .string s, .int .i64 a, .int .i64 m] 51)) => x.cell (p := ⟨w.heap.size, 3, none⟩) (v := .int .i64 a) (by simp) (by simp)
      have c4 := fun x : BW (w.alloc (.cells #[.int .i64 k, .int .i64 n, .string s, .int .i64 a, .int .i64 m] 51)) => x.cell (p := ⟨w.heap.size, 4, none⟩) (v := .int .i64 m) (by simp) (by simp)
      refine region_below (by kernel_rfl) (by kernel_rfl) ?_
      repeat (go_big_quiet_step ((go_at_call 22; exact calls_bw (HK.out _))))
      refine wpQuiet_nil ?_
      rintro _ ⟨⟨w1, b1⟩, rfl⟩
      have B1 := Lib.hid (((Below.refl _ w).alloc (Nat.le_refl _) _).trans (b1.mono (by simp)))
      clear c0 c1 c2 c3 c4 b1
      go_wp2_with fail
      exact bodyPost_ret (v := .int .i64 14) (by simp [results, Tryz.results30, go_sem]) rfl ⟨rfl, B1.out⟩
    · obtain ⟨z1, z2⟩ := ne_int h
      obtain ⟨y1, y2⟩ := eq_int h1
      rw [if_neg (by omega)] at hnum
      rw [hnum] at h5
      obtain ⟨x1, x2⟩ := eq_int h5
      have h3' : (a < 0) = True := by simp [h3]
      clear h h1 h2 hnum h5 h3
      go_enter Tryz.func30, Tryz.ntmps30
      go_wp2_with fail
      have c0 := fun x : BW (w.alloc (.cells #[.int .i64 k, .int .i64 n, .string s, .int .i64 a, .int .i64 m] 51)) => x.cell (p := ⟨w.heap.size, 0, none⟩) (v := .int .i64 k) (by simp) (by simp)
      have c1 := fun x : BW (w.alloc (.cells #[.int .i64 k, .int .i64 n, .string s, .int .i64 a, .int .i64 m] 51)) => x.cell (p := ⟨w.heap.size, 1, none⟩) (v := .int .i64 n) (by simp) (by simp)
      have c2 := fun x : BW (w.alloc (.cells #[.int .i64 k, .int .i64 n, .string s, .int .i64 a, .int .i64 m] 51)) => x.cell (p := ⟨w.heap.size, 2, none⟩) (v := .string s) (by simp) (by simp)
      have c3 := fun x : BW (w.alloc (.cells #[.int .i64 k, .int .i64 n, .string s, .int .i64 a, .int .i64 m] 51)) => x.cell (p := ⟨w.heap.size, 3, none⟩) (v := .int .i64 a) (by simp) (by simp)
      have c4 := fun x : BW (w.alloc (.cells #[.int .i64 k, .int .i64 n, .string s, .int .i64 a, .int .i64 m] 51)) => x.cell (p := ⟨w.heap.size, 4, none⟩) (v := .int .i64 m) (by simp) (by simp)
      refine region_below (by kernel_rfl) (by kernel_rfl) ?_
      repeat (go_big_quiet_step ((go_at_call 22; exact calls_bw (HK.out _))))
      refine wpQuiet_nil ?_
      rintro _ ⟨⟨w1, b1⟩, rfl⟩
      have B1 := Lib.hid (((Below.refl _ w).alloc (Nat.le_refl _) _).trans (b1.mono (by simp)))
      clear c0 c1 c2 c3 c4 b1
      go_wp2_with fail
      exact bodyPost_ret (v := .int .i64 14) (by simp [results, Tryz.results30, go_sem]) rfl ⟨rfl, B1.out⟩
    · obtain ⟨z1, z2⟩ := ne_int h
      obtain ⟨y1, y2⟩ := eq_int h1
      rw [if_neg (by omega)] at hnum
      rw [hnum] at h5
      obtain ⟨x1, x2⟩ := eq_int h5
      have h3' : (a < 0) = False := by simp [h3]
      have h4' : (m < 0) = True := by simp [h4]
      clear h h1 h2 hnum h5 h3 h4
      go_enter Tryz.func30, Tryz.ntmps30
      go_wp2_with fail
      have c0 := fun x : BW (w.alloc (.cells #[.int .i64 k, .int .i64 n, .string s, .int .i64 a, .int .i64 m] 51)) => x.cell (p := ⟨w.heap.size, 0, none⟩) (v := .int .i64 k) (by simp) (by simp)
      have c1 := fun x : BW (w.alloc (.cells #[.int .i64 k, .int .i64 n, .string s, .int .i64 a, .int .i64 m] 51)) => x.cell (p := ⟨w.heap.size, 1, none⟩) (v := .int .i64 n) (by simp) (by simp)
      have c2 := fun x : BW (w.alloc (.cells #[.int .i64 k, .int .i64 n, .string s, .int .i64 a, .int .i64 m] 51)) => x.cell (p := ⟨w.heap.size, 2, none⟩) (v := .string s) (by simp) (by simp)
      have c3 := fun x : BW (w.alloc (.cells #[.int .i64 k, .int .i64 n, .string s, .int .i64 a, .int .i64 m] 51)) => x.cell (p := ⟨w.heap.size, 3, none⟩) (v := .int .i64 a) (by simp) (by simp)
      have c4 := fun x : BW (w.alloc (.cells #[.int .i64 k, .int .i64 n, .string s, .int .i64 a, .int .i64 m] 51)) => x.cell (p := ⟨w.heap.size, 4, none⟩) (v := .int .i64 m) (by simp) (by simp)
      refine region_below (by kernel_rfl) (by kernel_rfl) ?_
      repeat (go_big_quiet_step ((go_at_call 22; exact calls_bw (HK.out _))))
      refine wpQuiet_nil ?_
      rintro _ ⟨⟨w1, b1⟩, rfl⟩
      have B1 := Lib.hid (((Below.refl _ w).alloc (Nat.le_refl _) _).trans (b1.mono (by simp)))
      clear c0 c1 c2 c3 c4 b1
      go_wp2_with fail
      exact bodyPost_ret (v := .int .i64 14) (by simp [results, Tryz.results30, go_sem]) rfl ⟨rfl, B1.out⟩
    · obtain ⟨z1, z2⟩ := ne_int h
      obtain ⟨y1, y2⟩ := eq_int h1
      rw [if_neg (by omega)] at hnum
      rw [hnum] at h5
      obtain ⟨x1, x2⟩ := eq_int h5
      have h3' : (a < 0) = False := by simp [h3]
      have h4' : (m < 0) = False := by simp [h4]
      clear h h1 h2 hnum h5 h3 h4
      go_enter Tryz.func30, Tryz.ntmps30
      go_wp2_with fail
      have c0 := fun x : BW (w.alloc (.cells #[.int .i64 k, .int .i64 n, .string s, .int .i64 a, .int .i64 m] 51)) => x.cell (p := ⟨w.heap.size, 0, none⟩) (v := .int .i64 k) (by simp) (by simp)
      have c1 := fun x : BW (w.alloc (.cells #[.int .i64 k, .int .i64 n, .string s, .int .i64 a, .int .i64 m] 51)) => x.cell (p := ⟨w.heap.size, 1, none⟩) (v := .int .i64 n) (by simp) (by simp)
      have c2 := fun x : BW (w.alloc (.cells #[.int .i64 k, .int .i64 n, .string s, .int .i64 a, .int .i64 m] 51)) => x.cell (p := ⟨w.heap.size, 2, none⟩) (v := .string s) (by simp) (by simp)
      have c3 := fun x : BW (w.alloc (.cells #[.int .i64 k, .int .i64 n, .string s, .int .i64 a, .int .i64 m] 51)) => x.cell (p := ⟨w.heap.size, 3, none⟩) (v := .int .i64 a) (by simp) (by simp)
      have c4 := fun x : BW (w.alloc (.cells #[.int .i64 k, .int .i64 n, .string s, .int .i64 a, .int .i64 m] 51)) => x.cell (p := ⟨w.heap.size, 4, none⟩) (v := .int .i64 m) (by simp) (by simp)
      refine region_below (by kernel_rfl) (by kernel_rfl) ?_
      repeat (go_big_quiet_step ((go_at_call 22; exact calls_bw (HK.out _))))
      refine wpQuiet_nil ?_
      rintro _ ⟨⟨w1, b1⟩, rfl⟩
      have B1 := Lib.hid (((Below.refl _ w).alloc (Nat.le_refl _) _).trans (b1.mono (by simp)))
      clear c0 c1 c2 c3 c4 b1
      go_wp2_with fail
      exact bodyPost_ret (v := .int .i64 0) (by simp [results, Tryz.results30, go_sem]) rfl ⟨rfl, B1.out⟩
end

section
open Go.RowKit

theorem kind_pat {s : ByteArray} (h : kindN s = 6) : 2 ≤ s.size ∧ aheadB s 0 = 63 := by
  have hsm := kind_small (s := s) (by rw [h]; decide)
  unfold kindN at h
  split at h
  · cases h
  · rename_i h0
    split at h
    · cases h
    · rename_i p hp
      split at h
      · rename_i hc
        have h2 := two_bytes hp (.inr h)
        refine ⟨by omega, ?_⟩
        obtain ⟨k, l⟩ := p
        simp only at h hc
        subst h
        unfold nextR at hp
        split at hp
        · simp only [Except.ok.injEq, Prod.mk.injEq] at hp
          exact absurd hp.1 (by decide)
        · split at hp
          · split at hp
            · simp only [Except.ok.injEq, Prod.mk.injEq] at hp
              exact absurd hp.1 (by decide)
            · cases hp
          · split at hp
            · simp only [Except.ok.injEq, Prod.mk.injEq] at hp
              exact absurd hp.1 (by decide)
            · have hb := bestTo_kind (ruleN s 0 false) 6 5
              generalize bestTo (ruleN s 0 false) 6 = kl at hp hb
              split at hp
              · simp only [Except.ok.injEq] at hp
                subst hp
                have hpos := (hb rfl).2
                simp only [ruleN, patN] at hpos
                rw [win_all hsm] at hpos
                split at hpos
                · assumption
                · omega
              · cases hp
      · cases h
theorem idx_cons {c d : UInt8} {l : List UInt8} (h : d ≠ c) : Lib.indexByte (d :: l) c = if Lib.indexByte l c = -1 then -1 else Lib.indexByte l c + 1 := by
  rw [Lib.indexByte]
  have : (d == c) = false := beq_eq_false_iff_ne.2 h
  rw [this]
  simp
theorem text_cons {s : ByteArray} (h : 1 ≤ s.size) : s.data.toList = aheadB s 0 :: (s.extract 1 s.size).data.toList := by
  have h0 : 0 < s.data.toList.length := by simp; omega
  have e : (s.extract 1 s.size).data.toList = s.data.toList.drop 1 := by
    simp
    rw [List.take_of_length_le (by simp)]
  rw [e, aheadB_lt (by omega)]
  cases hs : s.data.toList with
  | nil => rw [hs] at h0; simp at h0
  | cons x l =>
    simp
    have : s.data.toList[0]? = some x := by rw [hs]; rfl
    rw [get_byte (by omega)] at this
    exact Option.some.inj this.symm

/-- The name and the kind of a pattern variable's text. -/
def cutT (s : ByteArray) : ByteArray × ByteArray := (⟨(Lib.cut (s.extract 1 s.size).data.toList [58]).1.toArray⟩, ⟨(Lib.cut (s.extract 1 s.size).data.toList [58]).2.1.toArray⟩)
theorem cutT_no {s : ByteArray} (h1 : 1 ≤ s.size) (h0 : aheadB s 0 = 63) (h : Lib.indexByte s.data.toList 58 < 0) : cutT s = (s.extract 1 s.size, ⟨#[]⟩) := by
  rw [text_cons h1, h0, idx_cons (by decide)] at h
  have hi : Lib.index (s.extract 1 s.size).data.toList [58] < 0 := by
    rw [Lib.index_one]
    have := Lib.indexByte_ge (s.extract 1 s.size).data.toList 58
    split at h <;> omega
  unfold cutT Lib.cut
  rw [if_neg (by omega)]
theorem cutT_at {s : ByteArray} {k : Nat} (h1 : 1 ≤ s.size) (h0 : aheadB s 0 = 63) (h : Lib.indexByte s.data.toList 58 = (k : Int)) : 1 ≤ k ∧ k + 1 ≤ s.size ∧ cutT s = (s.extract 1 k, s.extract (k + 1) s.size) := by
  obtain ⟨j, hj1, hj2, _⟩ := idx_spec (c := 58) (l := s.data.toList) (by omega)
  have hks : k < s.size := by rw [h] at hj1; simp at hj2; omega
  rw [text_cons h1, h0, idx_cons (by decide)] at h
  have hge := Lib.indexByte_ge (s.extract 1 s.size).data.toList 58
  have hi : Lib.index (s.extract 1 s.size).data.toList [58] = ((k - 1 : Nat) : Int) ∧ 1 ≤ k := by
    rw [Lib.index_one]
    split at h <;> omega
  refine ⟨hi.2, by omega, ?_⟩
  unfold cutT Lib.cut
  rw [if_pos (by rw [hi.1]; omega), hi.1]
  refine Prod.ext ?_ ?_
  · apply bytes_ext'
    simp
    rw [List.take_take]
    congr 1
    omega
  · apply bytes_ext'
    simp
    rw [List.take_of_length_le (by simp), List.take_of_length_le (by simp), ← List.drop_one, List.drop_drop]
    congr 1
    omega
/-- What Pattern returns. -/
def patV (x : Tk) : ByteArray × ByteArray := if x.1 = 6 then (if tokOk x then cutT x.2.2.1 else (⟨#[]⟩, ⟨#[]⟩)) else (⟨#[]⟩, ⟨#[]⟩)

theorem pat_cases (k n : Int) (s : ByteArray) (a m : Int) :
    (k ≠ 6 ∧ patV (k, n, s, a, m) = (⟨#[]⟩, ⟨#[]⟩)) ∨ (k = 6 ∧ chkN (k, n, s, a, m) = 14 ∧ patV (k, n, s, a, m) = (⟨#[]⟩, ⟨#[]⟩)) ∨
    (k = 6 ∧ chkN (k, n, s, a, m) = 0 ∧ patV (k, n, s, a, m) = cutT s ∧ 2 ≤ s.size ∧ s.size ≤ 100 ∧ aheadB s 0 = 63) := by
  unfold patV chkN
  by_cases h6 : k = 6
  · right
    simp only [h6, if_true]
    cases ht : tokOk (6, n, s, a, m)
    · left; exact ⟨trivial, rfl, rfl⟩
    · right
      have hk : kindN s = 6 := by
        unfold tokOk at ht
        simp only [Bool.and_eq_true, decide_eq_true_eq] at ht
        have := ht.2.1; omega
      obtain ⟨p1, p2⟩ := kind_pat hk
      exact ⟨trivial, rfl, rfl, p1, kind_small (by rw [hk]; decide), p2⟩
  · left
    exact ⟨h6, by simp [h6]⟩

set_option maxHeartbeats 4000000 in
set_option maxRecDepth 100000 in
theorem lexPattern_any (k n : Int) (s : ByteArray) (a m : Int) (hs : s.size ≤ 140737488351232) (w : World) (E : Env w) :
    Calls Tryz.prog 27 #[.agg #[.int .i64 k, .int .i64 n, .string s, .int .i64 a, .int .i64 m]] w fun e w' => e = .returned (.tuple #[.string (patV (k, n, s, a, m)).1, .string (patV (k, n, s, a, m)).2]) ∧ Below w.heap.size w w' := by
  have HE := Lib.hid (fun (W : World) (h : Below w.heap.size w W) => E.below E.size h)
  have HC := Lib.hid (fun W E => check_any k n s a m hs W E)
  obtain ⟨mx, hm⟩ := E.max
  have hz := E.size
  have hp := pat_cases k n s a m
  generalize patV (k, n, s, a, m) = R at hp ⊢
  generalize chkN (k, n, s, a, m) = c at hp HC
  clear E hs
  rcases hp with ⟨h, rfl⟩ | ⟨h, rfl, rfl⟩ | ⟨h, rfl, rfl, h1, h2, h3⟩
  · obtain ⟨z1, z2⟩ := ne_int h
    clear h HC hm hz HE
    go_enter Tryz.func27, Tryz.ntmps27
    go_wp2_with fail
    exact bodyPost_ret (v := .tuple #[.string ⟨#[]⟩, .string ⟨#[]⟩]) (by simp [results, Tryz.results27, go_sem]) rfl ⟨rfl, (Below.refl _ w).alloc (Nat.le_refl _) _⟩
  · obtain ⟨z1, z2⟩ := eq_int h
    clear h hm hz
    go_enter Tryz.func27, Tryz.ntmps27
    go_wp2_with fail
    refine (HC.out _ (HE.out _ ((Below.refl _ w).alloc (Nat.le_refl _) _))).mono ?_
    rintro e w1 ⟨rfl, b1⟩
    have B' := b1.mono (show w.heap.size + 1 ≤ _ by simp)
    have c2 : w1.cell? ⟨w.heap.size, 2, none⟩ = some (.string s) := (res_at B' (j := 2) rfl).1
    have B1 := Lib.hid (res_below B')
    clear b1 B' HC HE
    go_wp2_with fail
    exact bodyPost_ret (v := .tuple #[.string ⟨#[]⟩, .string ⟨#[]⟩]) (by simp [results, Tryz.results27, go_sem]) rfl ⟨rfl, B1.out⟩
  · obtain ⟨z1, z2⟩ := eq_int h
    have hD : (s.extract 1 s.size).size ≤ 100 := by simp; omega
    have HCUT := Lib.hid (fun W (hB : Below w.heap.size w W) => Tryz.strings_Cut (s.extract 1 s.size) ⟨#[58]⟩ mx W (by omega) ((hB.cell (p := ⟨0, 0, none⟩) (by simp; omega)).trans hm))
    have hR : Hid (cutT s = (⟨(Lib.cut (s.extract 1 s.size).data.toList [58]).1.toArray⟩, ⟨(Lib.cut (s.extract 1 s.size).data.toList [58]).2.1.toArray⟩)) := Lib.hid rfl
    have hle : (1 : Int) ≤ (s.size : Int) := by omega
    have hle' : 1 ≤ s.size := by omega
    clear h hm hz h1 h2 h3 hD
    go_enter Tryz.func27, Tryz.ntmps27
    go_wp2_with fail
    refine (HC.out _ (HE.out _ ((Below.refl _ w).alloc (Nat.le_refl _) _))).mono ?_
    rintro e w1 ⟨rfl, b1⟩
    have B' := b1.mono (show w.heap.size + 1 ≤ _ by simp)
    have c2 : w1.cell? ⟨w.heap.size, 2, none⟩ = some (.string s) := (res_at B' (j := 2) rfl).1
    have B1 := Lib.hid (res_below B')
    clear b1 B' HC HE
    go_wp2_with fail
    refine (HCUT.out _ B1.out).mono ?_
    rintro e w2 ⟨rfl, q, rfl⟩
    go_wp2_with fail
    exact bodyPost_ret (v := .tuple #[.string ⟨(Lib.cut (s.extract 1 s.size).data.toList [58]).1.toArray⟩, .string ⟨(Lib.cut (s.extract 1 s.size).data.toList [58]).2.1.toArray⟩]) (by simp [results, Tryz.results27, go_sem]) rfl ⟨by rw [hR.out], below_drewN B1.out _⟩
end

section
open Go.RowKit

set_option maxHeartbeats 4000000 in
set_option maxRecDepth 100000 in
theorem rPattern_any (k n : Int) (s : ByteArray) (a m : Int) (w : World) :
    Calls Tryz.prog 28 #[.agg #[.int .i64 k, .int .i64 n, .string s, .int .i64 a, .int .i64 m]] w fun e w' => e = .returned (.tuple #[.string (patV (k, n, s, a, m)).1, .string (patV (k, n, s, a, m)).2]) ∧ Below w.heap.size w w' := by
  have HC := Lib.hid (fun W => rCheck_any k n s a m W)
  have hp := pat_cases k n s a m
  generalize patV (k, n, s, a, m) = R at hp ⊢
  generalize chkN (k, n, s, a, m) = c at hp HC
  rcases hp with ⟨h, rfl⟩ | ⟨h, rfl, rfl⟩ | ⟨h, rfl, rfl, h1, h2, h3⟩
  · obtain ⟨z1, z2⟩ := ne_int h
    clear h HC
    go_enter Tryz.func28, Tryz.ntmps28
    go_wp2_with fail
    exact bodyPost_ret (v := .tuple #[.string ⟨#[]⟩, .string ⟨#[]⟩]) (by simp [results, Tryz.results28, go_sem]) rfl ⟨rfl, (Below.refl _ w).alloc (Nat.le_refl _) _⟩
  · obtain ⟨z1, z2⟩ := eq_int h
    clear h
    go_enter Tryz.func28, Tryz.ntmps28
    go_wp2_with fail
    refine (HC.out _).mono ?_
    rintro e w1 ⟨rfl, b1⟩
    have B' := b1.mono (show w.heap.size + 1 ≤ _ by simp)
    have c2 : w1.cell? ⟨w.heap.size, 2, none⟩ = some (.string s) := (res_at B' (j := 2) rfl).1
    have B1 := Lib.hid (res_below B')
    clear b1 B' HC
    go_wp2_with fail
    exact bodyPost_ret (v := .tuple #[.string ⟨#[]⟩, .string ⟨#[]⟩]) (by simp [results, Tryz.results28, go_sem]) rfl ⟨rfl, B1.out⟩
  · obtain ⟨z1, z2⟩ := eq_int h
    have HF := Lib.hid (fun W => find_any s 58 (by omega) W)
    have hle : (1 : Int) ≤ (s.size : Int) := by omega
    have hle' : 1 ≤ s.size := by omega
    by_cases hi : Lib.indexByte s.data.toList 58 < 0
    · have hR := Lib.hid (cutT_no (by omega) h3 hi)
      clear h h1 h2 h3
      go_enter Tryz.func28, Tryz.ntmps28
      go_wp2_with fail
      refine (HC.out _).mono ?_
      rintro e w1 ⟨rfl, b1⟩
      have B' := b1.mono (show w.heap.size + 1 ≤ _ by simp)
      have c2 : w1.cell? ⟨w.heap.size, 2, none⟩ = some (.string s) := (res_at B' (j := 2) rfl).1
      have B1 := Lib.hid (res_below B')
      clear b1 B' HC
      go_wp2_with fail
      refine (HF.out _).mono ?_
      rintro e w2 ⟨rfl, rfl⟩
      go_wp2_with fail
      exact bodyPost_ret (v := .tuple #[.string (s.extract 1 s.size), .string ⟨#[]⟩]) (by simp [results, Tryz.results28, go_sem]) rfl ⟨by rw [hR.out], B1.out⟩
    · obtain ⟨j, hj1, hj2, _⟩ := idx_spec (c := 58) (l := s.data.toList) (by omega)
      obtain ⟨q1, q2, q3⟩ := cutT_at (by omega) h3 hj1
      have hR := Lib.hid q3
      rw [hj1] at HF
      have hw : IntKind.i64.wrap ((j : Int) + 1) = (j : Int) + 1 := IntWalk.i64_in _ (by omega)
      have l1 : (1 : Int) ≤ (j : Int) := by omega
      have l2 : (j : Int) ≤ (s.size : Int) := by omega
      have l3 : (j : Int) + 1 ≤ (s.size : Int) := by omega
      have l4 : ((j : Int) + 1).toNat = j + 1 := by omega
      have l5 : ((j : Int) < 0) = False := by simp
      clear h h1 h2 h3 hi q3 hj1 hj2
      go_enter Tryz.func28, Tryz.ntmps28
      go_wp2_with fail
      refine (HC.out _).mono ?_
      rintro e w1 ⟨rfl, b1⟩
      have B' := b1.mono (show w.heap.size + 1 ≤ _ by simp)
      have c2 : w1.cell? ⟨w.heap.size, 2, none⟩ = some (.string s) := (res_at B' (j := 2) rfl).1
      have B1 := Lib.hid (res_below B')
      clear b1 B' HC
      go_wp2_with fail
      refine (HF.out _).mono ?_
      rintro e w2 ⟨rfl, rfl⟩
      go_wp2_with fail
      go_quiet (fail)
      go_wp2_with fail
      exact bodyPost_ret (v := .tuple #[.string (s.extract 1 j), .string (s.extract (j + 1) s.size)]) (by simp [results, Tryz.results28, go_sem]) rfl ⟨by rw [hR.out], below_drewN B1.out _⟩
end

section
open Go.RowKit

def core (x : Tk) : Int × Int × ByteArray := (x.1, x.2.1, x.2.2.1)
theorem core_cases (k n : Int) (s : ByteArray) (a m : Int) (k' n' : Int) (s' : ByteArray) (a' m' : Int) :
    (k ≠ k' ∧ ¬ core (k, n, s, a, m) = core (k', n', s', a', m')) ∨ (k = k' ∧ n ≠ n' ∧ ¬ core (k, n, s, a, m) = core (k', n', s', a', m')) ∨
    (k = k' ∧ n = n' ∧ ¬ s = s' ∧ ¬ core (k, n, s, a, m) = core (k', n', s', a', m')) ∨ (k = k' ∧ n = n' ∧ s = s' ∧ core (k, n, s, a, m) = core (k', n', s', a', m')) := by
  unfold core
  simp only [Prod.mk.injEq]
  by_cases h1 : k = k'
  · by_cases h2 : n = n'
    · by_cases h3 : s = s'
      · exact .inr (.inr (.inr ⟨h1, h2, h3, h1, h2, h3⟩))
      · exact .inr (.inr (.inl ⟨h1, h2, h3, fun h => h3 h.2.2⟩))
    · exact .inr (.inl ⟨h1, h2, fun h => h2 h.2.1⟩)
  · exact .inl ⟨h1, fun h => h1 h.1⟩

theorem str_eq {s t : ByteArray} (h : s = t) : (s.toList == t.toList) = true := by subst h; simp
theorem str_ne {s t : ByteArray} (h : ¬ s = t) : (s.toList == t.toList) = false := by
  rw [beq_eq_false_iff_ne]
  intro e
  rw [ByteArray.toList_eq, ByteArray.toList_eq] at e
  exact h (bytes_ext' e)

set_option maxHeartbeats 4000000 in
set_option maxRecDepth 100000 in
theorem sameFn_any (k n : Int) (s : ByteArray) (a m : Int) (k' n' : Int) (s' : ByteArray) (a' m' : Int) (w : World) :
    Calls Tryz.prog 54 #[.agg #[.int .i64 k, .int .i64 n, .string s, .int .i64 a, .int .i64 m], .agg #[.int .i64 k', .int .i64 n', .string s', .int .i64 a', .int .i64 m']] w fun e w' =>
      e = .returned (.bool (decide (core (k, n, s, a, m) = core (k', n', s', a', m')))) ∧ Below w.heap.size w w' := by
  rcases core_cases k n s a m k' n' s' a' m' with ⟨h, hc⟩ | ⟨h, h2, hc⟩ | ⟨h, h2, h3, hc⟩ | ⟨h, h2, h3, hc⟩
  · rw [decide_eq_false hc]
    obtain ⟨z1, z2⟩ := ne_int h
    clear h hc
    go_enter Tryz.func54, Tryz.ntmps54
    go_wp2_with fail
    exact bodyPost_ret (v := .bool false) (by simp [results, Tryz.results54, go_sem, *]) rfl ⟨rfl, ((Below.refl _ w).alloc (Nat.le_refl _) _).alloc (by simp) _⟩
  · rw [decide_eq_false hc]
    obtain ⟨z1, z2⟩ := eq_int h
    obtain ⟨y1, y2⟩ := ne_int h2
    clear h hc h2
    go_enter Tryz.func54, Tryz.ntmps54
    go_wp2_with fail
    exact bodyPost_ret (v := .bool false) (by simp [results, Tryz.results54, go_sem, *]) rfl ⟨rfl, ((Below.refl _ w).alloc (Nat.le_refl _) _).alloc (by simp) _⟩
  · rw [decide_eq_false hc]
    obtain ⟨z1, z2⟩ := eq_int h
    obtain ⟨y1, y2⟩ := eq_int h2
    have t1 := str_ne h3
    clear h hc h2 h3
    go_enter Tryz.func54, Tryz.ntmps54
    go_wp2_with fail
    exact bodyPost_ret (v := .bool false) (by simp [results, Tryz.results54, go_sem, *]) rfl ⟨rfl, ((Below.refl _ w).alloc (Nat.le_refl _) _).alloc (by simp) _⟩
  · rw [decide_eq_true hc]
    obtain ⟨z1, z2⟩ := eq_int h
    obtain ⟨y1, y2⟩ := eq_int h2
    have t1 := str_eq h3
    clear h hc h2 h3
    go_enter Tryz.func54, Tryz.ntmps54
    go_wp2_with fail
    exact bodyPost_ret (v := .bool true) (by simp [results, Tryz.results54, go_sem, *]) rfl ⟨rfl, ((Below.refl _ w).alloc (Nat.le_refl _) _).alloc (by simp) _⟩

/-- Tokens as they lie, from a place on. -/
def KAt (w : World) (g o : Nat) (l : List Tk) : Prop := ∀ i x, l[i]? = some x → w.cell? ⟨g, o + i * 5, none⟩ = some (.int .i64 x.1) ∧ w.cell? ⟨g, o + i * 5 + 1, none⟩ = some (.int .i64 x.2.1) ∧ w.cell? ⟨g, o + i * 5 + 2, none⟩ = some (.string x.2.2.1) ∧ w.cell? ⟨g, o + i * 5 + 3, none⟩ = some (.int .i64 x.2.2.2.1) ∧ w.cell? ⟨g, o + i * 5 + 4, none⟩ = some (.int .i64 x.2.2.2.2)
def KRow (w : World) (v : Value) (l : List Tk) : Prop := ∃ b c, v = .slice b l.length c ∧ (l ≠ [] → ∃ g o, b = some ⟨g, o, none⟩ ∧ g < w.heap.size ∧ KAt w g o l)
theorem KAt.below {w w' : World} {g o : Nat} {l : List Tk} (h : KAt w g o l) (hA : g < w.heap.size) (hB : Below w.heap.size w w') : KAt w' g o l := by
  intro i x hx
  obtain ⟨h0, h1, h2, h3, h4⟩ := h i x hx
  have c : ∀ n v, w.cell? ⟨g, n, none⟩ = some v → w'.cell? ⟨g, n, none⟩ = some v := fun n v hv => (hB.cell (p := ⟨g, n, none⟩) hA).trans hv
  exact ⟨c _ _ h0, c _ _ h1, c _ _ h2, c _ _ h3, c _ _ h4⟩
theorem KRow.below {w w' : World} {v : Value} {l : List Tk} (h : KRow w v l) (hB : Below w.heap.size w w') : KRow w' v l := by
  obtain ⟨b, c, rfl, h⟩ := h
  refine ⟨b, c, rfl, fun hne => ?_⟩
  obtain ⟨g, o, hb, hA, hk⟩ := h hne
  exact ⟨g, o, hb, Nat.lt_of_lt_of_le hA hB.size, hk.below hA hB⟩

set_option maxHeartbeats 4000000 in
set_option maxRecDepth 100000 in
theorem efn_some (g o h p c1 c2 : Nat) (l m : List Tk) (hlen : l.length = m.length) (hml : m.length ≤ 140737488351232) (w : World) (hA : g < w.heap.size) (hB : h < w.heap.size) (L : KAt w g o l) (M : KAt w h p m) :
    Calls Tryz.prog 53 #[.slice (some ⟨g, o, none⟩) l.length c1, .slice (some ⟨h, p, none⟩) m.length c2, .func (.func 54) #[] #[]] w fun e w' => e = .returned (.bool (decide (l.map core = m.map core))) ∧ Below w.heap.size w w' := by
  have hl1 : ((l.length : Int) != (m.length : Int)) = false := by rw [hlen]; simp
  go_enter Tryz.func53, Tryz.ntmps53
  go_wp2_with fail
  go_loopw [17] (fun i wr => ∃ k : Nat, k ≤ m.length ∧ i = .int .i64 k ∧ Hid (∀ j, j < k → (l.map core)[j]? = (m.map core)[j]?) ∧ Hid (Below w.heap.size w wr)) (fun i _ => m.length - (intOf i).toNat)
  case atStart => exact ⟨0, by omega, rfl, Lib.hid (fun j hj => by omega), Lib.hid (Below.refl _ _)⟩
  case round =>
    obtain ⟨k, hk, rfl, ha, hbe⟩ := hrel
    by_cases hlt : k < m.length
    · obtain ⟨⟨x1, x2, x3, x4, x5⟩, hx⟩ : ∃ x, l[k]? = some x := ⟨_, List.getElem?_eq_getElem (by omega)⟩
      obtain ⟨⟨y1, y2, y3, y4, y5⟩, hy⟩ : ∃ y, m[k]? = some y := ⟨_, List.getElem?_eq_getElem (by omega)⟩
      obtain ⟨l0, l1, l2, l3, l4⟩ := (L.below hA hbe.out) k _ hx
      have hzr := hbe.out.size
      have hm := fun X => (M.below hB (hbe.out.alloc hzr X)) k _ hy
      have m0 := fun X => (hm X).1; have m1 := fun X => (hm X).2.1; have m2 := fun X => (hm X).2.2.1; have m3 := fun X => (hm X).2.2.2.1; have m4 := fun X => (hm X).2.2.2.2
      simp only at l0 l1 l2 l3 l4 m0 m1 m2 m3 m4
      clear hm
      have h1 : (k : Int) < (m.length : Int) := by omega
      have h2 : (k : Int) < (l.length : Int) := by omega
      have hw : IntKind.i64.wrap ((k : Int) + 1) = (k : Int) + 1 := IntWalk.i64_in _ (by omega)
      have HXY : Hid ((l.map core)[k]? = some (core (x1, x2, x3, x4, x5)) ∧ (m.map core)[k]? = some (core (y1, y2, y3, y4, y5))) := Lib.hid ⟨by rw [List.getElem?_map, hx]; rfl, by rw [List.getElem?_map, hy]; rfl⟩
      clear hx hy
      have HF := Lib.hid (fun W => sameFn_any x1 x2 x3 x4 x5 y1 y2 y3 y4 y5 W)
      go_wp2_with fail
      refine (HF.out _).mono ?_
      rintro e w2 ⟨rfl, b2⟩
      have B2 := Lib.hid (((hbe.out.alloc hzr _).alloc (by simp; omega) _).trans (b2.mono (by simp; omega)))
      clear b2 HF l0 l1 l2 l3 l4 m0 m1 m2 m3 m4
      by_cases hxy : core (x1, x2, x3, x4, x5) = core (y1, y2, y3, y4, y5)
      · have hd : decide (core (x1, x2, x3, x4, x5) = core (y1, y2, y3, y4, y5)) = true := by simp [hxy]
        have HE := Lib.hid hxy
        clear hxy
        simp only [hd]
        go_wp2_with fail
        refine ⟨⟨k + 1, hlt, by simp, Lib.hid (fun j hj => ?_), B2⟩, by simp only [intOf]; omega⟩
        by_cases hjk : j = k
        · subst hjk; rw [HXY.out.1, HXY.out.2, HE.out]
        · exact ha.out j (by omega)
      · have hd : decide (core (x1, x2, x3, x4, x5) = core (y1, y2, y3, y4, y5)) = false := by simp [hxy]
        have HE : Hid (¬ l.map core = m.map core) := Lib.hid (fun e => hxy (by have := HXY.out.1; rw [e, HXY.out.2] at this; injection this with this; exact this.symm))
        clear hxy
        simp only [hd]
        go_wp2_with fail
        exact bodyPost_ret (v := .bool false) (by simp [results, Tryz.results53, go_sem]) rfl ⟨by rw [decide_eq_false HE.out], B2.out⟩
    · have hkl : k = m.length := by omega
      have HE : Hid (l.map core = m.map core) := Lib.hid (by
        apply List.ext_getElem?; intro k
        by_cases hk : k < m.length
        · exact ha.out k (by omega)
        · rw [List.getElem?_eq_none (by simp; omega), List.getElem?_eq_none (by simp; omega)])
      subst hkl
      go_wp2_with fail
      refine bodyPost_ret (v := .bool true) (by simp [results, Tryz.results53, go_sem]) rfl ⟨by rw [decide_eq_true HE.out], hbe.out⟩

theorem efn_len (b1 b2 : Option Addr) (n1 c1 n2 c2 : Nat) (f : Value) (hne : n1 ≠ n2) (w : World) :
    Calls Tryz.prog 53 #[.slice b1 n1 c1, .slice b2 n2 c2, f] w fun e w' => e = .returned (.bool false) ∧ Below w.heap.size w w' := by
  have hne' : ((n1 : Int) != (n2 : Int)) = true := by rw [bne_iff_ne]; omega
  go_enter Tryz.func53, Tryz.ntmps53
  go_wp2_with fail
  exact bodyPost_ret (v := .bool false) (by simp [results, Tryz.results53, go_sem]) rfl ⟨rfl, Below.refl _ _⟩
theorem efn_none (b1 b2 : Option Addr) (c1 c2 : Nat) (f : Value) (w : World) :
    Calls Tryz.prog 53 #[.slice b1 0 c1, .slice b2 0 c2, f] w fun e w' => e = .returned (.bool true) ∧ Below w.heap.size w w' := by
  go_enter Tryz.func53, Tryz.ntmps53
  go_wp2_with fail
  go_loopw [17] (fun i wr => i = .int .i64 0 ∧ wr = w) (fun _ _ => 0)
  case atStart => exact ⟨rfl, rfl⟩
  case round =>
    obtain ⟨rfl, rfl⟩ := hrel
    go_wp2_with fail
    exact bodyPost_ret (v := .bool true) (by simp [results, Tryz.results53, go_sem]) rfl ⟨rfl, Below.refl _ _⟩
theorem efn_any (v1 v2 : Value) (l m : List Tk) (hml : m.length ≤ 140737488351232) (w : World) (h1 : KRow w v1 l) (h2 : KRow w v2 m) :
    Calls Tryz.prog 53 #[v1, v2, .func (.func 54) #[] #[]] w fun e w' => e = .returned (.bool (decide (l.map core = m.map core))) ∧ Below w.heap.size w w' := by
  obtain ⟨b1, c1, rfl, h1⟩ := h1
  obtain ⟨b2, c2, rfl, h2⟩ := h2
  by_cases hn : l.length = m.length
  · by_cases hl : l = []
    · subst hl
      have : m = [] := List.length_eq_zero_iff.1 (by simpa using hn.symm)
      subst this
      exact efn_none b1 b2 c1 c2 _ w
    · have hm : m ≠ [] := by rintro rfl; simp at hn; exact hl hn
      obtain ⟨g, o, rfl, hg, H1⟩ := h1 hl
      obtain ⟨h, p, rfl, hh, H2⟩ := h2 hm
      exact efn_some g o h p c1 c2 l m hn hml w hg hh H1 H2
  · have : ¬ l.map core = m.map core := fun e => hn (by simpa using congrArg List.length e)
    rw [decide_eq_false this]
    exact efn_len b1 b2 _ c1 _ c2 _ hn w

set_option maxRecDepth 100000 in
theorem lexSame_any (v1 v2 : Value) (l m : List Tk) (hml : m.length ≤ 140737488351232) (w : World) (h1 : KRow w v1 l) (h2 : KRow w v2 m) :
    Calls Tryz.prog 33 #[v1, v2] w fun e w' => e = .returned (.bool (decide (l.map core = m.map core))) ∧ Below w.heap.size w w' := by
  have hmf : ∀ (fn : Fn) (first cap : Array Value) (w : World), (Instr.makeFunc fn first cap).run Tryz.prog w = .ok (.func fn first cap) w := fun _ _ _ _ => rfl
  have HF := Lib.hid (efn_any v1 v2 l m hml w h1 h2)
  obtain ⟨b, hb⟩ : ∃ b, b = decide (l.map core = m.map core) := ⟨_, rfl⟩
  rw [← hb] at HF ⊢
  clear hb h1 h2 hml
  go_enter Tryz.func33, Tryz.ntmps33
  go_wp2_with fail
  refine HF.out.mono ?_
  rintro e w1 ⟨rfl, b1⟩
  go_wp2_with fail
  exact bodyPost_ret (v := .bool b) (by simp [results, Tryz.results33, go_sem]) rfl ⟨rfl, b1⟩
end

section
open Go.RowKit

set_option maxHeartbeats 8000000 in
set_option maxRecDepth 100000 in
theorem rSameT_some (g o h p c1 c2 : Nat) (l m : List Tk) (hlen : l.length = m.length) (hml : m.length ≤ 140737488351232) (w : World) (hA : g < w.heap.size) (hB : h < w.heap.size) (L : KAt w g o l) (M : KAt w h p m) :
    Calls Tryz.prog 34 #[.slice (some ⟨g, o, none⟩) l.length c1, .slice (some ⟨h, p, none⟩) m.length c2] w fun e w' => e = .returned (.bool (decide (l.map core = m.map core))) ∧ Below w.heap.size w w' := by
  have hl1 : ((l.length : Int) == (m.length : Int)) = true := by rw [hlen]; simp
  have HL := Lib.hid hlen
  clear hlen
  go_enter Tryz.func34, Tryz.ntmps34
  go_wp2_with fail
  go_loopw [5, 6] (fun s i wr => ∃ (k : Nat) (sb : Bool), k ≤ m.length ∧ s = .bool sb ∧ i = .int .i64 k ∧ Hid (sb = true → ∀ j, j < k → (l.map core)[j]? = (m.map core)[j]?) ∧ Hid (sb = false → ¬ l.map core = m.map core) ∧ Hid (Below w.heap.size w wr)) (fun s i _ => m.length - (intOf i).toNat)
  case atStart => exact ⟨0, true, by omega, rfl, rfl, Lib.hid (fun _ j hj => by omega), Lib.hid (fun h => by cases h), Lib.hid (Below.refl _ _)⟩
  case round =>
    obtain ⟨k, sb, hk, rfl, rfl, ha, hn, hbe⟩ := hrel
    cases sb with
    | false =>
      have HE : Hid (¬ l.map core = m.map core) := Lib.hid (hn.out rfl)
      go_wp2_with fail
      exact bodyPost_ret (v := .bool false) (by simp [results, Tryz.results34, go_sem]) rfl ⟨by rw [decide_eq_false HE.out], hbe.out⟩
    | true =>
      by_cases hlt : k < m.length
      · obtain ⟨⟨x1, x2, x3, x4, x5⟩, hx⟩ : ∃ x, l[k]? = some x := ⟨_, List.getElem?_eq_getElem (by rw [HL.out]; exact hlt)⟩
        obtain ⟨⟨y1, y2, y3, y4, y5⟩, hy⟩ : ∃ y, m[k]? = some y := ⟨_, List.getElem?_eq_getElem (by omega)⟩
        obtain ⟨l0, l1, l2, l3, l4⟩ := (L.below hA hbe.out) k _ hx
        obtain ⟨m0, m1, m2, m3, m4⟩ := (M.below hB hbe.out) k _ hy
        simp only at l0 l1 l2 l3 l4 m0 m1 m2 m3 m4
        have h1 : (k : Int) < (m.length : Int) := by omega
        have h2 : (k : Int) < (l.length : Int) := by rw [HL.out]; exact h1
        have hw : IntKind.i64.wrap ((k : Int) + 1) = (k : Int) + 1 := IntWalk.i64_in _ (by omega)
        have HXY : Hid ((l.map core)[k]? = some (core (x1, x2, x3, x4, x5)) ∧ (m.map core)[k]? = some (core (y1, y2, y3, y4, y5))) := Lib.hid ⟨by rw [List.getElem?_map, hx]; rfl, by rw [List.getElem?_map, hy]; rfl⟩
        have HNE : Hid (¬ core (x1, x2, x3, x4, x5) = core (y1, y2, y3, y4, y5) → ¬ l.map core = m.map core) := Lib.hid (fun hne e => hne (by have := HXY.out.1; rw [e, HXY.out.2] at this; injection this with this; exact this.symm))
        have HEQ : Hid (core (x1, x2, x3, x4, x5) = core (y1, y2, y3, y4, y5) → ∀ j, j < k + 1 → (l.map core)[j]? = (m.map core)[j]?) := Lib.hid (fun he j hj => by
          by_cases hjk : j = k
          · subst hjk; rw [HXY.out.1, HXY.out.2, he]
          · exact ha.out rfl j (by omega))
        clear hx hy
        rcases core_cases x1 x2 x3 x4 x5 y1 y2 y3 y4 y5 with ⟨h, hc⟩ | ⟨h, h2', hc⟩ | ⟨h, h2', h3, hc⟩ | ⟨h, h2', h3, hc⟩
        · obtain ⟨z1, z2⟩ := ne_int h
          have HC := Lib.hid hc
          clear h hc
          go_wp2_with fail
          go_quiet (fail)
          go_wp2_with fail
          exact ⟨⟨k + 1, false, by omega, rfl, by simp, Lib.hid (fun h => by cases h), Lib.hid (fun _ => HNE.out HC.out), Lib.hid (below_drewN hbe.out _)⟩, by simp only [intOf]; omega⟩
        · obtain ⟨z1, z2⟩ := eq_int h
          obtain ⟨y1', y2'⟩ := ne_int h2'
          have HC := Lib.hid hc
          clear h hc h2'
          go_wp2_with fail
          go_quiet (fail)
          go_wp2_with fail
          exact ⟨⟨k + 1, false, by omega, rfl, by simp, Lib.hid (fun h => by cases h), Lib.hid (fun _ => HNE.out HC.out), Lib.hid (below_drewN hbe.out _)⟩, by simp only [intOf]; omega⟩
        · obtain ⟨z1, z2⟩ := eq_int h
          obtain ⟨y1', y2'⟩ := eq_int h2'
          have t1 := str_ne h3
          have HC := Lib.hid hc
          clear h hc h2' h3
          go_wp2_with fail
          go_quiet (fail)
          go_wp2_with fail
          exact ⟨⟨k + 1, false, by omega, rfl, by simp, Lib.hid (fun h => by cases h), Lib.hid (fun _ => HNE.out HC.out), Lib.hid (below_drewN hbe.out _)⟩, by simp only [intOf]; omega⟩
        · obtain ⟨z1, z2⟩ := eq_int h
          obtain ⟨y1', y2'⟩ := eq_int h2'
          have t1 := str_eq h3
          have HC := Lib.hid hc
          clear h hc h2' h3
          go_wp2_with fail
          go_quiet (fail)
          go_wp2_with fail
          exact ⟨⟨k + 1, true, by omega, rfl, by simp, Lib.hid (fun _ => HEQ.out HC.out), Lib.hid (fun h => by cases h), Lib.hid (below_drewN hbe.out _)⟩, by simp only [intOf]; omega⟩
      · have hkl : k = m.length := by omega
        have HE : Hid (l.map core = m.map core) := Lib.hid (by
          apply List.ext_getElem?; intro q
          by_cases hq : q < m.length
          · exact ha.out rfl q (by omega)
          · rw [List.getElem?_eq_none (by have := HL.out; simp; omega), List.getElem?_eq_none (by simp; omega)])
        subst hkl
        have h2 : ((m.length : Int) < (l.length : Int)) = False := by have := HL.out; simp; omega
        go_wp2_with fail
        exact bodyPost_ret (v := .bool true) (by simp [results, Tryz.results34, go_sem]) rfl ⟨by rw [decide_eq_true HE.out], hbe.out⟩
theorem rSameT_len (b1 b2 : Option Addr) (n1 c1 n2 c2 : Nat) (hne : n1 ≠ n2) (w : World) :
    Calls Tryz.prog 34 #[.slice b1 n1 c1, .slice b2 n2 c2] w fun e w' => e = .returned (.bool false) ∧ Below w.heap.size w w' := by
  have hne' : ((n1 : Int) == (n2 : Int)) = false := by rw [beq_eq_false_iff_ne]; omega
  go_enter Tryz.func34, Tryz.ntmps34
  go_wp2_with fail
  go_loopw [5, 6] (fun s i wr => s = .bool false ∧ i = .int .i64 0 ∧ wr = w) (fun _ _ _ => 0)
  case atStart => exact ⟨rfl, rfl, rfl⟩
  case round =>
    obtain ⟨rfl, rfl, rfl⟩ := hrel
    go_wp2_with fail
    exact bodyPost_ret (v := .bool false) (by simp [results, Tryz.results34, go_sem]) rfl ⟨rfl, Below.refl _ _⟩
theorem rSameT_none (b1 b2 : Option Addr) (c1 c2 : Nat) (w : World) :
    Calls Tryz.prog 34 #[.slice b1 0 c1, .slice b2 0 c2] w fun e w' => e = .returned (.bool true) ∧ Below w.heap.size w w' := by
  go_enter Tryz.func34, Tryz.ntmps34
  go_wp2_with fail
  go_loopw [5, 6] (fun s i wr => s = .bool true ∧ i = .int .i64 0 ∧ wr = w) (fun _ _ _ => 0)
  case atStart => exact ⟨rfl, rfl, rfl⟩
  case round =>
    obtain ⟨rfl, rfl, rfl⟩ := hrel
    go_wp2_with fail
    exact bodyPost_ret (v := .bool true) (by simp [results, Tryz.results34, go_sem]) rfl ⟨rfl, Below.refl _ _⟩
theorem rSameT_any (v1 v2 : Value) (l m : List Tk) (hml : m.length ≤ 140737488351232) (w : World) (h1 : KRow w v1 l) (h2 : KRow w v2 m) :
    Calls Tryz.prog 34 #[v1, v2] w fun e w' => e = .returned (.bool (decide (l.map core = m.map core))) ∧ Below w.heap.size w w' := by
  obtain ⟨b1, c1, rfl, h1⟩ := h1
  obtain ⟨b2, c2, rfl, h2⟩ := h2
  by_cases hn : l.length = m.length
  · by_cases hl : l = []
    · subst hl
      have : m = [] := List.length_eq_zero_iff.1 (by simpa using hn.symm)
      subst this
      exact rSameT_none b1 b2 c1 c2 w
    · have hm : m ≠ [] := by rintro rfl; simp at hn; exact hl hn
      obtain ⟨g, o, rfl, hg, H1⟩ := h1 hl
      obtain ⟨h, p, rfl, hh, H2⟩ := h2 hm
      exact rSameT_some g o h p c1 c2 l m hn hml w hg hh H1 H2
  · have : ¬ l.map core = m.map core := fun e => hn (by simpa using congrArg List.length e)
    rw [decide_eq_false this]
    exact rSameT_len b1 b2 _ c1 _ c2 hn w
end

section
open Go.RowKit

theorem signN_two (s : ByteArray) : signN s ≤ 2 := by
  unfold signN
  split
  · omega
  · split <;> omega
theorem kind_forty {s : ByteArray} (h : kindN s ≠ 0) : s.size ≤ 40 := by
  have hsm := kind_small h
  unfold kindN at h
  split at h
  · exact absurd rfl h
  · rename_i h0
    split at h
    · exact absurd rfl h
    · rename_i p hp
      split at h
      · rename_i hc
        unfold nextR at hp
        have hkk := fun k => bestTo_kind (ruleN s 0 false) 6 k
        generalize bestTo (ruleN s 0 false) 6 = kl at hp hkk
        split at hp
        · simp only [Except.ok.injEq] at hp; subst hp; exact absurd hc.1 (by simp [isTok])
        · split at hp
          · split at hp
            · simp only [Except.ok.injEq] at hp; subst hp; exact absurd hc.1 (by simp [isTok])
            · cases hp
          · split at hp
            · simp only [Except.ok.injEq] at hp; subst hp; exact absurd hc.1 (by simp [isTok])
            · split at hp
              · rename_i hf
                simp only [Except.ok.injEq] at hp
                subst hp
                obtain ⟨k, l⟩ := kl
                simp only at hf hc h hkk
                obtain ⟨hc1, hc2⟩ := hc
                subst hc2
                have hk6 : 1 ≤ k ∧ k ≤ 6 := by
                  simp only [isTok, Bool.and_eq_true, decide_eq_true_eq] at hc1
                  omega
                unfold faultN at hf
                rw [cut_all] at hf
                have hk' : k = 1 ∨ k = 2 ∨ k = 3 ∨ k = 4 ∨ k = 5 ∨ k = 6 := by omega
                rcases hk' with rfl | rfl | rfl | rfl | rfl | rfl
                · simp at hf; omega
                · simp only [if_true] at hf
                  cases hv : valO s with
                  | none => rw [hv] at hf; simp at hf
                  | some v =>
                    unfold valO at hv
                    split at hv
                    · rename_i v' hv'
                      split at hv
                      · rename_i hi
                        obtain ⟨v0, v1⟩ := atoi_bounds hv'
                        have := Lib.itoa_length_le v' v0 v1
                        rw [hi] at this
                        simp at this
                        omega
                      · cases hv
                    · cases hv
                · simp at hf; omega
                · obtain ⟨e, _⟩ := hkk 3 rfl
                  have := hashN_two (restB s 0)
                  simp only [ruleN] at e
                  omega
                · obtain ⟨e, _⟩ := hkk 4 rfl
                  have := signN_two (winB s 0)
                  simp only [ruleN] at e
                  omega
                · simp at hf; omega
              · cases hp
      · exact absurd rfl h

def txt (x : Tk) : ByteArray := x.2.2.1
def joinK (l : List Tk) : ByteArray := if l.all tokOk then ⟨(Lib.join (l.map (fun x => (txt x).data.toList)) [32]).toArray⟩ else ⟨#[]⟩
theorem infoStr : (Tryz.prog.info? 9).map (fun i => (i.zero, i.size, i.bytes)) = some (some (.string ⟨#[]⟩), 1, 16) := by kernel_rfl
theorem make_strs (n : Nat) (hn : n ≤ 2932031007402) : ∃ MC : Array Value, (∀ W : World, (W.alloc (.cells MC 9)).rowIs W.heap.size 9 n (fun _ => .string ⟨#[]⟩)) ∧
    ∀ W : World, (Instr.makeSlice 88 (.int .i64 (n : Int)) (.int .i64 (n : Int))).run Tryz.prog W = .ok (.slice (some ⟨W.heap.size, 0, none⟩) n n) (W.alloc (.cells MC 9)) := by
  obtain ⟨i0, hi, hz0, hz1, hz2⟩ := info_parts infoStr
  refine ⟨madeCells #[.string ⟨#[]⟩] n, fun W => World.rowIs_made W _ _ _, fun W => ?_⟩
  have := run_make (P := Tryz.prog) W 88 9 i0 (.string ⟨#[]⟩) Tryz.underlying88 hi hz0 .i64 .i64 (n : Int) (n : Int) (by omega) (Int.le_refl _) (by rw [hz2]; omega) (by omega)
  rw [show ((n : Int)).toNat = n by omega, hz1, Nat.mul_one] at this
  exact this

theorem all_no {l : List Tk} {k : Nat} {x : Tk} (hx : l[k]? = some x) (h : tokOk x = false) : joinK l = ⟨#[]⟩ := by
  unfold joinK
  rw [if_neg]
  intro ha
  have := List.all_eq_true.1 ha x (List.mem_iff_getElem?.2 ⟨k, hx⟩)
  rw [h] at this; cases this

theorem join_len : ∀ (l : List (List UInt8)) (N : Nat), (∀ x ∈ l, x.length ≤ N) → (Lib.join l [32]).length ≤ l.length * (N + 1)
  | [], N, h => by simp [Lib.join_nil]
  | x :: r, N, h => by
    rw [Lib.join_cons]
    have hx := h x (by simp)
    have hr : ∀ (r : List (List UInt8)), (∀ y ∈ r, y.length ≤ N) → (Lib.joinTail [32] r).length ≤ r.length * (N + 1) := by
      intro r hr
      induction r with
      | nil => simp [Lib.joinTail]
      | cons y r ih =>
        have h1 := hr y (by simp)
        have h2 := ih (fun z hz => hr z (by simp [hz]))
        have e : Lib.joinTail [32] (y :: r) = [32] ++ y ++ Lib.joinTail [32] r := by simp [Lib.joinTail]
        have e2 : (y :: r).length * (N + 1) = r.length * (N + 1) + (N + 1) := by rw [List.length_cons, Nat.add_mul, Nat.one_mul]
        rw [e, e2]
        simp only [List.length_append, List.length_cons, List.length_nil]
        omega
    have := hr r (fun y hy => h y (by simp [hy]))
    have e2 : (x :: r).length * (N + 1) = r.length * (N + 1) + (N + 1) := by rw [List.length_cons, Nat.add_mul, Nat.one_mul]
    rw [e2, List.length_append]
    omega
theorem all_yes {l : List Tk} (h : l.all tokOk = true) : joinK l = ⟨(Lib.join ((l.map txt).map (·.data.toList)) [32]).toArray⟩ := by
  unfold joinK
  rw [if_pos h, List.map_map]
  rfl
theorem ok_forty {x : Tk} (h : tokOk x = true) : (txt x).size ≤ 40 := by
  refine kind_forty fun e => ?_
  unfold tokOk at h
  simp only [Bool.and_eq_true, Bool.not_eq_true', decide_eq_false_iff_not] at h
  exact h.1 e
theorem join_bound {l : List Tk} (h : l.all tokOk = true) (hl : l.length ≤ 2932031007402) : (Lib.join ((l.map txt).map (·.data.toList)) [32]).length ≤ 140737488355328 := by
  have := join_len ((l.map txt).map (·.data.toList)) 40 (by
    intro x hx
    simp only [List.map_map, List.mem_map, Function.comp] at hx
    obtain ⟨y, hy, rfl⟩ := hx
    have := ok_forty (List.all_eq_true.1 h y hy)
    simpa using this)
  simp only [List.length_map] at this
  omega
theorem take_all {l : List Tk} {k : Nat} {x : Tk} (hx : l[k]? = some x) (ha : (l.take k).all tokOk = true) (h : tokOk x = true) : (l.take (k + 1)).all tokOk = true := by
  rw [List.take_add_one, hx]
  simp [List.all_append, ha, h]

set_option maxHeartbeats 8000000 in
set_option maxRecDepth 100000 in
theorem lexJoin_some (g o c : Nat) (l : List Tk) (hl : l.length ≤ 2932031007402) (hs : ∀ x ∈ l, (txt x).size ≤ 140737488351232) (w : World) (E : Env w) (hg : g < w.heap.size) (L : KAt w g o l) :
    Calls Tryz.prog 31 #[.slice (some ⟨g, o, none⟩) l.length c] w fun e w' => e = .returned (.string (joinK l)) ∧ Below w.heap.size w w' := by
  have HE := Lib.hid (fun (W : World) (h : Below w.heap.size w W) => E.below E.size h)
  obtain ⟨MC, hrow, hmk⟩ := make_strs l.length hl
  obtain ⟨J, hJ⟩ : ∃ J, J = joinK l := ⟨_, rfl⟩
  rw [← hJ]
  have HJ := Lib.hid hJ
  have HROW := Lib.hid hrow
  have HS := Lib.hid hs
  clear hJ hrow hs E
  go_enter Tryz.func31, Tryz.ntmps31
  go_wp2_with fail
  go_loopw [11] (fun i wr => ∃ k : Nat, k ≤ l.length ∧ i = .int .i64 k ∧ Hid ((l.take k).all tokOk = true) ∧ Hid (wr.rowIs w.heap.size 9 l.length (fun q => .string (if q < k then (l.map txt).getD q ⟨#[]⟩ else ⟨#[]⟩))) ∧ Hid (Below w.heap.size w wr)) (fun i _ => l.length - (intOf i).toNat)
  case atStart => exact ⟨0, by omega, rfl, Lib.hid (by simp), Lib.hid ((HROW.out w).congr (fun i hi => by simp)), Lib.hid ((Below.refl _ w).alloc (Nat.le_refl _) _)⟩
  case round =>
    obtain ⟨k, hk, rfl, ha, hr, hbe⟩ := hrel
    have hzr := hbe.out.size
    have hlr := hr.out.lt
    have hw : IntKind.i64.wrap ((k : Int) + 1) = (k : Int) + 1 := IntWalk.i64_in _ (by omega)
    clear hmk
    by_cases hlt : k < l.length
    · obtain ⟨⟨x1, x2, x3, x4, x5⟩, hx⟩ : ∃ x, l[k]? = some x := ⟨_, List.getElem?_eq_getElem (by omega)⟩
      obtain ⟨l0, l1, l2, l3, l4⟩ := (L.below hg hbe.out) k _ hx
      simp only at l0 l1 l2 l3 l4
      have h1 : (k : Int) < (l.length : Int) := by omega
      have hxs := HS.out _ (List.mem_iff_getElem?.2 ⟨k, hx⟩)
      have HC := Lib.hid (fun W E => check_any x1 x2 x3 x4 x5 hxs W E)
      clear hxs
      cases hok : tokOk (x1, x2, x3, x4, x5) with
      | false =>
        have HZ : Hid (J = ⟨#[]⟩) := Lib.hid (by rw [HJ.out]; exact all_no hx hok)
        rw [show chkN (x1, x2, x3, x4, x5) = 14 by unfold chkN; rw [hok]; rfl] at HC
        clear hx hok
        go_wp2_with fail
        refine (HC.out _ (HE.out _ (hbe.out.alloc hzr _))).mono ?_
        rintro e w2 ⟨rfl, b2⟩
        have B2 := Lib.hid ((hbe.out.alloc hzr _).trans (b2.mono (by simp; omega)))
        clear b2 HC
        go_wp2_with fail
        exact bodyPost_ret (v := .string ⟨#[]⟩) (by simp [results, Tryz.results31, go_sem]) rfl ⟨by rw [HZ.out], B2.out⟩
      | true =>
        have HT := Lib.hid (take_all hx ha.out hok)
        have HXK : Hid ((l.map txt).getD k ⟨#[]⟩ = x3) := Lib.hid (by rw [List.getD_eq_getElem?_getD, List.getElem?_map, hx]; rfl)
        rw [show chkN (x1, x2, x3, x4, x5) = 0 by unfold chkN; rw [hok]; rfl] at HC
        clear hx hok
        go_wp2_with fail
        refine (HC.out _ (HE.out _ (hbe.out.alloc hzr _))).mono ?_
        rintro e w2 ⟨rfl, b2⟩
        have B2 := Lib.hid ((hbe.out.alloc hzr _).trans (b2.mono (by simp; omega)))
        have r2 := (hr.out.alloc (.cells #[.int .i64 x1, .int .i64 x2, .string x3, .int .i64 x4, .int .i64 x5] 51)).of_block (b2.block w.heap.size (by simp; omega))
        have d2 : w2.cell? ⟨wr.heap.size, 2, none⟩ = some (.string x3) := (b2.cell (p := ⟨wr.heap.size, 2, none⟩) (by simp)).trans (by simp)
        have cz := r2.cell hlt
        have cf := r2.frozen k
        have R2 := Lib.hid r2
        clear b2 HC r2
        go_wp2_with fail
        exact ⟨⟨k + 1, hlt, by simp, HT, Lib.hid ((R2.out.set k (.string x3)).congr (fun q hq => by
            by_cases hqk : q = k
            · subst hqk; rw [if_pos rfl, if_pos (by omega), HXK.out]
            · rw [if_neg hqk]
              by_cases hlt2 : q < k
              · rw [if_pos hlt2, if_pos (by omega)]
              · rw [if_neg hlt2, if_neg (by omega)])), Lib.hid (B2.out.setCell (p := ⟨w.heap.size, k, none⟩) (Nat.le_refl _) _)⟩, by simp only [intOf]; omega⟩
    · have hkl : k = l.length := by omega
      subst hkl
      have hall := ha.out
      rw [List.take_length] at hall
      have hcells : ∀ (j : Nat) x, (l.map txt)[j]? = some x → wr.cell? ⟨w.heap.size, 0 + j, none⟩ = some (.string x) := by
        intro j x hj
        have hjl : j < l.length := by have := (List.getElem?_eq_some_iff.1 hj).1; simpa using this
        have := hr.out.cell hjl
        rw [if_pos hjl, List.getD_eq_getElem?_getD, hj] at this
        simpa using this
      have HJN := Lib.hid (Tryz.strings_Join w.heap.size 0 l.length (l.map txt) ⟨#[32]⟩ wr hcells hlr (by simp; omega) (by simp) (join_bound hall hl))
      have HY : Hid (J = ⟨(Lib.join ((l.map txt).map (·.data.toList)) [32]).toArray⟩) := Lib.hid (by rw [HJ.out]; exact all_yes hall)
      rw [List.length_map] at HJN
      clear hcells hall
      go_wp2_with fail
      refine HJN.out.mono ?_
      rintro e w2 ⟨rfl, b2⟩
      go_wp2_with fail
      exact bodyPost_ret (v := .string ⟨(Lib.join ((l.map txt).map (·.data.toList)) [32]).toArray⟩) (by simp [results, Tryz.results31, go_sem]) rfl ⟨by rw [HY.out], hbe.out.trans (b2.mono hzr)⟩

set_option maxRecDepth 100000 in
theorem lexJoin_none (b : Option Addr) (c : Nat) (w : World) :
    Calls Tryz.prog 31 #[.slice b 0 c] w fun e w' => e = .returned (.string ⟨#[]⟩) ∧ Below w.heap.size w w' := by
  obtain ⟨MC, hrow, hmk⟩ := make_strs 0 (by omega)
  simp only [Int.natCast_zero] at hmk
  have HJN := Lib.hid (fun W => Tryz.strings_Join_none (some ⟨w.heap.size, 0, none⟩) 0 ⟨#[32]⟩ W)
  clear hrow
  go_enter Tryz.func31, Tryz.ntmps31
  go_wp2_with fail
  go_loopw [11] (fun i wr => i = .int .i64 0 ∧ wr = w.alloc (.cells MC 9)) (fun _ _ => 0)
  case atStart => exact ⟨rfl, rfl⟩
  case round =>
    obtain ⟨rfl, rfl⟩ := hrel
    clear hmk
    go_wp2_with fail
    refine (HJN.out _).mono ?_
    rintro e w2 ⟨rfl, rfl⟩
    go_wp2_with fail
    exact bodyPost_ret (v := .string ⟨#[]⟩) (by simp [results, Tryz.results31, go_sem]) rfl ⟨rfl, (Below.refl _ w).alloc (Nat.le_refl _) _⟩
theorem lexJoin_any (v : Value) (l : List Tk) (hl : l.length ≤ 2932031007402) (hs : ∀ x ∈ l, (txt x).size ≤ 140737488351232) (w : World) (E : Env w) (h : KRow w v l) :
    Calls Tryz.prog 31 #[v] w fun e w' => e = .returned (.string (joinK l)) ∧ Below w.heap.size w w' := by
  obtain ⟨b, c, rfl, h⟩ := h
  by_cases hne : l = []
  · subst hne
    exact lexJoin_none b c w
  · obtain ⟨g, o, rfl, hg, H⟩ := h hne
    exact lexJoin_some g o c l hl hs w E hg H
end

section
open Go.RowKit

theorem infoU8 : (Tryz.prog.info? 5).map (fun i => (i.zero, i.size, i.bytes)) = some (some (.int .u8 0), 1, 1) := by kernel_rfl
def txL (x : Tk) : List UInt8 := (txt x).data.toList
def pj (l : List Tk) (k : Nat) : List UInt8 := Lib.join ((l.take k).map txL) [32]
def u8s (l : List UInt8) : List Value := l.map (fun b => .int .u8 (b.toNat : Int))
theorem pj_zero (l : List Tk) : pj l 0 = [] := by simp [pj, Lib.join_nil]
theorem pj_one {l : List Tk} {x : Tk} (hx : l[0]? = some x) : pj l 1 = txL x := by
  cases l with
  | nil => cases hx
  | cons y r => simp at hx; subst hx; simp [pj, Lib.join_one]
theorem pj_succ {l : List Tk} {k : Nat} {x : Tk} (hk : 0 < k) (hx : l[k]? = some x) : pj l (k + 1) = pj l k ++ [32] ++ txL x := by
  cases l with
  | nil => simp at hx
  | cons y r =>
    obtain ⟨j, rfl⟩ : ∃ j, k = j + 1 := ⟨k - 1, by omega⟩
    simp only [List.getElem?_cons_succ] at hx
    unfold pj
    rw [List.take_succ_cons, List.take_succ_cons, List.map_cons, List.map_cons, Lib.join_cons, Lib.join_cons]
    have : ((r.map txL)[j]?) = some (txL x) := by rw [List.getElem?_map, hx]; rfl
    have h := Lib.joinTail_take_succ [32] (r.map txL) j (txL x) this
    rw [← List.map_take, ← List.map_take] at h
    rw [h]
    simp [List.append_assoc]
theorem pj_len {l : List Tk} {k : Nat} (h : (l.take k).all tokOk = true) : (pj l k).length ≤ k * 41 := by
  have := join_len ((l.take k).map txL) 40 (by
    intro x hx
    obtain ⟨y, hy, rfl⟩ := List.mem_map.1 hx
    have := ok_forty (List.all_eq_true.1 h y hy)
    unfold txL
    simpa using this)
  have h2 : ((l.take k).map txL).length ≤ k := by simp; omega
  exact Nat.le_trans this (Nat.mul_le_mul_right _ h2)
theorem u8s_append (a b : List UInt8) : u8s (a ++ b) = u8s a ++ u8s b := by simp [u8s]
theorem u8s_len (a : List UInt8) : (u8s a).length = a.length := by simp [u8s]
theorem str_u8s (s : ByteArray) : Lib.strCells s = u8s s.data.toList := rfl

theorem conv_row {w : World} {base : Nat} {v : Value} {L : List UInt8} (h : w.ownsRow base 5 1 v L.length (u8s L)) : (convert 90 9 v).run Tryz.prog w = .ok (.string ⟨L.toArray⟩) w := by
  have hc := fun g => h.cells (g := g)
  rcases h.2 with ⟨rfl, h0⟩ | ⟨g, cap, cur, rfl, _⟩
  · have : L = [] := List.length_eq_zero_iff.1 h0
    subst this
    exact run_convert_bytes_nil w 90 5 Tryz.underlying90 Tryz.underlying5 0 0 9 Tryz.underlying9
  · refine run_convert_bytes_back w _ _ 5 ⟨g, 0, none⟩ cap L Tryz.underlying90 Tryz.underlying5 Tryz.underlying9 (fun j hj => ?_)
    exact hc g rfl j _ (by rw [u8s, List.getElem?_map, List.getElem?_eq_getElem hj]; rfl)

set_option maxHeartbeats 8000000 in
set_option maxRecDepth 100000 in
theorem rJoin_some (g o c : Nat) (l : List Tk) (hl : l.length ≤ 2932031007402) (w : World) (hg : g < w.heap.size) (L : KAt w g o l) :
    Calls Tryz.prog 32 #[.slice (some ⟨g, o, none⟩) l.length c] w fun e w' => e = .returned (.string (joinK l)) ∧ Below w.heap.size w w' := by
  obtain ⟨J, hJ⟩ : ∃ J, J = joinK l := ⟨_, rfl⟩
  rw [← hJ]
  have HJ := Lib.hid hJ
  obtain ⟨i0, hi0, hz0, hz1, hz2⟩ := info_parts infoU8
  clear hJ
  go_enter Tryz.func32, Tryz.ntmps32
  go_wp2_with fail
  go_loopw [3, 4] (fun ov iv wr => ∃ k : Nat, k ≤ l.length ∧ iv = .int .i64 k ∧ Hid ((l.take k).all tokOk = true) ∧ Hid (wr.ownsRow w.heap.size 5 1 ov (pj l k).length (u8s (pj l k))) ∧ Hid (Below w.heap.size w wr)) (fun _ iv _ => l.length - (intOf iv).toNat)
  case atStart => exact ⟨0, by omega, rfl, Lib.hid (by simp), Lib.hid (by rw [pj_zero]; exact World.ownsRow_nil _ _ _ _), Lib.hid (Below.refl _ _)⟩
  case round =>
    obtain ⟨k, hk, rfl, ha, hr, hbe⟩ := hrel
    have hzr := hbe.out.size
    have hw : IntKind.i64.wrap ((k : Int) + 1) = (k : Int) + 1 := IntWalk.i64_in _ (by omega)
    by_cases hlt : k < l.length
    · obtain ⟨⟨x1, x2, x3, x4, x5⟩, hx⟩ : ∃ x, l[k]? = some x := ⟨_, List.getElem?_eq_getElem (by omega)⟩
      obtain ⟨l0, l1, l2, l3, l4⟩ := (L.below hg hbe.out) k _ hx
      simp only at l0 l1 l2 l3 l4
      have h1 : (k : Int) < (l.length : Int) := by omega
      have HC := Lib.hid (fun W => rCheck_any x1 x2 x3 x4 x5 W)
      cases hok : tokOk (x1, x2, x3, x4, x5) with
      | false =>
        have HZ : Hid (J = ⟨#[]⟩) := Lib.hid (by rw [HJ.out]; exact all_no hx hok)
        rw [show chkN (x1, x2, x3, x4, x5) = 14 by unfold chkN; rw [hok]; rfl] at HC
        clear hx hok
        go_wp2_with fail
        refine (HC.out _).mono ?_
        rintro e w2 ⟨rfl, b2⟩
        have B2 := Lib.hid (hbe.out.trans (b2.mono hzr))
        clear b2 HC
        go_wp2_with fail
        exact bodyPost_ret (v := .string ⟨#[]⟩) (by simp [results, Tryz.results32, go_sem]) rfl ⟨by rw [HZ.out], B2.out⟩
      | true =>
        have HT := Lib.hid (take_all hx ha.out hok)
        have h40 : x3.size ≤ 40 := ok_forty hok
        have hlen := pj_len ha.out
        have HX := Lib.hid hx
        have HL2 : Hid (∀ W, Below w.heap.size w W → W.cell? ⟨g, o + k * 5 + 2, none⟩ = some (.string x3)) := Lib.hid (fun W hB => ((L.below hg hB) k _ hx).2.2.1)
        rw [show chkN (x1, x2, x3, x4, x5) = 0 by unfold chkN; rw [hok]; rfl] at HC
        clear hx hok
        by_cases hk0 : 0 < k
        · have hk0' : ((0 : Int) < (k : Int)) := by omega
          have HPJ : Hid (pj l (k + 1) = pj l k ++ [32] ++ x3.data.toList) := Lib.hid (pj_succ hk0 HX.out)
          go_wp2_with fail
          refine (HC.out _).mono ?_
          rintro e w2 ⟨rfl, b2⟩
          have B2 := Lib.hid (hbe.out.trans (b2.mono hzr))
          have R2 := Lib.hid (row_same hr.out (fun j _ h2 => b2.block j h2))
          have hzs := B2.out.size
          clear b2 HC l0 l1 l2 l3 l4
          have HNEW : Hid (∀ j u, ([Value.int .u8 32])[j]? = some u → (w2.alloc (.cells #[.int .u8 32] 5)).cell? ((⟨w2.heap.size, 0, none⟩ : Addr).add j) = some u) := Lib.hid (by
            intro j u hj
            match j, hj with
            | 0, hj => simp at hj; subst hj; simp [Addr.add]
            | j + 1, hj => simp at hj)
          go_wp2_with (first
            | (at_builtin; (refine wpList_append_own _ rfl _ _ 90 rfl w.heap.size 5 i0 (.int .u8 0) 1 1 Tryz.underlying90 hi0 hz0 hz1 hz2 rfl (by decide) _ _ _ rfl (R2.out.alloc _) ⟨w2.heap.size, 0, none⟩ 1 1 [.int .u8 32] rfl rfl HNEW.out (by simp [Value.oneCell']) (by unfold maxLen; omega) (by omega) (by simp; omega) ?_); intro v' w4 hown' hgrow _; have B4 := Lib.hid (Below.grown (B2.out.alloc hzs _) hgrow (by simp; omega) (fun j hj => (R2.out.lt j hj).1)); have HOWN := Lib.hid hown'; have c2 := HL2.out _ B4.out; have hzs4 := B4.out.size; clear hown' hgrow HNEW)
            | (at_builtin; (refine Lib.wpList_append_own_string _ rfl _ _ 90 9 rfl w.heap.size 5 i0 Tryz.underlying90 Tryz.underlying9 hi0 hz0 hz1 hz2 _ _ _ rfl HOWN.out x3 rfl (by unfold maxLen; omega) (by omega) hzs4 ?_); intro v'' w5 hown'' hgrow' _; have B5 := Lib.hid (Below.grown B4.out hgrow' hzs4 (fun j hj => (HOWN.out.lt j hj).1)); have HOWN5 := Lib.hid hown''; clear hown'' hgrow'))
          exact ⟨⟨k + 1, hlt, by simp, HT, Lib.hid (by
            have := HOWN5.out
            rw [str_u8s] at this
            rw [HPJ.out, u8s_append, u8s_append, List.length_append, List.length_append]
            simpa [u8s] using this), B5⟩, by simp only [intOf]; omega⟩
        · have hk0' : ((0 : Int) < (k : Int)) = False := by simp; omega
          have hk0n : (0 < k) = False := by simp; omega
          have hk00 : k = 0 := by omega
          have HPJ : Hid (pj l (k + 1) = x3.data.toList) := Lib.hid (by subst hk00; exact pj_one HX.out)
          have HPE : Hid (pj l k = []) := Lib.hid (by subst hk00; exact pj_zero l)
          clear hk00 hk0
          go_wp2_with fail
          refine (HC.out _).mono ?_
          rintro e w2 ⟨rfl, b2⟩
          have B4 := Lib.hid (hbe.out.trans (b2.mono hzr))
          have HOWN := Lib.hid (row_same hr.out (fun j _ h2 => b2.block j h2))
          have hzs4 := B4.out.size
          have c2 := HL2.out _ B4.out
          clear b2 HC l0 l1 l2 l3 l4
          go_wp2_with (at_builtin; (refine Lib.wpList_append_own_string _ rfl _ _ 90 9 rfl w.heap.size 5 i0 Tryz.underlying90 Tryz.underlying9 hi0 hz0 hz1 hz2 _ _ _ rfl HOWN.out x3 rfl (by unfold maxLen; omega) (by omega) hzs4 ?_); intro v'' w5 hown'' hgrow' _; have B5 := Lib.hid (Below.grown B4.out hgrow' hzs4 (fun j hj => (HOWN.out.lt j hj).1)); have HOWN5 := Lib.hid hown''; clear hown'' hgrow')
          exact ⟨⟨k + 1, hlt, by simp, HT, Lib.hid (by
            have := HOWN5.out
            rw [str_u8s, HPE.out] at this
            rw [HPJ.out]
            simpa [u8s] using this), B5⟩, by simp only [intOf]; omega⟩
    · have hkl : k = l.length := by omega
      subst hkl
      have hall := ha.out
      rw [List.take_length] at hall
      have HY : Hid (J = ⟨(pj l l.length).toArray⟩) := Lib.hid (by rw [HJ.out, all_yes hall]; unfold pj; rw [List.take_length, List.map_map]; rfl)
      have hconv : (convert 90 9 u3).run Tryz.prog wr = .ok (.string ⟨(pj l l.length).toArray⟩) wr := conv_row hr.out
      clear hall
      go_wp2_with fail
      exact bodyPost_ret (v := .string ⟨(pj l l.length).toArray⟩) (by simp [results, Tryz.results32, go_sem]) rfl ⟨by rw [HY.out], hbe.out⟩
theorem rJoin_none (b : Option Addr) (c : Nat) (w : World) :
    Calls Tryz.prog 32 #[.slice b 0 c] w fun e w' => e = .returned (.string ⟨#[]⟩) ∧ Below w.heap.size w w' := by
  have hconv : (convert 90 9 (.slice none 0 0)).run Tryz.prog w = .ok (.string ⟨#[]⟩) w := conv_row (L := []) (World.ownsRow_nil w 0 _ _)
  go_enter Tryz.func32, Tryz.ntmps32
  go_wp2_with fail
  go_loopw [3, 4] (fun ov iv wr => ov = .slice none 0 0 ∧ iv = .int .i64 0 ∧ wr = w) (fun _ _ _ => 0)
  case atStart => exact ⟨rfl, rfl, rfl⟩
  case round =>
    obtain ⟨rfl, rfl, rfl⟩ := hrel
    go_wp2_with fail
    exact bodyPost_ret (v := .string ⟨#[]⟩) (by simp [results, Tryz.results32, go_sem]) rfl ⟨rfl, Below.refl _ _⟩
theorem rJoin_any (v : Value) (l : List Tk) (hl : l.length ≤ 2932031007402) (w : World) (h : KRow w v l) :
    Calls Tryz.prog 32 #[v] w fun e w' => e = .returned (.string (joinK l)) ∧ Below w.heap.size w w' := by
  obtain ⟨b, c, rfl, h⟩ := h
  by_cases hne : l = []
  · subst hne
    exact rJoin_none b c w
  · obtain ⟨g, o, rfl, hg, H⟩ := h hne
    exact rJoin_some g o c l hl w hg H
end

end Go.Proofs.YtlkanfnhemjdcaaGreatDoor
