/-
  Check of a token, the lexer's and the reference's.
  A region that draws its order, whose operations read old cells, and whose callees may make memory but turn none that is there: ONE walk in the order of the text serves every order. The class of worlds: those that keep all that the first one has.
-/
import Derived.Test.YtafncodigpjkaaaGreatDoorXW
import Derived.BigQuiet
import Derived.Below
namespace Go.Proofs.YtafncodigpjkaaaGreatDoor
section
open Go.RowKit

/-- A token: kind, number, text, place, mark. -/
abbrev Tk := Int × Int × ByteArray × Int × Int
def numK (s : ByteArray) : Int := if kindN s = 2 then (valO s).getD 0 else 0
def tokOk (x : Tk) : Bool := !decide (kindN x.2.2.1 = 0) && (decide ((kindN x.2.2.1 : Int) = x.1) && (!decide (x.2.2.2.1 < 0) && (!decide (x.2.2.2.2 < 0) && decide (numK x.2.2.1 = x.2.1))))
def chkN (x : Tk) : Int := if tokOk x then 0 else 14

theorem tok_cases (k n : Int) (s : ByteArray) (a m : Int) :
    (kindN s = 0 ∧ chkN (k, n, s, a, m) = 14) ∨
    (kindN s ≠ 0 ∧ (kindN s : Int) ≠ k ∧ chkN (k, n, s, a, m) = 14) ∨
    (kindN s ≠ 0 ∧ (kindN s : Int) = k ∧ a < 0 ∧ chkN (k, n, s, a, m) = 14) ∨
    (kindN s ≠ 0 ∧ (kindN s : Int) = k ∧ ¬ a < 0 ∧ m < 0 ∧ chkN (k, n, s, a, m) = 14) ∨
    (kindN s ≠ 0 ∧ (kindN s : Int) = k ∧ ¬ a < 0 ∧ ¬ m < 0 ∧ numK s ≠ n ∧ chkN (k, n, s, a, m) = 14) ∨
    (kindN s ≠ 0 ∧ (kindN s : Int) = k ∧ ¬ a < 0 ∧ ¬ m < 0 ∧ numK s = n ∧ chkN (k, n, s, a, m) = 0) := by
  unfold chkN tokOk
  simp only
  by_cases h1 : kindN s = 0
  · left; exact ⟨h1, by rw [decide_eq_true h1]; rfl⟩
  right
  by_cases h2 : (kindN s : Int) = k
  · right
    by_cases h3 : a < 0
    · left; exact ⟨h1, h2, h3, by rw [decide_eq_true h3]; simp⟩
    right
    by_cases h4 : m < 0
    · left; exact ⟨h1, h2, h3, h4, by rw [decide_eq_true h4]; simp⟩
    right
    by_cases h5 : numK s = n
    · right; exact ⟨h1, h2, h3, h4, h5, by rw [decide_eq_false h1, decide_eq_true h2, decide_eq_false h3, decide_eq_false h4, decide_eq_true h5]; rfl⟩
    · left; exact ⟨h1, h2, h3, h4, h5, by rw [decide_eq_false h5]; simp⟩
  · left; exact ⟨h1, h2, by rw [decide_eq_false h2]; simp⟩

theorem ne_int {a b : Int} (h : a ≠ b) : (a == b) = false ∧ (a != b) = true := by
  have : (a == b) = false := beq_eq_false_iff_ne.2 h
  exact ⟨this, by rw [bne, this]; rfl⟩
theorem eq_int {a b : Int} (h : a = b) : (a == b) = true ∧ (a != b) = false := by subst h; simp

set_option maxHeartbeats 4000000 in
set_option maxRecDepth 100000 in
theorem check_any (k n : Int) (s : ByteArray) (a m : Int) (hs : s.size ≤ 140737488351232) (w : World) (E : Env w) :
    Calls Tryz.prog 65 #[.agg #[.int .i64 k, .int .i64 n, .string s, .int .i64 a, .int .i64 m]] w fun e w' => e = .returned (.int .i64 (chkN (k, n, s, a, m))) ∧ Below w.heap.size w w' := by
  have HE := Lib.hid (fun (W : World) (h : Below w.heap.size w W) => E.below E.size h)
  have HK := Lib.hid (fun W E => kind_any s hs W E)
  have HV := Lib.hid (fun W E => value_any s hs W E)
  have hnum : numK s = if kindN s = 2 then (valO s).getD 0 else 0 := rfl
  have hc := tok_cases k n s a m
  generalize chkN (k, n, s, a, m) = R at hc ⊢
  generalize numK s = nk at hc hnum
  generalize kindN s = kd at hc hnum HK
  clear E hs
  rcases hc with ⟨h, rfl⟩ | ⟨h, h1, rfl⟩ | ⟨h, h1, h3, rfl⟩ | ⟨h, h1, h3, h4, rfl⟩ | ⟨h, h1, h3, h4, h5, rfl⟩ | ⟨h, h1, h3, h4, h5, rfl⟩
  · obtain ⟨z1, z2⟩ := eq_int (a := (kd : Int)) (b := 0) (by omega)
    clear HV hnum h
    go_enter Tryz.func65, Tryz.ntmps65
    go_wp2_with fail
    refine (HK.out _ (HE.out _ ((Below.refl _ w).alloc (Nat.le_refl _) _))).mono ?_
    rintro e w1 ⟨rfl, b1⟩
    have B' := b1.mono (show w.heap.size + 1 ≤ _ by simp)
    have c0 : w1.cell? ⟨w.heap.size, 0, none⟩ = some (.int .i64 k) := (res_at B' (j := 0) rfl).1
    have c1 : w1.cell? ⟨w.heap.size, 1, none⟩ = some (.int .i64 n) := (res_at B' (j := 1) rfl).1
    have c2 : w1.cell? ⟨w.heap.size, 2, none⟩ = some (.string s) := (res_at B' (j := 2) rfl).1
    have c3 : w1.cell? ⟨w.heap.size, 3, none⟩ = some (.int .i64 a) := (res_at B' (j := 3) rfl).1
    have c4 : w1.cell? ⟨w.heap.size, 4, none⟩ = some (.int .i64 m) := (res_at B' (j := 4) rfl).1
    have hz1 : w.heap.size + 1 ≤ w1.heap.size := by simpa using B'.size
    have B1 := Lib.hid (res_below B')
    clear b1 B' HK
    go_wp2_with fail
    exact bodyPost_ret (v := .int .i64 14) (by simp [results, Tryz.results65, go_sem]) rfl ⟨rfl, B1.out⟩
  · obtain ⟨z1, z2⟩ := ne_int (a := (kd : Int)) (b := 0) (by omega)
    obtain ⟨y1, y2⟩ := ne_int h1
    clear HV hnum h h1
    go_enter Tryz.func65, Tryz.ntmps65
    go_wp2_with fail
    refine (HK.out _ (HE.out _ ((Below.refl _ w).alloc (Nat.le_refl _) _))).mono ?_
    rintro e w1 ⟨rfl, b1⟩
    have B' := b1.mono (show w.heap.size + 1 ≤ _ by simp)
    have c0 : w1.cell? ⟨w.heap.size, 0, none⟩ = some (.int .i64 k) := (res_at B' (j := 0) rfl).1
    have c1 : w1.cell? ⟨w.heap.size, 1, none⟩ = some (.int .i64 n) := (res_at B' (j := 1) rfl).1
    have c2 : w1.cell? ⟨w.heap.size, 2, none⟩ = some (.string s) := (res_at B' (j := 2) rfl).1
    have c3 : w1.cell? ⟨w.heap.size, 3, none⟩ = some (.int .i64 a) := (res_at B' (j := 3) rfl).1
    have c4 : w1.cell? ⟨w.heap.size, 4, none⟩ = some (.int .i64 m) := (res_at B' (j := 4) rfl).1
    have hz1 : w.heap.size + 1 ≤ w1.heap.size := by simpa using B'.size
    have B1 := Lib.hid (res_below B')
    clear b1 B' HK
    go_wp2_with fail
    exact bodyPost_ret (v := .int .i64 14) (by simp [results, Tryz.results65, go_sem]) rfl ⟨rfl, B1.out⟩
  · obtain ⟨z1, z2⟩ := ne_int (a := (kd : Int)) (b := 0) (by omega)
    obtain ⟨y1, y2⟩ := eq_int h1
    clear HV hnum h h1
    go_enter Tryz.func65, Tryz.ntmps65
    go_wp2_with fail
    refine (HK.out _ (HE.out _ ((Below.refl _ w).alloc (Nat.le_refl _) _))).mono ?_
    rintro e w1 ⟨rfl, b1⟩
    have B' := b1.mono (show w.heap.size + 1 ≤ _ by simp)
    have c0 : w1.cell? ⟨w.heap.size, 0, none⟩ = some (.int .i64 k) := (res_at B' (j := 0) rfl).1
    have c1 : w1.cell? ⟨w.heap.size, 1, none⟩ = some (.int .i64 n) := (res_at B' (j := 1) rfl).1
    have c2 : w1.cell? ⟨w.heap.size, 2, none⟩ = some (.string s) := (res_at B' (j := 2) rfl).1
    have c3 : w1.cell? ⟨w.heap.size, 3, none⟩ = some (.int .i64 a) := (res_at B' (j := 3) rfl).1
    have c4 : w1.cell? ⟨w.heap.size, 4, none⟩ = some (.int .i64 m) := (res_at B' (j := 4) rfl).1
    have hz1 : w.heap.size + 1 ≤ w1.heap.size := by simpa using B'.size
    have B1 := Lib.hid (res_below B')
    clear b1 B' HK
    go_wp2_with fail
    exact bodyPost_ret (v := .int .i64 14) (by simp [results, Tryz.results65, go_sem]) rfl ⟨rfl, B1.out⟩
  · obtain ⟨z1, z2⟩ := ne_int (a := (kd : Int)) (b := 0) (by omega)
    obtain ⟨y1, y2⟩ := eq_int h1
    have h3' : (a < 0) = False := by simp [h3]
    clear HV hnum h h1 h3
    go_enter Tryz.func65, Tryz.ntmps65
    go_wp2_with fail
    refine (HK.out _ (HE.out _ ((Below.refl _ w).alloc (Nat.le_refl _) _))).mono ?_
    rintro e w1 ⟨rfl, b1⟩
    have B' := b1.mono (show w.heap.size + 1 ≤ _ by simp)
    have c0 : w1.cell? ⟨w.heap.size, 0, none⟩ = some (.int .i64 k) := (res_at B' (j := 0) rfl).1
    have c1 : w1.cell? ⟨w.heap.size, 1, none⟩ = some (.int .i64 n) := (res_at B' (j := 1) rfl).1
    have c2 : w1.cell? ⟨w.heap.size, 2, none⟩ = some (.string s) := (res_at B' (j := 2) rfl).1
    have c3 : w1.cell? ⟨w.heap.size, 3, none⟩ = some (.int .i64 a) := (res_at B' (j := 3) rfl).1
    have c4 : w1.cell? ⟨w.heap.size, 4, none⟩ = some (.int .i64 m) := (res_at B' (j := 4) rfl).1
    have hz1 : w.heap.size + 1 ≤ w1.heap.size := by simpa using B'.size
    have B1 := Lib.hid (res_below B')
    clear b1 B' HK
    go_wp2_with fail
    exact bodyPost_ret (v := .int .i64 14) (by simp [results, Tryz.results65, go_sem]) rfl ⟨rfl, B1.out⟩
  · obtain ⟨z1, z2⟩ := ne_int (a := (kd : Int)) (b := 0) (by omega)
    obtain ⟨y1, y2⟩ := eq_int h1
    have h3' : (a < 0) = False := by simp [h3]
    have h4' : (m < 0) = False := by simp [h4]
    obtain ⟨x1, x2⟩ := ne_int h5
    by_cases h2 : kd = 2
    · rw [if_pos h2] at hnum
      rw [← hnum] at HV
      obtain ⟨v1, v2⟩ := eq_int (a := (kd : Int)) (b := 2) (by omega)
      clear h2 hnum h h1 h3 h4 h5
      go_enter Tryz.func65, Tryz.ntmps65
      go_wp2_with fail
      refine (HK.out _ (HE.out _ ((Below.refl _ w).alloc (Nat.le_refl _) _))).mono ?_
      rintro e w1 ⟨rfl, b1⟩
      have B' := b1.mono (show w.heap.size + 1 ≤ _ by simp)
      have c0 : w1.cell? ⟨w.heap.size, 0, none⟩ = some (.int .i64 k) := (res_at B' (j := 0) rfl).1
      have c1 : w1.cell? ⟨w.heap.size, 1, none⟩ = some (.int .i64 n) := (res_at B' (j := 1) rfl).1
      have c2 : w1.cell? ⟨w.heap.size, 2, none⟩ = some (.string s) := (res_at B' (j := 2) rfl).1
      have c3 : w1.cell? ⟨w.heap.size, 3, none⟩ = some (.int .i64 a) := (res_at B' (j := 3) rfl).1
      have c4 : w1.cell? ⟨w.heap.size, 4, none⟩ = some (.int .i64 m) := (res_at B' (j := 4) rfl).1
      have hz1 : w.heap.size + 1 ≤ w1.heap.size := by simpa using B'.size
      have B1 := Lib.hid (res_below B')
      clear b1 B' HK
      go_wp2_with fail
      refine (HV.out _ (HE.out _ B1.out)).mono ?_
      rintro e w2 ⟨rfl, b2⟩
      have d1 : w2.cell? ⟨w.heap.size, 1, none⟩ = some (.int .i64 n) := (b2.cell (p := ⟨w.heap.size, 1, none⟩) hz1).trans c1
      have B2 := Lib.hid (B1.out.trans (b2.mono B1.out.size))
      clear b2 HV
      go_wp2_with fail
      exact bodyPost_ret (v := .int .i64 14) (by simp [results, Tryz.results65, go_sem]) rfl ⟨rfl, B2.out⟩
    · rw [if_neg h2] at hnum
      subst hnum
      obtain ⟨v1, v2⟩ := ne_int (a := (kd : Int)) (b := 2) (by omega)
      clear HV h2 h h1 h3 h4 h5
      go_enter Tryz.func65, Tryz.ntmps65
      go_wp2_with fail
      refine (HK.out _ (HE.out _ ((Below.refl _ w).alloc (Nat.le_refl _) _))).mono ?_
      rintro e w1 ⟨rfl, b1⟩
      have B' := b1.mono (show w.heap.size + 1 ≤ _ by simp)
      have c0 : w1.cell? ⟨w.heap.size, 0, none⟩ = some (.int .i64 k) := (res_at B' (j := 0) rfl).1
      have c1 : w1.cell? ⟨w.heap.size, 1, none⟩ = some (.int .i64 n) := (res_at B' (j := 1) rfl).1
      have c2 : w1.cell? ⟨w.heap.size, 2, none⟩ = some (.string s) := (res_at B' (j := 2) rfl).1
      have c3 : w1.cell? ⟨w.heap.size, 3, none⟩ = some (.int .i64 a) := (res_at B' (j := 3) rfl).1
      have c4 : w1.cell? ⟨w.heap.size, 4, none⟩ = some (.int .i64 m) := (res_at B' (j := 4) rfl).1
      have hz1 : w.heap.size + 1 ≤ w1.heap.size := by simpa using B'.size
      have B1 := Lib.hid (res_below B')
      clear b1 B' HK
      go_wp2_with fail
      exact bodyPost_ret (v := .int .i64 14) (by simp [results, Tryz.results65, go_sem]) rfl ⟨rfl, B1.out⟩
  · obtain ⟨z1, z2⟩ := ne_int (a := (kd : Int)) (b := 0) (by omega)
    obtain ⟨y1, y2⟩ := eq_int h1
    have h3' : (a < 0) = False := by simp [h3]
    have h4' : (m < 0) = False := by simp [h4]
    obtain ⟨x1, x2⟩ := eq_int h5
    by_cases h2 : kd = 2
    · rw [if_pos h2] at hnum
      rw [← hnum] at HV
      obtain ⟨v1, v2⟩ := eq_int (a := (kd : Int)) (b := 2) (by omega)
      clear h2 hnum h h1 h3 h4 h5
      go_enter Tryz.func65, Tryz.ntmps65
      go_wp2_with fail
      refine (HK.out _ (HE.out _ ((Below.refl _ w).alloc (Nat.le_refl _) _))).mono ?_
      rintro e w1 ⟨rfl, b1⟩
      have B' := b1.mono (show w.heap.size + 1 ≤ _ by simp)
      have c0 : w1.cell? ⟨w.heap.size, 0, none⟩ = some (.int .i64 k) := (res_at B' (j := 0) rfl).1
      have c1 : w1.cell? ⟨w.heap.size, 1, none⟩ = some (.int .i64 n) := (res_at B' (j := 1) rfl).1
      have c2 : w1.cell? ⟨w.heap.size, 2, none⟩ = some (.string s) := (res_at B' (j := 2) rfl).1
      have c3 : w1.cell? ⟨w.heap.size, 3, none⟩ = some (.int .i64 a) := (res_at B' (j := 3) rfl).1
      have c4 : w1.cell? ⟨w.heap.size, 4, none⟩ = some (.int .i64 m) := (res_at B' (j := 4) rfl).1
      have hz1 : w.heap.size + 1 ≤ w1.heap.size := by simpa using B'.size
      have B1 := Lib.hid (res_below B')
      clear b1 B' HK
      go_wp2_with fail
      refine (HV.out _ (HE.out _ B1.out)).mono ?_
      rintro e w2 ⟨rfl, b2⟩
      have d1 : w2.cell? ⟨w.heap.size, 1, none⟩ = some (.int .i64 n) := (b2.cell (p := ⟨w.heap.size, 1, none⟩) hz1).trans c1
      have B2 := Lib.hid (B1.out.trans (b2.mono B1.out.size))
      clear b2 HV
      go_wp2_with fail
      exact bodyPost_ret (v := .int .i64 0) (by simp [results, Tryz.results65, go_sem]) rfl ⟨rfl, B2.out⟩
    · rw [if_neg h2] at hnum
      subst hnum
      obtain ⟨v1, v2⟩ := ne_int (a := (kd : Int)) (b := 2) (by omega)
      clear HV h2 h h1 h3 h4 h5
      go_enter Tryz.func65, Tryz.ntmps65
      go_wp2_with fail
      refine (HK.out _ (HE.out _ ((Below.refl _ w).alloc (Nat.le_refl _) _))).mono ?_
      rintro e w1 ⟨rfl, b1⟩
      have B' := b1.mono (show w.heap.size + 1 ≤ _ by simp)
      have c0 : w1.cell? ⟨w.heap.size, 0, none⟩ = some (.int .i64 k) := (res_at B' (j := 0) rfl).1
      have c1 : w1.cell? ⟨w.heap.size, 1, none⟩ = some (.int .i64 n) := (res_at B' (j := 1) rfl).1
      have c2 : w1.cell? ⟨w.heap.size, 2, none⟩ = some (.string s) := (res_at B' (j := 2) rfl).1
      have c3 : w1.cell? ⟨w.heap.size, 3, none⟩ = some (.int .i64 a) := (res_at B' (j := 3) rfl).1
      have c4 : w1.cell? ⟨w.heap.size, 4, none⟩ = some (.int .i64 m) := (res_at B' (j := 4) rfl).1
      have hz1 : w.heap.size + 1 ≤ w1.heap.size := by simpa using B'.size
      have B1 := Lib.hid (res_below B')
      clear b1 B' HK
      go_wp2_with fail
      exact bodyPost_ret (v := .int .i64 0) (by simp [results, Tryz.results65, go_sem]) rfl ⟨rfl, B1.out⟩
end

section
open Go.RowKit

/-- A world that keeps all that W has. -/
structure BW (W : World) where
  val : World
  prop : Below W.heap.size W val
instance bwNonempty (W : World) : Nonempty (BW W) := ⟨⟨W, Below.refl _ _⟩⟩
theorem BW.cell {W : World} (x : BW W) {p : Addr} {v : Value} (h : W.cell? p = some v) (hp : p.block < W.heap.size) : x.val.cell? p = some v := (x.prop.cell (p := p) hp).trans h
theorem BW.frozen {W : World} (x : BW W) {p : Addr} {b : Bool} (h : W.frozen? p = b) (hp : p.block < W.heap.size) : x.val.frozen? p = b := (x.prop.frozen (p := p) hp).trans h

theorem region_below {P : Program} {id : Nat} {Q : Exit → Act → World → Prop} {a : Act} {w : World} {l : List Oper} (hm : P.follows .mixedOrders = true) (hB : Region.lexB .any l.toArray = true)
    (h : wpQuiet P l.toArray (fun w' => ∃ x : BW w, w' = x.val) (fun a' => ∀ w', (∃ x : BW w, w' = x.val) → Q .normal a' w') l a) : (Code.region id l.toArray true).wp P Q a w :=
  wp_region_quiet (C := fun w' => ∃ x : BW w, w' = x.val) hm hB ⟨⟨_, (Below.refl _ w).drew⟩, rfl⟩ (by simpa using h)

/-- A callee's contract, met in a world of the class. -/
theorem calls_bw {P : Program} {f : FuncId} {args : Array Value} {W : World} {x : BW W} {v : Value} (h : Calls P f args x.val fun e w' => e = .returned v ∧ Below x.val.heap.size x.val w') :
    Calls P f args x.val fun e w'' => e = .returned v ∧ ∃ y : BW W, w'' = y.val :=
  h.mono fun _ w'' ⟨he, hb⟩ => ⟨he, ⟨w'', x.prop.trans (hb.mono x.prop.size)⟩, rfl⟩
end

end Go.Proofs.YtafncodigpjkaaaGreatDoor
