/-
  Update, of the program and of the reference, whatever it is asked: they answer the same.
  The law: Change and Update are as specified.
  A list of pieces that came in, opened to its cells.
-/
import Derived.Test.YtlkanfnhemjdcaaGreatDoorVC
import Derived.Test.YtlkanfnhemjdcaaGreatDoorXI
import Derived.Test.YtlkanfnhemjdcaaGreatDoorVB
import Derived.Test.YtlkanfnhemjdcaaGreatDoorXU
import Derived.Deep.Slices
import Derived.Carry
import Derived.SevenTiedAt
namespace Go.Proofs.YtlkanfnhemjdcaaGreatDoor
section
open Go.RowKit Go.Shelf

/-- What both answer: two rows of the same pieces, what was kept, a place and a number. -/
def UpdSame (v : Value) (t ins : ByteArray) (a d : Int) (li : List (Int × Int × Int)) : Prop :=
  ∃ (M : List (Nat × Nat × Nat)) (f k i c : Int), M.length ≤ 20000 ∧
    (∀ W, Env W → IRow W v li → Calls Tryz.prog 35 #[.string t, v, .agg #[.int .i64 a, .int .i64 d, .string ins]] W fun e w' =>
      ∃ v', e = .returned (.tuple #[v', .agg #[.int .i64 f, .int .i64 k], .int .i64 i, .int .i64 c]) ∧ RowIn w' v' M ∧ Below W.heap.size W w') ∧
    (∀ W, IRow W v li → Calls Tryz.prog 43 #[.string t, v, .agg #[.int .i64 a, .int .i64 d, .string ins]] W fun e w' =>
      ∃ (b : Option Addr) (n cp : Nat), e = .returned (.agg #[.slice b n cp, .int .i64 f, .int .i64 k, .int .i64 i, .int .i64 c]) ∧ RowIn w' (.slice b n cp) M ∧ Below W.heap.size W w')

theorem rowIn_nil (w : World) : RowIn w (.slice none 0 0) [] := ⟨none, 0, 0, rfl, Nat.le_refl _, fun h => absurd rfl h, fun h => absurd rfl h, fun h => absurd rfl h⟩
theorem UpdSame.no {v : Value} {t ins : ByteArray} {a d : Int} {li : List (Int × Int × Int)} (i c : Int)
    (h1 : ∀ W, Env W → IRow W v li → Calls Tryz.prog 35 #[.string t, v, .agg #[.int .i64 a, .int .i64 d, .string ins]] W (UpdIs i c W))
    (h2 : ∀ W, IRow W v li → Calls Tryz.prog 43 #[.string t, v, .agg #[.int .i64 a, .int .i64 d, .string ins]] W (RUpdIs i c W)) : UpdSame v t ins a d li :=
  ⟨[], 0, 0, i, c, by simp, fun W E hv => (h1 W E hv).mono fun e w' ⟨he, hb⟩ => ⟨_, he, rowIn_nil _, hb⟩, fun W hv => (h2 W hv).mono fun e w' ⟨he, hb⟩ => ⟨none, 0, 0, he, rowIn_nil _, hb⟩⟩

theorem piecesR_long {t : ByteArray} (h : 20000 < t.size) : piecesR t = ([], 0, 2) := by simp [piecesR, h]

theorem update_same (v : Value) (t ins : ByteArray) (a d : Int) (hins : ins.size ≤ 4611686018427387904) (li : List (Int × Int × Int)) : UpdSame v t ins a d li := by
  by_cases hok : (piecesR t).2.2 = 0
  · have hts := (pieces_ok hok).1
    by_cases hne : intsP (piecesR t).1 = li
    · subst hne
      by_cases hno : a < 0 ∨ (t.size : Int) < a ∨ d < 0 ∨ (t.size : Int) - a < d
      · exact .no 0 1 (fun W E hv => updO_arg v t ins a d hok hno W E hv) (fun W hv => rUpd_arg v t ins a d hok hno W hv)
      · obtain ⟨a', ha⟩ : ∃ a' : Nat, a = (a' : Int) := ⟨a.toNat, by omega⟩
        obtain ⟨d', hd⟩ : ∃ d' : Nat, d = (d' : Int) := ⟨d.toNat, by omega⟩
        subst ha hd
        have h : a' + d' ≤ t.size := by omega
        by_cases hr : (piecesR (spliceB t a' d' ins)).2.2 = 0
        · have hu := (pieces_ok hr).1
          refine ⟨(piecesR (spliceB t a' d' ins)).1, (frontN (piecesR t).1 (piecesR (spliceB t a' d' ins)).1 0 : Int), (backN (piecesR t).1 (piecesR (spliceB t a' d' ins)).1 (((spliceB t a' d' ins).size : Int) - (t.size : Int)) (frontN (piecesR t).1 (piecesR (spliceB t a' d' ins)).1 0) 0 : Int), 0, 0, pieces_len _, fun W E hv => (updO_ok v t ins a' d' h hok hu hr W E hv).mono ?_, fun W hv => (rUpd_ok v t ins a' d' h (by omega) hok hr W hv).mono ?_⟩
          · rintro e w' ⟨v', he, hrow, hb⟩
            exact ⟨v', he, RowIn.of_owns hrow, hb⟩
          · rintro e w' ⟨b, c, he, hrow, hb⟩
            exact ⟨b, _, c, he, hrow, hb⟩
        · by_cases hu : (spliceB t a' d' ins).size ≤ 20000
          · exact .no _ _ (fun W E hv => updO_bad v t ins a' d' h hok hu hr W E hv) (fun W hv => rUpd_bad v t ins a' d' h (by omega) hok hr W hv)
          · have hl := piecesR_long (t := spliceB t a' d' ins) (by omega)
            refine .no 0 2 (fun W E hv => updO_long v t ins a' d' h (by omega) hok (by omega) W E hv) (fun W hv => ?_)
            have := rUpd_bad v t ins a' d' h (by omega) hok hr W hv
            rw [hl] at this
            exact this
    · exact .no 0 15 (fun W E hv => updO_wrong v t ins a d hok li hne W E hv) (fun W hv => rUpd_wrong v t ins a d li hok hne W hv)
  · exact .no 0 15 (fun W E hv => updO_pieces v t ins a d hok W E) (fun W hv => rUpd_pieces v t ins a d hok W)

theorem eq_kept (a b : Int) (w : World) : (Op.equalIn 10000 55 (.agg #[.int .i64 a, .int .i64 b]) (.agg #[.int .i64 a, .int .i64 b])).run Tryz.prog w = .ok true w := by
  have u3 := Tryz.underlying3
  have a3 := Tryz.isAgg3
  have z3 := Tryz.sizeOf3
  have hS : Tryz.prog.underlying 55 = some (.struct (Tryz.prog.fieldsOf 55)) := by kernel_rfl
  rw [show (10000 : Nat) = 9999 + 1 from rfl, run_equalIn_agg w 9999 55 _ _ hS (by kernel_rfl)]
  simp only [Program.fieldsOf, Tryz.underlying55]
  go_simp
theorem guard_kept : Tryz.prog.eqGuardType Tryz.prog.depth 55 = false := by kernel_rfl
theorem run_eql_kept (a b : Int) (w : World) : (binOp .eql 55 (.agg #[.int .i64 a, .int .i64 b]) (.agg #[.int .i64 a, .int .i64 b])).run Tryz.prog w = .ok (.bool true) w := by
  rw [run_eql_struct, eq_kept]
  rfl
theorem run_guard_kept (op : BinOp) (x y : Operand) (xs ys : Array Value) (w : World) : (eqGuard op 55 x y (.agg xs) (.agg ys)).run Tryz.prog w = .ok () w := run_eqGuard_agg w op _ x y xs ys guard_kept
attribute [local go_sem 5000] run_eql_kept run_guard_kept

set_option maxHeartbeats 4000000 in
set_option maxRecDepth 100000 in
/-- The law's own `updates`. -/
theorem updates_any (v : Value) (t ins : ByteArray) (a d : Int) (hins : ins.size ≤ 4611686018427387904) (li : List (Int × Int × Int)) (w : World) (E : Env w) (hv : IRow w v li) :
    Calls Tryz.prog 16 #[.string t, v, .agg #[.int .i64 a, .int .i64 d, .string ins]] w fun e w' => e = .returned (.bool true) ∧ Below w.heap.size w w' := by
  obtain ⟨M, f, k, i, c, hM, h1, h2⟩ := update_same v t ins a d hins li
  have H1 := Lib.hid h1; have H2 := Lib.hid h2
  have HE := Lib.hid (fun (W : World) (h : Below w.heap.size w W) => E.below E.size h)
  have HV := Lib.hid (fun W (h : Below w.heap.size w W) => hv.below h)
  clear h1 h2 hv E
  have HC := Lib.hid (fun v0 v W h0 h => rSame_rows v0 v M (by omega) W h0 h)
  go_enter Tryz.func16, Tryz.ntmps16
  go_wp2_with fail
  refine (H1.out _ (HE.out _ ((Below.refl _ w).alloc (Nat.le_refl _) _)) (HV.out _ ((Below.refl _ w).alloc (Nat.le_refl _) _))).mono ?_
  rintro e w1 ⟨v1, rfl, r1, b1⟩
  have hz1 := b1.size
  simp only [World.size_alloc] at hz1
  have B1 := ((Below.refl _ w).alloc (Nat.le_refl _) (.cells #[.int .i64 a, .int .i64 d, .string ins] 40)).trans (b1.mono (by simp))
  have hk1 : ∀ X j v, (w.alloc (.cells #[.int .i64 a, .int .i64 d, .string ins] 40)).cell? ⟨w.heap.size, j, none⟩ = some v → (w1.alloc X).cell? ⟨w.heap.size, j, none⟩ = some v := fun X j v h =>
    (((Below.refl _ w1).alloc (Nat.le_refl _) X).cell (p := ⟨w.heap.size, j, none⟩) (show w.heap.size < w1.heap.size by omega)).trans ((b1.cell (p := ⟨w.heap.size, j, none⟩) (by simp)).trans h)
  have c0 : ∀ X, (w1.alloc X).cell? ⟨w.heap.size, 0, none⟩ = some (.int .i64 a) := fun X => hk1 X 0 _ (by simp)
  have c1 : ∀ X, (w1.alloc X).cell? ⟨w.heap.size, 1, none⟩ = some (.int .i64 d) := fun X => hk1 X 1 _ (by simp)
  have c2 : ∀ X, (w1.alloc X).cell? ⟨w.heap.size, 2, none⟩ = some (.string ins) := fun X => hk1 X 2 _ (by simp)
  have HB1 := Lib.hid B1; have R1 := Lib.hid r1
  clear hk1 B1 r1 b1
  go_wp2_with fail
  refine (H2.out _ (HV.out _ (HB1.out.alloc HB1.out.size _))).mono ?_
  rintro e w2 ⟨x1, x2, x3, rfl, r2, b2⟩
  have hz2 := b2.size
  simp only [World.size_alloc] at hz2
  have hk2 : ∀ X j v, (w1.alloc (.cells #[.int .i64 f, .int .i64 k] 55)).cell? ⟨w1.heap.size, j, none⟩ = some v → (w2.alloc X).cell? ⟨w1.heap.size, j, none⟩ = some v := fun X j v h =>
    (((Below.refl _ w2).alloc (Nat.le_refl _) X).cell (p := ⟨w1.heap.size, j, none⟩) (show w1.heap.size < w2.heap.size by omega)).trans ((b2.cell (p := ⟨w1.heap.size, j, none⟩) (by simp)).trans h)
  have d0 : ∀ X, (w2.alloc X).cell? ⟨w1.heap.size, 0, none⟩ = some (.int .i64 f) := fun X => hk2 X 0 _ (by simp)
  have d1 : ∀ X, (w2.alloc X).cell? ⟨w1.heap.size, 1, none⟩ = some (.int .i64 k) := fun X => hk2 X 1 _ (by simp)
  have B12 := ((Below.refl _ w1).alloc (Nat.le_refl _) (.cells #[.int .i64 f, .int .i64 k] 55)).trans (b2.mono (by simp))
  have HB2 := Lib.hid (HB1.out.trans (B12.mono HB1.out.size))
  have R12 := Lib.hid (R1.out.below B12); have R2 := Lib.hid r2
  clear hk2 r2 b2 B12 HB1 R1 c0 c1 c2 H1 H2
  go_wp2_with (go_at_call 12; refine (HC.out _ _ _ (R12.out.below ((Below.refl _ w2).alloc (Nat.le_refl _) _)) (R2.out.below ((Below.refl _ w2).alloc (Nat.le_refl _) _))).mono ?_; rintro e w3 ⟨rfl, b3⟩; have B3 := Lib.hid ((HB2.out.alloc HB2.out.size _).trans (b3.mono (HB2.out.alloc HB2.out.size _).size)); clear b3)
  exact bodyPost_ret (v := .bool true) (by simp [results, Tryz.results16, go_sem]) rfl ⟨rfl, B3.out⟩
end

section
open Go.RowKit Go.Shelf

theorem change_same (t ins : ByteArray) (a d : Int) (hi : t.size + ins.size ≤ 9223372036854775807) : ∃ (r : ByteArray) (c : Int),
    (∀ W, Calls Tryz.prog 14 #[.string t, .agg #[.int .i64 a, .int .i64 d, .string ins]] W fun e w' => e = .returned (.tuple #[.string r, .int .i64 c]) ∧ Below W.heap.size W w') ∧
    (∀ W, Calls Tryz.prog 15 #[.string t, .agg #[.int .i64 a, .int .i64 d, .string ins]] W fun e w' => e = .returned (.tuple #[.string r, .int .i64 c]) ∧ Below W.heap.size W w') := by
  by_cases hno : a < 0 ∨ (t.size : Int) < a ∨ d < 0 ∨ (t.size : Int) - a < d
  · exact ⟨_, _, fun W => change_no t ins a d hno (by omega) W, fun W => rChange_no t ins a d hno (by omega) W⟩
  · obtain ⟨a', ha⟩ : ∃ a' : Nat, a = (a' : Int) := ⟨a.toNat, by omega⟩
    obtain ⟨d', hd⟩ : ∃ d' : Nat, d = (d' : Int) := ⟨d.toNat, by omega⟩
    subst ha hd
    exact ⟨_, _, fun W => change_ok t ins a' d' (by omega) hi W, fun W => rChange_ok t ins a' d' (by omega) hi W⟩

theorem sp_cells {w W : World} {x0 x1 x2 : Value} {ty : TypeId} (h : Below (w.heap.size + 1) (w.alloc (.cells #[x0, x1, x2] ty)) W) :
    W.cell? ⟨w.heap.size, 0, none⟩ = some x0 ∧ W.cell? ⟨w.heap.size, 1, none⟩ = some x1 ∧ W.cell? ⟨w.heap.size, 2, none⟩ = some x2 ∧ Below w.heap.size w W :=
  ⟨(h.cell (p := ⟨w.heap.size, 0, none⟩) (Nat.lt_succ_self _)).trans (by simp), (h.cell (p := ⟨w.heap.size, 1, none⟩) (Nat.lt_succ_self _)).trans (by simp), (h.cell (p := ⟨w.heap.size, 2, none⟩) (Nat.lt_succ_self _)).trans (by simp),
    ((Below.refl _ w).alloc (Nat.le_refl _) _).trans (h.mono (by omega))⟩

theorem sp_trans {w W W' : World} {o : Obj} (h : Below (w.heap.size + 1) (w.alloc o) W) (b : Below W.heap.size W W') : Below (w.heap.size + 1) (w.alloc o) W' :=
  h.trans (b.mono (by have := h.size; simp at this; omega))
theorem sp_alloc {w W : World} {o : Obj} (h : Below (w.heap.size + 1) (w.alloc o) W) (x : Obj) : Below (w.heap.size + 1) (w.alloc o) (W.alloc x) :=
  h.alloc (by have := h.size; simp at this; omega) x

set_option maxHeartbeats 8000000 in
set_option maxRecDepth 100000 in
theorem lexUpdates_any (v : Value) (t ins : ByteArray) (a d : Int) (ht : t.size ≤ 4611686018427387903) (hins : ins.size ≤ 4611686018427387904) (li : List (Int × Int × Int)) (w : World) (E : Env w) (hv : IRow w v li) :
    Calls Tryz.prog 4 #[.string t, v, .agg #[.int .i64 a, .int .i64 d, .string ins]] w fun e w' => e = .returned (.bool true) ∧ Below w.heap.size w w' := by
  obtain ⟨r, c, h1, h2⟩ := change_same t ins a d (by omega)
  have H1 := Lib.hid h1; have H2 := Lib.hid h2
  have HS := Lib.hid (fun W E => sane_any W E)
  have HE := Lib.hid (fun (W : World) (h : Below w.heap.size w W) => E.below E.size h)
  have HV := Lib.hid (fun W (h : Below w.heap.size w W) => hv.below h)
  have HU := Lib.hid (fun v li W E hv => updates_any v t ins a d hins li W E hv)
  have HQ := Lib.hid (rPieces_rows t)
  obtain ⟨pc, hpc⟩ : ∃ c, c = (piecesR t).2.2 := ⟨_, rfl⟩
  obtain ⟨pi, hpi⟩ : ∃ c, c = (piecesR t).2.1 := ⟨_, rfl⟩
  obtain ⟨L, hL⟩ : ∃ c, c = (piecesR t).1 := ⟨_, rfl⟩
  rw [← hpc, ← hpi, ← hL] at HQ
  clear h1 h2 hv E hpc hpi hL
  have HP : Hid (∀ W, Below (w.heap.size + 1) (w.alloc (.cells #[.int .i64 a, .int .i64 d, .string ins] 40)) W → W.cell? ⟨w.heap.size, 0, none⟩ = some (.int .i64 a) ∧ W.cell? ⟨w.heap.size, 1, none⟩ = some (.int .i64 d) ∧ W.cell? ⟨w.heap.size, 2, none⟩ = some (.string ins) ∧ Below w.heap.size w W) := Lib.hid (fun W h => sp_cells h)
  go_enter Tryz.func4, Tryz.ntmps4
  go_wp2_with fail
  refine (HS.out _ (HE.out _ ((Below.refl _ w).alloc (Nat.le_refl _) _))).mono ?_
  rintro e w1 ⟨rfl, b1⟩
  have B1 := Lib.hid (b1.mono (B' := w.heap.size + 1) (by simp))
  obtain ⟨c0, c1, c2, D1⟩ := HP.out _ B1.out
  have D1 := Lib.hid D1
  clear b1 HS
  go_wp2_with fail
  refine (H1.out _).mono ?_
  rintro e w2 ⟨rfl, b2⟩
  have B2 := Lib.hid (sp_trans B1.out b2)
  clear c0 c1 c2 D1 B1 b2 H1
  obtain ⟨c0, c1, c2, D2⟩ := HP.out _ B2.out
  have D2 := Lib.hid D2
  go_wp2_with fail
  refine (H2.out _).mono ?_
  rintro e w3 ⟨rfl, b3⟩
  have B3 := Lib.hid (sp_trans B2.out b3)
  clear c0 c1 c2 D2 B2 b3 H2
  obtain ⟨c0, c1, c2, D3⟩ := HP.out _ B3.out
  have D3 := Lib.hid D3
  go_wp2_with fail
  refine (HU.out _ _ _ (HE.out _ D3.out) (HV.out _ D3.out)).mono ?_
  rintro e w4 ⟨rfl, b4⟩
  have B4 := Lib.hid (sp_trans B3.out b4)
  clear c0 c1 c2 D3 B3 b4 HV
  go_wp2_with fail
  refine (HQ.out _).mono ?_
  rintro e w5 ⟨x1, x2, rfl, r5, b5⟩
  have B5 := Lib.hid (sp_trans B4.out b5)
  have R5 := Lib.hid r5
  clear B4 b5 HQ r5
  have hc : ∀ X, _ := fun X => HP.out _ (sp_alloc B5.out X)
  have c0 := fun X => (hc X).1
  have c1 := fun X => (hc X).2.1
  have c2 := fun X => (hc X).2.2.1
  have D5 := Lib.hid (fun X => (hc X).2.2.2)
  have HR := Lib.hid (fun X => IRow.of_row (R5.out.below ((Below.refl _ w5).alloc (Nat.le_refl _) X)))
  clear hc
  by_cases hz : pc = 0
  · subst hz
    go_wp2_with fail
    trace_state
    refine (HU.out _ _ _ (HE.out _ (D5.out _)) (HR.out _)).mono ?_
    rintro e w6 ⟨rfl, b6⟩
    have B6 := Lib.hid ((D5.out _).trans (b6.mono (D5.out _).size))
    go_wp2_with fail
    exact bodyPost_ret (v := .bool true) (by simp [results, Tryz.results4, go_sem]) rfl ⟨rfl, B6.out⟩
  · have hz' : ((pc : Int) != 0) = true := by rw [bne_iff_ne]; omega
    go_wp2_with fail
    trace_state
    exact bodyPost_ret (v := .bool true) (by simp [results, Tryz.results4, go_sem]) rfl ⟨rfl, D5.out _⟩
end

section
open Go.ChangeShapes Go.WideShapes Go.ChangeAt Go.RowKit Go.WideMaps Go.ChangeMaps Go.Deep

theorem cellsPc : Tryz.prog.cellsOf 59 = 3 := by kernel_rfl
theorem bytesPc : Tryz.prog.bytesOf 59 = 24 := by kernel_rfl
theorem laidOutPc : laidOutB Tryz.prog = true := by kernel_rfl
theorem fieldsPc : (Tryz.prog.fieldsOf 59).toList.map (fun f => (f.type, f.offset)) = [(3, 0), (3, 1), (3, 2)] := by kernel_rfl
theorem cellsInt1 : Tryz.prog.cellsOf 3 = 1 := by kernel_rfl

section
variable {H : Type} {enc : TypeId × Value → H} {W : World}

theorem three_of {α : Type} {l : List α} (h : l.length = 3) : ∃ a b c, l = [a, b, c] := by
  rcases l with _ | ⟨a, _ | ⟨b, _ | ⟨c, _ | ⟨d, l⟩⟩⟩⟩ <;> simp at h
  exact ⟨a, b, c, rfl⟩
set_option maxRecDepth 100000 in
/-- Three cells that read as a piece are a piece's. -/
theorem pc_open {n : Nat} {cs : List Value} {x : DataW H × List MemPlace} (h : DataW.trod enc Tryz.prog W 0 (fun _ => true) true n 59 cs = some x) :
    ∃ y : Int × Int × Int, cs = [.int .i64 y.1, .int .i64 y.2.1, .int .i64 y.2.2] := by
  have hS : Tryz.prog.underlying 59 = some (.struct (Tryz.prog.fieldsOf 59)) := by kernel_rfl
  obtain ⟨xs, m, _, hx, hl, hxl, hf⟩ := DataW.trod_struct hS h
  have hF := fieldsPc
  generalize Tryz.prog.fieldsOf 59 = fs at hF hxl hf
  rw [cellsPc] at hl
  obtain ⟨l⟩ := fs
  obtain ⟨f0, f1, f2, rfl⟩ := three_of (l := l) (by have := congrArg List.length hF; simpa using this)
  simp only [List.map_cons, List.map_nil, List.cons.injEq, Prod.mk.injEq, and_true] at hF
  obtain ⟨⟨a0, b0⟩, ⟨a1, b1⟩, a2, b2⟩ := hF
  obtain ⟨c0, c1, c2, rfl⟩ := three_of hl
  obtain ⟨x0, x1, x2, rfl⟩ := three_of (l := xs) (by rw [hxl]; rfl)
  have g0 := hf 0 f0 rfl
  have g1 := hf 1 f1 rfl
  have g2 := hf 2 f2 rfl
  rw [a0, b0, cellsInt1] at g0
  rw [a1, b1, cellsInt1] at g1
  rw [a2, b2, cellsInt1] at g2
  simp only [List.drop_zero, List.take_succ_cons, List.take_zero, List.drop_succ_cons, List.getElem?_cons_zero, List.getElem?_cons_succ] at g0 g1 g2
  obtain ⟨k, e0, _, _⟩ := DataW.trod_int Tryz.underlying3 g0
  obtain ⟨q, e1, _, _⟩ := DataW.trod_int Tryz.underlying3 g1
  obtain ⟨s, e2, _, _⟩ := DataW.trod_int Tryz.underlying3 g2
  simp only [List.cons.injEq, and_true] at e0 e1 e2
  subst e0 e1 e2
  exact ⟨(k, q, s), rfl⟩

theorem add_offP (g o n : Nat) : (⟨g, o, none⟩ : Addr).add n = ⟨g, o + n, none⟩ := by unfold Addr.add; split <;> simp_all
theorem choose_pc {n : Nat} {p : Nat → Int × Int × Int → Prop} (h : ∀ i, i < n → ∃ y, p i y) : ∃ f : Nat → Int × Int × Int, ∀ i, i < n → p i (f i) := by
  refine ⟨fun i => if hi : i < n then Classical.choose (h i hi) else (0, 0, 0), fun i hi => ?_⟩
  simp only [hi, dif_pos]
  exact Classical.choose_spec (h i hi)
theorem flatI_len (l : List (Int × Int × Int)) : (flatI l).length = l.length * 3 := by
  induction l with
  | nil => rfl
  | cons x l ih =>
    have hc : flatI (x :: l) = [Value.int .i64 x.1, .int .i64 x.2.1, .int .i64 x.2.2] ++ flatI l := rfl
    rw [hc, List.length_append, ih]
    simp
    omega
theorem ints_of {g o : Nat} {l : List (Int × Int × Int)} (h : ∀ i x, l[i]? = some x → W.cell? ⟨g, o + i * 3, none⟩ = some (.int .i64 x.1) ∧ W.cell? ⟨g, o + i * 3 + 1, none⟩ = some (.int .i64 x.2.1) ∧ W.cell? ⟨g, o + i * 3 + 2, none⟩ = some (.int .i64 x.2.2)) : IntsO W g o l := by
  intro j u hu
  have hj := (List.getElem?_eq_some_iff.1 hu).1
  rw [flatI_len] at hj
  obtain ⟨i, r, hr, rfl⟩ : ∃ i r, r < 3 ∧ j = i * 3 + r := ⟨j / 3, j % 3, Nat.mod_lt _ (by omega), by omega⟩
  obtain ⟨x, hx⟩ : ∃ x, l[i]? = some x := ⟨_, List.getElem?_eq_getElem (by omega)⟩
  have hg := flatI_get l i r x hx hr
  rw [hu] at hg
  obtain ⟨h0, h1, h2⟩ := h i x hx
  have h3 : r = 0 ∨ r = 1 ∨ r = 2 := by omega
  rcases h3 with rfl | rfl | rfl
  · obtain rfl := Option.some.inj hg; exact h0
  · obtain rfl := Option.some.inj hg; exact h1
  · obtain rfl := Option.some.inj hg; exact h2

set_option maxRecDepth 100000 in
/-- A list of pieces that came in. -/
theorem pcs_open {base : Nat} {v : Value} {d : DataW H} {p : List MemPlace} (hv : Value.okWide Tryz.prog W .any base 23 v) (h : DataW.Trod enc Tryz.prog W 0 (fun _ => true) true 23 v d p) :
    ∃ l : List (Int × Int × Int), IRow W v l := by
  obtain ⟨b, len, cap, rfl⟩ := okWide_slice Tryz.underlying23 hv
  obtain ⟨fuel, h⟩ := h
  rcases open_slice Tryz.underlying23 h with ⟨hc, hx⟩ | ⟨a, len', cap', m, n, D, Pl, hc, _, hl, hm, hmm, hx, hel⟩
  · simp [Value.cells] at hc
    obtain ⟨rfl, rfl, rfl⟩ := hc
    exact ⟨[], none, 0, 0, 0, rfl, Nat.le_refl _, fun h => absurd rfl h⟩
  · simp [Value.cells] at hc
    obtain ⟨rfl, rfl, rfl⟩ := hc
    simp only [if_true] at hmm
    subst hmm
    rw [cellsPc] at hel
    obtain ⟨f, hf⟩ := choose_pc (n := m) (p := fun i y => ∀ j u, j < 3 → [Value.int .i64 y.1, .int .i64 y.2.1, .int .i64 y.2.2][j]? = some u → W.cell? ((a.add (i * 3)).add j) = some u) (fun i hi => by
      obtain ⟨cs', h1, h2⟩ := hel i hi
      obtain ⟨y, e1⟩ := pc_open h2
      obtain ⟨_, _, h3⟩ := World.cells?_some h1
      refine ⟨y, fun j u hj hu => ?_⟩
      rw [h3 j hj, e1]
      exact hu)
    refine ⟨(List.range len).map f, ?_⟩
    by_cases h0 : len = 0
    · subst h0
      exact ⟨some a, m, 0, 0, rfl, Nat.zero_le _, fun h => absurd rfl h⟩
    · have c0 := hf 0 (by omega) 0 _ (by omega) rfl
      obtain ⟨g, o, spot⟩ := a
      have hspot : spot = none := by simpa [Addr.add] using World.cell?_spot c0
      subst hspot
      refine ⟨some ⟨g, o, none⟩, m, g, o, by rw [List.length_map, List.length_range], by rw [List.length_map, List.length_range]; omega, fun _ => ⟨rfl, by have := World.block_lt_of_cell? W _ c0; rw [add_offP, add_offP] at this; exact this, ints_of fun i x hi => ?_⟩⟩
      have hil : i < len := by have := (List.getElem?_eq_some_iff.1 hi).1; simpa using this
      rw [List.getElem?_map, List.getElem?_range hil] at hi
      simp only [Option.map_some, Option.some.injEq] at hi
      subst hi
      have hc := hf i (by omega)
      rw [add_offP] at hc
      exact ⟨by simpa [add_offP] using hc 0 _ (by omega) rfl, by simpa [add_offP] using hc 1 _ (by omega) rfl, by simpa [add_offP] using hc 2 _ (by omega) rfl⟩
end
end

end Go.Proofs.YtlkanfnhemjdcaaGreatDoor
