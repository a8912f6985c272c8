/-
  The law: a splice and the one that undoes it.
-/
import Derived.Test.YtnhmcfliepkfeaaDoorSA
import Derived.Test.YtnhmcfliepkfeaaDoorUP2
import Derived.Test.YtnhmcfliepkfeaaDoorMX
import Derived.Test.YtnhmcfliepkfeaaDoorRM
namespace Go.Proofs.YtnhmcfliepkfeaaDoor
open Go.RowKit Go.Shelf

theorem samePieces_same (v0 v : Value) (l : List (Nat × Nat × Nat)) (hl : l.length ≤ 1048576) (w : World) (h0 : RowIn w v0 l) (h : RowIn w v l) :
    Calls Tryd.prog 21 #[v0, v] w fun e w' => e = .returned (.bool true) ∧ Below w.heap.size w w' := by
  obtain ⟨b0, c0, g0, rfl, _, I0⟩ := h0
  obtain ⟨b1, c1, g1, rfl, _, I1⟩ := h
  by_cases hne : l = []
  · subst hne
    exact samePieces_none b0 b1 c0 c1 w
  · have e0 := I0.addr hne
    have e1 := I1.addr hne
    subst e0 e1
    have hlen : (intsP l).length = l.length := by simp [intsP]
    have := samePieces_some g0 g1 c0 c1 (intsP l) (intsP l) rfl (by omega) w (I0.low hne) (I1.low hne) (fun j u hu => I0.cells hne j u (by rw [← flatI_intsP]; exact hu)) (fun j u hu => I1.cells hne j u (by rw [← flatI_intsP]; exact hu))
    rw [hlen] at this
    simpa using this

set_option maxHeartbeats 4000000 in
set_option maxRecDepth 100000 in
theorem undone_bad (t ins : ByteArray) (a d : Int) (hno : a < 0 ∨ (t.size : Int) < a ∨ d < 0 ∨ (t.size : Int) - a < d) (ht : t.size ≤ 4611686018427387904) (w : World) (E : Env w) :
    Calls Tryd.prog 8 #[.string t, .agg #[.int .i64 a, .int .i64 d, .string ins]] w fun e w' => e = .returned (.bool true) ∧ Below w.heap.size w w' := by
  have HS := Lib.hid (fun W E => sane_any W E)
  have HC := Lib.hid (fun W => change_no t ins a d hno (by omega) W)
  have HE := Lib.hid (fun (W : World) (h : Below w.heap.size w W) => E.below E.size h)
  clear hno E
  go_enter Tryd.func8, Tryd.ntmps8
  go_wp2_with fail
  have bA := (Below.refl _ w).alloc (Nat.le_refl _) (.cells #[.int .i64 a, .int .i64 d, .string ins] 41)
  have HBA := Lib.hid bA
  refine (HS.out _ (HE.out _ HBA.out)).mono ?_
  rintro e w1 ⟨rfl, b1⟩
  have c0 : w1.cell? ⟨w.heap.size, 0, none⟩ = some (.int .i64 a) := (b1.cell (p := ⟨w.heap.size, 0, none⟩) (by simp)).trans (by simp)
  have c1 : w1.cell? ⟨w.heap.size, 1, none⟩ = some (.int .i64 d) := (b1.cell (p := ⟨w.heap.size, 1, none⟩) (by simp)).trans (by simp)
  have c2 : w1.cell? ⟨w.heap.size, 2, none⟩ = some (.string ins) := (b1.cell (p := ⟨w.heap.size, 2, none⟩) (by simp)).trans (by simp)
  have hz1 := b1.size
  simp only [World.size_alloc] at hz1
  have B1 := Lib.hid (HBA.out.trans (b1.mono (by simp)))
  clear b1 bA HS HBA
  go_wp2_with fail
  refine (HC.out _).mono ?_
  rintro e w2 ⟨rfl, b2⟩
  have B2 := Lib.hid (B1.out.trans (b2.mono B1.out.size))
  clear b2 B1 HC c0 c1 c2
  go_wp2_with fail
  exact bodyPost_ret (v := .bool true) (by simp [results, Tryd.results8, go_sem]) rfl ⟨rfl, B2.out⟩


set_option maxHeartbeats 4000000 in
set_option maxRecDepth 100000 in
theorem undone_no (t ins : ByteArray) (a d : Nat) (h : a + d ≤ t.size) (hsz : t.size + ins.size + t.size ≤ 4611686018427387904) (w : World) (E : Env w)
    (hno : ∀ (v : Value) (W : World), Env W → ((piecesR t).2.2 = 0 → RowIn W v (piecesR t).1) → Calls Tryd.prog 20 #[.string t, v, .agg #[.int .i64 (a : Int), .int .i64 (d : Int), .string ins]] W (UpdNo W)) :
    Calls Tryd.prog 8 #[.string t, .agg #[.int .i64 (a : Int), .int .i64 (d : Int), .string ins]] w fun e w' => e = .returned (.bool true) ∧ Below w.heap.size w w' := by
  have hsu := splice_size t ins a d h
  have hun := splice_undo t ins a d h
  have HS := Lib.hid (fun W E => sane_any W E)
  have hch := fun W => change_ok t ins a d h (by omega) W
  have hse : (t.extract a (a + d)).size = d := by rw [ByteArray.size_extract]; omega
  obtain ⟨u, hue⟩ : ∃ u, u = spliceB t a d ins := ⟨_, rfl⟩
  obtain ⟨cut, hcut⟩ : ∃ cut, cut = t.extract a (a + d) := ⟨_, rfl⟩
  have hus : u.size = t.size + ins.size - d := by rw [hue]; exact hsu
  rw [← hue, ← hcut] at hun
  rw [← hue] at hch
  rw [← hcut] at hse
  have hch2 := fun W => change_ok u cut a ins.size (by omega) (by omega) W
  rw [hun] at hch2
  have hp := fun W E => pieces_all t W E
  unfold PiecesEnd at hp
  obtain ⟨c, hc⟩ : ∃ c, c = (piecesR t).2.2 := ⟨_, rfl⟩
  rw [← hc] at hp
  have HE := Lib.hid (fun (W : World) (h : Below w.heap.size w W) => E.below E.size h)
  have HU := Lib.hid hno; have HCH := Lib.hid hch; have HCH2 := Lib.hid hch2; have HP := Lib.hid hp; have HC := Lib.hid hc; have HCUT := Lib.hid hcut
  have wad : IntKind.i64.wrap ((a : Int) + (d : Int)) = (a : Int) + (d : Int) := IntWalk.i64_in _ (by omega)
  have s1 : (a : Int) ≤ (a : Int) + (d : Int) := by omega
  have s2 : (a : Int) + (d : Int) ≤ (t.size : Int) := by omega
  have s3 : ((a : Int) + (d : Int)).toNat = a + d := by omega
  clear E hno hch hch2 hp hc hsu hun hue hus hse hcut
  go_enter Tryd.func8, Tryd.ntmps8
  go_wp2_with fail
  have bA := (Below.refl _ w).alloc (Nat.le_refl _) (.cells #[.int .i64 (a : Int), .int .i64 (d : Int), .string ins] 41)
  have HBA := Lib.hid bA
  refine (HS.out _ (HE.out _ HBA.out)).mono ?_
  rintro e w1 ⟨rfl, b1⟩
  have c0 : w1.cell? ⟨w.heap.size, 0, none⟩ = some (.int .i64 (a : Int)) := (b1.cell (p := ⟨w.heap.size, 0, none⟩) (by simp)).trans (by simp)
  have c1 : w1.cell? ⟨w.heap.size, 1, none⟩ = some (.int .i64 (d : Int)) := (b1.cell (p := ⟨w.heap.size, 1, none⟩) (by simp)).trans (by simp)
  have c2 : w1.cell? ⟨w.heap.size, 2, none⟩ = some (.string ins) := (b1.cell (p := ⟨w.heap.size, 2, none⟩) (by simp)).trans (by simp)
  have hz1 := b1.size
  simp only [World.size_alloc] at hz1
  have B1 := Lib.hid (HBA.out.trans (b1.mono (by simp)))
  clear b1 bA HS HBA
  go_wp2_with fail
  refine (HCH.out _).mono ?_
  rintro e w2 ⟨rfl, b2⟩
  have d0 : w2.cell? ⟨w.heap.size, 0, none⟩ = some (.int .i64 (a : Int)) := (b2.cell (p := ⟨w.heap.size, 0, none⟩) (by simp; omega)).trans c0
  have d1 : w2.cell? ⟨w.heap.size, 1, none⟩ = some (.int .i64 (d : Int)) := (b2.cell (p := ⟨w.heap.size, 1, none⟩) (by simp; omega)).trans c1
  have d2 : w2.cell? ⟨w.heap.size, 2, none⟩ = some (.string ins) := (b2.cell (p := ⟨w.heap.size, 2, none⟩) (by simp; omega)).trans c2
  have hz2 := b2.size
  have B2 := Lib.hid (B1.out.trans (b2.mono B1.out.size))
  clear b2 B1 HCH c0 c1 c2
  go_wp2_with fail
  go_region_held3 (fun w' => w'.cell? ⟨w.heap.size, 0, none⟩ = some (.int .i64 (a : Int)) ∧ w'.cell? ⟨w.heap.size, 1, none⟩ = some (.int .i64 (d : Int)) ∧ w'.cell? ⟨w.heap.size, 2, none⟩ = some (.string ins)) (go_keep) (fail)
  all_goals go_wp2_with fail
  obtain rfl := HCUT.out
  have hb3 := ((Below.refl _ w2).alloc (Nat.le_refl _) (.cells #[.int .i64 (a : Int), .int .i64 (ins.size : Int), .string (t.extract a (a + d))] 41)).drew
  refine (HCH2.out _).mono ?_
  rintro e w4 ⟨rfl, b4⟩
  have hz4 := b4.size
  simp only [World.size_drew, World.size_alloc] at hz4
  have f0 : w4.cell? ⟨w.heap.size, 0, none⟩ = some (.int .i64 (a : Int)) := (b4.cell (p := ⟨w.heap.size, 0, none⟩) (by simp; omega)).trans ((hb3.cell (p := ⟨w.heap.size, 0, none⟩) (by simp; omega)).trans d0)
  have f1 : w4.cell? ⟨w.heap.size, 1, none⟩ = some (.int .i64 (d : Int)) := (b4.cell (p := ⟨w.heap.size, 1, none⟩) (by simp; omega)).trans ((hb3.cell (p := ⟨w.heap.size, 1, none⟩) (by simp; omega)).trans d1)
  have f2 : w4.cell? ⟨w.heap.size, 2, none⟩ = some (.string ins) := (b4.cell (p := ⟨w.heap.size, 2, none⟩) (by simp; omega)).trans ((hb3.cell (p := ⟨w.heap.size, 2, none⟩) (by simp; omega)).trans d2)
  have B3 := B2.out.trans (hb3.mono B2.out.size)
  have B4 := Lib.hid (B3.trans (b4.mono B3.size))
  clear b4 B3 hb3 B2 HCH2 d0 d1 d2
  go_wp2_with fail
  refine (HP.out _ (HE.out _ B4.out)).mono ?_
  rintro e w5 ⟨v, rfl, hrow, b5⟩
  have d0 : w5.cell? ⟨w.heap.size, 0, none⟩ = some (.int .i64 (a : Int)) := (b5.cell (p := ⟨w.heap.size, 0, none⟩) (by simp; omega)).trans f0
  have d1 : w5.cell? ⟨w.heap.size, 1, none⟩ = some (.int .i64 (d : Int)) := (b5.cell (p := ⟨w.heap.size, 1, none⟩) (by simp; omega)).trans f1
  have d2 : w5.cell? ⟨w.heap.size, 2, none⟩ = some (.string ins) := (b5.cell (p := ⟨w.heap.size, 2, none⟩) (by simp; omega)).trans f2
  have B5 := Lib.hid (B4.out.trans (b5.mono B4.out.size))
  have RV := Lib.hid (RowIn.of_owns hrow)
  clear b5 HP hrow B4 f0 f1 f2
  go_wp2_with fail
  refine (HU.out v _ (HE.out _ B5.out) (fun _ => RV.out)).mono ?_
  rintro e w6 ⟨i, f, rfl, hf, b6⟩
  have B6 := Lib.hid (B5.out.trans (b6.mono B5.out.size))
  have hfn : (f != 0) = true := by rw [bne_iff_ne]; exact hf
  clear b6 B5 HU HE RV HC hf d0 d1 d2
  by_cases h0 : c = 0
  · have hcn : ((c : Int) != 0) = false := by rw [h0]; rfl
    clear h0
    go_wp2_with fail
    exact bodyPost_ret (v := .bool true) (by simp [results, Tryd.results8, go_sem]) rfl ⟨rfl, B6.out.alloc B6.out.size _⟩
  · have hcn : ((c : Int) != 0) = true := by rw [bne_iff_ne]; omega
    clear h0
    go_wp2_with fail
    exact bodyPost_ret (v := .bool true) (by simp [results, Tryd.results8, go_sem]) rfl ⟨rfl, B6.out.alloc B6.out.size _⟩

set_option maxHeartbeats 4000000 in
set_option maxRecDepth 100000 in
theorem undone_ok (t ins : ByteArray) (a d : Nat) (h : a + d ≤ t.size) (hins : ins.size ≤ 4611686018427387904) (hok : (piecesR t).2.2 = 0) (hu : (spliceB t a d ins).size ≤ 20000) (hr : (piecesR (spliceB t a d ins)).2.2 = 0) (w : World) (E : Env w) :
    Calls Tryd.prog 8 #[.string t, .agg #[.int .i64 (a : Int), .int .i64 (d : Int), .string ins]] w fun e w' => e = .returned (.bool true) ∧ Below w.heap.size w w' := by
  obtain ⟨hts, hat, _, opT, cT, hst⟩ := pieces_ok hok
  have hlen := (steps_bounds _ _ _ _ _ hst (by omega)).1
  simp only at hlen
  have hsu := splice_size t ins a d h
  have hun := splice_undo t ins a d h
  have HS := Lib.hid (fun W E => sane_any W E)
  have hch := fun W => change_ok t ins a d h (by omega) W
  have hse : (t.extract a (a + d)).size = d := by rw [ByteArray.size_extract]; omega
  have hup1 : ∀ v W, Env W → RowIn W v (piecesR t).1 → Calls Tryd.prog 20 #[.string t, v, .agg #[.int .i64 (a : Int), .int .i64 (d : Int), .string ins]] W fun e w' => ∃ (v' : Value) (F K : Int), e = .returned (.tuple #[v', .agg #[.int .i64 F, .int .i64 K], .int .i64 0, .int .i64 0]) ∧ RowIn w' v' (piecesR (spliceB t a d ins)).1 ∧ Below W.heap.size W w' := by
    intro v W E hv
    refine (upd_ok v t ins a d h hok hu hr W E hv).mono ?_
    rintro e w' ⟨v', rfl, hw, hb⟩
    exact ⟨v', _, _, rfl, RowIn.of_owns hw, hb⟩
  obtain ⟨u, hue⟩ : ∃ u, u = spliceB t a d ins := ⟨_, rfl⟩
  obtain ⟨cut, hcut⟩ : ∃ cut, cut = t.extract a (a + d) := ⟨_, rfl⟩
  have hus : u.size = t.size + ins.size - d := by rw [hue]; exact hsu
  rw [← hue, ← hcut] at hun
  rw [← hue] at hch hr hup1
  rw [← hcut] at hse
  have hch2 := fun W => change_ok u cut a ins.size (by omega) (by omega) W
  rw [hun] at hch2
  have hup2 : ∀ v W, Env W → RowIn W v (piecesR u).1 → Calls Tryd.prog 20 #[.string u, v, .agg #[.int .i64 (a : Int), .int .i64 (ins.size : Int), .string cut]] W fun e w' => ∃ (v' : Value) (F K : Int), e = .returned (.tuple #[v', .agg #[.int .i64 F, .int .i64 K], .int .i64 0, .int .i64 0]) ∧ RowIn w' v' (piecesR t).1 ∧ Below W.heap.size W w' := by
    intro v W E hv
    refine (upd_ok v u cut a ins.size (by omega) hr (by rw [hun]; exact hts) (by rw [hun]; exact hok) W E hv).mono ?_
    rw [hun]
    rintro e w' ⟨v', rfl, hw, hb⟩
    exact ⟨v', _, _, rfl, RowIn.of_owns hw, hb⟩
  have hp := fun W E => pieces_all t W E
  unfold PiecesEnd at hp
  rw [hok, hat] at hp
  have hsm := fun v0 v W h0 h => samePieces_same v0 v (piecesR t).1 (by omega) W h0 h
  have HE := Lib.hid (fun (W : World) (h : Below w.heap.size w W) => E.below E.size h)
  obtain ⟨L, hL⟩ : ∃ L, L = (piecesR t).1 := ⟨_, rfl⟩
  obtain ⟨M, hM⟩ : ∃ M, M = (piecesR u).1 := ⟨_, rfl⟩
  rw [← hL] at hup1 hup2 hp hsm
  rw [← hM] at hup1 hup2
  have HU := Lib.hid hup1; have HU2 := Lib.hid hup2; have HCH := Lib.hid hch; have HCH2 := Lib.hid hch2; have HP := Lib.hid hp; have HCUT := Lib.hid hcut; have HSM := Lib.hid hsm
  have wad : IntKind.i64.wrap ((a : Int) + (d : Int)) = (a : Int) + (d : Int) := IntWalk.i64_in _ (by omega)
  have s1 : (a : Int) ≤ (a : Int) + (d : Int) := by omega
  have s2 : (a : Int) + (d : Int) ≤ (t.size : Int) := by omega
  have s3 : ((a : Int) + (d : Int)).toNat = a + d := by omega
  clear E hup1 hup2 hch hch2 hp hsm hsu hun hue hus hse hcut hok hr hu hst hlen hat hL hM
  go_enter Tryd.func8, Tryd.ntmps8
  go_wp2_with fail
  have bA := (Below.refl _ w).alloc (Nat.le_refl _) (.cells #[.int .i64 (a : Int), .int .i64 (d : Int), .string ins] 41)
  have HBA := Lib.hid bA
  refine (HS.out _ (HE.out _ HBA.out)).mono ?_
  rintro e w1 ⟨rfl, b1⟩
  have c0 : w1.cell? ⟨w.heap.size, 0, none⟩ = some (.int .i64 (a : Int)) := (b1.cell (p := ⟨w.heap.size, 0, none⟩) (by simp)).trans (by simp)
  have c1 : w1.cell? ⟨w.heap.size, 1, none⟩ = some (.int .i64 (d : Int)) := (b1.cell (p := ⟨w.heap.size, 1, none⟩) (by simp)).trans (by simp)
  have c2 : w1.cell? ⟨w.heap.size, 2, none⟩ = some (.string ins) := (b1.cell (p := ⟨w.heap.size, 2, none⟩) (by simp)).trans (by simp)
  have hz1 := b1.size
  simp only [World.size_alloc] at hz1
  have B1 := Lib.hid (HBA.out.trans (b1.mono (by simp)))
  clear b1 bA HS HBA
  go_wp2_with fail
  refine (HCH.out _).mono ?_
  rintro e w2 ⟨rfl, b2⟩
  have d0 : w2.cell? ⟨w.heap.size, 0, none⟩ = some (.int .i64 (a : Int)) := (b2.cell (p := ⟨w.heap.size, 0, none⟩) (by simp; omega)).trans c0
  have d1 : w2.cell? ⟨w.heap.size, 1, none⟩ = some (.int .i64 (d : Int)) := (b2.cell (p := ⟨w.heap.size, 1, none⟩) (by simp; omega)).trans c1
  have d2 : w2.cell? ⟨w.heap.size, 2, none⟩ = some (.string ins) := (b2.cell (p := ⟨w.heap.size, 2, none⟩) (by simp; omega)).trans c2
  have hz2 := b2.size
  have B2 := Lib.hid (B1.out.trans (b2.mono B1.out.size))
  clear b2 B1 HCH c0 c1 c2
  go_wp2_with fail
  go_region_held3 (fun w' => w'.cell? ⟨w.heap.size, 0, none⟩ = some (.int .i64 (a : Int)) ∧ w'.cell? ⟨w.heap.size, 1, none⟩ = some (.int .i64 (d : Int)) ∧ w'.cell? ⟨w.heap.size, 2, none⟩ = some (.string ins)) (go_keep) (fail)
  all_goals go_wp2_with fail
  obtain rfl := HCUT.out
  have hb3 := ((Below.refl _ w2).alloc (Nat.le_refl _) (.cells #[.int .i64 (a : Int), .int .i64 (ins.size : Int), .string (t.extract a (a + d))] 41)).drew
  refine (HCH2.out _).mono ?_
  rintro e w4 ⟨rfl, b4⟩
  have hz4 := b4.size
  simp only [World.size_drew, World.size_alloc] at hz4
  have f0 : w4.cell? ⟨w.heap.size, 0, none⟩ = some (.int .i64 (a : Int)) := (b4.cell (p := ⟨w.heap.size, 0, none⟩) (by simp; omega)).trans ((hb3.cell (p := ⟨w.heap.size, 0, none⟩) (by simp; omega)).trans d0)
  have f1 : w4.cell? ⟨w.heap.size, 1, none⟩ = some (.int .i64 (d : Int)) := (b4.cell (p := ⟨w.heap.size, 1, none⟩) (by simp; omega)).trans ((hb3.cell (p := ⟨w.heap.size, 1, none⟩) (by simp; omega)).trans d1)
  have f2 : w4.cell? ⟨w.heap.size, 2, none⟩ = some (.string ins) := (b4.cell (p := ⟨w.heap.size, 2, none⟩) (by simp; omega)).trans ((hb3.cell (p := ⟨w.heap.size, 2, none⟩) (by simp; omega)).trans d2)
  have g0 : w4.cell? ⟨w2.heap.size, 0, none⟩ = some (.int .i64 (a : Int)) := (b4.cell (p := ⟨w2.heap.size, 0, none⟩) (by simp)).trans (by simp)
  have g1 : w4.cell? ⟨w2.heap.size, 1, none⟩ = some (.int .i64 (ins.size : Int)) := (b4.cell (p := ⟨w2.heap.size, 1, none⟩) (by simp)).trans (by simp)
  have g2 : w4.cell? ⟨w2.heap.size, 2, none⟩ = some (.string (t.extract a (a + d))) := (b4.cell (p := ⟨w2.heap.size, 2, none⟩) (by simp)).trans (by simp)
  have B3 := B2.out.trans (hb3.mono B2.out.size)
  have B4 := Lib.hid (B3.trans (b4.mono B3.size))
  clear b4 B3 hb3 B2 HCH2 d0 d1 d2
  go_wp2_with fail
  refine (HP.out _ (HE.out _ B4.out)).mono ?_
  rintro e w5 ⟨v, rfl, hrow, b5⟩
  have d0 : w5.cell? ⟨w.heap.size, 0, none⟩ = some (.int .i64 (a : Int)) := (b5.cell (p := ⟨w.heap.size, 0, none⟩) (by simp; omega)).trans f0
  have d1 : w5.cell? ⟨w.heap.size, 1, none⟩ = some (.int .i64 (d : Int)) := (b5.cell (p := ⟨w.heap.size, 1, none⟩) (by simp; omega)).trans f1
  have d2 : w5.cell? ⟨w.heap.size, 2, none⟩ = some (.string ins) := (b5.cell (p := ⟨w.heap.size, 2, none⟩) (by simp; omega)).trans f2
  have k0 : w5.cell? ⟨w2.heap.size, 0, none⟩ = some (.int .i64 (a : Int)) := (b5.cell (p := ⟨w2.heap.size, 0, none⟩) (by simp; omega)).trans g0
  have k1 : w5.cell? ⟨w2.heap.size, 1, none⟩ = some (.int .i64 (ins.size : Int)) := (b5.cell (p := ⟨w2.heap.size, 1, none⟩) (by simp; omega)).trans g1
  have k2 : w5.cell? ⟨w2.heap.size, 2, none⟩ = some (.string (t.extract a (a + d))) := (b5.cell (p := ⟨w2.heap.size, 2, none⟩) (by simp; omega)).trans g2
  have hz5 := b5.size
  have B5 := Lib.hid (B4.out.trans (b5.mono B4.out.size))
  have RV := Lib.hid (RowIn.of_owns hrow)
  clear b5 HP hrow B4 f0 f1 f2 g0 g1 g2
  go_wp2_with fail
  refine (HU.out v _ (HE.out _ B5.out) RV.out).mono ?_
  rintro e w6 ⟨m, F, K, rfl, hrm, b6⟩
  have g0 : w6.cell? ⟨w2.heap.size, 0, none⟩ = some (.int .i64 (a : Int)) := (b6.cell (p := ⟨w2.heap.size, 0, none⟩) (by simp; omega)).trans k0
  have g1 : w6.cell? ⟨w2.heap.size, 1, none⟩ = some (.int .i64 (ins.size : Int)) := (b6.cell (p := ⟨w2.heap.size, 1, none⟩) (by simp; omega)).trans k1
  have g2 : w6.cell? ⟨w2.heap.size, 2, none⟩ = some (.string (t.extract a (a + d))) := (b6.cell (p := ⟨w2.heap.size, 2, none⟩) (by simp; omega)).trans k2
  have hz6 := b6.size
  have B6 := Lib.hid (B5.out.trans (b6.mono B5.out.size))
  have RL := Lib.hid (RV.out.below b6)
  have RM := Lib.hid hrm
  clear b6 B5 HU RV d0 d1 d2 k0 k1 k2 hrm
  have q0 : (w6.alloc (.cells #[.int .i64 F, .int .i64 K] 47)).cell? ⟨w2.heap.size, 0, none⟩ = some (.int .i64 (a : Int)) := (World.cell?_alloc_lt _ _ _ (by simp; omega)).trans g0
  have q1 : (w6.alloc (.cells #[.int .i64 F, .int .i64 K] 47)).cell? ⟨w2.heap.size, 1, none⟩ = some (.int .i64 (ins.size : Int)) := (World.cell?_alloc_lt _ _ _ (by simp; omega)).trans g1
  have q2 : (w6.alloc (.cells #[.int .i64 F, .int .i64 K] 47)).cell? ⟨w2.heap.size, 2, none⟩ = some (.string (t.extract a (a + d))) := (World.cell?_alloc_lt _ _ _ (by simp; omega)).trans g2
  have b7 := (Below.refl _ w6).alloc (Nat.le_refl _) (.cells #[.int .i64 F, .int .i64 K] 47)
  have B7 := Lib.hid (B6.out.trans (b7.mono B6.out.size))
  have RL7 := Lib.hid (RL.out.below b7)
  have RM7 := Lib.hid (RM.out.below b7)
  clear b7 B6 RL RM g0 g1 g2 hz6 hz5 hz4 hz2 hz1
  go_wp2_with fail
  refine (HU2.out m _ (HE.out _ B7.out) RM7.out).mono ?_
  rintro e w8 ⟨n, F', K', rfl, hrn, b8⟩
  have b9 := (Below.refl _ w8).alloc (Nat.le_refl _) (.cells #[.int .i64 F', .int .i64 K'] 47)
  have B8 := B7.out.trans (b8.mono B7.out.size)
  have B9 := Lib.hid (B8.trans (b9.mono B8.size))
  have RL9 := Lib.hid ((RL7.out.below b8).below b9)
  have RN9 := Lib.hid (hrn.below b9)
  clear b8 b9 B8 B7 RL7 RM7 HU2 HE q0 q1 q2 hrn
  go_wp2_with fail
  refine (HSM.out _ _ _ RL9.out RN9.out).mono ?_
  rintro e w10 ⟨rfl, b10⟩
  have B10 := Lib.hid (B9.out.trans (b10.mono B9.out.size))
  clear b10 B9 RL9 RN9 HSM
  go_wp2_with fail
  exact bodyPost_ret (v := .bool true) (by simp [results, Tryd.results8, go_sem]) rfl ⟨rfl, B10.out⟩

theorem undone_any (t ins : ByteArray) (a d : Int) (ht : t.size ≤ 140737488355328) (hins : ins.size ≤ 140737488355328) (w : World) (E : Env w) :
    Calls Tryd.prog 8 #[.string t, .agg #[.int .i64 a, .int .i64 d, .string ins]] w fun e w' => e = .returned (.bool true) ∧ Below w.heap.size w w' := by
  by_cases hbad : a < 0 ∨ (t.size : Int) < a ∨ d < 0 ∨ (t.size : Int) - a < d
  · exact undone_bad t ins a d hbad (by omega) w E
  · obtain ⟨a', rfl⟩ : ∃ a' : Nat, a = (a' : Int) := ⟨a.toNat, by omega⟩
    obtain ⟨d', rfl⟩ : ∃ d' : Nat, d = (d' : Int) := ⟨d.toNat, by omega⟩
    have had : a' + d' ≤ t.size := by omega
    by_cases hex : ∃ a1 d1 : Nat, (a' : Int) = (a1 : Int) ∧ (d' : Int) = (d1 : Int) ∧ a1 + d1 ≤ t.size ∧ (piecesR t).2.2 = 0 ∧ (spliceB t a1 d1 ins).size ≤ 20000 ∧ (piecesR (spliceB t a1 d1 ins)).2.2 = 0
    · obtain ⟨a1, d1, h1, h2, h3, h4, h5, h6⟩ := hex
      obtain rfl : a' = a1 := by omega
      obtain rfl : d' = d1 := by omega
      exact undone_ok t ins a' d' h3 (by omega) h4 h5 h6 w E
    · exact undone_no t ins a' d' had (by omega) w E (fun v W E' hv => (upd_any v t ins a' d' (by omega) W E' hv).resolve_left hex)

end Go.Proofs.YtnhmcfliepkfeaaDoor
