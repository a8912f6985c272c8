/-
  Update where something is refused.
-/
import Derived.Test.YtlkanfnhemjdcaaGreatDoorXI
namespace Go.Proofs.YtlkanfnhemjdcaaGreatDoor
open Go.RowKit Go.Shelf

def UpdNo (w : World) (e : Ending) (w' : World) : Prop :=
  ∃ i c : Int, e = .returned (.tuple #[.slice none 0 0, .agg #[.int .i64 0, .int .i64 0], .int .i64 i, .int .i64 c]) ∧ c ≠ 0 ∧ Below w.heap.size w w'

theorem upd_end {w wl : World} (hB : Below w.heap.size w wl) (he : wl.heap[w.heap.size + 1]? = some (.cells #[.int .i64 0, .int .i64 0] 55)) (W : World)
    (hW : W = (wl.setCell ⟨w.heap.size + 1, 0, none⟩ (.int .i64 0)).setCell ⟨w.heap.size + 1, 1, none⟩ (.int .i64 0)) :
    W.cell? ⟨w.heap.size + 1, 0, none⟩ = some (.int .i64 0) ∧ W.cell? ⟨w.heap.size + 1, 1, none⟩ = some (.int .i64 0) ∧ Below w.heap.size w W := by
  have k0 : wl.cell? ⟨w.heap.size + 1, 0, none⟩ = some (.int .i64 0) := cell_at he
  have k1 : wl.cell? ⟨w.heap.size + 1, 1, none⟩ = some (.int .i64 0) := cell_at he
  subst hW
  refine ⟨?_, ?_, ?_⟩
  · rw [World.cell?_setCell_other _ _ _ _ (by simp)]; exact World.cell?_setCell_same' _ _ _ (by rw [k0]; rfl)
  · exact World.cell?_setCell_same' _ _ _ (by rw [World.cell?_setCell_other _ _ _ _ (by simp), k1]; rfl)
  · exact (hB.setCell (p := ⟨w.heap.size + 1, 0, none⟩) (by simp) _).setCell (p := ⟨w.heap.size + 1, 1, none⟩) (by simp) _

set_option maxHeartbeats 4000000 in
set_option maxRecDepth 100000 in
theorem upd_pieces (v : Value) (t ins : ByteArray) (a d : Int) (hbad : (piecesR t).2.2 ≠ 0) (w : World) (E : Env w) :
    Calls Tryz.prog 35 #[.string t, v, .agg #[.int .i64 a, .int .i64 d, .string ins]] w (UpdNo w) := by
  have hp := fun W E => pieces_all t W E
  unfold PiecesEnd at hp
  obtain ⟨c, hc⟩ : ∃ c, c = (piecesR t).2.2 := ⟨_, rfl⟩
  rw [← hc] at hp hbad
  have HP := Lib.hid hp
  have HE := Lib.hid (fun (W : World) (h : Below w.heap.size w W) => E.below E.size h)
  have hcn : ((c : Int) != 0) = true := by rw [bne_iff_ne]; omega
  clear hp E hc hbad
  go_enter Tryz.func35, Tryz.ntmps35
  go_wp2_with fail
  refine (HP.out _ (HE.out _ (((Below.refl _ w).alloc (Nat.le_refl _) _).alloc (by simp) _))).mono ?_
  rintro e w1 ⟨v0, rfl, hrow, hb⟩
  have hB1 : Below w.heap.size w w1 := (((Below.refl _ w).alloc (Nat.le_refl _) _).alloc (by simp) _).trans (hb.mono (by simp; omega))
  have e1 : w1.heap[w.heap.size + 1]? = some (.cells #[.int .i64 0, .int .i64 0] 55) := (hb.block _ (by simp)).trans (by have := World.alloc_heap_new (w.alloc (.cells #[.int .i64 a, .int .i64 d, .string ins] 40)) (.cells #[.int .i64 0, .int .i64 0] 55); simpa using this)
  have hz1 := hb.size
  simp only [World.size_alloc] at hz1
  have hend := upd_end hB1 e1 _ rfl
  have k0 : w1.cell? ⟨w.heap.size + 1, 0, none⟩ = some (.int .i64 0) := cell_at e1
  have k1 : w1.cell? ⟨w.heap.size + 1, 1, none⟩ = some (.int .i64 0) := cell_at e1
  have k2 : w1.frozen? ⟨w.heap.size + 1, 0, none⟩ = false := frozen_at e1
  have k3 : w1.frozen? ⟨w.heap.size + 1, 1, none⟩ = false := frozen_at e1
  have HEND := Lib.hid hend
  clear hend hb hrow HP HE hB1 e1
  go_wp2_with fail
  have h0 := HEND.out.1; have h1 := HEND.out.2.1
  refine bodyPost_ret (v := .tuple #[.slice none 0 0, .agg #[.int .i64 0, .int .i64 0], .int .i64 0, .int .i64 15]) ?_ rfl ⟨0, 15, rfl, by decide, HEND.out.2.2⟩
  simp [results, Tryz.results35, go_sem, h0, h1]
set_option maxHeartbeats 4000000 in
set_option maxRecDepth 100000 in
theorem upd_arg (v : Value) (t ins : ByteArray) (a d : Int) (hok : (piecesR t).2.2 = 0) (hno : a < 0 ∨ (t.size : Int) < a ∨ d < 0 ∨ (t.size : Int) - a < d) (w : World) (E : Env w) (hv : RowIn w v (piecesR t).1) :
    Calls Tryz.prog 35 #[.string t, v, .agg #[.int .i64 a, .int .i64 d, .string ins]] w (UpdNo w) := by
  obtain ⟨hts, hat, _, opT, cT, hst⟩ := pieces_ok hok
  have hlen := (steps_bounds _ _ _ _ _ hst (by omega)).1
  simp only at hlen
  have hp := fun W E => pieces_all t W E
  unfold PiecesEnd at hp
  rw [hok, hat] at hp
  have hch := fun W => change_no t ins a d hno (by omega) W
  have HCH := Lib.hid hch
  clear hch hno
  obtain ⟨L, hL⟩ : ∃ L, L = (piecesR t).1 := ⟨_, rfl⟩
  rw [← hL] at hp hv hlen
  have HP := Lib.hid hp; have HV := Lib.hid hv
  have HE := Lib.hid (fun (W : World) (h : Below w.heap.size w W) => E.below E.size h)
  clear hp hv E hok hst hL hat
  go_enter Tryz.func35, Tryz.ntmps35
  go_wp2_with fail
  refine (HP.out _ (HE.out _ (((Below.refl _ w).alloc (Nat.le_refl _) _).alloc (by simp) _))).mono ?_
  rintro e w1 ⟨v0, rfl, hrow, hb⟩
  have hB1 : Below w.heap.size w w1 := (((Below.refl _ w).alloc (Nat.le_refl _) _).alloc (by simp) _).trans (hb.mono (by simp; omega))
  have e1 : w1.heap[w.heap.size + 1]? = some (.cells #[.int .i64 0, .int .i64 0] 55) := (hb.block _ (by simp)).trans (by have := World.alloc_heap_new (w.alloc (.cells #[.int .i64 a, .int .i64 d, .string ins] 40)) (.cells #[.int .i64 0, .int .i64 0] 55); simpa using this)
  have hk1 : ∀ k o, k < w.heap.size + 2 → w1.cell? ⟨k, o, none⟩ = _ := fun k o hk => hb.cell (p := ⟨k, o, none⟩) (by simp; omega)
  have c0 : w1.cell? ⟨w.heap.size, 0, none⟩ = some (.int .i64 a) := (hk1 _ _ (by omega)).trans (by simp)
  have c1 : w1.cell? ⟨w.heap.size, 1, none⟩ = some (.int .i64 d) := (hk1 _ _ (by omega)).trans (by simp)
  have c2 : w1.cell? ⟨w.heap.size, 2, none⟩ = some (.string ins) := (hk1 _ _ (by omega)).trans (by simp)
  have hz1 := hb.size
  simp only [World.size_alloc] at hz1
  have RV := HV.out.below hB1
  have R0 := RowIn.of_owns hrow
  have HB1 := Lib.hid hB1; have HRV := Lib.hid RV; have HR0 := Lib.hid R0
  clear hk1 hrow hb hB1 RV R0 HP
  go_wp2_with fail
  refine (equal_same v0 v L (by omega) w1 HR0.out HRV.out).mono ?_
  rintro e w2 ⟨rfl, hb2⟩
  have d0 : w2.cell? ⟨w.heap.size, 0, none⟩ = some (.int .i64 a) := (hb2.cell (p := ⟨w.heap.size, 0, none⟩) (by simp; omega)).trans c0
  have d1 : w2.cell? ⟨w.heap.size, 1, none⟩ = some (.int .i64 d) := (hb2.cell (p := ⟨w.heap.size, 1, none⟩) (by simp; omega)).trans c1
  have d2 : w2.cell? ⟨w.heap.size, 2, none⟩ = some (.string ins) := (hb2.cell (p := ⟨w.heap.size, 2, none⟩) (by simp; omega)).trans c2
  have hz2 := hb2.size
  have e2 := (hb2.block _ (by omega)).trans e1
  have HB2 := Lib.hid (HB1.out.trans (hb2.mono HB1.out.size)); have HRV2 := Lib.hid (HRV.out.below hb2)
  clear HB1 HRV HR0 hb2 c0 c1 c2
  go_wp2_with fail
  refine (HCH.out _).mono ?_
  rintro e w3 ⟨rfl, hb3⟩
  have c0 : w3.cell? ⟨w.heap.size, 0, none⟩ = some (.int .i64 a) := (hb3.cell (p := ⟨w.heap.size, 0, none⟩) (by simp; omega)).trans d0
  have c1 : w3.cell? ⟨w.heap.size, 1, none⟩ = some (.int .i64 d) := (hb3.cell (p := ⟨w.heap.size, 1, none⟩) (by simp; omega)).trans d1
  have c2 : w3.cell? ⟨w.heap.size, 2, none⟩ = some (.string ins) := (hb3.cell (p := ⟨w.heap.size, 2, none⟩) (by simp; omega)).trans d2
  have hz3 := hb3.size
  have e3 := (hb3.block _ (by omega)).trans e2
  have HB3 := Lib.hid (HB2.out.trans (hb3.mono HB2.out.size)); have HRV3 := Lib.hid (HRV2.out.below hb3)
  clear HB2 HRV2 HCH hb3 d0 d1 d2
  have hend := upd_end HB3.out e3 _ rfl
  have k0 : w3.cell? ⟨w.heap.size + 1, 0, none⟩ = some (.int .i64 0) := cell_at e3
  have k1 : w3.cell? ⟨w.heap.size + 1, 1, none⟩ = some (.int .i64 0) := cell_at e3
  have k2 : w3.frozen? ⟨w.heap.size + 1, 0, none⟩ = false := frozen_at e3
  have k3 : w3.frozen? ⟨w.heap.size + 1, 1, none⟩ = false := frozen_at e3
  have HEND := Lib.hid hend
  clear hend HE
  go_wp2_with fail
  have h0 := HEND.out.1; have h1 := HEND.out.2.1
  refine bodyPost_ret (v := .tuple #[.slice none 0 0, .agg #[.int .i64 0, .int .i64 0], .int .i64 0, .int .i64 1]) ?_ rfl ⟨0, 1, rfl, by decide, HEND.out.2.2⟩
  simp [results, Tryz.results35, go_sem, h0, h1]

set_option maxHeartbeats 4000000 in
set_option maxRecDepth 100000 in
theorem upd_long (v : Value) (t ins : ByteArray) (a d : Nat) (h : a + d ≤ t.size) (hins : t.size + ins.size ≤ 9223372036854775807) (hok : (piecesR t).2.2 = 0) (hu : 20000 < (spliceB t a d ins).size) (w : World) (E : Env w) (hv : RowIn w v (piecesR t).1) :
    Calls Tryz.prog 35 #[.string t, v, .agg #[.int .i64 (a : Int), .int .i64 (d : Int), .string ins]] w (UpdNo w) := by
  obtain ⟨hts, hat, _, opT, cT, hst⟩ := pieces_ok hok
  have hlen := (steps_bounds _ _ _ _ _ hst (by omega)).1
  simp only at hlen
  have hp := fun W E => pieces_all t W E
  unfold PiecesEnd at hp
  rw [hok, hat] at hp
  obtain ⟨u, hue⟩ : ∃ u, u = spliceB t a d ins := ⟨_, rfl⟩
  have hch := fun W => change_ok t ins a d h hins W
  rw [← hue] at hch hu
  have HCH := Lib.hid hch
  have hlu : ((20000 : Int) < (u.size : Int)) = True := by simp; omega
  clear hch hue h
  obtain ⟨L, hL⟩ : ∃ L, L = (piecesR t).1 := ⟨_, rfl⟩
  rw [← hL] at hp hv hlen
  have HP := Lib.hid hp; have HV := Lib.hid hv
  have HE := Lib.hid (fun (W : World) (h : Below w.heap.size w W) => E.below E.size h)
  clear hp hv E hok hst hL hat
  go_enter Tryz.func35, Tryz.ntmps35
  go_wp2_with fail
  refine (HP.out _ (HE.out _ (((Below.refl _ w).alloc (Nat.le_refl _) _).alloc (by simp) _))).mono ?_
  rintro e w1 ⟨v0, rfl, hrow, hb⟩
  have hB1 : Below w.heap.size w w1 := (((Below.refl _ w).alloc (Nat.le_refl _) _).alloc (by simp) _).trans (hb.mono (by simp; omega))
  have e1 : w1.heap[w.heap.size + 1]? = some (.cells #[.int .i64 0, .int .i64 0] 55) := (hb.block _ (by simp)).trans (by have := World.alloc_heap_new (w.alloc (.cells #[.int .i64 (a : Int), .int .i64 (d : Int), .string ins] 40)) (.cells #[.int .i64 0, .int .i64 0] 55); simpa using this)
  have hk1 : ∀ k o, k < w.heap.size + 2 → w1.cell? ⟨k, o, none⟩ = _ := fun k o hk => hb.cell (p := ⟨k, o, none⟩) (by simp; omega)
  have c0 : w1.cell? ⟨w.heap.size, 0, none⟩ = some (.int .i64 (a : Int)) := (hk1 _ _ (by omega)).trans (by simp)
  have c1 : w1.cell? ⟨w.heap.size, 1, none⟩ = some (.int .i64 (d : Int)) := (hk1 _ _ (by omega)).trans (by simp)
  have c2 : w1.cell? ⟨w.heap.size, 2, none⟩ = some (.string ins) := (hk1 _ _ (by omega)).trans (by simp)
  have hz1 := hb.size
  simp only [World.size_alloc] at hz1
  have RV := HV.out.below hB1
  have R0 := RowIn.of_owns hrow
  have HB1 := Lib.hid hB1; have HRV := Lib.hid RV; have HR0 := Lib.hid R0
  clear hk1 hrow hb hB1 RV R0 HP
  go_wp2_with fail
  refine (equal_same v0 v L (by omega) w1 HR0.out HRV.out).mono ?_
  rintro e w2 ⟨rfl, hb2⟩
  have d0 : w2.cell? ⟨w.heap.size, 0, none⟩ = some (.int .i64 (a : Int)) := (hb2.cell (p := ⟨w.heap.size, 0, none⟩) (by simp; omega)).trans c0
  have d1 : w2.cell? ⟨w.heap.size, 1, none⟩ = some (.int .i64 (d : Int)) := (hb2.cell (p := ⟨w.heap.size, 1, none⟩) (by simp; omega)).trans c1
  have d2 : w2.cell? ⟨w.heap.size, 2, none⟩ = some (.string ins) := (hb2.cell (p := ⟨w.heap.size, 2, none⟩) (by simp; omega)).trans c2
  have hz2 := hb2.size
  have e2 := (hb2.block _ (by omega)).trans e1
  have HB2 := Lib.hid (HB1.out.trans (hb2.mono HB1.out.size)); have HRV2 := Lib.hid (HRV.out.below hb2)
  clear HB1 HRV HR0 hb2 c0 c1 c2
  go_wp2_with fail
  refine (HCH.out _).mono ?_
  rintro e w3 ⟨rfl, hb3⟩
  have c0 : w3.cell? ⟨w.heap.size, 0, none⟩ = some (.int .i64 (a : Int)) := (hb3.cell (p := ⟨w.heap.size, 0, none⟩) (by simp; omega)).trans d0
  have c1 : w3.cell? ⟨w.heap.size, 1, none⟩ = some (.int .i64 (d : Int)) := (hb3.cell (p := ⟨w.heap.size, 1, none⟩) (by simp; omega)).trans d1
  have c2 : w3.cell? ⟨w.heap.size, 2, none⟩ = some (.string ins) := (hb3.cell (p := ⟨w.heap.size, 2, none⟩) (by simp; omega)).trans d2
  have hz3 := hb3.size
  have e3 := (hb3.block _ (by omega)).trans e2
  have HB3 := Lib.hid (HB2.out.trans (hb3.mono HB2.out.size)); have HRV3 := Lib.hid (HRV2.out.below hb3)
  clear HB2 HRV2 HCH hb3 d0 d1 d2
  have hend := upd_end HB3.out e3 _ rfl
  have k0 : w3.cell? ⟨w.heap.size + 1, 0, none⟩ = some (.int .i64 0) := cell_at e3
  have k1 : w3.cell? ⟨w.heap.size + 1, 1, none⟩ = some (.int .i64 0) := cell_at e3
  have k2 : w3.frozen? ⟨w.heap.size + 1, 0, none⟩ = false := frozen_at e3
  have k3 : w3.frozen? ⟨w.heap.size + 1, 1, none⟩ = false := frozen_at e3
  have HEND := Lib.hid hend
  clear hend HE
  go_wp2_with fail
  have h0 := HEND.out.1; have h1 := HEND.out.2.1
  refine bodyPost_ret (v := .tuple #[.slice none 0 0, .agg #[.int .i64 0, .int .i64 0], .int .i64 0, .int .i64 2]) ?_ rfl ⟨0, 2, rfl, by decide, HEND.out.2.2⟩
  simp [results, Tryz.results35, go_sem, h0, h1]

set_option maxHeartbeats 4000000 in
set_option maxRecDepth 100000 in
theorem upd_bad (v : Value) (t ins : ByteArray) (a d : Nat) (h : a + d ≤ t.size) (hok : (piecesR t).2.2 = 0) (hu : (spliceB t a d ins).size ≤ 20000) (hr : (piecesR (spliceB t a d ins)).2.2 ≠ 0) (w : World) (E : Env w) (hv : RowIn w v (piecesR t).1) :
    Calls Tryz.prog 35 #[.string t, v, .agg #[.int .i64 (a : Int), .int .i64 (d : Int), .string ins]] w (UpdNo w) := by
  obtain ⟨hts, hat, _, opT, cT, hst⟩ := pieces_ok hok
  have hlen := (steps_bounds _ _ _ _ _ hst (by omega)).1
  simp only at hlen
  have hp := fun W E => pieces_all t W E
  unfold PiecesEnd at hp
  rw [hok, hat] at hp
  have hsz' : (spliceB t a d ins).size = t.size + ins.size - d := splice_size t ins a d h
  have hch := fun W => change_ok t ins a d h (by omega) W
  have hrc := fun W E hv => recut_any v t ins a d h hok hu W E hv
  unfold PiecesEnd at hrc
  obtain ⟨u, hue⟩ : ∃ u, u = spliceB t a d ins := ⟨_, rfl⟩
  rw [← hue] at hch hu hrc hr
  obtain ⟨ci, hci⟩ : ∃ c, c = (piecesR u).2.1 := ⟨_, rfl⟩
  obtain ⟨cc, hcc⟩ : ∃ c, c = (piecesR u).2.2 := ⟨_, rfl⟩
  rw [← hci, ← hcc] at hrc
  rw [← hcc] at hr
  have hcn : ((cc : Int) != 0) = true := by rw [bne_iff_ne]; omega
  have HCH := Lib.hid hch
  have hlu : ((20000 : Int) < (u.size : Int)) = False := by simp; omega
  clear hch hue h hci hcc hsz'
  obtain ⟨L, hL⟩ : ∃ L, L = (piecesR t).1 := ⟨_, rfl⟩
  rw [← hL] at hp hv hlen hrc
  have HP := Lib.hid hp; have HV := Lib.hid hv; have HRC := Lib.hid hrc
  have HE := Lib.hid (fun (W : World) (h : Below w.heap.size w W) => E.below E.size h)
  clear hp hv E hok hst hL hat hrc
  go_enter Tryz.func35, Tryz.ntmps35
  go_wp2_with fail
  refine (HP.out _ (HE.out _ (((Below.refl _ w).alloc (Nat.le_refl _) _).alloc (by simp) _))).mono ?_
  rintro e w1 ⟨v0, rfl, hrow, hb⟩
  have hB1 : Below w.heap.size w w1 := (((Below.refl _ w).alloc (Nat.le_refl _) _).alloc (by simp) _).trans (hb.mono (by simp; omega))
  have e1 : w1.heap[w.heap.size + 1]? = some (.cells #[.int .i64 0, .int .i64 0] 55) := (hb.block _ (by simp)).trans (by have := World.alloc_heap_new (w.alloc (.cells #[.int .i64 (a : Int), .int .i64 (d : Int), .string ins] 40)) (.cells #[.int .i64 0, .int .i64 0] 55); simpa using this)
  have hk1 : ∀ k o, k < w.heap.size + 2 → w1.cell? ⟨k, o, none⟩ = _ := fun k o hk => hb.cell (p := ⟨k, o, none⟩) (by simp; omega)
  have c0 : w1.cell? ⟨w.heap.size, 0, none⟩ = some (.int .i64 (a : Int)) := (hk1 _ _ (by omega)).trans (by simp)
  have c1 : w1.cell? ⟨w.heap.size, 1, none⟩ = some (.int .i64 (d : Int)) := (hk1 _ _ (by omega)).trans (by simp)
  have c2 : w1.cell? ⟨w.heap.size, 2, none⟩ = some (.string ins) := (hk1 _ _ (by omega)).trans (by simp)
  have hz1 := hb.size
  simp only [World.size_alloc] at hz1
  have RV := HV.out.below hB1
  have R0 := RowIn.of_owns hrow
  have HB1 := Lib.hid hB1; have HRV := Lib.hid RV; have HR0 := Lib.hid R0
  clear hk1 hrow hb hB1 RV R0 HP
  go_wp2_with fail
  refine (equal_same v0 v L (by omega) w1 HR0.out HRV.out).mono ?_
  rintro e w2 ⟨rfl, hb2⟩
  have d0 : w2.cell? ⟨w.heap.size, 0, none⟩ = some (.int .i64 (a : Int)) := (hb2.cell (p := ⟨w.heap.size, 0, none⟩) (by simp; omega)).trans c0
  have d1 : w2.cell? ⟨w.heap.size, 1, none⟩ = some (.int .i64 (d : Int)) := (hb2.cell (p := ⟨w.heap.size, 1, none⟩) (by simp; omega)).trans c1
  have d2 : w2.cell? ⟨w.heap.size, 2, none⟩ = some (.string ins) := (hb2.cell (p := ⟨w.heap.size, 2, none⟩) (by simp; omega)).trans c2
  have hz2 := hb2.size
  have e2 := (hb2.block _ (by omega)).trans e1
  have HB2 := Lib.hid (HB1.out.trans (hb2.mono HB1.out.size)); have HRV2 := Lib.hid (HRV.out.below hb2)
  clear HB1 HRV HR0 hb2 c0 c1 c2
  go_wp2_with fail
  refine (HCH.out _).mono ?_
  rintro e w3 ⟨rfl, hb3⟩
  have c0 : w3.cell? ⟨w.heap.size, 0, none⟩ = some (.int .i64 (a : Int)) := (hb3.cell (p := ⟨w.heap.size, 0, none⟩) (by simp; omega)).trans d0
  have c1 : w3.cell? ⟨w.heap.size, 1, none⟩ = some (.int .i64 (d : Int)) := (hb3.cell (p := ⟨w.heap.size, 1, none⟩) (by simp; omega)).trans d1
  have c2 : w3.cell? ⟨w.heap.size, 2, none⟩ = some (.string ins) := (hb3.cell (p := ⟨w.heap.size, 2, none⟩) (by simp; omega)).trans d2
  have hz3 := hb3.size
  have e3 := (hb3.block _ (by omega)).trans e2
  have HB3 := Lib.hid (HB2.out.trans (hb3.mono HB2.out.size)); have HRV3 := Lib.hid (HRV2.out.below hb3)
  clear HB2 HRV2 HCH hb3 d0 d1 d2
  go_wp2_with fail
  refine (HRC.out _ (HE.out _ HB3.out) HRV3.out).mono ?_
  rintro e w4 ⟨v', rfl, hrow4, hb4⟩
  have hz4 := hb4.size
  have HB4 := Lib.hid (HB3.out.trans (hb4.mono HB3.out.size))
  have e4 := (hb4.block _ (by omega)).trans e3
  clear HB3 HRV3 HRC hb4 hrow4 c0 c1 c2
  have hend := upd_end HB4.out e4 _ rfl
  have k0 : w4.cell? ⟨w.heap.size + 1, 0, none⟩ = some (.int .i64 0) := cell_at e4
  have k1 : w4.cell? ⟨w.heap.size + 1, 1, none⟩ = some (.int .i64 0) := cell_at e4
  have k2 : w4.frozen? ⟨w.heap.size + 1, 0, none⟩ = false := frozen_at e4
  have k3 : w4.frozen? ⟨w.heap.size + 1, 1, none⟩ = false := frozen_at e4
  have HEND := Lib.hid hend
  clear hend HE
  go_wp2_with fail
  have h0 := HEND.out.1; have h1 := HEND.out.2.1
  refine bodyPost_ret (v := .tuple #[.slice none 0 0, .agg #[.int .i64 0, .int .i64 0], .int .i64 (ci : Int), .int .i64 (cc : Int)]) ?_ rfl ⟨(ci : Int), (cc : Int), rfl, by omega, HEND.out.2.2⟩
  simp [results, Tryz.results35, go_sem, h0, h1]

/-- Update, whatever it is asked: nothing is refused, or it says so. -/
theorem upd_any (v : Value) (t ins : ByteArray) (a d : Int) (hins : ins.size ≤ 4611686018427387904) (w : World) (E : Env w) (hv : (piecesR t).2.2 = 0 → RowIn w v (piecesR t).1) :
    (∃ a' d' : Nat, a = (a' : Int) ∧ d = (d' : Int) ∧ a' + d' ≤ t.size ∧ (piecesR t).2.2 = 0 ∧ (spliceB t a' d' ins).size ≤ 20000 ∧ (piecesR (spliceB t a' d' ins)).2.2 = 0) ∨
    Calls Tryz.prog 35 #[.string t, v, .agg #[.int .i64 a, .int .i64 d, .string ins]] w (UpdNo w) := by
  by_cases hok : (piecesR t).2.2 = 0
  · have hts := (pieces_ok hok).1
    by_cases hno : a < 0 ∨ (t.size : Int) < a ∨ d < 0 ∨ (t.size : Int) - a < d
    · exact .inr (upd_arg v t ins a d hok hno w E (hv hok))
    · obtain ⟨a', ha⟩ : ∃ a' : Nat, a = (a' : Int) := ⟨a.toNat, by omega⟩
      obtain ⟨d', hd⟩ : ∃ d' : Nat, d = (d' : Int) := ⟨d.toNat, by omega⟩
      subst ha hd
      have h : a' + d' ≤ t.size := by omega
      by_cases hu : (spliceB t a' d' ins).size ≤ 20000
      · by_cases hr : (piecesR (spliceB t a' d' ins)).2.2 = 0
        · exact .inl ⟨a', d', rfl, rfl, h, hok, hu, hr⟩
        · exact .inr (upd_bad v t ins a' d' h hok hu hr w E (hv hok))
      · exact .inr (upd_long v t ins a' d' h (by omega) hok (by omega) w E (hv hok))
  · exact .inr (upd_pieces v t ins a d hok w E)
end Go.Proofs.YtlkanfnhemjdcaaGreatDoor
