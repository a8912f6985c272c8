/-
  Update of a list at any place of a block: where nothing is refused.
  Update of a list at any place of a block: where something is refused, with its number and its place.
  SamePieces of the reference, of a list at any place of a block.
  Update of the reference: where something is refused.
-/
import Derived.Test.YtlkanfnhemjdcaaGreatDoorUP2
import Derived.Test.YtlkanfnhemjdcaaGreatDoorVA
import Derived.Test.YtlkanfnhemjdcaaGreatDoorXI
import Derived.Test.YtlkanfnhemjdcaaGreatDoorXT
namespace Go.Proofs.YtlkanfnhemjdcaaGreatDoor
section
open Go.RowKit Go.Shelf

/-- A slice that holds pieces of any numbers, perhaps none, at any place of a block. -/
def IRow (w : World) (v : Value) (l : List (Int × Int × Int)) : Prop := ∃ b cap g og, v = .slice b l.length cap ∧ l.length ≤ cap ∧ (l ≠ [] → b = some ⟨g, og, none⟩ ∧ g < w.heap.size ∧ IntsO w g og l)
theorem IRow.below {w w' : World} {v : Value} {l : List (Int × Int × Int)} (h : IRow w v l) (hB : Below w.heap.size w w') : IRow w' v l := by
  obtain ⟨b, cap, g, og, h1, h2, h3⟩ := h
  exact ⟨b, cap, g, og, h1, h2, fun hne => ⟨(h3 hne).1, Nat.lt_of_lt_of_le (h3 hne).2.1 hB.size, (h3 hne).2.2.below (h3 hne).2.1 hB⟩⟩
theorem intsP_len (l : List (Nat × Nat × Nat)) : (intsP l).length = l.length := by simp [intsP]
theorem intsP_nil {l : List (Nat × Nat × Nat)} : intsP l = [] ↔ l = [] := by simp [intsP]
theorem IRow.of_row {w : World} {v : Value} {l : List (Nat × Nat × Nat)} (h : RowIn w v l) : IRow w v (intsP l) := by
  obtain ⟨b, cap, g, h1, h2, h3⟩ := h
  refine ⟨b, cap, g, 0, by rw [intsP_len]; exact h1, by rw [intsP_len]; exact h2, fun hne => ?_⟩
  have hl : l ≠ [] := fun e => hne (intsP_nil.2 e)
  exact ⟨h3.addr hl, h3.low hl, fun j u hu => by rw [Nat.zero_add]; exact h3.cells hl j u (by rw [← flatI_intsP]; exact hu)⟩
theorem IRow.pcs {w : World} {v : Value} {l : List (Nat × Nat × Nat)} (h : IRow w v (intsP l)) : ∃ b cap g og, v = .slice b l.length cap ∧ l.length ≤ cap ∧ LInO w b g og l := by
  obtain ⟨b, cap, g, og, h1, h2, h3⟩ := h
  rw [intsP_len] at h1 h2
  have hl : l ≠ [] → intsP l ≠ [] := fun hne e => hne (intsP_nil.1 e)
  exact ⟨b, cap, g, og, h1, h2, fun hne => (h3 (hl hne)).1, fun hne => (h3 (hl hne)).2.1, fun hne j u hu => (h3 (hl hne)).2.2 j u (by rw [flatI_intsP]; exact hu)⟩

theorem equalO_any (v0 v : Value) (l : List (Nat × Nat × Nat)) (m : List (Int × Int × Int)) (hl : l.length ≤ 1048576) (w : World) (h0 : RowIn w v0 l) (h : IRow w v m) :
    Calls Tryz.prog 55 #[v0, v] w fun e w' => e = .returned (.bool (decide (intsP l = m))) ∧ Below w.heap.size w w' := by
  obtain ⟨b0, c0, g0, rfl, _, I0⟩ := h0
  obtain ⟨b1, c1, g1, o1, rfl, _, I1⟩ := h
  by_cases hlen : l.length = m.length
  · by_cases hne : l = []
    · subst hne
      obtain rfl : m = [] := List.length_eq_zero_iff.1 hlen.symm
      exact equal_none b0 b1 c0 c1 w
    · have hm : m ≠ [] := by rintro rfl; exact hne (List.length_eq_zero_iff.1 hlen)
      have e0 := I0.addr hne
      obtain ⟨e1, hlow, hints⟩ := I1 hm
      subst e0 e1
      have := equal_o g0 g1 o1 c0 c1 (intsP l) m (by rw [intsP_len]; exact hlen) (by omega) w (I0.low hne) hlow (fun j u hu => I0.cells hne j u (by rw [← flatI_intsP]; exact hu)) hints
      rw [intsP_len] at this
      exact this
  · have hd : ¬ intsP l = m := by rintro rfl; exact hlen (intsP_len l).symm
    rw [decide_eq_false hd]
    exact equal_len b0 b1 _ c0 _ c1 hlen w
theorem equalO_same (v0 v : Value) (l : List (Nat × Nat × Nat)) (hl : l.length ≤ 1048576) (w : World) (h0 : RowIn w v0 l) (h : IRow w v (intsP l)) :
    Calls Tryz.prog 55 #[v0, v] w fun e w' => e = .returned (.bool true) ∧ Below w.heap.size w w' := by
  have := equalO_any v0 v l (intsP l) hl w h0 h
  simpa using this
theorem recutO_any (v : Value) (t ins : ByteArray) (a d : Nat) (h : a + d ≤ t.size) (hok : (piecesR t).2.2 = 0) (hu : (spliceB t a d ins).size ≤ 20000) (w : World) (E : Env w) (hv : IRow w v (intsP (piecesR t).1)) :
    Calls Tryz.prog 56 #[.string t, v, .agg #[.int .i64 (a : Int), .int .i64 (d : Int), .string ins], .string (spliceB t a d ins)] w (PiecesEnd (spliceB t a d ins) w) := by
  obtain ⟨hts, hat, hcut, op, c, hst⟩ := pieces_ok hok
  obtain ⟨b, cap, g, og, rfl, hcap, hI⟩ := hv.pcs
  have hsz := splice_size t ins a d h
  have hlen := (steps_bounds _ _ _ _ _ hst (by omega)).1
  have hsz' : (spliceB t a d ins).size = t.size + ins.size - d := hsz
  refine callsIn_wide.1 (recutO_run b g og cap t (spliceB t a d ins) ins a d (piecesR t).1 (t.size, op, c) w E hu hts hI (by omega) hst rfl ?_ (splice_ahead t ins a d h) (by simp only at hlen; omega) hcap)
  intro i j h1 h2 h3 h4
  have hij : i = j + ins.size - d := by omega
  rw [hij]
  exact splice_behind t ins a d j h (by omega) h4

theorem keptO_any (v0 v : Value) (l m : List (Nat × Nat × Nat)) (shift : Int) (hs : -1048576 ≤ shift ∧ shift ≤ 1048576) (hl : ∀ x ∈ l, x.2.1 + x.2.2 ≤ 1048576) (hln : l.length ≤ 1048576) (hmn : m.length ≤ 1048576) (w : World) (h0 : IRow w v0 (intsP l)) (h : RowIn w v m) :
    Calls Tryz.prog 57 #[v0, v, .int .i64 shift] w fun e w' => e = .returned (.agg #[.int .i64 (frontN l m 0 : Int), .int .i64 (backN l m shift (frontN l m 0) 0 : Int)]) ∧ Below w.heap.size w w' := by
  obtain ⟨b0, c0, g0, o0, rfl, _, I0⟩ := h0.pcs
  obtain ⟨b1, c1, g1, rfl, _, I1⟩ := h
  by_cases hne : l = [] ∨ m = []
  · have hmin : min l.length m.length = 0 := by rcases hne with rfl | rfl <;> simp
    have hk := kept_none b0 b1 l.length c0 m.length c1 shift (by omega) w
    rw [frontN_end (by omega), backN_end (by omega)]
    exact hk
  · have h1 : l ≠ [] := fun e => hne (.inl e)
    have h2 : m ≠ [] := fun e => hne (.inr e)
    have e0 := I0.addr h1
    have e1 := I1.addr h2
    subst e0 e1
    exact kept_o g0 o0 g1 c0 c1 l m shift hs hl hln hmn w (I0.low h1) (I1.low h2) (I0.cells h1) (I1.cells h2)

set_option maxHeartbeats 4000000 in
set_option maxRecDepth 100000 in
theorem updO_ok (v : Value) (t ins : ByteArray) (a d : Nat) (h : a + d ≤ t.size) (hok : (piecesR t).2.2 = 0) (hu : (spliceB t a d ins).size ≤ 20000) (hr : (piecesR (spliceB t a d ins)).2.2 = 0) (w : World) (E : Env w) (hv : IRow w v (intsP (piecesR t).1)) :
    Calls Tryz.prog 35 #[.string t, v, .agg #[.int .i64 (a : Int), .int .i64 (d : Int), .string ins]] w (UpdOk t (spliceB t a d ins) (piecesR t).1 w) := by
  obtain ⟨hts, hat, _, opT, cT, hst⟩ := pieces_ok hok
  obtain ⟨hus, hau, _, opU, cU, hsu⟩ := pieces_ok hr
  have hlen := (steps_bounds _ _ _ _ _ hst (by omega)).1
  have hlenu := (steps_bounds _ _ _ _ _ hsu (by omega)).1
  simp only at hlen hlenu
  have hsz' : (spliceB t a d ins).size = t.size + ins.size - d := splice_size t ins a d h
  have hmem : ∀ x ∈ (piecesR t).1, x.2.1 + x.2.2 ≤ 1048576 := fun x hx => by have := (steps_in _ _ _ _ _ hst x hx).2.1; simp only at this; omega
  obtain ⟨u, hue⟩ : ∃ u, u = spliceB t a d ins := ⟨_, rfl⟩
  have hp := fun W E => pieces_all t W E
  unfold PiecesEnd at hp
  rw [hok, hat] at hp
  have hch := fun W => change_ok t ins a d h (by omega) W
  have hrc := fun W E hv => recutO_any v t ins a d h hok hu W E hv
  unfold PiecesEnd at hrc
  rw [hr, hau] at hrc
  rw [← hue] at hch hrc hr hau hlenu hsz' hu hsu ⊢
  obtain ⟨L, hL⟩ : ∃ L, L = (piecesR t).1 := ⟨_, rfl⟩
  obtain ⟨m, hm⟩ : ∃ m, m = (piecesR u).1 := ⟨_, rfl⟩
  unfold UpdOk
  rw [← hL] at hp hrc hv hlen hmem
  rw [← hL, ← hm]
  rw [← hm] at hrc hlenu
  have HP := Lib.hid hp; have HCH := Lib.hid hch; have HRC := Lib.hid hrc; have HV := Lib.hid hv; have HMEM := Lib.hid hmem
  have HE := Lib.hid (fun (W : World) (h : Below w.heap.size w W) => E.below E.size h)
  have hlu : ((20000 : Int) < (u.size : Int)) = False := by simp; omega
  have wsub : IntKind.i64.wrap ((u.size : Int) - (t.size : Int)) = (u.size : Int) - (t.size : Int) := IntWalk.i64_in _ (by omega)
  clear hp hch hrc hv hmem E hok hr hue hst hsu hL hm hat hau hsz' hus
  go_enter Tryz.func35, Tryz.ntmps35
  go_wp2_with fail
  refine (HP.out _ (HE.out _ (((Below.refl _ w).alloc (Nat.le_refl _) _).alloc (by simp) _))).mono ?_
  rintro e w1 ⟨v0, rfl, hrow, hb⟩
  have hB1 : Below w.heap.size w w1 := (((Below.refl _ w).alloc (Nat.le_refl _) _).alloc (by simp) _).trans (hb.mono (by simp; omega))
  have e1 : w1.heap[w.heap.size + 1]? = some (.cells #[.int .i64 0, .int .i64 0] 55) := (hb.block _ (by simp)).trans (by have := World.alloc_heap_new (w.alloc (.cells #[.int .i64 (a : Int), .int .i64 (d : Int), .string ins] 40)) (.cells #[.int .i64 0, .int .i64 0] 55); simpa using this)
  have hk1 : ∀ k o, k < w.heap.size + 2 → w1.cell? ⟨k, o, none⟩ = _ := fun k o hk => hb.cell (p := ⟨k, o, none⟩) (by simp; omega)
  have c0 : w1.cell? ⟨w.heap.size, 0, none⟩ = some (.int .i64 (a : Int)) := (hk1 _ _ (by omega)).trans (by simp)
  have c1 : w1.cell? ⟨w.heap.size, 1, none⟩ = some (.int .i64 (d : Int)) := (hk1 _ _ (by omega)).trans (by simp)
  have c2 : w1.cell? ⟨w.heap.size, 2, none⟩ = some (.string ins) := (hk1 _ _ (by omega)).trans (by simp)
  have hz1 := hb.size
  simp only [World.size_alloc] at hz1
  have RV := HV.out.below hB1
  have R0 := RowIn.of_owns hrow
  have HB1 := Lib.hid hB1; have HRV := Lib.hid RV; have HR0 := Lib.hid R0
  clear hk1 hrow hb hB1 RV R0 HP
  go_wp2_with fail
  refine (equalO_same v0 v L (by omega) w1 HR0.out HRV.out).mono ?_
  rintro e w2 ⟨rfl, hb2⟩
  have d0 : w2.cell? ⟨w.heap.size, 0, none⟩ = some (.int .i64 (a : Int)) := (hb2.cell (p := ⟨w.heap.size, 0, none⟩) (by simp; omega)).trans c0
  have d1 : w2.cell? ⟨w.heap.size, 1, none⟩ = some (.int .i64 (d : Int)) := (hb2.cell (p := ⟨w.heap.size, 1, none⟩) (by simp; omega)).trans c1
  have d2 : w2.cell? ⟨w.heap.size, 2, none⟩ = some (.string ins) := (hb2.cell (p := ⟨w.heap.size, 2, none⟩) (by simp; omega)).trans c2
  have hz2 := hb2.size
  have e2 := (hb2.block _ (by omega)).trans e1
  have HB2 := Lib.hid (HB1.out.trans (hb2.mono HB1.out.size)); have HRV2 := Lib.hid (HRV.out.below hb2)
  clear HB1 HRV HR0 hb2 c0 c1 c2
  go_wp2_with fail
  refine (HCH.out _).mono ?_
  rintro e w3 ⟨rfl, hb3⟩
  have c0 : w3.cell? ⟨w.heap.size, 0, none⟩ = some (.int .i64 (a : Int)) := (hb3.cell (p := ⟨w.heap.size, 0, none⟩) (by simp; omega)).trans d0
  have c1 : w3.cell? ⟨w.heap.size, 1, none⟩ = some (.int .i64 (d : Int)) := (hb3.cell (p := ⟨w.heap.size, 1, none⟩) (by simp; omega)).trans d1
  have c2 : w3.cell? ⟨w.heap.size, 2, none⟩ = some (.string ins) := (hb3.cell (p := ⟨w.heap.size, 2, none⟩) (by simp; omega)).trans d2
  have hz3 := hb3.size
  have e3 := (hb3.block _ (by omega)).trans e2
  have HB3 := Lib.hid (HB2.out.trans (hb3.mono HB2.out.size)); have HRV3 := Lib.hid (HRV2.out.below hb3)
  clear HB2 HRV2 HCH hb3 d0 d1 d2
  go_wp2_with fail
  refine (HRC.out _ (HE.out _ HB3.out) HRV3.out).mono ?_
  rintro e w4 ⟨v', rfl, hrow4, hb4⟩
  have hz4 := hb4.size
  have e4 := (hb4.block _ (by omega)).trans e3
  have HB4 := Lib.hid (HB3.out.trans (hb4.mono HB3.out.size)); have HRV4 := Lib.hid (HRV3.out.below hb4); have HR4 := Lib.hid (RowIn.of_owns hrow4)
  have HROW := Lib.hid hrow4
  have hvs : ∃ b0 c0, v' = .slice b0 m.length c0 := by
    rcases hrow4.2 with ⟨rfl, h0⟩ | ⟨g, cap, cur, rfl, _⟩
    · exact ⟨none, 0, by rw [h0]⟩
    · exact ⟨_, _, rfl⟩
  obtain ⟨b0, c0', rfl⟩ := hvs
  clear HB3 HRV3 HRC hb4 hrow4 c0 c1 c2
  go_wp2_with fail
  refine (keptO_any v _ L m ((u.size : Int) - (t.size : Int)) (by omega) HMEM.out (by omega) (by omega) _ HRV4.out HR4.out).mono ?_
  rintro e w5 ⟨rfl, hb5⟩
  have e5 := (hb5.block _ (by omega)).trans e4
  have k0 : w5.cell? ⟨w.heap.size + 1, 0, none⟩ = some (.int .i64 0) := cell_at e5
  have k1 : w5.cell? ⟨w.heap.size + 1, 1, none⟩ = some (.int .i64 0) := cell_at e5
  have k2 : w5.frozen? ⟨w.heap.size + 1, 0, none⟩ = false := frozen_at e5
  have k3 : w5.frozen? ⟨w.heap.size + 1, 1, none⟩ = false := frozen_at e5
  have HE5 := Lib.hid e5
  clear e1 e2 e3 e4 e5
  have HB5 := Lib.hid (HB4.out.trans (hb5.mono HB4.out.size))
  have HROW5 := Lib.hid (row_same HROW.out (fun k _ h2 => hb5.block k h2))
  clear HB4 HRV4 HR4 HROW hb5
  go_wp2_with fail
  obtain ⟨W6, hW6⟩ : ∃ W6, W6 = ((w5.setCell ⟨w.heap.size + 1, 0, none⟩ (.int .i64 (frontN L m 0 : Int))).setCell ⟨w.heap.size + 1, 1, none⟩ (.int .i64 (backN L m ((u.size : Int) - (t.size : Int)) (frontN L m 0) 0 : Int))) := ⟨_, rfl⟩
  have r1 : W6.cell? ⟨w.heap.size + 1, 1, none⟩ = some (.int .i64 (backN L m ((u.size : Int) - (t.size : Int)) (frontN L m 0) 0 : Int)) := by
    rw [hW6]; exact World.cell?_setCell_same' _ _ _ (by rw [World.cell?_setCell_other _ _ _ _ (by simp), k1]; rfl)
  have r0 : W6.cell? ⟨w.heap.size + 1, 0, none⟩ = some (.int .i64 (frontN L m 0 : Int)) := by
    rw [hW6, World.cell?_setCell_other _ _ _ _ (by simp)]; exact World.cell?_setCell_same' _ _ _ (by rw [k0]; rfl)
  rw [← hW6]
  refine bodyPost_ret (v := .tuple #[.slice b0 m.length c0', .agg #[.int .i64 (frontN L m 0 : Int), .int .i64 (backN L m ((u.size : Int) - (t.size : Int)) (frontN L m 0) 0 : Int)], .int .i64 0, .int .i64 0]) ?_ rfl ⟨_, rfl, ?_, ?_⟩
  · simp [results, Tryz.results35, go_sem, r0, r1]
  · rw [hW6]
    refine row_base (base := w3.heap.size) (row_same HROW5.out fun k h1 h2 => ?_) (by omega)
    rw [Below.heap_setCell _ _ _ _ (by simp; omega), Below.heap_setCell _ _ _ _ (by simp; omega)]
  · rw [hW6]
    exact (HB5.out.setCell (p := ⟨w.heap.size + 1, 0, none⟩) (by simp) _).setCell (p := ⟨w.heap.size + 1, 1, none⟩) (by simp) _
end

section
open Go.RowKit Go.Shelf

def UpdIs (i c : Int) (w : World) (e : Ending) (w' : World) : Prop :=
  e = .returned (.tuple #[.slice none 0 0, .agg #[.int .i64 0, .int .i64 0], .int .i64 i, .int .i64 c]) ∧ Below w.heap.size w w'

set_option maxHeartbeats 4000000 in
set_option maxRecDepth 100000 in
theorem updO_pieces (v : Value) (t ins : ByteArray) (a d : Int) (hbad : (piecesR t).2.2 ≠ 0) (w : World) (E : Env w) :
    Calls Tryz.prog 35 #[.string t, v, .agg #[.int .i64 a, .int .i64 d, .string ins]] w (UpdIs 0 15 w) := by
  have hp := fun W E => pieces_all t W E
  unfold PiecesEnd at hp
  obtain ⟨c, hc⟩ : ∃ c, c = (piecesR t).2.2 := ⟨_, rfl⟩
  rw [← hc] at hp hbad
  have HP := Lib.hid hp
  have HE := Lib.hid (fun (W : World) (h : Below w.heap.size w W) => E.below E.size h)
  have hcn : ((c : Int) != 0) = true := by rw [bne_iff_ne]; omega
  clear hp E hc hbad
  go_enter Tryz.func35, Tryz.ntmps35
  go_wp2_with fail
  refine (HP.out _ (HE.out _ (((Below.refl _ w).alloc (Nat.le_refl _) _).alloc (by simp) _))).mono ?_
  rintro e w1 ⟨v0, rfl, hrow, hb⟩
  have hB1 : Below w.heap.size w w1 := (((Below.refl _ w).alloc (Nat.le_refl _) _).alloc (by simp) _).trans (hb.mono (by simp; omega))
  have e1 : w1.heap[w.heap.size + 1]? = some (.cells #[.int .i64 0, .int .i64 0] 55) := (hb.block _ (by simp)).trans (by have := World.alloc_heap_new (w.alloc (.cells #[.int .i64 a, .int .i64 d, .string ins] 40)) (.cells #[.int .i64 0, .int .i64 0] 55); simpa using this)
  have hz1 := hb.size
  simp only [World.size_alloc] at hz1
  have hend := upd_end hB1 e1 _ rfl
  have k0 : w1.cell? ⟨w.heap.size + 1, 0, none⟩ = some (.int .i64 0) := cell_at e1
  have k1 : w1.cell? ⟨w.heap.size + 1, 1, none⟩ = some (.int .i64 0) := cell_at e1
  have k2 : w1.frozen? ⟨w.heap.size + 1, 0, none⟩ = false := frozen_at e1
  have k3 : w1.frozen? ⟨w.heap.size + 1, 1, none⟩ = false := frozen_at e1
  have HEND := Lib.hid hend
  clear hend hb hrow HP HE hB1 e1
  go_wp2_with fail
  have h0 := HEND.out.1; have h1 := HEND.out.2.1
  refine bodyPost_ret (v := .tuple #[.slice none 0 0, .agg #[.int .i64 0, .int .i64 0], .int .i64 0, .int .i64 15]) ?_ rfl ⟨rfl, HEND.out.2.2⟩
  simp [results, Tryz.results35, go_sem, h0, h1]
set_option maxHeartbeats 4000000 in
set_option maxRecDepth 100000 in
theorem updO_arg (v : Value) (t ins : ByteArray) (a d : Int) (hok : (piecesR t).2.2 = 0) (hno : a < 0 ∨ (t.size : Int) < a ∨ d < 0 ∨ (t.size : Int) - a < d) (w : World) (E : Env w) (hv : IRow w v (intsP (piecesR t).1)) :
    Calls Tryz.prog 35 #[.string t, v, .agg #[.int .i64 a, .int .i64 d, .string ins]] w (UpdIs 0 1 w) := by
  obtain ⟨hts, hat, _, opT, cT, hst⟩ := pieces_ok hok
  have hlen := (steps_bounds _ _ _ _ _ hst (by omega)).1
  simp only at hlen
  have hp := fun W E => pieces_all t W E
  unfold PiecesEnd at hp
  rw [hok, hat] at hp
  have hch := fun W => change_no t ins a d hno (by omega) W
  have HCH := Lib.hid hch
  clear hch hno
  obtain ⟨L, hL⟩ : ∃ L, L = (piecesR t).1 := ⟨_, rfl⟩
  rw [← hL] at hp hv hlen
  have HP := Lib.hid hp; have HV := Lib.hid hv
  have HE := Lib.hid (fun (W : World) (h : Below w.heap.size w W) => E.below E.size h)
  clear hp hv E hok hst hL hat
  go_enter Tryz.func35, Tryz.ntmps35
  go_wp2_with fail
  refine (HP.out _ (HE.out _ (((Below.refl _ w).alloc (Nat.le_refl _) _).alloc (by simp) _))).mono ?_
  rintro e w1 ⟨v0, rfl, hrow, hb⟩
  have hB1 : Below w.heap.size w w1 := (((Below.refl _ w).alloc (Nat.le_refl _) _).alloc (by simp) _).trans (hb.mono (by simp; omega))
  have e1 : w1.heap[w.heap.size + 1]? = some (.cells #[.int .i64 0, .int .i64 0] 55) := (hb.block _ (by simp)).trans (by have := World.alloc_heap_new (w.alloc (.cells #[.int .i64 a, .int .i64 d, .string ins] 40)) (.cells #[.int .i64 0, .int .i64 0] 55); simpa using this)
  have hk1 : ∀ k o, k < w.heap.size + 2 → w1.cell? ⟨k, o, none⟩ = _ := fun k o hk => hb.cell (p := ⟨k, o, none⟩) (by simp; omega)
  have c0 : w1.cell? ⟨w.heap.size, 0, none⟩ = some (.int .i64 a) := (hk1 _ _ (by omega)).trans (by simp)
  have c1 : w1.cell? ⟨w.heap.size, 1, none⟩ = some (.int .i64 d) := (hk1 _ _ (by omega)).trans (by simp)
  have c2 : w1.cell? ⟨w.heap.size, 2, none⟩ = some (.string ins) := (hk1 _ _ (by omega)).trans (by simp)
  have hz1 := hb.size
  simp only [World.size_alloc] at hz1
  have RV := HV.out.below hB1
  have R0 := RowIn.of_owns hrow
  have HB1 := Lib.hid hB1; have HRV := Lib.hid RV; have HR0 := Lib.hid R0
  clear hk1 hrow hb hB1 RV R0 HP
  go_wp2_with fail
  refine (equalO_same v0 v L (by omega) w1 HR0.out HRV.out).mono ?_
  rintro e w2 ⟨rfl, hb2⟩
  have d0 : w2.cell? ⟨w.heap.size, 0, none⟩ = some (.int .i64 a) := (hb2.cell (p := ⟨w.heap.size, 0, none⟩) (by simp; omega)).trans c0
  have d1 : w2.cell? ⟨w.heap.size, 1, none⟩ = some (.int .i64 d) := (hb2.cell (p := ⟨w.heap.size, 1, none⟩) (by simp; omega)).trans c1
  have d2 : w2.cell? ⟨w.heap.size, 2, none⟩ = some (.string ins) := (hb2.cell (p := ⟨w.heap.size, 2, none⟩) (by simp; omega)).trans c2
  have hz2 := hb2.size
  have e2 := (hb2.block _ (by omega)).trans e1
  have HB2 := Lib.hid (HB1.out.trans (hb2.mono HB1.out.size)); have HRV2 := Lib.hid (HRV.out.below hb2)
  clear HB1 HRV HR0 hb2 c0 c1 c2
  go_wp2_with fail
  refine (HCH.out _).mono ?_
  rintro e w3 ⟨rfl, hb3⟩
  have c0 : w3.cell? ⟨w.heap.size, 0, none⟩ = some (.int .i64 a) := (hb3.cell (p := ⟨w.heap.size, 0, none⟩) (by simp; omega)).trans d0
  have c1 : w3.cell? ⟨w.heap.size, 1, none⟩ = some (.int .i64 d) := (hb3.cell (p := ⟨w.heap.size, 1, none⟩) (by simp; omega)).trans d1
  have c2 : w3.cell? ⟨w.heap.size, 2, none⟩ = some (.string ins) := (hb3.cell (p := ⟨w.heap.size, 2, none⟩) (by simp; omega)).trans d2
  have hz3 := hb3.size
  have e3 := (hb3.block _ (by omega)).trans e2
  have HB3 := Lib.hid (HB2.out.trans (hb3.mono HB2.out.size)); have HRV3 := Lib.hid (HRV2.out.below hb3)
  clear HB2 HRV2 HCH hb3 d0 d1 d2
  have hend := upd_end HB3.out e3 _ rfl
  have k0 : w3.cell? ⟨w.heap.size + 1, 0, none⟩ = some (.int .i64 0) := cell_at e3
  have k1 : w3.cell? ⟨w.heap.size + 1, 1, none⟩ = some (.int .i64 0) := cell_at e3
  have k2 : w3.frozen? ⟨w.heap.size + 1, 0, none⟩ = false := frozen_at e3
  have k3 : w3.frozen? ⟨w.heap.size + 1, 1, none⟩ = false := frozen_at e3
  have HEND := Lib.hid hend
  clear hend HE
  go_wp2_with fail
  have h0 := HEND.out.1; have h1 := HEND.out.2.1
  refine bodyPost_ret (v := .tuple #[.slice none 0 0, .agg #[.int .i64 0, .int .i64 0], .int .i64 0, .int .i64 1]) ?_ rfl ⟨rfl, HEND.out.2.2⟩
  simp [results, Tryz.results35, go_sem, h0, h1]

set_option maxHeartbeats 4000000 in
set_option maxRecDepth 100000 in
theorem updO_long (v : Value) (t ins : ByteArray) (a d : Nat) (h : a + d ≤ t.size) (hins : t.size + ins.size ≤ 9223372036854775807) (hok : (piecesR t).2.2 = 0) (hu : 20000 < (spliceB t a d ins).size) (w : World) (E : Env w) (hv : IRow w v (intsP (piecesR t).1)) :
    Calls Tryz.prog 35 #[.string t, v, .agg #[.int .i64 (a : Int), .int .i64 (d : Int), .string ins]] w (UpdIs 0 2 w) := by
  obtain ⟨hts, hat, _, opT, cT, hst⟩ := pieces_ok hok
  have hlen := (steps_bounds _ _ _ _ _ hst (by omega)).1
  simp only at hlen
  have hp := fun W E => pieces_all t W E
  unfold PiecesEnd at hp
  rw [hok, hat] at hp
  obtain ⟨u, hue⟩ : ∃ u, u = spliceB t a d ins := ⟨_, rfl⟩
  have hch := fun W => change_ok t ins a d h hins W
  rw [← hue] at hch hu
  have HCH := Lib.hid hch
  have hlu : ((20000 : Int) < (u.size : Int)) = True := by simp; omega
  clear hch hue h
  obtain ⟨L, hL⟩ : ∃ L, L = (piecesR t).1 := ⟨_, rfl⟩
  rw [← hL] at hp hv hlen
  have HP := Lib.hid hp; have HV := Lib.hid hv
  have HE := Lib.hid (fun (W : World) (h : Below w.heap.size w W) => E.below E.size h)
  clear hp hv E hok hst hL hat
  go_enter Tryz.func35, Tryz.ntmps35
  go_wp2_with fail
  refine (HP.out _ (HE.out _ (((Below.refl _ w).alloc (Nat.le_refl _) _).alloc (by simp) _))).mono ?_
  rintro e w1 ⟨v0, rfl, hrow, hb⟩
  have hB1 : Below w.heap.size w w1 := (((Below.refl _ w).alloc (Nat.le_refl _) _).alloc (by simp) _).trans (hb.mono (by simp; omega))
  have e1 : w1.heap[w.heap.size + 1]? = some (.cells #[.int .i64 0, .int .i64 0] 55) := (hb.block _ (by simp)).trans (by have := World.alloc_heap_new (w.alloc (.cells #[.int .i64 (a : Int), .int .i64 (d : Int), .string ins] 40)) (.cells #[.int .i64 0, .int .i64 0] 55); simpa using this)
  have hk1 : ∀ k o, k < w.heap.size + 2 → w1.cell? ⟨k, o, none⟩ = _ := fun k o hk => hb.cell (p := ⟨k, o, none⟩) (by simp; omega)
  have c0 : w1.cell? ⟨w.heap.size, 0, none⟩ = some (.int .i64 (a : Int)) := (hk1 _ _ (by omega)).trans (by simp)
  have c1 : w1.cell? ⟨w.heap.size, 1, none⟩ = some (.int .i64 (d : Int)) := (hk1 _ _ (by omega)).trans (by simp)
  have c2 : w1.cell? ⟨w.heap.size, 2, none⟩ = some (.string ins) := (hk1 _ _ (by omega)).trans (by simp)
  have hz1 := hb.size
  simp only [World.size_alloc] at hz1
  have RV := HV.out.below hB1
  have R0 := RowIn.of_owns hrow
  have HB1 := Lib.hid hB1; have HRV := Lib.hid RV; have HR0 := Lib.hid R0
  clear hk1 hrow hb hB1 RV R0 HP
  go_wp2_with fail
  refine (equalO_same v0 v L (by omega) w1 HR0.out HRV.out).mono ?_
  rintro e w2 ⟨rfl, hb2⟩
  have d0 : w2.cell? ⟨w.heap.size, 0, none⟩ = some (.int .i64 (a : Int)) := (hb2.cell (p := ⟨w.heap.size, 0, none⟩) (by simp; omega)).trans c0
  have d1 : w2.cell? ⟨w.heap.size, 1, none⟩ = some (.int .i64 (d : Int)) := (hb2.cell (p := ⟨w.heap.size, 1, none⟩) (by simp; omega)).trans c1
  have d2 : w2.cell? ⟨w.heap.size, 2, none⟩ = some (.string ins) := (hb2.cell (p := ⟨w.heap.size, 2, none⟩) (by simp; omega)).trans c2
  have hz2 := hb2.size
  have e2 := (hb2.block _ (by omega)).trans e1
  have HB2 := Lib.hid (HB1.out.trans (hb2.mono HB1.out.size)); have HRV2 := Lib.hid (HRV.out.below hb2)
  clear HB1 HRV HR0 hb2 c0 c1 c2
  go_wp2_with fail
  refine (HCH.out _).mono ?_
  rintro e w3 ⟨rfl, hb3⟩
  have c0 : w3.cell? ⟨w.heap.size, 0, none⟩ = some (.int .i64 (a : Int)) := (hb3.cell (p := ⟨w.heap.size, 0, none⟩) (by simp; omega)).trans d0
  have c1 : w3.cell? ⟨w.heap.size, 1, none⟩ = some (.int .i64 (d : Int)) := (hb3.cell (p := ⟨w.heap.size, 1, none⟩) (by simp; omega)).trans d1
  have c2 : w3.cell? ⟨w.heap.size, 2, none⟩ = some (.string ins) := (hb3.cell (p := ⟨w.heap.size, 2, none⟩) (by simp; omega)).trans d2
  have hz3 := hb3.size
  have e3 := (hb3.block _ (by omega)).trans e2
  have HB3 := Lib.hid (HB2.out.trans (hb3.mono HB2.out.size)); have HRV3 := Lib.hid (HRV2.out.below hb3)
  clear HB2 HRV2 HCH hb3 d0 d1 d2
  have hend := upd_end HB3.out e3 _ rfl
  have k0 : w3.cell? ⟨w.heap.size + 1, 0, none⟩ = some (.int .i64 0) := cell_at e3
  have k1 : w3.cell? ⟨w.heap.size + 1, 1, none⟩ = some (.int .i64 0) := cell_at e3
  have k2 : w3.frozen? ⟨w.heap.size + 1, 0, none⟩ = false := frozen_at e3
  have k3 : w3.frozen? ⟨w.heap.size + 1, 1, none⟩ = false := frozen_at e3
  have HEND := Lib.hid hend
  clear hend HE
  go_wp2_with fail
  have h0 := HEND.out.1; have h1 := HEND.out.2.1
  refine bodyPost_ret (v := .tuple #[.slice none 0 0, .agg #[.int .i64 0, .int .i64 0], .int .i64 0, .int .i64 2]) ?_ rfl ⟨rfl, HEND.out.2.2⟩
  simp [results, Tryz.results35, go_sem, h0, h1]

set_option maxHeartbeats 4000000 in
set_option maxRecDepth 100000 in
theorem updO_bad (v : Value) (t ins : ByteArray) (a d : Nat) (h : a + d ≤ t.size) (hok : (piecesR t).2.2 = 0) (hu : (spliceB t a d ins).size ≤ 20000) (hr : (piecesR (spliceB t a d ins)).2.2 ≠ 0) (w : World) (E : Env w) (hv : IRow w v (intsP (piecesR t).1)) :
    Calls Tryz.prog 35 #[.string t, v, .agg #[.int .i64 (a : Int), .int .i64 (d : Int), .string ins]] w (UpdIs ((piecesR (spliceB t a d ins)).2.1 : Int) ((piecesR (spliceB t a d ins)).2.2 : Int) w) := by
  obtain ⟨hts, hat, _, opT, cT, hst⟩ := pieces_ok hok
  have hlen := (steps_bounds _ _ _ _ _ hst (by omega)).1
  simp only at hlen
  have hp := fun W E => pieces_all t W E
  unfold PiecesEnd at hp
  rw [hok, hat] at hp
  have hsz' : (spliceB t a d ins).size = t.size + ins.size - d := splice_size t ins a d h
  have hch := fun W => change_ok t ins a d h (by omega) W
  have hrc := fun W E hv => recutO_any v t ins a d h hok hu W E hv
  unfold PiecesEnd at hrc
  unfold UpdIs
  obtain ⟨u, hue⟩ : ∃ u, u = spliceB t a d ins := ⟨_, rfl⟩
  rw [← hue] at hch hu hrc hr ⊢
  obtain ⟨ci, hci⟩ : ∃ c, c = (piecesR u).2.1 := ⟨_, rfl⟩
  obtain ⟨cc, hcc⟩ : ∃ c, c = (piecesR u).2.2 := ⟨_, rfl⟩
  rw [← hci, ← hcc] at hrc ⊢
  rw [← hcc] at hr
  have hcn : ((cc : Int) != 0) = true := by rw [bne_iff_ne]; omega
  have HCH := Lib.hid hch
  have hlu : ((20000 : Int) < (u.size : Int)) = False := by simp; omega
  clear hch hue h hci hcc hsz'
  obtain ⟨L, hL⟩ : ∃ L, L = (piecesR t).1 := ⟨_, rfl⟩
  rw [← hL] at hp hv hlen hrc
  have HP := Lib.hid hp; have HV := Lib.hid hv; have HRC := Lib.hid hrc
  have HE := Lib.hid (fun (W : World) (h : Below w.heap.size w W) => E.below E.size h)
  clear hp hv E hok hst hL hat hrc
  go_enter Tryz.func35, Tryz.ntmps35
  go_wp2_with fail
  refine (HP.out _ (HE.out _ (((Below.refl _ w).alloc (Nat.le_refl _) _).alloc (by simp) _))).mono ?_
  rintro e w1 ⟨v0, rfl, hrow, hb⟩
  have hB1 : Below w.heap.size w w1 := (((Below.refl _ w).alloc (Nat.le_refl _) _).alloc (by simp) _).trans (hb.mono (by simp; omega))
  have e1 : w1.heap[w.heap.size + 1]? = some (.cells #[.int .i64 0, .int .i64 0] 55) := (hb.block _ (by simp)).trans (by have := World.alloc_heap_new (w.alloc (.cells #[.int .i64 (a : Int), .int .i64 (d : Int), .string ins] 40)) (.cells #[.int .i64 0, .int .i64 0] 55); simpa using this)
  have hk1 : ∀ k o, k < w.heap.size + 2 → w1.cell? ⟨k, o, none⟩ = _ := fun k o hk => hb.cell (p := ⟨k, o, none⟩) (by simp; omega)
  have c0 : w1.cell? ⟨w.heap.size, 0, none⟩ = some (.int .i64 (a : Int)) := (hk1 _ _ (by omega)).trans (by simp)
  have c1 : w1.cell? ⟨w.heap.size, 1, none⟩ = some (.int .i64 (d : Int)) := (hk1 _ _ (by omega)).trans (by simp)
  have c2 : w1.cell? ⟨w.heap.size, 2, none⟩ = some (.string ins) := (hk1 _ _ (by omega)).trans (by simp)
  have hz1 := hb.size
  simp only [World.size_alloc] at hz1
  have RV := HV.out.below hB1
  have R0 := RowIn.of_owns hrow
  have HB1 := Lib.hid hB1; have HRV := Lib.hid RV; have HR0 := Lib.hid R0
  clear hk1 hrow hb hB1 RV R0 HP
  go_wp2_with fail
  refine (equalO_same v0 v L (by omega) w1 HR0.out HRV.out).mono ?_
  rintro e w2 ⟨rfl, hb2⟩
  have d0 : w2.cell? ⟨w.heap.size, 0, none⟩ = some (.int .i64 (a : Int)) := (hb2.cell (p := ⟨w.heap.size, 0, none⟩) (by simp; omega)).trans c0
  have d1 : w2.cell? ⟨w.heap.size, 1, none⟩ = some (.int .i64 (d : Int)) := (hb2.cell (p := ⟨w.heap.size, 1, none⟩) (by simp; omega)).trans c1
  have d2 : w2.cell? ⟨w.heap.size, 2, none⟩ = some (.string ins) := (hb2.cell (p := ⟨w.heap.size, 2, none⟩) (by simp; omega)).trans c2
  have hz2 := hb2.size
  have e2 := (hb2.block _ (by omega)).trans e1
  have HB2 := Lib.hid (HB1.out.trans (hb2.mono HB1.out.size)); have HRV2 := Lib.hid (HRV.out.below hb2)
  clear HB1 HRV HR0 hb2 c0 c1 c2
  go_wp2_with fail
  refine (HCH.out _).mono ?_
  rintro e w3 ⟨rfl, hb3⟩
  have c0 : w3.cell? ⟨w.heap.size, 0, none⟩ = some (.int .i64 (a : Int)) := (hb3.cell (p := ⟨w.heap.size, 0, none⟩) (by simp; omega)).trans d0
  have c1 : w3.cell? ⟨w.heap.size, 1, none⟩ = some (.int .i64 (d : Int)) := (hb3.cell (p := ⟨w.heap.size, 1, none⟩) (by simp; omega)).trans d1
  have c2 : w3.cell? ⟨w.heap.size, 2, none⟩ = some (.string ins) := (hb3.cell (p := ⟨w.heap.size, 2, none⟩) (by simp; omega)).trans d2
  have hz3 := hb3.size
  have e3 := (hb3.block _ (by omega)).trans e2
  have HB3 := Lib.hid (HB2.out.trans (hb3.mono HB2.out.size)); have HRV3 := Lib.hid (HRV2.out.below hb3)
  clear HB2 HRV2 HCH hb3 d0 d1 d2
  go_wp2_with fail
  refine (HRC.out _ (HE.out _ HB3.out) HRV3.out).mono ?_
  rintro e w4 ⟨v', rfl, hrow4, hb4⟩
  have hz4 := hb4.size
  have HB4 := Lib.hid (HB3.out.trans (hb4.mono HB3.out.size))
  have e4 := (hb4.block _ (by omega)).trans e3
  clear HB3 HRV3 HRC hb4 hrow4 c0 c1 c2
  have hend := upd_end HB4.out e4 _ rfl
  have k0 : w4.cell? ⟨w.heap.size + 1, 0, none⟩ = some (.int .i64 0) := cell_at e4
  have k1 : w4.cell? ⟨w.heap.size + 1, 1, none⟩ = some (.int .i64 0) := cell_at e4
  have k2 : w4.frozen? ⟨w.heap.size + 1, 0, none⟩ = false := frozen_at e4
  have k3 : w4.frozen? ⟨w.heap.size + 1, 1, none⟩ = false := frozen_at e4
  have HEND := Lib.hid hend
  clear hend HE
  go_wp2_with fail
  have h0 := HEND.out.1; have h1 := HEND.out.2.1
  refine bodyPost_ret (v := .tuple #[.slice none 0 0, .agg #[.int .i64 0, .int .i64 0], .int .i64 (ci : Int), .int .i64 (cc : Int)]) ?_ rfl ⟨rfl, HEND.out.2.2⟩
  simp [results, Tryz.results35, go_sem, h0, h1]

set_option maxHeartbeats 4000000 in
set_option maxRecDepth 100000 in
theorem updO_wrong (v : Value) (t ins : ByteArray) (a d : Int) (hok : (piecesR t).2.2 = 0) (li : List (Int × Int × Int)) (hne : ¬ intsP (piecesR t).1 = li) (w : World) (E : Env w) (hv : IRow w v li) :
    Calls Tryz.prog 35 #[.string t, v, .agg #[.int .i64 a, .int .i64 d, .string ins]] w (UpdIs 0 15 w) := by
  obtain ⟨hts, hat, _, opT, cT, hst⟩ := pieces_ok hok
  have hlen := (steps_bounds _ _ _ _ _ hst (by omega)).1
  simp only at hlen
  have hp := fun W E => pieces_all t W E
  unfold PiecesEnd at hp
  rw [hok, hat] at hp
  obtain ⟨L, hL⟩ : ∃ L, L = (piecesR t).1 := ⟨_, rfl⟩
  rw [← hL] at hp hlen hne
  have HP := Lib.hid hp; have HV := Lib.hid hv
  have HE := Lib.hid (fun (W : World) (h : Below w.heap.size w W) => E.below E.size h)
  have HNE := Lib.hid (decide_eq_false hne)
  clear hp hv hne E hok hst hL hat
  go_enter Tryz.func35, Tryz.ntmps35
  go_wp2_with fail
  refine (HP.out _ (HE.out _ (((Below.refl _ w).alloc (Nat.le_refl _) _).alloc (by simp) _))).mono ?_
  rintro e w1 ⟨v0, rfl, hrow, hb⟩
  have hB1 : Below w.heap.size w w1 := (((Below.refl _ w).alloc (Nat.le_refl _) _).alloc (by simp) _).trans (hb.mono (by simp; omega))
  have e1 : w1.heap[w.heap.size + 1]? = some (.cells #[.int .i64 0, .int .i64 0] 55) := (hb.block _ (by simp)).trans (by have := World.alloc_heap_new (w.alloc (.cells #[.int .i64 a, .int .i64 d, .string ins] 40)) (.cells #[.int .i64 0, .int .i64 0] 55); simpa using this)
  have hk1 : ∀ k o, k < w.heap.size + 2 → w1.cell? ⟨k, o, none⟩ = _ := fun k o hk => hb.cell (p := ⟨k, o, none⟩) (by simp; omega)
  have c0 : w1.cell? ⟨w.heap.size, 0, none⟩ = some (.int .i64 a) := (hk1 _ _ (by omega)).trans (by simp)
  have c1 : w1.cell? ⟨w.heap.size, 1, none⟩ = some (.int .i64 d) := (hk1 _ _ (by omega)).trans (by simp)
  have c2 : w1.cell? ⟨w.heap.size, 2, none⟩ = some (.string ins) := (hk1 _ _ (by omega)).trans (by simp)
  have hz1 := hb.size
  simp only [World.size_alloc] at hz1
  have RV := HV.out.below hB1
  have R0 := RowIn.of_owns hrow
  have HB1 := Lib.hid hB1; have HRV := Lib.hid RV; have HR0 := Lib.hid R0
  clear hk1 hrow hb hB1 RV R0 HP
  go_wp2_with fail
  have heq := equalO_any v0 v L li (by omega) w1 HR0.out HRV.out
  rw [HNE.out] at heq
  refine heq.mono ?_
  rintro e w2 ⟨rfl, hb2⟩
  have hz2 := hb2.size
  have e2 := (hb2.block _ (by omega)).trans e1
  have HB2 := Lib.hid (HB1.out.trans (hb2.mono HB1.out.size))
  clear HB1 HRV HR0 hb2 c0 c1 c2 heq
  have hend := upd_end HB2.out e2 _ rfl
  have k0 : w2.cell? ⟨w.heap.size + 1, 0, none⟩ = some (.int .i64 0) := cell_at e2
  have k1 : w2.cell? ⟨w.heap.size + 1, 1, none⟩ = some (.int .i64 0) := cell_at e2
  have k2 : w2.frozen? ⟨w.heap.size + 1, 0, none⟩ = false := frozen_at e2
  have k3 : w2.frozen? ⟨w.heap.size + 1, 1, none⟩ = false := frozen_at e2
  have HEND := Lib.hid hend
  clear hend HE
  go_wp2_with fail
  have h0 := HEND.out.1; have h1 := HEND.out.2.1
  refine bodyPost_ret (v := .tuple #[.slice none 0 0, .agg #[.int .i64 0, .int .i64 0], .int .i64 0, .int .i64 15]) ?_ rfl ⟨rfl, HEND.out.2.2⟩
  simp [results, Tryz.results35, go_sem, h0, h1]
end

section
open Go.RowKit

attribute [local go_sem 5000] run_neq_ints run_guard_piece
set_option maxHeartbeats 4000000 in
set_option maxRecDepth 100000 in
theorem rSame_o (g h og cl cm : Nat) (l m : List (Int × Int × Int)) (hlen : l.length = m.length) (hml : m.length ≤ 1048576) (w : World) (hg : g < w.heap.size) (hh : h < w.heap.size) (L : IntsAt w g l) (M : IntsO w h og m) :
    Calls Tryz.prog 12 #[.slice (some ⟨g, 0, none⟩) l.length cl, .slice (some ⟨h, og, none⟩) m.length cm] w fun e w' => e = .returned (.bool (decide (l = m))) ∧ Below w.heap.size w w' := by
  have HM : Hid (m.length = l.length) := Lib.hid hlen.symm
  have hl1 : ((l.length : Int) != (m.length : Int)) = false := by rw [hlen]; simp
  go_enter Tryz.func12, Tryz.ntmps12
  go_wp2_with fail
  go_loopw [5] (fun i wr => ∃ k : Nat, k ≤ m.length ∧ i = .int .i64 k ∧ Hid (∀ j, j < k → l[j]? = m[j]?) ∧ Hid (Below w.heap.size w wr)) (fun i _ => m.length - (intOf i).toNat)
  case atStart => exact ⟨0, by omega, rfl, Lib.hid (fun j hj => by omega), Lib.hid (Below.refl _ _)⟩
  case round =>
    obtain ⟨k, hk, rfl, ha, hbe⟩ := hrel
    by_cases hlt : k < m.length
    · obtain ⟨x, hx⟩ : ∃ x, l[k]? = some x := ⟨_, List.getElem?_eq_getElem (by omega)⟩
      obtain ⟨y, hy⟩ : ∃ y, m[k]? = some y := ⟨_, List.getElem?_eq_getElem (by omega)⟩
      have l0 : wr.cell? ⟨g, k * 3, none⟩ = some (.int .i64 x.1) := (hbe.out.cell (p := ⟨g, k * 3, none⟩) hg).trans (L.c0 hx)
      have l1 : wr.cell? ⟨g, k * 3 + 1, none⟩ = some (.int .i64 x.2.1) := (hbe.out.cell (p := ⟨g, k * 3 + 1, none⟩) hg).trans (L.c1 hx)
      have l2 : wr.cell? ⟨g, k * 3 + 2, none⟩ = some (.int .i64 x.2.2) := (hbe.out.cell (p := ⟨g, k * 3 + 2, none⟩) hg).trans (L.c2 hx)
      have m0 : wr.cell? ⟨h, og + k * 3, none⟩ = some (.int .i64 y.1) := (hbe.out.cell (p := ⟨h, og + k * 3, none⟩) hh).trans (M.c0 hy)
      have m1 : wr.cell? ⟨h, og + k * 3 + 1, none⟩ = some (.int .i64 y.2.1) := (hbe.out.cell (p := ⟨h, og + k * 3 + 1, none⟩) hh).trans (M.c1 hy)
      have m2 : wr.cell? ⟨h, og + k * 3 + 2, none⟩ = some (.int .i64 y.2.2) := (hbe.out.cell (p := ⟨h, og + k * 3 + 2, none⟩) hh).trans (M.c2 hy)
      have h1 : (k : Int) < (m.length : Int) := by omega
      have h2 : (k : Int) < (l.length : Int) := by omega
      have hw : IntKind.i64.wrap ((k : Int) + 1) = (k : Int) + 1 := IntWalk.i64_in _ (by omega)
      have HXY : Hid (l[k]? = some x ∧ m[k]? = some y) := Lib.hid ⟨hx, hy⟩
      clear hx hy
      go_wp2_with fail
      go_region_held3 (fun w' => w'.cell? ⟨g, k * 3, none⟩ = some (.int .i64 x.1) ∧ w'.cell? ⟨g, k * 3 + 1, none⟩ = some (.int .i64 x.2.1) ∧ w'.cell? ⟨g, k * 3 + 2, none⟩ = some (.int .i64 x.2.2) ∧ w'.cell? ⟨h, og + k * 3, none⟩ = some (.int .i64 y.1) ∧ w'.cell? ⟨h, og + k * 3 + 1, none⟩ = some (.int .i64 y.2.1) ∧ w'.cell? ⟨h, og + k * 3 + 2, none⟩ = some (.int .i64 y.2.2)) (go_keep) (fail)
      by_cases hxy : x = y
      · have hd : decide (x = y) = true := by simp [hxy]
        have HE := Lib.hid hxy
        clear hxy
        simp only [hd]
        go_wp2_with fail
        refine ⟨⟨k + 1, hlt, by simp, Lib.hid (fun j hj => ?_), Lib.hid hbe.out.drew⟩, by simp only [intOf]; omega⟩
        by_cases hjk : j = k
        · subst hjk; rw [HXY.out.1, HXY.out.2, HE.out]
        · exact ha.out j (by omega)
      · have hd : decide (x = y) = false := by simp [hxy]
        have HE : Hid (¬ l = m) := Lib.hid (fun e => hxy (by have := HXY.out.1; rw [e, HXY.out.2] at this; injection this with this; exact this.symm))
        clear hxy
        simp only [hd]
        go_wp2_with fail
        refine bodyPost_ret (v := .bool false) ?_ rfl ⟨by rw [decide_eq_false HE.out], hbe.out.drew⟩
        simp [results, Tryz.results12, go_sem]
    · have hkl : k = m.length := by omega
      have HE : Hid (l = m) := Lib.hid (eq_of_all l m hlen (fun j hj => ha.out j (by omega)))
      subst hkl
      go_wp2_with fail
      refine bodyPost_ret (v := .bool true) ?_ rfl ⟨by rw [decide_eq_true HE.out], hbe.out⟩
      simp [results, Tryz.results12, go_sem]

theorem rSameO_any (v0 v : Value) (l : List (Nat × Nat × Nat)) (m : List (Int × Int × Int)) (hl : l.length ≤ 1048576) (w : World) (h0 : RowIn w v0 l) (h : IRow w v m) :
    Calls Tryz.prog 12 #[v0, v] w fun e w' => e = .returned (.bool (decide (intsP l = m))) ∧ Below w.heap.size w w' := by
  obtain ⟨b0, c0, g0, rfl, _, I0⟩ := h0
  obtain ⟨b1, c1, g1, o1, rfl, _, I1⟩ := h
  by_cases hlen : l.length = m.length
  · by_cases hne : l = []
    · subst hne
      obtain rfl : m = [] := List.length_eq_zero_iff.1 hlen.symm
      exact rSame_none b0 b1 c0 c1 w
    · have hm : m ≠ [] := by rintro rfl; exact hne (List.length_eq_zero_iff.1 hlen)
      have e0 := I0.addr hne
      obtain ⟨e1, hlow, hints⟩ := I1 hm
      subst e0 e1
      have := rSame_o g0 g1 o1 c0 c1 (intsP l) m (by rw [intsP_len]; exact hlen) (by omega) w (I0.low hne) hlow (fun j u hu => I0.cells hne j u (by rw [← flatI_intsP]; exact hu)) hints
      rw [intsP_len] at this
      exact this
  · have hd : ¬ intsP l = m := by rintro rfl; exact hlen (intsP_len l).symm
    rw [decide_eq_false hd]
    exact rSame_len b0 b1 _ c0 _ c1 hlen w
end

section
open Go.RowKit Go.Shelf

theorem rPieces_rows (t : ByteArray) (W : World) : Calls Tryz.prog 9 #[.string t] W fun e w' => ∃ (b : Option Addr) (cp : Nat), e = .returned (.agg #[.slice b (piecesR t).1.length cp, .int .i64 ((piecesR t).2.1 : Int), .int .i64 ((piecesR t).2.2 : Int)]) ∧ RowIn w' (.slice b (piecesR t).1.length cp) (piecesR t).1 ∧ Below W.heap.size W w' := by
  refine (rPieces_all t W).mono ?_
  rintro e w' ⟨v, rfl, hrow, hb⟩
  have hr := RowIn.of_owns hrow
  obtain ⟨b, cap, g, rfl, _⟩ := hr
  exact ⟨b, cap, rfl, RowIn.of_owns hrow, hb⟩
theorem five_alloc {w : World} {k : Nat} {x : Obj} (o : Obj) (h : w.heap[k]? = some x) : (w.alloc o).heap[k]? = some x :=
  (Below.heap_alloc w o k (Array.getElem?_eq_some_iff.1 h).1).trans h
theorem five_end {w wl : World} {p : Nat} {x0 x1 x2 x3 x4 : Value} {ty : TypeId} (hp : w.heap.size ≤ p) (hB : Below w.heap.size w wl) (he : wl.heap[p]? = some (.cells #[x0, x1, x2, x3, x4] ty)) (y0 y1 y2 y3 y4 : Value) (W : World)
    (hW : W = ((((wl.setCell ⟨p, 0, none⟩ y0).setCell ⟨p, 1, none⟩ y1).setCell ⟨p, 2, none⟩ y2).setCell ⟨p, 3, none⟩ y3).setCell ⟨p, 4, none⟩ y4) :
    W.cell? ⟨p, 0, none⟩ = some y0 ∧ W.cell? ⟨p, 1, none⟩ = some y1 ∧ W.cell? ⟨p, 2, none⟩ = some y2 ∧ W.cell? ⟨p, 3, none⟩ = some y3 ∧ W.cell? ⟨p, 4, none⟩ = some y4 ∧ Below w.heap.size w W := by
  have k0 : wl.cell? ⟨p, 0, none⟩ = some x0 := cell_at he
  have k1 : wl.cell? ⟨p, 1, none⟩ = some x1 := cell_at he
  have k2 : wl.cell? ⟨p, 2, none⟩ = some x2 := cell_at he
  have k3 : wl.cell? ⟨p, 3, none⟩ = some x3 := cell_at he
  have k4 : wl.cell? ⟨p, 4, none⟩ = some x4 := cell_at he
  subst hW
  refine ⟨?_, ?_, ?_, ?_, ?_, ?_⟩
  · rw [World.cell?_setCell_other _ _ _ _ (by simp), World.cell?_setCell_other _ _ _ _ (by simp), World.cell?_setCell_other _ _ _ _ (by simp), World.cell?_setCell_other _ _ _ _ (by simp)]
    exact World.cell?_setCell_same' _ _ _ (by rw [k0]; rfl)
  · rw [World.cell?_setCell_other _ _ _ _ (by simp), World.cell?_setCell_other _ _ _ _ (by simp), World.cell?_setCell_other _ _ _ _ (by simp)]
    exact World.cell?_setCell_same' _ _ _ (by rw [World.cell?_setCell_other _ _ _ _ (by simp), k1]; rfl)
  · rw [World.cell?_setCell_other _ _ _ _ (by simp), World.cell?_setCell_other _ _ _ _ (by simp)]
    exact World.cell?_setCell_same' _ _ _ (by rw [World.cell?_setCell_other _ _ _ _ (by simp), World.cell?_setCell_other _ _ _ _ (by simp), k2]; rfl)
  · rw [World.cell?_setCell_other _ _ _ _ (by simp)]
    exact World.cell?_setCell_same' _ _ _ (by rw [World.cell?_setCell_other _ _ _ _ (by simp), World.cell?_setCell_other _ _ _ _ (by simp), World.cell?_setCell_other _ _ _ _ (by simp), k3]; rfl)
  · exact World.cell?_setCell_same' _ _ _ (by rw [World.cell?_setCell_other _ _ _ _ (by simp), World.cell?_setCell_other _ _ _ _ (by simp), World.cell?_setCell_other _ _ _ _ (by simp), World.cell?_setCell_other _ _ _ _ (by simp), k4]; rfl)
  · exact ((((hB.setCell (p := ⟨p, 0, none⟩) hp _).setCell (p := ⟨p, 1, none⟩) hp _).setCell (p := ⟨p, 2, none⟩) hp _).setCell (p := ⟨p, 3, none⟩) hp _).setCell (p := ⟨p, 4, none⟩) hp _

def RUpdIs (i c : Int) (w : World) (e : Ending) (w' : World) : Prop :=
  e = .returned (.agg #[.slice none 0 0, .int .i64 0, .int .i64 0, .int .i64 i, .int .i64 c]) ∧ Below w.heap.size w w'

set_option maxHeartbeats 4000000 in
set_option maxRecDepth 100000 in
theorem rUpd_pieces (v : Value) (t ins : ByteArray) (a d : Int) (hbad : (piecesR t).2.2 ≠ 0) (w : World) :
    Calls Tryz.prog 43 #[.string t, v, .agg #[.int .i64 a, .int .i64 d, .string ins]] w (RUpdIs 0 15 w) := by
  have HP := Lib.hid (rPieces_rows t)
  obtain ⟨c, hc⟩ : ∃ c, c = (piecesR t).2.2 := ⟨_, rfl⟩
  obtain ⟨L, hL⟩ : ∃ L, L = (piecesR t).1 := ⟨_, rfl⟩
  obtain ⟨i, hi⟩ : ∃ i, i = (piecesR t).2.1 := ⟨_, rfl⟩
  rw [← hc, ← hL, ← hi] at HP
  rw [← hc] at hbad
  have hcn : ((c : Int) != 0) = true := by rw [bne_iff_ne]; omega
  clear hc hbad hL hi
  go_enter Tryz.func43, Tryz.ntmps43
  go_wp2_with fail
  refine (HP.out _).mono ?_
  rintro e w1 ⟨b1, cp, rfl, hrow, hb⟩
  have hB1 : Below w.heap.size w w1 := (((Below.refl _ w).alloc (Nat.le_refl _) _).alloc (by simp) _).trans (hb.mono (by simp; omega))
  have e1 : w1.heap[w.heap.size + 1]? = some (.cells #[.slice none 0 0, .int .i64 0, .int .i64 0, .int .i64 0, .int .i64 0] 75) := (hb.block _ (by simp)).trans (by have := World.alloc_heap_new (w.alloc (.cells #[.int .i64 a, .int .i64 d, .string ins] 40)) (.cells #[.slice none 0 0, .int .i64 0, .int .i64 0, .int .i64 0, .int .i64 0] 75); simpa using this)
  have hz1 := hb.size
  simp only [World.size_alloc] at hz1
  have k0 : ∀ o, (w1.alloc o).cell? ⟨w.heap.size + 1, 0, none⟩ = some (.slice none 0 0) := fun o => cell_at (five_alloc o e1)
  have k1 : ∀ o, (w1.alloc o).cell? ⟨w.heap.size + 1, 1, none⟩ = some (.int .i64 0) := fun o => cell_at (five_alloc o e1)
  have k2 : ∀ o, (w1.alloc o).cell? ⟨w.heap.size + 1, 2, none⟩ = some (.int .i64 0) := fun o => cell_at (five_alloc o e1)
  have k3 : ∀ o, (w1.alloc o).cell? ⟨w.heap.size + 1, 3, none⟩ = some (.int .i64 0) := fun o => cell_at (five_alloc o e1)
  have k4 : ∀ o, (w1.alloc o).cell? ⟨w.heap.size + 1, 4, none⟩ = some (.int .i64 0) := fun o => cell_at (five_alloc o e1)
  have z0 : ∀ o, (w1.alloc o).frozen? ⟨w.heap.size + 1, 0, none⟩ = false := fun o => frozen_at (five_alloc o e1)
  have z1 : ∀ o, (w1.alloc o).frozen? ⟨w.heap.size + 1, 1, none⟩ = false := fun o => frozen_at (five_alloc o e1)
  have z2 : ∀ o, (w1.alloc o).frozen? ⟨w.heap.size + 1, 2, none⟩ = false := fun o => frozen_at (five_alloc o e1)
  have z3 : ∀ o, (w1.alloc o).frozen? ⟨w.heap.size + 1, 3, none⟩ = false := fun o => frozen_at (five_alloc o e1)
  have z4 : ∀ o, (w1.alloc o).frozen? ⟨w.heap.size + 1, 4, none⟩ = false := fun o => frozen_at (five_alloc o e1)
  have hend := fun o => five_end (Nat.le_succ _) (hB1.alloc hB1.size o) (five_alloc o e1) (.slice none 0 0) (.int .i64 0) (.int .i64 0) (.int .i64 0) (.int .i64 15) _ rfl
  have HEND' := Lib.hid hend
  clear hend hB1 e1 hb hrow HP
  go_wp2_with fail
  have HEND := Lib.hid (HEND'.out (.cells #[.slice b1 L.length cp, .int .i64 (i : Int), .int .i64 (c : Int)] 28))
  have h0 := HEND.out.1; have h1 := HEND.out.2.1; have h2 := HEND.out.2.2.1; have h3 := HEND.out.2.2.2.1; have h4 := HEND.out.2.2.2.2.1
  refine bodyPost_ret (v := .agg #[.slice none 0 0, .int .i64 0, .int .i64 0, .int .i64 0, .int .i64 15]) ?_ rfl ⟨rfl, HEND.out.2.2.2.2.2⟩
  simp [results, Tryz.results43, go_sem, h0, h1, h2, h3, h4]

set_option maxHeartbeats 4000000 in
set_option maxRecDepth 100000 in
theorem rUpd_wrong (v : Value) (t ins : ByteArray) (a d : Int) (li : List (Int × Int × Int)) (hok : (piecesR t).2.2 = 0) (hne : ¬ intsP (piecesR t).1 = li) (w : World) (hv : IRow w v li) :
    Calls Tryz.prog 43 #[.string t, v, .agg #[.int .i64 a, .int .i64 d, .string ins]] w (RUpdIs 0 15 w) := by
  have HP := Lib.hid (rPieces_rows t)
  obtain ⟨L, hL⟩ : ∃ L, L = (piecesR t).1 := ⟨_, rfl⟩
  have hlen := pieces_len t
  obtain ⟨_, hat, _⟩ := pieces_ok hok
  rw [hok, hat, ← hL] at HP
  rw [← hL] at hlen hne
  have HV := Lib.hid hv
  clear hv hL hat hok
  have HNE := Lib.hid (decide_eq_false hne)
  clear hne
  go_enter Tryz.func43, Tryz.ntmps43
  go_wp2_with fail
  refine (HP.out _).mono ?_
  rintro e w1 ⟨b1, cp, rfl, hrow, hb⟩
  have hB1 : Below w.heap.size w w1 := (((Below.refl _ w).alloc (Nat.le_refl _) _).alloc (by simp) _).trans (hb.mono (by simp; omega))
  have e1 : w1.heap[w.heap.size + 1]? = some (.cells #[.slice none 0 0, .int .i64 0, .int .i64 0, .int .i64 0, .int .i64 0] 75) := (hb.block _ (by simp)).trans (by have := World.alloc_heap_new (w.alloc (.cells #[.int .i64 a, .int .i64 d, .string ins] 40)) (.cells #[.slice none 0 0, .int .i64 0, .int .i64 0, .int .i64 0, .int .i64 0] 75); simpa using this)
  have hz1 := hb.size
  simp only [World.size_alloc] at hz1
  have hk1 : ∀ k o, k < w.heap.size + 2 → w1.cell? ⟨k, o, none⟩ = _ := fun k o hk => hb.cell (p := ⟨k, o, none⟩) (by simp; omega)
  have c0 : w1.cell? ⟨w.heap.size, 0, none⟩ = some (.int .i64 a) := (hk1 _ _ (by omega)).trans (by simp)
  have c1 : w1.cell? ⟨w.heap.size, 1, none⟩ = some (.int .i64 d) := (hk1 _ _ (by omega)).trans (by simp)
  have c2 : w1.cell? ⟨w.heap.size, 2, none⟩ = some (.string ins) := (hk1 _ _ (by omega)).trans (by simp)
  have HB1 := Lib.hid hB1; have HR0 := Lib.hid hrow; have HV1 := Lib.hid (HV.out.below hB1)
  clear hk1 hrow hb hB1 HV
  go_wp2_with fail
  have hbo := (Below.refl w1.heap.size w1).alloc (Nat.le_refl _) (.cells #[.slice b1 L.length cp, .int .i64 0, .int .i64 0] 28)
  have heq := rSameO_any _ v L li (by omega) _ (HR0.out.below hbo) (HV1.out.below hbo)
  rw [HNE.out] at heq
  refine heq.mono ?_
  rintro e w2 ⟨rfl, hb2⟩
  have hz2 := hb2.size
  simp only [World.size_alloc] at hz2
  have e2 := (hb2.block _ (by simp; omega)).trans (five_alloc (.cells #[.slice b1 L.length cp, .int .i64 0, .int .i64 0] 28) e1)
  have HB2 := Lib.hid ((HB1.out.alloc HB1.out.size (.cells #[.slice b1 L.length cp, .int .i64 0, .int .i64 0] 28)).trans (hb2.mono (by simp; omega)))
  clear HB1 HV1 HR0 hb2 hbo heq c0 c1 c2
  have k0 : w2.cell? ⟨w.heap.size + 1, 0, none⟩ = some (.slice none 0 0) := cell_at e2
  have k1 : w2.cell? ⟨w.heap.size + 1, 1, none⟩ = some (.int .i64 0) := cell_at e2
  have k2 : w2.cell? ⟨w.heap.size + 1, 2, none⟩ = some (.int .i64 0) := cell_at e2
  have k3 : w2.cell? ⟨w.heap.size + 1, 3, none⟩ = some (.int .i64 0) := cell_at e2
  have k4 : w2.cell? ⟨w.heap.size + 1, 4, none⟩ = some (.int .i64 0) := cell_at e2
  have z0 : w2.frozen? ⟨w.heap.size + 1, 0, none⟩ = false := frozen_at e2
  have z1 : w2.frozen? ⟨w.heap.size + 1, 1, none⟩ = false := frozen_at e2
  have z2 : w2.frozen? ⟨w.heap.size + 1, 2, none⟩ = false := frozen_at e2
  have z3 : w2.frozen? ⟨w.heap.size + 1, 3, none⟩ = false := frozen_at e2
  have z4 : w2.frozen? ⟨w.heap.size + 1, 4, none⟩ = false := frozen_at e2
  have HEND := Lib.hid (five_end (Nat.le_succ _) HB2.out e2 (.slice none 0 0) (.int .i64 0) (.int .i64 0) (.int .i64 0) (.int .i64 15) _ rfl)
  clear HB2
  go_wp2_with fail
  have h0 := HEND.out.1; have h1 := HEND.out.2.1; have h2 := HEND.out.2.2.1; have h3 := HEND.out.2.2.2.1; have h4 := HEND.out.2.2.2.2.1
  refine bodyPost_ret (v := .agg #[.slice none 0 0, .int .i64 0, .int .i64 0, .int .i64 0, .int .i64 15]) ?_ rfl ⟨rfl, HEND.out.2.2.2.2.2⟩
  simp [results, Tryz.results43, go_sem, h0, h1, h2, h3, h4]

set_option maxHeartbeats 4000000 in
set_option maxRecDepth 100000 in
theorem rUpd_arg (v : Value) (t ins : ByteArray) (a d : Int) (hok : (piecesR t).2.2 = 0) (hno : a < 0 ∨ (t.size : Int) < a ∨ d < 0 ∨ (t.size : Int) - a < d) (w : World) (hv : IRow w v (intsP (piecesR t).1)) :
    Calls Tryz.prog 43 #[.string t, v, .agg #[.int .i64 a, .int .i64 d, .string ins]] w (RUpdIs 0 1 w) := by
  have HCH := Lib.hid (fun W => rChange_no t ins a d hno (by have := (pieces_ok hok).1; omega) W)
  clear hno
  have HP := Lib.hid (rPieces_rows t)
  obtain ⟨L, hL⟩ : ∃ L, L = (piecesR t).1 := ⟨_, rfl⟩
  have hlen := pieces_len t
  obtain ⟨_, hat, _⟩ := pieces_ok hok
  rw [hok, hat, ← hL] at HP
  rw [← hL] at hlen  hv
  have HV := Lib.hid hv
  clear hv hL hat hok
  go_enter Tryz.func43, Tryz.ntmps43
  go_wp2_with fail
  refine (HP.out _).mono ?_
  rintro e w1 ⟨b1, cp, rfl, hrow, hb⟩
  have hB1 : Below w.heap.size w w1 := (((Below.refl _ w).alloc (Nat.le_refl _) _).alloc (by simp) _).trans (hb.mono (by simp; omega))
  have e1 : w1.heap[w.heap.size + 1]? = some (.cells #[.slice none 0 0, .int .i64 0, .int .i64 0, .int .i64 0, .int .i64 0] 75) := (hb.block _ (by simp)).trans (by have := World.alloc_heap_new (w.alloc (.cells #[.int .i64 a, .int .i64 d, .string ins] 40)) (.cells #[.slice none 0 0, .int .i64 0, .int .i64 0, .int .i64 0, .int .i64 0] 75); simpa using this)
  have hz1 := hb.size
  simp only [World.size_alloc] at hz1
  have hk1 : ∀ k o, k < w.heap.size + 2 → w1.cell? ⟨k, o, none⟩ = _ := fun k o hk => hb.cell (p := ⟨k, o, none⟩) (by simp; omega)
  have c0 : w1.cell? ⟨w.heap.size, 0, none⟩ = some (.int .i64 a) := (hk1 _ _ (by omega)).trans (by simp)
  have c1 : w1.cell? ⟨w.heap.size, 1, none⟩ = some (.int .i64 d) := (hk1 _ _ (by omega)).trans (by simp)
  have c2 : w1.cell? ⟨w.heap.size, 2, none⟩ = some (.string ins) := (hk1 _ _ (by omega)).trans (by simp)
  have HB1 := Lib.hid hB1; have HR0 := Lib.hid hrow; have HV1 := Lib.hid (HV.out.below hB1)
  clear hk1 hrow hb hB1 HV
  go_wp2_with fail
  have hbo := (Below.refl w1.heap.size w1).alloc (Nat.le_refl _) (.cells #[.slice b1 L.length cp, .int .i64 0, .int .i64 0] 28)
  have heq := rSameO_any _ v L (intsP L) (by omega) _ (HR0.out.below hbo) (HV1.out.below hbo)
  rw [decide_eq_true rfl] at heq
  refine heq.mono ?_
  rintro e w2 ⟨rfl, hb2⟩
  have hz2 := hb2.size
  simp only [World.size_alloc] at hz2
  have e2 := (hb2.block _ (by simp; omega)).trans (five_alloc (.cells #[.slice b1 L.length cp, .int .i64 0, .int .i64 0] 28) e1)
  have HB2 := Lib.hid ((HB1.out.alloc HB1.out.size (.cells #[.slice b1 L.length cp, .int .i64 0, .int .i64 0] 28)).trans (hb2.mono (by simp; omega)))
  have hk2 : ∀ o, w2.cell? ⟨w.heap.size, o, none⟩ = w1.cell? ⟨w.heap.size, o, none⟩ := fun o => (hb2.cell (p := ⟨w.heap.size, o, none⟩) (by simp; omega)).trans (hbo.cell (p := ⟨w.heap.size, o, none⟩) (by simp; omega))
  have d0 := (hk2 0).trans c0
  have d1 := (hk2 1).trans c1
  have d2 := (hk2 2).trans c2
  have HV2 := Lib.hid ((HV1.out.below hbo).below hb2)
  clear hk2
  clear HB1 HV1 HR0 hb2 hbo heq c0 c1 c2
  go_wp2_with fail
  refine (HCH.out _).mono ?_
  rintro e w3 ⟨rfl, hb3⟩
  have hz3 := hb3.size
  have e3 := (hb3.block _ (by omega)).trans e2
  have HB3 := Lib.hid (HB2.out.trans (hb3.mono HB2.out.size)); have HV3 := Lib.hid (HV2.out.below hb3)
  clear HB2 HV2 HCH hb3 d0 d1 d2 e2
  have k0 : w3.cell? ⟨w.heap.size + 1, 0, none⟩ = some (.slice none 0 0) := cell_at e3
  have k1 : w3.cell? ⟨w.heap.size + 1, 1, none⟩ = some (.int .i64 0) := cell_at e3
  have k2 : w3.cell? ⟨w.heap.size + 1, 2, none⟩ = some (.int .i64 0) := cell_at e3
  have k3 : w3.cell? ⟨w.heap.size + 1, 3, none⟩ = some (.int .i64 0) := cell_at e3
  have k4 : w3.cell? ⟨w.heap.size + 1, 4, none⟩ = some (.int .i64 0) := cell_at e3
  have z0 : w3.frozen? ⟨w.heap.size + 1, 0, none⟩ = false := frozen_at e3
  have z1 : w3.frozen? ⟨w.heap.size + 1, 1, none⟩ = false := frozen_at e3
  have z2 : w3.frozen? ⟨w.heap.size + 1, 2, none⟩ = false := frozen_at e3
  have z3 : w3.frozen? ⟨w.heap.size + 1, 3, none⟩ = false := frozen_at e3
  have z4 : w3.frozen? ⟨w.heap.size + 1, 4, none⟩ = false := frozen_at e3
  have HEND := Lib.hid (five_end (Nat.le_succ _) HB3.out e3 (.slice none 0 0) (.int .i64 0) (.int .i64 0) (.int .i64 0) (.int .i64 1) _ rfl)
  clear HB3
  go_wp2_with fail
  have h0 := HEND.out.1; have h1 := HEND.out.2.1; have h2 := HEND.out.2.2.1; have h3 := HEND.out.2.2.2.1; have h4 := HEND.out.2.2.2.2.1
  refine bodyPost_ret (v := .agg #[.slice none 0 0, .int .i64 0, .int .i64 0, .int .i64 0, .int .i64 1]) ?_ rfl ⟨rfl, HEND.out.2.2.2.2.2⟩
  simp [results, Tryz.results43, go_sem, h0, h1, h2, h3, h4]

set_option maxHeartbeats 4000000 in
set_option maxRecDepth 100000 in
theorem rUpd_bad (v : Value) (t ins : ByteArray) (a d : Nat) (h : a + d ≤ t.size) (hi : t.size + ins.size ≤ 9223372036854775807) (hok : (piecesR t).2.2 = 0) (hr : (piecesR (spliceB t a d ins)).2.2 ≠ 0) (w : World) (hv : IRow w v (intsP (piecesR t).1)) :
    Calls Tryz.prog 43 #[.string t, v, .agg #[.int .i64 (a : Int), .int .i64 (d : Int), .string ins]] w (RUpdIs ((piecesR (spliceB t a d ins)).2.1 : Int) ((piecesR (spliceB t a d ins)).2.2 : Int) w) := by
  obtain ⟨u, hue⟩ : ∃ u, u = spliceB t a d ins := ⟨_, rfl⟩
  have HCH := Lib.hid (fun W => rChange_ok t ins a d h (by omega) W)
  rw [← hue] at HCH
  have hur : piecesR (spliceB t a d ins) = piecesR u := by rw [hue]
  rw [hur] at hr ⊢
  clear hue hur h hi
  have HQ := Lib.hid (rPieces_rows u)
  obtain ⟨M, hM⟩ : ∃ M, M = (piecesR u).1 := ⟨_, rfl⟩
  obtain ⟨cc, hc⟩ : ∃ c, c = (piecesR u).2.2 := ⟨_, rfl⟩
  obtain ⟨ci, hci⟩ : ∃ i, i = (piecesR u).2.1 := ⟨_, rfl⟩
  rw [← hc, ← hci, ← hM] at HQ
  rw [← hc] at hr ⊢
  rw [← hci]
  have hcn : ((cc : Int) != 0) = true := by rw [bne_iff_ne]; omega
  clear hM hc hci hr
  have HP := Lib.hid (rPieces_rows t)
  obtain ⟨L, hL⟩ : ∃ L, L = (piecesR t).1 := ⟨_, rfl⟩
  have hlen := pieces_len t
  obtain ⟨_, hat, _⟩ := pieces_ok hok
  rw [hok, hat, ← hL] at HP
  rw [← hL] at hlen hv
  have HV := Lib.hid hv
  clear hv hL hat hok
  go_enter Tryz.func43, Tryz.ntmps43
  go_wp2_with fail
  refine (HP.out _).mono ?_
  rintro e w1 ⟨b1, cp, rfl, hrow, hb⟩
  have hB1 : Below w.heap.size w w1 := (((Below.refl _ w).alloc (Nat.le_refl _) _).alloc (by simp) _).trans (hb.mono (by simp; omega))
  have e1 : w1.heap[w.heap.size + 1]? = some (.cells #[.slice none 0 0, .int .i64 0, .int .i64 0, .int .i64 0, .int .i64 0] 75) := (hb.block _ (by simp)).trans (by have := World.alloc_heap_new (w.alloc (.cells #[.int .i64 (a : Int), .int .i64 (d : Int), .string ins] 40)) (.cells #[.slice none 0 0, .int .i64 0, .int .i64 0, .int .i64 0, .int .i64 0] 75); simpa using this)
  have hz1 := hb.size
  simp only [World.size_alloc] at hz1
  have hk1 : ∀ k o, k < w.heap.size + 2 → w1.cell? ⟨k, o, none⟩ = _ := fun k o hk => hb.cell (p := ⟨k, o, none⟩) (by simp; omega)
  have c0 : w1.cell? ⟨w.heap.size, 0, none⟩ = some (.int .i64 (a : Int)) := (hk1 _ _ (by omega)).trans (by simp)
  have c1 : w1.cell? ⟨w.heap.size, 1, none⟩ = some (.int .i64 (d : Int)) := (hk1 _ _ (by omega)).trans (by simp)
  have c2 : w1.cell? ⟨w.heap.size, 2, none⟩ = some (.string ins) := (hk1 _ _ (by omega)).trans (by simp)
  have HB1 := Lib.hid hB1; have HR0 := Lib.hid hrow; have HV1 := Lib.hid (HV.out.below hB1)
  clear hk1 hrow hb hB1 HV
  go_wp2_with fail
  have hbo := (Below.refl w1.heap.size w1).alloc (Nat.le_refl _) (.cells #[.slice b1 L.length cp, .int .i64 0, .int .i64 0] 28)
  have heq := rSameO_any _ v L (intsP L) (by omega) _ (HR0.out.below hbo) (HV1.out.below hbo)
  rw [decide_eq_true rfl] at heq
  refine heq.mono ?_
  rintro e w2 ⟨rfl, hb2⟩
  have hz2 := hb2.size
  simp only [World.size_alloc] at hz2
  have e2 := (hb2.block _ (by simp; omega)).trans (five_alloc (.cells #[.slice b1 L.length cp, .int .i64 0, .int .i64 0] 28) e1)
  have HB2 := Lib.hid ((HB1.out.alloc HB1.out.size (.cells #[.slice b1 L.length cp, .int .i64 0, .int .i64 0] 28)).trans (hb2.mono (by simp; omega)))
  have hk2 : ∀ o, w2.cell? ⟨w.heap.size, o, none⟩ = w1.cell? ⟨w.heap.size, o, none⟩ := fun o => (hb2.cell (p := ⟨w.heap.size, o, none⟩) (by simp; omega)).trans (hbo.cell (p := ⟨w.heap.size, o, none⟩) (by simp; omega))
  have d0 := (hk2 0).trans c0
  have d1 := (hk2 1).trans c1
  have d2 := (hk2 2).trans c2
  have HV2 := Lib.hid ((HV1.out.below hbo).below hb2)
  clear hk2
  clear HB1 HV1 HR0 hb2 hbo heq c0 c1 c2
  go_wp2_with fail
  refine (HCH.out _).mono ?_
  rintro e w3 ⟨rfl, hb3⟩
  have hz3 := hb3.size
  have e3 := (hb3.block _ (by omega)).trans e2
  have HB3 := Lib.hid (HB2.out.trans (hb3.mono HB2.out.size)); have HV3 := Lib.hid (HV2.out.below hb3)
  clear HB2 HV2 HCH hb3 d0 d1 d2 e2
  go_wp2_with fail
  refine (HQ.out _).mono ?_
  rintro e w4 ⟨b4, cq, rfl, hrow4, hb4⟩
  have hz4 := hb4.size
  have e4 := (hb4.block _ (by omega)).trans e3
  have HB4 := Lib.hid (HB3.out.trans (hb4.mono HB3.out.size))
  clear HB3 HV3 HQ hb4 e3 hrow4
  have k0 : ∀ o, (w4.alloc o).cell? ⟨w.heap.size + 1, 0, none⟩ = some (.slice none 0 0) := fun o => cell_at (five_alloc o e4)
  have k1 : ∀ o, (w4.alloc o).cell? ⟨w.heap.size + 1, 1, none⟩ = some (.int .i64 0) := fun o => cell_at (five_alloc o e4)
  have k2 : ∀ o, (w4.alloc o).cell? ⟨w.heap.size + 1, 2, none⟩ = some (.int .i64 0) := fun o => cell_at (five_alloc o e4)
  have k3 : ∀ o, (w4.alloc o).cell? ⟨w.heap.size + 1, 3, none⟩ = some (.int .i64 0) := fun o => cell_at (five_alloc o e4)
  have k4 : ∀ o, (w4.alloc o).cell? ⟨w.heap.size + 1, 4, none⟩ = some (.int .i64 0) := fun o => cell_at (five_alloc o e4)
  have z0 : ∀ o, (w4.alloc o).frozen? ⟨w.heap.size + 1, 0, none⟩ = false := fun o => frozen_at (five_alloc o e4)
  have z1 : ∀ o, (w4.alloc o).frozen? ⟨w.heap.size + 1, 1, none⟩ = false := fun o => frozen_at (five_alloc o e4)
  have z2 : ∀ o, (w4.alloc o).frozen? ⟨w.heap.size + 1, 2, none⟩ = false := fun o => frozen_at (five_alloc o e4)
  have z3 : ∀ o, (w4.alloc o).frozen? ⟨w.heap.size + 1, 3, none⟩ = false := fun o => frozen_at (five_alloc o e4)
  have z4 : ∀ o, (w4.alloc o).frozen? ⟨w.heap.size + 1, 4, none⟩ = false := fun o => frozen_at (five_alloc o e4)
  have HEND' := Lib.hid (fun o => five_end (Nat.le_succ _) (HB4.out.alloc HB4.out.size o) (five_alloc o e4) (.slice none 0 0) (.int .i64 0) (.int .i64 0) (.int .i64 (ci : Int)) (.int .i64 (cc : Int)) _ rfl)
  clear HB4 e4
  go_wp2_with fail
  have HEND := Lib.hid (HEND'.out (.cells #[.slice b4 M.length cq, .int .i64 (ci : Int), .int .i64 (cc : Int)] 28))
  have h0 := HEND.out.1; have h1 := HEND.out.2.1; have h2 := HEND.out.2.2.1; have h3 := HEND.out.2.2.2.1; have h4 := HEND.out.2.2.2.2.1
  refine bodyPost_ret (v := .agg #[.slice none 0 0, .int .i64 0, .int .i64 0, .int .i64 (ci : Int), .int .i64 (cc : Int)]) ?_ rfl ⟨rfl, HEND.out.2.2.2.2.2⟩
  simp [results, Tryz.results43, go_sem, h0, h1, h2, h3, h4]
end

end Go.Proofs.YtlkanfnhemjdcaaGreatDoor
