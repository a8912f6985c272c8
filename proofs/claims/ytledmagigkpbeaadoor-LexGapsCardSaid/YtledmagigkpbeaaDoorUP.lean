/-
  Update.
-/
import Derived.Test.YtledmagigkpbeaaDoorRC3
import Derived.Test.YtledmagigkpbeaaDoorMath10
import Derived.Test.YtledmagigkpbeaaDoorEQ
import Derived.Test.YtledmagigkpbeaaDoorKN
namespace Go.Proofs.YtledmagigkpbeaaDoor
open Go.RowKit Go.Shelf

/-- A slice that holds pieces, perhaps none. -/
def RowIn (w : World) (v : Value) (l : List (Nat × Nat × Nat)) : Prop := ∃ b cap g, v = .slice b l.length cap ∧ l.length ≤ cap ∧ LIn w b g l
theorem RowIn.below {w w' : World} {v : Value} {l : List (Nat × Nat × Nat)} (h : RowIn w v l) (hB : Below w.heap.size w w') : RowIn w' v l := by
  obtain ⟨b, cap, g, h1, h2, h3⟩ := h
  exact ⟨b, cap, g, h1, h2, h3.addr, fun hne => Nat.lt_of_lt_of_le (h3.low hne) hB.size, fun hne j u hu => (hB.cell (p := ⟨g, j, none⟩) (h3.low hne)).trans (h3.cells hne j u hu)⟩
theorem RowIn.of_owns {w : World} {base : Nat} {v : Value} {l : List (Nat × Nat × Nat)} (h : w.ownsRow base 33 3 v l.length (flatP l)) : RowIn w v l := by
  have hc := fun g => h.cells (g := g)
  rcases h.2 with ⟨rfl, h0⟩ | ⟨g, cap, cur, rfl, hb, hg, hn, hcap, hsz, htk⟩
  · have : l = [] := List.length_eq_zero_iff.1 h0
    subst this
    exact ⟨none, 0, 0, rfl, Nat.le_refl _, fun h => absurd rfl h, fun h => absurd rfl h, fun h => absurd rfl h⟩
  · refine ⟨_, cap, g, rfl, hn, fun _ => rfl, fun _ => (Array.getElem?_eq_some_iff.1 hg).1, fun _ j u hu => ?_⟩
    have := hc g rfl j u hu
    rw [Addr.add_zero_off] at this
    exact this

theorem recut_any (v : Value) (t ins : ByteArray) (a d : Nat) (h : a + d ≤ t.size) (hok : (piecesR t).2.2 = 0) (hu : (spliceB t a d ins).size ≤ 20000) (w : World) (E : Env w) (hv : RowIn w v (piecesR t).1) :
    Calls Tryd.prog 35 #[.string t, v, .agg #[.int .i64 (a : Int), .int .i64 (d : Int), .string ins], .string (spliceB t a d ins)] w (PiecesEnd (spliceB t a d ins) w) := by
  obtain ⟨hts, hat, hcut, op, c, hst⟩ := pieces_ok hok
  obtain ⟨b, cap, g, rfl, hcap, hI⟩ := hv
  have hsz := splice_size t ins a d h
  have hlen := (steps_bounds _ _ _ _ _ hst (by omega)).1
  have hsz' : (spliceB t a d ins).size = t.size + ins.size - d := hsz
  refine callsIn_wide.1 (recut_run b g cap t (spliceB t a d ins) ins a d (piecesR t).1 (t.size, op, c) w E hu hts hI (by omega) hst rfl ?_ (splice_ahead t ins a d h) (by simp only at hlen; omega) hcap)
  intro i j h1 h2 h3 h4
  have hij : i = j + ins.size - d := by omega
  rw [hij]
  exact splice_behind t ins a d j h (by omega) h4

theorem equal_same (v0 v : Value) (l : List (Nat × Nat × Nat)) (hl : l.length ≤ 1048576) (w : World) (h0 : RowIn w v0 l) (h : RowIn w v l) :
    Calls Tryd.prog 34 #[v0, v] w fun e w' => e = .returned (.bool true) ∧ Below w.heap.size w w' := by
  obtain ⟨b0, c0, g0, rfl, _, I0⟩ := h0
  obtain ⟨b1, c1, g1, rfl, _, I1⟩ := h
  by_cases hne : l = []
  · subst hne
    exact equal_none b0 b1 c0 c1 w
  · have e0 := I0.addr hne
    have e1 := I1.addr hne
    subst e0 e1
    have hlen : (intsP l).length = l.length := by simp [intsP]
    have := equal_some g0 g1 c0 c1 (intsP l) (intsP l) rfl (by omega) w (I0.low hne) (I1.low hne) (fun j u hu => I0.cells hne j u (by rw [← flatI_intsP]; exact hu)) (fun j u hu => I1.cells hne j u (by rw [← flatI_intsP]; exact hu))
    rw [hlen] at this
    simpa using this
theorem kept_any (v0 v : Value) (l m : List (Nat × Nat × Nat)) (shift : Int) (hs : -1048576 ≤ shift ∧ shift ≤ 1048576) (hl : ∀ x ∈ l, x.2.1 + x.2.2 ≤ 1048576) (hln : l.length ≤ 1048576) (hmn : m.length ≤ 1048576) (w : World) (h0 : RowIn w v0 l) (h : RowIn w v m) :
    Calls Tryd.prog 36 #[v0, v, .int .i64 shift] w fun e w' => e = .returned (.agg #[.int .i64 (frontN l m 0 : Int), .int .i64 (backN l m shift (frontN l m 0) 0 : Int)]) ∧ Below w.heap.size w w' := by
  obtain ⟨b0, c0, g0, rfl, _, I0⟩ := h0
  obtain ⟨b1, c1, g1, rfl, _, I1⟩ := h
  by_cases hne : l = [] ∨ m = []
  · have hmin : min l.length m.length = 0 := by rcases hne with rfl | rfl <;> simp
    have hk := kept_none b0 b1 l.length c0 m.length c1 shift (by omega) w
    rw [frontN_end (by omega), backN_end (by omega)]
    exact hk
  · have h1 : l ≠ [] := fun e => hne (.inl e)
    have h2 : m ≠ [] := fun e => hne (.inr e)
    have e0 := I0.addr h1
    have e1 := I1.addr h2
    subst e0 e1
    exact kept_some g0 g1 c0 c1 l m shift hs hl hln hmn w (I0.low h1) (I1.low h2) (I0.cells h1) (I1.cells h2)

def UpdOk (t u : ByteArray) (L : List (Nat × Nat × Nat)) (w : World) (e : Ending) (w' : World) : Prop :=
  ∃ v', e = .returned (.tuple #[v', .agg #[.int .i64 (frontN L (piecesR u).1 0 : Int), .int .i64 (backN L (piecesR u).1 ((u.size : Int) - (t.size : Int)) (frontN L (piecesR u).1 0) 0 : Int)], .int .i64 0, .int .i64 0]) ∧
    w'.ownsRow w.heap.size 33 3 v' (piecesR u).1.length (flatP (piecesR u).1) ∧ Below w.heap.size w w'

set_option maxHeartbeats 4000000 in
set_option maxRecDepth 100000 in
theorem upd_ok (v : Value) (t ins : ByteArray) (a d : Nat) (h : a + d ≤ t.size) (hok : (piecesR t).2.2 = 0) (hu : (spliceB t a d ins).size ≤ 20000) (hr : (piecesR (spliceB t a d ins)).2.2 = 0) (w : World) (E : Env w) (hv : RowIn w v (piecesR t).1) :
    Calls Tryd.prog 20 #[.string t, v, .agg #[.int .i64 (a : Int), .int .i64 (d : Int), .string ins]] w (UpdOk t (spliceB t a d ins) (piecesR t).1 w) := by
  obtain ⟨hts, hat, _, opT, cT, hst⟩ := pieces_ok hok
  obtain ⟨hus, hau, _, opU, cU, hsu⟩ := pieces_ok hr
  have hlen := (steps_bounds _ _ _ _ _ hst (by omega)).1
  have hlenu := (steps_bounds _ _ _ _ _ hsu (by omega)).1
  simp only at hlen hlenu
  have hsz' : (spliceB t a d ins).size = t.size + ins.size - d := splice_size t ins a d h
  have hmem : ∀ x ∈ (piecesR t).1, x.2.1 + x.2.2 ≤ 1048576 := fun x hx => by have := (steps_in _ _ _ _ _ hst x hx).2.1; simp only at this; omega
  obtain ⟨u, hue⟩ : ∃ u, u = spliceB t a d ins := ⟨_, rfl⟩
  have hp := fun W E => pieces_all t W E
  unfold PiecesEnd at hp
  rw [hok, hat] at hp
  have hch := fun W => change_ok t ins a d h (by omega) W
  have hrc := fun W E hv => recut_any v t ins a d h hok hu W E hv
  unfold PiecesEnd at hrc
  rw [hr, hau] at hrc
  rw [← hue] at hch hrc hr hau hlenu hsz' hu hsu ⊢
  obtain ⟨L, hL⟩ : ∃ L, L = (piecesR t).1 := ⟨_, rfl⟩
  obtain ⟨m, hm⟩ : ∃ m, m = (piecesR u).1 := ⟨_, rfl⟩
  unfold UpdOk
  rw [← hL] at hp hrc hv hlen hmem
  rw [← hL, ← hm]
  rw [← hm] at hrc hlenu
  have HP := Lib.hid hp; have HCH := Lib.hid hch; have HRC := Lib.hid hrc; have HV := Lib.hid hv; have HMEM := Lib.hid hmem
  have HE := Lib.hid (fun (W : World) (h : Below w.heap.size w W) => E.below E.size h)
  have hlu : ((20000 : Int) < (u.size : Int)) = False := by simp; omega
  have wsub : IntKind.i64.wrap ((u.size : Int) - (t.size : Int)) = (u.size : Int) - (t.size : Int) := IntWalk.i64_in _ (by omega)
  clear hp hch hrc hv hmem E hok hr hue hst hsu hL hm hat hau hsz' hus
  go_enter Tryd.func20, Tryd.ntmps20
  go_wp2_with fail
  refine (HP.out _ (HE.out _ (((Below.refl _ w).alloc (Nat.le_refl _) _).alloc (by simp) _))).mono ?_
  rintro e w1 ⟨v0, rfl, hrow, hb⟩
  have hB1 : Below w.heap.size w w1 := (((Below.refl _ w).alloc (Nat.le_refl _) _).alloc (by simp) _).trans (hb.mono (by simp; omega))
  have e1 : w1.heap[w.heap.size + 1]? = some (.cells #[.int .i64 0, .int .i64 0] 47) := (hb.block _ (by simp)).trans (by have := World.alloc_heap_new (w.alloc (.cells #[.int .i64 (a : Int), .int .i64 (d : Int), .string ins] 41)) (.cells #[.int .i64 0, .int .i64 0] 47); simpa using this)
  have hk1 : ∀ k o, k < w.heap.size + 2 → w1.cell? ⟨k, o, none⟩ = _ := fun k o hk => hb.cell (p := ⟨k, o, none⟩) (by simp; omega)
  have c0 : w1.cell? ⟨w.heap.size, 0, none⟩ = some (.int .i64 (a : Int)) := (hk1 _ _ (by omega)).trans (by simp)
  have c1 : w1.cell? ⟨w.heap.size, 1, none⟩ = some (.int .i64 (d : Int)) := (hk1 _ _ (by omega)).trans (by simp)
  have c2 : w1.cell? ⟨w.heap.size, 2, none⟩ = some (.string ins) := (hk1 _ _ (by omega)).trans (by simp)
  have hz1 := hb.size
  simp only [World.size_alloc] at hz1
  have RV := HV.out.below hB1
  have R0 := RowIn.of_owns hrow
  have HB1 := Lib.hid hB1; have HRV := Lib.hid RV; have HR0 := Lib.hid R0
  clear hk1 hrow hb hB1 RV R0 HP
  go_wp2_with fail
  refine (equal_same v0 v L (by omega) w1 HR0.out HRV.out).mono ?_
  rintro e w2 ⟨rfl, hb2⟩
  have d0 : w2.cell? ⟨w.heap.size, 0, none⟩ = some (.int .i64 (a : Int)) := (hb2.cell (p := ⟨w.heap.size, 0, none⟩) (by simp; omega)).trans c0
  have d1 : w2.cell? ⟨w.heap.size, 1, none⟩ = some (.int .i64 (d : Int)) := (hb2.cell (p := ⟨w.heap.size, 1, none⟩) (by simp; omega)).trans c1
  have d2 : w2.cell? ⟨w.heap.size, 2, none⟩ = some (.string ins) := (hb2.cell (p := ⟨w.heap.size, 2, none⟩) (by simp; omega)).trans c2
  have hz2 := hb2.size
  have e2 := (hb2.block _ (by omega)).trans e1
  have HB2 := Lib.hid (HB1.out.trans (hb2.mono HB1.out.size)); have HRV2 := Lib.hid (HRV.out.below hb2)
  clear HB1 HRV HR0 hb2 c0 c1 c2
  go_wp2_with fail
  refine (HCH.out _).mono ?_
  rintro e w3 ⟨rfl, hb3⟩
  have c0 : w3.cell? ⟨w.heap.size, 0, none⟩ = some (.int .i64 (a : Int)) := (hb3.cell (p := ⟨w.heap.size, 0, none⟩) (by simp; omega)).trans d0
  have c1 : w3.cell? ⟨w.heap.size, 1, none⟩ = some (.int .i64 (d : Int)) := (hb3.cell (p := ⟨w.heap.size, 1, none⟩) (by simp; omega)).trans d1
  have c2 : w3.cell? ⟨w.heap.size, 2, none⟩ = some (.string ins) := (hb3.cell (p := ⟨w.heap.size, 2, none⟩) (by simp; omega)).trans d2
  have hz3 := hb3.size
  have e3 := (hb3.block _ (by omega)).trans e2
  have HB3 := Lib.hid (HB2.out.trans (hb3.mono HB2.out.size)); have HRV3 := Lib.hid (HRV2.out.below hb3)
  clear HB2 HRV2 HCH hb3 d0 d1 d2
  go_wp2_with fail
  refine (HRC.out _ (HE.out _ HB3.out) HRV3.out).mono ?_
  rintro e w4 ⟨v', rfl, hrow4, hb4⟩
  have hz4 := hb4.size
  have e4 := (hb4.block _ (by omega)).trans e3
  have HB4 := Lib.hid (HB3.out.trans (hb4.mono HB3.out.size)); have HRV4 := Lib.hid (HRV3.out.below hb4); have HR4 := Lib.hid (RowIn.of_owns hrow4)
  have HROW := Lib.hid hrow4
  have hvs : ∃ b0 c0, v' = .slice b0 m.length c0 := by
    rcases hrow4.2 with ⟨rfl, h0⟩ | ⟨g, cap, cur, rfl, _⟩
    · exact ⟨none, 0, by rw [h0]⟩
    · exact ⟨_, _, rfl⟩
  obtain ⟨b0, c0', rfl⟩ := hvs
  clear HB3 HRV3 HRC hb4 hrow4 c0 c1 c2
  go_wp2_with fail
  refine (kept_any v _ L m ((u.size : Int) - (t.size : Int)) (by omega) HMEM.out (by omega) (by omega) _ HRV4.out HR4.out).mono ?_
  rintro e w5 ⟨rfl, hb5⟩
  have e5 := (hb5.block _ (by omega)).trans e4
  have k0 : w5.cell? ⟨w.heap.size + 1, 0, none⟩ = some (.int .i64 0) := cell_at e5
  have k1 : w5.cell? ⟨w.heap.size + 1, 1, none⟩ = some (.int .i64 0) := cell_at e5
  have k2 : w5.frozen? ⟨w.heap.size + 1, 0, none⟩ = false := frozen_at e5
  have k3 : w5.frozen? ⟨w.heap.size + 1, 1, none⟩ = false := frozen_at e5
  have HE5 := Lib.hid e5
  clear e1 e2 e3 e4 e5
  have HB5 := Lib.hid (HB4.out.trans (hb5.mono HB4.out.size))
  have HROW5 := Lib.hid (row_same HROW.out (fun k _ h2 => hb5.block k h2))
  clear HB4 HRV4 HR4 HROW hb5
  go_wp2_with fail
  obtain ⟨W6, hW6⟩ : ∃ W6, W6 = ((w5.setCell ⟨w.heap.size + 1, 0, none⟩ (.int .i64 (frontN L m 0 : Int))).setCell ⟨w.heap.size + 1, 1, none⟩ (.int .i64 (backN L m ((u.size : Int) - (t.size : Int)) (frontN L m 0) 0 : Int))) := ⟨_, rfl⟩
  have r1 : W6.cell? ⟨w.heap.size + 1, 1, none⟩ = some (.int .i64 (backN L m ((u.size : Int) - (t.size : Int)) (frontN L m 0) 0 : Int)) := by
    rw [hW6]; exact World.cell?_setCell_same' _ _ _ (by rw [World.cell?_setCell_other _ _ _ _ (by simp), k1]; rfl)
  have r0 : W6.cell? ⟨w.heap.size + 1, 0, none⟩ = some (.int .i64 (frontN L m 0 : Int)) := by
    rw [hW6, World.cell?_setCell_other _ _ _ _ (by simp)]; exact World.cell?_setCell_same' _ _ _ (by rw [k0]; rfl)
  rw [← hW6]
  refine bodyPost_ret (v := .tuple #[.slice b0 m.length c0', .agg #[.int .i64 (frontN L m 0 : Int), .int .i64 (backN L m ((u.size : Int) - (t.size : Int)) (frontN L m 0) 0 : Int)], .int .i64 0, .int .i64 0]) ?_ rfl ⟨_, rfl, ?_, ?_⟩
  · simp [results, Tryd.results20, go_sem, r0, r1]
  · rw [hW6]
    refine row_base (base := w3.heap.size) (row_same HROW5.out fun k h1 h2 => ?_) (by omega)
    rw [Below.heap_setCell _ _ _ _ (by simp; omega), Below.heap_setCell _ _ _ _ (by simp; omega)]
  · rw [hW6]
    exact (HB5.out.setCell (p := ⟨w.heap.size + 1, 0, none⟩) (by simp) _).setCell (p := ⟨w.heap.size + 1, 1, none⟩) (by simp) _
end Go.Proofs.YtledmagigkpbeaaDoor
