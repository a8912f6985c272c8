/-
  Update of the reference: where nothing is refused.
-/
import Derived.Test.YtlkanfnhemjdcaaGreatDoorVB
import Derived.LoopTactic
namespace Go.Proofs.YtlkanfnhemjdcaaGreatDoor
section
open Go.RowKit Go.Shelf
attribute [local go_sem 5000] run_eql_piece run_guard_piece run_neq_moved

/-- What holds between two rounds. -/
structure RRel (w4 : World) (NOW : Obj) (f b : Nat) (wr : World) : Prop where
  below : Below (w4.heap.size + 1) (w4.alloc NOW) wr
  c0 : wr.cell? ⟨w4.heap.size + 1, 0, none⟩ = some (.int .i64 f)
  c1 : wr.cell? ⟨w4.heap.size + 1, 1, none⟩ = some (.int .i64 b)
  z : ∀ j, wr.frozen? ⟨w4.heap.size + 1, j, none⟩ = false
  size : w4.heap.size + 2 ≤ wr.heap.size
theorem RRel.drew {w4 : World} {NOW : Obj} {f b : Nat} {wr : World} (h : RRel w4 NOW f b wr) : RRel w4 NOW f b wr.drew :=
  ⟨h.below.drew, h.c0, h.c1, h.z, h.size⟩
theorem RRel.drewN {w4 : World} {NOW : Obj} {f b : Nat} {wr : World} (h : RRel w4 NOW f b wr) (q : Nat) : RRel w4 NOW f b (wr.drewN q) :=
  ⟨⟨h.below.os, h.below.tape, h.below.output, h.below.size, h.below.block⟩, h.c0, h.c1, h.z, h.size⟩
theorem RRel.alloc {w4 : World} {NOW : Obj} {f b : Nat} {wr : World} (h : RRel w4 NOW f b wr) (o : Obj) : RRel w4 NOW f b (wr.alloc o) := by
  have hb : ∀ k, k < wr.heap.size → (wr.alloc o).heap[k]? = wr.heap[k]? := fun k hk => Below.heap_alloc wr o k hk
  have hs := h.size
  have c : ∀ b' j, b' < wr.heap.size → (wr.alloc o).cell? ⟨b', j, none⟩ = wr.cell? ⟨b', j, none⟩ := fun b' j hb' => World.cell?_of_block (a := ⟨b', j, none⟩) (hb b' hb')
  have z : ∀ b' j, b' < wr.heap.size → (wr.alloc o).frozen? ⟨b', j, none⟩ = wr.frozen? ⟨b', j, none⟩ := fun b' j hb' => World.frozen?_of_block (a := ⟨b', j, none⟩) (hb b' hb')
  exact ⟨h.below.alloc (by omega) _, (c _ _ (by omega)).trans h.c0, (c _ _ (by omega)).trans h.c1, fun j => (z _ _ (by omega)).trans (h.z j), by simp; omega⟩
theorem RRel.front {w4 : World} {NOW : Obj} {f b : Nat} {wr : World} (h : RRel w4 NOW f b wr) (v : Nat) : RRel w4 NOW v b (wr.setCell ⟨w4.heap.size + 1, 0, none⟩ (.int .i64 v)) :=
  ⟨h.below.setCell (p := ⟨w4.heap.size + 1, 0, none⟩) (Nat.le_refl _) _, World.cell?_setCell_same' _ _ _ (by rw [h.c0]; rfl), (World.cell?_setCell_other _ _ _ _ (by simp)).trans h.c1, fun j' => by rw [World.frozen?_setCell]; exact h.z j', by simpa using h.size⟩
theorem RRel.back {w4 : World} {NOW : Obj} {f b : Nat} {wr : World} (h : RRel w4 NOW f b wr) (v : Nat) : RRel w4 NOW f v (wr.setCell ⟨w4.heap.size + 1, 1, none⟩ (.int .i64 v)) :=
  ⟨h.below.setCell (p := ⟨w4.heap.size + 1, 1, none⟩) (Nat.le_refl _) _, (World.cell?_setCell_other _ _ _ _ (by simp)).trans h.c0, World.cell?_setCell_same' _ _ _ (by rw [h.c1]; rfl), fun j' => by rw [World.frozen?_setCell]; exact h.z j', by simpa using h.size⟩
theorem RRel.heap {w4 : World} {NOW : Obj} {f b : Nat} {wr : World} (h : RRel w4 NOW f b wr) {q : Nat} {x : Obj} (hx : w4.heap[q]? = some x) : wr.heap[q]? = some x :=
  (h.below.block q (by have := (Array.getElem?_eq_some_iff.1 hx).1; omega)).trans (five_alloc NOW hx)
theorem RRel.cell {w4 : World} {NOW : Obj} {f b : Nat} {wr : World} (h : RRel w4 NOW f b wr) {p : Addr} {v : Value} (hp : p.block < w4.heap.size) (hv : w4.cell? p = some v) : wr.cell? p = some v :=
  (h.below.cell (p := p) (by omega)).trans ((World.cell?_of_block (Below.heap_alloc w4 NOW p.block hp)).trans hv)
theorem RRel.now {w4 : World} {cs : Array Value} {ty : TypeId} {f b : Nat} {wr : World} (h : RRel w4 (.cells cs ty) f b wr) {j : Nat} {v : Value} (hv : cs[j]? = some v) : wr.cell? ⟨w4.heap.size, j, none⟩ = some v :=
  (h.below.cell (p := ⟨w4.heap.size, j, none⟩) (Nat.lt_succ_self _)).trans (new_cell _ _ _ _ _ _ rfl hv)

def RUpdOk (L M : List (Nat × Nat × Nat)) (shift : Int) (w : World) (e : Ending) (w' : World) : Prop :=
  ∃ b c, e = .returned (.agg #[.slice b M.length c, .int .i64 (frontN L M 0 : Int), .int .i64 (backN L M shift (frontN L M 0) 0 : Int), .int .i64 0, .int .i64 0]) ∧ RowIn w' (.slice b M.length c) M ∧ Below w.heap.size w w'

theorem rPieces_owns (t : ByteArray) (W : World) : Calls Tryz.prog 9 #[.string t] W fun e w' => ∃ (b : Option Addr) (cp : Nat), e = .returned (.agg #[.slice b (piecesR t).1.length cp, .int .i64 ((piecesR t).2.1 : Int), .int .i64 ((piecesR t).2.2 : Int)]) ∧ w'.ownsRow W.heap.size 59 3 (.slice b (piecesR t).1.length cp) (piecesR t).1.length (flatP (piecesR t).1) ∧ Below W.heap.size W w' := by
  refine (rPieces_all t W).mono ?_
  rintro e w' ⟨v, rfl, hrow, hb⟩
  obtain ⟨b, cap, g, rfl, _⟩ := RowIn.of_owns hrow
  exact ⟨b, cap, rfl, hrow, hb⟩

theorem ru_end {w w3 w4 : World} {b4 : Option Addr} {cq : Nat} {M : List (Nat × Nat × Nat)} {NOW : Obj} (hrow : w4.ownsRow w3.heap.size 59 3 (.slice b4 M.length cq) M.length (flatP M)) (h3 : w.heap.size + 2 ≤ w3.heap.size) (hB4 : Below w.heap.size w w4) (hz : w3.heap.size ≤ w4.heap.size)
    (wl : World) (hl : Below (w4.heap.size + 1) (w4.alloc NOW) wl) (y0 y1 y2 y3 y4 : Value) :
    RowIn (((((wl.setCell ⟨w.heap.size + 1, 0, none⟩ y0).setCell ⟨w.heap.size + 1, 1, none⟩ y1).setCell ⟨w.heap.size + 1, 2, none⟩ y2).setCell ⟨w.heap.size + 1, 3, none⟩ y3).setCell ⟨w.heap.size + 1, 4, none⟩ y4) (.slice b4 M.length cq) M ∧
    Below w.heap.size w (((((wl.setCell ⟨w.heap.size + 1, 0, none⟩ y0).setCell ⟨w.heap.size + 1, 1, none⟩ y1).setCell ⟨w.heap.size + 1, 2, none⟩ y2).setCell ⟨w.heap.size + 1, 3, none⟩ y3).setCell ⟨w.heap.size + 1, 4, none⟩ y4) := by
  constructor
  · refine RowIn.of_owns (base := w3.heap.size) (row_same hrow fun k h1 h2 => ?_)
    rw [Below.heap_setCell _ _ _ _ (by simp; omega), Below.heap_setCell _ _ _ _ (by simp; omega), Below.heap_setCell _ _ _ _ (by simp; omega), Below.heap_setCell _ _ _ _ (by simp; omega), Below.heap_setCell _ _ _ _ (by simp; omega)]
    exact (hl.block k (by omega)).trans (Below.heap_alloc w4 NOW k h2)
  · have hwl : Below w.heap.size w wl := (hB4.alloc (by omega) NOW).trans (hl.mono (by omega))
    exact ((((hwl.setCell (p := ⟨w.heap.size + 1, 0, none⟩) (Nat.le_succ _) _).setCell (p := ⟨w.heap.size + 1, 1, none⟩) (Nat.le_succ _) _).setCell (p := ⟨w.heap.size + 1, 2, none⟩) (Nat.le_succ _) _).setCell (p := ⟨w.heap.size + 1, 3, none⟩) (Nat.le_succ _) _).setCell (p := ⟨w.heap.size + 1, 4, none⟩) (Nat.le_succ _) _

set_option maxHeartbeats 4000000 in
set_option maxRecDepth 100000 in
theorem rUpd_ok (v : Value) (t ins : ByteArray) (a d : Nat) (h : a + d ≤ t.size) (hi : t.size + ins.size ≤ 9223372036854775807) (hok : (piecesR t).2.2 = 0) (hr : (piecesR (spliceB t a d ins)).2.2 = 0) (w : World) (hv : IRow w v (intsP (piecesR t).1)) :
    Calls Tryz.prog 43 #[.string t, v, .agg #[.int .i64 (a : Int), .int .i64 (d : Int), .string ins]] w (RUpdOk (piecesR t).1 (piecesR (spliceB t a d ins)).1 (((spliceB t a d ins).size : Int) - (t.size : Int)) w) := by
  have htz := (pieces_ok hok).1
  have hmem : ∀ x ∈ (piecesR t).1, x.2.1 + x.2.2 ≤ 1048576 := fun x hx => by
    obtain ⟨_, _, _, opT, cT, hst⟩ := pieces_ok hok
    have := (steps_in _ _ _ _ _ hst x hx).2.1; simp only at this; omega
  have hlm := pieces_len (spliceB t a d ins)
  have huz := (pieces_ok hr).1
  obtain ⟨u, hue⟩ : ∃ u, u = spliceB t a d ins := ⟨_, rfl⟩
  have HCH := Lib.hid (fun W => rChange_ok t ins a d h (by omega) W)
  rw [← hue] at HCH hr hlm huz ⊢
  have hau := (pieces_ok hr).2.1
  have HQ := Lib.hid (rPieces_owns u)
  obtain ⟨M, hM⟩ : ∃ M, M = (piecesR u).1 := ⟨_, rfl⟩
  rw [hr, hau, ← hM] at HQ
  rw [← hM] at hlm ⊢
  obtain ⟨shift, hsh⟩ : ∃ s : Int, s = (u.size : Int) - (t.size : Int) := ⟨_, rfl⟩
  rw [← hsh]
  have HSH := Lib.hid hsh
  have hs1 : -1048576 ≤ shift ∧ shift ≤ 1048576 := by omega
  clear hue h hi hM hau hr hsh
  have HP := Lib.hid (rPieces_rows t)
  obtain ⟨L, hL⟩ : ∃ L, L = (piecesR t).1 := ⟨_, rfl⟩
  have hlen := pieces_len t
  obtain ⟨_, hat, _⟩ := pieces_ok hok
  rw [hok, hat, ← hL] at HP
  rw [← hL] at hlen hmem hv ⊢
  have HMEM := Lib.hid hmem
  have HV := Lib.hid hv
  clear hmem
  clear hv hL hat hok
  obtain ⟨bL, cL, gL, oL, rfl, _, _⟩ := HV.out.pcs
  obtain ⟨n, hn⟩ : ∃ n, n = min L.length M.length := ⟨_, rfl⟩
  have hm : min (L.length : Int) (M.length : Int) = (n : Int) := by omega
  have HFE : Hid (∀ k, ¬ k < n → frontN L M k = k) := Lib.hid (fun k hk => frontN_end (by omega))
  have hnl : n ≤ L.length := by omega
  have hnm : n ≤ M.length := by omega
  have HN := Lib.hid hn
  clear hn
  go_enter Tryz.func43, Tryz.ntmps43
  go_wp2_with fail
  refine (HP.out _).mono ?_
  rintro e w1 ⟨b1, cp, rfl, hrow, hb⟩
  have hB1 : Below w.heap.size w w1 := (((Below.refl _ w).alloc (Nat.le_refl _) _).alloc (by simp) _).trans (hb.mono (by simp; omega))
  have e1 : w1.heap[w.heap.size + 1]? = some (.cells #[.slice none 0 0, .int .i64 0, .int .i64 0, .int .i64 0, .int .i64 0] 75) := (hb.block _ (by simp)).trans (by have := World.alloc_heap_new (w.alloc (.cells #[.int .i64 (a : Int), .int .i64 (d : Int), .string ins] 40)) (.cells #[.slice none 0 0, .int .i64 0, .int .i64 0, .int .i64 0, .int .i64 0] 75); simpa using this)
  have hz1 := hb.size
  simp only [World.size_alloc] at hz1
  have hk1 : ∀ k o, k < w.heap.size + 2 → w1.cell? ⟨k, o, none⟩ = _ := fun k o hk => hb.cell (p := ⟨k, o, none⟩) (by simp; omega)
  have c0 : w1.cell? ⟨w.heap.size, 0, none⟩ = some (.int .i64 (a : Int)) := (hk1 _ _ (by omega)).trans (by simp)
  have c1 : w1.cell? ⟨w.heap.size, 1, none⟩ = some (.int .i64 (d : Int)) := (hk1 _ _ (by omega)).trans (by simp)
  have c2 : w1.cell? ⟨w.heap.size, 2, none⟩ = some (.string ins) := (hk1 _ _ (by omega)).trans (by simp)
  have HB1 := Lib.hid hB1; have HR0 := Lib.hid hrow; have HV1 := Lib.hid (HV.out.below hB1)
  clear hk1 hrow hb hB1 HV
  go_wp2_with fail
  have hbo := (Below.refl w1.heap.size w1).alloc (Nat.le_refl _) (.cells #[.slice b1 L.length cp, .int .i64 0, .int .i64 0] 28)
  have heq := rSameO_any _ _ L (intsP L) (by omega) _ (HR0.out.below hbo) (HV1.out.below hbo)
  rw [decide_eq_true rfl] at heq
  refine heq.mono ?_
  rintro e w2 ⟨rfl, hb2⟩
  have hz2 := hb2.size
  simp only [World.size_alloc] at hz2
  have e2 := (hb2.block _ (by simp; omega)).trans (five_alloc (.cells #[.slice b1 L.length cp, .int .i64 0, .int .i64 0] 28) e1)
  have HB2 := Lib.hid ((HB1.out.alloc HB1.out.size (.cells #[.slice b1 L.length cp, .int .i64 0, .int .i64 0] 28)).trans (hb2.mono (by simp; omega)))
  have hk2 : ∀ o, w2.cell? ⟨w.heap.size, o, none⟩ = w1.cell? ⟨w.heap.size, o, none⟩ := fun o => (hb2.cell (p := ⟨w.heap.size, o, none⟩) (by simp; omega)).trans (hbo.cell (p := ⟨w.heap.size, o, none⟩) (by simp; omega))
  have d0 := (hk2 0).trans c0
  have d1 := (hk2 1).trans c1
  have d2 := (hk2 2).trans c2
  have HV2 := Lib.hid ((HV1.out.below hbo).below hb2)
  clear hk2
  clear HB1 HV1 HR0 hb2 hbo heq c0 c1 c2
  go_wp2_with fail
  refine (HCH.out _).mono ?_
  rintro e w3 ⟨rfl, hb3⟩
  have hz3 := hb3.size
  have e3 := (hb3.block _ (by omega)).trans e2
  have HB3 := Lib.hid (HB2.out.trans (hb3.mono HB2.out.size)); have HV3 := Lib.hid (HV2.out.below hb3)
  clear HB2 HV2 HCH hb3 d0 d1 d2 e2
  go_wp2_with fail
  refine (HQ.out _).mono ?_
  rintro e w4 ⟨b4, cq, rfl, hrow4, hb4⟩
  have hz4 := hb4.size
  have e4 := (hb4.block _ (by omega)).trans e3
  have hB4 := HB3.out.trans (hb4.mono HB3.out.size)
  have HEND := Lib.hid (fun wl hl => ru_end (NOW := (.cells #[.slice b4 M.length cq, .int .i64 0, .int .i64 0] 28)) hrow4 (by omega) hB4 hb4.size wl hl)
  have HE4 := Lib.hid e4
  have HLF : Hid (L ≠ [] → ∃ g og, bL = some ⟨g, og, none⟩ ∧ g < w4.heap.size ∧ PcsO w4 g og L) := Lib.hid (fun hne => by
    obtain ⟨b', c', g', o', he', _, hI⟩ := (HV3.out.below hb4).pcs
    injection he' with he1 he2 he3
    subst he1
    exact ⟨g', o', hI.addr hne, hI.low hne, hI.cells hne⟩)
  have HMF : Hid (M ≠ [] → ∃ g, b4 = some ⟨g, 0, none⟩ ∧ g < w4.heap.size ∧ PcsAt w4 g M) := Lib.hid (fun hne => by
    obtain ⟨b', c', g', he', _, hI⟩ := RowIn.of_owns hrow4
    injection he' with he1 he2 he3
    subst he1
    exact ⟨g', hI.addr hne, hI.low hne, hI.cells hne⟩)
  clear HB3 HV3 HQ hb4 e3 hrow4 e4 hB4 HP
  go_wp2_with fail
  go_loopw [] (fun wr => ∃ k : Nat, k ≤ n ∧ RRel w4 (.cells #[.slice b4 M.length cq, .int .i64 0, .int .i64 0] 28) k 0 wr ∧ Hid (frontN L M k = frontN L M 0)) (fun wr => n - kOf (w4.heap.size + 1) 0 wr)
  case atStart =>
    refine ⟨0, by omega, ⟨(Below.refl _ _).alloc (by simp) _, ?_, ?_, ?_, by simp⟩, Lib.hid rfl⟩
    · exact new_cell _ _ _ _ _ _ (by simp) rfl
    · exact new_cell _ _ _ _ _ _ (by simp) rfl
    · exact fun j => new_frozen _ _ _ _ _ (by simp)
  case round =>
    obtain ⟨k, hk, hr, hu⟩ := hrel
    have HR := Lib.hid hr
    clear hr
    have e0 := HR.out.c0
    have e1 := HR.out.now (j := 0) rfl
    have hz := HR.out.z 0
    have hw : IntKind.i64.wrap ((k : Int) + 1) = (k : Int) + 1 := IntWalk.i64_in _ (by omega)
    by_cases hlt : k < n
    · obtain ⟨x, hx⟩ : ∃ x, L[k]? = some x := ⟨_, List.getElem?_eq_getElem (by omega)⟩
      obtain ⟨y, hy⟩ : ∃ y, M[k]? = some y := ⟨_, List.getElem?_eq_getElem (by omega)⟩
      obtain ⟨g, og, rfl, hg, hL⟩ := HLF.out (by rintro rfl; simp at hx)
      obtain ⟨h, rfl, hh, hMc⟩ := HMF.out (by rintro rfl; simp at hy)
      have l0 := HR.out.cell (p := ⟨g, og + k * 3, none⟩) hg (hL.c0 hx)
      have l1 := HR.out.cell (p := ⟨g, og + k * 3 + 1, none⟩) hg (hL.c1 hx)
      have l2 := HR.out.cell (p := ⟨g, og + k * 3 + 2, none⟩) hg (hL.c2 hx)
      have m0 := HR.out.cell (p := ⟨h, k * 3, none⟩) hh (hMc.c0 hy)
      have m1 := HR.out.cell (p := ⟨h, k * 3 + 1, none⟩) hh (hMc.c1 hy)
      have m2 := HR.out.cell (p := ⟨h, k * 3 + 2, none⟩) hh (hMc.c2 hy)
      have h1 : (k : Int) < (n : Int) := by omega
      have h2 : (k : Int) < (L.length : Int) := by omega
      have h3 : (k : Int) < (M.length : Int) := by omega
      have HL := Lib.hid hL; have HMc := Lib.hid hMc
      clear hL hMc
      go_wp2_with fail
      go_region_held3 (fun w' => w'.cell? ⟨w4.heap.size + 1, 0, none⟩ = some (.int .i64 (k : Int)) ∧ w'.cell? ⟨w4.heap.size, 0, none⟩ = some (.slice (some ⟨h, 0, none⟩) M.length cq) ∧ w'.cell? ⟨g, og + k * 3, none⟩ = some (.int .i64 (x.1 : Int)) ∧ w'.cell? ⟨g, og + k * 3 + 1, none⟩ = some (.int .i64 (x.2.1 : Int)) ∧ w'.cell? ⟨g, og + k * 3 + 2, none⟩ = some (.int .i64 (x.2.2 : Int)) ∧ w'.cell? ⟨h, k * 3, none⟩ = some (.int .i64 (y.1 : Int)) ∧ w'.cell? ⟨h, k * 3 + 1, none⟩ = some (.int .i64 (y.2.1 : Int)) ∧ w'.cell? ⟨h, k * 3 + 2, none⟩ = some (.int .i64 (y.2.2 : Int))) (go_keep) (fail)
      by_cases hxy : x = y
      · have hd : decide (x = y) = true := by simp [hxy]
        have hon := frontN_on hx hy hxy
        have HON := Lib.hid hon
        clear hon hxy
        simp only [hd]
        go_wp2_with fail
        have hkr := (HR.out.front (k + 1)).drew
        rw [show (((k + 1 : Nat)) : Int) = (k : Int) + 1 by omega] at hkr
        have hk1 := kOf_eq (k := k + 1) (by rw [show (((k + 1 : Nat)) : Int) = (k : Int) + 1 by omega]; exact hkr.c0)
        have hk0 := kOf_eq HR.out.c0
        refine ⟨⟨k + 1, hlt, hkr, Lib.hid (by rw [← HON.out]; exact hu.out)⟩, ?_⟩
        rw [hk1, hk0]; omega
      · have hd : decide (x = y) = false := by simp [hxy]
        have HFK : Hid (frontN L M k = k) := Lib.hid (frontN_stop hx hy hxy)
        have HKR := Lib.hid HR.out.drew
        clear hxy
        simp only [hd]
        go_wp2_with fail
        clear hd hx hy l0 l1 l2 m0 m1 m2 h1 h2 h3
        have HK : Hid (frontN L M 0 = k) := Lib.hid (by rw [← hu.out]; exact HFK.out)
        have hkr := HKR.out
        go_loopw [] (fun wr => ∃ b : Nat, b ≤ n - k ∧ RRel w4 (.cells #[.slice (some ⟨h, 0, none⟩) M.length cq, .int .i64 0, .int .i64 0] 28) k b wr ∧ Hid (backN L M shift k b = backN L M shift k 0)) (fun wr => n - k - kOf (w4.heap.size + 1) 1 wr)
        case atStart => exact ⟨0, by omega, hkr, Lib.hid rfl⟩
        case round =>
          obtain ⟨b, hb, hr2, hv⟩ := hrel
          clear HR hz e0 e1
          have HR := Lib.hid hr2
          clear hr2
          have c0 := HR.out.c0
          have c1 := HR.out.c1
          have e0 := HR.out.now (j := 0) rfl
          have hz := HR.out.z 1
          have wkb : IntKind.i64.wrap ((k : Int) + (b : Int)) = (k : Int) + (b : Int) := IntWalk.i64_in _ (by omega)
          by_cases hlt2 : k + b < n
          · obtain ⟨i, hi⟩ : ∃ i, i = L.length - 1 - b := ⟨_, rfl⟩
            obtain ⟨j, hj⟩ : ∃ j, j = M.length - 1 - b := ⟨_, rfl⟩
            obtain ⟨x, hx⟩ : ∃ x, L[i]? = some x := ⟨_, List.getElem?_eq_getElem (by omega)⟩
            obtain ⟨y, hy⟩ : ∃ y, M[j]? = some y := ⟨_, List.getElem?_eq_getElem (by omega)⟩
            have hxl := HMEM.out x (List.mem_iff_getElem?.2 ⟨i, hx⟩)
            have l0 := HR.out.cell (p := ⟨g, og + i * 3, none⟩) hg (HL.out.c0 hx)
            have l1 := HR.out.cell (p := ⟨g, og + i * 3 + 1, none⟩) hg (HL.out.c1 hx)
            have l2 := HR.out.cell (p := ⟨g, og + i * 3 + 2, none⟩) hg (HL.out.c2 hx)
            have wi1 : IntKind.i64.wrap ((L.length : Int) - 1) = (L.length : Int) - 1 := IntWalk.i64_in _ (by omega)
            have wi2 : IntKind.i64.wrap ((L.length : Int) - 1 - (b : Int)) = (i : Int) := by rw [IntWalk.i64_in _ (by omega)]; omega
            have wj1 : IntKind.i64.wrap ((M.length : Int) - 1) = (M.length : Int) - 1 := IntWalk.i64_in _ (by omega)
            have wj2 : IntKind.i64.wrap ((M.length : Int) - 1 - (b : Int)) = (j : Int) := by rw [IntWalk.i64_in _ (by omega)]; omega
            have hil : i < L.length := by omega
            have hjm : j < M.length := by omega
            have hil' : (i : Int) < (L.length : Int) := by omega
            have hjm' : (j : Int) < (M.length : Int) := by omega
            have hlt3 : (k : Int) + (b : Int) < (n : Int) := by omega
            have ws1 : IntKind.i64.wrap ((x.2.1 : Int) + (u.size : Int)) = (x.2.1 : Int) + (u.size : Int) := IntWalk.i64_in _ (by omega)
            have ws2 : IntKind.i64.wrap ((x.2.1 : Int) + (u.size : Int) - (t.size : Int)) = (x.2.1 : Int) + shift := by rw [HSH.out, IntWalk.i64_in _ (by omega)]; omega
            have wb1 : IntKind.i64.wrap ((b : Int) + 1) = (b : Int) + 1 := IntWalk.i64_in _ (by omega)
            have HON : Hid (moved shift x y = true → backN L M shift k b = backN L M shift k (b + 1)) := Lib.hid (fun hm' => backN_on (by rw [← HN.out]; exact hlt2) hi hj hx hy hm')
            have HST : Hid (moved shift x y = false → backN L M shift k b = b) := Lib.hid (fun hm' => backN_stop (by rw [← HN.out]; exact hlt2) hi hj hx hy hm')
            clear hi hj
            have HA := Lib.hid (HR.out.alloc (.cells #[.int .i64 (x.1 : Int), .int .i64 ((x.2.1 : Int) + shift), .int .i64 (x.2.2 : Int)] 59))
            have d0 := HA.out.c0
            have d1 := HA.out.c1
            have d2 := HA.out.now (j := 0) rfl
            have dz := HA.out.z 1
            have p0 : (wr.alloc (.cells #[.int .i64 (x.1 : Int), .int .i64 ((x.2.1 : Int) + shift), .int .i64 (x.2.2 : Int)] 59)).cell? ⟨wr.heap.size, 0, none⟩ = some (.int .i64 (x.1 : Int)) := new_cell _ _ _ _ _ _ rfl rfl
            have p1 : (wr.alloc (.cells #[.int .i64 (x.1 : Int), .int .i64 ((x.2.1 : Int) + shift), .int .i64 (x.2.2 : Int)] 59)).cell? ⟨wr.heap.size, 1, none⟩ = some (.int .i64 ((x.2.1 : Int) + shift)) := new_cell _ _ _ _ _ _ rfl rfl
            have p2 : (wr.alloc (.cells #[.int .i64 (x.1 : Int), .int .i64 ((x.2.1 : Int) + shift), .int .i64 (x.2.2 : Int)] 59)).cell? ⟨wr.heap.size, 2, none⟩ = some (.int .i64 (x.2.2 : Int)) := new_cell _ _ _ _ _ _ rfl rfl
            have q0 := HA.out.cell (p := ⟨h, j * 3, none⟩) hh (HMc.out.c0 hy)
            have q1 := HA.out.cell (p := ⟨h, j * 3 + 1, none⟩) hh (HMc.out.c1 hy)
            have q2 := HA.out.cell (p := ⟨h, j * 3 + 2, none⟩) hh (HMc.out.c2 hy)
            have r0 : (wr.alloc (.cells #[.int .i64 (x.1 : Int), .int .i64 ((x.2.1 : Int) + shift), .int .i64 (x.2.2 : Int)] 59)).cell? ⟨w.heap.size + 1, 0, none⟩ = some (.slice none 0 0) := cell_at (HA.out.heap HE4.out)
            have r1 : (wr.alloc (.cells #[.int .i64 (x.1 : Int), .int .i64 ((x.2.1 : Int) + shift), .int .i64 (x.2.2 : Int)] 59)).cell? ⟨w.heap.size + 1, 1, none⟩ = some (.int .i64 0) := cell_at (HA.out.heap HE4.out)
            have r2 : (wr.alloc (.cells #[.int .i64 (x.1 : Int), .int .i64 ((x.2.1 : Int) + shift), .int .i64 (x.2.2 : Int)] 59)).cell? ⟨w.heap.size + 1, 2, none⟩ = some (.int .i64 0) := cell_at (HA.out.heap HE4.out)
            have r3 : (wr.alloc (.cells #[.int .i64 (x.1 : Int), .int .i64 ((x.2.1 : Int) + shift), .int .i64 (x.2.2 : Int)] 59)).cell? ⟨w.heap.size + 1, 3, none⟩ = some (.int .i64 0) := cell_at (HA.out.heap HE4.out)
            have r4 : (wr.alloc (.cells #[.int .i64 (x.1 : Int), .int .i64 ((x.2.1 : Int) + shift), .int .i64 (x.2.2 : Int)] 59)).cell? ⟨w.heap.size + 1, 4, none⟩ = some (.int .i64 0) := cell_at (HA.out.heap HE4.out)
            have s0 : (wr.alloc (.cells #[.int .i64 (x.1 : Int), .int .i64 ((x.2.1 : Int) + shift), .int .i64 (x.2.2 : Int)] 59)).frozen? ⟨w.heap.size + 1, 0, none⟩ = false := frozen_at (HA.out.heap HE4.out)
            have s1 : (wr.alloc (.cells #[.int .i64 (x.1 : Int), .int .i64 ((x.2.1 : Int) + shift), .int .i64 (x.2.2 : Int)] 59)).frozen? ⟨w.heap.size + 1, 1, none⟩ = false := frozen_at (HA.out.heap HE4.out)
            have s2 : (wr.alloc (.cells #[.int .i64 (x.1 : Int), .int .i64 ((x.2.1 : Int) + shift), .int .i64 (x.2.2 : Int)] 59)).frozen? ⟨w.heap.size + 1, 2, none⟩ = false := frozen_at (HA.out.heap HE4.out)
            have s3 : (wr.alloc (.cells #[.int .i64 (x.1 : Int), .int .i64 ((x.2.1 : Int) + shift), .int .i64 (x.2.2 : Int)] 59)).frozen? ⟨w.heap.size + 1, 3, none⟩ = false := frozen_at (HA.out.heap HE4.out)
            have s4 : (wr.alloc (.cells #[.int .i64 (x.1 : Int), .int .i64 ((x.2.1 : Int) + shift), .int .i64 (x.2.2 : Int)] 59)).frozen? ⟨w.heap.size + 1, 4, none⟩ = false := frozen_at (HA.out.heap HE4.out)
            go_wp2_with fail
            go_region_held3 (fun w' => w'.cell? ⟨w4.heap.size + 1, 1, none⟩ = some (.int .i64 (b : Int)) ∧ w'.cell? ⟨w4.heap.size, 0, none⟩ = some (.slice (some ⟨h, 0, none⟩) M.length cq) ∧ w'.cell? ⟨wr.heap.size, 0, none⟩ = some (.int .i64 (x.1 : Int)) ∧ w'.cell? ⟨wr.heap.size, 1, none⟩ = some (.int .i64 ((x.2.1 : Int) + shift)) ∧ w'.cell? ⟨wr.heap.size, 2, none⟩ = some (.int .i64 (x.2.2 : Int)) ∧ w'.cell? ⟨h, j * 3, none⟩ = some (.int .i64 (y.1 : Int)) ∧ w'.cell? ⟨h, j * 3 + 1, none⟩ = some (.int .i64 (y.2.1 : Int)) ∧ w'.cell? ⟨h, j * 3 + 2, none⟩ = some (.int .i64 (y.2.2 : Int))) (go_keep) (fail)
            cases hmv : moved shift x y
            · have HZ2 := Lib.hid (HST.out hmv)
              go_wp2_with fail
              refine bodyPost_ret (v := .agg #[.slice (some ⟨h, 0, none⟩) M.length cq, .int .i64 (k : Int), .int .i64 (b : Int), .int .i64 0, .int .i64 0]) ?_ rfl ⟨_, cq, by rw [HK.out, ← hv.out, HZ2.out]; try rfl, ?_, ?_⟩
              · simp [results, Tryz.results43, go_sem, r0, r1, r2, r3, r4]
              · exact (HEND.out _ HA.out.below.drew _ _ _ _ _).1
              · exact (HEND.out _ HA.out.below.drew _ _ _ _ _).2
            · have HB2 := Lib.hid (HON.out hmv)
              go_wp2_with fail
              have hkb := (HA.out.back (b + 1)).drew
              rw [show (((b + 1 : Nat)) : Int) = (b : Int) + 1 by omega] at hkb
              have hk1 := kOf_eq (k := b + 1) (by rw [show (((b + 1 : Nat)) : Int) = (b : Int) + 1 by omega]; exact hkb.c1)
              have hk0 := kOf_eq HR.out.c1
              refine ⟨⟨b + 1, by omega, hkb, Lib.hid (by rw [← HB2.out]; exact hv.out)⟩, ?_⟩
              rw [hk1, hk0]; omega
          · have hlt3 : ((k : Int) + (b : Int) < (n : Int)) = False := by simp; omega
            have HZ2 : Hid (backN L M shift k b = b) := Lib.hid (backN_end (by rw [← HN.out]; exact hlt2))
            have r0 : wr.cell? ⟨w.heap.size + 1, 0, none⟩ = some (.slice none 0 0) := cell_at (HR.out.heap HE4.out)
            have r1 : wr.cell? ⟨w.heap.size + 1, 1, none⟩ = some (.int .i64 0) := cell_at (HR.out.heap HE4.out)
            have r2 : wr.cell? ⟨w.heap.size + 1, 2, none⟩ = some (.int .i64 0) := cell_at (HR.out.heap HE4.out)
            have r3 : wr.cell? ⟨w.heap.size + 1, 3, none⟩ = some (.int .i64 0) := cell_at (HR.out.heap HE4.out)
            have r4 : wr.cell? ⟨w.heap.size + 1, 4, none⟩ = some (.int .i64 0) := cell_at (HR.out.heap HE4.out)
            have s0 : wr.frozen? ⟨w.heap.size + 1, 0, none⟩ = false := frozen_at (HR.out.heap HE4.out)
            have s1 : wr.frozen? ⟨w.heap.size + 1, 1, none⟩ = false := frozen_at (HR.out.heap HE4.out)
            have s2 : wr.frozen? ⟨w.heap.size + 1, 2, none⟩ = false := frozen_at (HR.out.heap HE4.out)
            have s3 : wr.frozen? ⟨w.heap.size + 1, 3, none⟩ = false := frozen_at (HR.out.heap HE4.out)
            have s4 : wr.frozen? ⟨w.heap.size + 1, 4, none⟩ = false := frozen_at (HR.out.heap HE4.out)
            go_wp2_with fail
            refine bodyPost_ret (v := .agg #[.slice (some ⟨h, 0, none⟩) M.length cq, .int .i64 (k : Int), .int .i64 (b : Int), .int .i64 0, .int .i64 0]) ?_ rfl ⟨_, cq, by rw [HK.out, ← hv.out, HZ2.out]; try rfl, ?_, ?_⟩
            · simp [results, Tryz.results43, go_sem, r0, r1, r2, r3, r4]
            · exact (HEND.out _ HR.out.below _ _ _ _ _).1
            · exact (HEND.out _ HR.out.below _ _ _ _ _).2
    · have hkm : k = n := by omega
      have HFK := Lib.hid (HFE.out k hlt)
      have HKR := Lib.hid (fun q => HR.out.drewN q)
      subst hkm
      clear hlt hk
      go_wp2_with fail
      go_quiet (fail)
      go_wp2_with fail
      have HK : Hid (frontN L M 0 = k) := Lib.hid (by rw [← hu.out]; exact HFK.out)
      have hkr := HKR.out nq
      go_loopw [] (fun wr => ∃ b : Nat, b ≤ k - k ∧ RRel w4 (.cells #[.slice b4 M.length cq, .int .i64 0, .int .i64 0] 28) k b wr ∧ Hid (backN L M shift k b = backN L M shift k 0)) (fun wr => k - k - kOf (w4.heap.size + 1) 1 wr)
      case atStart => exact ⟨0, by omega, hkr, Lib.hid rfl⟩
      case round =>
        obtain ⟨b, hb, hr2, hv⟩ := hrel
        clear HR hz e0 e1
        have HR := Lib.hid hr2
        clear hr2
        have c0 := HR.out.c0
        have c1 := HR.out.c1
        have e0 := HR.out.now (j := 0) rfl
        have hz := HR.out.z 1
        have wkb : IntKind.i64.wrap ((k : Int) + ((b : Nat) : Int)) = (k : Int) + (b : Int) := IntWalk.i64_in _ (by omega)
        have hb0 : b = 0 := by omega
        subst hb0
        clear hb wkb
        have HZ2 : Hid (backN L M shift k 0 = 0) := Lib.hid (backN_end (by rw [← HN.out]; omega))
        have r0 : wr.cell? ⟨w.heap.size + 1, 0, none⟩ = some (.slice none 0 0) := cell_at (HR.out.heap HE4.out)
        have r1 : wr.cell? ⟨w.heap.size + 1, 1, none⟩ = some (.int .i64 0) := cell_at (HR.out.heap HE4.out)
        have r2 : wr.cell? ⟨w.heap.size + 1, 2, none⟩ = some (.int .i64 0) := cell_at (HR.out.heap HE4.out)
        have r3 : wr.cell? ⟨w.heap.size + 1, 3, none⟩ = some (.int .i64 0) := cell_at (HR.out.heap HE4.out)
        have r4 : wr.cell? ⟨w.heap.size + 1, 4, none⟩ = some (.int .i64 0) := cell_at (HR.out.heap HE4.out)
        have s0 : wr.frozen? ⟨w.heap.size + 1, 0, none⟩ = false := frozen_at (HR.out.heap HE4.out)
        have s1 : wr.frozen? ⟨w.heap.size + 1, 1, none⟩ = false := frozen_at (HR.out.heap HE4.out)
        have s2 : wr.frozen? ⟨w.heap.size + 1, 2, none⟩ = false := frozen_at (HR.out.heap HE4.out)
        have s3 : wr.frozen? ⟨w.heap.size + 1, 3, none⟩ = false := frozen_at (HR.out.heap HE4.out)
        have s4 : wr.frozen? ⟨w.heap.size + 1, 4, none⟩ = false := frozen_at (HR.out.heap HE4.out)
        go_wp2_with fail
        refine bodyPost_ret (v := .agg #[.slice b4 M.length cq, .int .i64 (k : Int), .int .i64 (0 : Int), .int .i64 0, .int .i64 0]) ?_ rfl ⟨b4, cq, by rw [HK.out, HZ2.out]; try rfl, ?_, ?_⟩
        · simp [results, Tryz.results43, go_sem, r0, r1, r2, r3, r4]
        · exact (HEND.out _ HR.out.below _ _ _ _ _).1
        · exact (HEND.out _ HR.out.below _ _ _ _ _).2
end

end Go.Proofs.YtlkanfnhemjdcaaGreatDoor
