/-
  The law: pieces that end well ahead of a splice are kept.
-/
import Derived.Test.YtnhmcfliepkfeaaDoorSA
import Derived.Test.YtnhmcfliepkfeaaDoorUP2
import Derived.Test.YtnhmcfliepkfeaaDoorMX
import Derived.LoopTactic
namespace Go.Proofs.YtnhmcfliepkfeaaDoor
open Go.RowKit Go.Shelf

/-- What holds between two rounds of the law's loop. -/
structure LocR (w : World) (kb a F K : Nat) (b : Option Addr) (g : Nat) (L : List (Nat × Nat × Nat)) (wr : World) : Prop where
  below : Below w.heap.size w wr
  xa : wr.cell? ⟨w.heap.size, 0, none⟩ = some (.int .i64 (a : Int))
  kf : wr.cell? ⟨kb, 0, none⟩ = some (.int .i64 (F : Int))
  kk : wr.cell? ⟨kb, 1, none⟩ = some (.int .i64 (K : Int))
  lin : LIn wr b g L
theorem LocR.drew {w : World} {kb a F K : Nat} {b : Option Addr} {g : Nat} {L : List (Nat × Nat × Nat)} {wr : World} (h : LocR w kb a F K b g L wr) (n : Nat) : LocR w kb a F K b g L (wr.drewN n) :=
  ⟨below_drewN h.below n, h.xa, h.kf, h.kk, h.lin.addr, h.lin.low, h.lin.cells⟩

set_option maxHeartbeats 4000000 in
set_option maxRecDepth 100000 in
theorem local_no (t ins : ByteArray) (a d : Int) (w : World) (E : Env w)
    (hno : ∀ (v : Value) (W : World), Env W → ((piecesR t).2.2 = 0 → RowIn W v (piecesR t).1) → Calls Tryd.prog 20 #[.string t, v, .agg #[.int .i64 a, .int .i64 d, .string ins]] W (UpdNo W)) :
    Calls Tryd.prog 6 #[.string t, .agg #[.int .i64 a, .int .i64 d, .string ins]] w fun e w' => e = .returned (.bool true) ∧ Below w.heap.size w w' := by
  have HS := Lib.hid (fun W E => sane_any W E)
  have hp := fun W E => pieces_all t W E
  have HU := Lib.hid hno
  have HE := Lib.hid (fun (W : World) (h : Below w.heap.size w W) => E.below E.size h)
  unfold PiecesEnd at hp
  obtain ⟨c, hc⟩ : ∃ c, c = (piecesR t).2.2 := ⟨_, rfl⟩
  rw [← hc] at hp
  have HC := Lib.hid hc
  have HP := Lib.hid hp
  clear hno E hc hp
  go_enter Tryd.func6, Tryd.ntmps6
  go_wp2_with fail
  have bA := (Below.refl _ w).alloc (Nat.le_refl _) (.cells #[.int .i64 a, .int .i64 d, .string ins] 41)
  have HBA := Lib.hid bA
  refine (HS.out _ (HE.out _ HBA.out)).mono ?_
  rintro e w1 ⟨rfl, b1⟩
  have c0 : w1.cell? ⟨w.heap.size, 0, none⟩ = some (.int .i64 a) := (b1.cell (p := ⟨w.heap.size, 0, none⟩) (by simp)).trans (by simp)
  have c1 : w1.cell? ⟨w.heap.size, 1, none⟩ = some (.int .i64 d) := (b1.cell (p := ⟨w.heap.size, 1, none⟩) (by simp)).trans (by simp)
  have c2 : w1.cell? ⟨w.heap.size, 2, none⟩ = some (.string ins) := (b1.cell (p := ⟨w.heap.size, 2, none⟩) (by simp)).trans (by simp)
  have hz1 := b1.size
  simp only [World.size_alloc] at hz1
  have B1 := Lib.hid (HBA.out.trans (b1.mono (by simp)))
  clear b1 bA HS HBA
  go_wp2_with fail
  refine (HP.out _ (HE.out _ B1.out)).mono ?_
  rintro e w2 ⟨v, rfl, hrow, b2⟩
  have d0 : w2.cell? ⟨w.heap.size, 0, none⟩ = some (.int .i64 a) := (b2.cell (p := ⟨w.heap.size, 0, none⟩) (by simp; omega)).trans c0
  have d1 : w2.cell? ⟨w.heap.size, 1, none⟩ = some (.int .i64 d) := (b2.cell (p := ⟨w.heap.size, 1, none⟩) (by simp; omega)).trans c1
  have d2 : w2.cell? ⟨w.heap.size, 2, none⟩ = some (.string ins) := (b2.cell (p := ⟨w.heap.size, 2, none⟩) (by simp; omega)).trans c2
  have hz2 := b2.size
  have B2 := Lib.hid (B1.out.trans (b2.mono B1.out.size))
  clear B1 c0 c1 c2
  have RV := Lib.hid (RowIn.of_owns hrow)
  clear b2 HP hrow
  go_wp2_with fail
  refine (HU.out v _ (HE.out _ B2.out) (fun _ => RV.out)).mono ?_
  rintro e w3 ⟨i, f, rfl, hf, b3⟩
  have B3 := Lib.hid (B2.out.trans (b3.mono B2.out.size))
  have hfn : (f != 0) = true := by rw [bne_iff_ne]; exact hf
  clear b3 B2 HU HE RV HC hf d0 d1 d2
  by_cases h0 : c = 0
  · have hcn : ((c : Int) != 0) = false := by rw [h0]; rfl
    clear h0
    go_wp2_with fail
    exact bodyPost_ret (v := .bool true) (by simp [results, Tryd.results6, go_sem]) rfl ⟨rfl, B3.out.alloc B3.out.size _⟩
  · have hcn : ((c : Int) != 0) = true := by rw [bne_iff_ne]; omega
    clear h0
    go_wp2_with fail
    exact bodyPost_ret (v := .bool true) (by simp [results, Tryd.results6, go_sem]) rfl ⟨rfl, B3.out.alloc B3.out.size _⟩

set_option maxHeartbeats 4000000 in
set_option maxRecDepth 100000 in
theorem local_ok (t ins : ByteArray) (a d : Nat) (h : a + d ≤ t.size) (hok : (piecesR t).2.2 = 0) (hu : (spliceB t a d ins).size ≤ 20000) (hr : (piecesR (spliceB t a d ins)).2.2 = 0) (w : World) (E : Env w) :
    Calls Tryd.prog 6 #[.string t, .agg #[.int .i64 (a : Int), .int .i64 (d : Int), .string ins]] w fun e w' => e = .returned (.bool true) ∧ Below w.heap.size w w' := by
  obtain ⟨hts, hat, _, opT, cT, hst⟩ := pieces_ok hok
  have hlen := (steps_bounds _ _ _ _ _ hst (by omega)).1
  simp only at hlen
  have hmem : ∀ x ∈ (piecesR t).1, x.2.1 + x.2.2 ≤ 1048576 := fun x hx => by have := (steps_in _ _ _ _ _ hst x hx).2.1; simp only at this; omega
  have hloc := local_front hok hr (splice_ahead t ins a d h)
  have HS := Lib.hid (fun W E => sane_any W E)
  have hp := fun W E => pieces_all t W E
  have hup := fun v W E hv => upd_ok v t ins a d h hok hu hr W E hv
  have HE := Lib.hid (fun (W : World) (h : Below w.heap.size w W) => E.below E.size h)
  unfold PiecesEnd at hp
  rw [hok, hat] at hp
  obtain ⟨F, hF⟩ : ∃ F, F = frontN (piecesR t).1 (piecesR (spliceB t a d ins)).1 0 := ⟨_, rfl⟩
  obtain ⟨K, hK⟩ : ∃ K, K = backN (piecesR t).1 (piecesR (spliceB t a d ins)).1 (((spliceB t a d ins).size : Int) - (t.size : Int)) F 0 := ⟨_, rfl⟩
  have hsum : F + K ≤ (piecesR t).1.length := by rw [hK, hF]; exact local_sum _ _ _
  have hup2 : ∀ v W, Env W → RowIn W v (piecesR t).1 → Calls Tryd.prog 20 #[.string t, v, .agg #[.int .i64 (a : Int), .int .i64 (d : Int), .string ins]] W fun e w' => ∃ v', e = .returned (.tuple #[v', .agg #[.int .i64 (F : Int), .int .i64 (K : Int)], .int .i64 0, .int .i64 0]) ∧ Below W.heap.size W w' := by
    intro v W E hv
    refine (hup v W E hv).mono ?_
    rintro e w' ⟨v', rfl, _, hb⟩
    exact ⟨v', by rw [hK, hF], hb⟩
  change ∀ i x, (piecesR t).1[i]? = some x → _ → i < frontN (piecesR t).1 (piecesR (spliceB t a d ins)).1 0 at hloc
  rw [← hF] at hloc
  obtain ⟨L, hL⟩ : ∃ L, L = (piecesR t).1 := ⟨_, rfl⟩
  rw [← hL] at hp hup2 hloc hmem hlen hsum
  have HP := Lib.hid hp; have HUP := Lib.hid hup2; have HLOC := Lib.hid hloc; have HMEM := Lib.hid hmem
  clear hp hup hup2 hloc hmem E hok hr hst hF hK hL hat hu
  go_enter Tryd.func6, Tryd.ntmps6
  go_wp2_with fail
  have bA := (Below.refl _ w).alloc (Nat.le_refl _) (.cells #[.int .i64 (a : Int), .int .i64 (d : Int), .string ins] 41)
  have HBA := Lib.hid bA
  refine (HS.out _ (HE.out _ HBA.out)).mono ?_
  rintro e w1 ⟨rfl, b1⟩
  have c0 : w1.cell? ⟨w.heap.size, 0, none⟩ = some (.int .i64 (a : Int)) := (b1.cell (p := ⟨w.heap.size, 0, none⟩) (by simp)).trans (by simp)
  have c1 : w1.cell? ⟨w.heap.size, 1, none⟩ = some (.int .i64 (d : Int)) := (b1.cell (p := ⟨w.heap.size, 1, none⟩) (by simp)).trans (by simp)
  have c2 : w1.cell? ⟨w.heap.size, 2, none⟩ = some (.string ins) := (b1.cell (p := ⟨w.heap.size, 2, none⟩) (by simp)).trans (by simp)
  have hz1 := b1.size
  simp only [World.size_alloc] at hz1
  have B1 := Lib.hid (HBA.out.trans (b1.mono (by simp)))
  clear b1 bA HS HBA
  go_wp2_with fail
  refine (HP.out _ (HE.out _ B1.out)).mono ?_
  rintro e w2 ⟨v, rfl, hrow, b2⟩
  have d0 : w2.cell? ⟨w.heap.size, 0, none⟩ = some (.int .i64 (a : Int)) := (b2.cell (p := ⟨w.heap.size, 0, none⟩) (by simp; omega)).trans c0
  have d1 : w2.cell? ⟨w.heap.size, 1, none⟩ = some (.int .i64 (d : Int)) := (b2.cell (p := ⟨w.heap.size, 1, none⟩) (by simp; omega)).trans c1
  have d2 : w2.cell? ⟨w.heap.size, 2, none⟩ = some (.string ins) := (b2.cell (p := ⟨w.heap.size, 2, none⟩) (by simp; omega)).trans c2
  have hz2 := b2.size
  have B2 := Lib.hid (B1.out.trans (b2.mono B1.out.size))
  clear B1 c0 c1 c2
  obtain ⟨b, cap, g, rfl, _, hI⟩ := RowIn.of_owns hrow
  have RV : Hid (RowIn w2 (.slice b L.length cap) L) := Lib.hid (RowIn.of_owns hrow)
  clear b2 HP hrow
  go_wp2_with fail
  refine (HUP.out _ _ (HE.out _ B2.out) RV.out).mono ?_
  rintro e w3 ⟨v', rfl, b3⟩
  have B3 := Lib.hid (B2.out.trans (b3.mono B2.out.size))
  have c0 : w3.cell? ⟨w.heap.size, 0, none⟩ = some (.int .i64 (a : Int)) := (b3.cell (p := ⟨w.heap.size, 0, none⟩) (by simp; omega)).trans d0
  have HI : Hid (LIn w3 b g L) := Lib.hid ⟨hI.addr, fun hne => Nat.lt_of_lt_of_le (hI.low hne) b3.size, fun hne j u hu => (b3.cell (p := ⟨g, j, none⟩) (hI.low hne)).trans (hI.cells hne j u hu)⟩
  have hz3 := b3.size
  clear b3 B2 HUP HE RV hI d0 d1 d2
  go_wp2_with fail
  have hl0 : LocR w w3.heap.size a F K b g L (w3.alloc (.cells #[.int .i64 (F : Int), .int .i64 (K : Int)] 47)) := by
    have hb := (Below.refl _ w3).alloc (Nat.le_refl _) (.cells #[.int .i64 (F : Int), .int .i64 (K : Int)] 47)
    exact ⟨B3.out.alloc B3.out.size _, (hb.cell (p := ⟨w.heap.size, 0, none⟩) (by simp; omega)).trans c0, cell_at (World.alloc_heap_new w3 _), cell_at (World.alloc_heap_new w3 _),
      ⟨HI.out.addr, fun hne => by have := HI.out.low hne; simp; omega, fun hne j u hu => (hb.cell (p := ⟨g, j, none⟩) (HI.out.low hne)).trans (HI.out.cells hne j u hu)⟩⟩
  have HL0 := Lib.hid hl0
  clear hl0 HI c0 B3
  go_loopw [13] (fun iv wr => ∃ k : Nat, k ≤ L.length ∧ iv = .int .i64 (k : Int) ∧ Hid (LocR w w3.heap.size a F K b g L wr)) (fun iv _ => L.length - (intOf iv).toNat)
  case atStart => exact ⟨0, by omega, rfl, HL0⟩
  case round =>
    clear HL0
    obtain ⟨k, hk, rfl, HR⟩ := hrel
    have e0 : wr.cell? ⟨w.heap.size, 0, none⟩ = some (.int .i64 (a : Int)) := HR.out.xa
    have e1 : wr.cell? ⟨w3.heap.size, 0, none⟩ = some (.int .i64 (F : Int)) := HR.out.kf
    have e2 : wr.cell? ⟨w3.heap.size, 1, none⟩ = some (.int .i64 (K : Int)) := HR.out.kk
    by_cases hlt : k < L.length
    · obtain ⟨x, hx⟩ : ∃ x, L[k]? = some x := ⟨_, List.getElem?_eq_getElem hlt⟩
      have hne : L ≠ [] := by rintro rfl; simp at hlt
      have hba := HR.out.lin.addr hne
      subst hba
      have hxm := HMEM.out x (List.mem_iff_getElem?.2 ⟨k, hx⟩)
      have l1 : wr.cell? ⟨g, k * 3 + 1, none⟩ = some (.int .i64 (x.2.1 : Int)) := (HR.out.lin.cells hne).c1 hx
      have l2 : wr.cell? ⟨g, k * 3 + 2, none⟩ = some (.int .i64 (x.2.2 : Int)) := (HR.out.lin.cells hne).c2 hx
      have w1' : IntKind.i64.wrap ((x.2.1 : Int) + (x.2.2 : Int)) = (x.2.1 : Int) + (x.2.2 : Int) := IntWalk.i64_in _ (by omega)
      have w2' : IntKind.i64.wrap ((a : Int) - 100) = (a : Int) - 100 := IntWalk.i64_in _ (by omega)
      have w3' : IntKind.i64.wrap ((a : Int) - 100 - 1) = (a : Int) - 100 - 1 := IntWalk.i64_in _ (by omega)
      have w4' : IntKind.i64.wrap ((k : Int) + 1) = (k : Int) + 1 := IntWalk.i64_in _ (by omega)
      have hlt' : (k : Int) < (L.length : Int) := by omega
      have HLX := Lib.hid (HLOC.out k x hx)
      clear hx hxm
      by_cases hc : (x.2.1 : Int) + (x.2.2 : Int) < (a : Int) - 100 - 1
      · have hkF : ((F : Int) ≤ (k : Int)) = False := by have := HLX.out hc; simp; omega
        go_wp2_with fail
        go_quiet (fail)
        go_wp2_with fail
        exact ⟨⟨k + 1, by omega, by simp, Lib.hid (HR.out.drew nq)⟩, by simp only [intOf]; omega⟩
      · have hc' : ((x.2.1 : Int) + (x.2.2 : Int) < (a : Int) - 100 - 1) = False := by simp; omega
        go_wp2_with fail
        go_quiet (fail)
        go_wp2_with fail
        exact ⟨⟨k + 1, by omega, by simp, Lib.hid (HR.out.drew nq)⟩, by simp only [intOf]; omega⟩
    · have hlt' : ((k : Int) < (L.length : Int)) = False := by simp; omega
      have hs : (F : Int) + (K : Int) ≤ (L.length : Int) := by omega
      have w1' : IntKind.i64.wrap ((F : Int) + (K : Int)) = (F : Int) + (K : Int) := IntWalk.i64_in _ (by omega)
      go_wp2_with fail
      exact bodyPost_ret (v := .bool true) (by simp [results, Tryd.results6, go_sem]) rfl ⟨rfl, HR.out.below⟩

theorem local_any (t ins : ByteArray) (a d : Int) (hins : ins.size ≤ 4611686018427387904) (w : World) (E : Env w) :
    Calls Tryd.prog 6 #[.string t, .agg #[.int .i64 a, .int .i64 d, .string ins]] w fun e w' => e = .returned (.bool true) ∧ Below w.heap.size w w' := by
  by_cases hex : ∃ a' d' : Nat, a = (a' : Int) ∧ d = (d' : Int) ∧ a' + d' ≤ t.size ∧ (piecesR t).2.2 = 0 ∧ (spliceB t a' d' ins).size ≤ 20000 ∧ (piecesR (spliceB t a' d' ins)).2.2 = 0
  · obtain ⟨a', d', rfl, rfl, h1, h2, h3, h4⟩ := hex
    exact local_ok t ins a' d' h1 h2 h3 h4 w E
  · exact local_no t ins a d w E (fun v W E' hv => (upd_any v t ins a d hins W E' hv).resolve_left hex)
end Go.Proofs.YtnhmcfliepkfeaaDoor
