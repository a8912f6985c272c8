/-
  What the law of gaps calls: a modulus, a comment between spaces, lists of tokens that are the same.
  Lists of tokens that are the same but for their places and marks.
  The law of gaps: its walk, over the contracts of what it calls.
  The law of gaps, for every text, integer and filling.
-/
import Derived.Test.YtledmagigkpbeaaDoorA
import Derived.Test.YtledmagigkpbeaaDoorGM
import Derived.IntWalk
import Derived.LoopTactic
import Derived.Deep.QuietTactic
import Derived.BigQuiet
import Derived.Lib.Hide
import Derived.BigRegion
import Derived.RegionTactic
import Derived.WalkSmall
import Derived.Deep.RegionHeld3
import Derived.Test.YtledmagigkpbeaaDoorSA
namespace Go.Proofs.YtledmagigkpbeaaDoor
open Go.RowKit Go.Shelf

theorem mod_any (n : Int) (m : Nat) (hm : 1 ≤ m) (hm2 : m ≤ 1048576) (w : World) :
    Calls Tryd.prog 16 #[.int .i64 n, .int .i64 (m : Int)] w fun e w' => ∃ k : Nat, k < m ∧ e = .returned (.int .i64 (k : Int)) ∧ w = w' := by
  have hlt : n.tmod (m : Int) < (m : Int) := Int.tmod_lt_of_pos n (by omega)
  have hgt : -(m : Int) < n.tmod (m : Int) := by
    have := Int.tmod_lt_of_pos (-n) (b := (m : Int)) (by omega)
    rw [Int.neg_tmod] at this; omega
  obtain ⟨r, hr⟩ : ∃ r, r = n.tmod (m : Int) := ⟨_, rfl⟩
  rw [← hr] at hlt hgt
  have hz : (m : Int) ≠ 0 := by omega
  have hw : IntKind.i64.wrap r = r := IntWalk.i64_in _ (by omega)
  by_cases h0 : r < 0
  · have hw2 : IntKind.i64.wrap (r + (m : Int)) = r + (m : Int) := IntWalk.i64_in _ (by omega)
    go_enter Tryd.func16, Tryd.ntmps16
    go_wp2
    go_ret
    refine ⟨(r + (m : Int)).toNat, by omega, ?_, rfl⟩
    rw [show (((r + (m : Int)).toNat : Nat) : Int) = n.tmod (m : Int) + (m : Int) by omega]
    rfl
  · go_enter Tryd.func16, Tryd.ntmps16
    go_wp2
    go_ret
    refine ⟨r.toNat, by omega, ?_, rfl⟩
    rw [show ((r.toNat : Nat) : Int) = n.tmod (m : Int) by omega]
    rfl

theorem mid_same {f : ByteArray} {k : Nat} (h : aheadB f k = 42 ∨ aheadB f k = 47) : midB f (k + 1) = midB f k := by rw [midB, if_pos h]
theorem mid_more {f : ByteArray} {k : Nat} (h : ¬ (aheadB f k = 42 ∨ aheadB f k = 47)) : midB f (k + 1) = midB f k ++ f.extract k (k + 1) := by rw [midB, if_neg h]

set_option maxHeartbeats 1000000 in
theorem gap_any (f : ByteArray) (hf : f.size ≤ 4611686018427387904) (w : World) :
    Calls Tryd.prog 17 #[.string f] w fun e w' => e = .returned (.string (gapB f)) ∧ w = w' := by
  go_enter Tryd.func17, Tryd.ntmps17
  go_wp2_with fail
  go_loop [3, 4] (fun o i => ∃ k : Nat, k ≤ f.size ∧ k ≤ 40 ∧ i = .int .i64 (k : Int) ∧ o = .string (midB f k)) (fun _ i => 40 - (intOf i).toNat)
  case atStart => exact ⟨0, by omega, by omega, rfl, rfl⟩
  case round =>
    obtain ⟨k, hk, hk40, rfl, rfl⟩ := hrel
    obtain ⟨m1, m2, -, -, -, -⟩ := mid_facts f k hk
    have w3' : IntKind.i64.wrap ((k : Int) + 1) = (k : Int) + 1 := IntWalk.i64_in _ (by omega)
    by_cases hlt : k < f.size
    · have hlt' : (k : Int) < (f.size : Int) := by omega
      by_cases h40 : k < 40
      · have h40' : (k : Int) < 40 := by omega
        have s1 : (k : Int) ≤ (k : Int) + 1 := by omega
        have s2 : (k : Int) + 1 ≤ (f.size : Int) := by omega
        have s3 : ((k : Int) + 1).toNat = k + 1 := by omega
        have hsz : (9223372036854775807 < (midB f k).size + 1) = False := by simp; omega
        have ha : aheadB f k = f[k] := aheadB_lt hlt
        by_cases h42 : aheadB f k = 42
        · have hb : ((f[k].toNat : Int) != 42) = false := by rw [← ha, h42]; rfl
          have hM : Hid (midB f (k + 1) = midB f k) := Lib.hid (mid_same (Or.inl h42))
          clear h42 ha
          go_wp2_with fail
          all_goals exact ⟨⟨k + 1, by omega, by omega, by simp, by rw [hM.out]⟩, by simp only [intOf]; omega⟩
        · by_cases h47 : aheadB f k = 47
          · have hb : ((f[k].toNat : Int) != 42) = true := by rw [← ha, h47]; rfl
            have hb2 : ((f[k].toNat : Int) != 47) = false := by rw [← ha, h47]; rfl
            have hM : Hid (midB f (k + 1) = midB f k) := Lib.hid (mid_same (Or.inr h47))
            clear h42 h47 ha
            go_wp2_with fail
            all_goals exact ⟨⟨k + 1, by omega, by omega, by simp, by rw [hM.out]⟩, by simp only [intOf]; omega⟩
          · have hb : ((f[k].toNat : Int) != 42) = true := by
              rw [← ha, bne_iff_ne]; intro e; apply h42; apply UInt8.toNat_inj.1; exact Int.ofNat.inj e
            have hb2 : ((f[k].toNat : Int) != 47) = true := by
              rw [← ha, bne_iff_ne]; intro e; apply h47; apply UInt8.toNat_inj.1; exact Int.ofNat.inj e
            have hM : Hid (midB f (k + 1) = midB f k ++ f.extract k (k + 1)) := Lib.hid (mid_more (by rintro (h | h); exact h42 h; exact h47 h))
            clear h42 h47 ha
            go_wp2_with fail
            all_goals exact ⟨⟨k + 1, by omega, by omega, by simp, by rw [hM.out]⟩, by simp only [intOf]; omega⟩
      · have hk' : k = 40 := by omega
        have h40' : ((k : Int) < 40) = False := by simp; omega
        have hE : Hid (gapB f = midB f k ++ ⟨#[32, 42, 47, 32]⟩) := Lib.hid (by unfold gapB; rw [show min f.size 40 = k by omega])
        have hsz : (9223372036854775807 < (midB f k).size + 4) = False := by simp; omega
        clear hk'
        go_wp2_with fail
        go_ret
        exact ⟨by rw [hE.out]; rfl, rfl⟩
    · have hlt' : ((k : Int) < (f.size : Int)) = False := by simp; omega
      have hE : Hid (gapB f = midB f k ++ ⟨#[32, 42, 47, 32]⟩) := Lib.hid (by unfold gapB; rw [show min f.size 40 = k by omega])
      have hsz : (9223372036854775807 < (midB f k).size + 4) = False := by simp; omega
      go_wp2_with fail
      go_ret
      exact ⟨by rw [hE.out]; rfl, rfl⟩

/-- A row of tokens: where their kinds, numbers and texts lie. -/
structure VIn (w : World) (b : Option Addr) (g : Nat) (l : List (Int × Int × ByteArray)) : Prop where
  addr : l ≠ [] → b = some ⟨g, 0, none⟩
  low : l ≠ [] → g < w.heap.size
  cells : l ≠ [] → ∀ k x, l[k]? = some x → w.cell? ⟨g, k * 5, none⟩ = some (.int .i64 x.1) ∧ w.cell? ⟨g, k * 5 + 1, none⟩ = some (.int .i64 x.2.1) ∧ w.cell? ⟨g, k * 5 + 2, none⟩ = some (.string x.2.2)
theorem VIn.below {w w' : World} {b : Option Addr} {g : Nat} {l : List (Int × Int × ByteArray)} (h : VIn w b g l) (hb : Below w.heap.size w w') : VIn w' b g l := by
  refine ⟨h.addr, fun hne => Nat.lt_of_lt_of_le (h.low hne) hb.size, fun hne k x hx => ?_⟩
  have hl := h.low hne
  obtain ⟨c0, c1, c2⟩ := h.cells hne k x hx
  exact ⟨(hb.cell (p := ⟨g, k * 5, none⟩) hl).trans c0, (hb.cell (p := ⟨g, k * 5 + 1, none⟩) hl).trans c1, (hb.cell (p := ⟨g, k * 5 + 2, none⟩) hl).trans c2⟩

set_option maxHeartbeats 4000000 in
set_option maxRecDepth 100000 in
theorem same_true (V : List (Int × Int × ByteArray)) (hV : V.length ≤ 1048576) (b1 b2 : Option Addr) (c1 c2 g1 g2 : Nat) (w : World) (h1 : VIn w b1 g1 V) (h2 : VIn w b2 g2 V) :
    Calls Tryd.prog 19 #[.slice b1 V.length c1, .slice b2 V.length c2] w fun e w' => e = .returned (.bool true) ∧ Below w.heap.size w w' := by
  have H1 := Lib.hid h1
  have H2 := Lib.hid h2
  clear h1 h2
  go_enter Tryd.func19, Tryd.ntmps19
  go_wp2_with fail
  go_loopw [5, 6] (fun s i wr => s = .bool true ∧ (∃ k : Nat, k ≤ V.length ∧ i = .int .i64 (k : Int)) ∧ Hid (Below w.heap.size w wr)) (fun _ i _ => V.length - (intOf i).toNat)
  case atStart => exact ⟨by simp, ⟨0, by omega, rfl⟩, Lib.hid (Below.refl _ _)⟩
  case round =>
    obtain ⟨rfl, ⟨k, hk, rfl⟩, hbe⟩ := hrel
    have w3' : IntKind.i64.wrap ((k : Int) + 1) = (k : Int) + 1 := IntWalk.i64_in _ (by omega)
    by_cases hlt : k < V.length
    · obtain ⟨x, hx⟩ : ∃ x, V[k]? = some x := ⟨_, List.getElem?_eq_getElem hlt⟩
      have hne : V ≠ [] := by rintro rfl; simp at hlt
      have e1 := H1.out.addr hne
      have e2 := H2.out.addr hne
      subst e1 e2
      have l1 := H1.out.low hne
      have l2 := H2.out.low hne
      obtain ⟨x0, x1, x2⟩ := H1.out.cells hne k x hx
      obtain ⟨y0, y1, y2⟩ := H2.out.cells hne k x hx
      have p0 := (hbe.out.cell (p := ⟨g1, k * 5, none⟩) l1).trans x0
      have p1 := (hbe.out.cell (p := ⟨g1, k * 5 + 1, none⟩) l1).trans x1
      have p2 := (hbe.out.cell (p := ⟨g1, k * 5 + 2, none⟩) l1).trans x2
      have q0 := (hbe.out.cell (p := ⟨g2, k * 5, none⟩) l2).trans y0
      have q1 := (hbe.out.cell (p := ⟨g2, k * 5 + 1, none⟩) l2).trans y1
      have q2 := (hbe.out.cell (p := ⟨g2, k * 5 + 2, none⟩) l2).trans y2
      have hlt' : (k : Int) < (V.length : Int) := by omega
      clear hx x0 x1 x2 y0 y1 y2
      go_wp2_with fail
      go_quiet (fail)
      all_goals go_wp2_with fail
      all_goals exact ⟨⟨rfl, ⟨k + 1, by omega, by simp⟩, Lib.hid (below_drewN hbe.out nq)⟩, by simp only [intOf]; omega⟩
    · have hlt' : ((k : Int) < (V.length : Int)) = False := by simp; omega
      go_wp2_with fail
      exact bodyPost_ret (v := .bool true) (by simp [results, Tryd.results19, go_sem]) rfl ⟨rfl, hbe.out⟩

/-- A row of pieces: where their kinds, places and lengths lie. -/
structure PIn (w : World) (b : Option Addr) (g : Nat) (l : List (Nat × Nat × Nat)) : Prop where
  addr : l ≠ [] → b = some ⟨g, 0, none⟩
  low : l ≠ [] → g < w.heap.size
  cells : l ≠ [] → ∀ k x, l[k]? = some x → w.cell? ⟨g, k * 3, none⟩ = some (.int .i64 (x.1 : Int)) ∧ w.cell? ⟨g, k * 3 + 1, none⟩ = some (.int .i64 (x.2.1 : Int)) ∧ w.cell? ⟨g, k * 3 + 2, none⟩ = some (.int .i64 (x.2.2 : Int))
theorem PIn.below {w w' : World} {b : Option Addr} {g : Nat} {l : List (Nat × Nat × Nat)} (h : PIn w b g l) (hb : Below w.heap.size w w') : PIn w' b g l := by
  refine ⟨h.addr, fun hne => Nat.lt_of_lt_of_le (h.low hne) hb.size, fun hne k x hx => ?_⟩
  have hl := h.low hne
  obtain ⟨c0, c1, c2⟩ := h.cells hne k x hx
  exact ⟨(hb.cell (p := ⟨g, k * 3, none⟩) hl).trans c0, (hb.cell (p := ⟨g, k * 3 + 1, none⟩) hl).trans c1, (hb.cell (p := ⟨g, k * 3 + 2, none⟩) hl).trans c2⟩

/-- What the calls of the law return, in any later world. -/
def SaneOk (w : World) : Prop := ∀ W, Below w.heap.size w W → Calls Tryd.prog 9 #[] W fun e w' => e = .returned (.bool true) ∧ Below W.heap.size W w'
def PiecesOk (w : World) (t : ByteArray) (L : List (Nat × Nat × Nat)) : Prop := ∀ W, Below w.heap.size w W → Calls Tryd.prog 14 #[.string t] W fun e w' => ∃ b cap g, e = .returned (.tuple #[.slice b L.length cap, .int .i64 0, .int .i64 0]) ∧ PIn w' b g L ∧ Below W.heap.size W w'
def ScanOk (w : World) (t : ByteArray) (V : List (Int × Int × ByteArray)) : Prop := ∀ W, Below w.heap.size w W → Calls Tryd.prog 15 #[.string t] W fun e w' => ∃ b cap g, e = .returned (.tuple #[.slice b V.length cap, .int .i64 0, .int .i64 0]) ∧ VIn w' b g V ∧ Below W.heap.size W w'

set_option maxHeartbeats 4000000 in
set_option maxRecDepth 100000 in
theorem gaps_main (t f : ByteArray) (n : Int) (w : World) (L : List (Nat × Nat × Nat)) (V : List (Int × Int × ByteArray)) (ht : t.size ≤ 19800) (hf : f.size ≤ 4611686018427387904) (hne : L ≠ []) (hLn : L.length ≤ 20000) (hVn : V.length ≤ 20000)
    (hmem : ∀ x ∈ L, x.2.1 + x.2.2 ≤ t.size ∧ 1 ≤ x.2.2 ∧ (x.1 = 8 → 2 ≤ x.2.2)) (hS : SaneOk w) (hP : PiecesOk w t L) (hA : ScanOk w t V)
    (hG : ∀ k x, L[k]? = some x → (∀ y, 0 < k → L[k - 1]? = some y → y.1 = 8 → aheadB t (y.2.1 + 1) ≠ 47) → ∀ d : Nat, (d = if 7 ≤ x.1 then x.2.2 else 0) → ∃ u : ByteArray,
      (∀ W, Calls Tryd.prog 18 #[.string t, .agg #[.int .i64 (x.2.1 : Int), .int .i64 (d : Int), .string (gapB f)]] W fun e w' => e = .returned (.tuple #[.string u, .int .i64 0]) ∧ Below W.heap.size W w') ∧ ScanOk w u V) :
    Calls Tryd.prog 5 #[.string t, .int .i64 n, .string f] w fun e w' => e = .returned (.bool true) ∧ Below w.heap.size w w' := by
  have HS := Lib.hid hS; have HP := Lib.hid hP; have HA := Lib.hid hA; have HG := Lib.hid hG; have HM := Lib.hid hmem
  have hl1 : 1 ≤ L.length := by cases L with
    | nil => exact absurd rfl hne
    | cons x l => simp
  have hl0 : ((L.length : Int) == 0) = false := by rw [beq_eq_false_iff_ne]; omega
  have ht' : ((19800 : Int) < (t.size : Int)) = False := by simp; omega
  clear hS hP hA hG hmem
  go_enter Tryd.func5, Tryd.ntmps5
  go_wp2_with fail
  refine (HS.out w (Below.refl _ _)).mono ?_
  rintro e w1 ⟨rfl, b1⟩
  have B1 := Lib.hid b1
  clear b1 HS
  go_wp2_with fail
  refine (HP.out _ B1.out).mono ?_
  rintro e w2 ⟨b, cap, g, rfl, hI, b2⟩
  have B2 := Lib.hid (B1.out.trans (b2.mono B1.out.size))
  have I2 := Lib.hid hI
  clear b2 B1 HP hI
  go_wp2_with fail
  refine (HA.out _ B2.out).mono ?_
  rintro e w3 ⟨ba, ca, ga, rfl, hv, b3⟩
  have B3 := Lib.hid (B2.out.trans (b3.mono B2.out.size))
  have I3 := Lib.hid (I2.out.below b3)
  have V3 := Lib.hid hv
  clear b3 B2 HA hv I2
  go_wp2_with fail
  refine (mod_any n L.length hl1 (by omega) _).mono ?_
  rintro e w3' ⟨k, hk, rfl, rfl⟩
  obtain ⟨x, hx⟩ : ∃ x, L[k]? = some x := ⟨_, List.getElem?_eq_getElem hk⟩
  have hba := I3.out.addr hne
  subst hba
  have hgl := I3.out.low hne
  obtain ⟨c0, c1, c2⟩ := I3.out.cells hne k x hx
  have hk' : (k : Int) < (L.length : Int) := by omega
  have HX := Lib.hid hx
  clear hx
  by_cases h7 : 7 ≤ x.1
  · have h7' : (7 : Int) ≤ (x.1 : Int) := by omega
    by_cases h0 : k = 0
    · have h0' : ((0 : Int) < (k : Int)) = False := by simp; omega
      have h0'' : decide ((0 : Int) < (k : Int)) = false := by simp; omega
      have h0n : (0 < k) = False := by simp; omega
      have h0m : decide (0 < k) = false := by simp; omega
      obtain ⟨u, hCh, hScan⟩ := HG.out k x HX.out (fun y hy => by omega) x.2.2 (by rw [if_pos h7])
      have hSc := Lib.hid hScan
      clear hScan
      clear h0
      go_wp2_with fail
      go_region_held3 (fun w' => w'.cell? ⟨g, k * 3 + 1, none⟩ = some (.int .i64 (x.2.1 : Int)) ∧ w'.cell? ⟨g, k * 3, none⟩ = some (.int .i64 (x.1 : Int)) ∧ w'.cell? ⟨g, k * 3 + 2, none⟩ = some (.int .i64 (x.2.2 : Int))) (go_keep) ((go_at_call 17; refine (gap_any f hf _).mono ?_; rintro e w4 ⟨rfl, rfl⟩))
      all_goals go_wp2_with fail
      all_goals
        refine (hCh _).mono ?_
        rintro e w5 ⟨rfl, b5⟩
        have B5 := Lib.hid ((show Below w.heap.size w _ from by exact (B3.out.alloc B3.out.size _).drew).trans (b5.mono (by have := B3.out.size; simp; omega)))
        have V5 := Lib.hid (V3.out.below (((Below.refl _ w3).alloc (Nat.le_refl _) (.cells #[.int .i64 (x.2.1 : Int), .int .i64 (x.2.2 : Int), .string (gapB f)] 41)).drew |>.trans (b5.mono (by simp))))
        clear b5
        go_wp2_with fail
        refine (hSc.out _ B5.out).mono ?_
        rintro e w6 ⟨bb, cb, gb, rfl, hvb, b6⟩
        have B6 := Lib.hid (B5.out.trans (b6.mono B5.out.size))
        have V6 := Lib.hid (V5.out.below b6)
        have V7 := Lib.hid hvb
        clear b6 hvb
        go_wp2_with fail
        refine (same_true V (by omega) ba bb ca cb ga gb _ V6.out V7.out).mono ?_
        rintro e w7 ⟨rfl, b7⟩
        have B7 := Lib.hid (B6.out.trans (b7.mono B6.out.size))
        clear b7
        go_wp2_with fail
        exact bodyPost_ret (v := .bool true) (by simp [results, Tryd.results5, go_sem]) rfl ⟨rfl, B7.out⟩
    · obtain ⟨j, hj⟩ : ∃ j, k = j + 1 := ⟨k - 1, by omega⟩
      have h0' : (0 : Int) < (k : Int) := by omega
      obtain ⟨y, hy⟩ : ∃ y, L[j]? = some y := ⟨_, List.getElem?_eq_getElem (by omega)⟩
      obtain ⟨d0, d1, d2⟩ := I3.out.cells hne j y hy
      obtain ⟨m1, m2, m3⟩ := HM.out y (List.mem_iff_getElem?.2 ⟨j, hy⟩)
      have wk : IntKind.i64.wrap ((k : Int) - 1) = (j : Int) := by rw [IntWalk.i64_in _ (by omega)]; omega
      have hj' : (j : Int) < (L.length : Int) := by omega
      have hy' : Hid (∀ z, L[k - 1]? = some z → z = y) := Lib.hid (fun z hz => by rw [hj, Nat.add_sub_cancel, hy] at hz; exact (Option.some.inj hz).symm)
      clear hy
      by_cases h8 : y.1 = 8
      · have h8' : ((y.1 : Int) == 8) = true := by rw [h8]; rfl
        have h2 := m3 h8
        have h2' : (1 : Int) < (y.2.2 : Int) := by omega
        have hy1 : y.2.1 + 1 < t.size := by omega
        have wy : IntKind.i64.wrap ((y.2.1 : Int) + 1) = ((y.2.1 + 1 : Nat) : Int) := by rw [IntWalk.i64_in _ (by omega)]; omega
        have hy1' : ((y.2.1 + 1 : Nat) : Int) < (t.size : Int) := by omega
        have ha : aheadB t (y.2.1 + 1) = t[y.2.1 + 1] := aheadB_lt hy1
        by_cases h47 : aheadB t (y.2.1 + 1) = 47
        · have hb : ((t[y.2.1 + 1].toNat : Int) == 47) = true := by rw [← ha, h47]; rfl
          clear h8 h47 ha HG hj m1 m2 m3 h2
          go_wp2_with fail
          go_region_held3 (fun w' => w'.cell? ⟨g, k * 3 + 1, none⟩ = some (.int .i64 (x.2.1 : Int)) ∧ w'.cell? ⟨g, k * 3, none⟩ = some (.int .i64 (x.1 : Int)) ∧ w'.cell? ⟨g, k * 3 + 2, none⟩ = some (.int .i64 (x.2.2 : Int)) ∧ w'.cell? ⟨g, j * 3, none⟩ = some (.int .i64 (y.1 : Int)) ∧ w'.cell? ⟨g, j * 3 + 1, none⟩ = some (.int .i64 (y.2.1 : Int)) ∧ w'.cell? ⟨g, j * 3 + 2, none⟩ = some (.int .i64 (y.2.2 : Int))) (go_keep) ((go_at_call 17; refine (gap_any f hf _).mono ?_; rintro e w4 ⟨rfl, rfl⟩))
          all_goals go_wp2_with fail
          all_goals
            exact bodyPost_ret (v := .bool true) (by simp [results, Tryd.results5, go_sem]) rfl ⟨rfl, by exact (B3.out.alloc B3.out.size _).drew⟩
        · have hb : ((t[y.2.1 + 1].toNat : Int) == 47) = false := by
            rw [← ha, beq_eq_false_iff_ne]; intro e; apply h47; apply UInt8.toNat_inj.1; exact Int.ofNat.inj e
          obtain ⟨u, hCh, hScan⟩ := HG.out k x HX.out (fun z _ hz _ => by rw [hy'.out z hz]; exact h47) x.2.2 (by rw [if_pos h7])
          have hSc := Lib.hid hScan
          clear hScan
          clear h8 h47 ha HG hj m1 m2 m3 h2
          go_wp2_with fail
          go_region_held3 (fun w' => w'.cell? ⟨g, k * 3 + 1, none⟩ = some (.int .i64 (x.2.1 : Int)) ∧ w'.cell? ⟨g, k * 3, none⟩ = some (.int .i64 (x.1 : Int)) ∧ w'.cell? ⟨g, k * 3 + 2, none⟩ = some (.int .i64 (x.2.2 : Int)) ∧ w'.cell? ⟨g, j * 3, none⟩ = some (.int .i64 (y.1 : Int)) ∧ w'.cell? ⟨g, j * 3 + 1, none⟩ = some (.int .i64 (y.2.1 : Int)) ∧ w'.cell? ⟨g, j * 3 + 2, none⟩ = some (.int .i64 (y.2.2 : Int))) (go_keep) ((go_at_call 17; refine (gap_any f hf _).mono ?_; rintro e w4 ⟨rfl, rfl⟩))
          all_goals go_wp2_with fail
          all_goals
            refine (hCh _).mono ?_
            rintro e w5 ⟨rfl, b5⟩
            have B5 := Lib.hid ((show Below w.heap.size w _ from by exact (B3.out.alloc B3.out.size _).drew).trans (b5.mono (by have := B3.out.size; simp; omega)))
            have V5 := Lib.hid (V3.out.below (((Below.refl _ w3).alloc (Nat.le_refl _) (.cells #[.int .i64 (x.2.1 : Int), .int .i64 (x.2.2 : Int), .string (gapB f)] 41)).drew |>.trans (b5.mono (by simp))))
            clear b5
            go_wp2_with fail
            refine (hSc.out _ B5.out).mono ?_
            rintro e w6 ⟨bb, cb, gb, rfl, hvb, b6⟩
            have B6 := Lib.hid (B5.out.trans (b6.mono B5.out.size))
            have V6 := Lib.hid (V5.out.below b6)
            have V7 := Lib.hid hvb
            clear b6 hvb
            go_wp2_with fail
            refine (same_true V (by omega) ba bb ca cb ga gb _ V6.out V7.out).mono ?_
            rintro e w7 ⟨rfl, b7⟩
            have B7 := Lib.hid (B6.out.trans (b7.mono B6.out.size))
            clear b7
            go_wp2_with fail
            exact bodyPost_ret (v := .bool true) (by simp [results, Tryd.results5, go_sem]) rfl ⟨rfl, B7.out⟩
      · have h8' : ((y.1 : Int) == 8) = false := by rw [beq_eq_false_iff_ne]; omega
        obtain ⟨u, hCh, hScan⟩ := HG.out k x HX.out (fun z _ hz e => by rw [hy'.out z hz] at e; exact absurd e h8) x.2.2 (by rw [if_pos h7])
        have hSc := Lib.hid hScan
        clear hScan
        clear h8 HG hj m1 m2 m3
        go_wp2_with fail
        go_region_held3 (fun w' => w'.cell? ⟨g, k * 3 + 1, none⟩ = some (.int .i64 (x.2.1 : Int)) ∧ w'.cell? ⟨g, k * 3, none⟩ = some (.int .i64 (x.1 : Int)) ∧ w'.cell? ⟨g, k * 3 + 2, none⟩ = some (.int .i64 (x.2.2 : Int)) ∧ w'.cell? ⟨g, j * 3, none⟩ = some (.int .i64 (y.1 : Int)) ∧ w'.cell? ⟨g, j * 3 + 1, none⟩ = some (.int .i64 (y.2.1 : Int)) ∧ w'.cell? ⟨g, j * 3 + 2, none⟩ = some (.int .i64 (y.2.2 : Int))) (go_keep) ((go_at_call 17; refine (gap_any f hf _).mono ?_; rintro e w4 ⟨rfl, rfl⟩))
        all_goals go_wp2_with fail
        all_goals
          refine (hCh _).mono ?_
          rintro e w5 ⟨rfl, b5⟩
          have B5 := Lib.hid ((show Below w.heap.size w _ from by exact (B3.out.alloc B3.out.size _).drew).trans (b5.mono (by have := B3.out.size; simp; omega)))
          have V5 := Lib.hid (V3.out.below (((Below.refl _ w3).alloc (Nat.le_refl _) (.cells #[.int .i64 (x.2.1 : Int), .int .i64 (x.2.2 : Int), .string (gapB f)] 41)).drew |>.trans (b5.mono (by simp))))
          clear b5
          go_wp2_with fail
          refine (hSc.out _ B5.out).mono ?_
          rintro e w6 ⟨bb, cb, gb, rfl, hvb, b6⟩
          have B6 := Lib.hid (B5.out.trans (b6.mono B5.out.size))
          have V6 := Lib.hid (V5.out.below b6)
          have V7 := Lib.hid hvb
          clear b6 hvb
          go_wp2_with fail
          refine (same_true V (by omega) ba bb ca cb ga gb _ V6.out V7.out).mono ?_
          rintro e w7 ⟨rfl, b7⟩
          have B7 := Lib.hid (B6.out.trans (b7.mono B6.out.size))
          clear b7
          go_wp2_with fail
          exact bodyPost_ret (v := .bool true) (by simp [results, Tryd.results5, go_sem]) rfl ⟨rfl, B7.out⟩
  · have h7' : ((7 : Int) ≤ (x.1 : Int)) = False := by simp; omega
    by_cases h0 : k = 0
    · have h0' : ((0 : Int) < (k : Int)) = False := by simp; omega
      have h0'' : decide ((0 : Int) < (k : Int)) = false := by simp; omega
      have h0n : (0 < k) = False := by simp; omega
      have h0m : decide (0 < k) = false := by simp; omega
      obtain ⟨u, hCh, hScan⟩ := HG.out k x HX.out (fun y hy => by omega) 0 (by rw [if_neg h7])
      rw [show ((0 : Nat) : Int) = 0 from rfl] at hCh
      have hSc := Lib.hid hScan
      clear hScan
      clear h0
      go_wp2_with fail
      go_region_held3 (fun w' => w'.cell? ⟨g, k * 3 + 1, none⟩ = some (.int .i64 (x.2.1 : Int)) ∧ w'.cell? ⟨g, k * 3, none⟩ = some (.int .i64 (x.1 : Int)) ∧ w'.cell? ⟨g, k * 3 + 2, none⟩ = some (.int .i64 (x.2.2 : Int))) (go_keep) ((go_at_call 17; refine (gap_any f hf _).mono ?_; rintro e w4 ⟨rfl, rfl⟩))
      all_goals go_wp2_with fail
      all_goals
        refine (hCh _).mono ?_
        rintro e w5 ⟨rfl, b5⟩
        have B5 := Lib.hid ((show Below w.heap.size w _ from by exact (B3.out.alloc B3.out.size _).drew).trans (b5.mono (by have := B3.out.size; simp; omega)))
        have V5 := Lib.hid (V3.out.below (((Below.refl _ w3).alloc (Nat.le_refl _) (.cells #[.int .i64 (x.2.1 : Int), .int .i64 0, .string (gapB f)] 41)).drew |>.trans (b5.mono (by simp))))
        clear b5
        go_wp2_with fail
        refine (hSc.out _ B5.out).mono ?_
        rintro e w6 ⟨bb, cb, gb, rfl, hvb, b6⟩
        have B6 := Lib.hid (B5.out.trans (b6.mono B5.out.size))
        have V6 := Lib.hid (V5.out.below b6)
        have V7 := Lib.hid hvb
        clear b6 hvb
        go_wp2_with fail
        refine (same_true V (by omega) ba bb ca cb ga gb _ V6.out V7.out).mono ?_
        rintro e w7 ⟨rfl, b7⟩
        have B7 := Lib.hid (B6.out.trans (b7.mono B6.out.size))
        clear b7
        go_wp2_with fail
        exact bodyPost_ret (v := .bool true) (by simp [results, Tryd.results5, go_sem]) rfl ⟨rfl, B7.out⟩
    · obtain ⟨j, hj⟩ : ∃ j, k = j + 1 := ⟨k - 1, by omega⟩
      have h0' : (0 : Int) < (k : Int) := by omega
      obtain ⟨y, hy⟩ : ∃ y, L[j]? = some y := ⟨_, List.getElem?_eq_getElem (by omega)⟩
      obtain ⟨d0, d1, d2⟩ := I3.out.cells hne j y hy
      obtain ⟨m1, m2, m3⟩ := HM.out y (List.mem_iff_getElem?.2 ⟨j, hy⟩)
      have wk : IntKind.i64.wrap ((k : Int) - 1) = (j : Int) := by rw [IntWalk.i64_in _ (by omega)]; omega
      have hj' : (j : Int) < (L.length : Int) := by omega
      have hy' : Hid (∀ z, L[k - 1]? = some z → z = y) := Lib.hid (fun z hz => by rw [hj, Nat.add_sub_cancel, hy] at hz; exact (Option.some.inj hz).symm)
      clear hy
      by_cases h8 : y.1 = 8
      · have h8' : ((y.1 : Int) == 8) = true := by rw [h8]; rfl
        have h2 := m3 h8
        have h2' : (1 : Int) < (y.2.2 : Int) := by omega
        have hy1 : y.2.1 + 1 < t.size := by omega
        have wy : IntKind.i64.wrap ((y.2.1 : Int) + 1) = ((y.2.1 + 1 : Nat) : Int) := by rw [IntWalk.i64_in _ (by omega)]; omega
        have hy1' : ((y.2.1 + 1 : Nat) : Int) < (t.size : Int) := by omega
        have ha : aheadB t (y.2.1 + 1) = t[y.2.1 + 1] := aheadB_lt hy1
        by_cases h47 : aheadB t (y.2.1 + 1) = 47
        · have hb : ((t[y.2.1 + 1].toNat : Int) == 47) = true := by rw [← ha, h47]; rfl
          clear h8 h47 ha HG hj m1 m2 m3 h2
          go_wp2_with fail
          go_region_held3 (fun w' => w'.cell? ⟨g, k * 3 + 1, none⟩ = some (.int .i64 (x.2.1 : Int)) ∧ w'.cell? ⟨g, k * 3, none⟩ = some (.int .i64 (x.1 : Int)) ∧ w'.cell? ⟨g, k * 3 + 2, none⟩ = some (.int .i64 (x.2.2 : Int)) ∧ w'.cell? ⟨g, j * 3, none⟩ = some (.int .i64 (y.1 : Int)) ∧ w'.cell? ⟨g, j * 3 + 1, none⟩ = some (.int .i64 (y.2.1 : Int)) ∧ w'.cell? ⟨g, j * 3 + 2, none⟩ = some (.int .i64 (y.2.2 : Int))) (go_keep) ((go_at_call 17; refine (gap_any f hf _).mono ?_; rintro e w4 ⟨rfl, rfl⟩))
          all_goals go_wp2_with fail
          all_goals
            exact bodyPost_ret (v := .bool true) (by simp [results, Tryd.results5, go_sem]) rfl ⟨rfl, by exact (B3.out.alloc B3.out.size _).drew⟩
        · have hb : ((t[y.2.1 + 1].toNat : Int) == 47) = false := by
            rw [← ha, beq_eq_false_iff_ne]; intro e; apply h47; apply UInt8.toNat_inj.1; exact Int.ofNat.inj e
          obtain ⟨u, hCh, hScan⟩ := HG.out k x HX.out (fun z _ hz _ => by rw [hy'.out z hz]; exact h47) 0 (by rw [if_neg h7])
          rw [show ((0 : Nat) : Int) = 0 from rfl] at hCh
          have hSc := Lib.hid hScan
          clear hScan
          clear h8 h47 ha HG hj m1 m2 m3 h2
          go_wp2_with fail
          go_region_held3 (fun w' => w'.cell? ⟨g, k * 3 + 1, none⟩ = some (.int .i64 (x.2.1 : Int)) ∧ w'.cell? ⟨g, k * 3, none⟩ = some (.int .i64 (x.1 : Int)) ∧ w'.cell? ⟨g, k * 3 + 2, none⟩ = some (.int .i64 (x.2.2 : Int)) ∧ w'.cell? ⟨g, j * 3, none⟩ = some (.int .i64 (y.1 : Int)) ∧ w'.cell? ⟨g, j * 3 + 1, none⟩ = some (.int .i64 (y.2.1 : Int)) ∧ w'.cell? ⟨g, j * 3 + 2, none⟩ = some (.int .i64 (y.2.2 : Int))) (go_keep) ((go_at_call 17; refine (gap_any f hf _).mono ?_; rintro e w4 ⟨rfl, rfl⟩))
          all_goals go_wp2_with fail
          all_goals
            refine (hCh _).mono ?_
            rintro e w5 ⟨rfl, b5⟩
            have B5 := Lib.hid ((show Below w.heap.size w _ from by exact (B3.out.alloc B3.out.size _).drew).trans (b5.mono (by have := B3.out.size; simp; omega)))
            have V5 := Lib.hid (V3.out.below (((Below.refl _ w3).alloc (Nat.le_refl _) (.cells #[.int .i64 (x.2.1 : Int), .int .i64 0, .string (gapB f)] 41)).drew |>.trans (b5.mono (by simp))))
            clear b5
            go_wp2_with fail
            refine (hSc.out _ B5.out).mono ?_
            rintro e w6 ⟨bb, cb, gb, rfl, hvb, b6⟩
            have B6 := Lib.hid (B5.out.trans (b6.mono B5.out.size))
            have V6 := Lib.hid (V5.out.below b6)
            have V7 := Lib.hid hvb
            clear b6 hvb
            go_wp2_with fail
            refine (same_true V (by omega) ba bb ca cb ga gb _ V6.out V7.out).mono ?_
            rintro e w7 ⟨rfl, b7⟩
            have B7 := Lib.hid (B6.out.trans (b7.mono B6.out.size))
            clear b7
            go_wp2_with fail
            exact bodyPost_ret (v := .bool true) (by simp [results, Tryd.results5, go_sem]) rfl ⟨rfl, B7.out⟩
      · have h8' : ((y.1 : Int) == 8) = false := by rw [beq_eq_false_iff_ne]; omega
        obtain ⟨u, hCh, hScan⟩ := HG.out k x HX.out (fun z _ hz e => by rw [hy'.out z hz] at e; exact absurd e h8) 0 (by rw [if_neg h7])
        rw [show ((0 : Nat) : Int) = 0 from rfl] at hCh
        have hSc := Lib.hid hScan
        clear hScan
        clear h8 HG hj m1 m2 m3
        go_wp2_with fail
        go_region_held3 (fun w' => w'.cell? ⟨g, k * 3 + 1, none⟩ = some (.int .i64 (x.2.1 : Int)) ∧ w'.cell? ⟨g, k * 3, none⟩ = some (.int .i64 (x.1 : Int)) ∧ w'.cell? ⟨g, k * 3 + 2, none⟩ = some (.int .i64 (x.2.2 : Int)) ∧ w'.cell? ⟨g, j * 3, none⟩ = some (.int .i64 (y.1 : Int)) ∧ w'.cell? ⟨g, j * 3 + 1, none⟩ = some (.int .i64 (y.2.1 : Int)) ∧ w'.cell? ⟨g, j * 3 + 2, none⟩ = some (.int .i64 (y.2.2 : Int))) (go_keep) ((go_at_call 17; refine (gap_any f hf _).mono ?_; rintro e w4 ⟨rfl, rfl⟩))
        all_goals go_wp2_with fail
        all_goals
          refine (hCh _).mono ?_
          rintro e w5 ⟨rfl, b5⟩
          have B5 := Lib.hid ((show Below w.heap.size w _ from by exact (B3.out.alloc B3.out.size _).drew).trans (b5.mono (by have := B3.out.size; simp; omega)))
          have V5 := Lib.hid (V3.out.below (((Below.refl _ w3).alloc (Nat.le_refl _) (.cells #[.int .i64 (x.2.1 : Int), .int .i64 0, .string (gapB f)] 41)).drew |>.trans (b5.mono (by simp))))
          clear b5
          go_wp2_with fail
          refine (hSc.out _ B5.out).mono ?_
          rintro e w6 ⟨bb, cb, gb, rfl, hvb, b6⟩
          have B6 := Lib.hid (B5.out.trans (b6.mono B5.out.size))
          have V6 := Lib.hid (V5.out.below b6)
          have V7 := Lib.hid hvb
          clear b6 hvb
          go_wp2_with fail
          refine (same_true V (by omega) ba bb ca cb ga gb _ V6.out V7.out).mono ?_
          rintro e w7 ⟨rfl, b7⟩
          have B7 := Lib.hid (B6.out.trans (b7.mono B6.out.size))
          clear b7
          go_wp2_with fail
          exact bodyPost_ret (v := .bool true) (by simp [results, Tryd.results5, go_sem]) rfl ⟨rfl, B7.out⟩

theorem PIn.of_row {w : World} {v : Value} {l : List (Nat × Nat × Nat)} (h : RowIn w v l) : ∃ b cap g, v = .slice b l.length cap ∧ PIn w b g l := by
  obtain ⟨b, cap, g, rfl, _, I⟩ := h
  refine ⟨b, cap, g, rfl, I.addr, I.low, fun hne k x hx => ⟨?_, ?_, ?_⟩⟩
  · have := I.cells hne (k * 3 + 0) (.int .i64 (x.1 : Int)) (by rw [flatP_get l k 0 x hx (by omega)]; rfl)
    simpa using this
  · exact I.cells hne (k * 3 + 1) (.int .i64 (x.2.1 : Int)) (by rw [flatP_get l k 1 x hx (by omega)]; rfl)
  · exact I.cells hne (k * 3 + 2) (.int .i64 (x.2.2 : Int)) (by rw [flatP_get l k 2 x hx (by omega)]; rfl)

theorem flatT_get (t : ByteArray) : ∀ (l : List (Nat × Nat × Nat)) (k j : Nat) (x : Nat × Nat × Nat), l[k]? = some x → j < 5 → (flatT t l)[k * 5 + j]? = (cellsT t x)[j]?
  | [], k, j, x, h, _ => by simp at h
  | y :: l, 0, j, x, h, hj => by
    simp at h; subst h
    rw [show flatT t (y :: l) = cellsT t y ++ flatT t l by simp [flatT], List.getElem?_append_left (by simp [cellsT]; omega)]
    simp
  | y :: l, k + 1, j, x, h, hj => by
    rw [show flatT t (y :: l) = cellsT t y ++ flatT t l by simp [flatT], List.getElem?_append_right (by simp [cellsT]; omega), show (k + 1) * 5 + j - (cellsT t y).length = k * 5 + j by simp [cellsT]; omega]
    exact flatT_get t l k j x (by simpa using h) hj

def viewT (t : ByteArray) (x : Nat × Nat × Nat) : Int × Int × ByteArray := ((x.1 : Int), numT t x, cutB t x.2.1 x.2.2)
def vw (x : Nat × ByteArray) : Int × Int × ByteArray := ((x.1 : Int), (if x.1 = 2 then (valO x.2).getD 0 else 0), x.2)
theorem view_tv (t : ByteArray) : (toksR t).map (viewT t) = (tv t (piecesR t).1).map vw := by
  unfold toksR tv
  rw [List.map_map]
  rfl
theorem VIn.of_owns {t : ByteArray} {w : World} {base : Nat} {v : Value} {l : List (Nat × Nat × Nat)} (h : w.ownsRow base 52 5 v l.length (flatT t l)) : ∃ b cap g, v = .slice b (l.map (viewT t)).length cap ∧ VIn w b g (l.map (viewT t)) := by
  have hc := fun g => h.cells (g := g)
  rw [List.length_map]
  rcases h.2 with ⟨rfl, h0⟩ | ⟨g, cap, cur, rfl, hb, hg, hn, hcap, hsz, htk⟩
  · have : l = [] := List.length_eq_zero_iff.1 h0
    subst this
    exact ⟨none, 0, 0, rfl, fun h => absurd rfl h, fun h => absurd rfl h, fun h => absurd rfl h⟩
  · refine ⟨_, cap, g, rfl, fun _ => rfl, fun _ => (Array.getElem?_eq_some_iff.1 hg).1, fun _ k x hx => ?_⟩
    rw [List.getElem?_map] at hx
    cases hl : l[k]? with
    | none => rw [hl] at hx; cases hx
    | some y =>
      rw [hl] at hx
      simp only [Option.map_some, Option.some.injEq] at hx
      subst hx
      refine ⟨?_, ?_, ?_⟩
      · have := hc g rfl (k * 5 + 0) (.int .i64 (y.1 : Int)) (by rw [flatT_get t l k 0 y hl (by omega)]; rfl)
        rw [Addr.add_zero_off, Nat.add_zero] at this; exact this
      · have := hc g rfl (k * 5 + 1) (.int .i64 (numT t y)) (by rw [flatT_get t l k 1 y hl (by omega)]; rfl)
        rw [Addr.add_zero_off] at this; exact this
      · have := hc g rfl (k * 5 + 2) (.string (cutB t y.2.1 y.2.2)) (by rw [flatT_get t l k 2 y hl (by omega)]; rfl)
        rw [Addr.add_zero_off] at this; exact this

/-- The contract of Scan as the law of gaps has it. -/
theorem scan_ok {t : ByteArray} {w : World} (E : Env w) (hok : (piecesR t).2.2 = 0) : ScanOk w t ((tv t (piecesR t).1).map vw) := by
  intro W hW
  have E' := E.below E.size hW
  have hat := (pieces_ok hok).2.1
  refine (scan_any t W E').mono ?_
  rintro e w' ⟨v, rfl, hrow, hb⟩
  obtain ⟨b, cap, g, rfl, hI⟩ := VIn.of_owns hrow
  rw [← view_tv, hok, hat]
  exact ⟨b, cap, g, rfl, hI, hb⟩
theorem pieces_okP {t : ByteArray} {w : World} (E : Env w) (hok : (piecesR t).2.2 = 0) : PiecesOk w t (piecesR t).1 := by
  intro W hW
  have E' := E.below E.size hW
  have hat := (pieces_ok hok).2.1
  refine (pieces_all t W E').mono ?_
  rintro e w' ⟨v, rfl, hrow, hb⟩
  obtain ⟨b, cap, g, rfl, hI⟩ := PIn.of_row (RowIn.of_owns hrow)
  rw [hok, hat]
  exact ⟨b, cap, g, rfl, hI, hb⟩

theorem next_eight {t : ByteArray} {i l : Nat} {op : Bool} (h : nextR t i op = .ok (8, l)) : 2 ≤ l := by
  unfold nextR at h
  split at h
  · rename_i hp
    simp only [Except.ok.injEq, Prod.mk.injEq, true_and] at h
    have := line_bounds hp; omega
  · split at h
    · split at h
      · rename_i n hM
        simp only [Except.ok.injEq, Prod.mk.injEq, true_and] at h
        have := nested_ge _ _ 0 0 n (Nat.le_refl _) hM; omega
      · cases h
    · split at h
      · simp at h
      · split at h
        · simp only [Except.ok.injEq] at h
          have h6 := (bestTo_le (ruleN t i op) (bestTo (ruleN t i op) 6).2.succ.succ (fun k => ?_) 6).1
          · rw [h] at h6; simp only at h6; omega
          · by_cases hk : k < 6
            · have := best_ge (ruleN t i op) 6 k hk; omega
            · obtain ⟨q, rfl⟩ : ∃ q, k = q + 5 := ⟨k - 5, by omega⟩
              have := best_ge (ruleN t i op) 6 5 (by omega)
              have e : ruleN t i op (q + 5) = ruleN t i op 5 := rfl
              omega
        · cases h
theorem steps_nexts {t : ByteArray} : ∀ (l : List (Nat × Nat × Nat)) (i : Nat) (op : Bool) (c : Nat) (st : Nat × Bool × Nat), Steps t i op c l st → ∀ x ∈ l, x.2.1 < t.size ∧ ∃ o, nextR t x.2.1 o = .ok (x.1, x.2.2) := by
  intro l
  induction l with
  | nil => intro i op c st h x hx; simp at hx
  | cons y l ih =>
    intro i op c st h x hx
    obtain ⟨h1, h3, h4, h5, h6⟩ := h
    rcases List.mem_cons.1 hx with rfl | hx
    · exact ⟨by omega, op, by rw [h3]; exact h4⟩
    · exact ih _ _ _ _ h6 x hx

set_option maxHeartbeats 4000000 in
set_option maxRecDepth 100000 in
theorem gaps_head (t f : ByteArray) (n : Int) (w : World) (E : Env w) (hok : (piecesR t).2.2 = 0) (hno : (piecesR t).1 = [] ∨ 19800 < t.size) :
    Calls Tryd.prog 5 #[.string t, .int .i64 n, .string f] w fun e w' => e = .returned (.bool true) ∧ Below w.heap.size w w' := by
  have hS : SaneOk w := fun W h => sane_any W (E.below E.size h)
  have HS := Lib.hid hS; have HP := Lib.hid (pieces_okP E hok); have HA := Lib.hid (scan_ok E hok)
  obtain ⟨L, hL⟩ : ∃ L, L = (piecesR t).1 := ⟨_, rfl⟩
  obtain ⟨V, hV⟩ : ∃ V, V = (tv t (piecesR t).1).map vw := ⟨_, rfl⟩
  rw [← hL] at HP hno
  rw [← hV] at HA
  clear hS E hok hL hV
  by_cases h0 : L = []
  · subst h0
    clear hno
    go_enter Tryd.func5, Tryd.ntmps5
    go_wp2_with fail
    refine (HS.out w (Below.refl _ _)).mono ?_
    rintro e w1 ⟨rfl, b1⟩
    have B1 := Lib.hid b1
    clear b1 HS
    go_wp2_with fail
    refine (HP.out _ B1.out).mono ?_
    rintro e w2 ⟨b, cap, g, rfl, _, b2⟩
    have B2 := Lib.hid (B1.out.trans (b2.mono B1.out.size))
    clear b2 B1 HP
    go_wp2_with fail
    refine (HA.out _ B2.out).mono ?_
    rintro e w3 ⟨ba, ca, ga, rfl, _, b3⟩
    have B3 := Lib.hid (B2.out.trans (b3.mono B2.out.size))
    clear b3 B2 HA
    go_wp2_with fail
    exact bodyPost_ret (v := .bool true) (by simp [results, Tryd.results5, go_sem]) rfl ⟨rfl, B3.out⟩
  · have hsz : 19800 < t.size := by rcases hno with h | h; exact absurd h h0; exact h
    have hsz' : (19800 : Int) < (t.size : Int) := by omega
    have hl1 : 1 ≤ L.length := by cases L with
      | nil => exact absurd rfl h0
      | cons x l => simp
    have hl0 : ((L.length : Int) == 0) = false := by rw [beq_eq_false_iff_ne]; omega
    clear hno h0 hsz
    go_enter Tryd.func5, Tryd.ntmps5
    go_wp2_with fail
    refine (HS.out w (Below.refl _ _)).mono ?_
    rintro e w1 ⟨rfl, b1⟩
    have B1 := Lib.hid b1
    clear b1 HS
    go_wp2_with fail
    refine (HP.out _ B1.out).mono ?_
    rintro e w2 ⟨b, cap, g, rfl, _, b2⟩
    have B2 := Lib.hid (B1.out.trans (b2.mono B1.out.size))
    clear b2 B1 HP
    go_wp2_with fail
    refine (HA.out _ B2.out).mono ?_
    rintro e w3 ⟨ba, ca, ga, rfl, _, b3⟩
    have B3 := Lib.hid (B2.out.trans (b3.mono B2.out.size))
    clear b3 B2 HA
    go_wp2_with fail
    exact bodyPost_ret (v := .bool true) (by simp [results, Tryd.results5, go_sem]) rfl ⟨rfl, B3.out⟩

set_option maxHeartbeats 4000000 in
set_option maxRecDepth 100000 in
theorem gaps_bad (t f : ByteArray) (n : Int) (w : World) (E : Env w) (hok : (piecesR t).2.2 ≠ 0) :
    Calls Tryd.prog 5 #[.string t, .int .i64 n, .string f] w fun e w' => e = .returned (.bool true) ∧ Below w.heap.size w w' := by
  have hS : SaneOk w := fun W h => sane_any W (E.below E.size h)
  have HS := Lib.hid hS
  obtain ⟨c, hc⟩ : ∃ c, c = (piecesR t).2.2 := ⟨_, rfl⟩
  rw [← hc] at hok
  have hP : ∀ W, Below w.heap.size w W → Calls Tryd.prog 14 #[.string t] W fun e w' => ∃ v, ∃ i : Int, e = .returned (.tuple #[v, .int .i64 i, .int .i64 (c : Int)]) ∧ Below W.heap.size W w' := by
    intro W h
    refine (pieces_all t W (E.below E.size h)).mono ?_
    rintro e w' ⟨v, rfl, _, hb⟩
    exact ⟨v, _, by rw [hc], hb⟩
  have hA : ∀ W, Below w.heap.size w W → Calls Tryd.prog 15 #[.string t] W fun e w' => ∃ v, ∃ i j : Int, e = .returned (.tuple #[v, .int .i64 i, .int .i64 j]) ∧ Below W.heap.size W w' := by
    intro W h
    refine (scan_any t W (E.below E.size h)).mono ?_
    rintro e w' ⟨v, rfl, _, hb⟩
    exact ⟨v, _, _, rfl, hb⟩
  have HP := Lib.hid hP; have HA := Lib.hid hA
  have hcn : ((c : Int) != 0) = true := by rw [bne_iff_ne]; omega
  clear hS hP hA hc E hok
  go_enter Tryd.func5, Tryd.ntmps5
  go_wp2_with fail
  refine (HS.out w (Below.refl _ _)).mono ?_
  rintro e w1 ⟨rfl, b1⟩
  have B1 := Lib.hid b1
  clear b1 HS
  go_wp2_with fail
  refine (HP.out _ B1.out).mono ?_
  rintro e w2 ⟨v, i, rfl, b2⟩
  have B2 := Lib.hid (B1.out.trans (b2.mono B1.out.size))
  clear b2 B1 HP
  go_wp2_with fail
  refine (HA.out _ B2.out).mono ?_
  rintro e w3 ⟨va, ia, ja, rfl, b3⟩
  have B3 := Lib.hid (B2.out.trans (b3.mono B2.out.size))
  clear b3 B2 HA
  go_wp2_with fail
  exact bodyPost_ret (v := .bool true) (by simp [results, Tryd.results5, go_sem]) rfl ⟨rfl, B3.out⟩

theorem lexGaps_any (t f : ByteArray) (n : Int) (hf : f.size ≤ 4611686018427387904) (w : World) (E : Env w) :
    Calls Tryd.prog 5 #[.string t, .int .i64 n, .string f] w fun e w' => e = .returned (.bool true) ∧ Below w.heap.size w w' := by
  by_cases hok : (piecesR t).2.2 = 0
  · by_cases hne : (piecesR t).1 = []
    · exact gaps_head t f n w E hok (Or.inl hne)
    · by_cases hsz : 19800 < t.size
      · exact gaps_head t f n w E hok (Or.inr hsz)
      · obtain ⟨hts, hat, _, opT, cT, hst⟩ := pieces_ok hok
        have hlen := (steps_bounds _ _ _ _ _ hst (by omega)).1
        simp only at hlen
        refine gaps_main t f n w (piecesR t).1 ((tv t (piecesR t).1).map vw) (by omega) hf hne (by omega) ?_ ?_ (fun W h => sane_any W (E.below E.size h)) (pieces_okP E hok) (scan_ok E hok) ?_
        · rw [List.length_map, tv, List.length_map]
          have := List.length_filter_le (fun x : Nat × Nat × Nat => isTok x.1) (piecesR t).1; omega
        · intro x hx
          obtain ⟨h3, o, h4⟩ := steps_nexts _ _ _ _ _ hst x hx
          have h5 := next_bounds h3 h4
          simp only at h5
          exact ⟨by omega, by omega, fun h8 => next_eight (by rw [h8] at h4; exact h4)⟩
        · intro k x hx hline d hd
          obtain ⟨g1, g2, g3⟩ := gap_all (f := f) hok (by omega) hx d hd hline
          have hgs : (gapB f).size ≤ 48 := by
            have := (mid_facts f (min f.size 40) (by omega)).2.1
            unfold gapB
            rw [ByteArray.size_append]
            have h4 : (⟨#[32, 42, 47, 32]⟩ : ByteArray).size = 4 := rfl
            omega
          refine ⟨spliceB t x.2.1 d (gapB f), fun W => change_ok t (gapB f) x.2.1 d g1 (by omega) W, ?_⟩
          have := scan_ok (t := spliceB t x.2.1 d (gapB f)) E g2
          rw [show tv (spliceB t x.2.1 d (gapB f)) (piecesR (spliceB t x.2.1 d (gapB f))).1 = tv t (piecesR t).1 from g3] at this
          exact this
  · exact gaps_bad t f n w E hok
end Go.Proofs.YtledmagigkpbeaaDoor
