/-
  What two lists of pieces have in common.
-/
import Derived.Test.YtledmagigkpbeaaDoorUR
import Derived.Laws.StructEq
namespace Go.Proofs.YtledmagigkpbeaaDoor
open Go.RowKit

theorem eq_pieceB (a b c a' b' c' : Int) (w : World) : (Op.equalIn 10000 33 (.agg #[.int .i64 a, .int .i64 b, .int .i64 c]) (.agg #[.int .i64 a', .int .i64 b', .int .i64 c'])).run Tryd.prog w = .ok (a == a' && (b == b' && c == c')) w := by
  have u3 := Tryd.underlying3
  have a3 := Tryd.isAgg3
  have z3 := Tryd.sizeOf3
  have hS : Tryd.prog.underlying 33 = some (.struct (Tryd.prog.fieldsOf 33)) := by kernel_rfl
  rw [show (10000 : Nat) = 9999 + 1 from rfl, run_equalIn_agg w 9999 33 _ _ hS (by kernel_rfl)]
  simp only [Program.fieldsOf, Tryd.underlying33]
  go_simp
  by_cases h1 : a = a' <;> by_cases h2 : b = b' <;> by_cases h3 : c = c' <;> simp [h1, h2, h3]
theorem guard_pieceB : Tryd.prog.eqGuardType Tryd.prog.depth 33 = false := by kernel_rfl
theorem run_eql_piece (x y : Nat × Nat × Nat) (w : World) : (binOp .eql 33 (.agg #[.int .i64 (x.1 : Int), .int .i64 (x.2.1 : Int), .int .i64 (x.2.2 : Int)]) (.agg #[.int .i64 (y.1 : Int), .int .i64 (y.2.1 : Int), .int .i64 (y.2.2 : Int)])).run Tryd.prog w = .ok (.bool (decide (x = y))) w := by
  rw [run_eql_struct, eq_pieceB]
  obtain ⟨x1, x2, x3⟩ := x
  obtain ⟨y1, y2, y3⟩ := y
  simp only [Result.andThen_ok, Prod.mk.injEq]
  congr 2
  by_cases h1 : x1 = y1 <;> by_cases h2 : x2 = y2 <;> by_cases h3 : x3 = y3 <;> simp [h1, h2, h3] <;> omega
theorem run_guard_piece (op : BinOp) (x y : Operand) (xs ys : Array Value) (w : World) : (eqGuard op 33 x y (.agg xs) (.agg ys)).run Tryd.prog w = .ok () w := run_eqGuard_agg w op _ x y xs ys guard_pieceB
/-- Is a piece the same but for its place? -/
def moved (shift : Int) (x y : Nat × Nat × Nat) : Bool := decide (x.1 = y.1) && decide ((x.2.1 : Int) + shift = (y.2.1 : Int)) && decide (x.2.2 = y.2.2)
theorem run_neq_moved (x y : Nat × Nat × Nat) (shift : Int) (w : World) : (binOp .neq 33 (.agg #[.int .i64 (x.1 : Int), .int .i64 ((x.2.1 : Int) + shift), .int .i64 (x.2.2 : Int)]) (.agg #[.int .i64 (y.1 : Int), .int .i64 (y.2.1 : Int), .int .i64 (y.2.2 : Int)])).run Tryd.prog w = .ok (.bool (!moved shift x y)) w := by
  rw [run_neq_struct, eq_pieceB]
  obtain ⟨x1, x2, x3⟩ := x
  obtain ⟨y1, y2, y3⟩ := y
  simp only [Result.andThen_ok, moved]
  congr 3
  by_cases h1 : x1 = y1 <;> by_cases h2 : (x2 : Int) + shift = y2 <;> by_cases h3 : x3 = y3 <;> simp [h1, h2, h3] <;> omega
attribute [local go_sem 5000] run_eql_piece run_guard_piece run_neq_moved
/-- How many pieces at the beginning are the same, from the k-th on. -/
def frontN (l m : List (Nat × Nat × Nat)) (k : Nat) : Nat :=
  if h : k < l.length ∧ k < m.length then (if l[k] = m[k] then frontN l m (k + 1) else k) else k
termination_by l.length - k
/-- How many pieces at the end are the same, from the k-th to the last on. -/
def backN (l m : List (Nat × Nat × Nat)) (shift : Int) (f k : Nat) : Nat :=
  if h : f + k < l.length ∧ f + k < m.length then (if moved shift (l[l.length - 1 - k]'(by omega)) (m[m.length - 1 - k]'(by omega)) then backN l m shift f (k + 1) else k) else k
termination_by l.length - k

theorem frontN_on {l m : List (Nat × Nat × Nat)} {k : Nat} {x y : Nat × Nat × Nat} (hx : l[k]? = some x) (hy : m[k]? = some y) (h : x = y) : frontN l m k = frontN l m (k + 1) := by
  obtain ⟨h1, rfl⟩ := List.getElem?_eq_some_iff.1 hx
  obtain ⟨h2, rfl⟩ := List.getElem?_eq_some_iff.1 hy
  rw [frontN]; simp [h1, h2, h]
theorem frontN_stop {l m : List (Nat × Nat × Nat)} {k : Nat} {x y : Nat × Nat × Nat} (hx : l[k]? = some x) (hy : m[k]? = some y) (h : x ≠ y) : frontN l m k = k := by
  obtain ⟨h1, rfl⟩ := List.getElem?_eq_some_iff.1 hx
  obtain ⟨h2, rfl⟩ := List.getElem?_eq_some_iff.1 hy
  rw [frontN]; simp [h1, h2, h]
theorem frontN_end {l m : List (Nat × Nat × Nat)} {k : Nat} (h : ¬ k < min l.length m.length) : frontN l m k = k := by
  rw [frontN, dif_neg (by omega)]
theorem backN_on {l m : List (Nat × Nat × Nat)} {shift : Int} {f k i j : Nat} {x y : Nat × Nat × Nat} (h : f + k < min l.length m.length) (hi : i = l.length - 1 - k) (hj : j = m.length - 1 - k) (hx : l[i]? = some x) (hy : m[j]? = some y) (hm : moved shift x y = true) : backN l m shift f k = backN l m shift f (k + 1) := by
  subst hi hj
  obtain ⟨h1, rfl⟩ := List.getElem?_eq_some_iff.1 hx
  obtain ⟨h2, rfl⟩ := List.getElem?_eq_some_iff.1 hy
  rw [backN, dif_pos ⟨by omega, by omega⟩, if_pos hm]
theorem backN_stop {l m : List (Nat × Nat × Nat)} {shift : Int} {f k i j : Nat} {x y : Nat × Nat × Nat} (h : f + k < min l.length m.length) (hi : i = l.length - 1 - k) (hj : j = m.length - 1 - k) (hx : l[i]? = some x) (hy : m[j]? = some y) (hm : moved shift x y = false) : backN l m shift f k = k := by
  subst hi hj
  obtain ⟨h1, rfl⟩ := List.getElem?_eq_some_iff.1 hx
  obtain ⟨h2, rfl⟩ := List.getElem?_eq_some_iff.1 hy
  rw [backN, dif_pos ⟨by omega, by omega⟩, if_neg (by rw [hm]; simp)]
theorem backN_end {l m : List (Nat × Nat × Nat)} {shift : Int} {f k : Nat} (h : ¬ f + k < min l.length m.length) : backN l m shift f k = k := by
  rw [backN, dif_neg (by omega)]
def kOf (b j : Nat) (w : World) : Nat := match w.cell? ⟨b, j, none⟩ with
  | some (.int _ i) => i.toNat
  | _ => 0
theorem kOf_eq {b j : Nat} {w : World} {k : Nat} (h : w.cell? ⟨b, j, none⟩ = some (.int .i64 k)) : kOf b j w = k := by simp [kOf, h]
/-- What holds between two rounds. -/
structure KRel (w : World) (f b : Nat) (wr : World) : Prop where
  below : Below w.heap.size w wr
  c0 : wr.cell? ⟨w.heap.size + 1, 0, none⟩ = some (.int .i64 f)
  c1 : wr.cell? ⟨w.heap.size + 1, 1, none⟩ = some (.int .i64 b)
  r0 : wr.cell? ⟨w.heap.size, 0, none⟩ = some (.int .i64 0)
  r1 : wr.cell? ⟨w.heap.size, 1, none⟩ = some (.int .i64 0)
  z0 : ∀ j, wr.frozen? ⟨w.heap.size, j, none⟩ = false
  z1 : ∀ j, wr.frozen? ⟨w.heap.size + 1, j, none⟩ = false
  size : w.heap.size + 2 ≤ wr.heap.size
theorem KRel.drew {w : World} {f b : Nat} {wr : World} (h : KRel w f b wr) : KRel w f b wr.drew :=
  ⟨h.below.drew, h.c0, h.c1, h.r0, h.r1, h.z0, h.z1, h.size⟩
theorem KRel.alloc {w : World} {f b : Nat} {wr : World} (h : KRel w f b wr) (o : Obj) : KRel w f b (wr.alloc o) := by
  have hb : ∀ k, k < wr.heap.size → (wr.alloc o).heap[k]? = wr.heap[k]? := fun k hk => Below.heap_alloc wr o k hk
  have hs := h.size
  have c : ∀ b' j, b' < wr.heap.size → (wr.alloc o).cell? ⟨b', j, none⟩ = wr.cell? ⟨b', j, none⟩ := fun b' j hb' => World.cell?_of_block (a := ⟨b', j, none⟩) (hb b' hb')
  have z : ∀ b' j, b' < wr.heap.size → (wr.alloc o).frozen? ⟨b', j, none⟩ = wr.frozen? ⟨b', j, none⟩ := fun b' j hb' => World.frozen?_of_block (a := ⟨b', j, none⟩) (hb b' hb')
  exact ⟨h.below.alloc h.below.size _, (c _ _ (by omega)).trans h.c0, (c _ _ (by omega)).trans h.c1, (c _ _ (by omega)).trans h.r0, (c _ _ (by omega)).trans h.r1, fun j => (z _ _ (by omega)).trans (h.z0 j), fun j => (z _ _ (by omega)).trans (h.z1 j), by simp; omega⟩
theorem KRel.other {w : World} {f b : Nat} {wr : World} (h : KRel w f b wr) (p j : Nat) (v : Value) (hp : w.heap.size + 2 ≤ p) : KRel w f b (wr.setCell ⟨p, j, none⟩ v) := by
  have c : ∀ b' j', b' ≠ p → (wr.setCell ⟨p, j, none⟩ v).cell? ⟨b', j', none⟩ = wr.cell? ⟨b', j', none⟩ := fun b' j' hb' => World.cell?_of_block (a := ⟨b', j', none⟩) (Below.heap_setCell wr ⟨p, j, none⟩ v b' hb')
  exact ⟨h.below.setCell (p := ⟨p, j, none⟩) (by simp; omega) _, (c _ _ (by omega)).trans h.c0, (c _ _ (by omega)).trans h.c1, (c _ _ (by omega)).trans h.r0, (c _ _ (by omega)).trans h.r1, fun j' => by rw [World.frozen?_setCell]; exact h.z0 j', fun j' => by rw [World.frozen?_setCell]; exact h.z1 j', by simpa using h.size⟩
theorem KRel.front {w : World} {f b : Nat} {wr : World} (h : KRel w f b wr) (v : Nat) : KRel w v b (wr.setCell ⟨w.heap.size + 1, 0, none⟩ (.int .i64 v)) := by
  have hn : (⟨w.heap.size + 1, 0, none⟩ : Addr) ≠ ⟨w.heap.size + 1, 1, none⟩ := by simp
  have c : ∀ j', (wr.setCell ⟨w.heap.size + 1, 0, none⟩ (.int .i64 v)).cell? ⟨w.heap.size, j', none⟩ = wr.cell? ⟨w.heap.size, j', none⟩ := fun j' => World.cell?_of_block (a := ⟨w.heap.size, j', none⟩) (Below.heap_setCell wr ⟨w.heap.size + 1, 0, none⟩ _ _ (by simp))
  exact ⟨h.below.setCell (p := ⟨w.heap.size + 1, 0, none⟩) (by simp) _, World.cell?_setCell_same' _ _ _ (by rw [h.c0]; rfl), (World.cell?_setCell_other _ _ _ _ (by simp)).trans h.c1, (c _).trans h.r0, (c _).trans h.r1, fun j' => by rw [World.frozen?_setCell]; exact h.z0 j', fun j' => by rw [World.frozen?_setCell]; exact h.z1 j', by simpa using h.size⟩
theorem KRel.back {w : World} {f b : Nat} {wr : World} (h : KRel w f b wr) (v : Nat) : KRel w f v (wr.setCell ⟨w.heap.size + 1, 1, none⟩ (.int .i64 v)) := by
  have c : ∀ j', (wr.setCell ⟨w.heap.size + 1, 1, none⟩ (.int .i64 v)).cell? ⟨w.heap.size, j', none⟩ = wr.cell? ⟨w.heap.size, j', none⟩ := fun j' => World.cell?_of_block (a := ⟨w.heap.size, j', none⟩) (Below.heap_setCell wr ⟨w.heap.size + 1, 1, none⟩ _ _ (by simp))
  exact ⟨h.below.setCell (p := ⟨w.heap.size + 1, 1, none⟩) (by simp) _, (World.cell?_setCell_other _ _ _ _ (by simp)).trans h.c0, World.cell?_setCell_same' _ _ _ (by rw [h.c1]; rfl), (c _).trans h.r0, (c _).trans h.r1, fun j' => by rw [World.frozen?_setCell]; exact h.z0 j', fun j' => by rw [World.frozen?_setCell]; exact h.z1 j', by simpa using h.size⟩

set_option maxHeartbeats 4000000 in
set_option maxRecDepth 100000 in
theorem kept_some (g h cl cm : Nat) (l m : List (Nat × Nat × Nat)) (shift : Int) (hs : -1048576 ≤ shift ∧ shift ≤ 1048576) (hl : ∀ x ∈ l, x.2.1 + x.2.2 ≤ 1048576) (hln : l.length ≤ 1048576) (hmn : m.length ≤ 1048576) (w : World) (hg : g < w.heap.size) (hh : h < w.heap.size) (L : PcsAt w g l) (M : PcsAt w h m) :
    Calls Tryd.prog 36 #[.slice (some ⟨g, 0, none⟩) l.length cl, .slice (some ⟨h, 0, none⟩) m.length cm, .int .i64 shift] w fun e w' => e = .returned (.agg #[.int .i64 (frontN l m 0 : Int), .int .i64 (backN l m shift (frontN l m 0) 0 : Int)]) ∧ Below w.heap.size w w' := by
  obtain ⟨n, hn⟩ : ∃ n, n = min l.length m.length := ⟨_, rfl⟩
  have hm : min (l.length : Int) (m.length : Int) = (n : Int) := by omega
  have HEND : Hid (∀ k, ¬ k < n → frontN l m k = k) := Lib.hid (fun k hk => frontN_end (by omega))
  have hnl : n ≤ l.length := by omega
  have hnm : n ≤ m.length := by omega
  have HN := Lib.hid hn
  clear hn
  go_enter Tryd.func36, Tryd.ntmps36
  go_wp2_with fail
  go_loopw [] (fun wr => ∃ k : Nat, k ≤ n ∧ KRel w k 0 wr ∧ Hid (frontN l m k = frontN l m 0)) (fun wr => n - kOf (w.heap.size + 1) 0 wr)
  case atStart =>
    refine ⟨0, by omega, ⟨((Below.refl _ w).alloc (Nat.le_refl _) _).alloc (by simp) _, ?_, ?_, ?_, ?_, ?_, ?_, by simp⟩, Lib.hid rfl⟩
    · exact new_cell _ _ _ _ _ _ (by simp) rfl
    · exact new_cell _ _ _ _ _ _ (by simp) rfl
    · exact two_firstB _ _ _ _ _ _ _ rfl rfl
    · exact two_firstB _ _ _ _ _ _ _ rfl rfl
    · exact fun j => two_frozenB _ _ _ _ _ _ rfl
    · exact fun j => new_frozen _ _ _ _ _ (by simp)
  case round =>
    obtain ⟨k, hk, hr, hu⟩ := hrel
    have HR := Lib.hid hr
    clear hr
    have e0 := HR.out.c0
    have hz := HR.out.z1 0
    have hw : IntKind.i64.wrap ((k : Int) + 1) = (k : Int) + 1 := IntWalk.i64_in _ (by omega)
    by_cases hlt : k < n
    · obtain ⟨x, hx⟩ : ∃ x, l[k]? = some x := ⟨_, List.getElem?_eq_getElem (by omega)⟩
      obtain ⟨y, hy⟩ : ∃ y, m[k]? = some y := ⟨_, List.getElem?_eq_getElem (by omega)⟩
      have l0 : wr.cell? ⟨g, k * 3, none⟩ = some (.int .i64 (x.1 : Int)) := (HR.out.below.cell (p := ⟨g, k * 3, none⟩) hg).trans (L.c0 hx)
      have l1 : wr.cell? ⟨g, k * 3 + 1, none⟩ = some (.int .i64 (x.2.1 : Int)) := (HR.out.below.cell (p := ⟨g, k * 3 + 1, none⟩) hg).trans (L.c1 hx)
      have l2 : wr.cell? ⟨g, k * 3 + 2, none⟩ = some (.int .i64 (x.2.2 : Int)) := (HR.out.below.cell (p := ⟨g, k * 3 + 2, none⟩) hg).trans (L.c2 hx)
      have m0 : wr.cell? ⟨h, k * 3, none⟩ = some (.int .i64 (y.1 : Int)) := (HR.out.below.cell (p := ⟨h, k * 3, none⟩) hh).trans (M.c0 hy)
      have m1 : wr.cell? ⟨h, k * 3 + 1, none⟩ = some (.int .i64 (y.2.1 : Int)) := (HR.out.below.cell (p := ⟨h, k * 3 + 1, none⟩) hh).trans (M.c1 hy)
      have m2 : wr.cell? ⟨h, k * 3 + 2, none⟩ = some (.int .i64 (y.2.2 : Int)) := (HR.out.below.cell (p := ⟨h, k * 3 + 2, none⟩) hh).trans (M.c2 hy)
      have h1 : (k : Int) < (n : Int) := by omega
      have h2 : (k : Int) < (l.length : Int) := by omega
      have h3 : (k : Int) < (m.length : Int) := by omega
      go_wp2_with fail
      go_region_held3 (fun w' => w'.cell? ⟨w.heap.size + 1, 0, none⟩ = some (.int .i64 (k : Int)) ∧ w'.cell? ⟨g, k * 3, none⟩ = some (.int .i64 (x.1 : Int)) ∧ w'.cell? ⟨g, k * 3 + 1, none⟩ = some (.int .i64 (x.2.1 : Int)) ∧ w'.cell? ⟨g, k * 3 + 2, none⟩ = some (.int .i64 (x.2.2 : Int)) ∧ w'.cell? ⟨h, k * 3, none⟩ = some (.int .i64 (y.1 : Int)) ∧ w'.cell? ⟨h, k * 3 + 1, none⟩ = some (.int .i64 (y.2.1 : Int)) ∧ w'.cell? ⟨h, k * 3 + 2, none⟩ = some (.int .i64 (y.2.2 : Int))) (go_keep) (fail)
      by_cases hxy : x = y
      · have hd : decide (x = y) = true := by simp [hxy]
        have hon := frontN_on hx hy hxy
        have HON := Lib.hid hon
        clear hon hxy
        simp only [hd]
        go_wp2_with fail
        have hkr : KRel w (k + 1) 0 (wr.setCell ⟨w.heap.size + 1, 0, none⟩ (.int .i64 ((k + 1 : Nat) : Int))).drew := (HR.out.front (k + 1)).drew
        rw [show (((k + 1 : Nat)) : Int) = (k : Int) + 1 by omega] at hkr
        have hk1 := kOf_eq (k := k + 1) (by rw [show (((k + 1 : Nat)) : Int) = (k : Int) + 1 by omega]; exact hkr.c0)
        have hk0 := kOf_eq HR.out.c0
        refine ⟨⟨k + 1, hlt, hkr, Lib.hid (by rw [← HON.out]; exact hu.out)⟩, ?_⟩
        rw [hk1, hk0]; omega
      · have hd : decide (x = y) = false := by simp [hxy]
        have HFK : Hid (frontN l m k = k) := Lib.hid (frontN_stop hx hy hxy)
        have HKR : Hid (KRel w k 0 wr.drew) := Lib.hid HR.out.drew
        clear hxy
        simp only [hd]
        go_wp2_with fail
        clear hd hx hy l0 l1 l2 m0 m1 m2 h1 h2 h3
        have HK : Hid (frontN l m 0 = k) := Lib.hid (by rw [← hu.out]; exact HFK.out)
        have hkr : KRel w k 0 wr.drew := HKR.out
        go_loopw [] (fun wr => ∃ b : Nat, b ≤ n - k ∧ KRel w k b wr ∧ Hid (backN l m shift k b = backN l m shift k 0)) (fun wr => n - k - kOf (w.heap.size + 1) 1 wr)
        case atStart => exact ⟨0, by omega, hkr, Lib.hid rfl⟩
        case round =>
          obtain ⟨b, hb, hr2, hv⟩ := hrel
          clear HR hz e0
          have HR := Lib.hid hr2
          clear hr2
          have c0 := HR.out.c0
          have c1 := HR.out.c1
          have hz := HR.out.z1 1
          have hz00 := HR.out.z0 0
          have hz01 := HR.out.z0 1
          have hr0 := HR.out.r0
          have hr1 := HR.out.r1
          have wkb : IntKind.i64.wrap ((k : Int) + (b : Int)) = (k : Int) + (b : Int) := IntWalk.i64_in _ (by omega)
          by_cases hlt2 : k + b < n
          · obtain ⟨i, hi⟩ : ∃ i, i = l.length - 1 - b := ⟨_, rfl⟩
            obtain ⟨j, hj⟩ : ∃ j, j = m.length - 1 - b := ⟨_, rfl⟩
            obtain ⟨x, hx⟩ : ∃ x, l[i]? = some x := ⟨_, List.getElem?_eq_getElem (by omega)⟩
            obtain ⟨y, hy⟩ : ∃ y, m[j]? = some y := ⟨_, List.getElem?_eq_getElem (by omega)⟩
            have hxl := hl x (List.mem_iff_getElem?.2 ⟨i, hx⟩)
            have l0 : wr.cell? ⟨g, i * 3, none⟩ = some (.int .i64 (x.1 : Int)) := (HR.out.below.cell (p := ⟨g, i * 3, none⟩) hg).trans (L.c0 hx)
            have l1 : wr.cell? ⟨g, i * 3 + 1, none⟩ = some (.int .i64 (x.2.1 : Int)) := (HR.out.below.cell (p := ⟨g, i * 3 + 1, none⟩) hg).trans (L.c1 hx)
            have l2 : wr.cell? ⟨g, i * 3 + 2, none⟩ = some (.int .i64 (x.2.2 : Int)) := (HR.out.below.cell (p := ⟨g, i * 3 + 2, none⟩) hg).trans (L.c2 hx)
            have m0 : wr.cell? ⟨h, j * 3, none⟩ = some (.int .i64 (y.1 : Int)) := (HR.out.below.cell (p := ⟨h, j * 3, none⟩) hh).trans (M.c0 hy)
            have m1 : wr.cell? ⟨h, j * 3 + 1, none⟩ = some (.int .i64 (y.2.1 : Int)) := (HR.out.below.cell (p := ⟨h, j * 3 + 1, none⟩) hh).trans (M.c1 hy)
            have m2 : wr.cell? ⟨h, j * 3 + 2, none⟩ = some (.int .i64 (y.2.2 : Int)) := (HR.out.below.cell (p := ⟨h, j * 3 + 2, none⟩) hh).trans (M.c2 hy)
            have wi1 : IntKind.i64.wrap ((l.length : Int) - 1) = (l.length : Int) - 1 := IntWalk.i64_in _ (by omega)
            have wi2 : IntKind.i64.wrap ((l.length : Int) - 1 - (b : Int)) = (i : Int) := by rw [IntWalk.i64_in _ (by omega)]; omega
            have wj1 : IntKind.i64.wrap ((m.length : Int) - 1) = (m.length : Int) - 1 := IntWalk.i64_in _ (by omega)
            have wj2 : IntKind.i64.wrap ((m.length : Int) - 1 - (b : Int)) = (j : Int) := by rw [IntWalk.i64_in _ (by omega)]; omega
            have hil : i < l.length := by omega
            have hjm : j < m.length := by omega
            have hil' : (i : Int) < (l.length : Int) := by omega
            have hjm' : (j : Int) < (m.length : Int) := by omega
            have hlt3 : (k : Int) + (b : Int) < (n : Int) := by omega
            have wsh : IntKind.i64.wrap ((x.2.1 : Int) + shift) = (x.2.1 : Int) + shift := IntWalk.i64_in _ (by omega)
            have wb1 : IntKind.i64.wrap ((b : Int) + 1) = (b : Int) + 1 := IntWalk.i64_in _ (by omega)
            have HON : Hid (moved shift x y = true → backN l m shift k b = backN l m shift k (b + 1)) := Lib.hid (fun hm' => backN_on (by rw [← HN.out]; exact hlt2) hi hj hx hy hm')
            have HST : Hid (moved shift x y = false → backN l m shift k b = b) := Lib.hid (fun hm' => backN_stop (by rw [← HN.out]; exact hlt2) hi hj hx hy hm')
            clear hi hj
            have HA := Lib.hid (HR.out.alloc (.cells #[.int .i64 (x.1 : Int), .int .i64 ((x.2.1 : Int) + shift), .int .i64 (x.2.2 : Int)] 33))
            have d0 : (wr.alloc (.cells #[.int .i64 (x.1 : Int), .int .i64 ((x.2.1 : Int) + shift), .int .i64 (x.2.2 : Int)] 33)).cell? ⟨w.heap.size + 1, 0, none⟩ = some (.int .i64 (k : Int)) := HA.out.c0
            have d1 : (wr.alloc (.cells #[.int .i64 (x.1 : Int), .int .i64 ((x.2.1 : Int) + shift), .int .i64 (x.2.2 : Int)] 33)).cell? ⟨w.heap.size + 1, 1, none⟩ = some (.int .i64 (b : Int)) := HA.out.c1
            have dz := HA.out.z1 1
            have dz00 := HA.out.z0 0
            have dz01 := HA.out.z0 1
            have dr0 := HA.out.r0
            have dr1 := HA.out.r1
            have p0 : (wr.alloc (.cells #[.int .i64 (x.1 : Int), .int .i64 ((x.2.1 : Int) + shift), .int .i64 (x.2.2 : Int)] 33)).cell? ⟨wr.heap.size, 0, none⟩ = some (.int .i64 (x.1 : Int)) := new_cell _ _ _ _ _ _ rfl rfl
            have p1 : (wr.alloc (.cells #[.int .i64 (x.1 : Int), .int .i64 ((x.2.1 : Int) + shift), .int .i64 (x.2.2 : Int)] 33)).cell? ⟨wr.heap.size, 1, none⟩ = some (.int .i64 ((x.2.1 : Int) + shift)) := new_cell _ _ _ _ _ _ rfl rfl
            have p2 : (wr.alloc (.cells #[.int .i64 (x.1 : Int), .int .i64 ((x.2.1 : Int) + shift), .int .i64 (x.2.2 : Int)] 33)).cell? ⟨wr.heap.size, 2, none⟩ = some (.int .i64 (x.2.2 : Int)) := new_cell _ _ _ _ _ _ rfl rfl
            have q0 : (wr.alloc (.cells #[.int .i64 (x.1 : Int), .int .i64 ((x.2.1 : Int) + shift), .int .i64 (x.2.2 : Int)] 33)).cell? ⟨h, j * 3, none⟩ = some (.int .i64 (y.1 : Int)) := (HA.out.below.cell (p := ⟨h, j * 3, none⟩) hh).trans (M.c0 hy)
            have q1 : (wr.alloc (.cells #[.int .i64 (x.1 : Int), .int .i64 ((x.2.1 : Int) + shift), .int .i64 (x.2.2 : Int)] 33)).cell? ⟨h, j * 3 + 1, none⟩ = some (.int .i64 (y.2.1 : Int)) := (HA.out.below.cell (p := ⟨h, j * 3 + 1, none⟩) hh).trans (M.c1 hy)
            have q2 : (wr.alloc (.cells #[.int .i64 (x.1 : Int), .int .i64 ((x.2.1 : Int) + shift), .int .i64 (x.2.2 : Int)] 33)).cell? ⟨h, j * 3 + 2, none⟩ = some (.int .i64 (y.2.2 : Int)) := (HA.out.below.cell (p := ⟨h, j * 3 + 2, none⟩) hh).trans (M.c2 hy)
            go_wp2_with fail
            go_region_held3 (fun w' => w'.cell? ⟨w.heap.size + 1, 1, none⟩ = some (.int .i64 (b : Int)) ∧ w'.cell? ⟨wr.heap.size, 0, none⟩ = some (.int .i64 (x.1 : Int)) ∧ w'.cell? ⟨wr.heap.size, 1, none⟩ = some (.int .i64 ((x.2.1 : Int) + shift)) ∧ w'.cell? ⟨wr.heap.size, 2, none⟩ = some (.int .i64 (x.2.2 : Int)) ∧ w'.cell? ⟨h, j * 3, none⟩ = some (.int .i64 (y.1 : Int)) ∧ w'.cell? ⟨h, j * 3 + 1, none⟩ = some (.int .i64 (y.2.1 : Int)) ∧ w'.cell? ⟨h, j * 3 + 2, none⟩ = some (.int .i64 (y.2.2 : Int))) (go_keep) (fail)
            cases hmv : moved shift x y
            · have HB2 := Lib.hid (HST.out hmv)
              go_wp2_with fail
              refine bodyPost_ret (v := .agg #[.int .i64 (k : Int), .int .i64 (b : Int)]) ?_ rfl ⟨by rw [HK.out, ← hv.out, HB2.out], ?_⟩
              · simp [results, Tryd.results36, go_sem, dr0, dr1]
              · repeat (first | exact HA.out.below | refine Below.drew ?_ | refine Below.setCell ?_ (by simp) _)
            · have HB2 := Lib.hid (HON.out hmv)
              go_wp2_with fail
              have hkb : KRel w k (b + 1) (((wr.alloc (.cells #[.int .i64 (x.1 : Int), .int .i64 ((x.2.1 : Int) + shift), .int .i64 (x.2.2 : Int)] 33)).setCell ⟨w.heap.size + 1, 1, none⟩ (.int .i64 ((b + 1 : Nat) : Int))).drew) := (HA.out.back (b + 1)).drew
              rw [show (((b + 1 : Nat)) : Int) = (b : Int) + 1 by omega] at hkb
              have hk1 := kOf_eq (k := b + 1) (by rw [show (((b + 1 : Nat)) : Int) = (b : Int) + 1 by omega]; exact hkb.c1)
              have hk0 := kOf_eq HR.out.c1
              refine ⟨⟨b + 1, by omega, hkb, Lib.hid (by rw [← HB2.out]; exact hv.out)⟩, ?_⟩
              rw [hk1, hk0]; omega
          · have hlt3 : ((k : Int) + (b : Int) < (n : Int)) = False := by simp; omega
            have HZ2 : Hid (backN l m shift k b = b) := Lib.hid (backN_end (by rw [← HN.out]; exact hlt2))
            go_wp2_with fail
            refine bodyPost_ret (v := .agg #[.int .i64 (k : Int), .int .i64 (b : Int)]) ?_ rfl ⟨by rw [HK.out, ← hv.out, HZ2.out], ?_⟩
            · simp [results, Tryd.results36, go_sem, hr0, hr1]
            · exact Below.setCell (Below.setCell HR.out.below (by simp) _) (by simp) _
    · have hkm : k = n := by omega
      have HFK := Lib.hid (HEND.out k hlt)
      have hdr : ∀ q, KRel w k 0 (wr.drewN q) := fun q => by
        have h := HR.out
        exact ⟨⟨h.below.os, h.below.tape, h.below.output, h.below.size, h.below.block⟩, h.c0, h.c1, h.r0, h.r1, h.z0, h.z1, h.size⟩
      have HKR : Hid (∀ q, KRel w k 0 (wr.drewN q)) := Lib.hid hdr
      subst hkm
      clear hlt hk hdr
      go_wp2_with fail
      go_quiet (fail)
      go_wp2_with fail
      have HK : Hid (frontN l m 0 = k) := Lib.hid (by rw [← hu.out]; exact HFK.out)
      have hkr := HKR.out nq
      go_loopw [] (fun wr => ∃ b : Nat, b ≤ k - k ∧ KRel w k b wr ∧ Hid (backN l m shift k b = backN l m shift k 0)) (fun wr => k - k - kOf (w.heap.size + 1) 1 wr)
      case atStart => exact ⟨0, by omega, hkr, Lib.hid rfl⟩
      case round =>
        obtain ⟨b, hb, hr2, hv⟩ := hrel
        clear HR hz e0
        have HR := Lib.hid hr2
        clear hr2
        have c0 := HR.out.c0
        have c1 := HR.out.c1
        have hz := HR.out.z1 1
        have hz00 := HR.out.z0 0
        have hz01 := HR.out.z0 1
        have hr0 := HR.out.r0
        have hr1 := HR.out.r1
        have wkb : IntKind.i64.wrap ((k : Int) + ((b : Nat) : Int)) = (k : Int) + (b : Int) := IntWalk.i64_in _ (by omega)
        have hb0 : b = 0 := by omega
        subst hb0
        clear hb wkb hv
        have HZ2 : Hid (backN l m shift k 0 = 0) := Lib.hid (backN_end (by rw [← HN.out]; omega))
        go_wp2_with fail
        refine bodyPost_ret (v := .agg #[.int .i64 (k : Int), .int .i64 0]) ?_ rfl ⟨by rw [HK.out, HZ2.out]; rfl, ?_⟩
        · simp [results, Tryd.results36, go_sem, hr0, hr1]
        · exact Below.setCell (Below.setCell HR.out.below (by simp) _) (by simp) _
end Go.Proofs.YtledmagigkpbeaaDoor
