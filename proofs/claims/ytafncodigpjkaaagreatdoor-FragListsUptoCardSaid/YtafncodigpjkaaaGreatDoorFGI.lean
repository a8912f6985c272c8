/-
  The reader of fragments does not look at places and marks.
  Equality of fragments, by the reference.
  What is read is no longer than the tokens.
  Equality of fragments, by the reference, of any depth.
-/
import Derived.Test.YtafncodigpjkaaaGreatDoorFG1
import Derived.Test.YtafncodigpjkaaaGreatDoorFG2
import Derived.Test.YtafncodigpjkaaaGreatDoorXY
import Derived.Test.YtafncodigpjkaaaGreatDoorFGC
namespace Go.Proofs.YtafncodigpjkaaaGreatDoor
section

def erT (t : Tkn) : Tkn := (t.1, t.2.1, t.2.2.1, 0, 0)
mutual
def erF : Fg → Fg
  | .mk t o ks => .mk (erT t) o (erL ks)
def erL : List Fg → List Fg
  | [] => []
  | x :: r => erF x :: erL r
end
theorem erL_cons (x : Fg) (r : List Fg) : erL (x :: r) = erF x :: erL r := by rw [erL]
mutual
/-- Equal but for places and marks, or wholly. -/
def sameF (lo : Bool) : Fg → Fg → Bool
  | .mk t o ks, y => (decide (t.1 = y.tok.1) && (decide (t.2.1 = y.tok.2.1) && (decide (t.2.2.1 = y.tok.2.2.1) && (lo || (decide (t.2.2.2.1 = y.tok.2.2.2.1) && decide (t.2.2.2.2 = y.tok.2.2.2.2)))))) && (decide (o = y.opn) && sameL lo ks y.kids)
def sameL (lo : Bool) : List Fg → List Fg → Bool
  | [], [] => true
  | x :: r, y :: s => sameF lo x y && sameL lo r s
  | [], _ :: _ => false
  | _ :: _, [] => false
end
mutual
theorem sameF_er : ∀ (x y : Fg), sameF true x y = true ↔ erF x = erF y
  | .mk t o ks, .mk t' o' ks' => by
    have ih := sameL_er ks ks'
    unfold sameF erF
    simp only [Bool.and_eq_true, decide_eq_true_eq, Bool.true_or, and_true]
    simp only [Fg.tok, Fg.opn, Fg.kids, and_true, ih, Fg.mk.injEq, erT, Prod.mk.injEq]
theorem sameL_er : ∀ (a b : List Fg), sameL true a b = true ↔ erL a = erL b
  | [], [] => by unfold sameL erL; simp
  | [], y :: s => by unfold sameL erL; simp
  | x :: r, [] => by unfold sameL erL; simp
  | x :: r, y :: s => by
    have h1 := sameF_er x y
    have h2 := sameL_er r s
    unfold sameL erL
    simp only [Bool.and_eq_true, h1, h2, List.cons.injEq]
end
mutual
theorem sameF_eq : ∀ (x y : Fg), sameF false x y = true ↔ x = y
  | .mk t o ks, .mk t' o' ks' => by
    have ih := sameL_eq ks ks'
    obtain ⟨k, n, s, a, m⟩ := t
    obtain ⟨k', n', s', a', m'⟩ := t'
    unfold sameF
    simp only [Bool.and_eq_true, decide_eq_true_eq, Bool.false_or]
    simp only [Fg.tok, Fg.opn, Fg.kids, ih, Fg.mk.injEq, Prod.mk.injEq]
theorem sameL_eq : ∀ (a b : List Fg), sameL false a b = true ↔ a = b
  | [], [] => by unfold sameL; simp
  | [], y :: s => by unfold sameL; simp
  | x :: r, [] => by unfold sameL; simp
  | x :: r, y :: s => by
    have h1 := sameF_eq x y
    have h2 := sameL_eq r s
    unfold sameL
    simp only [Bool.and_eq_true, h1, h2, List.cons.injEq]
end
theorem sameL_len {lo : Bool} : ∀ {a b : List Fg}, sameL lo a b = true → a.length = b.length
  | [], [], _ => rfl
  | [], _ :: _, h => by unfold sameL at h; cases h
  | _ :: _, [], h => by unfold sameL at h; cases h
  | x :: r, y :: s, h => by
    unfold sameL at h
    rw [Bool.and_eq_true] at h
    rw [List.length_cons, List.length_cons, sameL_len h.2]
theorem sameL_at {lo : Bool} {a b : List Fg} {k : Nat} {x y : Fg} (hx : a[k]? = some x) (hy : b[k]? = some y) : sameL lo (a.drop k) (b.drop k) = (sameF lo x y && sameL lo (a.drop (k + 1)) (b.drop (k + 1))) := by
  obtain ⟨h1, rfl⟩ := List.getElem?_eq_some_iff.1 hx
  obtain ⟨h2, rfl⟩ := List.getElem?_eq_some_iff.1 hy
  rw [List.drop_eq_getElem_cons h1, List.drop_eq_getElem_cons h2]
  conv => lhs; unfold sameL
end

section
open Go.RowKit

def AlPost (r : Bool) (W : World) (e : Ending) (w' : World) : Prop := e = .returned (.bool r) ∧ Below W.heap.size W w'
def AlLoop (lo : Bool) (a b : List Fg) (W : World) (k : Nat) (wr : World) : Prop := k ≤ a.length ∧ sameL lo (a.drop k) (b.drop k) = sameL lo a b ∧ Below W.heap.size W wr
set_option maxRecDepth 100000 in
set_option maxHeartbeats 16000000 in
theorem alike_run (lo : Bool) (P P' : Nat → Prop) (a b : List Fg) (va vb : Value) (W : World) (hva : FVal W P va a) (hvb : FVal W P' vb b) (hl : a.length ≤ 140737488351232)
    (HC : ∀ (x : Fg), x ∈ a → ∀ (ks' : List Fg) (kv kv' : Value) (w : World), FVal w P kv x.kids → FVal w P' kv' ks' → Calls Tryz.prog 14 #[kv, kv', .bool lo] w (AlPost (sameL lo x.kids ks') w)) :
    Calls Tryz.prog 14 #[va, vb, .bool lo] W (AlPost (sameL lo a b) W) := by
  obtain ⟨ba, ca, rfl, ha⟩ := hva
  obtain ⟨bb, cb, rfl, hb⟩ := hvb
  have HCC := Lib.hid HC
  have HA := Lib.hid ha
  have HB := Lib.hid hb
  clear HC ha hb
  by_cases hlen : a.length = b.length
  rotate_left
  · have hs : sameL lo a b = false := by
      cases h : sameL lo a b with
      | false => rfl
      | true => exact absurd (sameL_len h) hlen
    rw [hs]
    obtain ⟨q1, q2⟩ := ne_int (show ¬ (a.length : Int) = (b.length : Int) by omega)
    clear hs hlen
    go_enter Tryz.func14, Tryz.ntmps14
    go_wp2_with fail
    exact bodyPost_ret (v := .bool false) (by simp [results, Tryz.results14, go_sem]) rfl ⟨rfl, Below.refl _ _⟩
  · obtain ⟨q1, q2⟩ := eq_int (show (a.length : Int) = (b.length : Int) by omega)
    go_enter Tryz.func14, Tryz.ntmps14
    go_wp2_with fail
    clear q1 q2
    go_loopw [7] (fun iv wr => ∃ k : Nat, iv = .int .i64 (k : Int) ∧ Hid (AlLoop lo a b W k wr)) (fun iv _ => a.length - (intOf iv).toNat)
    case atStart => exact ⟨0, rfl, Lib.hid ⟨by omega, by rw [List.drop_zero, List.drop_zero], Below.refl _ _⟩⟩
    case round =>
      obtain ⟨k, rfl, hr⟩ := hrel
      obtain ⟨hk, hres, hbe⟩ := hr.out
      have w3' : IntKind.i64.wrap ((k : Int) + 1) = (k : Int) + 1 := IntWalk.i64_in _ (by omega)
      by_cases hlt : k < a.length
      · obtain ⟨x, hx⟩ : ∃ x, a[k]? = some x := ⟨_, List.getElem?_eq_getElem hlt⟩
        obtain ⟨y, hy⟩ : ∃ y, b[k]? = some y := ⟨_, List.getElem?_eq_getElem (by omega)⟩
        obtain ⟨g, o, rfl, hp, hg, hrw⟩ := HA.out (by rintro rfl; simp at hlt)
        obtain ⟨g', o', rfl, hp', hg', hrw'⟩ := HB.out (by rintro rfl; simp at hy)
        obtain ⟨kv, hcell, ka, kc, rfl, hkr⟩ := (hrw.get hx).parts
        obtain ⟨kv', hcell', ka', kc', rfl, hkr'⟩ := (hrw'.get hy).parts
        rw [sameL_at hx hy] at hres
        have hc : ∀ w', Below W.heap.size W w' → ∀ j u, (fgV x (.slice ka x.kids.length kc))[j]? = some u → w'.cell? ⟨g, o + k * 7 + j, none⟩ = some u := fun w' hb j u hu => (hb.cell (p := ⟨g, o + k * 7 + j, none⟩) hg).trans (hcell j u hu)
        have hc' : ∀ w', Below W.heap.size W w' → ∀ j u, (fgV y (.slice ka' y.kids.length kc'))[j]? = some u → w'.cell? ⟨g', o' + k * 7 + j, none⟩ = some u := fun w' hb j u hu => (hb.cell (p := ⟨g', o' + k * 7 + j, none⟩) hg').trans (hcell' j u hu)
        have hlt' : (k : Int) < (a.length : Int) := by omega
        have hlt2 : (k : Int) < (b.length : Int) := by omega
        have HKV : Hid (FVal W P (.slice ka x.kids.length kc) x.kids) := Lib.hid ⟨_, _, rfl, hkr⟩
        have HKV' : Hid (FVal W P' (.slice ka' y.kids.length kc') y.kids) := Lib.hid ⟨_, _, rfl, hkr'⟩
        have HCK := Lib.hid (HCC.out x (List.mem_of_getElem? hx) y.kids (.slice ka x.kids.length kc) (.slice ka' y.kids.length kc'))
        clear hr hcell hcell' hrw hrw' hx hy hkr hkr'
        obtain ⟨⟨k0, n0, s0, a0, m0⟩, op, ks⟩ := x
        obtain ⟨⟨k1, n1, s1, a1, m1⟩, oq, kt⟩ := y
        have hsf : sameF lo (Fg.mk (k0, n0, s0, a0, m0) op ks) (Fg.mk (k1, n1, s1, a1, m1) oq kt) = ((decide (k0 = k1) && (decide (n0 = n1) && (decide (s0 = s1) && (lo || (decide (a0 = a1) && decide (m0 = m1)))))) && (decide (op = oq) && sameL lo ks kt)) := by
          unfold sameF; rfl
        rw [hsf] at hres
        simp only [Fg.kids] at HKV HKV' HCK
        have HBE := Lib.hid hbe
        have HH := Lib.hid hc
        have HH' := Lib.hid hc'
        have hcl := hc _ hbe
        have hcl' := hc' _ hbe
        have e0 : wr.cell? ⟨g, o + k * 7, none⟩ = some (.int .i64 k0) := hcl 0 _ rfl
        have e1 : wr.cell? ⟨g, o + k * 7 + 1, none⟩ = some (.int .i64 n0) := hcl 1 _ rfl
        have e2 : wr.cell? ⟨g, o + k * 7 + 2, none⟩ = some (.string s0) := hcl 2 _ rfl
        have e3 : wr.cell? ⟨g, o + k * 7 + 3, none⟩ = some (.int .i64 a0) := hcl 3 _ rfl
        have e4 : wr.cell? ⟨g, o + k * 7 + 4, none⟩ = some (.int .i64 m0) := hcl 4 _ rfl
        obtain ⟨WA, hWA⟩ : ∃ WA, WA = wr.alloc (.cells #[.int .i64 k0, .int .i64 n0, .string s0, .int .i64 a0, .int .i64 m0] 50) := ⟨_, rfl⟩
        have hbA : Below W.heap.size W WA := by rw [hWA]; exact hbe.alloc hbe.size _
        have hcm := hc' _ hbA
        have f0 : WA.cell? ⟨g', o' + k * 7, none⟩ = some (.int .i64 k1) := hcm 0 _ rfl
        have f1 : WA.cell? ⟨g', o' + k * 7 + 1, none⟩ = some (.int .i64 n1) := hcm 1 _ rfl
        have f2 : WA.cell? ⟨g', o' + k * 7 + 2, none⟩ = some (.string s1) := hcm 2 _ rfl
        have f3 : WA.cell? ⟨g', o' + k * 7 + 3, none⟩ = some (.int .i64 a1) := hcm 3 _ rfl
        have f4 : WA.cell? ⟨g', o' + k * 7 + 4, none⟩ = some (.int .i64 m1) := hcm 4 _ rfl
        rw [hWA] at f0 f1 f2 f3 f4
        have HB2 : Hid (Below W.heap.size W ((wr.alloc (.cells #[.int .i64 k0, .int .i64 n0, .string s0, .int .i64 a0, .int .i64 m0] 50)).alloc (.cells #[.int .i64 k1, .int .i64 n1, .string s1, .int .i64 a1, .int .i64 m1] 50))) := Lib.hid (by rw [← hWA]; exact hbA.alloc hbA.size _)
        clear hcl hcl' hcm hWA hbA hc hc' hbe WA
        by_cases h0 : k0 = k1
        rotate_left
        · obtain ⟨y1, y2⟩ := ne_int h0
          have HRES : Hid (sameL lo a b = false) := Lib.hid (by rw [← hres]; simp [h0])
          clear hres hsf h0
          go_wp2_with fail
          have d5 := fun x : BW ((wr.alloc (.cells #[.int .i64 k0, .int .i64 n0, .string s0, .int .i64 a0, .int .i64 m0] 50)).alloc (.cells #[.int .i64 k1, .int .i64 n1, .string s1, .int .i64 a1, .int .i64 m1] 50)) => HH.out x.val (HB2.out.trans (x.prop.mono HB2.out.size)) 5 (.string op) rfl
          have d6 := fun x : BW ((wr.alloc (.cells #[.int .i64 k0, .int .i64 n0, .string s0, .int .i64 a0, .int .i64 m0] 50)).alloc (.cells #[.int .i64 k1, .int .i64 n1, .string s1, .int .i64 a1, .int .i64 m1] 50)) => HH.out x.val (HB2.out.trans (x.prop.mono HB2.out.size)) 6 (.slice ka ks.length kc) rfl
          have b5 := fun x : BW ((wr.alloc (.cells #[.int .i64 k0, .int .i64 n0, .string s0, .int .i64 a0, .int .i64 m0] 50)).alloc (.cells #[.int .i64 k1, .int .i64 n1, .string s1, .int .i64 a1, .int .i64 m1] 50)) => HH'.out x.val (HB2.out.trans (x.prop.mono HB2.out.size)) 5 (.string oq) rfl
          have b6 := fun x : BW ((wr.alloc (.cells #[.int .i64 k0, .int .i64 n0, .string s0, .int .i64 a0, .int .i64 m0] 50)).alloc (.cells #[.int .i64 k1, .int .i64 n1, .string s1, .int .i64 a1, .int .i64 m1] 50)) => HH'.out x.val (HB2.out.trans (x.prop.mono HB2.out.size)) 6 (.slice ka' kt.length kc') rfl
          refine region_below (by kernel_rfl) (by kernel_rfl) ?_
          repeat (go_big_quiet_step (fail))
          refine wpQuiet_nil ?_
          rintro _ ⟨⟨w3, b3⟩, rfl⟩
          have B3 := Lib.hid (HB2.out.trans (b3.mono HB2.out.size))
          clear d5 d6 b5 b6 b3
          go_wp2_with fail
          exact bodyPost_ret (v := .bool false) (by simp [results, Tryz.results14, go_sem]) rfl ⟨by rw [HRES.out], B3.out⟩
        obtain ⟨y1, y2⟩ := eq_int h0
        by_cases h1 : n0 = n1
        rotate_left
        · obtain ⟨z1, z2⟩ := ne_int h1
          have HRES : Hid (sameL lo a b = false) := Lib.hid (by rw [← hres]; simp [h1])
          clear hres hsf h0 h1
          go_wp2_with fail
          have d5 := fun x : BW ((wr.alloc (.cells #[.int .i64 k0, .int .i64 n0, .string s0, .int .i64 a0, .int .i64 m0] 50)).alloc (.cells #[.int .i64 k1, .int .i64 n1, .string s1, .int .i64 a1, .int .i64 m1] 50)) => HH.out x.val (HB2.out.trans (x.prop.mono HB2.out.size)) 5 (.string op) rfl
          have d6 := fun x : BW ((wr.alloc (.cells #[.int .i64 k0, .int .i64 n0, .string s0, .int .i64 a0, .int .i64 m0] 50)).alloc (.cells #[.int .i64 k1, .int .i64 n1, .string s1, .int .i64 a1, .int .i64 m1] 50)) => HH.out x.val (HB2.out.trans (x.prop.mono HB2.out.size)) 6 (.slice ka ks.length kc) rfl
          have b5 := fun x : BW ((wr.alloc (.cells #[.int .i64 k0, .int .i64 n0, .string s0, .int .i64 a0, .int .i64 m0] 50)).alloc (.cells #[.int .i64 k1, .int .i64 n1, .string s1, .int .i64 a1, .int .i64 m1] 50)) => HH'.out x.val (HB2.out.trans (x.prop.mono HB2.out.size)) 5 (.string oq) rfl
          have b6 := fun x : BW ((wr.alloc (.cells #[.int .i64 k0, .int .i64 n0, .string s0, .int .i64 a0, .int .i64 m0] 50)).alloc (.cells #[.int .i64 k1, .int .i64 n1, .string s1, .int .i64 a1, .int .i64 m1] 50)) => HH'.out x.val (HB2.out.trans (x.prop.mono HB2.out.size)) 6 (.slice ka' kt.length kc') rfl
          refine region_below (by kernel_rfl) (by kernel_rfl) ?_
          repeat (go_big_quiet_step (fail))
          refine wpQuiet_nil ?_
          rintro _ ⟨⟨w3, b3⟩, rfl⟩
          have B3 := Lib.hid (HB2.out.trans (b3.mono HB2.out.size))
          clear d5 d6 b5 b6 b3
          go_wp2_with fail
          exact bodyPost_ret (v := .bool false) (by simp [results, Tryz.results14, go_sem]) rfl ⟨by rw [HRES.out], B3.out⟩
        obtain ⟨z1, z2⟩ := eq_int h1
        by_cases h2 : s0 = s1
        rotate_left
        · obtain ⟨u1, u2⟩ := str_ne h2
          have HRES : Hid (sameL lo a b = false) := Lib.hid (by rw [← hres]; simp [h2])
          clear hres hsf h0 h1 h2
          go_wp2_with fail
          have d5 := fun x : BW ((wr.alloc (.cells #[.int .i64 k0, .int .i64 n0, .string s0, .int .i64 a0, .int .i64 m0] 50)).alloc (.cells #[.int .i64 k1, .int .i64 n1, .string s1, .int .i64 a1, .int .i64 m1] 50)) => HH.out x.val (HB2.out.trans (x.prop.mono HB2.out.size)) 5 (.string op) rfl
          have d6 := fun x : BW ((wr.alloc (.cells #[.int .i64 k0, .int .i64 n0, .string s0, .int .i64 a0, .int .i64 m0] 50)).alloc (.cells #[.int .i64 k1, .int .i64 n1, .string s1, .int .i64 a1, .int .i64 m1] 50)) => HH.out x.val (HB2.out.trans (x.prop.mono HB2.out.size)) 6 (.slice ka ks.length kc) rfl
          have b5 := fun x : BW ((wr.alloc (.cells #[.int .i64 k0, .int .i64 n0, .string s0, .int .i64 a0, .int .i64 m0] 50)).alloc (.cells #[.int .i64 k1, .int .i64 n1, .string s1, .int .i64 a1, .int .i64 m1] 50)) => HH'.out x.val (HB2.out.trans (x.prop.mono HB2.out.size)) 5 (.string oq) rfl
          have b6 := fun x : BW ((wr.alloc (.cells #[.int .i64 k0, .int .i64 n0, .string s0, .int .i64 a0, .int .i64 m0] 50)).alloc (.cells #[.int .i64 k1, .int .i64 n1, .string s1, .int .i64 a1, .int .i64 m1] 50)) => HH'.out x.val (HB2.out.trans (x.prop.mono HB2.out.size)) 6 (.slice ka' kt.length kc') rfl
          refine region_below (by kernel_rfl) (by kernel_rfl) ?_
          repeat (go_big_quiet_step (fail))
          refine wpQuiet_nil ?_
          rintro _ ⟨⟨w3, b3⟩, rfl⟩
          have B3 := Lib.hid (HB2.out.trans (b3.mono HB2.out.size))
          clear d5 d6 b5 b6 b3
          go_wp2_with fail
          exact bodyPost_ret (v := .bool false) (by simp [results, Tryz.results14, go_sem]) rfl ⟨by rw [HRES.out], B3.out⟩
        obtain ⟨u1, u2⟩ := str_eq h2
        cases lo with
        | true =>
          by_cases h5 : op = oq
          rotate_left
          · obtain ⟨r1, r2⟩ := str_ne h5
            have HRES : Hid (sameL true a b = false) := Lib.hid (by rw [← hres]; simp [h5])
            clear hres hsf h5 h0 h1 h2
            go_wp2_with fail
            have d5 := fun x : BW ((wr.alloc (.cells #[.int .i64 k0, .int .i64 n0, .string s0, .int .i64 a0, .int .i64 m0] 50)).alloc (.cells #[.int .i64 k1, .int .i64 n1, .string s1, .int .i64 a1, .int .i64 m1] 50)) => HH.out x.val (HB2.out.trans (x.prop.mono HB2.out.size)) 5 (.string op) rfl
            have d6 := fun x : BW ((wr.alloc (.cells #[.int .i64 k0, .int .i64 n0, .string s0, .int .i64 a0, .int .i64 m0] 50)).alloc (.cells #[.int .i64 k1, .int .i64 n1, .string s1, .int .i64 a1, .int .i64 m1] 50)) => HH.out x.val (HB2.out.trans (x.prop.mono HB2.out.size)) 6 (.slice ka ks.length kc) rfl
            have b5 := fun x : BW ((wr.alloc (.cells #[.int .i64 k0, .int .i64 n0, .string s0, .int .i64 a0, .int .i64 m0] 50)).alloc (.cells #[.int .i64 k1, .int .i64 n1, .string s1, .int .i64 a1, .int .i64 m1] 50)) => HH'.out x.val (HB2.out.trans (x.prop.mono HB2.out.size)) 5 (.string oq) rfl
            have b6 := fun x : BW ((wr.alloc (.cells #[.int .i64 k0, .int .i64 n0, .string s0, .int .i64 a0, .int .i64 m0] 50)).alloc (.cells #[.int .i64 k1, .int .i64 n1, .string s1, .int .i64 a1, .int .i64 m1] 50)) => HH'.out x.val (HB2.out.trans (x.prop.mono HB2.out.size)) 6 (.slice ka' kt.length kc') rfl
            refine region_below (by kernel_rfl) (by kernel_rfl) ?_
            repeat (go_big_quiet_step (fail))
            refine wpQuiet_nil ?_
            rintro _ ⟨⟨w3, b3⟩, rfl⟩
            have B3 := Lib.hid (HB2.out.trans (b3.mono HB2.out.size))
            clear d5 d6 b5 b6 b3
            go_wp2_with fail
            exact bodyPost_ret (v := .bool false) (by simp [results, Tryz.results14, go_sem]) rfl ⟨by rw [HRES.out], B3.out⟩
          obtain ⟨r1, r2⟩ := str_eq h5
          have hre2 : (sameL true ks kt && sameL true (a.drop (k + 1)) (b.drop (k + 1))) = sameL true a b := by rw [← hres]; simp [h0, h1, h2, h5]
          clear hres hsf h5 h0 h1 h2
          generalize sameL true ks kt = rr at hre2 HCK
          have HRE := Lib.hid hre2
          clear hre2
          cases rr with
          | false =>
            have HRES : Hid (sameL true a b = false) := Lib.hid (by rw [← HRE.out]; rfl)
            go_wp2_with fail
            have d5 := fun x : BW ((wr.alloc (.cells #[.int .i64 k0, .int .i64 n0, .string s0, .int .i64 a0, .int .i64 m0] 50)).alloc (.cells #[.int .i64 k1, .int .i64 n1, .string s1, .int .i64 a1, .int .i64 m1] 50)) => HH.out x.val (HB2.out.trans (x.prop.mono HB2.out.size)) 5 (.string op) rfl
            have d6 := fun x : BW ((wr.alloc (.cells #[.int .i64 k0, .int .i64 n0, .string s0, .int .i64 a0, .int .i64 m0] 50)).alloc (.cells #[.int .i64 k1, .int .i64 n1, .string s1, .int .i64 a1, .int .i64 m1] 50)) => HH.out x.val (HB2.out.trans (x.prop.mono HB2.out.size)) 6 (.slice ka ks.length kc) rfl
            have b5 := fun x : BW ((wr.alloc (.cells #[.int .i64 k0, .int .i64 n0, .string s0, .int .i64 a0, .int .i64 m0] 50)).alloc (.cells #[.int .i64 k1, .int .i64 n1, .string s1, .int .i64 a1, .int .i64 m1] 50)) => HH'.out x.val (HB2.out.trans (x.prop.mono HB2.out.size)) 5 (.string oq) rfl
            have b6 := fun x : BW ((wr.alloc (.cells #[.int .i64 k0, .int .i64 n0, .string s0, .int .i64 a0, .int .i64 m0] 50)).alloc (.cells #[.int .i64 k1, .int .i64 n1, .string s1, .int .i64 a1, .int .i64 m1] 50)) => HH'.out x.val (HB2.out.trans (x.prop.mono HB2.out.size)) 6 (.slice ka' kt.length kc') rfl
            have HCX := Lib.hid (fun x : BW ((wr.alloc (.cells #[.int .i64 k0, .int .i64 n0, .string s0, .int .i64 a0, .int .i64 m0] 50)).alloc (.cells #[.int .i64 k1, .int .i64 n1, .string s1, .int .i64 a1, .int .i64 m1] 50)) => HCK.out x.val (HKV.out.below (HB2.out.trans (x.prop.mono HB2.out.size))) (HKV'.out.below (HB2.out.trans (x.prop.mono HB2.out.size))))
            refine region_below (by kernel_rfl) (by kernel_rfl) ?_
            repeat (go_big_quiet_step ((go_at_call 14; exact calls_bw (HCX.out _))))
            refine wpQuiet_nil ?_
            rintro _ ⟨⟨w3, b3⟩, rfl⟩
            have B3 := Lib.hid (HB2.out.trans (b3.mono HB2.out.size))
            clear d5 d6 b5 b6 b3
            go_wp2_with fail
            exact bodyPost_ret (v := .bool false) (by simp [results, Tryz.results14, go_sem]) rfl ⟨by rw [HRES.out], B3.out⟩
          | true =>
            go_wp2_with fail
            have d5 := fun x : BW ((wr.alloc (.cells #[.int .i64 k0, .int .i64 n0, .string s0, .int .i64 a0, .int .i64 m0] 50)).alloc (.cells #[.int .i64 k1, .int .i64 n1, .string s1, .int .i64 a1, .int .i64 m1] 50)) => HH.out x.val (HB2.out.trans (x.prop.mono HB2.out.size)) 5 (.string op) rfl
            have d6 := fun x : BW ((wr.alloc (.cells #[.int .i64 k0, .int .i64 n0, .string s0, .int .i64 a0, .int .i64 m0] 50)).alloc (.cells #[.int .i64 k1, .int .i64 n1, .string s1, .int .i64 a1, .int .i64 m1] 50)) => HH.out x.val (HB2.out.trans (x.prop.mono HB2.out.size)) 6 (.slice ka ks.length kc) rfl
            have b5 := fun x : BW ((wr.alloc (.cells #[.int .i64 k0, .int .i64 n0, .string s0, .int .i64 a0, .int .i64 m0] 50)).alloc (.cells #[.int .i64 k1, .int .i64 n1, .string s1, .int .i64 a1, .int .i64 m1] 50)) => HH'.out x.val (HB2.out.trans (x.prop.mono HB2.out.size)) 5 (.string oq) rfl
            have b6 := fun x : BW ((wr.alloc (.cells #[.int .i64 k0, .int .i64 n0, .string s0, .int .i64 a0, .int .i64 m0] 50)).alloc (.cells #[.int .i64 k1, .int .i64 n1, .string s1, .int .i64 a1, .int .i64 m1] 50)) => HH'.out x.val (HB2.out.trans (x.prop.mono HB2.out.size)) 6 (.slice ka' kt.length kc') rfl
            have HCX := Lib.hid (fun x : BW ((wr.alloc (.cells #[.int .i64 k0, .int .i64 n0, .string s0, .int .i64 a0, .int .i64 m0] 50)).alloc (.cells #[.int .i64 k1, .int .i64 n1, .string s1, .int .i64 a1, .int .i64 m1] 50)) => HCK.out x.val (HKV.out.below (HB2.out.trans (x.prop.mono HB2.out.size))) (HKV'.out.below (HB2.out.trans (x.prop.mono HB2.out.size))))
            refine region_below (by kernel_rfl) (by kernel_rfl) ?_
            repeat (go_big_quiet_step ((go_at_call 14; exact calls_bw (HCX.out _))))
            refine wpQuiet_nil ?_
            rintro _ ⟨⟨w3, b3⟩, rfl⟩
            have B3 := Lib.hid (HB2.out.trans (b3.mono HB2.out.size))
            clear d5 d6 b5 b6 b3
            go_wp2_with fail
            exact ⟨⟨k + 1, by simp, Lib.hid ⟨by omega, by rw [← HRE.out]; rfl, B3.out⟩⟩, by simp only [intOf]; omega⟩
        | false =>
          by_cases h3 : a0 = a1
          rotate_left
          · obtain ⟨p1, p2⟩ := ne_int h3
            have HRES : Hid (sameL false a b = false) := Lib.hid (by rw [← hres]; simp [h3])
            clear hres hsf h0 h1 h2 h3
            go_wp2_with fail
            have d5 := fun x : BW ((wr.alloc (.cells #[.int .i64 k0, .int .i64 n0, .string s0, .int .i64 a0, .int .i64 m0] 50)).alloc (.cells #[.int .i64 k1, .int .i64 n1, .string s1, .int .i64 a1, .int .i64 m1] 50)) => HH.out x.val (HB2.out.trans (x.prop.mono HB2.out.size)) 5 (.string op) rfl
            have d6 := fun x : BW ((wr.alloc (.cells #[.int .i64 k0, .int .i64 n0, .string s0, .int .i64 a0, .int .i64 m0] 50)).alloc (.cells #[.int .i64 k1, .int .i64 n1, .string s1, .int .i64 a1, .int .i64 m1] 50)) => HH.out x.val (HB2.out.trans (x.prop.mono HB2.out.size)) 6 (.slice ka ks.length kc) rfl
            have b5 := fun x : BW ((wr.alloc (.cells #[.int .i64 k0, .int .i64 n0, .string s0, .int .i64 a0, .int .i64 m0] 50)).alloc (.cells #[.int .i64 k1, .int .i64 n1, .string s1, .int .i64 a1, .int .i64 m1] 50)) => HH'.out x.val (HB2.out.trans (x.prop.mono HB2.out.size)) 5 (.string oq) rfl
            have b6 := fun x : BW ((wr.alloc (.cells #[.int .i64 k0, .int .i64 n0, .string s0, .int .i64 a0, .int .i64 m0] 50)).alloc (.cells #[.int .i64 k1, .int .i64 n1, .string s1, .int .i64 a1, .int .i64 m1] 50)) => HH'.out x.val (HB2.out.trans (x.prop.mono HB2.out.size)) 6 (.slice ka' kt.length kc') rfl
            refine region_below (by kernel_rfl) (by kernel_rfl) ?_
            repeat (go_big_quiet_step (fail))
            refine wpQuiet_nil ?_
            rintro _ ⟨⟨w3, b3⟩, rfl⟩
            have B3 := Lib.hid (HB2.out.trans (b3.mono HB2.out.size))
            clear d5 d6 b5 b6 b3
            go_wp2_with fail
            exact bodyPost_ret (v := .bool false) (by simp [results, Tryz.results14, go_sem]) rfl ⟨by rw [HRES.out], B3.out⟩
          obtain ⟨p1, p2⟩ := eq_int h3
          by_cases h4 : m0 = m1
          rotate_left
          · obtain ⟨v1, v2⟩ := ne_int h4
            have HRES : Hid (sameL false a b = false) := Lib.hid (by rw [← hres]; simp [h4])
            clear hres hsf h0 h1 h2 h3 h4
            go_wp2_with fail
            have d5 := fun x : BW ((wr.alloc (.cells #[.int .i64 k0, .int .i64 n0, .string s0, .int .i64 a0, .int .i64 m0] 50)).alloc (.cells #[.int .i64 k1, .int .i64 n1, .string s1, .int .i64 a1, .int .i64 m1] 50)) => HH.out x.val (HB2.out.trans (x.prop.mono HB2.out.size)) 5 (.string op) rfl
            have d6 := fun x : BW ((wr.alloc (.cells #[.int .i64 k0, .int .i64 n0, .string s0, .int .i64 a0, .int .i64 m0] 50)).alloc (.cells #[.int .i64 k1, .int .i64 n1, .string s1, .int .i64 a1, .int .i64 m1] 50)) => HH.out x.val (HB2.out.trans (x.prop.mono HB2.out.size)) 6 (.slice ka ks.length kc) rfl
            have b5 := fun x : BW ((wr.alloc (.cells #[.int .i64 k0, .int .i64 n0, .string s0, .int .i64 a0, .int .i64 m0] 50)).alloc (.cells #[.int .i64 k1, .int .i64 n1, .string s1, .int .i64 a1, .int .i64 m1] 50)) => HH'.out x.val (HB2.out.trans (x.prop.mono HB2.out.size)) 5 (.string oq) rfl
            have b6 := fun x : BW ((wr.alloc (.cells #[.int .i64 k0, .int .i64 n0, .string s0, .int .i64 a0, .int .i64 m0] 50)).alloc (.cells #[.int .i64 k1, .int .i64 n1, .string s1, .int .i64 a1, .int .i64 m1] 50)) => HH'.out x.val (HB2.out.trans (x.prop.mono HB2.out.size)) 6 (.slice ka' kt.length kc') rfl
            refine region_below (by kernel_rfl) (by kernel_rfl) ?_
            repeat (go_big_quiet_step (fail))
            refine wpQuiet_nil ?_
            rintro _ ⟨⟨w3, b3⟩, rfl⟩
            have B3 := Lib.hid (HB2.out.trans (b3.mono HB2.out.size))
            clear d5 d6 b5 b6 b3
            go_wp2_with fail
            exact bodyPost_ret (v := .bool false) (by simp [results, Tryz.results14, go_sem]) rfl ⟨by rw [HRES.out], B3.out⟩
          obtain ⟨v1, v2⟩ := eq_int h4
          by_cases h5 : op = oq
          rotate_left
          · obtain ⟨r1, r2⟩ := str_ne h5
            have HRES : Hid (sameL false a b = false) := Lib.hid (by rw [← hres]; simp [h5])
            clear hres hsf h5 h0 h1 h2 h3 h4
            go_wp2_with fail
            have d5 := fun x : BW ((wr.alloc (.cells #[.int .i64 k0, .int .i64 n0, .string s0, .int .i64 a0, .int .i64 m0] 50)).alloc (.cells #[.int .i64 k1, .int .i64 n1, .string s1, .int .i64 a1, .int .i64 m1] 50)) => HH.out x.val (HB2.out.trans (x.prop.mono HB2.out.size)) 5 (.string op) rfl
            have d6 := fun x : BW ((wr.alloc (.cells #[.int .i64 k0, .int .i64 n0, .string s0, .int .i64 a0, .int .i64 m0] 50)).alloc (.cells #[.int .i64 k1, .int .i64 n1, .string s1, .int .i64 a1, .int .i64 m1] 50)) => HH.out x.val (HB2.out.trans (x.prop.mono HB2.out.size)) 6 (.slice ka ks.length kc) rfl
            have b5 := fun x : BW ((wr.alloc (.cells #[.int .i64 k0, .int .i64 n0, .string s0, .int .i64 a0, .int .i64 m0] 50)).alloc (.cells #[.int .i64 k1, .int .i64 n1, .string s1, .int .i64 a1, .int .i64 m1] 50)) => HH'.out x.val (HB2.out.trans (x.prop.mono HB2.out.size)) 5 (.string oq) rfl
            have b6 := fun x : BW ((wr.alloc (.cells #[.int .i64 k0, .int .i64 n0, .string s0, .int .i64 a0, .int .i64 m0] 50)).alloc (.cells #[.int .i64 k1, .int .i64 n1, .string s1, .int .i64 a1, .int .i64 m1] 50)) => HH'.out x.val (HB2.out.trans (x.prop.mono HB2.out.size)) 6 (.slice ka' kt.length kc') rfl
            refine region_below (by kernel_rfl) (by kernel_rfl) ?_
            repeat (go_big_quiet_step (fail))
            refine wpQuiet_nil ?_
            rintro _ ⟨⟨w3, b3⟩, rfl⟩
            have B3 := Lib.hid (HB2.out.trans (b3.mono HB2.out.size))
            clear d5 d6 b5 b6 b3
            go_wp2_with fail
            exact bodyPost_ret (v := .bool false) (by simp [results, Tryz.results14, go_sem]) rfl ⟨by rw [HRES.out], B3.out⟩
          obtain ⟨r1, r2⟩ := str_eq h5
          have hre2 : (sameL false ks kt && sameL false (a.drop (k + 1)) (b.drop (k + 1))) = sameL false a b := by rw [← hres]; simp [h0, h1, h2, h3, h4, h5]
          clear hres hsf h5 h0 h1 h2 h3 h4
          generalize sameL false ks kt = rr at hre2 HCK
          have HRE := Lib.hid hre2
          clear hre2
          cases rr with
          | false =>
            have HRES : Hid (sameL false a b = false) := Lib.hid (by rw [← HRE.out]; rfl)
            go_wp2_with fail
            have d5 := fun x : BW ((wr.alloc (.cells #[.int .i64 k0, .int .i64 n0, .string s0, .int .i64 a0, .int .i64 m0] 50)).alloc (.cells #[.int .i64 k1, .int .i64 n1, .string s1, .int .i64 a1, .int .i64 m1] 50)) => HH.out x.val (HB2.out.trans (x.prop.mono HB2.out.size)) 5 (.string op) rfl
            have d6 := fun x : BW ((wr.alloc (.cells #[.int .i64 k0, .int .i64 n0, .string s0, .int .i64 a0, .int .i64 m0] 50)).alloc (.cells #[.int .i64 k1, .int .i64 n1, .string s1, .int .i64 a1, .int .i64 m1] 50)) => HH.out x.val (HB2.out.trans (x.prop.mono HB2.out.size)) 6 (.slice ka ks.length kc) rfl
            have b5 := fun x : BW ((wr.alloc (.cells #[.int .i64 k0, .int .i64 n0, .string s0, .int .i64 a0, .int .i64 m0] 50)).alloc (.cells #[.int .i64 k1, .int .i64 n1, .string s1, .int .i64 a1, .int .i64 m1] 50)) => HH'.out x.val (HB2.out.trans (x.prop.mono HB2.out.size)) 5 (.string oq) rfl
            have b6 := fun x : BW ((wr.alloc (.cells #[.int .i64 k0, .int .i64 n0, .string s0, .int .i64 a0, .int .i64 m0] 50)).alloc (.cells #[.int .i64 k1, .int .i64 n1, .string s1, .int .i64 a1, .int .i64 m1] 50)) => HH'.out x.val (HB2.out.trans (x.prop.mono HB2.out.size)) 6 (.slice ka' kt.length kc') rfl
            have HCX := Lib.hid (fun x : BW ((wr.alloc (.cells #[.int .i64 k0, .int .i64 n0, .string s0, .int .i64 a0, .int .i64 m0] 50)).alloc (.cells #[.int .i64 k1, .int .i64 n1, .string s1, .int .i64 a1, .int .i64 m1] 50)) => HCK.out x.val (HKV.out.below (HB2.out.trans (x.prop.mono HB2.out.size))) (HKV'.out.below (HB2.out.trans (x.prop.mono HB2.out.size))))
            refine region_below (by kernel_rfl) (by kernel_rfl) ?_
            repeat (go_big_quiet_step ((go_at_call 14; exact calls_bw (HCX.out _))))
            refine wpQuiet_nil ?_
            rintro _ ⟨⟨w3, b3⟩, rfl⟩
            have B3 := Lib.hid (HB2.out.trans (b3.mono HB2.out.size))
            clear d5 d6 b5 b6 b3
            go_wp2_with fail
            exact bodyPost_ret (v := .bool false) (by simp [results, Tryz.results14, go_sem]) rfl ⟨by rw [HRES.out], B3.out⟩
          | true =>
            go_wp2_with fail
            have d5 := fun x : BW ((wr.alloc (.cells #[.int .i64 k0, .int .i64 n0, .string s0, .int .i64 a0, .int .i64 m0] 50)).alloc (.cells #[.int .i64 k1, .int .i64 n1, .string s1, .int .i64 a1, .int .i64 m1] 50)) => HH.out x.val (HB2.out.trans (x.prop.mono HB2.out.size)) 5 (.string op) rfl
            have d6 := fun x : BW ((wr.alloc (.cells #[.int .i64 k0, .int .i64 n0, .string s0, .int .i64 a0, .int .i64 m0] 50)).alloc (.cells #[.int .i64 k1, .int .i64 n1, .string s1, .int .i64 a1, .int .i64 m1] 50)) => HH.out x.val (HB2.out.trans (x.prop.mono HB2.out.size)) 6 (.slice ka ks.length kc) rfl
            have b5 := fun x : BW ((wr.alloc (.cells #[.int .i64 k0, .int .i64 n0, .string s0, .int .i64 a0, .int .i64 m0] 50)).alloc (.cells #[.int .i64 k1, .int .i64 n1, .string s1, .int .i64 a1, .int .i64 m1] 50)) => HH'.out x.val (HB2.out.trans (x.prop.mono HB2.out.size)) 5 (.string oq) rfl
            have b6 := fun x : BW ((wr.alloc (.cells #[.int .i64 k0, .int .i64 n0, .string s0, .int .i64 a0, .int .i64 m0] 50)).alloc (.cells #[.int .i64 k1, .int .i64 n1, .string s1, .int .i64 a1, .int .i64 m1] 50)) => HH'.out x.val (HB2.out.trans (x.prop.mono HB2.out.size)) 6 (.slice ka' kt.length kc') rfl
            have HCX := Lib.hid (fun x : BW ((wr.alloc (.cells #[.int .i64 k0, .int .i64 n0, .string s0, .int .i64 a0, .int .i64 m0] 50)).alloc (.cells #[.int .i64 k1, .int .i64 n1, .string s1, .int .i64 a1, .int .i64 m1] 50)) => HCK.out x.val (HKV.out.below (HB2.out.trans (x.prop.mono HB2.out.size))) (HKV'.out.below (HB2.out.trans (x.prop.mono HB2.out.size))))
            refine region_below (by kernel_rfl) (by kernel_rfl) ?_
            repeat (go_big_quiet_step ((go_at_call 14; exact calls_bw (HCX.out _))))
            refine wpQuiet_nil ?_
            rintro _ ⟨⟨w3, b3⟩, rfl⟩
            have B3 := Lib.hid (HB2.out.trans (b3.mono HB2.out.size))
            clear d5 d6 b5 b6 b3
            go_wp2_with fail
            exact ⟨⟨k + 1, by simp, Lib.hid ⟨by omega, by rw [← HRE.out]; rfl, B3.out⟩⟩, by simp only [intOf]; omega⟩
      · have hlt' : ((k : Int) < (a.length : Int)) = False := by simp; omega
        have HRES : Hid (sameL lo a b = true) := Lib.hid (by rw [← hres, List.drop_eq_nil_of_le (by omega), List.drop_eq_nil_of_le (by omega)]; unfold sameL; rfl)
        have HBE := Lib.hid hbe
        clear hr hres hbe
        go_wp2_with fail
        exact bodyPost_ret (v := .bool true) (by simp [results, Tryz.results14, go_sem]) rfl ⟨by rw [HRES.out], HBE.out⟩
end

section
open Go.RowKit

theorem FgsLe.append {B : Nat} : ∀ {a b : List Fg}, FgsLe B a → FgsLe B b → FgsLe B (a ++ b)
  | [], b, _, hb => hb
  | x :: r, b, ha, hb => by
    rw [List.cons_append]
    unfold FgsLe at ha ⊢
    exact ⟨ha.1, ha.2.append hb⟩
theorem FgsLe.one {B : Nat} {x : Fg} (h : FgLe B x) : FgsLe B [x] := by
  unfold FgsLe
  exact ⟨h, by unfold FgsLe; trivial⟩
theorem FgsLe.none (B : Nat) : FgsLe B [] := by unfold FgsLe; trivial
def GpLe (B : Nat) (g : Gp) : Prop := g.kids.length ≤ B ∧ FgsLe B g.kids
theorem GpLe.up {B B' : Nat} (hb : B ≤ B') {g : Gp} (h : GpLe B g) : GpLe B' g := ⟨Nat.le_trans h.1 hb, fgsLe_up hb h.2⟩
theorem GpLe.add {B : Nat} {g : Gp} {f : Fg} (h : GpLe B g) (hf : FgLe B f) : GpLe (B + 1) (g.add f) :=
  ⟨by have := h.1; simp only [Gp.add, List.length_append, List.length_cons, List.length_nil]; omega, (fgsLe_up (by omega) h.2).append (.one (fgLe_mono (by omega) hf))⟩
/-- What Read returns, in one form. -/
def outM (r : Except (Nat × Nat) (List Fg)) : List Fg × Nat × Nat := match r with
  | .ok L => (L, 0, 0)
  | .error p => ([], p.1, p.2)
theorem ReadPost.out {l : List Tkn} {ws : List ByteArray} {W w' : World} {e : Ending} (h : ReadPost l ws W e w') : Below W.heap.size W w' ∧
    ∃ b cap, e = .returned (.tuple #[.slice b (outM (readM tokOk isPlainB l ws)).1.length cap, .int .i64 ((outM (readM tokOk isPlainB l ws)).2.1 : Int), .int .i64 ((outM (readM tokOk isPlainB l ws)).2.2 : Int)]) ∧
      FVal w' (fun g => W.heap.size ≤ g) (.slice b (outM (readM tokOk isPlainB l ws)).1.length cap) (outM (readM tokOk isPlainB l ws)).1 := by
  obtain ⟨hb, ⟨a, c, h1, h2⟩ | ⟨L, b, cap, h1, h2, h3⟩⟩ := h
  · rw [h1]
    exact ⟨hb, none, 0, h2, FVal.nil _ _ _ _⟩
  · rw [h1]
    exact ⟨hb, b, cap, h2, h3⟩
/-- The tokens with other places and marks. -/
def markT (mk : Nat) (i : Nat) (t : Tkn) : Tkn := if 0 ≤ t.2.2.2.1 ∧ 0 ≤ t.2.2.2.2 then (t.1, t.2.1, t.2.2.1, (i : Int), (mk : Int)) else t
structure MkRow (mk : Nat) (l : List Tkn) (k : Nat) (M : List Tkn) : Prop where
  len : M.length = k
  at' : ∀ i x, i < k → l[i]? = some x → M[i]? = some (markT mk i x)
theorem MkRow.nil (mk : Nat) (l : List Tkn) : MkRow mk l 0 [] := ⟨rfl, fun i x h => absurd h (by omega)⟩
end

section
open Go.RowKit

theorem kids_lt {x : Fg} {a : List Fg} (h : x ∈ a) : SizeOf.sizeOf x.kids < SizeOf.sizeOf a := by
  have h1 := List.sizeOf_lt_of_mem h
  obtain ⟨t, o, ks⟩ := x
  simp only [Fg.kids]
  simp only [Fg.mk.sizeOf_spec] at h1
  omega
theorem FgsLe.mem {B : Nat} {l : List Fg} (h : FgsLe B l) {x : Fg} (hx : x ∈ l) : x.kids.length ≤ B ∧ FgsLe B x.kids := by
  obtain ⟨k, hk⟩ := List.mem_iff_getElem?.1 hx
  exact h.get hk
theorem alike_any (lo : Bool) (P P' : Nat → Prop) : ∀ (a b : List Fg) (va vb : Value) (W : World), FVal W P va a → FVal W P' vb b → a.length ≤ 140737488351232 → FgsLe 140737488351232 a → Calls Tryz.prog 14 #[va, vb, .bool lo] W (AlPost (sameL lo a b) W)
  | a, b, va, vb, W, h1, h2, h3, h4 => alike_run lo P P' a b va vb W h1 h2 h3 fun x hx ks' kv kv' w k1 k2 =>
    have := kids_lt hx
    alike_any lo P P' x.kids ks' kv kv' w k1 k2 (h4.mem hx).1 (h4.mem hx).2
termination_by a => SizeOf.sizeOf a
end

end Go.Proofs.YtafncodigpjkaaaGreatDoor
