/-
  The law's signed.
  At.
-/
import Derived.Test.YtafncodigpjkaaaGreatDoorFJ2
import Derived.Test.YtafncodigpjkaaaGreatDoorFJ4
namespace Go.Proofs.YtafncodigpjkaaaGreatDoor
section
open Go.RowKit

set_option maxRecDepth 100000 in
set_option maxHeartbeats 8000000 in
theorem signed_any (P : Nat → Prop) (l : List Fg) (v : Value) (s : ByteArray) (W : World) (hv : FVal W P v l) (hl : l.length ≤ 140737488351232) :
    Calls Tryz.prog 37 #[v, .string s] W fun e w' => e = .returned (.bool (signedM s l)) ∧ Below W.heap.size W w' := by
  obtain ⟨b, c, rfl, hrow⟩ := hv
  have HR := Lib.hid hrow
  clear hrow
  go_enter Tryz.func37, Tryz.ntmps37
  go_wp2_with fail
  go_loopw [5] (fun iv wr => ∃ k : Nat, iv = .int .i64 (k : Int) ∧ Hid (k ≤ l.length ∧ signedM s (l.drop k) = signedM s l ∧ Below W.heap.size W wr)) (fun iv _ => l.length - (intOf iv).toNat)
  case atStart => exact ⟨0, rfl, Lib.hid ⟨Nat.zero_le _, by rw [List.drop_zero], Below.refl _ _⟩⟩
  case round =>
    obtain ⟨k, rfl, hr⟩ := hrel
    obtain ⟨hk, hres, hbe⟩ := hr.out
    have w3' : IntKind.i64.wrap ((k : Int) + 1) = (k : Int) + 1 := IntWalk.i64_in _ (by omega)
    by_cases hlt : k < l.length
    · obtain ⟨x, hx⟩ : ∃ x, l[k]? = some x := ⟨_, List.getElem?_eq_getElem hlt⟩
      obtain ⟨g, o, rfl, hp, hg, hrw⟩ := HR.out (by rintro rfl; simp at hlt)
      obtain ⟨kv, hcell, ka, kc, rfl, hkr⟩ := (hrw.get hx).parts
      rw [signed_at hx] at hres
      have hcell' : ∀ j u, (fgV x (.slice ka x.kids.length kc))[j]? = some u → wr.cell? ⟨g, o + k * 7 + j, none⟩ = some u := fun j u hu => (hbe.cell (p := ⟨g, o + k * 7 + j, none⟩) hg).trans (hcell j u hu)
      have e0 : wr.cell? ⟨g, o + k * 7, none⟩ = some (.int .i64 x.tok.1) := hcell' 0 _ rfl
      have e1 : wr.cell? ⟨g, o + k * 7 + 1, none⟩ = some (.int .i64 x.tok.2.1) := hcell' 1 _ rfl
      have e2 : wr.cell? ⟨g, o + k * 7 + 2, none⟩ = some (.string x.tok.2.2.1) := hcell' 2 _ rfl
      have e5 : wr.cell? ⟨g, o + k * 7 + 5, none⟩ = some (.string x.opn) := hcell' 5 _ rfl
      have e6 : wr.cell? ⟨g, o + k * 7 + 6, none⟩ = some (.slice ka x.kids.length kc) := hcell' 6 _ rfl
      have hlt' : (k : Int) < (l.length : Int) := by omega
      have HBE := Lib.hid hbe
      have his : isS s x = (decide (x.opn = sNo) && (decide (x.tok.1 = 5) && decide (x.tok.2.2.1 = s))) := rfl
      rw [his] at hres
      clear hr hcell hcell' hbe hrw hx hkr his
      generalize x.tok.1 = k0 at *
      generalize x.tok.2.1 = n0 at *
      generalize x.tok.2.2.1 = s0 at *
      generalize x.opn = op at *
      obtain ⟨m, hm⟩ : ∃ m, m = x.kids.length := ⟨_, rfl⟩
      rw [← hm] at e6 hres
      clear hm
      by_cases q1 : op = sNo
      rotate_left
      · have z1 := (lit_ne [] q1).1
        have HS : Hid (signedM s (l.drop (k + 1)) = signedM s l) := Lib.hid (by rw [← hres, decide_eq_false q1]; rfl)
        clear q1 hres
        go_wp2_with fail
        exact ⟨⟨k + 1, by simp, Lib.hid ⟨by omega, HS.out, HBE.out⟩⟩, by simp only [intOf]; omega⟩
      have z1 := (lit_eq [] q1).1
      by_cases q2 : k0 = 5
      rotate_left
      · have z2 := (ne_int q2).1
        have HS : Hid (signedM s (l.drop (k + 1)) = signedM s l) := Lib.hid (by rw [← hres, decide_eq_false q2]; simp)
        clear q1 q2 hres
        go_wp2_with fail
        exact ⟨⟨k + 1, by simp, Lib.hid ⟨by omega, HS.out, HBE.out⟩⟩, by simp only [intOf]; omega⟩
      by_cases q3 : s0 = s
      rotate_left
      · have z3 := (str_ne q3).1
        have HS : Hid (signedM s (l.drop (k + 1)) = signedM s l) := Lib.hid (by rw [← hres, decide_eq_false q3]; simp)
        subst q2
        clear q1 q3 hres
        go_wp2_with fail
        exact ⟨⟨k + 1, by simp, Lib.hid ⟨by omega, HS.out, HBE.out⟩⟩, by simp only [intOf]; omega⟩
      by_cases q4 : n0 = 0
      rotate_left
      · obtain ⟨z4, z5⟩ := ne_int q4
        have HS : Hid (signedM s l = true) := Lib.hid (by rw [← hres, decide_eq_true q1, decide_eq_true q2, decide_eq_true q3, decide_eq_false q4]; rfl)
        subst q2
        subst q3
        clear q1 q4 hres
        go_wp2_with fail
        exact bodyPost_ret (v := .bool true) (by simp [results, Tryz.results37, go_sem]) rfl ⟨by rw [HS.out], HBE.out⟩
      by_cases q5 : m = 0
      rotate_left
      · have z6 : (0 : Int) < (m : Int) := by omega
        have HS : Hid (signedM s l = true) := Lib.hid (by rw [← hres, decide_eq_true q1, decide_eq_true q2, decide_eq_true q3, decide_eq_false q5]; simp)
        subst q2
        subst q3
        subst q4
        clear q1 q5 hres
        go_wp2_with fail
        exact bodyPost_ret (v := .bool true) (by simp [results, Tryz.results37, go_sem]) rfl ⟨by rw [HS.out], HBE.out⟩
      · have HS : Hid (signedM s (l.drop (k + 1)) = signedM s l) := Lib.hid (by rw [← hres, decide_eq_true q4, decide_eq_true q5]; simp)
        subst q2
        subst q3
        subst q4
        subst q5
        clear q1 hres
        go_wp2_with fail
        exact ⟨⟨k + 1, by simp, Lib.hid ⟨by omega, HS.out, HBE.out⟩⟩, by simp only [intOf]; omega⟩
    · have hlt' : ((k : Int) < (l.length : Int)) = False := by simp; omega
      have HS : Hid (signedM s l = false) := Lib.hid (by rw [← hres, List.drop_eq_nil_of_le (by omega)]; rfl)
      have HBE := Lib.hid hbe
      clear hr hres hbe
      go_wp2_with fail
      exact bodyPost_ret (v := .bool false) (by simp [results, Tryz.results37, go_sem]) rfl ⟨by rw [HS.out], HBE.out⟩
end

section
open Go.RowKit

theorem end_at : ∀ {l : List Fg} {p : List Int} {ls : List (List Fg)}, walkP l p = some ls → ∀ {k : Nat} {i : Int} {lk : List Fg}, k + 1 = p.length → p[k]? = some i → ls[k]? = some lk → endP l p = getI lk i
  | l, [], ls, h, k, i, lk, hk, _, _ => by simp at hk
  | l, i0 :: p, ls, h, k, i, lk, hk, hi, hl => by
    unfold walkP at h
    unfold endP
    cases hg : getI l i0 with
    | none => rw [hg] at h; cases h
    | some y =>
      rw [hg] at h
      simp only at h ⊢
      cases hw : walkP y.kids p with
      | none => rw [hw] at h; cases h
      | some m =>
        rw [hw] at h
        cases h
        cases k with
        | zero =>
          have hp : p = [] := List.length_eq_zero_iff.1 (by simpa using hk.symm)
          cases hi; cases hl
          rw [if_pos hp, hg]
        | succ k =>
          have hp : p ≠ [] := by rintro rfl; simp at hk
          rw [if_neg hp]
          exact end_at hw (k := k) (by simpa using hk) hi hl
/-- The cells of a box of seven that are written. -/
theorem seven_end {w : World} {p : Nat} {x0 x1 x2 x3 x4 x5 x6 : Value} {ty : TypeId} (he : w.heap[p]? = some (.cells #[x0, x1, x2, x3, x4, x5, x6] ty)) (y0 y1 y2 y3 y4 y5 y6 : Value) :
    ((((((((w.setCell ⟨p, 0, none⟩ y0).setCell ⟨p, 1, none⟩ y1).setCell ⟨p, 2, none⟩ y2).setCell ⟨p, 3, none⟩ y3).setCell ⟨p, 4, none⟩ y4).setCell ⟨p, 5, none⟩ y5).setCell ⟨p, 6, none⟩ y6)).heap[p]? = some (.cells #[y0, y1, y2, y3, y4, y5, y6] ty) := by
  simp [World.setCell, Array.getElem?_modify, he]
theorem seven_cells {w : World} {p : Nat} {x0 x1 x2 x3 x4 x5 x6 : Value} {ty : TypeId} (he : w.heap[p]? = some (.cells #[x0, x1, x2, x3, x4, x5, x6] ty)) :
    w.cell? ⟨p, 0, none⟩ = some x0 ∧ w.cell? ⟨p, 1, none⟩ = some x1 ∧ w.cell? ⟨p, 2, none⟩ = some x2 ∧ w.cell? ⟨p, 3, none⟩ = some x3 ∧ w.cell? ⟨p, 4, none⟩ = some x4 ∧ w.cell? ⟨p, 5, none⟩ = some x5 ∧ w.cell? ⟨p, 6, none⟩ = some x6 ∧ ∀ j, w.frozen? ⟨p, j, none⟩ = false :=
  ⟨fcell_at he, fcell_at he, fcell_at he, fcell_at he, fcell_at he, fcell_at he, fcell_at he, fun j => by simp [World.frozen?, he]⟩
theorem seven_keep (w : World) (p : Nat) (y0 y1 y2 y3 y4 y5 y6 : Value) : KeepS (fun b => b = p) w (((((((w.setCell ⟨p, 0, none⟩ y0).setCell ⟨p, 1, none⟩ y1).setCell ⟨p, 2, none⟩ y2).setCell ⟨p, 3, none⟩ y3).setCell ⟨p, 4, none⟩ y4).setCell ⟨p, 5, none⟩ y5).setCell ⟨p, 6, none⟩ y6) :=
  (((((((KeepS.refl (fun b => b = p) w).setCell rfl _ _).setCell rfl _ _).setCell rfl _ _).setCell rfl _ _).setCell rfl _ _).setCell rfl _ _).setCell rfl _ _
theorem six_set {w : World} {p : Nat} {x0 x1 x2 x3 x4 x5 x6 y : Value} {ty : TypeId} (he : w.heap[p]? = some (.cells #[x0, x1, x2, x3, x4, x5, x6] ty)) : (w.setCell ⟨p, 6, none⟩ y).heap[p]? = some (.cells #[x0, x1, x2, x3, x4, x5, y] ty) := by
  simp [World.setCell, Array.getElem?_modify, he]
def AtPost (l : List Fg) (p : List Int) (W : World) (e : Ending) (w' : World) : Prop :=
  Below W.heap.size W w' ∧ ((alongM l p = none ∧ e = .returned (.tuple #[.agg #[.int .i64 0, .int .i64 0, .string ⟨#[]⟩, .int .i64 0, .int .i64 0, .string ⟨#[]⟩, .slice none 0 0], .int .i64 3])) ∨
    (∃ ls, alongM l p = some ls) ∧ ∃ x kv, endP l p = some x ∧ e = .returned (.tuple #[.agg (fgV x kv).toArray, .int .i64 0]) ∧ FVal w' (fun _ => True) kv x.kids)
theorem IntRow.below {w w' : World} {v : Value} {p : List Int} (h : IntRow w v p) (hb : Below w.heap.size w w') : IntRow w' v p := by
  obtain ⟨b, c, rfl, hr⟩ := h
  refine ⟨b, c, rfl, fun hne => ?_⟩
  obtain ⟨g, o, e, z, hc⟩ := hr hne
  exact ⟨g, o, e, by have := hb.size; omega, fun k i hk => (hb.cell (p := ⟨g, o + k, none⟩) z).trans (hc k i hk)⟩
set_option maxRecDepth 100000 in
set_option maxHeartbeats 8000000 in
theorem At_any (P : Nat → Prop) (l : List Fg) (a : Option Addr) (n c : Nat) (v : Value) (p : List Int) (W : World) (hv : FVal W P (.slice a n c) l) (hc : ValC W (.slice a n c) l) (hp : IntRow W v p) (hpl : p.length ≤ 1048576)
    (h1 : l.length ≤ 3000000) (h2 : FgsLe 3000000 l) : Calls Tryz.prog 33 #[.slice a n c, v] W (AtPost l p W) := by
  obtain ⟨Z, hZ⟩ : ∃ Z : Obj, Z = .cells #[.int .i64 0, .int .i64 0, .string ⟨#[]⟩, .int .i64 0, .int .i64 0, .string ⟨#[]⟩, .slice none 0 0] 52 := ⟨_, rfl⟩
  have hb0 : Below W.heap.size W (W.alloc Z) := (Below.refl _ _).alloc (Nat.le_refl _) _
  have HAL := Lib.hid (along_any P l a n c v p (W.alloc Z) (hv.below hb0) (hc.keep hv (fun b _ z => hb0.block b z)) (hp.below hb0) (by omega))
  have hbz := heap_alloc_new W Z
  have hsz : (W.alloc Z).heap.size = W.heap.size + 1 := by simp
  obtain ⟨w0, hw0⟩ : ∃ w0, w0 = W.alloc Z := ⟨_, rfl⟩
  rw [← hw0] at HAL hb0 hbz hsz
  have HB0 := Lib.hid hb0
  have HBZ := Lib.hid hbz
  have HSZ := Lib.hid hsz
  have hp0 := hp.below hb0
  obtain ⟨pb, pc, rfl, hrow⟩ := hp0
  have HR := Lib.hid hrow
  have H12 := Lib.hid (And.intro h1 h2)
  clear hv hc hrow hb0 hbz hsz h1 h2 hp
  go_enter Tryz.func33, Tryz.ntmps33
  rw [hZ] at hw0
  go_wp2_with fail
  rw [← hw0]
  have HZ := Lib.hid hZ
  clear hw0 hZ
  refine HAL.out.mono ?_
  rintro e w1 ⟨hb1, ⟨hno, rfl⟩ | ⟨ls, lv, hyes, rfl, hlv⟩⟩
  · have hbx : w1.heap[W.heap.size]? = some Z := (hb1.block _ (by have := HSZ.out; omega)).trans HBZ.out
    rw [HZ.out] at hbx
    obtain ⟨c0, c1, c2, c3, c4, c5, c6, cf⟩ := seven_cells hbx
    have HE := Lib.hid (seven_end hbx (.int .i64 0) (.int .i64 0) (.string ⟨#[]⟩) (.int .i64 0) (.int .i64 0) (.string ⟨#[]⟩) (.slice none 0 0))
    have HK := Lib.hid (seven_keep w1 W.heap.size (.int .i64 0) (.int .i64 0) (.string ⟨#[]⟩) (.int .i64 0) (.int .i64 0) (.string ⟨#[]⟩) (.slice none 0 0))
    have HB := Lib.hid (HB0.out.trans (hb1.mono HB0.out.size))
    have HN := Lib.hid hno
    clear hb1 hno HAL hbx
    go_wp2_with fail
    obtain ⟨d0, d1, d2, d3, d4, d5, d6, _⟩ := seven_cells HE.out
    refine bodyPost_ret (v := .tuple #[.agg #[.int .i64 0, .int .i64 0, .string ⟨#[]⟩, .int .i64 0, .int .i64 0, .string ⟨#[]⟩, .slice none 0 0], .int .i64 3]) ?_ rfl ⟨HB.out.trans (HK.out.below (fun k e => Nat.le_of_eq e.symm) HB.out.size), .inl ⟨HN.out, rfl⟩⟩
    simp [results, Tryz.results33, go_sem, d0, d1, d2, d3, d4, d5, d6]
  · have hne : p ≠ [] := by rintro rfl; unfold alongM at hyes; rw [if_pos rfl] at hyes; cases hyes
    have hwk : walkP l p = some ls := by unfold alongM at hyes; rwa [if_neg hne] at hyes
    have hlen := walk_len hwk
    obtain ⟨k, hk⟩ : ∃ k, p.length = k + 1 := ⟨p.length - 1, by have : p.length ≠ 0 := fun h => hne (List.length_eq_zero_iff.1 h); omega⟩
    obtain ⟨gp, op, rfl, hgp, hps⟩ := HR.out hne
    obtain ⟨al, cl, rfl, hlr⟩ := hlv
    obtain ⟨gl, ol, rfl, hgl, hls⟩ := hlr (by rintro rfl; simp at hlen; omega)
    obtain ⟨i, hi⟩ : ∃ i, p[k]? = some i := ⟨_, List.getElem?_eq_getElem (by omega)⟩
    obtain ⟨lk, x, hlk, hx, _, _⟩ := walk_get hwk hi
    have hend : endP l p = some x := (end_at hwk hk.symm hi hlk).trans hx
    obtain ⟨q, rfl, hq, hqx⟩ := getI_some hx
    obtain ⟨u, hu, ⟨ua, uc, rfl, hur⟩, huc⟩ := hls k lk hlk
    obtain ⟨g', o', rfl, hPg, hg', hrw'⟩ := hur (by rintro rfl; simp at hq)
    obtain ⟨kv', hcell', ka', kc', rfl, hkr'⟩ := (hrw'.get hqx).parts
    have hkk : x.kids.length ≤ 3000000 ∧ FgsLe 3000000 x.kids := by
      have hg : ∀ {l : List Fg} {p : List Int}, FgsLe 3000000 l → endP l p = some x → x.kids.length ≤ 3000000 ∧ FgsLe 3000000 x.kids := by
        intro l p
        induction p generalizing l with
        | nil => intro _ h; simp [endP] at h
        | cons j p ih =>
          intro hle h
          unfold endP at h
          cases hg : getI l j with
          | none => rw [hg] at h; cases h
          | some y =>
            rw [hg] at h
            simp only at h
            obtain ⟨_, _, _, hy⟩ := getI_some hg
            split at h
            · cases h; exact hle.get hy
            · exact ih (hle.get hy).2 h
      exact hg H12.out.2 hend
    have hcw : ∀ j u, (fgV x (.slice ka' x.kids.length kc'))[j]? = some u → w1.cell? ⟨g', o' + q * 7 + j, none⟩ = some u := fun j u hu => (hb1.cell (p := ⟨g', o' + q * 7 + j, none⟩) hg').trans (hcell' j u hu)
    have e0 : w1.cell? ⟨gl, ol + k, none⟩ = some (.slice (some ⟨g', o', none⟩) lk.length uc) := hu
    have e1 : w1.cell? ⟨gp, op + k, none⟩ = some (.int .i64 (q : Int)) := (hb1.cell (p := ⟨gp, op + k, none⟩) hgp).trans (hps k _ hi)
    have c0 : w1.cell? ⟨g', o' + q * 7, none⟩ = some (.int .i64 x.tok.1) := hcw 0 _ rfl
    have c1 : w1.cell? ⟨g', o' + q * 7 + 1, none⟩ = some (.int .i64 x.tok.2.1) := hcw 1 _ rfl
    have c2 : w1.cell? ⟨g', o' + q * 7 + 2, none⟩ = some (.string x.tok.2.2.1) := hcw 2 _ rfl
    have c3 : w1.cell? ⟨g', o' + q * 7 + 3, none⟩ = some (.int .i64 x.tok.2.2.2.1) := hcw 3 _ rfl
    have cc4 : w1.cell? ⟨g', o' + q * 7 + 4, none⟩ = some (.int .i64 x.tok.2.2.2.2) := hcw 4 _ rfl
    have c5 : w1.cell? ⟨g', o' + q * 7 + 5, none⟩ = some (.string x.opn) := hcw 5 _ rfl
    have c6 : w1.cell? ⟨g', o' + q * 7 + 6, none⟩ = some (.slice ka' x.kids.length kc') := hcw 6 _ rfl
    have z1 : g' < w1.heap.size := by have := hb1.size; omega
    have z2 : gl < w1.heap.size := hgl
    have z3 : gp < w1.heap.size := by have := hb1.size; omega
    have hql : (q : Int) < (lk.length : Int) := by omega
    have hkl : (k : Int) < (k : Int) + 1 := by omega
    have wm : IntKind.i64.wrap (k : Int) = (k : Int) := IntWalk.i64_in _ (by omega)
    have wm2 : IntKind.i64.wrap ((k : Int) + 1 - 1) = (k : Int) := by rw [show (k : Int) + 1 - 1 = (k : Int) by omega]; exact wm
    have hkf : FVal w0 P (.slice ka' x.kids.length kc') x.kids := ⟨_, _, rfl, hkr'⟩
    have HCP := Lib.hid (fun w (hb : Below w1.heap.size w1 w) => copied_any P x.kids (.slice ka' x.kids.length kc') w (hkf.below (hb1.trans (hb.mono hb1.size))) (by omega) (hkk.2.mono (by omega)))
    have HB1 := Lib.hid (HB0.out.trans (hb1.mono HB0.out.size))
    have HBX : Hid (w1.heap[W.heap.size]? = some Z) := Lib.hid ((hb1.block _ (by have := HSZ.out; omega)).trans HBZ.out)
    have HLT : Hid (W.heap.size < w1.heap.size) := Lib.hid (by have := hb1.size; have := HSZ.out; omega)
    have HEND := Lib.hid hend
    have HYES := Lib.hid hyes
    have HXX : Hid (∀ kv, fgV x kv = [.int .i64 x.tok.1, .int .i64 x.tok.2.1, .string x.tok.2.2.1, .int .i64 x.tok.2.2.2.1, .int .i64 x.tok.2.2.2.2, .string x.opn, kv]) := Lib.hid (fun kv => rfl)
    rw [hlen, hk]
    clear hb1 hyes hne hwk hlen hlr hls hi hlk hx hend hqx hu hur huc hrw' hcell' hkr' hkk hcw hkf hps hq hgl hgp hg' HAL HR HSZ
    generalize x.tok.1 = y0 at *
    generalize x.tok.2.1 = y1 at *
    generalize x.tok.2.2.1 = y2 at *
    generalize x.tok.2.2.2.1 = y3 at *
    generalize x.tok.2.2.2.2 = y4 at *
    generalize x.opn = y5 at *
    obtain ⟨y6, hy6⟩ : ∃ y6, y6 = x.kids.length := ⟨_, rfl⟩
    rw [← hy6] at c6 HCP
    have HY6 := Lib.hid hy6
    clear hy6
    go_wp2_with fail
    go_region_law (fail)
    all_goals clear c0 c1 c2 c3 cc4 c5 c6 e0 e1
    all_goals go_wp2_with fail
    all_goals
      refine (HCP.out _ (((Below.refl w1.heap.size w1).alloc (Nat.le_refl _) _).drew)).mono ?_
      rintro e w6 ⟨_, rfl, ⟨a6, c6, rfl, hr6⟩, hb6, _⟩
      have hv6 : FVal w6 (fun _ => True) (.slice a6 x.kids.length c6) x.kids := FVal.keep (w := w6) (P := fun b => _ ≤ b) ⟨a6, c6, rfl, hr6⟩ (fun _ _ _ => ⟨trivial, rfl⟩) (Nat.le_refl _)
      rw [← HY6.out] at hv6 ⊢
      have hz6 : w1.heap.size + 1 ≤ w6.heap.size := by have := hb6.size; simp at this; exact this
      have hx6 : w6.heap[w1.heap.size]? = some (.cells #[.int .i64 y0, .int .i64 y1, .string y2, .int .i64 y3, .int .i64 y4, .string y5, .slice ka' y6 kc'] 52) := (hb6.block w1.heap.size (by simp)).trans (heap_alloc_new w1 _)
      have hx0 : w6.heap[W.heap.size]? = some Z := (hb6.block W.heap.size (by have := HLT.out; simp; omega)).trans ((Below.heap_alloc _ _ _ HLT.out).trans HBX.out)
      have hB6 : Below w1.heap.size w1 w6 := (((Below.refl w1.heap.size w1).alloc (Nat.le_refl _) _).drew).trans (hb6.mono (by simp))
      have hx7 := six_set (y := .slice a6 y6 c6) hx6
      have hx07 : (w6.setCell ⟨w1.heap.size, 6, none⟩ (.slice a6 y6 c6)).heap[W.heap.size]? = some Z := (Below.heap_setCell _ _ _ _ (by have := HLT.out; show W.heap.size ≠ w1.heap.size; omega)).trans hx0
      have hB7 : Below w1.heap.size w1 (w6.setCell ⟨w1.heap.size, 6, none⟩ (.slice a6 y6 c6)) := hB6.setCell (p := ⟨w1.heap.size, 6, none⟩) (Nat.le_refl _) _
      rw [HZ.out] at hx07
      obtain ⟨d0, d1, d2, d3, d4, d5, d6, df⟩ := seven_cells hx6
      obtain ⟨f0, f1, f2, f3, f4, f5, f6, _⟩ := seven_cells hx7
      obtain ⟨g0, g1, g2, g3, g4, g5, g6, gf⟩ := seven_cells hx07
      have HE := Lib.hid (seven_end hx07 (.int .i64 y0) (.int .i64 y1) (.string y2) (.int .i64 y3) (.int .i64 y4) (.string y5) (.slice a6 y6 c6))
      have HK := Lib.hid (seven_keep (w6.setCell ⟨w1.heap.size, 6, none⟩ (.slice a6 y6 c6)) W.heap.size (.int .i64 y0) (.int .i64 y1) (.string y2) (.int .i64 y3) (.int .i64 y4) (.string y5) (.slice a6 y6 c6))
      have HV7 : Hid (FVal (w6.setCell ⟨w1.heap.size, 6, none⟩ (.slice a6 y6 c6)) (fun b => b ≠ W.heap.size) (.slice a6 y6 c6) x.kids) := Lib.hid (by
        have hv : FVal w6 (fun b => w1.heap.size + 1 ≤ b) (.slice a6 y6 c6) x.kids := by rw [HY6.out]; exact FVal.keep (w := w6) (P := fun b => _ ≤ b) ⟨a6, c6, rfl, hr6⟩ (fun b hb _ => ⟨by simp at hb; exact hb, rfl⟩) (Nat.le_refl _)
        exact hv.keep (fun b hb _ => ⟨by have := HLT.out; omega, Below.heap_setCell _ _ _ _ (by show b ≠ w1.heap.size; omega)⟩) (by simp [World.setCell]))
      have HB7 := Lib.hid hB7
      clear hr6 hb6 hv6 hz6 hx6 hx0 hB6 hx7 hx07 hB7
      go_wp2_with fail
      obtain ⟨m0, m1, m2, m3, m4, m5, m6, _⟩ := seven_cells HE.out
      refine bodyPost_ret (v := .tuple #[.agg #[.int .i64 y0, .int .i64 y1, .string y2, .int .i64 y3, .int .i64 y4, .string y5, .slice a6 y6 c6], .int .i64 0]) ?_ rfl ⟨(HB1.out.trans (HB7.out.mono HB1.out.size)).trans (HK.out.below (fun k e => Nat.le_of_eq e.symm) (by have := HB1.out.size; have := HB7.out.size; omega)), .inr ⟨⟨_, HYES.out⟩, x, .slice a6 y6 c6, HEND.out, by rw [HXX.out], HV7.out.keep (fun b hb z => ⟨trivial, HK.out.block b z hb⟩) HK.out.size⟩⟩
      simp [results, Tryz.results33, go_sem, m0, m1, m2, m3, m4, m5, m6]
end

end Go.Proofs.YtafncodigpjkaaaGreatDoor
