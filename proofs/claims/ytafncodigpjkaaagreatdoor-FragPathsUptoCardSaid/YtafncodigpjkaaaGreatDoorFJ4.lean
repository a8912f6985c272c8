/-
  Put.
  Put: the walk.
-/
import Derived.Test.YtafncodigpjkaaaGreatDoorFJ3
import Derived.Test.YtafncodigpjkaaaGreatDoorFGB
namespace Go.Proofs.YtafncodigpjkaaaGreatDoor
section
open Go.RowKit

theorem walk_get : ∀ {l : List Fg} {p : List Int} {ls : List (List Fg)}, walkP l p = some ls → ∀ {k : Nat} {i : Int}, p[k]? = some i → ∃ lk x, ls[k]? = some lk ∧ getI lk i = some x ∧ (k + 1 < p.length → ls[k + 1]? = some x.kids) ∧ (k = 0 → lk = l)
  | l, [], ls, h, k, i, hk => by cases hk
  | l, i0 :: p, ls, h, k, i, hk => by
    unfold walkP at h
    cases hg : getI l i0 with
    | none => rw [hg] at h; cases h
    | some y =>
      rw [hg] at h
      simp only at h
      cases hw : walkP y.kids p with
      | none => rw [hw] at h; cases h
      | some m =>
        rw [hw] at h
        cases h
        cases k with
        | zero =>
          cases hk
          refine ⟨l, y, rfl, hg, fun hp => ?_, fun _ => rfl⟩
          cases p with
          | nil => simp at hp
          | cons j q =>
            obtain ⟨lk, x, h1, _, _, h4⟩ := walk_get hw (k := 0) (i := j) rfl
            rw [h4 rfl] at h1
            exact h1
        | succ k =>
          obtain ⟨lk, x, h1, h2, h3, _⟩ := walk_get hw (k := k) (i := i) hk
          exact ⟨lk, x, h1, h2, fun hp => h3 (by simpa using hp), fun h => absurd h (Nat.succ_ne_zero k)⟩
theorem walk_le {B : Nat} : ∀ {l : List Fg} {p : List Int} {ls : List (List Fg)}, walkP l p = some ls → l.length ≤ B → FgsLe B l → ∀ m ∈ ls, m.length ≤ B
  | l, [], ls, h, _, _, m, hm => by unfold walkP at h; cases h; cases hm
  | l, i0 :: p, ls, h, h1, h2, m, hm => by
    unfold walkP at h
    cases hg : getI l i0 with
    | none => rw [hg] at h; cases h
    | some y =>
      rw [hg] at h
      simp only at h
      cases hw : walkP y.kids p with
      | none => rw [hw] at h; cases h
      | some q =>
        rw [hw] at h
        cases h
        obtain ⟨k, _, _, hy⟩ := getI_some hg
        rcases List.mem_cons.1 hm with rfl | hm
        · exact h1
        · exact walk_le hw (h2.get hy).1 (h2.get hy).2 m hm
theorem put_le {B : Nat} {by' : List Fg} (b1 : by'.length ≤ B) (b2 : FgsLe B by') : ∀ {p : List Int} {l : List Fg}, l.length ≤ B → FgsLe B l → (putM by' l p).length ≤ 2 * B + 1 ∧ FgsLe (2 * B + 1) (putM by' l p)
  | [], l, _, _ => ⟨by unfold putM; omega, by unfold putM; exact b2.mono (by omega)⟩
  | i :: p, l, h1, h2 => by
    unfold putM
    cases hg : getI l i with
    | none => exact ⟨by simp only; omega, h2.mono (by omega)⟩
    | some x =>
      simp only
      obtain ⟨k, _, _, hx⟩ := getI_some hg
      have ih := put_le b1 b2 (p := p) (h2.get hx).1 (h2.get hx).2
      have hX : (if p = [] then by' else [setK x (putM by' x.kids p)]).length ≤ B + 1 ∧ FgsLe (2 * B + 1) (if p = [] then by' else [setK x (putM by' x.kids p)]) := by
        split
        · exact ⟨by omega, b2.mono (by omega)⟩
        · refine ⟨by simp, FgsLe.of fun y hy => ?_⟩
          rw [List.mem_singleton] at hy
          subst hy
          exact ih
      refine ⟨?_, ?_⟩
      · unfold upM
        rw [List.length_append, List.length_append, List.length_take, List.length_drop]
        have := hX.1
        omega
      · unfold upM
        exact FgsLe.append (FgsLe.of fun y hy => ⟨by have := (h2.mem (List.mem_of_mem_take hy)).1; omega, (h2.mem (List.mem_of_mem_take hy)).2.mono (by omega)⟩) (FgsLe.append hX.2 (FgsLe.of fun y hy => ⟨by have := (h2.mem (List.mem_of_mem_drop hy)).1; omega, (h2.mem (List.mem_of_mem_drop hy)).2.mono (by omega)⟩))
/-- What is put in the place with the number j - 1 of the way. -/
def PX (by' l : List Fg) (ls : List (List Fg)) (p : List Int) (j : Nat) (X : List Fg) : Prop :=
  (j = p.length ∧ X = by') ∨ (j < p.length ∧ 0 < j ∧ ∃ lk i x, ls[j - 1]? = some lk ∧ p[j - 1]? = some i ∧ getI lk i = some x ∧ X = [setK x (putM by' x.kids (p.drop j))]) ∨ (j = 0 ∧ X = putM by' l p)
theorem PX.up {by' l : List Fg} {ls : List (List Fg)} {p : List Int} {k : Nat} {X lk : List Fg} {i : Int} {x : Fg} (h : PX by' l ls p (k + 1) X) (hl : ls[k]? = some lk) (hi : p[k]? = some i) (hx : getI lk i = some x) : upM lk i X = putM by' lk (p.drop k) := by
  obtain ⟨hk, hik⟩ := List.getElem?_eq_some_iff.1 hi
  rw [List.drop_eq_getElem_cons hk, hik]
  unfold putM
  rw [hx]
  simp only
  rcases h with ⟨h1, rfl⟩ | ⟨h1, _, lk', i', x', e1, e2, e3, rfl⟩ | ⟨h1, _⟩
  · rw [if_pos (List.drop_eq_nil_of_le (by omega))]
  · have hd : p.drop (k + 1) ≠ [] := fun e => by
      have := congrArg List.length e
      rw [List.length_drop] at this
      simp at this
      omega
    rw [if_neg hd]
    rw [Nat.add_sub_cancel] at e1 e2
    rw [hl] at e1
    cases e1
    rw [hi] at e2
    cases e2
    rw [hx] at e3
    cases e3
    rfl
  · omega
theorem PX.size {by' l : List Fg} {ls : List (List Fg)} {p : List Int} {k : Nat} {X : List Fg} (h : PX by' l ls p (k + 1) X) : X.length ≤ by'.length + 1 := by
  rcases h with ⟨_, rfl⟩ | ⟨_, _, _, _, _, _, _, _, rfl⟩ | ⟨h1, _⟩
  · omega
  · simp
  · omega
theorem lt_some {a : World} {B : Nat} {C : Obj} (hb : a.heap[B]? = some C) : B < a.heap.size := (Array.getElem?_eq_some_iff.1 hb).1
/-- The list with one fragment, in a block. -/
theorem one_val {w : World} {B : Nat} {x : Fg} {kv : Value} {ks : List Fg} {t : TypeId} (hb : w.heap[B]? = some (.cells (fgV (setK x ks) kv).toArray t)) (hk : FVal w (fun _ => True) kv ks) : FVal w (fun _ => True) (.slice (some ⟨B, 0, none⟩) 1 1) [setK x ks] := by
  refine ⟨some ⟨B, 0, none⟩, 1, rfl, fun _ => ⟨B, 0, rfl, trivial, lt_some hb, FRow.of fun i y hy => ?_⟩⟩
  rcases i with _ | i
  · cases hy
    refine FElt.of (kv := kv) (fun j u hu => ?_) hk
    rw [Nat.zero_mul, Nat.zero_add]
    first | (rw [Nat.zero_add, fcell_at hb]; simpa using hu) | (rw [fcell_at hb]; simpa using hu)
  · simp at hy
end

section
open Go.RowKit

def PutPost (by' l : List Fg) (p : List Int) (W : World) (e : Ending) (w' : World) : Prop :=
  Below W.heap.size W w' ∧ ((alongM l p = none ∧ e = .returned (.tuple #[.slice none 0 0, .int .i64 3])) ∨
    (∃ ls, alongM l p = some ls) ∧ (((100 < depM 101 (putM by' l p) ∨ 6000 < sizeM (putM by' l p)) ∧ e = .returned (.tuple #[.slice none 0 0, .int .i64 7])) ∨
      (¬ (100 < depM 101 (putM by' l p) ∨ 6000 < sizeM (putM by' l p)) ∧ ∃ v, e = .returned (.tuple #[v, .int .i64 0]) ∧ FVal w' (fun b => W.heap.size ≤ b) v (putM by' l p) ∧ ValC w' v (putM by' l p))))
theorem alloc_two (w : World) (O1 O2 : Obj) : (((w.alloc O1).alloc O2).drew).heap[w.heap.size + 1]? = some O2 := by
  show ((w.alloc O1).alloc O2).heap[w.heap.size + 1]? = some O2
  have := heap_alloc_new (w.alloc O1) O2
  rwa [show (w.alloc O1).heap.size = w.heap.size + 1 by simp] at this
def RepPost2 (ny : Nat) (Y : List Fg) (W : World) (e : Ending) (w' : World) : Prop := ∃ a c, e = .returned (.slice a ny c) ∧ FVal w' (fun _ => True) (.slice a ny c) Y ∧ Below W.heap.size W w'
def PLoop (by' l : List Fg) (ls : List (List Fg)) (p : List Int) (w1 : World) (j : Nat) (pv : Value) (wr : World) : Prop :=
  j ≤ p.length ∧ Below w1.heap.size w1 wr ∧ ∃ X, PX by' l ls p j X ∧ FVal wr (fun _ => True) pv X
set_option maxRecDepth 100000 in
set_option maxHeartbeats 8000000 in
theorem Put_any (P P' : Nat → Prop) (l by' : List Fg) (a : Option Addr) (n c : Nat) (v bv : Value) (p : List Int) (W : World) (hv : FVal W P (.slice a n c) l) (hc : ValC W (.slice a n c) l) (hp : IntRow W v p) (hpl : p.length ≤ 1048576) (hb : FVal W P' bv by')
    (h1 : l.length ≤ 1048576) (h2 : FgsLe 1048576 l) (b1 : by'.length ≤ 1048576) (b2 : FgsLe 1048576 by') : Calls Tryz.prog 35 #[.slice a n c, v, bv] W (PutPost by' l p W) := by
  have HAL := Lib.hid (along_any P l a n c v p W hv hc hp (by omega))
  have HLE := Lib.hid (put_le b1 b2 (p := p) h1 h2)
  obtain ⟨pb, pc, rfl, hrow⟩ := hp
  have HR := Lib.hid hrow
  have HBV := Lib.hid hb
  have H12 := Lib.hid (And.intro h1 h2)
  have HB1 := Lib.hid b1
  clear hv hc hrow hb h1 h2 b1 b2
  go_enter Tryz.func35, Tryz.ntmps35
  go_wp2_with fail
  refine HAL.out.mono ?_
  rintro e w1 ⟨hb1, ⟨hno, rfl⟩ | ⟨ls, lv, hyes, rfl, hlv⟩⟩
  · have HB := Lib.hid hb1
    have HN := Lib.hid hno
    clear hb1 hno HAL
    go_wp2_with fail
    exact bodyPost_ret (v := .tuple #[.slice none 0 0, .int .i64 3]) (by simp [results, Tryz.results35, go_sem]) rfl ⟨HB.out, .inl ⟨HN.out, rfl⟩⟩
  have hne : p ≠ [] := by rintro rfl; unfold alongM at hyes; rw [if_pos rfl] at hyes; cases hyes
  have hwk : walkP l p = some ls := by unfold alongM at hyes; rwa [if_neg hne] at hyes
  have hlen := walk_len hwk
  have hppos : 0 < p.length := Nat.pos_of_ne_zero fun h => hne (List.length_eq_zero_iff.1 h)
  obtain ⟨gp, op, rfl, hgp, hps⟩ := HR.out hne
  obtain ⟨al, cl, rfl, hlr⟩ := hlv
  obtain ⟨gl, ol, rfl, hgl, hls⟩ := hlr (by rintro rfl; simp at hlen; omega)
  have HB := Lib.hid hb1
  have HWK := Lib.hid hwk
  have HLL := Lib.hid (fun m hm => walk_le hwk H12.out.1 H12.out.2 m hm)
  have HPS := Lib.hid (fun (w' : World) (hb : Below w1.heap.size w1 w') k i (hk : p[k]? = some i) => show w'.cell? ⟨gp, op + k, none⟩ = some (.int .i64 i) from (hb.cell (p := ⟨gp, op + k, none⟩) (by have := hb1.size; show gp < _; omega)).trans ((hb1.cell (p := ⟨gp, op + k, none⟩) hgp).trans (hps k i hk)))
  have HLS := Lib.hid (fun (w' : World) (hb : Below w1.heap.size w1 w') k lk (hk : ls[k]? = some lk) => show ∃ u, w'.cell? ⟨gl, ol + k, none⟩ = some u ∧ FVal W P u lk ∧ ValC W u lk from by
    obtain ⟨u, h1, h2⟩ := hls k lk hk
    exact ⟨u, (hb.cell (p := ⟨gl, ol + k, none⟩) hgl).trans h1, h2⟩)
  have HYES := Lib.hid hyes
  have HNE := Lib.hid hne
  rw [hlen]
  have HLEN := Lib.hid hlen
  have w3' : IntKind.i64.wrap ((p.length : Int) - 1) = (p.length : Int) - 1 := IntWalk.i64_in _ (by omega)
  clear hb1 hyes hwk hne hps hlr hls hlen HAL
  go_wp2_with fail
  go_loopw [10, 11] (fun pv iv wr => ∃ j : Nat, iv = .int .i64 ((j : Int) - 1) ∧ Hid (PLoop by' l ls p w1 j pv wr)) (fun _ iv _ => (intOf iv + 1).toNat)
  case atStart => exact ⟨p.length, rfl, Lib.hid ⟨Nat.le_refl _, Below.refl _ _, by', .inl ⟨rfl, rfl⟩, HBV.out.keep (fun b _ z => ⟨trivial, HB.out.block b z⟩) HB.out.size⟩⟩
  case round =>
    obtain ⟨j, rfl, hr⟩ := hrel
    obtain ⟨hj, hbe, X, hX, hpv⟩ := hr.out
    by_cases hj0 : j = 0
    · subst hj0
      have hXY : X = putM by' l p := by
        rcases hX with ⟨h, _⟩ | ⟨_, h, _⟩ | ⟨_, h⟩
        · omega
        · omega
        · exact h
      obtain ⟨Y, hY⟩ : ∃ Y, Y = putM by' l p := ⟨_, rfl⟩
      rw [← hY] at hXY HLE
      subst hXY
      have HBW : Hid (Below W.heap.size W wr) := Lib.hid (HB.out.trans (hbe.mono HB.out.size))
      have hy1 : X.length ≤ 140737488351232 := by have := HLE.out.1; omega
      have hy2 : FgsLe 140737488351232 X := HLE.out.2.mono (by omega)
      have HDP := Lib.hid (fun w (hb : Below wr.heap.size wr w) => Depth_any (fun _ => True) X u10 w (hpv.below hb) hy1 hy2)
      have HSZ := Lib.hid (fun w (hb : Below wr.heap.size wr w) => Size_any (fun _ => True) X u10 w (hpv.below hb) hy1 hy2)
      have HCP := Lib.hid (fun w (hb : Below wr.heap.size wr w) => copied_any (fun _ => True) X u10 w (hpv.below hb) (by have := HLE.out.1; omega) (HLE.out.2.mono (by omega)))
      have HYY := Lib.hid hY
      have hm1 : (((0 : Nat) : Int) - 1) = -1 := rfl
      rw [hm1]
      clear hr hbe hX hpv hy1 hy2 hY HPS HLS HLL
      go_wp2_with fail
      refine (HDP.out wr (Below.refl _ _)).mono ?_
      rintro e w4 ⟨rfl, hb4⟩
      have HB4 := Lib.hid hb4
      clear hb4
      have HAL : Hid (∃ ls, alongM l p = some ls) := Lib.hid ⟨_, HYES.out⟩
      by_cases hd : 100 < depM 101 X
      · have hd' : (100 : Int) < ((depM 101 X : Nat) : Int) := by omega
        have HPO : Hid (PutPost by' l p W (.returned (.tuple #[.slice none 0 0, .int .i64 7])) w4) := Lib.hid ⟨HBW.out.trans (HB4.out.mono HBW.out.size), .inr ⟨HAL.out, .inl ⟨.inl (by rw [← HYY.out]; exact hd), rfl⟩⟩⟩
        clear hd
        go_wp2_with fail
        exact bodyPost_ret (v := .tuple #[.slice none 0 0, .int .i64 7]) (by simp [results, Tryz.results35, go_sem]) rfl HPO.out
      have hd' : ((100 : Int) < ((depM 101 X : Nat) : Int)) = False := by simp; omega
      have HD := Lib.hid hd
      clear hd
      go_wp2_with fail
      refine (HSZ.out w4 HB4.out).mono ?_
      rintro e w5 ⟨rfl, hb5⟩
      have HB5 := Lib.hid (HB4.out.trans (hb5.mono HB4.out.size))
      clear hb5
      by_cases hs : 6000 < sizeM X
      · have hs' : (6000 : Int) < ((sizeM X : Nat) : Int) := by omega
        have HPO : Hid (PutPost by' l p W (.returned (.tuple #[.slice none 0 0, .int .i64 7])) w5) := Lib.hid ⟨HBW.out.trans (HB5.out.mono HBW.out.size), .inr ⟨HAL.out, .inl ⟨.inr (by rw [← HYY.out]; exact hs), rfl⟩⟩⟩
        clear hs
        go_wp2_with fail
        exact bodyPost_ret (v := .tuple #[.slice none 0 0, .int .i64 7]) (by simp [results, Tryz.results35, go_sem]) rfl HPO.out
      have hs' : ((6000 : Int) < ((sizeM X : Nat) : Int)) = False := by simp; omega
      have HS := Lib.hid hs
      clear hs
      go_wp2_with fail
      refine (HCP.out w5 HB5.out).mono ?_
      rintro e w6 ⟨v6, rfl, hv6, hb6, hc6⟩
      have HPO : Hid (PutPost by' l p W (.returned (.tuple #[v6, .int .i64 0])) w6) := Lib.hid ⟨HBW.out.trans ((HB5.out.trans (hb6.mono HB5.out.size)).mono HBW.out.size), .inr ⟨HAL.out, .inr ⟨by rw [← HYY.out]; exact fun h => h.elim HD.out HS.out, v6, rfl, by rw [← HYY.out]; exact hv6.keep (fun b q _ => ⟨by have := HBW.out.size; have := HB5.out.size; omega, rfl⟩) (Nat.le_refl _), by rw [← HYY.out]; exact hc6⟩⟩⟩
      clear hv6 hb6 hc6
      go_wp2_with fail
      exact bodyPost_ret (v := .tuple #[v6, .int .i64 0]) (by simp [results, Tryz.results35, go_sem]) rfl HPO.out
    · obtain ⟨k, rfl⟩ : ∃ k, j = k + 1 := ⟨j - 1, by omega⟩
      have ek : (((k + 1 : Nat) : Int) - 1) = (k : Int) := by omega
      rw [ek]
      have hge : (0 : Int) ≤ (k : Int) := by omega
      have w4' : IntKind.i64.wrap ((k : Int) - 1) = (k : Int) - 1 := IntWalk.i64_in _ (by omega)
      have hkl : (k : Int) < (p.length : Int) := by omega
      obtain ⟨i, hi⟩ : ∃ i, p[k]? = some i := ⟨_, List.getElem?_eq_getElem (by omega)⟩
      obtain ⟨lk, x, hlk, hx, hnx, hl0⟩ := walk_get HWK.out hi
      obtain ⟨q, rfl, hq, hqx⟩ := getI_some hx
      obtain ⟨u, hu, huf, huc⟩ := HLS.out wr hbe k lk hlk
      have hpi := HPS.out wr hbe k _ hi
      obtain ⟨ua, uc, rfl, hur⟩ := huf
      have huf : FVal W P (.slice ua lk.length uc) lk := ⟨ua, uc, rfl, hur⟩
      have hwr : Below W.heap.size W wr := HB.out.trans (hbe.mono HB.out.size)
      obtain ⟨Y, hY⟩ : ∃ Y, Y = putM by' lk (p.drop k) := ⟨_, rfl⟩
      obtain ⟨ny, hny⟩ : ∃ ny, ny = Y.length := ⟨_, rfl⟩
      have HNY := Lib.hid hny
      have hrp := fun (w' : World) (hb : Below wr.heap.size wr w') => replaced_any P (fun _ => True) lk X ua lk.length uc q u10 w' (huf.below (hwr.trans (hb.mono hwr.size))) huc.cap hq (hpv.below hb) (by have := HLL.out lk (List.mem_of_getElem? hlk); have := hX.size; have := HB1.out; omega)
      rw [hX.up hlk hi hx, ← hY] at hrp
      have HRP : Hid (∀ w', Below wr.heap.size wr w' → Calls Tryz.prog 58 #[.slice ua lk.length uc, .int .i64 (q : Int), u10] w' (RepPost2 ny Y w')) := Lib.hid (fun w' hb => (hrp w' hb).mono (by rintro e w' ⟨v, rfl, ⟨a4, c4, rfl, hr4⟩, hb⟩; exact ⟨a4, c4, by rw [hny], ⟨a4, c4, by rw [hny], hr4⟩, hb⟩))
      have HBE := Lib.hid hbe
      have HWR := Lib.hid hwr
      have HY := Lib.hid hY
      by_cases hk0 : k = 0
      · subst hk0
        have HPX : Hid (PX by' l ls p 0 Y) := Lib.hid (.inr (.inr ⟨rfl, by rw [hY, hl0 rfl, List.drop_zero]⟩))
        have hu0 : wr.cell? ⟨gl, ol, none⟩ = some (.slice ua lk.length uc) := hu
        have hp0 : wr.cell? ⟨gp, op, none⟩ = some (.int .i64 (q : Int)) := hpi
        clear hr hbe hX hpv hi hlk hx hnx hl0 hqx huc hur huf hwr hrp hY hny hq
        go_wp2_with fail
        go_region_law (go_simp; go_at_call 58; refine (HRP.out _ (by first | exact (Below.refl _ _).drew | exact Below.refl _ _)).mono ?_; rintro e w4 ⟨a4, c4, rfl, hv4, hb4⟩; have HV4 := Lib.hid hv4; have HB4 : Hid (Below wr.heap.size wr w4) := Lib.hid (below_undrew (hb4.mono (by simp))); clear hv4 hb4)
        all_goals go_wp2_with fail
        all_goals exact ⟨⟨0, by simp, Lib.hid ⟨Nat.zero_le _, HBE.out.trans (HB4.out.mono HBE.out.size), Y, HPX.out, HV4.out⟩⟩, by simp only [intOf]; omega⟩
      · obtain ⟨m, rfl⟩ : ∃ m, k = m + 1 := ⟨k - 1, by omega⟩
        have em : (((m + 1 : Nat) : Int) - 1) = (m : Int) := by omega
        rw [em] at w4'
        have hgt : (0 : Int) < ((m + 1 : Nat) : Int) := by omega
        have hml : (m : Int) < (p.length : Int) := by omega
        have hkl2 : (m : Int) + 1 < (p.length : Int) := by omega
        have hgt2 : (0 : Int) < (m : Int) + 1 := by omega
        have hge2 : (0 : Int) ≤ (m : Int) + 1 := by omega
        have wm : IntKind.i64.wrap (m : Int) = (m : Int) := IntWalk.i64_in _ (by omega)
        have wm2 : IntKind.i64.wrap ((m : Int) + 1 - 1) = (m : Int) := by rw [show (m : Int) + 1 - 1 = (m : Int) by omega]; exact wm
        have hm0 : (0 : Int) ≤ (m : Int) := by omega
        obtain ⟨i', hi'⟩ : ∃ i', p[m]? = some i' := ⟨_, List.getElem?_eq_getElem (by omega)⟩
        obtain ⟨lk', x', hlk', hx', hnx', _⟩ := walk_get HWK.out hi'
        obtain ⟨q', rfl, hq', hqx'⟩ := getI_some hx'
        have hkk : lk = x'.kids := by
          have := hnx' (by omega)
          rw [hlk] at this
          exact Option.some.inj this
        have HPX : Hid (PX by' l ls p (m + 1) [setK x' Y]) := Lib.hid (.inr (.inl ⟨by omega, by omega, lk', q', x', hlk', hi', hx', by rw [hY, hkk]⟩))
        have HQ := Lib.hid hq'
        have hql : (q' : Int) < (lk'.length : Int) := by omega
        obtain ⟨u', hu', ⟨ua', uc', rfl, hur'⟩, huc'⟩ := HLS.out w1 (Below.refl _ _) m lk' hlk'
        obtain ⟨g', o', rfl, _, hg', hrw'⟩ := hur' (by rintro rfl; simp at hq')
        obtain ⟨kv', hcell', ka', kc', rfl, _⟩ := (hrw'.get hqx').parts
        have HCX : Hid (∀ w', Below w1.heap.size w1 w' → (∀ j u, (fgV x' (.slice ka' x'.kids.length kc'))[j]? = some u → w'.cell? ⟨g', o' + q' * 7 + j, none⟩ = some u) ∧ w'.cell? ⟨gl, ol + m, none⟩ = some (.slice (some ⟨g', o', none⟩) lk'.length uc') ∧ w'.cell? ⟨gp, op + m, none⟩ = some (.int .i64 (q' : Int))) := Lib.hid (fun w' hb => ⟨fun j u hu => (hb.cell (p := ⟨g', o' + q' * 7 + j, none⟩) (by have := HB.out.size; show g' < _; omega)).trans ((HB.out.cell (p := ⟨g', o' + q' * 7 + j, none⟩) hg').trans (hcell' j u hu)), (hb.cell (p := ⟨gl, ol + m, none⟩) hgl).trans hu', HPS.out w' hb m _ hi'⟩)
        clear hr hbe hX hpv hi hlk hx hnx hl0 hqx huc hur huf hwr hrp hY hny hq hi' hlk' hx' hnx' hq' hqx' hkk hu' hur' huc' hrw' hcell'
        go_wp2_with fail
        go_region_law (go_simp; go_at_call 58; refine (HRP.out _ (by first | exact (Below.refl _ _).drew | exact Below.refl _ _)).mono ?_; rintro e w4 ⟨a4, c4, rfl, hv4, hb4⟩; have HV4 := Lib.hid hv4; have HB4 : Hid (Below wr.heap.size wr w4) := Lib.hid (below_undrew (hb4.mono (by simp))); clear hv4 hb4)
        all_goals go_wp2_with fail
        all_goals
          obtain ⟨hcc, eL, eP⟩ := HCX.out w4 (HBE.out.trans (HB4.out.mono HBE.out.size))
          have c0 : w4.cell? ⟨g', o' + q' * 7, none⟩ = some (.int .i64 x'.tok.1) := hcc 0 _ rfl
          have c1 : w4.cell? ⟨g', o' + q' * 7 + 1, none⟩ = some (.int .i64 x'.tok.2.1) := hcc 1 _ rfl
          have c2 : w4.cell? ⟨g', o' + q' * 7 + 2, none⟩ = some (.string x'.tok.2.2.1) := hcc 2 _ rfl
          have c3 : w4.cell? ⟨g', o' + q' * 7 + 3, none⟩ = some (.int .i64 x'.tok.2.2.2.1) := hcc 3 _ rfl
          have cc4 : w4.cell? ⟨g', o' + q' * 7 + 4, none⟩ = some (.int .i64 x'.tok.2.2.2.2) := hcc 4 _ rfl
          have c5 : w4.cell? ⟨g', o' + q' * 7 + 5, none⟩ = some (.string x'.opn) := hcc 5 _ rfl
          have c6 : w4.cell? ⟨g', o' + q' * 7 + 6, none⟩ = some (.slice ka' x'.kids.length kc') := hcc 6 _ rfl
          have z1 : g' < w4.heap.size := by have := HB.out.size; have := HBE.out.size; have := HB4.out.size; omega
          have z2 : gl < w4.heap.size := by have := HBE.out.size; have := HB4.out.size; omega
          have z3 : gp < w4.heap.size := by have := HB.out.size; have := HBE.out.size; have := HB4.out.size; omega
          have HXX : Hid (∀ kv, fgV (setK x' Y) kv = [.int .i64 x'.tok.1, .int .i64 x'.tok.2.1, .string x'.tok.2.2.1, .int .i64 x'.tok.2.2.2.1, .int .i64 x'.tok.2.2.2.2, .string x'.opn, kv]) := Lib.hid (fun kv => rfl)
          clear hcc hgl hgp hg'
          generalize x'.tok.1 = y0 at *
          generalize x'.tok.2.1 = y1 at *
          generalize x'.tok.2.2.1 = y2 at *
          generalize x'.tok.2.2.2.1 = y3 at *
          generalize x'.tok.2.2.2.2 = y4 at *
          generalize x'.opn = y5 at *
          generalize x'.kids.length = y6 at *
          go_region_law (fail)
        all_goals clear c0 c1 c2 c3 cc4 c5 c6 eL eP
        all_goals go_wp2_with fail
        all_goals exact ⟨⟨m + 1, by simp, Lib.hid ⟨by omega, HBE.out.trans (((HB4.out.mono HBE.out.size).alloc (by have := HBE.out.size; have := HB4.out.size; omega) _).alloc (by have := HBE.out.size; have := HB4.out.size; simp; omega) _).drew, [setK x' Y], HPX.out, one_val (kv := .slice a4 ny c4) (ks := Y) (x := x') (by rw [HXX.out]; exact alloc_two w4 _ _) (HV4.out.keep (fun b _ z => ⟨trivial, (((Below.refl w4.heap.size w4).alloc (Nat.le_refl _) _).alloc (by simp) _).drew.block b z⟩) (by simp; omega))⟩⟩, by simp only [intOf]; omega⟩
end

end Go.Proofs.YtafncodigpjkaaaGreatDoor
