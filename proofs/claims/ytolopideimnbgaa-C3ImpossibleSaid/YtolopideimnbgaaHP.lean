/-
  What precedences yields.
-/
import Derived.Test.YtolopideimnbgaaHO
import Derived.Sort.BigQuietIn
namespace Go.Proofs.Ytolopideimnbgaa
open Go.RowKit

/-- The linearizations that are known. -/
def KnownAt (W : World) (kb : Nat) (g : List Hr) (S : Nat → Prop) : Prop :=
  ∃ f, MapF W kb f ∧ ∀ s u, f s = some u → ∃ n l, posM g s = some n ∧ linM g n = .ok l ∧ SRow W (fun b => S b ∧ b ≠ kb) u l
theorem KnownAt.keep {W W' : World} {kb : Nat} {g : List Hr} {S : Nat → Prop} (h : KnownAt W kb g S) (hm : W'.heap[kb]? = W.heap[kb]?) (hk : ∀ b, S b → b ≠ kb → b < W.heap.size → W'.heap[b]? = W.heap[b]?) (hs : W.heap.size ≤ W'.heap.size) : KnownAt W' kb g S := by
  obtain ⟨f, h1, h2⟩ := h
  refine ⟨f, h1.keep hm, fun s u e => ?_⟩
  obtain ⟨n, l, h3, h4, h5⟩ := h2 s u e
  exact ⟨n, l, h3, h4, h5.keep (fun b hb hz => hk b hb.1 hb.2 hz) hs⟩
theorem KnownAt.below {W W' : World} {kb : Nat} {g : List Hr} {S : Nat → Prop} (h : KnownAt W kb g S) (hb : Below W.heap.size W W') : KnownAt W' kb g S :=
  h.keep (hb.block _ h.choose_spec.1.lt) (fun b _ _ z => hb.block b z) hb.size
theorem KnownAt.mono {W : World} {kb : Nat} {g : List Hr} {S S' : Nat → Prop} (h : KnownAt W kb g S) (hs : ∀ b, b < W.heap.size → S b → S' b) : KnownAt W kb g S' := by
  obtain ⟨f, h1, h2⟩ := h
  refine ⟨f, h1, fun s u e => ?_⟩
  obtain ⟨n, l, h3, h4, h5⟩ := h2 s u e
  exact ⟨n, l, h3, h4, h5.mono fun b hb h => ⟨hs b hb h.1, h.2⟩⟩
def impCh (e : Nat) : List PanicEntry := [{ v := .iface 82 (.agg #[.int .i64 (e : Int)]), recovered := false }]
/-- How linearization ends. -/
def LinPost (g : List Hr) (kb n : Nat) (S : Nat → Prop) (W : World) (e : Ending) (w' : World) : Prop :=
  Keep (fun b => b = kb) W w' ∧ KnownAt w' kb g (fun b => S b ∨ W.heap.size ≤ b) ∧ match linM g n with
  | .ok l => ∃ u, e = .returned u ∧ SRow w' (fun b => (S b ∨ W.heap.size ≤ b) ∧ b ≠ kb) u l
  | .error j => e = .panicked (impCh j)
def PEd (g : List Hr) (kb : Nat) (x : Hr) (S Z : Nat → Prop) (W : World) (Q : Nat → Prop) (w : World) : Prop :=
  (∀ b, Q b → Z b ∨ W.heap.size ≤ b) ∧ KnownAt w kb g (fun b => (S b ∨ W.heap.size ≤ b) ∧ ¬ Q b) ∧ ∃ ls, seqM (supsM g x) = .ok ls
def PDi (g : List Hr) (kb : Nat) (x : Hr) (S Z : Nat → Prop) (W : World) (ch : List PanicEntry) (Q : Nat → Prop) (w : World) : Prop :=
  (∀ b, Q b → Z b ∨ W.heap.size ≤ b) ∧ KnownAt w kb g (fun b => (S b ∨ W.heap.size ≤ b) ∧ ¬ Q b) ∧ ∃ e, seqM (supsM g x) = .error e ∧ ch = impCh e
/-- While the linearizations of the superclasses are yielded. -/
def PLoop (J : (Nat → Prop) → List Nms → World → Prop) (g : List Hr) (kb : Nat) (x : Hr) (S Z : Nat → Prop) (W : World) (k : Nat) (wr : World) : Prop :=
  k ≤ x.2.length ∧ Keep (fun b => b = kb ∨ Z b) W wr ∧ ∃ Q pre, J Q pre wr ∧ (∀ b, Q b → Z b ∨ W.heap.size ≤ b) ∧ KnownAt wr kb g (fun b => (S b ∨ W.heap.size ≤ b) ∧ ¬ Q b) ∧ (supsM g x).take k = pre.map .ok
/-- A region's end: on, or by a panic. -/
def MidP (N : Act → World → Prop) (D : List PanicEntry → World → Prop) (e : Exit) (a : Act) (w : World) : Prop := (e = .normal ∧ N a w) ∨ (∃ ch, e = .panic ch ∧ a.defers = [] ∧ D ch w)
theorem put_def (a : Act) (d : Option Tmp) (v : Value) : (a.put d v).defers = a.defers := by cases d <;> rfl
theorem midP_put {N : Act → World → Prop} {D : List PanicEntry → World → Prop} {d : Option Tmp} {v : Value} (c : List PanicEntry) (a : Act) (w : World) (h : MidP N D (.panic c) (a.put d v) w) : MidP N D (.panic c) a w := by
  rcases h with ⟨h, _⟩ | ⟨ch, h1, h2, h3⟩
  · cases h
  · exact .inr ⟨ch, h1, (put_def a d v).symm.trans h2, h3⟩
theorem seq_ok (ls : List Nms) (r : List (Except Nat Nms)) : seqM (ls.map .ok ++ r) = (seqM r).map (ls ++ ·) := by
  induction ls with
  | nil => cases h : seqM r <;> simp [h, Except.map]
  | cons l ls ih =>
    show (seqM (ls.map .ok ++ r)).map (l :: ·) = _
    rw [ih]
    cases seqM r <;> rfl
theorem pre_ok (ls : List Nms) (r : List (Except Nat Nms)) : preM (ls.map .ok ++ r) = ls ++ preM r := by
  induction ls with
  | nil => rfl
  | cons l ls ih => show l :: preM (ls.map .ok ++ r) = _; rw [ih]; rfl
theorem pre_all : ∀ ls : List Nms, preM (ls.map .ok) = ls
  | [] => rfl
  | l :: r => by show l :: preM (r.map .ok) = _; rw [pre_all r]
theorem seq_all : ∀ ls : List Nms, seqM (ls.map .ok) = .ok ls
  | [] => rfl
  | l :: r => by show (seqM (r.map .ok)).map (l :: ·) = _; rw [seq_all r]; rfl
theorem sups_split {g : List Hr} {x : Hr} {k : Nat} {pre : List Nms} {r : Except Nat Nms} (h : (supsM g x).take k = pre.map .ok) (hr : (supsM g x)[k]? = some r) : supsM g x = pre.map .ok ++ r :: (supsM g x).drop (k + 1) := by
  have hk := List.getElem?_eq_some_iff.1 hr
  have e := List.take_append_drop k (supsM g x)
  rw [List.drop_eq_getElem_cons hk.1, hk.2, h] at e
  exact e.symm
/-- One superclass: its linearization, then its yield. -/
theorem prec_step {g : List Hr} {kb k j : Nat} {x : Hr} {S Z Q : Nat → Prop} {W wr w2 : World} {J : (Nat → Prop) → List Nms → World → Prop} {lp : Nat} {pre : List Nms} {e : Ending} (hJ : BOk kb J) (hY : YOk kb lp J (preM (supsM g x) ++ [x.2])) (hk : k < x.2.length) (hke : Keep (fun b => b = kb ∨ Z b) W wr) (hkW : kb < W.heap.size)
    (hj : J Q pre wr) (hq : ∀ b, Q b → Z b ∨ W.heap.size ≤ b) (hpre : (supsM g x).take k = pre.map .ok) (hr : (supsM g x)[k]? = some (linM g j)) (h : LinPost g kb j (fun b => (S b ∨ W.heap.size ≤ b) ∧ ¬ Q b) wr.drew e w2) :
    (∃ u, e = .returned u ∧ ∀ m, YieldAt Fence.wide m Try.prog lp #[u] w2 fun e w3 => e = .returned (.bool true) ∧ PLoop J g kb x S Z W (k + 1) w3) ∨ (∃ ch Q' pre', e = .panicked ch ∧ J Q' pre' w2 ∧ PDi g kb x S Z W ch Q' w2) := by
  obtain ⟨hk2, hkn2, hres⟩ := h
  have hsz : W.heap.size ≤ wr.heap.size := hke.size
  have hkk : Keep (fun b => b = kb) wr w2 := ((Keep.refl _ wr).drew 1).trans hk2
  have hj2 := hJ.step _ _ _ _ hj hkk
  have hql := (hJ.blocks _ _ _ hj).1
  have hkn3 : KnownAt w2 kb g (fun b => (S b ∨ W.heap.size ≤ b) ∧ ¬ Q b) := hkn2.mono fun b _ hs => hs.elim id fun h => ⟨.inr (by have : wr.heap.size ≤ b := h; omega), fun hb => by have := hql b hb; have : wr.heap.size ≤ b := h; omega⟩
  have hsp := sups_split hpre hr
  cases hl : linM g j with
  | ok l =>
    rw [hl] at hres hsp
    obtain ⟨u, rfl, hsr⟩ := hres
    refine .inl ⟨u, rfl, fun m => ?_⟩
    have hp : pre ++ [l] <+: preM (supsM g x) ++ [x.2] := by
      rw [hsp, pre_ok]
      exact ⟨preM ((supsM g x).drop (k + 1)) ++ [x.2], by simp [preM]⟩
    obtain ⟨fn, tmps, assign, body, h1, h2⟩ := hY m Q pre l u w2 hp hj2 (hsr.mono fun b _ hs => ⟨hs.1.elim (fun h => h.2) fun h hb => by have := hql b hb; have : wr.heap.size ≤ b := h; omega, hs.2⟩)
    refine ⟨fn, tmps, assign, body, h1, h2.mono ?_⟩
    rintro e w3 ⟨rfl, Q', h3, h4⟩
    have h5 := h4.keep
    refine ⟨rfl, by omega, (hke.trans (hkk.mono fun b _ e => .inl e)).trans' (T := Q) h5 fun b hb => (hq b hb).imp .inr id, Q', pre ++ [l], h3, fun b hb => (h4.more b hb).elim (hq b) fun h => .inr (by have := hkk.size; omega), ?_, ?_⟩
    · have hkq := (hJ.blocks _ _ _ hj2).2
      refine ((hkn3.mono (S' := fun b => ((S b ∨ W.heap.size ≤ b) ∧ ¬ Q b) ∧ b < w2.heap.size) fun b hb hs => ⟨hs, hb⟩).keep (h5.block kb (by have := hkk.size; omega) hkq) (fun b hs _ hz => h5.block b hz hs.1.2) h5.size).mono fun b _ hs => ⟨hs.1.1, fun hb => (h4.more b hb).elim hs.1.2 (by have := hs.2; omega)⟩
    · rw [List.take_add_one, hpre, hr, hl]
      simp
  | error e' =>
    rw [hl] at hres hsp
    refine .inr ⟨_, Q, pre, hres, hj2, hq, hkn3, e', ?_, rfl⟩
    rw [hsp, seq_ok]; rfl
set_option maxRecDepth 100000 in
set_option maxHeartbeats 8000000 in
theorem prec_it (g : List Hr) (hg : checkM g = 0) (at_ : Nat) (x : Hr) (hx : g[at_]? = some x) (B hb ab kb c1 c2 : Nat) (gv : Value) (S Z : Nat → Prop) (W : World) (hH : HierAt W B hb ab kb gv g) (hK : KnownAt W kb g S) (hZ : ∀ b, Z b → B ≤ b ∧ b ≠ hb ∧ b ≠ ab ∧ b ≠ kb ∧ b ≠ c1 ∧ ¬ S b)
    (h1 : W.cell? ⟨c1, 0, none⟩ = some (.pointer (some ⟨hb, 0, none⟩))) (h2 : W.cell? ⟨c2, 0, none⟩ = some (.int .i64 (at_ : Int))) (hc1 : c1 < W.heap.size ∧ c1 ≠ kb) (hc2 : c2 < W.heap.size ∧ c2 ≠ kb)
    (HL : ∀ j, j < at_ → ∀ S W, HierAt W B hb ab kb gv g → KnownAt W kb g S → Calls Try.prog 58 #[.pointer (some ⟨hb, 0, none⟩), .int .i64 (j : Int)] W (LinPost g kb j S W))
    (n lp : Nat) (J : (Nat → Prop) → List Nms → World → Prop) (Q0 : Nat → Prop) (W1 : World) (hJ : BOk kb J) (hY : YOk kb lp J (preM (supsM g x) ++ [x.2])) (hJ0 : J Q0 [] W1) (hB : Below W.heap.size W W1) (hQ0 : ∀ b, Q0 b → Z b ∨ W.heap.size ≤ b) :
    CallsIn Fence.wide n Try.prog 80 (#[.func (.yield lp) #[] #[]] ++ #[.pointer (some ⟨c1, 0, none⟩), .pointer (some ⟨c2, 0, none⟩)]) W1 (ItPost J (preM (supsM g x) ++ [x.2]) (PEd g kb x S Z W) (PDi g kb x S Z W)) := by
  have HHW := Lib.hid hH
  obtain ⟨gb', gc, rfl, hrow⟩ := hH.row
  have hlen := checkM_len hg
  have hatl := (List.getElem?_eq_some_iff.1 hx).1
  obtain ⟨gb, go, rfl, hgB, hgl, hat, _⟩ := hrow (by rintro rfl; simp at hatl)
  obtain ⟨e0, sv, e1, hsv⟩ := hat at_ x hx
  obtain ⟨sb, sc, rfl, hsr⟩ := id hsv
  have d1 := (hB.cell (p := ⟨c1, 0, none⟩) hc1.1).trans h1
  have d2 := (hB.cell (p := ⟨c2, 0, none⟩) hc2.1).trans h2
  have d3 := (hB.cell (p := ⟨hb, 0, none⟩) hH.lt).trans hH.cell.1
  have d4 := (hB.cell (p := ⟨gb, go + at_ * 2 + 1, none⟩) hgl).trans e1
  have hi0 : (0 : Int) ≤ (at_ : Int) := by omega
  have hi1 : (at_ : Int) < (g.length : Int) := by omega
  have HG := Lib.hid hg
  have HZ := Lib.hid hZ
  have HX := Lib.hid hx
  have HJJ := Lib.hid hJ
  have HYY := Lib.hid hY
  have HLL := Lib.hid HL
  have HCB := Lib.hid (And.intro h1 (And.intro hc1 hH.le))
  have HSV := Lib.hid hsv
  have HKB : Hid (kb < W.heap.size) := Lib.hid hK.choose_spec.1.lt
  have HSL : Hid (x.2.length ≤ 8) := Lib.hid (okAt_parts (check_at hg hx)).2.2.1
  have HP0 : Hid (∀ w, Below W1.heap.size W1 w → PLoop J g kb x S Z W 0 w) := Lib.hid fun w hw => by
    have hbw : Below W.heap.size W w := hB.trans (hw.mono hB.size)
    refine ⟨by omega, .of_below hbw, Q0, [], hJ.step _ _ _ _ hJ0 (.of_below hw), hQ0, (hK.mono (S' := fun b => (S b ∨ W.heap.size ≤ b) ∧ ¬ Q0 b) fun b hz hs => ⟨.inl hs, fun hq => (hQ0 b hq).elim (fun h => (hZ b h).2.2.2.2.2 hs) (by omega)⟩).below hbw, by rw [List.take_zero]; rfl⟩
  clear hZ hH hrow hat e0 e1 hsr hsv h1 h2 hc2 hK hJ hY HL hJ0 hQ0 hg hx
  refine callsIn_of_wp Try.func80 rfl trivial ?_
  simp only [Try.ntmps80, List.size_toArray, List.length_cons, List.length_nil, Nat.reduceAdd, Nat.reduceSub, Array.replicate_succ,
     Array.replicate_zero, List.push_toArray, List.append_toArray, List.nil_append, List.cons_append]
  gi_wp2_with fail
  refine wpIn_wide.2 ?_
  go_quiet (fail)
  gi_wp2_with fail
  gi_loopw [17] (fun iv wr => ∃ k : Nat, iv = .int .i64 (k : Int) ∧ Hid (PLoop J g kb x S Z W k wr)) (fun iv _ => x.2.length - (intOf iv).toNat)
  case atStart => exact ⟨0, rfl, Lib.hid (HP0.out _ (below_drewN (Below.refl _ _) _))⟩
  case round =>
    obtain ⟨k, rfl, hst⟩ := hrel
    obtain ⟨hk, hke, Q, pre, hj, hq, hkn, hpre⟩ := hst.out
    have hH := HHW.out
    have hHr : HierAt wr B hb ab kb (.slice (some ⟨gb, go, none⟩) g.length gc) g := hH.keep hke fun b hb => by
      rcases hb with rfl | hb
      · exact ⟨hH.le.2.2, hH.ne.2.1.symm, hH.ne.2.2.symm⟩
      · exact ⟨(HZ.out b hb).1, (HZ.out b hb).2.1, (HZ.out b hb).2.2.1⟩
    have w3 : IntKind.i64.wrap ((k : Int) + 1) = (k : Int) + 1 := IntWalk.i64_in _ (by have := HSL.out; omega)
    by_cases hlt : k < x.2.length
    · obtain ⟨s, hs⟩ : ∃ s, x.2[k]? = some s := ⟨_, List.getElem?_eq_getElem hlt⟩
      obtain ⟨j, y, hjn, hyj, hyn, hpos⟩ := sup_pos HG.out HX.out (List.mem_iff_getElem?.2 ⟨k, hs⟩)
      obtain ⟨sb', sc', e, hsr⟩ := HSV.out
      cases e
      obtain ⟨sg, so, rfl, hsB, hsg, hsat, _⟩ := hsr (by rintro h; rw [h] at hlt; simp at hlt)
      have e5 : wr.cell? ⟨sg, so + k, none⟩ = some (.string s) := (hke.cell (o := so + k) hsg (fun e => e.elim (by have := hH.le.2.2; omega) fun e => by have := (HZ.out _ e).1; omega)).trans (hsat k s hs)
      have e1 : wr.cell? ⟨c1, 0, none⟩ = some (.pointer (some ⟨hb, 0, none⟩)) := (hke.cell (o := 0) hc1.1 (fun e => e.elim hc1.2 fun e => (HZ.out _ e).2.2.2.2.1 rfl)).trans HCB.out.1
      have e2 : wr.cell? ⟨hb, 1, none⟩ = some (.map (some ab)) := hHr.cell.2.1
      have hlk := (hHr.pos.keep (W' := wr.drew) rfl).look Try.underlying96 Try.underlying9 (zero_int wr.drew) s
      have hpf : posF g s = some (.int .i64 (j : Int)) := by unfold posF; rw [hpos]; rfl
      rw [hpf, Option.getD_some] at hlk
      have HLIN := Lib.hid (HLL.out j hjn (fun b => (S b ∨ W.heap.size ≤ b) ∧ ¬ Q b) wr.drew (hHr.below (Below.refl _ _).drew) (hkn.below (Below.refl _ _).drew))
      have hk2 : (k : Int) < (x.2.length : Int) := by omega
      have hrj : (supsM g x)[k]? = some (linM g j) := by
        unfold supsM
        rw [List.getElem?_map, hs]
        show some (linM g ((posM g s).getD 0)) = _
        rw [hpos]; rfl
      have HSTEP := Lib.hid (HLIN.out.mono fun e w2 h => prec_step HJJ.out HYY.out hlt hke HKB.out hj hq hpre hrj h)
      clear hpf hst hke hkn hpre hH hHr hsr hsat hs hyj hyn hpos hrj hj hq HLIN
      gi_wp2_with fail
      refine wpIn_mono (Q := MidP (fun a' w' => (∃ v21 v22 v23 v24 v25 v26 v27 v28 v29 v30 v32, a' = { tmps := #[.func (.yield lp) #[] #[], .pointer (some ⟨c1, 0, none⟩), .pointer (some ⟨c2, 0, none⟩), undef, .slice (some ⟨sg, so, none⟩) x.2.length sc, undef, .string s, .pointer (some ⟨hb, 0, none⟩), .pointer (some ⟨hb, 0, none⟩), .pointer (some ⟨hb, 0, none⟩), .slice (some ⟨gb, go, none⟩) g.length gc, .int .i64 (at_ : Int), .pointer (some ⟨gb, go + at_ * 2, none⟩), .pointer (some ⟨gb, go + at_ * 2 + 1, none⟩), .slice (some ⟨sg, so, none⟩) x.2.length sc, .slice (some ⟨sg, so, none⟩) x.2.length sc, .int .i64 (x.2.length : Int), .int .i64 (k : Int), .bool true, .pointer (some ⟨sg, so + k, none⟩), .string s, v21, v22, v23, v24, v25, v26, v27, v28, v29, v30, .bool false, v32, undef, undef, undef], defers := [] }) ∧ PLoop J g kb x S Z W (k + 1) w') (fun ch w' => ∃ Q' pre', J Q' pre' w' ∧ PDi g kb x S Z W ch Q' w')) ?_ ?_
      · refine wpIn_region_any (by kernel_rfl) ?_
        change wpAnyIn _ _ _ _ _ _ _ _ _ (World.drew _)
        refine wpAnyIn_take (i := 0) (v := ?_) rfl rfl (by kernel_rfl) (by kernel_rfl) (by kernel_rfl) midP_put ⟨Or.inl ⟨by rfl, ?_⟩, fun _ => rfl⟩ ?_
        rotate_left
        · (intro w; go_simp); try with_reducible rfl
        refine wpAnyIn_take (i := 6) (v := ?_) rfl rfl (by kernel_rfl) (by kernel_rfl) (by kernel_rfl) midP_put ⟨Or.inl ⟨by rfl, ?_⟩, fun _ => rfl⟩ ?_
        rotate_left
        · (intro w; go_simp); try with_reducible rfl
        refine wpAnyIn_ready (rs := [1, 2]) (by kernel_rfl) (by simp) ?_
        refine AllReadyIn.cons rfl (fun K hK => ?_) ?_
        · go_simp
          refine hK _ _ ?_
          clear hK K
          refine wpAnyIn_ready (rs := [2]) (by kernel_rfl) (by simp) ?_
          refine AllReadyIn.cons rfl (fun K hK => ?_) ?_
          · go_simp
            refine hK _ _ ?_
            clear hK K
            refine wpAnyIn_take (i := 3) (v := ?_) rfl rfl (by kernel_rfl) (by kernel_rfl) (by kernel_rfl) midP_put ⟨Or.inl ⟨by rfl, ?_⟩, fun _ => rfl⟩ ?_
            rotate_left
            · (intro w; go_simp); try with_reducible rfl
            refine wpAnyIn_take (i := 4) (v := ?_) rfl rfl (by kernel_rfl) (by kernel_rfl) (by kernel_rfl) midP_put ⟨Or.inl ⟨by rfl, ?_⟩, fun _ => rfl⟩ ?_
            rotate_left
            · (intro w; go_simp); try with_reducible rfl
            refine wpAnyIn_ready (rs := [5]) (by kernel_rfl) (by simp) ?_
            refine AllReadyIn.cons rfl (fun K hK => ?_) ?_
            · go_simp
              refine hK _ _ ?_
              clear hK K
              refine wpAnyIn_ready (rs := [7]) (by kernel_rfl) (by simp) ?_
              refine AllReadyIn.cons rfl (fun K hK => ?_) ?_
              · go_simp
                refine hK _ _ ?_
                clear hK K
                refine wpAnyIn_ready (rs := [8]) (by kernel_rfl) (by simp) ?_
                refine AllReadyIn.cons rfl (fun K hK => ?_) ?_
                · go_simp
                  refine ⟨trivial, fun h => by simp [Fence.wide] at h, ?_⟩
                  refine (callsIn_wide.2 HSTEP.out).mono ?_
                  rintro e w2 (⟨u, rfl, hy⟩ | ⟨ch, Q2, pre2, rfl, hpan⟩)
                  rotate_left
                  · exact .inr ⟨_, rfl, rfl, Q2, ⟨pre2, hpan.1⟩, hpan.2⟩
                  obtain ⟨fn, tmps, assign, body, hy1, hR⟩ := hy (n - 1)
                  have HRD := Lib.hid hR
                  clear hy hR
                  refine hK _ _ ?_
                  clear hK K
                  refine wpAnyIn_ready (rs := [9]) (by kernel_rfl) (by simp) ?_
                  refine AllReadyIn.cons rfl (fun K hK => ?_) ?_
                  · go_simp
                    refine ⟨fun h => by simp [Fence.wide] at h, ?_⟩
                    refine HRD.out.mono ?_
                    rintro e w3 ⟨rfl, h4⟩
                    have H4 := Lib.hid h4
                    clear h4 hy1 HRD
                    refine hK _ _ ?_
                    clear hK K
                    refine wpAnyIn_ready (rs := [10]) (by kernel_rfl) (by simp) ?_
                    refine AllReadyIn.cons rfl (fun K hK => ?_) ?_
                    · go_simp
                      refine hK _ _ ?_
                      clear hK K
                      refine wpAnyIn_done (by kernel_rfl) ?_ _
                      exact .inl ⟨rfl, ⟨_, _, _, _, _, _, _, _, _, _, _, rfl⟩, H4.out⟩
                    exact AllReadyIn.nil
                  exact AllReadyIn.nil
                exact AllReadyIn.nil
              exact AllReadyIn.nil
            exact AllReadyIn.nil
          exact AllReadyIn.nil
        refine AllReadyIn.cons rfl (fun K hK => ?_) ?_
        · go_simp
          refine hK _ _ ?_
          clear hK K
          refine wpAnyIn_take (i := 3) (v := ?_) rfl rfl (by kernel_rfl) (by kernel_rfl) (by kernel_rfl) midP_put ⟨Or.inl ⟨by rfl, ?_⟩, fun _ => rfl⟩ ?_
          rotate_left
          · (intro w; go_simp); try with_reducible rfl
          refine wpAnyIn_take (i := 4) (v := ?_) rfl rfl (by kernel_rfl) (by kernel_rfl) (by kernel_rfl) midP_put ⟨Or.inl ⟨by rfl, ?_⟩, fun _ => rfl⟩ ?_
          rotate_left
          · (intro w; go_simp); try with_reducible rfl
          refine wpAnyIn_ready (rs := [1, 5]) (by kernel_rfl) (by simp) ?_
          refine AllReadyIn.cons rfl (fun K hK => ?_) ?_
          · go_simp
            refine hK _ _ ?_
            clear hK K
            refine wpAnyIn_ready (rs := [5]) (by kernel_rfl) (by simp) ?_
            refine AllReadyIn.cons rfl (fun K hK => ?_) ?_
            · go_simp
              refine hK _ _ ?_
              clear hK K
              refine wpAnyIn_ready (rs := [7]) (by kernel_rfl) (by simp) ?_
              refine AllReadyIn.cons rfl (fun K hK => ?_) ?_
              · go_simp
                refine hK _ _ ?_
                clear hK K
                refine wpAnyIn_ready (rs := [8]) (by kernel_rfl) (by simp) ?_
                refine AllReadyIn.cons rfl (fun K hK => ?_) ?_
                · go_simp
                  refine ⟨trivial, fun h => by simp [Fence.wide] at h, ?_⟩
                  refine (callsIn_wide.2 HSTEP.out).mono ?_
                  rintro e w2 (⟨u, rfl, hy⟩ | ⟨ch, Q2, pre2, rfl, hpan⟩)
                  rotate_left
                  · exact .inr ⟨_, rfl, rfl, Q2, ⟨pre2, hpan.1⟩, hpan.2⟩
                  obtain ⟨fn, tmps, assign, body, hy1, hR⟩ := hy (n - 1)
                  have HRD := Lib.hid hR
                  clear hy hR
                  refine hK _ _ ?_
                  clear hK K
                  refine wpAnyIn_ready (rs := [9]) (by kernel_rfl) (by simp) ?_
                  refine AllReadyIn.cons rfl (fun K hK => ?_) ?_
                  · go_simp
                    refine ⟨fun h => by simp [Fence.wide] at h, ?_⟩
                    refine HRD.out.mono ?_
                    rintro e w3 ⟨rfl, h4⟩
                    have H4 := Lib.hid h4
                    clear h4 hy1 HRD
                    refine hK _ _ ?_
                    clear hK K
                    refine wpAnyIn_ready (rs := [10]) (by kernel_rfl) (by simp) ?_
                    refine AllReadyIn.cons rfl (fun K hK => ?_) ?_
                    · go_simp
                      refine hK _ _ ?_
                      clear hK K
                      refine wpAnyIn_done (by kernel_rfl) ?_ _
                      exact .inl ⟨rfl, ⟨_, _, _, _, _, _, _, _, _, _, _, rfl⟩, H4.out⟩
                    exact AllReadyIn.nil
                  exact AllReadyIn.nil
                exact AllReadyIn.nil
              exact AllReadyIn.nil
            exact AllReadyIn.nil
          refine AllReadyIn.cons rfl (fun K hK => ?_) ?_
          · go_simp
            refine hK _ _ ?_
            clear hK K
            refine wpAnyIn_ready (rs := [1, 7]) (by kernel_rfl) (by simp) ?_
            refine AllReadyIn.cons rfl (fun K hK => ?_) ?_
            · go_simp
              refine hK _ _ ?_
              clear hK K
              refine wpAnyIn_ready (rs := [7]) (by kernel_rfl) (by simp) ?_
              refine AllReadyIn.cons rfl (fun K hK => ?_) ?_
              · go_simp
                refine hK _ _ ?_
                clear hK K
                refine wpAnyIn_ready (rs := [8]) (by kernel_rfl) (by simp) ?_
                refine AllReadyIn.cons rfl (fun K hK => ?_) ?_
                · go_simp
                  refine ⟨trivial, fun h => by simp [Fence.wide] at h, ?_⟩
                  refine (callsIn_wide.2 HSTEP.out).mono ?_
                  rintro e w2 (⟨u, rfl, hy⟩ | ⟨ch, Q2, pre2, rfl, hpan⟩)
                  rotate_left
                  · exact .inr ⟨_, rfl, rfl, Q2, ⟨pre2, hpan.1⟩, hpan.2⟩
                  obtain ⟨fn, tmps, assign, body, hy1, hR⟩ := hy (n - 1)
                  have HRD := Lib.hid hR
                  clear hy hR
                  refine hK _ _ ?_
                  clear hK K
                  refine wpAnyIn_ready (rs := [9]) (by kernel_rfl) (by simp) ?_
                  refine AllReadyIn.cons rfl (fun K hK => ?_) ?_
                  · go_simp
                    refine ⟨fun h => by simp [Fence.wide] at h, ?_⟩
                    refine HRD.out.mono ?_
                    rintro e w3 ⟨rfl, h4⟩
                    have H4 := Lib.hid h4
                    clear h4 hy1 HRD
                    refine hK _ _ ?_
                    clear hK K
                    refine wpAnyIn_ready (rs := [10]) (by kernel_rfl) (by simp) ?_
                    refine AllReadyIn.cons rfl (fun K hK => ?_) ?_
                    · go_simp
                      refine hK _ _ ?_
                      clear hK K
                      refine wpAnyIn_done (by kernel_rfl) ?_ _
                      exact .inl ⟨rfl, ⟨_, _, _, _, _, _, _, _, _, _, _, rfl⟩, H4.out⟩
                    exact AllReadyIn.nil
                  exact AllReadyIn.nil
                exact AllReadyIn.nil
              exact AllReadyIn.nil
            refine AllReadyIn.cons rfl (fun K hK => ?_) ?_
            · go_simp
              refine hK _ _ ?_
              clear hK K
              refine wpAnyIn_ready (rs := [1]) (by kernel_rfl) (by simp) ?_
              refine AllReadyIn.cons rfl (fun K hK => ?_) ?_
              · go_simp
                refine hK _ _ ?_
                clear hK K
                refine wpAnyIn_ready (rs := [8]) (by kernel_rfl) (by simp) ?_
                refine AllReadyIn.cons rfl (fun K hK => ?_) ?_
                · go_simp
                  refine ⟨trivial, fun h => by simp [Fence.wide] at h, ?_⟩
                  refine (callsIn_wide.2 HSTEP.out).mono ?_
                  rintro e w2 (⟨u, rfl, hy⟩ | ⟨ch, Q2, pre2, rfl, hpan⟩)
                  rotate_left
                  · exact .inr ⟨_, rfl, rfl, Q2, ⟨pre2, hpan.1⟩, hpan.2⟩
                  obtain ⟨fn, tmps, assign, body, hy1, hR⟩ := hy (n - 1)
                  have HRD := Lib.hid hR
                  clear hy hR
                  refine hK _ _ ?_
                  clear hK K
                  refine wpAnyIn_ready (rs := [9]) (by kernel_rfl) (by simp) ?_
                  refine AllReadyIn.cons rfl (fun K hK => ?_) ?_
                  · go_simp
                    refine ⟨fun h => by simp [Fence.wide] at h, ?_⟩
                    refine HRD.out.mono ?_
                    rintro e w3 ⟨rfl, h4⟩
                    have H4 := Lib.hid h4
                    clear h4 hy1 HRD
                    refine hK _ _ ?_
                    clear hK K
                    refine wpAnyIn_ready (rs := [10]) (by kernel_rfl) (by simp) ?_
                    refine AllReadyIn.cons rfl (fun K hK => ?_) ?_
                    · go_simp
                      refine hK _ _ ?_
                      clear hK K
                      refine wpAnyIn_done (by kernel_rfl) ?_ _
                      exact .inl ⟨rfl, ⟨_, _, _, _, _, _, _, _, _, _, _, rfl⟩, H4.out⟩
                    exact AllReadyIn.nil
                  exact AllReadyIn.nil
                exact AllReadyIn.nil
              exact AllReadyIn.nil
            exact AllReadyIn.nil
          exact AllReadyIn.nil
        exact AllReadyIn.nil
      · rintro e a' w4 (⟨rfl, ⟨v21, v22, v23, v24, v25, v26, v27, v28, v29, v30, v32, rfl⟩, h4⟩ | ⟨ch, rfl, hd, Q2, pre2, h4, h5⟩)
        · have H4 := Lib.hid h4
          clear h4
          gi_wp2_with fail
          exact ⟨⟨k + 1, by simp, H4⟩, by simp only [intOf]; omega⟩
        · show bodyPost Try.prog Try.f80 (ItPost J (preM (supsM g x) ++ [x.2]) (PEd g kb x S Z W) (PDi g kb x S Z W)) (.panic ch) a' w4
          exact ⟨hd, .inr ⟨ch, Q2, pre2, rfl, h4, h5⟩⟩
    · have hk2 : ((k : Int) < (x.2.length : Int)) = False := by simp; omega
      have hkl : k = x.2.length := by omega
      subst hkl
      have hsl : (supsM g x).length = x.2.length := by simp [supsM]
      have hall : supsM g x = pre.map .ok := by rw [← hpre, List.take_of_length_le (by omega)]
      have hpm : preM (supsM g x) = pre := by rw [hall]; exact pre_all pre
      have hsq : seqM (supsM g x) = .ok pre := by rw [hall]; exact seq_all pre
      have hsr2 : SRow wr (fun b => ¬ Q b ∧ b ≠ kb) (.slice sb x.2.length sc) x.2 := ((HSV.out.mono (Q' := fun b => b < B ∧ b < W.heap.size) fun b hb h => ⟨h, hb⟩).keep (fun b hb _ => hke.block b hb.2 (fun e => e.elim (by have := hH.le.2.2; omega) fun e => by have := (HZ.out _ e).1; omega)) hke.size).mono fun b _ h => ⟨fun hh => (hq b hh).elim (fun e => by have := (HZ.out _ e).1; omega) (by omega), by have := hH.le.2.2; omega⟩
      obtain ⟨fn, tmps, assign, body, hy1, hR⟩ := HYY.out (n - 1) Q pre x.2 _ wr (by rw [hpm]; exact List.prefix_refl _) hj hsr2
      have HEND : Hid (∀ w3, (∃ Q', J Q' (pre ++ [x.2]) w3 ∧ Kp Q Q' wr w3) → ∃ Q', J Q' (preM (supsM g x) ++ [x.2]) w3 ∧ PEd g kb x S Z W Q' w3) := Lib.hid fun w3 h => by
        obtain ⟨Q', h3, h4⟩ := h
        have h5 := h4.keep
        have hkq := (HJJ.out.blocks _ _ _ hj).2
        refine ⟨Q', by rw [hpm]; exact h3, fun b hb => (h4.more b hb).elim (hq b) fun h => .inr (by have := hke.size; omega), ?_, pre, hsq⟩
        refine ((hkn.mono (S' := fun b => ((S b ∨ W.heap.size ≤ b) ∧ ¬ Q b) ∧ b < wr.heap.size) fun b hb hs => ⟨hs, hb⟩).keep (h5.block kb (by have := hke.size; have := HKB.out; omega) hkq) (fun b hs _ hz => h5.block b hz hs.1.2) h5.size).mono fun b _ hs => ⟨hs.1.1, fun hb => (h4.more b hb).elim hs.1.2 (by have := hs.2; omega)⟩
      have HRD := Lib.hid hR
      clear hst hke hj hq hkn hpre hH hHr hsl hall hpm hsq hsr2 hR
      gi_wp2_with fail
      refine ⟨fun h => by simp [Fence.wide] at h, ?_⟩
      refine HRD.out.mono ?_
      rintro e w3 ⟨rfl, h4⟩
      have H4 := Lib.hid (HEND.out w3 h4)
      clear h4 hy1 HRD HEND
      gi_wp2_with fail
      exact bodyPost_end (results_none rfl _ _ _) rfl (.inl ⟨rfl, H4.out⟩)
end Go.Proofs.Ytolopideimnbgaa
