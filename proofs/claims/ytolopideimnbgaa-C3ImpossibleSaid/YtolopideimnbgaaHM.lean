/-
  newMerger: the range over a function that yields lists.
-/
import Derived.Test.YtolopideimnbgaaHL
namespace Go.Proofs.Ytolopideimnbgaa
open Go.RowKit
attribute [local go_sem] Oper.semAt_some

theorem LOwn.mono {w : World} {base : Nat} {Q Q' : Nat → Prop} {v : Value} {ls : List Nms} (h : LOwn w base Q v ls) (hq : ∀ b, b < w.heap.size → Q b → Q' b) : LOwn w base Q' v ls := by
  obtain ⟨us, h1, h2⟩ := h
  refine ⟨us, h1, fun i l hi => ?_⟩
  obtain ⟨u, h3, h4⟩ := h2 i l hi
  exact ⟨u, h3, h4.mono hq⟩
/-- How the iterator ends. -/
def ItPost (J : (Nat → Prop) → List Nms → World → Prop) (LL : List Nms) (Ed : (Nat → Prop) → World → Prop) (Di : List PanicEntry → (Nat → Prop) → World → Prop) (e : Ending) (w' : World) : Prop :=
  (e = .returned (.tuple #[]) ∧ ∃ Q', J Q' LL w' ∧ Ed Q' w') ∨ (∃ ch Q' pre, e = .panicked ch ∧ J Q' pre w' ∧ Di ch Q' w')
/-- How newMerger ends. -/
def NewPost (kb : Nat) (W : World) (LL : List Nms) (Ed : (Nat → Prop) → World → Prop) (Di : List PanicEntry → (Nat → Prop) → World → Prop) (e : Ending) (w' : World) : Prop :=
  Keep (fun b => b = kb) W w' ∧ ((e = .returned (.pointer (some ⟨W.heap.size + 1, 0, none⟩)) ∧ MgAt w' (W.heap.size + 1) W.heap.size (fun b => b ≠ W.heap.size + 1 ∧ b ≠ W.heap.size) (nonE LL) ∧ ∃ Q', Q' (W.heap.size + 1) ∧ Q' W.heap.size ∧ (∀ b, Q' b → W.heap.size ≤ b ∧ b < w'.heap.size) ∧ Ed Q' w') ∨
    (∃ ch Q', e = .panicked ch ∧ (∀ b, Q' b → W.heap.size ≤ b ∧ b < w'.heap.size) ∧ Di ch Q' w'))
def collL (d : Nat) : List Deferred := [{ target := .collected d, args := #[] }]
theorem leave_any {Pq : Ending → World → Prop} (d : Nat) (W : World) (tm : Array Value) (v : Value) (hres : ∀ W, (results Try.f53 tm).run Try.prog W = .ok v W) (hd : W.heap[d]? = some (.deferred (some []))) (h : Pq (.returned v) (W.putObj d (.deferred none))) :
    LeavesInM Fence.wide 3 Try.prog Try.f53 tm Pq (collL d) .returning W := by
  refine ⟨by simp, .inl ⟨_, _, rfl, run_takeDeferred hd, ?_⟩⟩
  simp [LeavesInM, LeavesIn, hres]
  exact h
theorem leave_panic {Pq : Ending → World → Prop} (d : Nat) (W : World) (tm : Array Value) (ch : List PanicEntry) (hd : W.heap[d]? = some (.deferred (some []))) (h : Pq (.panicked ch) (W.putObj d (.deferred none))) :
    LeavesInM Fence.wide 3 Try.prog Try.f53 tm Pq (collL d) (.panicking ch) W := by
  refine ⟨by simp, .inl ⟨_, _, rfl, run_takeDeferred hd, ?_⟩⟩
  simp [LeavesInM, LeavesIn]
  exact h
theorem nw_size {W : World} {kb : Nat} {R : Loop} {Q : Nat → Prop} {pre : List Nms} {w : World} (h : NwJ W kb R Q pre w) : ∀ b, Q b → W.heap.size ≤ b ∧ b < w.heap.size := by
  obtain ⟨v, _, h2, h3⟩ := h.row
  have hz := h.size
  intro b hb
  rcases (h3 b).1 hb with e | e | e | e | e
  · omega
  · omega
  · omega
  · omega
  · have := h2.lt b e; omega
/-- What lies when newMerger comes back. -/
theorem new_end {W w w' : World} {kb : Nat} {R : Loop} {Q : Nat → Prop} {LL : List Nms} (h : NwJ W kb R Q LL w) (hk : Keep (fun b => b = W.heap.size + 3 ∨ b = W.heap.size + 4) w w') (hs : w'.heap.size = w.heap.size) :
    Keep (fun b => b = kb) W w' ∧ MgAt w' (W.heap.size + 1) W.heap.size (fun b => b ≠ W.heap.size + 1 ∧ b ≠ W.heap.size) (nonE LL) ∧ Q (W.heap.size + 1) ∧ Q W.heap.size ∧ (∀ b, Q b → W.heap.size ≤ b ∧ b < w'.heap.size) ∧ Keep Q w w' := by
  obtain ⟨v, h1, h2, h3⟩ := h.row
  have hz := h.size
  have hkq : Keep Q w w' := hk.mono fun b _ e => e.elim (fun e => (h3 b).2 (.inr (.inr (.inl e)))) fun e => (h3 b).2 (.inr (.inr (.inr (.inl e))))
  refine ⟨h.keep.trans' (T := Q) hkq fun b hb => .inr (nw_size h b hb).1, ⟨by omega, ⟨by simp, by simp⟩, ⟨v, (hk.block _ (by omega) (by omega)).trans h1, ?_⟩, (h.cnt.ext fun s => (behM_nonE s _).symm).keep (hk.block _ (by omega) (by omega)), nonE_ne⟩, (h3 _).2 (.inr (.inl rfl)), (h3 _).2 (.inl rfl), fun b hb => by rw [hs]; exact nw_size h b hb, hkq⟩
  have hrow : LRow w' (fun b => b ≠ W.heap.size + 1 ∧ b ≠ W.heap.size) v (nonE LL) := by
    have h4 : LOwn w' (W.heap.size + 5) (fun b => ¬ Q b ∧ b ≠ kb) v (nonE LL) := h2.keep (fun k e => hk.block k (h2.lt k e).2 (by have := h2.lt k e; omega)) (fun b hb hz => hkq.block b hz hb.1) hk.size
    exact h4.lrow (fun b _ hq => ⟨fun e => hq.1 ((h3 b).2 (.inr (.inl e))), fun e => hq.1 ((h3 b).2 (.inl e))⟩) fun b hb _ => by omega
  exact hrow
set_option maxRecDepth 100000 in
set_option maxHeartbeats 8000000 in
theorem newMerger_run (gf : Nat) (lb : Array Value) (kb : Nat) (LL : List Nms) (W : World) (Ed : (Nat → Prop) → World → Prop) (Di : List PanicEntry → (Nat → Prop) → World → Prop)
    (eg : ∀ args w, (callFunc gf args).run Try.prog w = .ok (.enter gf args) w) (hkb : kb < W.heap.size) (hLL : totM LL ≤ 1073741824) (hLn : LL.length ≤ 1000)
    (HIT : ∀ n lp J Q W1, BOk kb J → YOk kb lp J LL → J Q [] W1 → Below W.heap.size W W1 → (∀ b, Q b → W.heap.size ≤ b) → CallsIn Fence.wide n Try.prog gf (#[.func (.yield lp) #[] #[]] ++ lb) W1 (ItPost J LL Ed Di))
    (hEd : ∀ Q w w', Ed Q w → Keep Q w w' → Ed Q w') (hDi : ∀ ch Q w w', Di ch Q w → Keep Q w w' → Di ch Q w') :
    CallsIn Fence.wide 3 Try.prog 53 #[.func (.func gf) #[] lb] W (NewPost kb W LL Ed Di) := by
  have hmm := run_makeMap (P := Try.prog) 96 W
  have HITH := Lib.hid HIT
  have HED := Lib.hid hEd
  have HDI := Lib.hid hDi
  have HEG := Lib.hid eg
  clear HIT hEd hDi
  refine callsIn_of_wp_marks Try.func53 rfl trivial ?_ rfl
  simp only [Try.ntmps53, List.size_toArray, List.length_cons, List.length_nil, Nat.reduceAdd, Nat.reduceSub, Array.replicate_succ,
     Array.replicate_zero, List.push_toArray, List.append_toArray, List.nil_append, List.cons_append]
  gi_wp2_with fail
  refine range_own rfl (by omega) (gf := gf) (lb := lb) rfl trivial eg ?_
  intro fn R _ hR
  have rs : R.state = .ready := by rw [hR]
  have rp : R.pending = none := by rw [hR]
  have rq : R.params = #[11] := by rw [hR]
  have rt := congrArg Loop.tmps hR
  have ra := congrArg Loop.assign hR
  have rb := congrArg Loop.body hR
  simp only at rt ra rb
  clear hR hmm eg
  simp only [World.size_alloc, Nat.add_assoc, Nat.reduceAdd] at rt ⊢
  obtain ⟨f0, f1, f2, f3, f4, fs⟩ := heap4 W (.map #[] 0) (.cells #[.slice none 0 0, .map (some W.heap.size)] 105) (.cells #[.pointer (some ⟨W.heap.size + 1, 0, none⟩)] 74) (.deferred (some [])) (.loop R)
  obtain ⟨W0, hW0⟩ : ∃ W0, W0 = (((((W.alloc (.map #[] 0)).alloc (.cells #[.slice none 0 0, .map (some W.heap.size)] 105)).alloc (.cells #[.pointer (some ⟨W.heap.size + 1, 0, none⟩)] 74)).alloc (.deferred (some []))).alloc (.loop R)) := ⟨_, rfl⟩
  have hB0 : Below W.heap.size W W0 := by
    rw [hW0]
    exact (((((Below.refl _ W).alloc (Nat.le_refl _) _).alloc (by simp) _).alloc (by simp; omega) _).alloc (by simp; omega) _).alloc (by simp; omega) _
  rw [← hW0] at f0 f1 f2 f3 f4 fs ⊢
  have hJ0 : NwJ W kb R (fun b => (b = W.heap.size ∨ b = W.heap.size + 1 ∨ b = W.heap.size + 3 ∨ b = W.heap.size + 4 ∨ (Value.slice none 0 0).ownBlock = some b)) [] W0 :=
    ⟨⟨_, f1, LOwn.nil _ _ _, fun b => Iff.rfl⟩, ⟨fun _ => none, ⟨#[], 0, f0, by simp, fun s => rfl⟩, fun s => rfl⟩, f2, f3, f4, Keep.of_below hB0, by omega⟩
  refine (HITH.out 2 (W.heap.size + 4) (NwJ W kb R) _ W0 (nwJ_ok W kb R hkb) ?hy hJ0 hB0 (fun b hb => (nw_size hJ0 b hb).1)).mono ?_
  case hy =>
    clear hJ0 f0 f1 f2 f3 f4 fs hB0 hW0 HITH HED HDI
    intro m Q pre l u W1 hpre hj hu
    obtain ⟨Rb, hRb⟩ : ∃ Rb : Loop, Rb = { R with state := .busy } := ⟨_, rfl⟩
    refine yield_own (R := R) hRb trivial hj.loop rs rp (by rw [rq]; rfl) ?_
    have HJ := Lib.hid hj
    have HLS := Lib.hid (list_sub hpre)
    obtain ⟨v, hv, hlo, hqq⟩ := hj.row
    obtain ⟨va, vc, rfl⟩ := hlo.len
    have hz := hj.size
    obtain ⟨ub, uc, rfl, hur⟩ := id hu
    have HU := Lib.hid hu
    rw [ra, rt, rq]
    have RB := Lib.hid rb
    clear ra rt rq rb rs rp hRb hpre hu
    simp only [List.zip_toArray, List.zip_cons_cons, List.zip_nil_right, List.foldl_toArray, List.foldl_cons, List.foldl_nil, List.setIfInBounds_toArray, List.set_cons_zero, List.set_cons_succ]
    gi_wp2_with fail
    refine ⟨HJ.out.loop, ?_⟩
    rw [RB.out]
    clear RB
    obtain ⟨W5, hW5⟩ : ∃ W5, W5 = W1.putObj (W.heap.size + 4) (.loop Rb) := ⟨_, rfl⟩
    rw [← hW5]
    have s5 : W5.heap.size = W1.heap.size := by rw [hW5]; simp
    have k5 : ∀ b, b ≠ W.heap.size + 4 → W5.heap[b]? = W1.heap[b]? := fun b h => by rw [hW5]; exact World.putObj_heap_other h
    have L5 : Hid (W5.heap[W.heap.size + 4]? = some (.loop Rb)) := Lib.hid (by rw [hW5]; exact World.putObj_heap_same (by omega))
    cases l with
    | nil =>
      have HNX : Hid (RPost (NwJ W kb R) Q (pre ++ [[]]) W1 (.returned (.bool true)) (W5.putObj (W.heap.size + 4) (.loop R))) := Lib.hid (by
        have hQ4 : Q (W.heap.size + 4) := (hqq _).2 (.inr (.inr (.inr (.inl rfl))))
        have hk : Keep Q W1 (W5.putObj (W.heap.size + 4) (.loop R)) := by rw [hW5]; exact ((Keep.refl Q W1).putObj (.inl hQ4) _).putObj (.inl hQ4) _
        have hko : ∀ b, b ≠ W.heap.size + 4 → (W5.putObj (W.heap.size + 4) (.loop R)).heap[b]? = W1.heap[b]? := fun b h => (World.putObj_heap_other h).trans (k5 b h)
        have hne : nonE (pre ++ [[]]) = nonE pre := by rw [nonE_snoc, if_pos rfl, List.append_nil]
        refine ⟨rfl, Q, ⟨⟨_, (hko _ (by omega)).trans hv, by rw [hne]; exact hlo.keep (fun k e => hko k (by have := (hlo.lt k e).1; omega)) (fun b hb hz => hk.block b hz hb.1) hk.size, hqq⟩, (hj.cnt.keep (hko _ (by omega))).ext fun s => by rw [behM_app]; simp [behM, cntL], (hko _ (by omega)).trans hj.box, (hko _ (by omega)).trans hj.defd, World.putObj_heap_same (by omega), hj.keep.trans' (T := Q) hk fun b hb => .inr (nw_size hj b hb).1, by simp; omega⟩, hk, fun b hb => .inl hb⟩)
      clear hj hlo hqq hv hur k5 hW5
      gi_wp2_with fail
      exact ⟨L5.out, HNX.out⟩
    | cons x t =>
      have hlen : (x :: t).length = t.length + 1 := rfl
      have hQ1 : Q (W.heap.size + 1) := (hqq _).2 (.inr (.inl rfl))
      have hm5 : W5.heap[W.heap.size + 1]? = some (.cells #[.slice va (nonE pre).length vc, .map (some W.heap.size)] 105) := (k5 _ (by omega)).trans hv
      have hx5 : W5.heap[W.heap.size + 2]? = some (.cells #[.pointer (some ⟨W.heap.size + 1, 0, none⟩)] 74) := (k5 _ (by omega)).trans hj.box
      have hlo5 : LOwn W5 (W.heap.size + 5) (fun b => (¬ Q b ∧ b ≠ kb) ∧ b < W5.heap.size) (.slice va (nonE pre).length vc) (nonE pre) := (hlo.mono (Q' := fun b => (¬ Q b ∧ b ≠ kb) ∧ b < W5.heap.size) fun b hb hq => ⟨hq, by omega⟩).keep (fun k e => k5 k (by have := (hlo.lt k e).1; omega)) (fun b hb _ => k5 b fun e => hb.1.1 ((hqq b).2 (.inr (.inr (.inr (.inl e)))))) (by omega)
      have hsr5 : SRow W5 (fun b => (¬ Q b ∧ b ≠ kb) ∧ b < W5.heap.size) (.slice ub (x :: t).length uc) (x :: t) := (HU.out.mono (Q' := fun b => (¬ Q b ∧ b ≠ kb) ∧ b < W5.heap.size) fun b hb hq => ⟨hq, by omega⟩).keep (fun b hb _ => k5 b fun e => hb.1.1 ((hqq b).2 (.inr (.inr (.inr (.inl e)))))) (by omega)
      obtain ⟨D, hD⟩ : ∃ D, D = W5.drew := ⟨_, rfl⟩
      have hbD : Below W5.heap.size W5 D := by rw [hD]; exact (Below.refl _ W5).drew
      have hsD : D.heap.size = W5.heap.size := by rw [hD]; rfl
      obtain ⟨O, hO⟩ : ∃ O, O = Obj.cells #[.slice ub (t.length + 1) uc] 24 := ⟨_, rfl⟩
      have hbB : Below W5.heap.size W5 (D.alloc O) := hbD.alloc (by omega) O
      have d0 : D.cell? ⟨W.heap.size + 2, 0, none⟩ = some (.pointer (some ⟨W.heap.size + 1, 0, none⟩)) := (hbD.cell (p := ⟨W.heap.size + 2, 0, none⟩) (show W.heap.size + 2 < W5.heap.size by omega)).trans (by rw [cellOf hx5]; rfl)
      have d1 : (D.alloc O).cell? ⟨W.heap.size + 2, 0, none⟩ = some (.pointer (some ⟨W.heap.size + 1, 0, none⟩)) := (hbB.cell (p := ⟨W.heap.size + 2, 0, none⟩) (show W.heap.size + 2 < W5.heap.size by omega)).trans (by rw [cellOf hx5]; rfl)
      have d2 : D.cell? ⟨W.heap.size + 1, 0, none⟩ = some (.slice va (nonE pre).length vc) := (hbD.cell (p := ⟨W.heap.size + 1, 0, none⟩) (show W.heap.size + 1 < W5.heap.size by omega)).trans (by rw [cellOf hm5]; rfl)
      have d3 : (D.alloc O).cell? ⟨W.heap.size + 1, 0, none⟩ = some (.slice va (nonE pre).length vc) := (hbB.cell (p := ⟨W.heap.size + 1, 0, none⟩) (show W.heap.size + 1 < W5.heap.size by omega)).trans (by rw [cellOf hm5]; rfl)
      have HLOB := Lib.hid (hlo5.below hbB)
      have HSRB := Lib.hid (hsr5.below hbB)
      have HSZB : Hid ((D.alloc O).heap.size = W5.heap.size + 1) := Lib.hid (by simp [hsD])
      have HBXB : Hid ((D.alloc O).heap[W5.heap.size]? = some (.cells #[.slice ub (x :: t).length uc] 24)) := Lib.hid (by rw [← hsD, hO]; exact heap_alloc_new D _)
      have HRQ : Hid (∀ b, ((¬ Q b ∧ b ≠ kb) ∧ b < W5.heap.size) → (Value.slice va (nonE pre).length vc).ownBlock ≠ some b) := Lib.hid fun b hb e => hb.1.1 ((hqq b).2 (.inr (.inr (.inr (.inr e)))))
      have HNE : Hid ((nonE pre).length + 1 ≤ 1099511627776) := Lib.hid (by
        have h1 : (nonE pre).length ≤ pre.length := List.length_filter_le _ _
        have := HLS.out.2; omega)
      have HBSE : Hid (W.heap.size + 5 ≤ (D.alloc O).heap.size) := Lib.hid (by rw [HSZB.out]; omega)
      have HFIN : Hid (∀ g cap w7, LOwn w7 (W.heap.size + 5) (fun b => (¬ Q b ∧ b ≠ kb) ∧ b < W5.heap.size) (.slice (some ⟨g, 0, none⟩) ((nonE pre).length + 1) cap) (nonE pre ++ [x :: t]) → (D.alloc O).grownBy w7 (Value.slice va (nonE pre).length vc).ownBlock → ((Value.slice va (nonE pre).length vc).ownBlock = some g ∨ g = W5.heap.size + 1) →
          w7.cell? ⟨W.heap.size + 1, 0, none⟩ = some (.slice va (nonE pre).length vc) ∧ w7.frozen? ⟨W.heap.size + 1, 0, none⟩ = false ∧ w7.cell? ⟨W.heap.size + 2, 0, none⟩ = some (.pointer (some ⟨W.heap.size + 1, 0, none⟩)) ∧ MidR W5 (W.heap.size + 1) W.heap.size (W.heap.size + 5) kb Q (.slice va (nonE pre).length vc) (nonE pre ++ [x :: t]) (w7.setCell ⟨W.heap.size + 1, 0, none⟩ (.slice (some ⟨g, 0, none⟩) ((nonE pre).length + 1) cap))) := Lib.hid (by
        intro g cap w7 h1 h2 h3
        rw [hD] at h2
        have h4 := mid_of (kb := kb) hm5 (by omega) hQ1 (hlo5.mono fun b _ h => h.1) h1 h2 h3
        refine ⟨by rw [cellOf h4.1]; rfl, frozenOf h4.1, ?_, h4.2⟩
        rw [← hD] at h2
        exact (World.cell?_of_block (w := W5) (a := ⟨W.heap.size + 2, 0, none⟩) ((h2.block (W.heap.size + 2) (by rw [HSZB.out]; omega) fun e => by have := (hlo.lt _ e.symm).1; omega).trans (hbB.block (W.heap.size + 2) (by omega)))).trans (by rw [cellOf hx5]; rfl))
      have hsub := sub_run1 ub (t.length + 1) uc (by omega)
      have HTAIL : Hid (SRow W5 (fun b => (¬ Q b ∧ b ≠ kb) ∧ b < W5.heap.size) (subS ub (t.length + 1) uc 1) t) := Lib.hid (SRow.sub (l := x :: t) hsr5 (b := 1) (by simp))
      have HV := Lib.hid hv
      have HW5 := Lib.hid hW5
      have HQQ := Lib.hid hqq
      have HS5 := Lib.hid s5
      have HOO := Lib.hid hO
      clear hj hlo hqq hv hur k5 hW5 hm5 hx5 hlo5 hsr5 hbD hbB hQ1 s5
      simp only [hlen]
      gi_wp2_with fail
      refine wpIn_mono (Q := fun e a' w' => e = .normal ∧ (∃ v15 v16 v17 v18 v19 v20 v21 v22 v23 v24, a' = { tmps := #[.func (.func gf) #[] lb, undef, .pointer none, .pointer (some ⟨W.heap.size + 2, 0, none⟩), .slice ub (t.length + 1) uc, undef, undef, .map (some W.heap.size), .agg #[.slice none 0 0, .map (some W.heap.size)], .pointer (some ⟨W.heap.size + 1, 0, none⟩), .func (.func gf) #[] lb, .slice ub (t.length + 1) uc, .slice ub (t.length + 1) uc, .int .i64 ((t.length : Int) + 1), .bool false, v15, v16, v17, v18, v19, v20, v21, v22, v23, v24, undef, undef, undef, undef, undef, undef, undef, undef, undef, undef, undef, undef, undef, undef, undef, undef], defers := [] }) ∧ MidR W5 (W.heap.size + 1) W.heap.size (W.heap.size + 5) kb Q (.slice va (nonE pre).length vc) (nonE pre ++ [x :: t]) w') ?_ ?_
      · refine region_any_round rfl (by kernel_rfl) (by kernel_rfl) ?_
        have e0 : W5.cell? ⟨W.heap.size + 2, 0, none⟩ = some (.pointer (some ⟨W.heap.size + 1, 0, none⟩)) := by have := d0; rw [hD] at this; exact this
        have e2 : W5.cell? ⟨W.heap.size + 1, 0, none⟩ = some (.slice va (nonE pre).length vc) := by have := d2; rw [hD] at this; exact this
        have hO := HOO.out
        subst hD
        subst hO
        have e1 : (W5.alloc (.cells #[.slice ub (t.length + 1) uc] 24)).cell? ⟨W.heap.size + 2, 0, none⟩ = some (.pointer (some ⟨W.heap.size + 1, 0, none⟩)) := d1
        have e3 : (W5.alloc (.cells #[.slice ub (t.length + 1) uc] 24)).cell? ⟨W.heap.size + 1, 0, none⟩ = some (.slice va (nonE pre).length vc) := d3
        clear d0 d1 d2 d3
        refine wpAnyIn_take (i := 5) (v := ?_) rfl rfl (by kernel_rfl) (by kernel_rfl) (by kernel_rfl) (fun _ _ _ h => nomatch h.1) ⟨Or.inl ⟨by rfl, ?_⟩, fun _ => rfl⟩ ?_
        rotate_left
        · (intro w; go_simp); try with_reducible rfl
        refine wpAnyIn_ready (rs := [0, 1, 6]) (by kernel_rfl) (by simp) ?_
        refine AllReadyIn.cons rfl (fun K hK => ?_) ?_
        · go_simp
          refine hK _ _ ?_
          clear hK K
          refine wpAnyIn_ready (rs := [1, 6]) (by kernel_rfl) (by simp) ?_
          refine AllReadyIn.cons rfl (fun K hK => ?_) ?_
          · go_simp
            refine hK _ _ ?_
            clear hK K
            refine wpAnyIn_take (i := 2) (v := ?_) rfl rfl (by kernel_rfl) (by kernel_rfl) (by kernel_rfl) (fun _ _ _ h => nomatch h.1) ⟨Or.inl ⟨by rfl, ?_⟩, fun _ => rfl⟩ ?_
            rotate_left
            · (intro w; go_simp); try with_reducible rfl
            refine wpAnyIn_take (i := 3) (v := ?_) rfl rfl (by kernel_rfl) (by kernel_rfl) (by kernel_rfl) (fun _ _ _ h => nomatch h.1) ⟨Or.inl ⟨by rfl, ?_⟩, fun _ => rfl⟩ ?_
            rotate_left
            · (intro w; go_simp); try with_reducible rfl
            refine wpAnyIn_ready (rs := [4, 6]) (by kernel_rfl) (by simp) ?_
            refine AllReadyIn.cons rfl (fun K hK => ?_) ?_
            · go_simp
              refine hK _ _ ?_
              clear hK K
              refine wpAnyIn_ready (rs := [6]) (by kernel_rfl) (by simp) ?_
              refine AllReadyIn.cons rfl (fun K hK => ?_) ?_
              · go_simp
                refine hK _ _ ?_
                clear hK K
                refine wpAnyIn_ready (rs := [7]) (by kernel_rfl) (by simp) ?_
                refine AllReadyIn.cons rfl (fun K hK => ?_) ?_
                · refine stepIn_append_lst rfl (.tmp 19) (.tmp 21) rfl (W.heap.size + 5) (fun b => (¬ Q b ∧ b ≠ kb) ∧ b < W5.heap.size) (.slice va (nonE pre).length vc) (nonE pre) (by rfl) HLOB.out _ _ ub uc (x :: t) (by rfl) HBXB.out HSRB.out HRQ.out HNE.out HBSE.out (W5.heap.size + 1) HSZB.out ?_
                  intro g7 cap7 w7 hown7 hgr7 hat7
                  obtain ⟨c7, f7, b7, hmd⟩ := HFIN.out _ _ _ hown7 hgr7 hat7
                  have HMD := Lib.hid hmd
                  clear hown7 hgr7 hat7 hmd
                  refine hK _ _ ?_
                  clear hK K
                  refine wpAnyIn_take (i := 8) (v := ?_) rfl rfl (by kernel_rfl) (by kernel_rfl) (by kernel_rfl) (fun _ _ _ h => nomatch h.1) ⟨Or.inl ⟨by rfl, ?_⟩, fun _ => rfl⟩ ?_
                  rotate_left
                  · (intro w; go_simp); try with_reducible rfl
                  refine wpAnyIn_take (i := 9) (v := ?_) rfl rfl (by kernel_rfl) (by kernel_rfl) (by kernel_rfl) (fun _ _ _ h => nomatch h.1) ⟨Or.inl ⟨by rfl, ?_⟩, fun _ => rfl⟩ ?_
                  rotate_left
                  · (intro w; go_simp); try with_reducible rfl
                  refine wpAnyIn_ready (rs := [10]) (by kernel_rfl) (by simp) ?_
                  refine AllReadyIn.cons rfl (fun K hK => ?_) ?_
                  · go_simp
                    refine hK _ _ ?_
                    clear hK K
                    refine wpAnyIn_done (by kernel_rfl) ?_ _
                    exact ⟨rfl, ⟨_, _, _, _, _, _, _, _, _, _, rfl⟩, HMD.out⟩
                  exact AllReadyIn.nil
                exact AllReadyIn.nil
              exact AllReadyIn.nil
            refine AllReadyIn.cons rfl (fun K hK => ?_) ?_
            · go_simp
              refine hK _ _ ?_
              clear hK K
              refine wpAnyIn_ready (rs := [4]) (by kernel_rfl) (by simp) ?_
              refine AllReadyIn.cons rfl (fun K hK => ?_) ?_
              · go_simp
                refine hK _ _ ?_
                clear hK K
                refine wpAnyIn_ready (rs := [7]) (by kernel_rfl) (by simp) ?_
                refine AllReadyIn.cons rfl (fun K hK => ?_) ?_
                · refine stepIn_append_lst rfl (.tmp 19) (.tmp 21) rfl (W.heap.size + 5) (fun b => (¬ Q b ∧ b ≠ kb) ∧ b < W5.heap.size) (.slice va (nonE pre).length vc) (nonE pre) (by rfl) HLOB.out _ _ ub uc (x :: t) (by rfl) HBXB.out HSRB.out HRQ.out HNE.out HBSE.out (W5.heap.size + 1) HSZB.out ?_
                  intro g7 cap7 w7 hown7 hgr7 hat7
                  obtain ⟨c7, f7, b7, hmd⟩ := HFIN.out _ _ _ hown7 hgr7 hat7
                  have HMD := Lib.hid hmd
                  clear hown7 hgr7 hat7 hmd
                  refine hK _ _ ?_
                  clear hK K
                  refine wpAnyIn_take (i := 8) (v := ?_) rfl rfl (by kernel_rfl) (by kernel_rfl) (by kernel_rfl) (fun _ _ _ h => nomatch h.1) ⟨Or.inl ⟨by rfl, ?_⟩, fun _ => rfl⟩ ?_
                  rotate_left
                  · (intro w; go_simp); try with_reducible rfl
                  refine wpAnyIn_take (i := 9) (v := ?_) rfl rfl (by kernel_rfl) (by kernel_rfl) (by kernel_rfl) (fun _ _ _ h => nomatch h.1) ⟨Or.inl ⟨by rfl, ?_⟩, fun _ => rfl⟩ ?_
                  rotate_left
                  · (intro w; go_simp); try with_reducible rfl
                  refine wpAnyIn_ready (rs := [10]) (by kernel_rfl) (by simp) ?_
                  refine AllReadyIn.cons rfl (fun K hK => ?_) ?_
                  · go_simp
                    refine hK _ _ ?_
                    clear hK K
                    refine wpAnyIn_done (by kernel_rfl) ?_ _
                    exact ⟨rfl, ⟨_, _, _, _, _, _, _, _, _, _, rfl⟩, HMD.out⟩
                  exact AllReadyIn.nil
                exact AllReadyIn.nil
              exact AllReadyIn.nil
            exact AllReadyIn.nil
          refine AllReadyIn.cons rfl (fun K hK => ?_) ?_
          · go_simp
            refine hK _ _ ?_
            clear hK K
            refine wpAnyIn_ready (rs := [1]) (by kernel_rfl) (by simp) ?_
            refine AllReadyIn.cons rfl (fun K hK => ?_) ?_
            · go_simp
              refine hK _ _ ?_
              clear hK K
              refine wpAnyIn_take (i := 2) (v := ?_) rfl rfl (by kernel_rfl) (by kernel_rfl) (by kernel_rfl) (fun _ _ _ h => nomatch h.1) ⟨Or.inl ⟨by rfl, ?_⟩, fun _ => rfl⟩ ?_
              rotate_left
              · (intro w; go_simp); try with_reducible rfl
              refine wpAnyIn_take (i := 3) (v := ?_) rfl rfl (by kernel_rfl) (by kernel_rfl) (by kernel_rfl) (fun _ _ _ h => nomatch h.1) ⟨Or.inl ⟨by rfl, ?_⟩, fun _ => rfl⟩ ?_
              rotate_left
              · (intro w; go_simp); try with_reducible rfl
              refine wpAnyIn_ready (rs := [4]) (by kernel_rfl) (by simp) ?_
              refine AllReadyIn.cons rfl (fun K hK => ?_) ?_
              · go_simp
                refine hK _ _ ?_
                clear hK K
                refine wpAnyIn_ready (rs := [7]) (by kernel_rfl) (by simp) ?_
                refine AllReadyIn.cons rfl (fun K hK => ?_) ?_
                · refine stepIn_append_lst rfl (.tmp 19) (.tmp 21) rfl (W.heap.size + 5) (fun b => (¬ Q b ∧ b ≠ kb) ∧ b < W5.heap.size) (.slice va (nonE pre).length vc) (nonE pre) (by rfl) HLOB.out _ _ ub uc (x :: t) (by rfl) HBXB.out HSRB.out HRQ.out HNE.out HBSE.out (W5.heap.size + 1) HSZB.out ?_
                  intro g7 cap7 w7 hown7 hgr7 hat7
                  obtain ⟨c7, f7, b7, hmd⟩ := HFIN.out _ _ _ hown7 hgr7 hat7
                  have HMD := Lib.hid hmd
                  clear hown7 hgr7 hat7 hmd
                  refine hK _ _ ?_
                  clear hK K
                  refine wpAnyIn_take (i := 8) (v := ?_) rfl rfl (by kernel_rfl) (by kernel_rfl) (by kernel_rfl) (fun _ _ _ h => nomatch h.1) ⟨Or.inl ⟨by rfl, ?_⟩, fun _ => rfl⟩ ?_
                  rotate_left
                  · (intro w; go_simp); try with_reducible rfl
                  refine wpAnyIn_take (i := 9) (v := ?_) rfl rfl (by kernel_rfl) (by kernel_rfl) (by kernel_rfl) (fun _ _ _ h => nomatch h.1) ⟨Or.inl ⟨by rfl, ?_⟩, fun _ => rfl⟩ ?_
                  rotate_left
                  · (intro w; go_simp); try with_reducible rfl
                  refine wpAnyIn_ready (rs := [10]) (by kernel_rfl) (by simp) ?_
                  refine AllReadyIn.cons rfl (fun K hK => ?_) ?_
                  · go_simp
                    refine hK _ _ ?_
                    clear hK K
                    refine wpAnyIn_done (by kernel_rfl) ?_ _
                    exact ⟨rfl, ⟨_, _, _, _, _, _, _, _, _, _, rfl⟩, HMD.out⟩
                  exact AllReadyIn.nil
                exact AllReadyIn.nil
              exact AllReadyIn.nil
            exact AllReadyIn.nil
          exact AllReadyIn.nil
        refine AllReadyIn.cons rfl (fun K hK => ?_) ?_
        · go_simp
          refine hK _ _ ?_
          clear hK K
          refine wpAnyIn_take (i := 2) (v := ?_) rfl rfl (by kernel_rfl) (by kernel_rfl) (by kernel_rfl) (fun _ _ _ h => nomatch h.1) ⟨Or.inl ⟨by rfl, ?_⟩, fun _ => rfl⟩ ?_
          rotate_left
          · (intro w; go_simp); try with_reducible rfl
          refine wpAnyIn_take (i := 3) (v := ?_) rfl rfl (by kernel_rfl) (by kernel_rfl) (by kernel_rfl) (fun _ _ _ h => nomatch h.1) ⟨Or.inl ⟨by rfl, ?_⟩, fun _ => rfl⟩ ?_
          rotate_left
          · (intro w; go_simp); try with_reducible rfl
          refine wpAnyIn_ready (rs := [0, 4, 6]) (by kernel_rfl) (by simp) ?_
          refine AllReadyIn.cons rfl (fun K hK => ?_) ?_
          · go_simp
            refine hK _ _ ?_
            clear hK K
            refine wpAnyIn_ready (rs := [4, 6]) (by kernel_rfl) (by simp) ?_
            refine AllReadyIn.cons rfl (fun K hK => ?_) ?_
            · go_simp
              refine hK _ _ ?_
              clear hK K
              refine wpAnyIn_ready (rs := [6]) (by kernel_rfl) (by simp) ?_
              refine AllReadyIn.cons rfl (fun K hK => ?_) ?_
              · go_simp
                refine hK _ _ ?_
                clear hK K
                refine wpAnyIn_ready (rs := [7]) (by kernel_rfl) (by simp) ?_
                refine AllReadyIn.cons rfl (fun K hK => ?_) ?_
                · refine stepIn_append_lst rfl (.tmp 19) (.tmp 21) rfl (W.heap.size + 5) (fun b => (¬ Q b ∧ b ≠ kb) ∧ b < W5.heap.size) (.slice va (nonE pre).length vc) (nonE pre) (by rfl) HLOB.out _ _ ub uc (x :: t) (by rfl) HBXB.out HSRB.out HRQ.out HNE.out HBSE.out (W5.heap.size + 1) HSZB.out ?_
                  intro g7 cap7 w7 hown7 hgr7 hat7
                  obtain ⟨c7, f7, b7, hmd⟩ := HFIN.out _ _ _ hown7 hgr7 hat7
                  have HMD := Lib.hid hmd
                  clear hown7 hgr7 hat7 hmd
                  refine hK _ _ ?_
                  clear hK K
                  refine wpAnyIn_take (i := 8) (v := ?_) rfl rfl (by kernel_rfl) (by kernel_rfl) (by kernel_rfl) (fun _ _ _ h => nomatch h.1) ⟨Or.inl ⟨by rfl, ?_⟩, fun _ => rfl⟩ ?_
                  rotate_left
                  · (intro w; go_simp); try with_reducible rfl
                  refine wpAnyIn_take (i := 9) (v := ?_) rfl rfl (by kernel_rfl) (by kernel_rfl) (by kernel_rfl) (fun _ _ _ h => nomatch h.1) ⟨Or.inl ⟨by rfl, ?_⟩, fun _ => rfl⟩ ?_
                  rotate_left
                  · (intro w; go_simp); try with_reducible rfl
                  refine wpAnyIn_ready (rs := [10]) (by kernel_rfl) (by simp) ?_
                  refine AllReadyIn.cons rfl (fun K hK => ?_) ?_
                  · go_simp
                    refine hK _ _ ?_
                    clear hK K
                    refine wpAnyIn_done (by kernel_rfl) ?_ _
                    exact ⟨rfl, ⟨_, _, _, _, _, _, _, _, _, _, rfl⟩, HMD.out⟩
                  exact AllReadyIn.nil
                exact AllReadyIn.nil
              exact AllReadyIn.nil
            refine AllReadyIn.cons rfl (fun K hK => ?_) ?_
            · go_simp
              refine hK _ _ ?_
              clear hK K
              refine wpAnyIn_ready (rs := [4]) (by kernel_rfl) (by simp) ?_
              refine AllReadyIn.cons rfl (fun K hK => ?_) ?_
              · go_simp
                refine hK _ _ ?_
                clear hK K
                refine wpAnyIn_ready (rs := [7]) (by kernel_rfl) (by simp) ?_
                refine AllReadyIn.cons rfl (fun K hK => ?_) ?_
                · refine stepIn_append_lst rfl (.tmp 19) (.tmp 21) rfl (W.heap.size + 5) (fun b => (¬ Q b ∧ b ≠ kb) ∧ b < W5.heap.size) (.slice va (nonE pre).length vc) (nonE pre) (by rfl) HLOB.out _ _ ub uc (x :: t) (by rfl) HBXB.out HSRB.out HRQ.out HNE.out HBSE.out (W5.heap.size + 1) HSZB.out ?_
                  intro g7 cap7 w7 hown7 hgr7 hat7
                  obtain ⟨c7, f7, b7, hmd⟩ := HFIN.out _ _ _ hown7 hgr7 hat7
                  have HMD := Lib.hid hmd
                  clear hown7 hgr7 hat7 hmd
                  refine hK _ _ ?_
                  clear hK K
                  refine wpAnyIn_take (i := 8) (v := ?_) rfl rfl (by kernel_rfl) (by kernel_rfl) (by kernel_rfl) (fun _ _ _ h => nomatch h.1) ⟨Or.inl ⟨by rfl, ?_⟩, fun _ => rfl⟩ ?_
                  rotate_left
                  · (intro w; go_simp); try with_reducible rfl
                  refine wpAnyIn_take (i := 9) (v := ?_) rfl rfl (by kernel_rfl) (by kernel_rfl) (by kernel_rfl) (fun _ _ _ h => nomatch h.1) ⟨Or.inl ⟨by rfl, ?_⟩, fun _ => rfl⟩ ?_
                  rotate_left
                  · (intro w; go_simp); try with_reducible rfl
                  refine wpAnyIn_ready (rs := [10]) (by kernel_rfl) (by simp) ?_
                  refine AllReadyIn.cons rfl (fun K hK => ?_) ?_
                  · go_simp
                    refine hK _ _ ?_
                    clear hK K
                    refine wpAnyIn_done (by kernel_rfl) ?_ _
                    exact ⟨rfl, ⟨_, _, _, _, _, _, _, _, _, _, rfl⟩, HMD.out⟩
                  exact AllReadyIn.nil
                exact AllReadyIn.nil
              exact AllReadyIn.nil
            exact AllReadyIn.nil
          refine AllReadyIn.cons rfl (fun K hK => ?_) ?_
          · go_simp
            refine hK _ _ ?_
            clear hK K
            refine wpAnyIn_ready (rs := [0, 6]) (by kernel_rfl) (by simp) ?_
            refine AllReadyIn.cons rfl (fun K hK => ?_) ?_
            · go_simp
              refine hK _ _ ?_
              clear hK K
              refine wpAnyIn_ready (rs := [6]) (by kernel_rfl) (by simp) ?_
              refine AllReadyIn.cons rfl (fun K hK => ?_) ?_
              · go_simp
                refine hK _ _ ?_
                clear hK K
                refine wpAnyIn_ready (rs := [7]) (by kernel_rfl) (by simp) ?_
                refine AllReadyIn.cons rfl (fun K hK => ?_) ?_
                · refine stepIn_append_lst rfl (.tmp 19) (.tmp 21) rfl (W.heap.size + 5) (fun b => (¬ Q b ∧ b ≠ kb) ∧ b < W5.heap.size) (.slice va (nonE pre).length vc) (nonE pre) (by rfl) HLOB.out _ _ ub uc (x :: t) (by rfl) HBXB.out HSRB.out HRQ.out HNE.out HBSE.out (W5.heap.size + 1) HSZB.out ?_
                  intro g7 cap7 w7 hown7 hgr7 hat7
                  obtain ⟨c7, f7, b7, hmd⟩ := HFIN.out _ _ _ hown7 hgr7 hat7
                  have HMD := Lib.hid hmd
                  clear hown7 hgr7 hat7 hmd
                  refine hK _ _ ?_
                  clear hK K
                  refine wpAnyIn_take (i := 8) (v := ?_) rfl rfl (by kernel_rfl) (by kernel_rfl) (by kernel_rfl) (fun _ _ _ h => nomatch h.1) ⟨Or.inl ⟨by rfl, ?_⟩, fun _ => rfl⟩ ?_
                  rotate_left
                  · (intro w; go_simp); try with_reducible rfl
                  refine wpAnyIn_take (i := 9) (v := ?_) rfl rfl (by kernel_rfl) (by kernel_rfl) (by kernel_rfl) (fun _ _ _ h => nomatch h.1) ⟨Or.inl ⟨by rfl, ?_⟩, fun _ => rfl⟩ ?_
                  rotate_left
                  · (intro w; go_simp); try with_reducible rfl
                  refine wpAnyIn_ready (rs := [10]) (by kernel_rfl) (by simp) ?_
                  refine AllReadyIn.cons rfl (fun K hK => ?_) ?_
                  · go_simp
                    refine hK _ _ ?_
                    clear hK K
                    refine wpAnyIn_done (by kernel_rfl) ?_ _
                    exact ⟨rfl, ⟨_, _, _, _, _, _, _, _, _, _, rfl⟩, HMD.out⟩
                  exact AllReadyIn.nil
                exact AllReadyIn.nil
              exact AllReadyIn.nil
            refine AllReadyIn.cons rfl (fun K hK => ?_) ?_
            · go_simp
              refine hK _ _ ?_
              clear hK K
              refine wpAnyIn_ready (rs := [0, 7]) (by kernel_rfl) (by simp) ?_
              refine AllReadyIn.cons rfl (fun K hK => ?_) ?_
              · go_simp
                refine hK _ _ ?_
                clear hK K
                refine wpAnyIn_ready (rs := [7]) (by kernel_rfl) (by simp) ?_
                refine AllReadyIn.cons rfl (fun K hK => ?_) ?_
                · refine stepIn_append_lst rfl (.tmp 19) (.tmp 21) rfl (W.heap.size + 5) (fun b => (¬ Q b ∧ b ≠ kb) ∧ b < W5.heap.size) (.slice va (nonE pre).length vc) (nonE pre) (by rfl) HLOB.out _ _ ub uc (x :: t) (by rfl) HBXB.out HSRB.out HRQ.out HNE.out HBSE.out (W5.heap.size + 1) HSZB.out ?_
                  intro g7 cap7 w7 hown7 hgr7 hat7
                  obtain ⟨c7, f7, b7, hmd⟩ := HFIN.out _ _ _ hown7 hgr7 hat7
                  have HMD := Lib.hid hmd
                  clear hown7 hgr7 hat7 hmd
                  refine hK _ _ ?_
                  clear hK K
                  refine wpAnyIn_take (i := 8) (v := ?_) rfl rfl (by kernel_rfl) (by kernel_rfl) (by kernel_rfl) (fun _ _ _ h => nomatch h.1) ⟨Or.inl ⟨by rfl, ?_⟩, fun _ => rfl⟩ ?_
                  rotate_left
                  · (intro w; go_simp); try with_reducible rfl
                  refine wpAnyIn_take (i := 9) (v := ?_) rfl rfl (by kernel_rfl) (by kernel_rfl) (by kernel_rfl) (fun _ _ _ h => nomatch h.1) ⟨Or.inl ⟨by rfl, ?_⟩, fun _ => rfl⟩ ?_
                  rotate_left
                  · (intro w; go_simp); try with_reducible rfl
                  refine wpAnyIn_ready (rs := [10]) (by kernel_rfl) (by simp) ?_
                  refine AllReadyIn.cons rfl (fun K hK => ?_) ?_
                  · go_simp
                    refine hK _ _ ?_
                    clear hK K
                    refine wpAnyIn_done (by kernel_rfl) ?_ _
                    exact ⟨rfl, ⟨_, _, _, _, _, _, _, _, _, _, rfl⟩, HMD.out⟩
                  exact AllReadyIn.nil
                exact AllReadyIn.nil
              refine AllReadyIn.cons rfl (fun K hK => ?_) ?_
              · refine stepIn_append_lst rfl (.tmp 19) (.tmp 21) rfl (W.heap.size + 5) (fun b => (¬ Q b ∧ b ≠ kb) ∧ b < W5.heap.size) (.slice va (nonE pre).length vc) (nonE pre) (by rfl) HLOB.out _ _ ub uc (x :: t) (by rfl) HBXB.out HSRB.out HRQ.out HNE.out HBSE.out (W5.heap.size + 1) HSZB.out ?_
                intro g7 cap7 w7 hown7 hgr7 hat7
                obtain ⟨c7, f7, b7, hmd⟩ := HFIN.out _ _ _ hown7 hgr7 hat7
                have HMD := Lib.hid hmd
                clear hown7 hgr7 hat7 hmd
                refine hK _ _ ?_
                clear hK K
                refine wpAnyIn_ready (rs := [0]) (by kernel_rfl) (by simp) ?_
                refine AllReadyIn.cons rfl (fun K hK => ?_) ?_
                · go_simp
                  refine hK _ _ ?_
                  clear hK K
                  refine wpAnyIn_take (i := 8) (v := ?_) rfl rfl (by kernel_rfl) (by kernel_rfl) (by kernel_rfl) (fun _ _ _ h => nomatch h.1) ⟨Or.inl ⟨by rfl, ?_⟩, fun _ => rfl⟩ ?_
                  rotate_left
                  · (intro w; go_simp); try with_reducible rfl
                  refine wpAnyIn_take (i := 9) (v := ?_) rfl rfl (by kernel_rfl) (by kernel_rfl) (by kernel_rfl) (fun _ _ _ h => nomatch h.1) ⟨Or.inl ⟨by rfl, ?_⟩, fun _ => rfl⟩ ?_
                  rotate_left
                  · (intro w; go_simp); try with_reducible rfl
                  refine wpAnyIn_ready (rs := [10]) (by kernel_rfl) (by simp) ?_
                  refine AllReadyIn.cons rfl (fun K hK => ?_) ?_
                  · go_simp
                    refine hK _ _ ?_
                    clear hK K
                    refine wpAnyIn_done (by kernel_rfl) ?_ _
                    exact ⟨rfl, ⟨_, _, _, _, _, _, _, _, _, _, rfl⟩, HMD.out⟩
                  exact AllReadyIn.nil
                exact AllReadyIn.nil
              exact AllReadyIn.nil
            exact AllReadyIn.nil
          refine AllReadyIn.cons rfl (fun K hK => ?_) ?_
          · go_simp
            refine hK _ _ ?_
            clear hK K
            refine wpAnyIn_ready (rs := [0, 4]) (by kernel_rfl) (by simp) ?_
            refine AllReadyIn.cons rfl (fun K hK => ?_) ?_
            · go_simp
              refine hK _ _ ?_
              clear hK K
              refine wpAnyIn_ready (rs := [4]) (by kernel_rfl) (by simp) ?_
              refine AllReadyIn.cons rfl (fun K hK => ?_) ?_
              · go_simp
                refine hK _ _ ?_
                clear hK K
                refine wpAnyIn_ready (rs := [7]) (by kernel_rfl) (by simp) ?_
                refine AllReadyIn.cons rfl (fun K hK => ?_) ?_
                · refine stepIn_append_lst rfl (.tmp 19) (.tmp 21) rfl (W.heap.size + 5) (fun b => (¬ Q b ∧ b ≠ kb) ∧ b < W5.heap.size) (.slice va (nonE pre).length vc) (nonE pre) (by rfl) HLOB.out _ _ ub uc (x :: t) (by rfl) HBXB.out HSRB.out HRQ.out HNE.out HBSE.out (W5.heap.size + 1) HSZB.out ?_
                  intro g7 cap7 w7 hown7 hgr7 hat7
                  obtain ⟨c7, f7, b7, hmd⟩ := HFIN.out _ _ _ hown7 hgr7 hat7
                  have HMD := Lib.hid hmd
                  clear hown7 hgr7 hat7 hmd
                  refine hK _ _ ?_
                  clear hK K
                  refine wpAnyIn_take (i := 8) (v := ?_) rfl rfl (by kernel_rfl) (by kernel_rfl) (by kernel_rfl) (fun _ _ _ h => nomatch h.1) ⟨Or.inl ⟨by rfl, ?_⟩, fun _ => rfl⟩ ?_
                  rotate_left
                  · (intro w; go_simp); try with_reducible rfl
                  refine wpAnyIn_take (i := 9) (v := ?_) rfl rfl (by kernel_rfl) (by kernel_rfl) (by kernel_rfl) (fun _ _ _ h => nomatch h.1) ⟨Or.inl ⟨by rfl, ?_⟩, fun _ => rfl⟩ ?_
                  rotate_left
                  · (intro w; go_simp); try with_reducible rfl
                  refine wpAnyIn_ready (rs := [10]) (by kernel_rfl) (by simp) ?_
                  refine AllReadyIn.cons rfl (fun K hK => ?_) ?_
                  · go_simp
                    refine hK _ _ ?_
                    clear hK K
                    refine wpAnyIn_done (by kernel_rfl) ?_ _
                    exact ⟨rfl, ⟨_, _, _, _, _, _, _, _, _, _, rfl⟩, HMD.out⟩
                  exact AllReadyIn.nil
                exact AllReadyIn.nil
              exact AllReadyIn.nil
            refine AllReadyIn.cons rfl (fun K hK => ?_) ?_
            · go_simp
              refine hK _ _ ?_
              clear hK K
              refine wpAnyIn_ready (rs := [0, 7]) (by kernel_rfl) (by simp) ?_
              refine AllReadyIn.cons rfl (fun K hK => ?_) ?_
              · go_simp
                refine hK _ _ ?_
                clear hK K
                refine wpAnyIn_ready (rs := [7]) (by kernel_rfl) (by simp) ?_
                refine AllReadyIn.cons rfl (fun K hK => ?_) ?_
                · refine stepIn_append_lst rfl (.tmp 19) (.tmp 21) rfl (W.heap.size + 5) (fun b => (¬ Q b ∧ b ≠ kb) ∧ b < W5.heap.size) (.slice va (nonE pre).length vc) (nonE pre) (by rfl) HLOB.out _ _ ub uc (x :: t) (by rfl) HBXB.out HSRB.out HRQ.out HNE.out HBSE.out (W5.heap.size + 1) HSZB.out ?_
                  intro g7 cap7 w7 hown7 hgr7 hat7
                  obtain ⟨c7, f7, b7, hmd⟩ := HFIN.out _ _ _ hown7 hgr7 hat7
                  have HMD := Lib.hid hmd
                  clear hown7 hgr7 hat7 hmd
                  refine hK _ _ ?_
                  clear hK K
                  refine wpAnyIn_take (i := 8) (v := ?_) rfl rfl (by kernel_rfl) (by kernel_rfl) (by kernel_rfl) (fun _ _ _ h => nomatch h.1) ⟨Or.inl ⟨by rfl, ?_⟩, fun _ => rfl⟩ ?_
                  rotate_left
                  · (intro w; go_simp); try with_reducible rfl
                  refine wpAnyIn_take (i := 9) (v := ?_) rfl rfl (by kernel_rfl) (by kernel_rfl) (by kernel_rfl) (fun _ _ _ h => nomatch h.1) ⟨Or.inl ⟨by rfl, ?_⟩, fun _ => rfl⟩ ?_
                  rotate_left
                  · (intro w; go_simp); try with_reducible rfl
                  refine wpAnyIn_ready (rs := [10]) (by kernel_rfl) (by simp) ?_
                  refine AllReadyIn.cons rfl (fun K hK => ?_) ?_
                  · go_simp
                    refine hK _ _ ?_
                    clear hK K
                    refine wpAnyIn_done (by kernel_rfl) ?_ _
                    exact ⟨rfl, ⟨_, _, _, _, _, _, _, _, _, _, rfl⟩, HMD.out⟩
                  exact AllReadyIn.nil
                exact AllReadyIn.nil
              refine AllReadyIn.cons rfl (fun K hK => ?_) ?_
              · refine stepIn_append_lst rfl (.tmp 19) (.tmp 21) rfl (W.heap.size + 5) (fun b => (¬ Q b ∧ b ≠ kb) ∧ b < W5.heap.size) (.slice va (nonE pre).length vc) (nonE pre) (by rfl) HLOB.out _ _ ub uc (x :: t) (by rfl) HBXB.out HSRB.out HRQ.out HNE.out HBSE.out (W5.heap.size + 1) HSZB.out ?_
                intro g7 cap7 w7 hown7 hgr7 hat7
                obtain ⟨c7, f7, b7, hmd⟩ := HFIN.out _ _ _ hown7 hgr7 hat7
                have HMD := Lib.hid hmd
                clear hown7 hgr7 hat7 hmd
                refine hK _ _ ?_
                clear hK K
                refine wpAnyIn_ready (rs := [0]) (by kernel_rfl) (by simp) ?_
                refine AllReadyIn.cons rfl (fun K hK => ?_) ?_
                · go_simp
                  refine hK _ _ ?_
                  clear hK K
                  refine wpAnyIn_take (i := 8) (v := ?_) rfl rfl (by kernel_rfl) (by kernel_rfl) (by kernel_rfl) (fun _ _ _ h => nomatch h.1) ⟨Or.inl ⟨by rfl, ?_⟩, fun _ => rfl⟩ ?_
                  rotate_left
                  · (intro w; go_simp); try with_reducible rfl
                  refine wpAnyIn_take (i := 9) (v := ?_) rfl rfl (by kernel_rfl) (by kernel_rfl) (by kernel_rfl) (fun _ _ _ h => nomatch h.1) ⟨Or.inl ⟨by rfl, ?_⟩, fun _ => rfl⟩ ?_
                  rotate_left
                  · (intro w; go_simp); try with_reducible rfl
                  refine wpAnyIn_ready (rs := [10]) (by kernel_rfl) (by simp) ?_
                  refine AllReadyIn.cons rfl (fun K hK => ?_) ?_
                  · go_simp
                    refine hK _ _ ?_
                    clear hK K
                    refine wpAnyIn_done (by kernel_rfl) ?_ _
                    exact ⟨rfl, ⟨_, _, _, _, _, _, _, _, _, _, rfl⟩, HMD.out⟩
                  exact AllReadyIn.nil
                exact AllReadyIn.nil
              exact AllReadyIn.nil
            exact AllReadyIn.nil
          exact AllReadyIn.nil
        refine AllReadyIn.cons rfl (fun K hK => ?_) ?_
        · go_simp
          refine hK _ _ ?_
          clear hK K
          refine wpAnyIn_ready (rs := [0, 1]) (by kernel_rfl) (by simp) ?_
          refine AllReadyIn.cons rfl (fun K hK => ?_) ?_
          · go_simp
            refine hK _ _ ?_
            clear hK K
            refine wpAnyIn_ready (rs := [1]) (by kernel_rfl) (by simp) ?_
            refine AllReadyIn.cons rfl (fun K hK => ?_) ?_
            · go_simp
              refine hK _ _ ?_
              clear hK K
              refine wpAnyIn_take (i := 2) (v := ?_) rfl rfl (by kernel_rfl) (by kernel_rfl) (by kernel_rfl) (fun _ _ _ h => nomatch h.1) ⟨Or.inl ⟨by rfl, ?_⟩, fun _ => rfl⟩ ?_
              rotate_left
              · (intro w; go_simp); try with_reducible rfl
              refine wpAnyIn_take (i := 3) (v := ?_) rfl rfl (by kernel_rfl) (by kernel_rfl) (by kernel_rfl) (fun _ _ _ h => nomatch h.1) ⟨Or.inl ⟨by rfl, ?_⟩, fun _ => rfl⟩ ?_
              rotate_left
              · (intro w; go_simp); try with_reducible rfl
              refine wpAnyIn_ready (rs := [4]) (by kernel_rfl) (by simp) ?_
              refine AllReadyIn.cons rfl (fun K hK => ?_) ?_
              · go_simp
                refine hK _ _ ?_
                clear hK K
                refine wpAnyIn_ready (rs := [7]) (by kernel_rfl) (by simp) ?_
                refine AllReadyIn.cons rfl (fun K hK => ?_) ?_
                · refine stepIn_append_lst rfl (.tmp 19) (.tmp 21) rfl (W.heap.size + 5) (fun b => (¬ Q b ∧ b ≠ kb) ∧ b < W5.heap.size) (.slice va (nonE pre).length vc) (nonE pre) (by rfl) HLOB.out _ _ ub uc (x :: t) (by rfl) HBXB.out HSRB.out HRQ.out HNE.out HBSE.out (W5.heap.size + 1) HSZB.out ?_
                  intro g7 cap7 w7 hown7 hgr7 hat7
                  obtain ⟨c7, f7, b7, hmd⟩ := HFIN.out _ _ _ hown7 hgr7 hat7
                  have HMD := Lib.hid hmd
                  clear hown7 hgr7 hat7 hmd
                  refine hK _ _ ?_
                  clear hK K
                  refine wpAnyIn_take (i := 8) (v := ?_) rfl rfl (by kernel_rfl) (by kernel_rfl) (by kernel_rfl) (fun _ _ _ h => nomatch h.1) ⟨Or.inl ⟨by rfl, ?_⟩, fun _ => rfl⟩ ?_
                  rotate_left
                  · (intro w; go_simp); try with_reducible rfl
                  refine wpAnyIn_take (i := 9) (v := ?_) rfl rfl (by kernel_rfl) (by kernel_rfl) (by kernel_rfl) (fun _ _ _ h => nomatch h.1) ⟨Or.inl ⟨by rfl, ?_⟩, fun _ => rfl⟩ ?_
                  rotate_left
                  · (intro w; go_simp); try with_reducible rfl
                  refine wpAnyIn_ready (rs := [10]) (by kernel_rfl) (by simp) ?_
                  refine AllReadyIn.cons rfl (fun K hK => ?_) ?_
                  · go_simp
                    refine hK _ _ ?_
                    clear hK K
                    refine wpAnyIn_done (by kernel_rfl) ?_ _
                    exact ⟨rfl, ⟨_, _, _, _, _, _, _, _, _, _, rfl⟩, HMD.out⟩
                  exact AllReadyIn.nil
                exact AllReadyIn.nil
              exact AllReadyIn.nil
            exact AllReadyIn.nil
          refine AllReadyIn.cons rfl (fun K hK => ?_) ?_
          · go_simp
            refine hK _ _ ?_
            clear hK K
            refine wpAnyIn_take (i := 2) (v := ?_) rfl rfl (by kernel_rfl) (by kernel_rfl) (by kernel_rfl) (fun _ _ _ h => nomatch h.1) ⟨Or.inl ⟨by rfl, ?_⟩, fun _ => rfl⟩ ?_
            rotate_left
            · (intro w; go_simp); try with_reducible rfl
            refine wpAnyIn_take (i := 3) (v := ?_) rfl rfl (by kernel_rfl) (by kernel_rfl) (by kernel_rfl) (fun _ _ _ h => nomatch h.1) ⟨Or.inl ⟨by rfl, ?_⟩, fun _ => rfl⟩ ?_
            rotate_left
            · (intro w; go_simp); try with_reducible rfl
            refine wpAnyIn_ready (rs := [0, 4]) (by kernel_rfl) (by simp) ?_
            refine AllReadyIn.cons rfl (fun K hK => ?_) ?_
            · go_simp
              refine hK _ _ ?_
              clear hK K
              refine wpAnyIn_ready (rs := [4]) (by kernel_rfl) (by simp) ?_
              refine AllReadyIn.cons rfl (fun K hK => ?_) ?_
              · go_simp
                refine hK _ _ ?_
                clear hK K
                refine wpAnyIn_ready (rs := [7]) (by kernel_rfl) (by simp) ?_
                refine AllReadyIn.cons rfl (fun K hK => ?_) ?_
                · refine stepIn_append_lst rfl (.tmp 19) (.tmp 21) rfl (W.heap.size + 5) (fun b => (¬ Q b ∧ b ≠ kb) ∧ b < W5.heap.size) (.slice va (nonE pre).length vc) (nonE pre) (by rfl) HLOB.out _ _ ub uc (x :: t) (by rfl) HBXB.out HSRB.out HRQ.out HNE.out HBSE.out (W5.heap.size + 1) HSZB.out ?_
                  intro g7 cap7 w7 hown7 hgr7 hat7
                  obtain ⟨c7, f7, b7, hmd⟩ := HFIN.out _ _ _ hown7 hgr7 hat7
                  have HMD := Lib.hid hmd
                  clear hown7 hgr7 hat7 hmd
                  refine hK _ _ ?_
                  clear hK K
                  refine wpAnyIn_take (i := 8) (v := ?_) rfl rfl (by kernel_rfl) (by kernel_rfl) (by kernel_rfl) (fun _ _ _ h => nomatch h.1) ⟨Or.inl ⟨by rfl, ?_⟩, fun _ => rfl⟩ ?_
                  rotate_left
                  · (intro w; go_simp); try with_reducible rfl
                  refine wpAnyIn_take (i := 9) (v := ?_) rfl rfl (by kernel_rfl) (by kernel_rfl) (by kernel_rfl) (fun _ _ _ h => nomatch h.1) ⟨Or.inl ⟨by rfl, ?_⟩, fun _ => rfl⟩ ?_
                  rotate_left
                  · (intro w; go_simp); try with_reducible rfl
                  refine wpAnyIn_ready (rs := [10]) (by kernel_rfl) (by simp) ?_
                  refine AllReadyIn.cons rfl (fun K hK => ?_) ?_
                  · go_simp
                    refine hK _ _ ?_
                    clear hK K
                    refine wpAnyIn_done (by kernel_rfl) ?_ _
                    exact ⟨rfl, ⟨_, _, _, _, _, _, _, _, _, _, rfl⟩, HMD.out⟩
                  exact AllReadyIn.nil
                exact AllReadyIn.nil
              exact AllReadyIn.nil
            refine AllReadyIn.cons rfl (fun K hK => ?_) ?_
            · go_simp
              refine hK _ _ ?_
              clear hK K
              refine wpAnyIn_ready (rs := [0, 7]) (by kernel_rfl) (by simp) ?_
              refine AllReadyIn.cons rfl (fun K hK => ?_) ?_
              · go_simp
                refine hK _ _ ?_
                clear hK K
                refine wpAnyIn_ready (rs := [7]) (by kernel_rfl) (by simp) ?_
                refine AllReadyIn.cons rfl (fun K hK => ?_) ?_
                · refine stepIn_append_lst rfl (.tmp 19) (.tmp 21) rfl (W.heap.size + 5) (fun b => (¬ Q b ∧ b ≠ kb) ∧ b < W5.heap.size) (.slice va (nonE pre).length vc) (nonE pre) (by rfl) HLOB.out _ _ ub uc (x :: t) (by rfl) HBXB.out HSRB.out HRQ.out HNE.out HBSE.out (W5.heap.size + 1) HSZB.out ?_
                  intro g7 cap7 w7 hown7 hgr7 hat7
                  obtain ⟨c7, f7, b7, hmd⟩ := HFIN.out _ _ _ hown7 hgr7 hat7
                  have HMD := Lib.hid hmd
                  clear hown7 hgr7 hat7 hmd
                  refine hK _ _ ?_
                  clear hK K
                  refine wpAnyIn_take (i := 8) (v := ?_) rfl rfl (by kernel_rfl) (by kernel_rfl) (by kernel_rfl) (fun _ _ _ h => nomatch h.1) ⟨Or.inl ⟨by rfl, ?_⟩, fun _ => rfl⟩ ?_
                  rotate_left
                  · (intro w; go_simp); try with_reducible rfl
                  refine wpAnyIn_take (i := 9) (v := ?_) rfl rfl (by kernel_rfl) (by kernel_rfl) (by kernel_rfl) (fun _ _ _ h => nomatch h.1) ⟨Or.inl ⟨by rfl, ?_⟩, fun _ => rfl⟩ ?_
                  rotate_left
                  · (intro w; go_simp); try with_reducible rfl
                  refine wpAnyIn_ready (rs := [10]) (by kernel_rfl) (by simp) ?_
                  refine AllReadyIn.cons rfl (fun K hK => ?_) ?_
                  · go_simp
                    refine hK _ _ ?_
                    clear hK K
                    refine wpAnyIn_done (by kernel_rfl) ?_ _
                    exact ⟨rfl, ⟨_, _, _, _, _, _, _, _, _, _, rfl⟩, HMD.out⟩
                  exact AllReadyIn.nil
                exact AllReadyIn.nil
              refine AllReadyIn.cons rfl (fun K hK => ?_) ?_
              · refine stepIn_append_lst rfl (.tmp 19) (.tmp 21) rfl (W.heap.size + 5) (fun b => (¬ Q b ∧ b ≠ kb) ∧ b < W5.heap.size) (.slice va (nonE pre).length vc) (nonE pre) (by rfl) HLOB.out _ _ ub uc (x :: t) (by rfl) HBXB.out HSRB.out HRQ.out HNE.out HBSE.out (W5.heap.size + 1) HSZB.out ?_
                intro g7 cap7 w7 hown7 hgr7 hat7
                obtain ⟨c7, f7, b7, hmd⟩ := HFIN.out _ _ _ hown7 hgr7 hat7
                have HMD := Lib.hid hmd
                clear hown7 hgr7 hat7 hmd
                refine hK _ _ ?_
                clear hK K
                refine wpAnyIn_ready (rs := [0]) (by kernel_rfl) (by simp) ?_
                refine AllReadyIn.cons rfl (fun K hK => ?_) ?_
                · go_simp
                  refine hK _ _ ?_
                  clear hK K
                  refine wpAnyIn_take (i := 8) (v := ?_) rfl rfl (by kernel_rfl) (by kernel_rfl) (by kernel_rfl) (fun _ _ _ h => nomatch h.1) ⟨Or.inl ⟨by rfl, ?_⟩, fun _ => rfl⟩ ?_
                  rotate_left
                  · (intro w; go_simp); try with_reducible rfl
                  refine wpAnyIn_take (i := 9) (v := ?_) rfl rfl (by kernel_rfl) (by kernel_rfl) (by kernel_rfl) (fun _ _ _ h => nomatch h.1) ⟨Or.inl ⟨by rfl, ?_⟩, fun _ => rfl⟩ ?_
                  rotate_left
                  · (intro w; go_simp); try with_reducible rfl
                  refine wpAnyIn_ready (rs := [10]) (by kernel_rfl) (by simp) ?_
                  refine AllReadyIn.cons rfl (fun K hK => ?_) ?_
                  · go_simp
                    refine hK _ _ ?_
                    clear hK K
                    refine wpAnyIn_done (by kernel_rfl) ?_ _
                    exact ⟨rfl, ⟨_, _, _, _, _, _, _, _, _, _, rfl⟩, HMD.out⟩
                  exact AllReadyIn.nil
                exact AllReadyIn.nil
              exact AllReadyIn.nil
            exact AllReadyIn.nil
          exact AllReadyIn.nil
        exact AllReadyIn.nil
      · rintro e a' w8 ⟨rfl, ⟨v15, v16, v17, v18, v19, v20, v21, v22, v23, v24, rfl⟩, hmid⟩
        clear d0 d1 d2 d3 HFIN HLOB HSRB HSZB HBXB HRQ HNE HBSE HOO
        obtain ⟨tb, tc, htv, htr⟩ := HTAIL.out
        rw [htv] at hsub
        have hj := HJ.out
        obtain ⟨v', hv1, hlo1, hq1⟩ := hj.row
        rw [HV.out] at hv1
        cases hv1
        obtain ⟨g8, cap8, m1, m2, m3, m4⟩ := hmid
        have hs5 := HS5.out
        have hs8 := m4.size
        have ho : ∀ b, (Value.slice va (nonE pre).length vc).ownBlock = some b → W.heap.size + 5 ≤ b ∧ b < W1.heap.size := fun b hb => hlo1.lt b hb
        have k8 : ∀ b, b < W1.heap.size → b ≠ W.heap.size + 1 → b ≠ W.heap.size + 4 → (Value.slice va (nonE pre).length vc).ownBlock ≠ some b → w8.heap[b]? = W1.heap[b]? := fun b h1 h2 h3 h4 =>
          (m4.block b (by omega) (fun e => e.elim h2 h4)).trans (by rw [HW5.out]; exact World.putObj_heap_other h3)
        have hx8 : w8.heap[W.heap.size + 2]? = some (.cells #[.pointer (some ⟨W.heap.size + 1, 0, none⟩)] 74) := (k8 _ (by omega) (by omega) (by omega) fun e => by have := ho _ e; omega).trans hj.box
        have HX8 := Lib.hid hx8
        have HM1 := Lib.hid m1
        have HC8 : Hid (CLoop w8 W.heap.size pre t 0 w8) := Lib.hid ⟨Nat.zero_le _, Keep.refl _ _, rfl, (hj.cnt.keep (k8 _ (by omega) (by omega) (by omega) fun e => by have := ho _ e; omega)).ext fun s => by simp [cntL]⟩
        have HROW : Hid (∀ k x, t[k]? = some x → ∃ g o, tb = some ⟨g, o, none⟩ ∧ g < w8.heap.size ∧ g ≠ W.heap.size ∧ w8.cell? ⟨g, o + k, none⟩ = some (.string x)) := Lib.hid (by
          intro k y hy
          obtain ⟨g, o, e, hq, hg, hat, _⟩ := htr (by rintro rfl; simp at hy)
          refine ⟨g, o, e, by omega, fun e => hq.1.1 ((hq1 g).2 (.inl e)), ?_⟩
          refine (World.cell?_of_block (w := W5) (a := ⟨g, o + k, none⟩) (m4.block g (by omega) ?_)).trans (hat k y hy)
          rintro (e | e)
          · exact hq.1.1 ((hq1 g).2 (.inr (.inl e)))
          · exact hq.1.1 ((hq1 g).2 (.inr (.inr (.inr (.inr e))))))
        have HEND : Hid (∀ W9, CLoop w8 W.heap.size pre t t.length W9 → W9.heap[W.heap.size + 4]? = some (.loop Rb) ∧ RPost (NwJ W kb R) Q (pre ++ [x :: t]) W1 (.returned (.bool true)) (W9.putObj (W.heap.size + 4) (.loop R))) := Lib.hid fun W9 h9 =>
          round_end hj HV.out HW5.out ⟨g8, cap8, m1, m2, m3, m4⟩ h9
        have HSZ8 : Hid (W.heap.size + 5 ≤ w8.heap.size) := Lib.hid (by have := hj.size; omega)
        have HTOT := Lib.hid (Nat.le_trans HLS.out.1 hLL)
        clear hj hlo1 hq1 m1 m2 m3 m4 hs5 hs8 ho k8 hx8 htr htv HTAIL HU HV HW5 HQQ HS5 L5 hz
        gi_wp2_with fail
        obtain ⟨wo, rfl⟩ : ∃ wo, wo = w8 := ⟨_, rfl⟩
        gi_loopw [28] (fun iv wr => ∃ k : Nat, iv = .int .i64 (k : Int) ∧ Hid (CLoop wo W.heap.size pre t k wr)) (fun iv _ => t.length - (intOf iv).toNat)
        case atStart => exact ⟨0, rfl, HC8⟩
        case round =>
          obtain ⟨k, rfl, hst⟩ := hrel
          obtain ⟨hk, hke, hse, hcn⟩ := hst.out
          by_cases hlt : k < t.length
          · obtain ⟨y, hy⟩ : ∃ y, t[k]? = some y := ⟨_, List.getElem?_eq_getElem hlt⟩
            obtain ⟨g, o, rfl, hg, hgn, hat⟩ := HROW.out k y hy
            have e6 : wr.cell? ⟨g, o + k, none⟩ = some (.string y) := (hke.cell (o := o + k) hg hgn).trans hat
            have e7 : wr.cell? ⟨W.heap.size + 2, 0, none⟩ = some (.pointer (some ⟨W.heap.size + 1, 0, none⟩)) := (hke.cell (o := 0) (c := W.heap.size + 2) (by have := HSZ8.out; omega) (by omega)).trans (by rw [cellOf HX8.out]; rfl)
            have e8 : wr.cell? ⟨W.heap.size + 1, 1, none⟩ = some (.map (some W.heap.size)) := (hke.cell (o := 1) (c := W.heap.size + 1) (by have := HSZ8.out; omega) (by omega)).trans (by rw [cellOf HM1.out]; rfl)
            have hk2 : (k : Int) < (t.length : Int) := by omega
            have w3 : IntKind.i64.wrap ((k : Int) + 1) = (k : Int) + 1 := IntWalk.i64_in _ (by have := HTOT.out; simp at this; omega)
            have hlk := hcn.look y
            have hbd : behM pre y + cntL y (t.take k) ≤ 1073741824 := by
              have h1 := behM_le y pre
              have h2 := cntL_le y (t.take k)
              rw [List.length_take] at h2
              have := HTOT.out; simp at this; omega
            obtain ⟨ob, hob⟩ := hcn.upd y (behM pre y + cntL y (t.take k) + 1)
            have hup := (hob wr rfl).1
            obtain ⟨ci, hci⟩ : ∃ ci : Int, ci = ((behM pre y + cntL y (t.take k) : Nat) : Int) := ⟨_, rfl⟩
            obtain ⟨di, hdi⟩ : ∃ di : Int, di = ((behM pre y + cntL y (t.take k) + 1 : Nat) : Int) := ⟨_, rfl⟩
            have wc : IntKind.i64.wrap (ci + 1) = di := by rw [IntWalk.i64_in _ (by omega)]; omega
            have HNX : Hid (CLoop wo W.heap.size pre t (k + 1) (wr.putObj W.heap.size ob)) := Lib.hid ⟨hlt, hke.putObj (.inl rfl) _, by simpa using hse, (hob wr rfl).2.ext fun s => by
              by_cases e : y = s
              · subst e; rw [if_pos rfl, cnt_snoc hy, if_pos rfl]; omega
              · rw [if_neg e, cnt_snoc hy, if_neg e]; omega⟩
            rw [← hci] at hlk
            rw [← hdi] at hup
            clear hst hke hse hcn hob hci hdi hbd hat hy
            gi_wp2_with fail
            exact ⟨⟨k + 1, by simp, HNX⟩, by simp only [intOf]; omega⟩
          · have hk2 : ((k : Int) < (t.length : Int)) = False := by simp; omega
            have hkl : k = t.length := by omega
            subst hkl
            have HE := Lib.hid (HEND.out wr hst.out)
            clear hst hke hse hcn
            gi_wp2_with fail
            exact HE.out
  rintro e w3 (⟨rfl, Q', hj, hed⟩ | ⟨ch, Q', pre, rfl, hj, hdi⟩)
  · refine ⟨R.pending, w3.putObj (W.heap.size + 4) (.loop { R with state := .exhausted }), run_endLoop (P := Try.prog) hj.loop (by rw [rs]; simp), ?_⟩
    obtain ⟨w4, hw4⟩ : ∃ w4, w4 = w3.putObj (W.heap.size + 4) (.loop { R with state := .exhausted }) := ⟨_, rfl⟩
    rw [← hw4]
    have hz := hj.size
    have k4 : ∀ k, k ≠ W.heap.size + 4 → w4.heap[k]? = w3.heap[k]? := fun k hk => by rw [hw4]; exact World.putObj_heap_other hk
    have c4 : w4.cell? ⟨W.heap.size + 2, 0, none⟩ = some (.pointer (some ⟨W.heap.size + 1, 0, none⟩)) := (World.cell?_of_block (w := w3) (a := ⟨W.heap.size + 2, 0, none⟩) (k4 (W.heap.size + 2) (by omega))).trans (by rw [cellOf hj.box]; rfl)
    have D4 : Hid (w4.heap[W.heap.size + 3]? = some (.deferred (some []))) := Lib.hid ((k4 _ (by omega)).trans hj.defd)
    have HFIN : Hid (NewPost kb W LL Ed Di (.returned (.pointer (some ⟨W.heap.size + 1, 0, none⟩))) (w4.putObj (W.heap.size + 3) (.deferred none))) := Lib.hid (by
      have hkk : Keep (fun b => b = W.heap.size + 3 ∨ b = W.heap.size + 4) w3 (w4.putObj (W.heap.size + 3) (.deferred none)) := by
        rw [hw4]; exact ((Keep.refl _ w3).putObj (.inl (.inr rfl)) _).putObj (.inl (.inl rfl)) _
      obtain ⟨n1, n2, n3, n4, n5, n6⟩ := new_end hj hkk (by rw [hw4]; simp)
      exact ⟨n1, .inl ⟨rfl, n2, Q', n3, n4, n5, HED.out _ _ _ hed n6⟩⟩)
    clear hw4 k4 hj hz hed f0 f1 f2 f3 f4 fs hB0 hW0 ra rb rt rq HITH HED HDI hJ0
    rw [rp]
    gi_wp2_with fail
    exact leave_any (W.heap.size + 3) w4 _ _ (fun W => by simp [results, Try.results53, go_sem]) D4.out HFIN.out
  · simp only [rangePost, Exit.inBlock, Exit.then]
    have HFIN : NewPost kb W LL Ed Di (.panicked ch) (w3.putObj (W.heap.size + 3) (.deferred none)) := by
      obtain ⟨v, h1, h2, h3⟩ := hj.row
      have hq3 : Q' (W.heap.size + 3) := (h3 _).2 (.inr (.inr (.inl rfl)))
      have hkk : Keep Q' w3 (w3.putObj (W.heap.size + 3) (.deferred none)) := (Keep.refl _ w3).putObj (.inl hq3) _
      exact ⟨hj.keep.trans' (T := Q') hkk fun b hb => .inr (nw_size hj b hb).1, .inr ⟨ch, Q', rfl, fun b hb => by have := nw_size hj b hb; simpa using this, HDI.out _ _ _ _ hdi hkk⟩⟩
    exact leave_panic (W.heap.size + 3) w3 _ ch hj.defd HFIN
end Go.Proofs.Ytolopideimnbgaa
