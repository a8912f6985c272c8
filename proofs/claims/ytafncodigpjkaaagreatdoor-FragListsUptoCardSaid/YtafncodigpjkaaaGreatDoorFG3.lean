/-
  A fragment is added to the innermost group.
  The groups that are open, in memory; the first row was made ahead of the reader.
  add, close and begin, over the groups that are open.
-/
import Derived.Test.YtafncodigpjkaaaGreatDoorFG2
import Derived.OneCell
namespace Go.Proofs.YtafncodigpjkaaaGreatDoor
section
open Go.RowKit

set_option maxRecDepth 100000 in
set_option maxHeartbeats 4000000 in
theorem add_run (rb base ob cap n k c : Nat) (ka : Option Addr) (x : Fg) (va : Option Addr) (vn vc : Nat) (xs : List Value) (W : World) (hrb : rb < W.heap.size) (hn : n + 1 ≤ 1048576) (hkn : k + 1 ≤ 1048576) (hob : ob < W.heap.size) (hbase : base ≤ W.heap.size)
    (h3 : W.cell? ⟨rb, 3, none⟩ = some (.slice (some ⟨ob, 0, none⟩) (n + 1) cap)) (h6 : W.cell? ⟨ob, n * 8 + 6, none⟩ = some (.slice ka k c)) (hfr : W.frozen? ⟨ob, n * 8 + 6, none⟩ = false)
    (hown : W.ownsRow base 52 7 (.slice ka k c) k xs) (hne : (Value.slice ka k c).ownBlock ≠ some ob) :
    Calls Tryz.prog 70 #[.pointer (some ⟨rb, 0, none⟩), .agg (fgV x (.slice va vn vc)).toArray] W fun e w' => e = .returned (.tuple #[]) ∧ Added base ob n k (.slice ka k c) xs (fgV x (.slice va vn vc)) W w' := by
  obtain ⟨⟨k0, n0, s0, a0, m0⟩, o, ks⟩ := x
  show Calls Tryz.prog 70 #[.pointer (some ⟨rb, 0, none⟩), .agg #[.int .i64 k0, .int .i64 n0, .string s0, .int .i64 a0, .int .i64 m0, .string o, .slice va vn vc]] W fun e w' => e = .returned (.tuple #[]) ∧ Added base ob n k (.slice ka k c) xs [.int .i64 k0, .int .i64 n0, .string s0, .int .i64 a0, .int .i64 m0, .string o, .slice va vn vc] W w'
  obtain ⟨i0, hi, hz0, hz1, hz2⟩ := info_parts infoFrag
  have HI := fun W h => innermost_any rb ob n cap hn W h
  have HI := Lib.hid HI
  have HOWN := Lib.hid hown
  clear hown
  go_enter Tryz.func70, Tryz.ntmps70
  go_wp2_with fail
  refine (HI.out _ (box_cell W _ h3 hrb)).mono ?_
  rintro e w1 ⟨rfl, q, rfl⟩
  have bx : ∀ j v, (#[Value.int .i64 k0, .int .i64 n0, .string s0, .int .i64 a0, .int .i64 m0, .string o, .slice va vn vc] : Array Value)[j]? = some v → ((W.alloc (.cells #[.int .i64 k0, .int .i64 n0, .string s0, .int .i64 a0, .int .i64 m0, .string o, .slice va vn vc] 52)).drewN q).cell? ⟨W.heap.size, j, none⟩ = some v := fun j v hv => by
    rw [World.cell?_drewN, fcell_at (heap_alloc_new W _)]; exact hv
  have e6 : ((W.alloc (.cells #[.int .i64 k0, .int .i64 n0, .string s0, .int .i64 a0, .int .i64 m0, .string o, .slice va vn vc] 52)).drewN q).cell? ⟨ob, n * 8 + 6, none⟩ = some (.slice ka k c) := by
    rw [World.cell?_drewN]; exact box_cell W _ h6 hob
  have f6 : ((W.alloc (.cells #[.int .i64 k0, .int .i64 n0, .string s0, .int .i64 a0, .int .i64 m0, .string o, .slice va vn vc] 52)).drewN q).frozen? ⟨ob, n * 8 + 6, none⟩ = false := by
    rw [World.frozen?_drewN]; exact (((Below.refl _ W).alloc (Nat.le_refl _) _).frozen (p := ⟨ob, n * 8 + 6, none⟩) hob).trans hfr
  have HB := Lib.hid (below_drewN ((Below.refl _ W).alloc (Nat.le_refl _) (.cells #[.int .i64 k0, .int .i64 n0, .string s0, .int .i64 a0, .int .i64 m0, .string o, .slice va vn vc] 52)) q)
  have HOWN2 : Hid (((W.alloc (.cells #[.int .i64 k0, .int .i64 n0, .string s0, .int .i64 a0, .int .i64 m0, .string o, .slice va vn vc] 52)).drewN q).ownsRow base 52 7 (.slice ka k c) k xs) := Lib.hid (ownsRow_drewN (HOWN.out.alloc _) q)
  have hz : ((W.alloc (.cells #[.int .i64 k0, .int .i64 n0, .string s0, .int .i64 a0, .int .i64 m0, .string o, .slice va vn vc] 52)).drewN q).heap.size = W.heap.size + 1 := by simp
  generalize ((W.alloc (.cells #[.int .i64 k0, .int .i64 n0, .string s0, .int .i64 a0, .int .i64 m0, .string o, .slice va vn vc] 52)).drewN q) = W2 at bx e6 f6 HB HOWN2 hz ⊢
  have b0 := bx 0 _ rfl; have b1 := bx 1 _ rfl; have b2 := bx 2 _ rfl; have b3 := bx 3 _ rfl; have b4 := bx 4 _ rfl; have b5 := bx 5 _ rfl; have b6 := bx 6 _ rfl
  have hz' : W.heap.size < W2.heap.size := by omega
  have HZ := Lib.hid hz
  have HXL := Lib.hid HOWN.out.1
  have HNE := Lib.hid hne
  have hob2 : ob < W2.heap.size := by omega
  have hki : (k : Int) < (k : Int) + 1 := by omega
  have HE6 := Lib.hid (fun O => box_cell W2 O e6 hob2)
  have HF6 : Hid (∀ O, (W2.alloc O).frozen? ⟨ob, n * 8 + 6, none⟩ = false) := Lib.hid fun O => (((Below.refl _ W2).alloc (Nat.le_refl _) O).frozen (p := ⟨ob, n * 8 + 6, none⟩) hob2).trans f6
  clear bx h3 h6 hfr HI hz hne
  go_wp2_with fail
  have HA : Hid (∀ (e : Exit) (a : Act) (w' : World), (e = .normal ∧ a.defers = [] ∧ Added base ob n k (.slice ka k c) xs [.int .i64 k0, .int .i64 n0, .string s0, .int .i64 a0, .int .i64 m0, .string o, .slice va vn vc] W w') → bodyPost Tryz.prog Tryz.f70 (fun e w' => e = .returned (.tuple #[]) ∧ Added base ob n k (.slice ka k c) xs [.int .i64 k0, .int .i64 n0, .string s0, .int .i64 a0, .int .i64 m0, .string o, .slice va vn vc] W w') e a w') := Lib.hid (by
    rintro e a w' ⟨rfl, hd, hA⟩
    exact bodyPost_end (results_none rfl _ _ _) hd ⟨rfl, hA⟩)
  refine Code.wp_mono HA.out ?_
  go_region_law ((refine step_append_lies _ rfl (.tmp 11) (.tmp 14) 25 rfl base 52 i0 _ 7 88 Tryz.underlying25 hi hz0 hz1 hz2 (by rfl) (by omega) _ k xs (by rfl) ((HOWN2.out.alloc _).drew) ⟨W2.heap.size, 0, none⟩ 1 1 [.int .i64 0, .int .i64 0, .string ⟨#[]⟩, .int .i64 0, .int .i64 0, .string ⟨#[]⟩, .slice none 0 0] (by rfl) (by rfl) (World.news_of_block (cs := #[.int .i64 0, .int .i64 0, .string ⟨#[]⟩, .int .i64 0, .int .i64 0, .string ⟨#[]⟩, .slice none 0 0]) (t := 52) (fr := (0, 0)) (heap_alloc_new W2 _)) (by simp [Value.oneCell']) (by omega) (by unfold maxLen; omega) (by omega) (by simp; omega) (W2.heap.size + 1) (by simp) ?_; intro g2 cap2 w2 hown2 hgrow hat hlt2; have hx := HXL.out; have z0 : w2.cell? ⟨g2, k * 7, none⟩ = some (.int .i64 0) := app_cell hown2 hx (j := 0) rfl (by omega); have z1 := app_cell hown2 hx (j := 1) rfl (by omega); have z2 := app_cell hown2 hx (j := 2) rfl (by omega); have z3 := app_cell hown2 hx (j := 3) rfl (by omega); have z4 := app_cell hown2 hx (j := 4) rfl (by omega); have z5 := app_cell hown2 hx (j := 5) rfl (by omega); have z6 := app_cell hown2 hx (j := 6) rfl (by omega); have fz := hown2.frozenAt; have e62 := (hgrow.cell_far ⟨ob, n * 8 + 6, none⟩ (by simp; omega) (fun e => HNE.out e.symm)).trans (HE6.out _); have f62 := (hgrow.frozen_far ⟨ob, n * 8 + 6, none⟩ (by simp; omega) (fun e => HNE.out e.symm)).trans (HF6.out _); obtain ⟨n1, n2⟩ := ne_of_hat hat HNE.out (by omega); clear hx))
  all_goals refine ⟨rfl, rfl, ?_⟩
  all_goals first
    | (with_reducible refine add_end HB.out HZ.out HNE.out ?_ hgrow hown2 hat HXL.out; exact hob2)
    | (with_reducible refine add_end2 HB.out HZ.out HNE.out ?_ hgrow hown2 hat HXL.out; exact hob2)
end

section
open Go.RowKit

/-- A block that may be a row of the reader's: a new one, or the one that was made ahead of it. -/
abbrev Bs (base b : Nat) : Prop := base ≤ b ∨ b + 3 = base
structure Opq (W : World) (base : Nat) (gs : List Gp) (ob cap : Nat) (kvs : List Value) : Prop where
  len : kvs.length = gs.length
  row : W.ownsRow 0 102 8 (.slice (some ⟨ob, 0, none⟩) gs.length cap) gs.length (flatG gs kvs)
  obp : Bs base ob
  ne : ∀ kv ∈ kvs, kv.ownBlock ≠ some ob
  nd : ∀ (i j : Nat) (x y : Value) (b : Nat), kvs[i]? = some x → kvs[j]? = some y → x.ownBlock = some b → y.ownBlock = some b → i = j
  kids : ∀ (i : Nat) (g : Gp) (kv : Value), gs[i]? = some g → kvs[i]? = some kv → FOwn W base (Sealed base ob kvs) kv g.kids

section
variable {W W' : World} {base : Nat} {pre : List Gp} {top : Gp} {ob cap : Nat} {kp : List Value} {kt : Value}
theorem Opq.push {gs : List Gp} {kvs : List Value} {g : Gp} {ob' cap' : Nat} (h : Opq W base gs ob cap kvs) (hg : g.kids = []) (hbz : base ≤ W.heap.size)
    (hk : ∀ b, base ≤ b → b < W.heap.size → b ≠ ob → W'.heap[b]? = W.heap[b]?) (hs : W.heap.size ≤ W'.heap.size) (ho : ob' = ob ∨ W.heap.size ≤ ob')
    (hr : W'.ownsRow 0 102 8 (.slice (some ⟨ob', 0, none⟩) (gs.length + 1) cap') (gs.length + 1) (flatG gs kvs ++ gpV g (.slice none 0 0))) :
    Opq W' base (gs ++ [g]) ob' cap' (kvs ++ [.slice none 0 0]) := by
  have hlt : ∀ (i : Nat) (kv : Value) (b : Nat), kvs[i]? = some kv → kv.ownBlock = some b → b < W.heap.size := fun i kv b h1 h2 => by
    obtain ⟨g0, hg0⟩ : ∃ g0, gs[i]? = some g0 := ⟨_, List.getElem?_eq_getElem (by have := (List.getElem?_eq_some_iff.1 h1).1; have := h.len; omega)⟩
    exact ((h.kids i g0 kv hg0 h1).lt h2).2
  have hne : ∀ kv ∈ kvs, kv.ownBlock ≠ some ob' := fun kv hkv e => by
    obtain ⟨i, hi⟩ := List.mem_iff_getElem?.1 hkv
    rcases ho with rfl | ho
    · exact h.ne kv hkv e
    · have := hlt i kv ob' hi e; omega
  refine ⟨by simp [h.len], ?_, (by rcases ho with rfl | ho; exact h.obp; exact .inl (by omega)), ?_, ?_, ?_⟩
  · rw [flatG_snoc h.len, List.length_append, List.length_singleton]
    exact hr
  · intro kv hkv
    rcases List.mem_append.1 hkv with hkv | hkv
    · exact hne kv hkv
    · simp only [List.mem_singleton] at hkv; subst hkv; simp [Value.ownBlock]
  · intro i j x y b hi hj hx hy
    by_cases h1 : i = kvs.length
    · have := get_snoc_eq hi h1; subst this; cases hx
    · by_cases h2 : j = kvs.length
      · have := get_snoc_eq hj h2; subst this; cases hy
      · exact h.nd i j x y b (get_snoc_lt hi h1) (get_snoc_lt hj h2) hx hy
  · intro i g0 kv hi hj
    by_cases h1 : i = kvs.length
    · have := get_snoc_eq hj h1; subst this
      have := get_snoc_eq hi (by rw [h1, h.len]); subst this
      rw [hg]
      exact FOwn.nil _ _ _
    · refine (h.kids i g0 kv (get_snoc_lt hi (by rw [← h.len]; exact h1)) (get_snoc_lt hj h1)).keep (fun b hb hz => ⟨⟨hb.1, by rcases ho with rfl | ho; exact hb.2.1; omega, fun kv' hkv' => ?_⟩, hk b hb.1 hz hb.2.1⟩) hs (fun b hb hz => hk b ((h.kids i g0 kv (get_snoc_lt hi (by rw [← h.len]; exact h1)) (get_snoc_lt hj h1)).lt hb).1 hz ?_)
      · rcases List.mem_append.1 hkv' with hkv' | hkv'
        · exact hb.2.2 kv' hkv'
        · simp only [List.mem_singleton] at hkv'; subst hkv'; simp [Value.ownBlock]
      · rintro rfl
        exact h.ne kv (List.mem_iff_getElem?.2 ⟨i, get_snoc_lt hj h1⟩) hb
theorem Opq.pop (h : Opq W base (pre ++ [top]) ob cap (kp ++ [kt])) : Opq W base pre ob cap kp ∧ FVal W (Sealed base ob kp) kt top.kids := by
  have hl : kp.length = pre.length := by have := h.len; simpa using this
  have hsub : ∀ b, Sealed base ob (kp ++ [kt]) b → Sealed base ob kp b := fun b hb => ⟨hb.1, hb.2.1, fun kv hkv => hb.2.2 kv (List.mem_append_left _ hkv)⟩
  have hkt := h.kids pre.length top kt (by simp) (by rw [← hl]; simp)
  refine ⟨⟨hl, ?_, h.obp, fun kv hkv => h.ne kv (List.mem_append_left _ hkv), ?_, ?_⟩, hkt.val hsub ?_⟩
  · have hr := h.row
    rw [flatG_snoc hl, List.length_append, List.length_singleton] at hr
    exact ownsRow_pop (flatG_length hl) hr
  · intro i j x y b hi hj
    exact h.nd i j x y b (by rw [List.getElem?_append_left (List.getElem?_eq_some_iff.1 hi).1]; exact hi) (by rw [List.getElem?_append_left (List.getElem?_eq_some_iff.1 hj).1]; exact hj)
  · intro i g kv hi hj
    exact (h.kids i g kv (by rw [List.getElem?_append_left (List.getElem?_eq_some_iff.1 hi).1]; exact hi) (by rw [List.getElem?_append_left (List.getElem?_eq_some_iff.1 hj).1]; exact hj)).keep (fun b hb _ => ⟨hsub b hb, rfl⟩) (Nat.le_refl _) (fun _ _ _ => rfl)
  · intro b hb
    refine ⟨(hkt.lt hb).1, fun e => h.ne kt (by simp) (by rw [hb, e]), fun kv hkv e => ?_⟩
    obtain ⟨i, hi⟩ := List.mem_iff_getElem?.1 hkv
    have hil := (List.getElem?_eq_some_iff.1 hi).1
    have := h.nd i kp.length kv kt b (by rw [List.getElem?_append_left hil]; exact hi) (by simp) e hb
    omega
theorem Opq.add {f : Fg} {kv : Value} {g c' : Nat} {kk : List Value} (h : Opq W base (pre ++ [top]) ob cap (kp ++ [kt])) (hf : FVal W (Sealed base ob (kp ++ [kt])) kv f.kids)
    (hkk : kk.length = top.kids.length) (hkv : ∀ (i : Nat) (x : Fg) (u : Value), top.kids[i]? = some x → kk[i]? = some u → FVal W (Sealed base ob (kp ++ [kt])) u x.kids)
    (hk : ∀ b, b < W.heap.size → b ≠ ob → b ≠ g → kt.ownBlock ≠ some b → W'.heap[b]? = W.heap[b]?) (hs : W.heap.size ≤ W'.heap.size) (ho : kt.ownBlock = some g ∨ W.heap.size ≤ g)
    (hr : W'.ownsRow 0 102 8 (.slice (some ⟨ob, 0, none⟩) (pre.length + 1) cap) (pre.length + 1) (flatG pre kp ++ gpV (top.add f) (.slice (some ⟨g, 0, none⟩) (top.kids.length + 1) c')))
    (hv : W'.ownsRow base 52 7 (.slice (some ⟨g, 0, none⟩) (top.kids.length + 1) c') (top.kids.length + 1) (flatF top.kids kk ++ fgV f kv)) :
    Opq W' base (pre ++ [top.add f]) ob cap (kp ++ [.slice (some ⟨g, 0, none⟩) (top.kids.length + 1) c']) := by
  have hl : kp.length = pre.length := by have := h.len; simpa using this
  have hkp : ∀ {i : Nat} {kv : Value}, kp[i]? = some kv → (kp ++ [kt])[i]? = some kv := fun {i kv} hi => by rw [List.getElem?_append_left (List.getElem?_eq_some_iff.1 hi).1]; exact hi
  have hgp : ∀ {i : Nat} {g0 : Gp}, pre[i]? = some g0 → (pre ++ [top])[i]? = some g0 := fun {i g0} hi => by rw [List.getElem?_append_left (List.getElem?_eq_some_iff.1 hi).1]; exact hi
  have hlt : ∀ (i : Nat) (kv : Value) (b : Nat), kp[i]? = some kv → kv.ownBlock = some b → b < W.heap.size := fun i kv b h1 h2 => by
    obtain ⟨g0, hg0⟩ : ∃ g0, pre[i]? = some g0 := ⟨_, List.getElem?_eq_getElem (by have := (List.getElem?_eq_some_iff.1 h1).1; omega)⟩
    exact ((h.kids i g0 kv (hgp hg0) (hkp h1)).lt h2).2
  have hob : ob < W.heap.size := by
    have := h.row.lt ob rfl
    omega
  have hng : ∀ (i : Nat) (kv : Value), kp[i]? = some kv → kv.ownBlock ≠ some g := fun i kv h1 e => by
    rcases ho with ho | ho
    · have := h.nd i kp.length kv kt g (hkp h1) (by simp) e ho
      have := (List.getElem?_eq_some_iff.1 h1).1
      omega
    · have := hlt i kv g h1 e; omega
  have hgo : g ≠ ob := by
    rintro rfl
    rcases ho with ho | ho
    · exact h.ne kt (by simp) ho
    · omega
  have hsl : ∀ b, Sealed base ob (kp ++ [kt]) b → b < W.heap.size → Sealed base ob (kp ++ [.slice (some ⟨g, 0, none⟩) (top.kids.length + 1) c']) b ∧ W'.heap[b]? = W.heap[b]? := fun b hb hz => by
    have hbg : b ≠ g := by
      rintro rfl
      rcases ho with ho | ho
      · exact hb.2.2 kt (by simp) ho
      · omega
    refine ⟨⟨hb.1, hb.2.1, fun kv' hkv' => ?_⟩, hk b hz hb.2.1 hbg (hb.2.2 kt (by simp))⟩
    rcases List.mem_append.1 hkv' with hkv' | hkv'
    · exact hb.2.2 kv' (List.mem_append_left _ hkv')
    · simp only [List.mem_singleton] at hkv'; subst hkv'
      simp only [Value.ownBlock, ne_eq, Option.some.injEq]
      exact fun e => hbg e.symm
  refine ⟨by simp [hl], ?_, h.obp, ?_, ?_, ?_⟩
  · rw [flatG_snoc hl, List.length_append, List.length_singleton]
    exact hr
  · intro kv' hkv'
    rcases List.mem_append.1 hkv' with hkv' | hkv'
    · exact h.ne kv' (List.mem_append_left _ hkv')
    · simp only [List.mem_singleton] at hkv'; subst hkv'
      simp only [Value.ownBlock, ne_eq, Option.some.injEq]
      exact hgo
  · intro i j x y b hi hj hx hy
    by_cases h1 : i = kp.length
    · by_cases h2 : j = kp.length
      · omega
      · have := get_snoc_eq hi h1; subst this
        simp only [Value.ownBlock, Option.some.injEq] at hx
        exact absurd (by rw [hy, hx]) (hng j y (get_snoc_lt hj h2))
    · by_cases h2 : j = kp.length
      · have := get_snoc_eq hj h2; subst this
        simp only [Value.ownBlock, Option.some.injEq] at hy
        exact absurd (by rw [hx, hy]) (hng i x (get_snoc_lt hi h1))
      · exact h.nd i j x y b (hkp (get_snoc_lt hi h1)) (hkp (get_snoc_lt hj h2)) hx hy
  · intro i g0 kv' hi hj
    by_cases h1 : i = kp.length
    · have := get_snoc_eq hj h1; subst this
      have := get_snoc_eq hi (by rw [h1, hl]); subst this
      refine ⟨kk ++ [kv], by simp [Gp.add, hkk], ?_, fun i' x' u' hx' hu' => ?_⟩
      · show W'.ownsRow base 52 7 _ (top.kids ++ [f]).length (flatF (top.kids ++ [f]) (kk ++ [kv]))
        rw [flatF_snoc hkk, List.length_append, List.length_singleton]
        exact hv
      · have hx2 : (top.kids ++ [f])[i']? = some x' := hx'
        by_cases h2 : i' = kk.length
        · have := get_snoc_eq hu' h2; subst this
          have := get_snoc_eq hx2 (by rw [h2, hkk]); subst this
          exact hf.keep (fun b hb hz => hsl b hb hz) hs
        · exact (hkv i' x' u' (get_snoc_lt hx2 (by rw [← hkk]; exact h2)) (get_snoc_lt hu' h2)).keep (fun b hb hz => hsl b hb hz) hs
    · have hj' := get_snoc_lt hj h1
      refine (h.kids i g0 kv' (hgp (get_snoc_lt hi (by rw [← hl]; exact h1))) (hkp hj')).keep (fun b hb hz => hsl b hb hz) hs (fun b hb hz => hk b hz ?_ ?_ ?_)
      · rintro rfl; exact h.ne kv' (List.mem_iff_getElem?.2 ⟨i, hkp hj'⟩) hb
      · rintro rfl; exact hng i kv' hj' hb
      · intro e
        have := h.nd i kp.length kv' kt b (hkp hj') (by simp) hb e
        omega
end
end

section
open Go.RowKit

theorem gpV_add (top : Gp) (f : Fg) (v u : Value) : (gpV top v).set 6 u = gpV (top.add f) u := rfl
theorem Opq.cellG {W : World} {base ob cap : Nat} {pre : List Gp} {top : Gp} {kp : List Value} {kt : Value} (h : Opq W base (pre ++ [top]) ob cap (kp ++ [kt])) {j : Nat} {u : Value} (hu : (gpV top kt)[j]? = some u) : W.cell? ⟨ob, pre.length * 8 + j, none⟩ = some u := by
  have hl : kp.length = pre.length := by have := h.len; simpa using this
  have hr := h.row
  rw [flatG_snoc hl, List.length_append, List.length_singleton] at hr
  have hj : j < 8 := by have := (List.getElem?_eq_some_iff.1 hu).1; simpa [gpV, fgV] using this
  exact app_cell hr (flatG_length hl) hu hj
theorem Opq.frozenG {W : World} {base ob cap : Nat} {gs : List Gp} {kvs : List Value} (h : Opq W base gs ob cap kvs) (j : Nat) : W.frozen? ⟨ob, j, none⟩ = false := h.row.frozenAt j
theorem Opq.oblt {W : World} {base ob cap : Nat} {gs : List Gp} {kvs : List Value} (h : Opq W base gs ob cap kvs) : Bs base ob ∧ ob < W.heap.size := ⟨h.obp, (h.row.lt ob rfl).2⟩
/-- A fragment is added to the innermost group. -/
theorem add_any (rb base ob cap : Nat) (pre : List Gp) (top : Gp) (kp : List Value) (kt : Value) (x : Fg) (kv : Value) (W : World) (hrb : rb + 2 = base) (hbz : base ≤ W.heap.size) (hn : pre.length + 1 ≤ 1048576) (hkn : top.kids.length + 1 ≤ 1048576)
    (h3 : W.cell? ⟨rb, 3, none⟩ = some (.slice (some ⟨ob, 0, none⟩) (pre.length + 1) cap)) (h : Opq W base (pre ++ [top]) ob cap (kp ++ [kt])) (hf : FVal W (Sealed base ob (kp ++ [kt])) kv x.kids) :
    Calls Tryz.prog 70 #[.pointer (some ⟨rb, 0, none⟩), .agg (fgV x kv).toArray] W fun e w' => e = .returned (.tuple #[]) ∧ KeepS (fun b => Bs base b) W w' ∧ (∀ b, Sealed base ob (kp ++ [kt]) b → b < W.heap.size → w'.heap[b]? = W.heap[b]?) ∧ ∃ v', Opq w' base (pre ++ [top.add x]) ob cap (kp ++ [v']) := by
  have hl : kp.length = pre.length := by have := h.len; simpa using this
  obtain ⟨kk, hkk, hown, hkids⟩ := h.kids pre.length top kt (by simp) (by rw [← hl]; simp)
  obtain ⟨va, vc, rfl, hvr⟩ := hf
  have hf : FVal W (Sealed base ob (kp ++ [kt])) (.slice va x.kids.length vc) x.kids := ⟨va, vc, rfl, hvr⟩
  obtain ⟨ka, c, rfl⟩ : ∃ ka c, kt = .slice ka top.kids.length c := by
    rcases hown.2 with ⟨e, h0⟩ | ⟨g, cap', cur, e, _⟩
    · exact ⟨none, 0, by rw [e, h0]⟩
    · exact ⟨_, _, e⟩
  have hob := h.oblt
  refine (add_run rb base ob cap pre.length top.kids.length c ka x va x.kids.length vc _ W (by omega) hn hkn hob.2 hbz h3 (h.cellG (j := 6) rfl) (h.frozenG _) hown (h.ne _ (by simp))).mono ?_
  rintro e w' ⟨rfl, g, c', w3, rfl, hk, ho, hgo, hv⟩
  have hlow := fun b (hb : (Value.slice ka top.kids.length c).ownBlock = some b) => (hown.lt b hb).1
  have hgb : base ≤ g := (hv.lt g rfl).1
  have hb3 : w3.heap[ob]? = W.heap[ob]? := hk.block ob hob.2 (fun e => by rcases e with e | e; exact hgo e.symm; exact h.ne _ (by simp) e)
  have hrow3 : w3.ownsRow 0 102 8 (.slice (some ⟨ob, 0, none⟩) (pre.length + 1) cap) (pre.length + 1) (flatG pre kp ++ gpV top (.slice ka top.kids.length c)) := by
    have hr := h.row
    rw [flatG_snoc hl, List.length_append, List.length_singleton] at hr
    refine ⟨hr.1, ?_⟩
    rcases hr.2 with ⟨e, _⟩ | ⟨g0, cap0, cur, e, h1, h2, rest⟩
    · cases e
    · cases e
      exact .inr ⟨ob, cap, cur, rfl, h1, hb3.trans h2, rest⟩
  have hst := (hrow3.stored (pre.length * 8 + 6) (.slice (some ⟨g, 0, none⟩) (top.kids.length + 1) c')).1
  rw [set_app (flatG_length hl), gpV_add top x] at hst
  have hks : KeepS (fun b => b = ob ∨ b = g ∨ (Value.slice ka top.kids.length c).ownBlock = some b) W (w3.setCell ⟨ob, pre.length * 8 + 6, none⟩ (.slice (some ⟨g, 0, none⟩) (top.kids.length + 1) c')) :=
    (hk.mono fun b e => .inr e).setCell (.inl rfl) _ _
  refine ⟨rfl, hks.mono fun b e => ?_, fun b hb hz => hks.block b hz ?_, _, h.add (g := g) (c' := c') (kk := kk) hf hkk hkids (fun b hz h1 h2 h3 => hks.block b hz ?_) hks.size ho hst ?_⟩
  · rcases e with rfl | rfl | e
    · exact hob.1
    · exact .inl hgb
    · exact .inl (hlow b e)
  · rintro (e | e | e)
    · exact hb.2.1 e
    · rcases ho with ho | ho
      · exact hb.2.2 (.slice ka top.kids.length c) (by simp) (by rw [ho, e])
      · omega
    · exact hb.2.2 (.slice ka top.kids.length c) (by simp) e
  · rintro (e | e | e)
    · exact h1 e
    · exact h2 e
    · exact h3 e
  · exact ownsRow_setCell_other hv (a := ⟨ob, pre.length * 8 + 6, none⟩) (by simp only [Value.ownBlock, ne_eq, Option.some.injEq]; exact hgo) _
end

end Go.Proofs.YtafncodigpjkaaaGreatDoor
