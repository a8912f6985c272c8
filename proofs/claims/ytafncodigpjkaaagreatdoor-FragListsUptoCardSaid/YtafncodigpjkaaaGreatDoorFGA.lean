/-
  Read.
  The depth of fragments.
-/
import Derived.Test.YtafncodigpjkaaaGreatDoorFG9
import Derived.Test.YtafncodigpjkaaaGreatDoorFG8
import Derived.Defers
import Derived.Recover
import Derived.Laws.Pointers
namespace Go.Proofs.YtafncodigpjkaaaGreatDoor
section
open Go.RowKit

theorem frz {W : World} {k j : Nat} {cs : Array Value} {tt : TypeId} (h : W.heap[k]? = some (.cells cs tt)) : W.frozen? ⟨k, j, none⟩ = false := by simp [World.frozen?, h]
/-- A new reader is at its first token. -/
theorem new_rdr {l : List Tkn} {tv : Value} {ws : List ByteArray} {W w' : World} (h : NewR ws tv W w') (ht : TRow W (fun _ => True) tv l) : Rdr l tv ws (W.heap.size + 3) (W.heap.size + 1) (W.heap.size + 2) 0 rs0 w' := by
  obtain ⟨hk, hs, h0, h1, clk, h2⟩ := h
  refine ⟨⟨by omega, by omega, by omega, by omega, by rw [fcell_at h1]; rfl, by rw [fcell_at h1]; rfl, by rw [fcell_at h1]; rfl, fun j => frz h1, ?_, mapOk_of h2⟩, by rw [fcell_at h1]; rfl, W.heap.size, 1, [], .slice none 0 0, by rw [fcell_at h1]; rfl, ?_⟩
  · obtain ⟨b, c, rfl, hr⟩ := ht
    refine ⟨b, c, rfl, fun hne => ?_⟩
    obtain ⟨g, o, e, _, hg, hat⟩ := hr hne
    refine ⟨g, o, e, by omega, by omega, fun i x hx => ?_⟩
    have hb := hk.block g hg (fun h => h)
    obtain ⟨a0, a1, a2, a3, a4⟩ := hat i x hx
    exact ⟨(World.cell?_of_block (w := W) (a := ⟨g, o + i * 5, none⟩) hb).trans a0, (World.cell?_of_block (w := W) (a := ⟨g, o + i * 5 + 1, none⟩) hb).trans a1, (World.cell?_of_block (w := W) (a := ⟨g, o + i * 5 + 2, none⟩) hb).trans a2, (World.cell?_of_block (w := W) (a := ⟨g, o + i * 5 + 3, none⟩) hb).trans a3, (World.cell?_of_block (w := W) (a := ⟨g, o + i * 5 + 4, none⟩) hb).trans a4⟩
  · refine ⟨rfl, ⟨rfl, .inr ⟨W.heap.size, 1, zeroG, rfl, Nat.zero_le _, h0, by decide, by decide, rfl, rfl⟩⟩, .inr rfl, ?_, ?_, ?_⟩
    · intro kv hkv
      simp only [List.nil_append, List.mem_singleton] at hkv
      subst hkv
      simp [Value.ownBlock]
    · intro i j x y b hi hj hx hy
      rcases i with _ | i
      · simp only [List.nil_append, List.getElem?_cons_zero, Option.some.injEq] at hi
        subst hi
        cases hx
      · simp at hi
    · intro i g kv hi hj
      rcases i with _ | i
      · simp only [List.nil_append, List.getElem?_cons_zero, Option.some.injEq] at hj
        have hg : rs0.top = g := Option.some.inj (show some rs0.top = some g from hi)
        subst hg hj
        exact FOwn.nil _ _ _
      · simp at hj

theorem fassert_yes (x : Value) (w : World) : (Instr.typeAssert (.iface 63 x) 20 63 true).run Tryz.prog w = .ok (.tuple #[x, .bool true]) w := by kernel_rfl
theorem fassert_nil (w : World) : (Instr.typeAssert .nilIface 20 63 true).run Tryz.prog w = .ok (.tuple #[.agg #[.int .i64 0, .int .i64 0], .bool false]) w := by kernel_rfl
set_option maxRecDepth 100000 in
theorem fcatch_refusal (i c : Nat) (bl : Nat) (w : World) (hs : bl + 2 < w.heap.size) (hl : ∃ v, w.cell? ⟨bl, 0, none⟩ = some v) (ha : ∃ v, w.cell? ⟨bl + 1, 0, none⟩ = some v) (he : ∃ v, w.cell? ⟨bl + 2, 0, none⟩ = some v)
    (hf : w.frozen? ⟨bl, 0, none⟩ = false ∧ w.frozen? ⟨bl + 1, 0, none⟩ = false ∧ w.frozen? ⟨bl + 2, 0, none⟩ = false) :
    CallsD Tryz.prog 40 #[.pointer (some ⟨bl, 0, none⟩), .pointer (some ⟨bl + 1, 0, none⟩), .pointer (some ⟨bl + 2, 0, none⟩)]
      (.panicking ({ v := .iface 63 (.agg #[.int .i64 (i : Int), .int .i64 (c : Int)]), recovered := false } :: [])) w fun e u' w' =>
      e = .returned (.tuple #[]) ∧ u' = .panicking ({ v := .iface 63 (.agg #[.int .i64 (i : Int), .int .i64 (c : Int)]), recovered := true } :: []) ∧
      w'.cell? ⟨bl, 0, none⟩ = some (.slice none 0 0) ∧ w'.cell? ⟨bl + 1, 0, none⟩ = some (.int .i64 (i : Int)) ∧ w'.cell? ⟨bl + 2, 0, none⟩ = some (.int .i64 (c : Int)) ∧ Below bl w w' := by
  obtain ⟨v0, hl⟩ := hl
  obtain ⟨v1, ha⟩ := ha
  obtain ⟨v2, he⟩ := he
  obtain ⟨f0, f1, f2⟩ := hf
  have al := fun o => (Below.refl _ w).alloc (Nat.le_refl _) o
  have x0 : ∀ o, (w.alloc o).cell? ⟨bl, 0, none⟩ = some v0 := fun o => ((al o).cell (p := ⟨bl, 0, none⟩) (by simp; omega)).trans hl
  have x1 : ∀ o, (w.alloc o).cell? ⟨bl + 1, 0, none⟩ = some v1 := fun o => ((al o).cell (p := ⟨bl + 1, 0, none⟩) (by simp; omega)).trans ha
  have x2 : ∀ o, (w.alloc o).cell? ⟨bl + 2, 0, none⟩ = some v2 := fun o => ((al o).cell (p := ⟨bl + 2, 0, none⟩) (by simp; omega)).trans he
  have y0 : ∀ o, (w.alloc o).frozen? ⟨bl, 0, none⟩ = false := fun o => ((al o).frozen (p := ⟨bl, 0, none⟩) (by simp; omega)).trans f0
  have y1 : ∀ o, (w.alloc o).frozen? ⟨bl + 1, 0, none⟩ = false := fun o => ((al o).frozen (p := ⟨bl + 1, 0, none⟩) (by simp; omega)).trans f1
  have y2 : ∀ o, (w.alloc o).frozen? ⟨bl + 2, 0, none⟩ = false := fun o => ((al o).frozen (p := ⟨bl + 2, 0, none⟩) (by simp; omega)).trans f2
  have n0 : ¬ bl = w.heap.size := by omega
  have n1 : ¬ bl + 1 = w.heap.size := by omega
  have n2 : ¬ bl + 2 = w.heap.size := by omega
  clear al
  have hta := fassert_yes (.agg #[.int .i64 (i : Int), .int .i64 (c : Int)])
  refine callsD_of_wpS Tryz.func40 rfl fun c₀ cs hu => ?_
  apply wpS_seq
  apply wpS_region
  simp [wpOpsS, go_sem, recoverD, hu, hta, Tryz.ntmps40, Exit.thenS]
  refine wpS_of_wp ?_
  simp only [Array.replicate_succ, Array.replicate_zero, List.push_toArray, List.append_toArray, List.nil_append, List.cons_append, List.setIfInBounds_toArray, List.set_cons_zero, List.set_cons_succ]
  go_wp2_with fail
  go_region
  all_goals go_wp2_with fail
  all_goals
    simp [bodyPostS, results, Tryz.results40]
    refine ⟨?_, ?_, ?_, ?_⟩
    · rw [World.cell?_setCell_other _ _ _ _ (by simp), World.cell?_setCell_other _ _ _ _ (by simp)]; exact World.cell?_setCell_same' _ _ _ (by rw [x0]; rfl)
    · rw [World.cell?_setCell_other _ _ _ _ (by simp)]; exact World.cell?_setCell_same' _ _ _ (by rw [World.cell?_setCell_other _ _ _ _ (by simp), x1]; rfl)
    · exact World.cell?_setCell_same' _ _ _ (by rw [World.cell?_setCell_other _ _ _ _ (by simp), World.cell?_setCell_other _ _ _ _ (by simp), x2]; rfl)
    · exact ((((((Below.refl bl w).alloc (by omega) _).setCell (p := ⟨bl, 0, none⟩) (Nat.le_refl _) _).setCell (p := ⟨bl + 1, 0, none⟩) (by simp) _).setCell (p := ⟨bl + 2, 0, none⟩) (by simp) _)).drew
set_option maxRecDepth 100000 in
theorem fcatch_none (a0 a1 a2 : Value) (w : World) :
    CallsD Tryz.prog 40 #[a0, a1, a2] .returning w fun e u' w' => e = .returned (.tuple #[]) ∧ u' = .returning ∧ Below w.heap.size w w' := by
  have hta := fassert_nil
  refine callsD_of_wpS Tryz.func40 rfl fun c₀ cs hu => ?_
  apply wpS_seq
  apply wpS_region
  simp [wpOpsS, go_sem, recoverD, hu, hta, Tryz.ntmps40, Exit.thenS]
  refine wpS_of_wp ?_
  simp only [Array.replicate_succ, Array.replicate_zero, List.push_toArray, List.append_toArray, List.nil_append, List.cons_append, List.setIfInBounds_toArray, List.set_cons_zero, List.set_cons_succ]
  go_wp2_with fail
  simp [bodyPostS, results, Tryz.results40]
  exact ⟨.returning, by rw [← hu], rfl, (Below.refl _ w).alloc (Nat.le_refl _) _⟩

theorem right_facts {ws : List ByteArray} (h : rightM isPlainB ws = true) : ws.length ≤ 40 ∧ (basics ++ ws).Nodup ∧ ∀ s ∈ ws, isNamed s = false := by
  rw [rightM_scan, Bool.and_eq_true, scanR_iff, decide_eq_true_eq] at h
  obtain ⟨h1, h2, h3, h4⟩ := h
  have hp : isPlainB sPar = false := by decide +kernel
  have hb : isPlainB sBra = false := by decide +kernel
  have hc : isPlainB sCur = false := by decide +kernel
  refine ⟨h1, List.nodup_append.2 ⟨by decide +kernel, h4, fun a ha b hb' e => ?_⟩, fun s hs => ?_⟩
  · subst e
    have hp2 := h2 a hb'
    have ht := h3 a hb'
    simp only [basics, List.mem_cons, List.not_mem_nil, or_false] at ha
    simp only [taken0, List.mem_cons, List.not_mem_nil, or_false] at ht
    rcases ha with rfl | rfl | rfl | rfl | rfl | rfl | rfl | rfl | rfl
    · rw [hp] at hp2; cases hp2
    · rw [hb] at hp2; cases hp2
    · rw [hc] at hp2; cases hp2
    all_goals simp at ht
  · have ht := h3 s hs
    simp only [taken0, List.mem_cons, List.not_mem_nil, or_false, not_or] at ht
    unfold isNamed
    rw [decide_eq_false ht.2.2.2.1, decide_eq_false ht.2.2.2.2.1, decide_eq_false ht.2.2.2.2.2.1]
    rfl
/-- How Read ends. -/
def ReadPost (l : List Tkn) (ws : List ByteArray) (W : World) (e : Ending) (w' : World) : Prop :=
  Below W.heap.size W w' ∧ ((∃ a c, readM tokOk isPlainB l ws = .error (a, c) ∧ e = .returned (.tuple #[.slice none 0 0, .int .i64 (a : Int), .int .i64 (c : Int)])) ∨
    ∃ L b cap, readM tokOk isPlainB l ws = .ok L ∧ e = .returned (.tuple #[.slice b L.length cap, .int .i64 0, .int .i64 0]) ∧ FVal w' (fun g => W.heap.size ≤ g) (.slice b L.length cap) L)
theorem three_cells (W : World) (o0 o1 o2 : Obj) (w' : World) (hb : Below (W.heap.size + 3) (((W.alloc o0).alloc o1).alloc o2) w') :
    w'.heap[W.heap.size]? = some o0 ∧ w'.heap[W.heap.size + 1]? = some o1 ∧ w'.heap[W.heap.size + 2]? = some o2 ∧ Below W.heap.size W w' ∧ W.heap.size + 3 ≤ w'.heap.size := by
  have a2 := heap_alloc_new ((W.alloc o0).alloc o1) o2
  have a1' := heap_alloc_new (W.alloc o0) o1
  rw [World.size_alloc] at a1'
  have a1 := (Below.heap_alloc ((W.alloc o0).alloc o1) o2 (W.heap.size + 1) (by simp)).trans a1'
  have a0 := (Below.heap_alloc ((W.alloc o0).alloc o1) o2 W.heap.size (by simp; omega)).trans ((Below.heap_alloc (W.alloc o0) o1 W.heap.size (by simp)).trans (heap_alloc_new W o0))
  simp only [World.size_alloc] at a2
  exact ⟨(hb.block _ (by omega)).trans a0, (hb.block _ (by omega)).trans a1, (hb.block _ (by omega)).trans a2, ((((Below.refl _ W).alloc (Nat.le_refl _) o0).alloc (by simp) o1).alloc (by simp; omega) o2).trans (hb.mono (by omega)), by have := hb.size; simp at this; omega⟩
theorem three_set {w : World} {b : Nat} {u0 u1 u2 : Value} (v0 v1 v2 : Value) (c0 : w.cell? ⟨b, 0, none⟩ = some u0) (c1 : w.cell? ⟨b + 1, 0, none⟩ = some u1) (c2 : w.cell? ⟨b + 1 + 1, 0, none⟩ = some u2) :
    (((w.setCell ⟨b, 0, none⟩ v0).setCell ⟨b + 1, 0, none⟩ v1).setCell ⟨b + 1 + 1, 0, none⟩ v2).cell? ⟨b, 0, none⟩ = some v0 ∧ (((w.setCell ⟨b, 0, none⟩ v0).setCell ⟨b + 1, 0, none⟩ v1).setCell ⟨b + 1 + 1, 0, none⟩ v2).cell? ⟨b + 1, 0, none⟩ = some v1 ∧
      (((w.setCell ⟨b, 0, none⟩ v0).setCell ⟨b + 1, 0, none⟩ v1).setCell ⟨b + 1 + 1, 0, none⟩ v2).cell? ⟨b + 1 + 1, 0, none⟩ = some v2 ∧ Below b w (((w.setCell ⟨b, 0, none⟩ v0).setCell ⟨b + 1, 0, none⟩ v1).setCell ⟨b + 1 + 1, 0, none⟩ v2) := by
  refine ⟨?_, ?_, ?_, ?_⟩
  · rw [World.cell?_setCell_other _ _ _ _ (by first | (simp; done) | (simp; omega)), World.cell?_setCell_other _ _ _ _ (by simp)]; exact World.cell?_setCell_same' _ _ _ (by rw [c0]; rfl)
  · rw [World.cell?_setCell_other _ _ _ _ (by simp)]; exact World.cell?_setCell_same' _ _ _ (by rw [World.cell?_setCell_other _ _ _ _ (by simp), c1]; rfl)
  · exact World.cell?_setCell_same' _ _ _ (by rw [World.cell?_setCell_other _ _ _ _ (by simp), World.cell?_setCell_other _ _ _ _ (by first | (simp; done) | (simp; omega)), c2]; rfl)
  · exact (((Below.refl b w).setCell (p := ⟨b, 0, none⟩) (Nat.le_refl _) _).setCell (p := ⟨b + 1, 0, none⟩) (by simp) _).setCell (p := ⟨b + 1 + 1, 0, none⟩) (by simp; omega) _
set_option maxRecDepth 100000 in
set_option maxHeartbeats 8000000 in
theorem readF_any (l : List Tkn) (tv : Value) (ws : List ByteArray) (wv : Value) (W : World) (E : Env W) (ht : TRow W (fun _ => True) tv l) (hw : SRow W wv ws) (hts : ∀ x ∈ l, (x.2.2.1 : ByteArray).size ≤ 140737488351232) (hwz : ∀ x ∈ ws, x.size ≤ 140737488351232) :
    Calls Tryz.prog 9 #[tv, wv] W (ReadPost l ws W) := by
  have hmf : ∀ (fn : Fn) (first cap : Array Value) (w : World), (Instr.makeFunc fn first cap).run Tryz.prog w = .ok (.func fn first cap) w := fun _ _ _ _ => rfl
  have HRI := Lib.hid (fun (w' : World) (h : Below W.heap.size W w') => right_any wv ws w' (E.below E.size h) (by
    obtain ⟨b, c, rfl, hr⟩ := hw
    refine ⟨b, c, rfl, fun hne => ?_⟩
    obtain ⟨g, o, e, hg, hat⟩ := hr hne
    exact ⟨g, o, e, by have := h.size; omega, fun i x hx => (h.cell (p := ⟨g, o + i, none⟩) hg).trans (hat i x hx)⟩) hwz)
  cases hR : rightM isPlainB ws
  · have hM : readM tokOk isPlainB l ws = .error (0, 1) := by unfold readM; rw [hR]; rfl
    rw [hR] at HRI
    have HM := Lib.hid hM
    have H3 := Lib.hid (fun o0 o1 o2 w' hb => three_cells W o0 o1 o2 w' hb)
    have HB3 := Lib.hid (fun o0 o1 o2 => (((Below.refl _ W).alloc (Nat.le_refl _) o0).alloc (by simp) o1).alloc (by simp; omega) o2)
    clear hM hR E ht hw hts hwz
    go_enter_defers Tryz.func9, Tryz.ntmps9
    go_wp2_with fail
    refine (HRI.out _ (HB3.out _ _ _)).mono ?_
    rintro e w1 ⟨rfl, hb1⟩
    obtain ⟨a0, a1, a2, hbw, hsz⟩ := H3.out _ _ _ w1 (hb1.mono (by simp))
    have c0 : w1.cell? ⟨W.heap.size, 0, none⟩ = some (.slice none 0 0) := by rw [fcell_at a0]; rfl
    have c1 : w1.cell? ⟨W.heap.size + 1, 0, none⟩ = some (.int .i64 0) := by rw [fcell_at a1]; rfl
    have c2 : w1.cell? ⟨W.heap.size + 1 + 1, 0, none⟩ = some (.int .i64 0) := by rw [fcell_at a2]; rfl
    have f0 := frz (j := 0) a0
    have f1 := frz (j := 0) a1
    have f2 : w1.frozen? ⟨W.heap.size + 1 + 1, 0, none⟩ = false := frz (j := 0) a2
    have HBW := Lib.hid hbw
    clear hb1 a0 a1 a2 hbw HRI H3 HB3
    go_wp2_with fail
    obtain ⟨z0, z1, z2, hbz⟩ := three_set (.slice none 0 0) (.int .i64 0) (.int .i64 1) c0 c1 c2
    refine ⟨.tuple #[.slice none 0 0, .int .i64 0, .int .i64 1], by simp [results, Tryz.results9, go_sem, z0, z1, z2], HBW.out.trans hbz, .inl ⟨0, 1, HM.out, rfl⟩⟩
  · obtain ⟨tb, tc, rfl, htr⟩ := id ht
    rw [hR] at HRI
    have H3 := Lib.hid (fun o0 o1 o2 w' hb => three_cells W o0 o1 o2 w' hb)
    have HB3 := Lib.hid (fun o0 o1 o2 => (((Below.refl _ W).alloc (Nat.le_refl _) o0).alloc (by simp) o1).alloc (by simp; omega) o2)
    by_cases hlong : 6000 < l.length
    · have hM : readM tokOk isPlainB l ws = .error (0, 2) := by unfold readM; rw [hR, if_pos rfl, if_pos hlong]
      have HM := Lib.hid hM
      have hgt : (6000 : Int) < (l.length : Int) := by omega
      clear hM hR E ht hw hts hwz hlong
      go_enter_defers Tryz.func9, Tryz.ntmps9
      go_wp2_with fail
      refine (HRI.out _ (HB3.out _ _ _)).mono ?_
      rintro e w1 ⟨rfl, hb1⟩
      obtain ⟨a0, a1, a2, hbw, hsz⟩ := H3.out _ _ _ w1 (hb1.mono (by simp))
      have c0 : w1.cell? ⟨W.heap.size, 0, none⟩ = some (.slice none 0 0) := by rw [fcell_at a0]; rfl
      have c1 : w1.cell? ⟨W.heap.size + 1, 0, none⟩ = some (.int .i64 0) := by rw [fcell_at a1]; rfl
      have c2 : w1.cell? ⟨W.heap.size + 1 + 1, 0, none⟩ = some (.int .i64 0) := by rw [fcell_at a2]; rfl
      have f0 := frz (j := 0) a0
      have f1 := frz (j := 0) a1
      have f2 : w1.frozen? ⟨W.heap.size + 1 + 1, 0, none⟩ = false := frz (j := 0) a2
      have HBW := Lib.hid hbw
      clear hb1 a0 a1 a2 hbw HRI H3 HB3
      go_wp2_with fail
      obtain ⟨z0, z1, z2, hbz⟩ := three_set (.slice none 0 0) (.int .i64 0) (.int .i64 2) c0 c1 c2
      refine ⟨.tuple #[.slice none 0 0, .int .i64 0, .int .i64 2], by simp [results, Tryz.results9, go_sem, z0, z1, z2], HBW.out.trans hbz, .inl ⟨0, 2, HM.out, rfl⟩⟩
    · have hM : readM tokOk isPlainB l ws = runM tokOk ws l l 0 rs0 := by unfold readM; rw [hR, if_pos rfl, if_neg hlong]
      have hgt : ¬ (6000 : Int) < (l.length : Int) := by omega
      obtain ⟨q40, qnd, qnm⟩ := right_facts hR
      have HM := Lib.hid hM
      have HNR : Hid (∀ w', Below W.heap.size W w' → Calls Tryz.prog 41 #[.slice tb l.length tc, wv] w' fun e w'' => e = .returned (.pointer (some ⟨w'.heap.size + 1, 0, none⟩)) ∧ NewR ws (.slice tb l.length tc) w' w'') := Lib.hid fun w' h => newReader_run tb l.length tc wv ws w' (by
        obtain ⟨b, c, rfl, hr⟩ := hw
        refine ⟨b, c, rfl, fun hne => ?_⟩
        obtain ⟨g, o, e, hg, hat⟩ := hr hne
        exact ⟨g, o, e, by have := h.size; omega, fun i x hx => (h.cell (p := ⟨g, o + i, none⟩) hg).trans (hat i x hx)⟩) qnd qnm (by omega)
      have HRD : Hid (∀ w' w'', Below W.heap.size W w' → NewR ws (.slice tb l.length tc) w' w'' → Calls Tryz.prog 42 #[.pointer (some ⟨w'.heap.size + 1, 0, none⟩)] w'' (ReadEnd (w'.heap.size + 3) (w'.heap.size + 1) (runM tokOk ws l l 0 rs0) w'')) := Lib.hid fun w' w'' h hn => by
        have hr := new_rdr (l := l) hn (ht.keep (fun b _ hz => h.block b hz) h.size)
        refine read_any l _ ws (w'.heap.size + 3) (w'.heap.size + 1) (w'.heap.size + 2) w'' hr (by omega) hts fun w3 hk => ?_
        have hs := h.size
        have hn1 := hn.1
        have hb3 : Below W.heap.size W w3 := h.trans (((hn1.below (B := W.heap.size) (fun k hk => hk.elim) (by omega))).trans (hk.below (fun k hk => by omega) (by have := hn1.size; omega)))
        exact E.below E.size hb3
      clear hM hR E ht hw hts hwz htr qnd qnm
      go_enter_defers Tryz.func9, Tryz.ntmps9
      go_wp2_with fail
      refine (HRI.out _ (HB3.out _ _ _)).mono ?_
      rintro e w1 ⟨rfl, hb1⟩
      obtain ⟨a0, a1, a2, hbw, hsz⟩ := H3.out _ _ _ w1 (hb1.mono (by simp))
      have c0 : w1.cell? ⟨W.heap.size, 0, none⟩ = some (.slice none 0 0) := by rw [fcell_at a0]; rfl
      have c1 : w1.cell? ⟨W.heap.size + 1, 0, none⟩ = some (.int .i64 0) := by rw [fcell_at a1]; rfl
      have c2 : w1.cell? ⟨W.heap.size + 1 + 1, 0, none⟩ = some (.int .i64 0) := by rw [fcell_at a2]; rfl
      have f0 := frz (j := 0) a0
      have f1 := frz (j := 0) a1
      have f2 : w1.frozen? ⟨W.heap.size + 1 + 1, 0, none⟩ = false := frz (j := 0) a2
      have HBW := Lib.hid hbw
      clear hb1 hbw HRI H3 HB3
      go_wp2_with fail
      refine (HNR.out _ HBW.out).mono ?_
      rintro e w2 ⟨rfl, hn2⟩
      have HRD2 := Lib.hid (HRD.out _ _ HBW.out hn2)
      have HN2 := Lib.hid hn2
      clear hn2 HNR HRD
      go_wp2_with fail
      refine HRD2.out.mono ?_
      rintro e w3 ⟨hk3, hres⟩
      have hn1 := HN2.out.1
      have hbx : ∀ j, j < w1.heap.size → w3.heap[j]? = w1.heap[j]? := fun j hj => (hk3.block j (by have := hn1.size; omega) (by omega)).trans (hn1.block j hj (fun h => h))
      have hb3 : Below W.heap.size W w3 := HBW.out.trans ((hn1.below (B := W.heap.size) (fun k hk => hk.elim) (by omega)).trans (hk3.below (fun k hk => by omega) (by have := hn1.size; omega)))
      have hsz3 : w1.heap.size ≤ w3.heap.size := by have := hn1.size; have := hk3.size; omega
      replace a0 := (hbx _ (by omega)).trans a0
      replace a1 := (hbx _ (by omega)).trans a1
      replace a2 := (hbx _ (by omega)).trans a2
      replace c0 : w3.cell? ⟨W.heap.size, 0, none⟩ = some (.slice none 0 0) := by rw [fcell_at a0]; rfl
      replace c1 : w3.cell? ⟨W.heap.size + 1, 0, none⟩ = some (.int .i64 0) := by rw [fcell_at a1]; rfl
      replace c2 : w3.cell? ⟨W.heap.size + 1 + 1, 0, none⟩ = some (.int .i64 0) := by rw [fcell_at a2]; rfl
      replace f0 : w3.frozen? ⟨W.heap.size, 0, none⟩ = false := frz (j := 0) a0
      replace f1 : w3.frozen? ⟨W.heap.size + 1, 0, none⟩ = false := frz (j := 0) a1
      replace f2 : w3.frozen? ⟨W.heap.size + 1 + 1, 0, none⟩ = false := frz (j := 0) a2
      have HB3 := Lib.hid hb3
      have hlow : W.heap.size ≤ w1.heap.size := by omega
      clear hk3 hn1 hbx hb3 a0 a1 a2 HN2 HRD2 HBW
      rcases hres with ⟨a, c, hre, he⟩ | ⟨L, kv, hre, he, hfv⟩
      · simp only [refEnd] at he
        subst he
        have HM2 := Lib.hid (HM.out.trans hre)
        clear hre HM
        go_wp2_with fail
        refine leaves_cons (f := 40) (args := #[.pointer (some ⟨W.heap.size, 0, none⟩), .pointer (some ⟨W.heap.size + 1, 0, none⟩), .pointer (some ⟨W.heap.size + 2, 0, none⟩)]) (by simp) (by simp [go_sem]) ?_
        refine (fcatch_refusal a c W.heap.size w3 (by omega) ⟨_, c0⟩ ⟨_, c1⟩ ⟨_, c2⟩ ⟨f0, f1, f2⟩).mono ?_
        rintro e u' w5 ⟨rfl, rfl, z0, z1, z2, hb5⟩
        refine ⟨.tuple #[.slice none 0 0, .int .i64 (a : Int), .int .i64 (c : Int)], by simp [results, Tryz.results9, go_sem, z0, z1, z2], HB3.out.trans hb5, .inl ⟨a, c, HM2.out, rfl⟩⟩
      · subst he
        obtain ⟨kb, kc, rfl, hkr⟩ := id hfv
        have HM2 := Lib.hid (HM.out.trans hre)
        have HFV := Lib.hid hfv
        clear hre HM hfv hkr
        go_wp2_with fail
        obtain ⟨z0, z1, z2, hbz⟩ := three_set (.slice kb L.length kc) (.int .i64 0) (.int .i64 0) c0 c1 c2
        refine leaves_cons (f := 40) (args := #[.pointer (some ⟨W.heap.size, 0, none⟩), .pointer (some ⟨W.heap.size + 1, 0, none⟩), .pointer (some ⟨W.heap.size + 2, 0, none⟩)]) (by simp) (by simp [go_sem]) ?_
        refine (fcatch_none _ _ _ _).mono ?_
        rintro e u' w5 ⟨rfl, rfl, hb5⟩
        have hz' := hbz.size
        have y0 := (hb5.cell (p := ⟨W.heap.size, 0, none⟩) (by simp; omega)).trans z0
        have y1 := (hb5.cell (p := ⟨W.heap.size + 1, 0, none⟩) (by simp; omega)).trans z1
        have y2 := (hb5.cell (p := ⟨W.heap.size + 1 + 1, 0, none⟩) (by simp; omega)).trans z2
        refine ⟨.tuple #[.slice kb L.length kc, .int .i64 0, .int .i64 0], by simp [results, Tryz.results9, go_sem, y0, y1, y2], (HB3.out.trans hbz).trans (hb5.mono (by simp; omega)), .inr ⟨L, kb, kc, HM2.out, rfl, ?_⟩⟩
        refine HFV.out.keep (fun b hb hz => ⟨by omega, ?_⟩) (by have := hb5.size; omega)
        refine (hb5.block b (by simp; omega)).trans ?_
        rw [Below.heap_setCell _ _ _ _ (by simp; omega), Below.heap_setCell _ _ _ _ (by simp; omega), Below.heap_setCell _ _ _ _ (by simp; omega)]
end

section
open Go.RowKit

mutual
/-- No list of fragments is too long. -/
def FgLe (B : Nat) : Fg → Prop
  | .mk _ _ ks => ks.length ≤ B ∧ FgsLe B ks
def FgsLe (B : Nat) : List Fg → Prop
  | [] => True
  | x :: r => FgLe B x ∧ FgsLe B r
end
theorem FgsLe.get {B : Nat} : ∀ {l : List Fg}, FgsLe B l → ∀ {k : Nat} {x : Fg}, l[k]? = some x → x.kids.length ≤ B ∧ FgsLe B x.kids
  | [], _, _, _, hx => by cases hx
  | .mk t o ks :: r, h, 0, x, hx => by
    unfold FgsLe FgLe at h
    simp only [List.getElem?_cons_zero, Option.some.injEq] at hx
    subst hx
    exact h.1
  | y :: r, h, k + 1, x, hx => by
    unfold FgsLe at h
    exact h.2.get (k := k) (by simpa using hx)
def depL (F : List Fg → Nat) (m : Nat) : List Fg → Nat → Nat
  | [], d => d
  | x :: r, d => if d = m then d else depL F m r (if x.opn = sNo then d else max d (1 + F x.kids))
def depM : Nat → List Fg → Nat
  | 0, l => depL (fun _ => 0) 0 l 0
  | m + 1, l => depL (depM m) (m + 1) l 0
theorem depL_le {F : List Fg → Nat} {m : Nat} (hF : m = 0 ∨ ∀ ks, F ks + 1 ≤ m) : ∀ (l : List Fg) (d : Nat), d ≤ m → depL F m l d ≤ m
  | [], d, h => h
  | x :: r, d, h => by
    unfold depL
    split
    · exact h
    · refine depL_le hF r _ ?_
      split
      · exact h
      · have := hF.resolve_left (by omega) x.kids
        omega
theorem depM_le : ∀ (m : Nat) (l : List Fg), depM m l ≤ m
  | 0, l => depL_le (.inl rfl) l 0 (Nat.le_refl _)
  | m + 1, l => depL_le (.inr fun ks => by have := depM_le m ks; omega) l 0 (by omega)
theorem depL_at {F : List Fg → Nat} {m d k : Nat} {l : List Fg} {x : Fg} (h : l[k]? = some x) : depL F m (l.drop k) d = if d = m then d else depL F m (l.drop (k + 1)) (if x.opn = sNo then d else max d (1 + F x.kids)) := by
  obtain ⟨hk, rfl⟩ := List.getElem?_eq_some_iff.1 h
  rw [List.drop_eq_getElem_cons hk]
  rfl
/-- The loop over the fragments. -/
def DLoop (F : List Fg → Nat) (m : Nat) (l : List Fg) (W : World) (k d : Nat) (wr : World) : Prop :=
  k ≤ l.length ∧ d ≤ m ∧ depL F m (l.drop k) d = depL F m l 0 ∧ Below W.heap.size W wr
def DepPost (n : Nat) (W : World) (e : Ending) (w' : World) : Prop := e = .returned (.int .i64 (n : Int)) ∧ Below W.heap.size W w'
set_option maxRecDepth 100000 in
set_option maxHeartbeats 8000000 in
theorem depth_run (F : List Fg → Nat) (m : Nat) (hm : m ≤ 101) (hF : m = 0 ∨ ∀ ks, F ks + 1 ≤ m) (P : Nat → Prop) (l : List Fg) (v : Value) (W : World) (hv : FVal W P v l) (hl : l.length ≤ 140737488351232) (hle : FgsLe 140737488351232 l)
    (HC : 0 < m → ∀ (ks : List Fg) (kv : Value) (w : World), FVal w P kv ks → ks.length ≤ 140737488351232 → FgsLe 140737488351232 ks → Calls Tryz.prog 47 #[kv, .int .i64 ((m : Int) - 1)] w (DepPost (F ks) w)) :
    Calls Tryz.prog 47 #[v, .int .i64 (m : Int)] W (DepPost (depL F m l 0) W) := by
  obtain ⟨b, c, rfl, hrow⟩ := hv
  have w4' : IntKind.i64.wrap ((m : Int) - 1) = (m : Int) - 1 := IntWalk.i64_in _ (by omega)
  have HCC := Lib.hid HC
  have HR := Lib.hid hrow
  have HLE := Lib.hid hle
  clear HC hrow hle
  go_enter Tryz.func47, Tryz.ntmps47
  go_wp2_with fail
  go_loopw [5, 10] (fun dv iv wr => ∃ k d : Nat, dv = .int .i64 (d : Int) ∧ iv = .int .i64 (k : Int) ∧ Hid (DLoop F m l W k d wr)) (fun _ iv _ => l.length - (intOf iv).toNat)
  case atStart => exact ⟨0, 0, rfl, rfl, Lib.hid ⟨by omega, by omega, by rw [List.drop_zero], Below.refl _ _⟩⟩
  case round =>
    obtain ⟨k, d, rfl, rfl, hr⟩ := hrel
    obtain ⟨hk, hd, hres, hbe⟩ := hr.out
    have w3' : IntKind.i64.wrap ((k : Int) + 1) = (k : Int) + 1 := IntWalk.i64_in _ (by omega)
    by_cases hlt : k < l.length
    · obtain ⟨x, hx⟩ : ∃ x, l[k]? = some x := ⟨_, List.getElem?_eq_getElem hlt⟩
      obtain ⟨g, o, rfl, hp, hg, hrw⟩ := HR.out (by rintro rfl; simp at hlt)
      obtain ⟨kv, hcell, ka, kc, rfl, hkr⟩ := (hrw.get hx).parts
      rw [depL_at hx] at hres
      have hcell' : ∀ j u, (fgV x (.slice ka x.kids.length kc))[j]? = some u → wr.cell? ⟨g, o + k * 7 + j, none⟩ = some u := fun j u hu => (hbe.cell (p := ⟨g, o + k * 7 + j, none⟩) hg).trans (hcell j u hu)
      have e0 : wr.cell? ⟨g, o + k * 7, none⟩ = some (.int .i64 x.tok.1) := hcell' 0 _ rfl
      have e1 : wr.cell? ⟨g, o + k * 7 + 1, none⟩ = some (.int .i64 x.tok.2.1) := hcell' 1 _ rfl
      have e2 : wr.cell? ⟨g, o + k * 7 + 2, none⟩ = some (.string x.tok.2.2.1) := hcell' 2 _ rfl
      have e3 : wr.cell? ⟨g, o + k * 7 + 3, none⟩ = some (.int .i64 x.tok.2.2.2.1) := hcell' 3 _ rfl
      have e4 : wr.cell? ⟨g, o + k * 7 + 4, none⟩ = some (.int .i64 x.tok.2.2.2.2) := hcell' 4 _ rfl
      have e5 : wr.cell? ⟨g, o + k * 7 + 5, none⟩ = some (.string x.opn) := hcell' 5 _ rfl
      have e6 : wr.cell? ⟨g, o + k * 7 + 6, none⟩ = some (.slice ka x.kids.length kc) := hcell' 6 _ rfl
      have hlt' : (k : Int) < (l.length : Int) := by omega
      have HLX := Lib.hid (HLE.out.get hx)
      have HKV : Hid (FVal W P (.slice ka x.kids.length kc) x.kids) := Lib.hid ⟨_, _, rfl, hkr⟩
      have HBE := Lib.hid hbe
      have hnx : (x.opn = sNo ∧ depL F m (l.drop (k + 1)) (if x.opn = sNo then d else max d (1 + F x.kids)) = depL F m (l.drop (k + 1)) d) ∨ (¬ x.opn = sNo ∧ depL F m (l.drop (k + 1)) (if x.opn = sNo then d else max d (1 + F x.kids)) = depL F m (l.drop (k + 1)) (max d (1 + F x.kids))) := by
        by_cases ho : x.opn = sNo
        · exact .inl ⟨ho, by rw [if_pos ho]⟩
        · exact .inr ⟨ho, by rw [if_neg ho]⟩
      generalize depL F m (l.drop (k + 1)) (if x.opn = sNo then d else max d (1 + F x.kids)) = R1 at hres hnx
      clear hr hcell hcell' hbe hrw hx hkr
      obtain ⟨⟨k0, n0, s0, a0, m0⟩, op, ks⟩ := x
      simp only [Fg.tok, Fg.opn, Fg.kids] at *
      by_cases hdm : d = m
      · rw [if_pos hdm] at hres
        subst hdm
        have HRES := Lib.hid hres
        clear hnx
        clear hres
        go_wp2_with fail
        exact bodyPost_ret (v := .int .i64 (d : Int)) (by simp [results, Tryz.results47, go_sem]) rfl ⟨by rw [← HRES.out], HBE.out.alloc HBE.out.size _⟩
      · rw [if_neg hdm] at hres
        have hdm' : ¬ (d : Int) = (m : Int) := by omega
        rcases hnx with ⟨ho, hnx⟩ | ⟨ho, hnx⟩
        · rw [hnx] at hres
          have HRES := Lib.hid hres
          have ho1 := (lit_eq [] ho).1
          have ho2 := (lit_eq [] ho).2
          clear hres hnx ho
          go_wp2_with fail
          exact ⟨⟨k + 1, d, rfl, by simp, Lib.hid ⟨by omega, hd, HRES.out, HBE.out.alloc HBE.out.size _⟩⟩, by simp only [intOf]; omega⟩
        · rw [hnx] at hres
          have HRES := Lib.hid hres
          have ho1 := (lit_ne [] ho).1
          have ho2 := (lit_ne [] ho).2
          have hFk := hF.resolve_left (by omega) ks
          have w5' : IntKind.i64.wrap (1 + (F ks : Int)) = 1 + (F ks : Int) := IntWalk.i64_in _ (by omega)
          have hFk2 : max d (1 + F ks) ≤ m := by omega
          have HFK := Lib.hid hFk2
          have HCK : Hid (∀ w', Below W.heap.size W w' → Calls Tryz.prog 47 #[.slice ka ks.length kc, .int .i64 ((m : Int) - 1)] w' (DepPost (F ks) w')) := Lib.hid fun w' hb' => HCC.out (by omega) ks _ w' (HKV.out.below hb') HLX.out.1 HLX.out.2
          clear hres hFk hFk2 hnx ho
          go_wp2_with fail
          refine (HCK.out _ (HBE.out.alloc HBE.out.size _)).mono ?_
          rintro e w5 ⟨rfl, hb5⟩
          have HB5 := Lib.hid ((HBE.out.alloc HBE.out.size (.cells #[.int .i64 k0, .int .i64 n0, .string s0, .int .i64 a0, .int .i64 m0, .string op, .slice ka ks.length kc] 52)).trans (hb5.mono (by have := HBE.out.size; simp; omega)))
          clear hb5
          go_wp2_with fail
          exact ⟨⟨k + 1, max d (1 + F ks), congrArg (Value.int .i64) (by omega), by simp, Lib.hid ⟨by omega, HFK.out, HRES.out, HB5.out⟩⟩, by simp only [intOf]; omega⟩
    · have hlt' : ((k : Int) < (l.length : Int)) = False := by simp; omega
      have HRES : Hid (depL F m l 0 = d) := Lib.hid (by rw [← hres, List.drop_eq_nil_of_le (by omega)]; rfl)
      have HBE := Lib.hid hbe
      clear hr hres hbe
      go_wp2_with fail
      exact bodyPost_ret (v := .int .i64 (d : Int)) (by simp [results, Tryz.results47, go_sem]) rfl ⟨by rw [HRES.out], HBE.out⟩
theorem depth_any (P : Nat → Prop) : ∀ (m : Nat), m ≤ 101 → ∀ (l : List Fg) (v : Value) (W : World), FVal W P v l → l.length ≤ 140737488351232 → FgsLe 140737488351232 l → Calls Tryz.prog 47 #[v, .int .i64 (m : Int)] W (DepPost (depM m l) W)
  | 0, hm, l, v, W, hv, h1, h2 => depth_run (fun _ => 0) 0 hm (.inl rfl) P l v W hv h1 h2 (fun h => absurd h (by omega))
  | m + 1, hm, l, v, W, hv, h1, h2 => depth_run (depM m) (m + 1) hm (.inr fun ks => by have := depM_le m ks; omega) P l v W hv h1 h2 fun _ ks kv w hk a b => by
    have e : (((m + 1 : Nat) : Int) - 1) = (m : Int) := by omega
    rw [e]
    exact depth_any P m (by omega) ks kv w hk a b
theorem Depth_any (P : Nat → Prop) (l : List Fg) (v : Value) (W : World) (hv : FVal W P v l) (h1 : l.length ≤ 140737488351232) (h2 : FgsLe 140737488351232 l) : Calls Tryz.prog 17 #[v] W (DepPost (depM 101 l) W) := by
  have H := Lib.hid (depth_any P 101 (Nat.le_refl _) l v W hv h1 h2)
  clear hv h1 h2
  go_enter Tryz.func17, Tryz.ntmps17
  go_wp2_with fail
  refine (H.out).mono ?_
  rintro e w5 ⟨rfl, hb5⟩
  go_wp2_with fail
  exact bodyPost_ret (v := .int .i64 (depM 101 l : Nat)) (by simp [results, Tryz.results17, go_sem]) rfl ⟨rfl, hb5⟩
end

end Go.Proofs.YtafncodigpjkaaaGreatDoor
