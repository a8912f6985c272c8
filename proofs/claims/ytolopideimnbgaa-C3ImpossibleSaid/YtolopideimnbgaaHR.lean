/-
  Linearize.
-/
import Derived.Test.YtolopideimnbgaaHQ
import Derived.Defers
import Derived.Recover
import Derived.Laws.Pointers
namespace Go.Proofs.Ytolopideimnbgaa
open Go.RowKit

theorem iassert_yes (x : Value) (w : World) : (Instr.typeAssert (.iface 82 x) 20 82 true).run Try.prog w = .ok (.tuple #[x, .bool true]) w := by kernel_rfl
theorem iassert_nil (w : World) : (Instr.typeAssert .nilIface 20 82 true).run Try.prog w = .ok (.tuple #[.agg #[.int .i64 0], .bool false]) w := by kernel_rfl
set_option maxRecDepth 100000 in
theorem catchL_yes (i : Nat) (bl : Nat) (w : World) (hs : bl + 1 < w.heap.size) (hl : ∃ v, w.cell? ⟨bl, 0, none⟩ = some v) (ha : ∃ v, w.cell? ⟨bl + 1, 0, none⟩ = some v)
    (hf : w.frozen? ⟨bl, 0, none⟩ = false ∧ w.frozen? ⟨bl + 1, 0, none⟩ = false) :
    CallsD Try.prog 57 #[.pointer (some ⟨bl, 0, none⟩), .pointer (some ⟨bl + 1, 0, none⟩)] (.panicking (impCh i)) w fun e u' w' =>
      e = .returned (.tuple #[]) ∧ u' = .panicking ({ v := .iface 82 (.agg #[.int .i64 (i : Int)]), recovered := true } :: []) ∧
      w'.cell? ⟨bl, 0, none⟩ = some (.slice none 0 0) ∧ w'.cell? ⟨bl + 1, 0, none⟩ = some (.int .i64 71) ∧ Below bl w w' := by
  obtain ⟨v0, hl⟩ := hl
  obtain ⟨v1, ha⟩ := ha
  obtain ⟨f0, f1⟩ := hf
  have al := fun o => (Below.refl _ w).alloc (Nat.le_refl _) o
  have x0 : ∀ o, (w.alloc o).cell? ⟨bl, 0, none⟩ = some v0 := fun o => ((al o).cell (p := ⟨bl, 0, none⟩) (by simp; omega)).trans hl
  have x1 : ∀ o, (w.alloc o).cell? ⟨bl + 1, 0, none⟩ = some v1 := fun o => ((al o).cell (p := ⟨bl + 1, 0, none⟩) (by simp; omega)).trans ha
  have y0 : ∀ o, (w.alloc o).frozen? ⟨bl, 0, none⟩ = false := fun o => ((al o).frozen (p := ⟨bl, 0, none⟩) (by simp; omega)).trans f0
  have y1 : ∀ o, (w.alloc o).frozen? ⟨bl + 1, 0, none⟩ = false := fun o => ((al o).frozen (p := ⟨bl + 1, 0, none⟩) (by simp; omega)).trans f1
  have n0 : ¬ bl = w.heap.size := by omega
  have n1 : ¬ bl + 1 = w.heap.size := by omega
  clear al
  have hta := iassert_yes (.agg #[.int .i64 (i : Int)])
  unfold impCh
  refine callsD_of_wpS Try.func57 rfl fun c₀ cs hu => ?_
  apply wpS_seq
  apply wpS_region
  simp [wpOpsS, go_sem, recoverD, hu, hta, Try.ntmps57, Exit.thenS]
  refine wpS_of_wp ?_
  simp only [Array.replicate_succ, Array.replicate_zero, List.push_toArray, List.append_toArray, List.nil_append, List.cons_append, List.setIfInBounds_toArray, List.set_cons_zero, List.set_cons_succ]
  go_wp2_with fail
  all_goals
    simp [bodyPostS, results, Try.results57]
    refine ⟨?_, ?_, ?_⟩
    · rw [World.cell?_setCell_other _ _ _ _ (by simp)]; exact World.cell?_setCell_same' _ _ _ (by rw [x0]; rfl)
    · exact World.cell?_setCell_same' _ _ _ (by rw [World.cell?_setCell_other _ _ _ _ (by simp), x1]; rfl)
    · exact ((((Below.refl bl w).alloc (by omega) _).setCell (p := ⟨bl, 0, none⟩) (Nat.le_refl _) _).setCell (p := ⟨bl + 1, 0, none⟩) (by simp) _)
set_option maxRecDepth 100000 in
theorem catchL_none (a0 a1 : Value) (w : World) :
    CallsD Try.prog 57 #[a0, a1] .returning w fun e u' w' => e = .returned (.tuple #[]) ∧ u' = .returning ∧ Below w.heap.size w w' := by
  have hta := iassert_nil
  refine callsD_of_wpS Try.func57 rfl fun c₀ cs hu => ?_
  apply wpS_seq
  apply wpS_region
  simp [wpOpsS, go_sem, recoverD, hu, hta, Try.ntmps57, Exit.thenS]
  refine wpS_of_wp ?_
  simp only [Array.replicate_succ, Array.replicate_zero, List.push_toArray, List.append_toArray, List.nil_append, List.cons_append, List.setIfInBounds_toArray, List.set_cons_zero, List.set_cons_succ]
  go_wp2_with fail
  simp [bodyPostS, results, Try.results57]
  exact ⟨.returning, by rw [← hu], rfl, (Below.refl _ w).alloc (Nat.le_refl _) _⟩
def linRes : Except Nat Nms → Except Int Nms
  | .ok l => .ok l
  | .error _ => .error 71
def linearizeM (g : List Hr) (nm : ByteArray) : Except Int Nms := if checkM g = 0 then
    match posM g nm with
    | none => .error 3
    | some n => linRes (linM g n)
  else .error (checkM g)
theorem two_cells (W : World) (o0 o1 : Obj) (w' : World) (hb : Below (W.heap.size + 2) ((W.alloc o0).alloc o1) w') :
    w'.heap[W.heap.size]? = some o0 ∧ w'.heap[W.heap.size + 1]? = some o1 ∧ Below W.heap.size W w' ∧ W.heap.size + 2 ≤ w'.heap.size := by
  have a1 := heap_alloc_new (W.alloc o0) o1
  rw [World.size_alloc] at a1
  have a0 := (Below.heap_alloc (W.alloc o0) o1 W.heap.size (by simp)).trans (heap_alloc_new W o0)
  exact ⟨(hb.block _ (by omega)).trans a0, (hb.block _ (by omega)).trans a1, (((Below.refl _ W).alloc (Nat.le_refl _) o0).alloc (by simp) o1).trans (hb.mono (by omega)), by have := hb.size; simp at this; omega⟩
theorem two_set {w : World} {b : Nat} {u0 u1 : Value} (v0 v1 : Value) (c0 : w.cell? ⟨b, 0, none⟩ = some u0) (c1 : w.cell? ⟨b + 1, 0, none⟩ = some u1) :
    ((w.setCell ⟨b, 0, none⟩ v0).setCell ⟨b + 1, 0, none⟩ v1).cell? ⟨b, 0, none⟩ = some v0 ∧ ((w.setCell ⟨b, 0, none⟩ v0).setCell ⟨b + 1, 0, none⟩ v1).cell? ⟨b + 1, 0, none⟩ = some v1 ∧ Below b w ((w.setCell ⟨b, 0, none⟩ v0).setCell ⟨b + 1, 0, none⟩ v1) := by
  refine ⟨?_, ?_, ?_⟩
  · rw [World.cell?_setCell_other _ _ _ _ (by simp)]; exact World.cell?_setCell_same' _ _ _ (by rw [c0]; rfl)
  · exact World.cell?_setCell_same' _ _ _ (by rw [World.cell?_setCell_other _ _ _ _ (by simp), c1]; rfl)
  · exact ((Below.refl b w).setCell (p := ⟨b, 0, none⟩) (Nat.le_refl _) _).setCell (p := ⟨b + 1, 0, none⟩) (by simp) _
theorem two_set' {w : World} {b : Nat} {u0 u1 : Value} (v0 v1 : Value) (c0 : w.cell? ⟨b, 0, none⟩ = some u0) (c1 : w.cell? ⟨b + 1, 0, none⟩ = some u1) :
    ((w.setCell ⟨b + 1, 0, none⟩ v1).setCell ⟨b, 0, none⟩ v0).cell? ⟨b, 0, none⟩ = some v0 ∧ ((w.setCell ⟨b + 1, 0, none⟩ v1).setCell ⟨b, 0, none⟩ v0).cell? ⟨b + 1, 0, none⟩ = some v1 ∧ Below b w ((w.setCell ⟨b + 1, 0, none⟩ v1).setCell ⟨b, 0, none⟩ v0) := by
  refine ⟨?_, ?_, ?_⟩
  · exact World.cell?_setCell_same' _ _ _ (by rw [World.cell?_setCell_other _ _ _ _ (by simp), c0]; rfl)
  · rw [World.cell?_setCell_other _ _ _ _ (by simp)]; exact World.cell?_setCell_same' _ _ _ (by rw [c1]; rfl)
  · exact ((Below.refl b w).setCell (p := ⟨b + 1, 0, none⟩) (by simp) _).setCell (p := ⟨b, 0, none⟩) (Nat.le_refl _) _
theorem HierAt.narrow {W : World} {B B' hb ab kb : Nat} {gv : Value} {g : List Hr} (h : HierAt W B hb ab kb gv g) (hr : HRow W (fun b => b < B') gv g) (hle : B' ≤ B) : HierAt W B' hb ab kb gv g :=
  ⟨hr, h.blk, h.pos, by have := h.le; omega, h.ne⟩
theorem known_none {W : World} {kb : Nat} {g : List Hr} (S : Nat → Prop) (h : MapF W kb fun _ => none) : KnownAt W kb g S := ⟨_, h, fun s u e => by cases e⟩
set_option maxRecDepth 100000 in
set_option maxHeartbeats 8000000 in
theorem Linearize_any (g : List Hr) (nm : ByteArray) (v : Value) (W : World) (hr : HRow W (fun b => b < W.heap.size) v g) (hz : ∀ x ∈ g, x.2.length ≤ 8796093022207) :
    Calls Try.prog 23 #[v, .string nm] W (LRes (linearizeM g nm) W) := by
  have hmf : ∀ (fn : Fn) (first cap : Array Value) (w : World), (Instr.makeFunc fn first cap).run Try.prog w = .ok (.func fn first cap) w := fun _ _ _ _ => rfl
  have H2 := Lib.hid (fun o0 o1 w' hb => two_cells W o0 o1 w' hb)
  have HB2 := Lib.hid (fun o0 o1 => ((Below.refl _ W).alloc (Nat.le_refl _) o0).alloc (by simp) o1)
  have HFI := Lib.hid fun (w' : World) (hb : Below W.heap.size W w') => find_any g nm v w' ((hr.below hb).mono fun b h _ => h) hz
  obtain ⟨vb, vc, rfl, _⟩ := id hr
  obtain ⟨R, hR⟩ : ∃ R, R = linearizeM g nm := ⟨_, rfl⟩
  rw [← hR]
  have HR := Lib.hid hR
  have HRR := Lib.hid hr
  clear hR hr
  go_enter_defers Try.func23, Try.ntmps23
  go_wp2_with fail
  refine (HFI.out _ (HB2.out _ _)).mono ?_
  rintro e w1 ⟨hb1, hcase⟩
  obtain ⟨a0, a1, hbw, hsz⟩ := H2.out _ _ w1 (hb1.mono (by simp))
  have c0 : w1.cell? ⟨W.heap.size, 0, none⟩ = some (.slice none 0 0) := by rw [cellOf a0]; rfl
  have c1 : w1.cell? ⟨W.heap.size + 1, 0, none⟩ = some (.int .i64 0) := by rw [cellOf a1]; rfl
  have f0 := frozenOf (j := 0) a0
  have f1 := frozenOf (j := 0) a1
  have HBW := Lib.hid hbw
  have hcase2 : (∃ cm : Int, ¬ cm = 0 ∧ R = .error cm ∧ e = .returned (.tuple #[.pointer none, .int .i64 0, .int .i64 cm])) ∨ (∃ n hb ab kb, R = linRes (linM g n) ∧ n < g.length ∧ checkM g = 0 ∧ e = .returned (.tuple #[.pointer (some ⟨hb, 0, none⟩), .int .i64 (n : Int), .int .i64 0]) ∧ W.heap.size + 2 ≤ hb ∧ W.heap.size + 2 ≤ ab ∧ W.heap.size + 2 ≤ kb ∧ HierAt w1 W.heap.size hb ab kb (.slice vb g.length vc) g ∧ MapF w1 kb fun _ => none) := by
    rcases hcase with ⟨h0, rfl⟩ | ⟨h0, hp, rfl⟩ | ⟨h0, n, hb, ab, kb, hp, rfl, hier, hkn⟩
    · exact .inl ⟨_, h0, by rw [HR.out]; unfold linearizeM; rw [if_neg h0], rfl⟩
    · exact .inl ⟨3, by omega, by rw [HR.out]; unfold linearizeM; rw [if_pos h0, hp], rfl⟩
    · obtain ⟨x0, hx0, _⟩ := posM_some hp
      have hle := hier.le
      simp at hle
      exact .inr ⟨n, hb, ab, kb, by rw [HR.out]; unfold linearizeM; rw [if_pos h0, hp], (List.getElem?_eq_some_iff.1 hx0).1, h0, rfl, hle.1, hle.2.1, hle.2.2, hier.narrow (HRR.out.below hbw) (by simp; omega), hkn⟩
  clear hcase HR hb1 H2 HB2 HFI hmf hbw a0 a1
  rcases hcase2 with ⟨cm, hcm, hRe, rfl⟩ | ⟨n, hb, ab, kb, hRe, hn, hg0, rfl, hl1, hl2, hl3, hier, hkn⟩
  · have hn' : (cm != 0) = true := by simp [hcm]
    have HRE := Lib.hid hRe
    clear hRe hcm hz
    have hs1 := (Below.refl W.heap.size w1).setCell (p := ⟨W.heap.size + 1, 0, none⟩) (by simp) (.int .i64 cm)
    have c0' : (w1.setCell ⟨W.heap.size + 1, 0, none⟩ (.int .i64 cm)).cell? ⟨W.heap.size, 0, none⟩ = some (.slice none 0 0) := by rw [World.cell?_setCell_other _ _ _ _ (by simp)]; exact c0
    have c1' : (w1.setCell ⟨W.heap.size + 1, 0, none⟩ (.int .i64 cm)).cell? ⟨W.heap.size + 1, 0, none⟩ = some (.int .i64 cm) := World.cell?_setCell_same' _ _ _ (by rw [c1]; rfl)
    have f0' : (w1.setCell ⟨W.heap.size + 1, 0, none⟩ (.int .i64 cm)).frozen? ⟨W.heap.size, 0, none⟩ = false := by rw [World.frozen?_setCell]; exact f0
    have f1' : (w1.setCell ⟨W.heap.size + 1, 0, none⟩ (.int .i64 cm)).frozen? ⟨W.heap.size + 1, 0, none⟩ = false := by rw [World.frozen?_setCell]; exact f1
    have HB1 : Hid (Below W.heap.size W (w1.setCell ⟨W.heap.size + 1, 0, none⟩ (.int .i64 cm))) := Lib.hid (HBW.out.trans hs1)
    have HSZ : Hid (W.heap.size + 2 ≤ (w1.setCell ⟨W.heap.size + 1, 0, none⟩ (.int .i64 cm)).heap.size) := Lib.hid (by simpa using hsz)
    clear hs1
    go_wp2_with fail
    generalize w1.setCell ⟨W.heap.size + 1, 0, none⟩ (.int .i64 cm) = w2 at *
    clear c0 c1 f0 f1 HBW
    go_region
    all_goals go_wp2_with fail
    all_goals
      refine leaves_cons (f := 57) (args := #[.pointer (some ⟨W.heap.size, 0, none⟩), .pointer (some ⟨W.heap.size + 1, 0, none⟩)]) (by simp) (by simp [go_sem]) ?_
      refine (catchL_none _ _ _).mono ?_
      rintro e u' w5 ⟨rfl, rfl, hb5⟩
      have hz5 := HSZ.out
      have hw : ∃ w4 : World, Below w4.heap.size w4 w5 ∧ w4.cell? ⟨W.heap.size, 0, none⟩ = some (.slice none 0 0) ∧ w4.cell? ⟨W.heap.size + 1, 0, none⟩ = some (.int .i64 cm) ∧ Below W.heap.size w2 w4 ∧ W.heap.size + 2 ≤ w4.heap.size := by
        refine ⟨_, hb5, ?_⟩
        first
          | (obtain ⟨z0, z1, hbz⟩ := two_set (w := w2.drew) (.slice none 0 0) (.int .i64 cm) c0' c1'; exact ⟨z0, z1, (Below.refl _ w2).drew.trans hbz, by simp; omega⟩)
          | (obtain ⟨z0, z1, hbz⟩ := two_set' (w := w2.drew) (.slice none 0 0) (.int .i64 cm) c0' c1'; exact ⟨z0, z1, (Below.refl _ w2).drew.trans hbz, by simp; omega⟩)
          | (obtain ⟨z0, z1, hbz⟩ := two_set (w := w2) (.slice none 0 0) (.int .i64 cm) c0' c1'; exact ⟨z0, z1, hbz.trans (below_drewN (Below.refl _ _) 1), by simp; omega⟩)
          | (obtain ⟨z0, z1, hbz⟩ := two_set' (w := w2) (.slice none 0 0) (.int .i64 cm) c0' c1'; exact ⟨z0, z1, hbz.trans (below_drewN (Below.refl _ _) 1), by simp; omega⟩)
      clear hb5
      obtain ⟨w4, hb5, z0, z1, hb4, hz4⟩ := hw
      have y0 := (hb5.cell (p := ⟨W.heap.size, 0, none⟩) (show W.heap.size < w4.heap.size by omega)).trans z0
      have y1 := (hb5.cell (p := ⟨W.heap.size + 1, 0, none⟩) (show W.heap.size + 1 < w4.heap.size by omega)).trans z1
      refine ⟨.tuple #[.slice none 0 0, .int .i64 cm], by simp [results, Try.results23, go_sem, y0, y1], HB1.out.trans (hb4.trans (hb5.mono (by omega))), ?_⟩
      rw [HRE.out]
  · have hs1 := (Below.refl W.heap.size w1).setCell (p := ⟨W.heap.size + 1, 0, none⟩) (by simp) (.int .i64 0)
    have c0' : (w1.setCell ⟨W.heap.size + 1, 0, none⟩ (.int .i64 0)).cell? ⟨W.heap.size, 0, none⟩ = some (.slice none 0 0) := by rw [World.cell?_setCell_other _ _ _ _ (by simp)]; exact c0
    have c1' : (w1.setCell ⟨W.heap.size + 1, 0, none⟩ (.int .i64 0)).cell? ⟨W.heap.size + 1, 0, none⟩ = some (.int .i64 0) := World.cell?_setCell_same' _ _ _ (by rw [c1]; rfl)
    have f0' : (w1.setCell ⟨W.heap.size + 1, 0, none⟩ (.int .i64 0)).frozen? ⟨W.heap.size, 0, none⟩ = false := by rw [World.frozen?_setCell]; exact f0
    have f1' : (w1.setCell ⟨W.heap.size + 1, 0, none⟩ (.int .i64 0)).frozen? ⟨W.heap.size + 1, 0, none⟩ = false := by rw [World.frozen?_setCell]; exact f1
    have HB1 : Hid (Below W.heap.size W (w1.setCell ⟨W.heap.size + 1, 0, none⟩ (.int .i64 0))) := Lib.hid (HBW.out.trans hs1)
    have hsz1 : W.heap.size + 2 ≤ (w1.setCell ⟨W.heap.size + 1, 0, none⟩ (.int .i64 0)).heap.size := by simpa using hsz
    have hk1 : Keep (fun b => b = W.heap.size + 1) w1 (w1.setCell ⟨W.heap.size + 1, 0, none⟩ (.int .i64 0)) := Keep.setCell (S := fun b => b = W.heap.size + 1) (b := W.heap.size + 1) (Keep.refl _ w1) (.inl rfl) _ _
    have hier1 := hier.keep hk1 fun b hb => by omega
    have hkn1 := hkn.keep (hk1.block kb hkn.lt (by omega))
    have hlin := lin_any g hg0 W.heap.size hb ab kb _ n hn (fun b => W.heap.size + 2 ≤ b) _ hier1 (known_none _ hkn1)
    have HLIN := Lib.hid hlin
    have HRE := Lib.hid hRe
    have HL3 := Lib.hid hl3
    have HSZ := Lib.hid hsz1
    clear hs1 hRe hg0 hn hier hkn hk1 hier1 hkn1 hlin hl1 hl2 hz hsz1
    go_wp2_with fail
    generalize w1.setCell ⟨W.heap.size + 1, 0, none⟩ (.int .i64 0) = w2 at *
    clear c0 c1 f0 f1 HBW
    refine HLIN.out.mono ?_
    rintro e w3 ⟨hk3, hkn3, hres⟩
    have d0 : w3.cell? ⟨W.heap.size, 0, none⟩ = some (.slice none 0 0) := (hk3.cell (o := 0) (by have := HSZ.out; omega) (by have := HL3.out; omega)).trans c0'
    have d1 : w3.cell? ⟨W.heap.size + 1, 0, none⟩ = some (.int .i64 0) := (hk3.cell (o := 0) (by have := HSZ.out; omega) (by have := HL3.out; omega)).trans c1'
    have g0 : w3.frozen? ⟨W.heap.size, 0, none⟩ = false := (hk3.frozen (o := 0) (by have := HSZ.out; omega) (by have := HL3.out; omega)).trans f0'
    have g1 : w3.frozen? ⟨W.heap.size + 1, 0, none⟩ = false := (hk3.frozen (o := 0) (by have := HSZ.out; omega) (by have := HL3.out; omega)).trans f1'
    have HB3 : Hid (Below W.heap.size W w3) := Lib.hid (HB1.out.trans (hk3.below (fun k e => by have := HL3.out; omega) (by have := HSZ.out; omega)))
    have HSZ3 : Hid (W.heap.size + 2 ≤ w3.heap.size) := Lib.hid (by have := hk3.size; have := HSZ.out; omega)
    clear hk3 hkn3 HLIN c0' c1' f0' f1'
    cases hM : linM g n with
    | error j =>
      rw [hM] at hres HRE
      have hres : e = .panicked (impCh j) := hres
      subst hres
      have HRE2 : Hid (R = .error 71) := Lib.hid HRE.out
      simp only [impCh]
      go_wp2_with fail
      refine leaves_cons (f := 57) (args := #[.pointer (some ⟨W.heap.size, 0, none⟩), .pointer (some ⟨W.heap.size + 1, 0, none⟩)]) (by simp) (by simp [go_sem]) ?_
      refine (catchL_yes j W.heap.size w3 (by have := HSZ3.out; omega) ⟨_, d0⟩ ⟨_, d1⟩ ⟨g0, g1⟩).mono ?_
      rintro e u' w5 ⟨rfl, rfl, z0, z1, hb5⟩
      refine ⟨.tuple #[.slice none 0 0, .int .i64 71], by simp [results, Try.results23, go_sem, z0, z1], HB3.out.trans hb5, ?_⟩
      rw [HRE2.out]
    | ok l =>
      rw [hM] at hres HRE
      obtain ⟨u, rfl, hsr⟩ := hres
      obtain ⟨ub, uc, rfl, _⟩ := id hsr
      have HSR := Lib.hid hsr
      have HRE2 : Hid (R = .ok l) := Lib.hid HRE.out
      clear hsr
      go_wp2_with fail
      obtain ⟨z0, z1, hbz⟩ := two_set (.slice ub l.length uc) (.int .i64 0) d0 d1
      refine leaves_cons (f := 57) (args := #[.pointer (some ⟨W.heap.size, 0, none⟩), .pointer (some ⟨W.heap.size + 1, 0, none⟩)]) (by simp) (by simp [go_sem]) ?_
      refine (catchL_none _ _ _).mono ?_
      rintro e u' w5 ⟨rfl, rfl, hb5⟩
      have hz3 := HSZ3.out
      have y0 := (hb5.cell (p := ⟨W.heap.size, 0, none⟩) (by simp; omega)).trans z0
      have y1 := (hb5.cell (p := ⟨W.heap.size + 1, 0, none⟩) (by simp; omega)).trans z1
      refine ⟨.tuple #[.slice ub l.length uc, .int .i64 0], by simp [results, Try.results23, go_sem, y0, y1], HB3.out.trans (hbz.trans (hb5.mono (by simp; omega))), ?_⟩
      rw [HRE2.out]
      refine ⟨_, rfl, ?_⟩
      have hsz2 := HSZ.out
      refine ((HSR.out.mono (Q' := fun b => W.heap.size + 2 ≤ b) fun b _ h => h.1.elim id fun h => by omega).keep (fun b hb hz => (hb5.block b (by simpa using hz)).trans ?_) (by have := hb5.size; simp at this; omega)).mono fun b _ h => by omega
      rw [Below.heap_setCell _ _ _ _ (by simp; omega), Below.heap_setCell _ _ _ _ (by simp; omega)]
end Go.Proofs.Ytolopideimnbgaa
