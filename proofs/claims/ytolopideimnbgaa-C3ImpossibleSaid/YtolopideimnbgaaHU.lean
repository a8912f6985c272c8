/-
  Lists: the walk.
-/
import Derived.Test.YtolopideimnbgaaHT
import Derived.RecoverIn
namespace Go.Proofs.Ytolopideimnbgaa
open Go.RowKit
attribute [local go_sem] Oper.semAt_some

set_option maxRecDepth 100000 in
theorem catchS_yes (n i : Nat) (bl : Nat) (w : World) (hs : bl + 1 < w.heap.size) (hl : ∃ v, w.cell? ⟨bl, 0, none⟩ = some v) (ha : ∃ v, w.cell? ⟨bl + 1, 0, none⟩ = some v)
    (hf : w.frozen? ⟨bl, 0, none⟩ = false ∧ w.frozen? ⟨bl + 1, 0, none⟩ = false) :
    CallsDIn Fence.wide n Try.prog 63 #[.pointer (some ⟨bl, 0, none⟩), .pointer (some ⟨bl + 1, 0, none⟩)] (.panicking (impCh i)) w fun e u' w' =>
      e = .returned (.tuple #[]) ∧ u' = .panicking ({ v := .iface 82 (.agg #[.int .i64 (i : Int)]), recovered := true } :: []) ∧
      w'.cell? ⟨bl, 0, none⟩ = some (.slice none 0 0) ∧ w'.cell? ⟨bl + 1, 0, none⟩ = some (.int .i64 71) ∧ Below bl w w' := by
  obtain ⟨v0, hl⟩ := hl
  obtain ⟨v1, ha⟩ := ha
  obtain ⟨f0, f1⟩ := hf
  have al := fun o => (Below.refl _ w).alloc (Nat.le_refl _) o
  have x0 : ∀ o, (w.alloc o).cell? ⟨bl, 0, none⟩ = some v0 := fun o => ((al o).cell (p := ⟨bl, 0, none⟩) (by simp; omega)).trans hl
  have x1 : ∀ o, (w.alloc o).cell? ⟨bl + 1, 0, none⟩ = some v1 := fun o => ((al o).cell (p := ⟨bl + 1, 0, none⟩) (by simp; omega)).trans ha
  have y0 : ∀ o, (w.alloc o).frozen? ⟨bl, 0, none⟩ = false := fun o => ((al o).frozen (p := ⟨bl, 0, none⟩) (by simp; omega)).trans f0
  have y1 : ∀ o, (w.alloc o).frozen? ⟨bl + 1, 0, none⟩ = false := fun o => ((al o).frozen (p := ⟨bl + 1, 0, none⟩) (by simp; omega)).trans f1
  have n0 : ¬ bl = w.heap.size := by omega
  have n1 : ¬ bl + 1 = w.heap.size := by omega
  clear al
  have hta := iassert_yes (.agg #[.int .i64 (i : Int)])
  unfold impCh
  refine callsDIn_of_wpSIn Try.func63 rfl trivial fun c₀ cs hu => ?_
  apply wpSIn_seq
  apply wpSIn_region
  simp [wpOpsSIn, go_sem, recoverD, hu, hta, Try.ntmps63, Exit.thenS]
  refine wpSIn_of_wpIn rfl ?_
  simp only [Array.replicate_succ, Array.replicate_zero, List.push_toArray, List.append_toArray, List.nil_append, List.cons_append, List.setIfInBounds_toArray, List.set_cons_zero, List.set_cons_succ]
  gi_wp2_with fail
  all_goals
    simp [bodyPostS, results, Try.results63]
    refine ⟨?_, ?_, ?_⟩
    · rw [World.cell?_setCell_other _ _ _ _ (by simp)]; exact World.cell?_setCell_same' _ _ _ (by rw [x0]; rfl)
    · exact World.cell?_setCell_same' _ _ _ (by rw [World.cell?_setCell_other _ _ _ _ (by simp), x1]; rfl)
    · exact ((((Below.refl bl w).alloc (by omega) _).setCell (p := ⟨bl, 0, none⟩) (Nat.le_refl _) _).setCell (p := ⟨bl + 1, 0, none⟩) (by simp) _)
set_option maxRecDepth 100000 in
theorem catchS_none (n : Nat) (a0 a1 : Value) (w : World) :
    CallsDIn Fence.wide n Try.prog 63 #[a0, a1] .returning w fun e u' w' => e = .returned (.tuple #[]) ∧ u' = .returning ∧ Below w.heap.size w w' := by
  have hta := iassert_nil
  refine callsDIn_of_wpSIn Try.func63 rfl trivial fun c₀ cs hu => ?_
  apply wpSIn_seq
  apply wpSIn_region
  simp [wpOpsSIn, go_sem, recoverD, hu, hta, Try.ntmps63, Exit.thenS]
  refine wpSIn_of_wpIn rfl ?_
  simp only [Array.replicate_succ, Array.replicate_zero, List.push_toArray, List.append_toArray, List.nil_append, List.cons_append, List.setIfInBounds_toArray, List.set_cons_zero, List.set_cons_succ]
  gi_wp2_with fail
  simp [bodyPostS, results, Try.results63]
  exact ⟨.returning, by rw [← hu], rfl, (Below.refl _ w).alloc (Nat.le_refl _) _⟩
def lsRes (x : Hr) : Except Nat (List Nms) → Except Int (List Nms)
  | .ok ls => .ok (ls ++ [x.2])
  | .error _ => .error 71
def listsM (g : List Hr) (nm : ByteArray) : Except Int (List Nms) := if checkM g = 0 then
    match posM g nm with
    | none => .error 3
    | some n => match g[n]? with
      | none => .error 3
      | some x => lsRes x (seqM (supsM g x))
  else .error (checkM g)
/-- Lists, or an error. -/
def LLRes (r : Except Int (List Nms)) (W : World) (e : Ending) (w' : World) : Prop :=
  Below W.heap.size W w' ∧ match r with
  | .ok ls => ∃ v, e = .returned (.tuple #[v, .int .i64 0]) ∧ LRow w' (fun _ => True) v ls
  | .error c => e = .returned (.tuple #[.slice none 0 0, .int .i64 c])
def b0lt (a b : Nat) : Prop := a + 4 ≤ b
def lsDef (bl : Nat) : Deferred := { target := .fn (.func 63) #[.pointer (some ⟨bl, 0, none⟩), .pointer (some ⟨bl + 1, 0, none⟩)], args := #[] }
def ReadsLs (bl : Nat) (tm : Array Value) : Prop := ∀ (W : World) (a : Option Addr) (n c : Nat) (x : Int), W.cell? ⟨bl, 0, none⟩ = some (.slice a n c) → W.cell? ⟨bl + 1, 0, none⟩ = some (.int .i64 x) → (results Try.f30 tm).run Try.prog W = .ok (.tuple #[.slice a n c, .int .i64 x]) W
theorem ls_leave {Pq : Ending → World → Prop} (bl : Nat) (W : World) (tm : Array Value) (hres : ReadsLs bl tm) (a : Option Addr) (n c : Nat) (x : Int) (h0 : W.cell? ⟨bl, 0, none⟩ = some (.slice a n c)) (h1 : W.cell? ⟨bl + 1, 0, none⟩ = some (.int .i64 x)) (hz : bl + 1 < W.heap.size)
    (h : ∀ w', Below W.heap.size W w' → Pq (.returned (.tuple #[.slice a n c, .int .i64 x])) w') : LeavesInM Fence.wide 3 Try.prog Try.f30 tm Pq [lsDef bl] .returning W := by
  refine ⟨by simp, .inr ⟨fun _ => by omega, .func 63, _, 63, #[.pointer (some ⟨bl, 0, none⟩), .pointer (some ⟨bl + 1, 0, none⟩)], rfl, ?_, fun _ _ => trivial, ?_⟩⟩
  · simp [lsDef, invoke, go_sem]
  · refine (catchS_none _ _ _ _).mono ?_
    rintro e u' W5 ⟨rfl, rfl, hb5⟩
    have z0 := (hb5.cell (p := ⟨bl, 0, none⟩) (show bl < W.heap.size by omega)).trans h0
    have z1 := (hb5.cell (p := ⟨bl + 1, 0, none⟩) hz).trans h1
    have hr := hres W5 a n c x z0 z1
    have fin := h W5 hb5
    simp [LeavesInM, LeavesIn, settle, hr]
    exact fin
theorem ls_leave_panic {Pq : Ending → World → Prop} (bl i : Nat) (W : World) (tm : Array Value) (hres : ReadsLs bl tm) (v0 v1 : Value) (h0 : W.cell? ⟨bl, 0, none⟩ = some v0) (h1 : W.cell? ⟨bl + 1, 0, none⟩ = some v1) (f0 : W.frozen? ⟨bl, 0, none⟩ = false) (f1 : W.frozen? ⟨bl + 1, 0, none⟩ = false) (hz : bl + 1 < W.heap.size)
    (h : ∀ w', Below bl W w' → Pq (.returned (.tuple #[.slice none 0 0, .int .i64 71])) w') : LeavesInM Fence.wide 3 Try.prog Try.f30 tm Pq [lsDef bl] (.panicking (impCh i)) W := by
  refine ⟨by simp, .inr ⟨fun _ => by omega, .func 63, _, 63, #[.pointer (some ⟨bl, 0, none⟩), .pointer (some ⟨bl + 1, 0, none⟩)], rfl, ?_, fun _ _ => trivial, ?_⟩⟩
  · simp [lsDef, invoke, go_sem]
  · refine (catchS_yes _ i bl W hz ⟨_, h0⟩ ⟨_, h1⟩ ⟨f0, f1⟩).mono ?_
    rintro e u' W5 ⟨rfl, rfl, z0, z1, hb5⟩
    have hr := hres W5 none 0 0 71 z0 z1
    have fin := h W5 hb5
    simp [LeavesInM, LeavesIn, settle, hr]
    exact fin
theorem leave_coll {Pq : Ending → World → Prop} {u : FrameMode} (hu : u ≠ .run) (d : Nat) (W : World) (tm : Array Value) (ds : List Deferred) (hd : W.heap[d]? = some (.deferred (some []))) (h : LeavesInM Fence.wide 3 Try.prog Try.f30 tm Pq ds u (W.putObj d (.deferred none))) :
    LeavesInM Fence.wide 3 Try.prog Try.f30 tm Pq ({ target := .collected d, args := #[] } :: ds) u W :=
  ⟨hu, .inl ⟨_, _, rfl, run_takeDeferred hd, h⟩⟩
set_option maxRecDepth 100000 in
set_option maxHeartbeats 8000000 in
theorem Lists_run (g : List Hr) (nm : ByteArray) (v : Value) (W : World) (hr : HRow W (fun b => b < W.heap.size) v g) (hz : ∀ x ∈ g, x.2.length ≤ 8796093022207) :
    CallsIn Fence.wide 3 Try.prog 30 #[v, .string nm] W (LLRes (listsM g nm) W) := by
  have hmf : ∀ (fn : Fn) (first cap : Array Value) (w : World), (Instr.makeFunc fn first cap).run Try.prog w = .ok (.func fn first cap) w := fun _ _ _ _ => rfl
  have H2 := Lib.hid (fun o0 o1 w' hb => two_cells W o0 o1 w' hb)
  have HB2 := Lib.hid (fun o0 o1 => ((Below.refl _ W).alloc (Nat.le_refl _) o0).alloc (by simp) o1)
  have HFI := Lib.hid fun (w' : World) (hb : Below W.heap.size W w') => find_any g nm v w' ((hr.below hb).mono fun b h _ => h) hz
  obtain ⟨vb, vc, rfl, _⟩ := id hr
  obtain ⟨R0, hR0⟩ : ∃ R, R = listsM g nm := ⟨_, rfl⟩
  rw [← hR0]
  have HR := Lib.hid hR0
  have HRR := Lib.hid hr
  clear hR0 hr
  refine callsIn_of_wp_marks Try.func30 rfl trivial ?_ rfl
  simp only [Try.ntmps30, List.size_toArray, List.length_cons, List.length_nil, Nat.reduceAdd, Nat.reduceSub, Array.replicate_succ,
     Array.replicate_zero, List.push_toArray, List.append_toArray, List.nil_append, List.cons_append]
  gi_wp2_with fail
  refine ⟨trivial, ?_⟩
  refine (callsIn_wide.2 (HFI.out _ (HB2.out _ _))).mono ?_
  rintro e w1 ⟨hb1, hcase⟩
  obtain ⟨a0, a1, hbw, hsz⟩ := H2.out _ _ w1 (hb1.mono (by simp))
  have c0 : w1.cell? ⟨W.heap.size, 0, none⟩ = some (.slice none 0 0) := by rw [cellOf a0]; rfl
  have c1 : w1.cell? ⟨W.heap.size + 1, 0, none⟩ = some (.int .i64 0) := by rw [cellOf a1]; rfl
  have f0 := frozenOf (j := 0) a0
  have f1 := frozenOf (j := 0) a1
  have HBW := Lib.hid hbw
  have HA0 := Lib.hid a0
  have HA1 := Lib.hid a1
  have hcase2 : (∃ cm : Int, ¬ cm = 0 ∧ R0 = .error cm ∧ e = .returned (.tuple #[.pointer none, .int .i64 0, .int .i64 cm])) ∨ (∃ (n : Nat) (x : Hr) (hb ab kb : Nat), g[n]? = some x ∧ R0 = lsRes x (seqM (supsM g x)) ∧ checkM g = 0 ∧ e = .returned (.tuple #[.pointer (some ⟨hb, 0, none⟩), .int .i64 (n : Int), .int .i64 0]) ∧ W.heap.size + 2 ≤ hb ∧ W.heap.size + 2 ≤ ab ∧ W.heap.size + 2 ≤ kb ∧ HierAt w1 W.heap.size hb ab kb (.slice vb g.length vc) g ∧ MapF w1 kb fun _ => none) := by
    rcases hcase with ⟨h0, rfl⟩ | ⟨h0, hp, rfl⟩ | ⟨h0, n, hb, ab, kb, hp, rfl, hier, hkn⟩
    · exact .inl ⟨_, h0, by rw [HR.out]; unfold listsM; rw [if_neg h0], rfl⟩
    · exact .inl ⟨3, by omega, by rw [HR.out]; unfold listsM; rw [if_pos h0, hp], rfl⟩
    · obtain ⟨x0, hx0, _⟩ := posM_some hp
      have hle := hier.le
      simp at hle
      exact .inr ⟨n, x0, hb, ab, kb, hx0, by rw [HR.out]; unfold listsM; rw [if_pos h0, hp]; simp only [hx0], h0, rfl, hle.1, hle.2.1, hle.2.2, hier.narrow (HRR.out.below hbw) (by simp; omega), hkn⟩
  clear hcase HR hb1 H2 HB2 HFI hbw a0 a1
  rcases hcase2 with ⟨cm, hcm, hRe, rfl⟩ | ⟨n, x, hb, ab, kb, hx, hRe, hg0, rfl, hl1, hl2, hl3, hier, hkn⟩
  · have hn' : (cm != 0) = true := by simp [hcm]
    have HRE := Lib.hid hRe
    clear hRe hcm hz
    have hs1 := (Below.refl W.heap.size w1).setCell (p := ⟨W.heap.size + 1, 0, none⟩) (by simp) (.int .i64 cm)
    have c0' : (w1.setCell ⟨W.heap.size + 1, 0, none⟩ (.int .i64 cm)).cell? ⟨W.heap.size, 0, none⟩ = some (.slice none 0 0) := by rw [World.cell?_setCell_other _ _ _ _ (by simp)]; exact c0
    have c1' : (w1.setCell ⟨W.heap.size + 1, 0, none⟩ (.int .i64 cm)).cell? ⟨W.heap.size + 1, 0, none⟩ = some (.int .i64 cm) := World.cell?_setCell_same' _ _ _ (by rw [c1]; rfl)
    have f0' : (w1.setCell ⟨W.heap.size + 1, 0, none⟩ (.int .i64 cm)).frozen? ⟨W.heap.size, 0, none⟩ = false := by rw [World.frozen?_setCell]; exact f0
    have f1' : (w1.setCell ⟨W.heap.size + 1, 0, none⟩ (.int .i64 cm)).frozen? ⟨W.heap.size + 1, 0, none⟩ = false := by rw [World.frozen?_setCell]; exact f1
    have HB1 : Hid (Below W.heap.size W (w1.setCell ⟨W.heap.size + 1, 0, none⟩ (.int .i64 cm))) := Lib.hid (HBW.out.trans hs1)
    have HSZ : Hid (W.heap.size + 2 ≤ (w1.setCell ⟨W.heap.size + 1, 0, none⟩ (.int .i64 cm)).heap.size) := Lib.hid (by simpa using hsz)
    clear hs1 HA0 HA1
    gi_wp2_with fail
    generalize w1.setCell ⟨W.heap.size + 1, 0, none⟩ (.int .i64 cm) = w2 at *
    clear c0 c1 f0 f1 HBW
    refine wpIn_wide.2 ?_
    go_region
    all_goals gi_wp2_with fail
    all_goals
      have hw : ∀ w4 : World, (w4 = (w2.drew.setCell ⟨W.heap.size, 0, none⟩ (.slice none 0 0)).setCell ⟨W.heap.size + 1, 0, none⟩ (.int .i64 cm) ∨ w4 = ((w2.setCell ⟨W.heap.size, 0, none⟩ (.slice none 0 0)).setCell ⟨W.heap.size + 1, 0, none⟩ (.int .i64 cm)).drew) → w4.cell? ⟨W.heap.size, 0, none⟩ = some (.slice none 0 0) ∧ w4.cell? ⟨W.heap.size + 1, 0, none⟩ = some (.int .i64 cm) ∧ Below W.heap.size w2 w4 ∧ W.heap.size + 2 ≤ w4.heap.size := by
        have hz2 := HSZ.out
        rintro w4 (rfl | rfl)
        · obtain ⟨z0, z1, hbz⟩ := two_set (w := w2.drew) (.slice none 0 0) (.int .i64 cm) c0' c1'
          exact ⟨z0, z1, (Below.refl _ w2).drew.trans hbz, by simp; omega⟩
        · obtain ⟨z0, z1, hbz⟩ := two_set (w := w2) (.slice none 0 0) (.int .i64 cm) c0' c1'
          exact ⟨z0, z1, hbz.drew, by simp; omega⟩
      refine ls_leave W.heap.size _ _ (fun W a n c x h0 h1 => by simp [results, Try.results30, go_sem, h0, h1]) none 0 0 cm (hw _ (by first | exact .inl rfl | exact .inr rfl)).1 (hw _ (by first | exact .inl rfl | exact .inr rfl)).2.1 (Nat.lt_of_succ_le (hw _ (by first | exact .inl rfl | exact .inr rfl)).2.2.2) fun w' hb => ?_
      have h4 := hw _ (by first | exact .inl rfl | exact .inr rfl)
      refine ⟨HB1.out.trans ((hw _ (by first | exact .inl rfl | exact .inr rfl)).2.2.1.trans (hb.mono (by have := h4.2.2.2; simp; have := HSZ.out; omega))), ?_⟩
      rw [HRE.out]
  · have hs1 := (Below.refl W.heap.size w1).setCell (p := ⟨W.heap.size + 1, 0, none⟩) (by simp) (.int .i64 0)
    have c1' : (w1.setCell ⟨W.heap.size + 1, 0, none⟩ (.int .i64 0)).cell? ⟨W.heap.size + 1, 0, none⟩ = some (.int .i64 0) := World.cell?_setCell_same' _ _ _ (by rw [c1]; rfl)
    have a0' : (w1.setCell ⟨W.heap.size + 1, 0, none⟩ (.int .i64 0)).heap[W.heap.size]? = some (.cells #[.slice none 0 0] 31) := (Below.heap_setCell _ _ _ _ (by simp)).trans HA0.out
    have a1' : (w1.setCell ⟨W.heap.size + 1, 0, none⟩ (.int .i64 0)).heap[W.heap.size + 1]? = some (.cells #[.int .i64 0] 25) := heap_setCell_same _ _ 0 _ _ _ HA1.out
    have HB1 : Hid (Below W.heap.size W (w1.setCell ⟨W.heap.size + 1, 0, none⟩ (.int .i64 0))) := Lib.hid (HBW.out.trans hs1)
    have hsz1 : W.heap.size + 2 ≤ (w1.setCell ⟨W.heap.size + 1, 0, none⟩ (.int .i64 0)).heap.size := by simpa using hsz
    have hk1 : Keep (fun b => b = W.heap.size + 1) w1 (w1.setCell ⟨W.heap.size + 1, 0, none⟩ (.int .i64 0)) := Keep.setCell (S := fun b => b = W.heap.size + 1) (b := W.heap.size + 1) (Keep.refl _ w1) (.inl rfl) _ _
    have hier1 := hier.keep hk1 fun b hb => by omega
    have hkn1 := hkn.keep (hk1.block kb hkn.lt (by omega))
    have HRE := Lib.hid hRe
    have H1 := Lib.hid (And.intro hier1 hkn1)
    clear hs1 hier hkn hk1 HA0 HA1 hz hRe hier1 hkn1
    gi_wp2_with fail
    generalize w1.setCell ⟨W.heap.size + 1, 0, none⟩ (.int .i64 0) = wa at *
    clear c0 c1 f0 f1
    obtain ⟨hier1, hkn1⟩ := H1.out
    clear H1
    refine ⟨trivial, ?_⟩
    refine (callsIn_wide.2 (prec_any hb (n : Int) wa)).mono ?_
    rintro e W2 ⟨rfl, hW2⟩
    have hb2 : Below wa.heap.size wa W2 := by rw [hW2]; exact ((Below.refl _ wa).alloc (Nat.le_refl _) _).alloc (by simp) _
    have hz2 : W2.heap.size = wa.heap.size + 2 := by rw [hW2]; simp
    have b1 : W2.cell? ⟨wa.heap.size, 0, none⟩ = some (.pointer (some ⟨hb, 0, none⟩)) := by
      rw [cellOf (show W2.heap[wa.heap.size]? = some (.cells #[.pointer (some ⟨hb, 0, none⟩)] 64) from by rw [hW2]; exact (Below.heap_alloc _ _ _ (by simp)).trans (heap_alloc_new wa _))]; rfl
    have b2 : W2.cell? ⟨wa.heap.size + 1, 0, none⟩ = some (.int .i64 (n : Int)) := by
      rw [cellOf (show W2.heap[wa.heap.size + 1]? = some (.cells #[.int .i64 (n : Int)] 3) from by rw [hW2]; have := heap_alloc_new (wa.alloc (.cells #[.pointer (some ⟨hb, 0, none⟩)] 64)) (.cells #[.int .i64 (n : Int)] 3); simpa using this)]; rfl
    have hH2 := hier1.below hb2
    have hK2 := known_none (g := g) (fun b => W.heap.size + 2 ≤ b) (hkn1.keep (hb2.block _ hkn1.lt))
    have hkbl := hkn1.lt
    have A0 := (hb2.block _ (by omega)).trans a0'
    have A1 := (hb2.block _ (by omega)).trans a1'
    have HBW2 := Lib.hid (HB1.out.trans (hb2.mono HB1.out.size))
    have HSM := Lib.hid (lists_small hg0 hx)
    have HSU := Lib.hid fun l (hl : l ∈ preM (supsM g x) ++ [x.2]) => totM_mem hl
    have HIT := Lib.hid fun m lp J Q W1 hJ hY hJ0 hB hQ => prec_it g hg0 n x hx W.heap.size hb ab kb wa.heap.size (wa.heap.size + 1) _ (fun b => W.heap.size + 2 ≤ b) (fun b => b = W.heap.size) W2 hH2 hK2 (fun b hb => by omega) b1 b2 ⟨by omega, by omega⟩ ⟨by omega, by omega⟩ (fun j hj => lin_any g hg0 W.heap.size hb ab kb _ j (by have := (List.getElem?_eq_some_iff.1 hx).1; omega)) m lp J Q W1 hJ hY hJ0 hB hQ
    have HLK : Hid (b0lt W.heap.size W2.heap.size ∧ kb < W2.heap.size ∧ W.heap.size ≠ kb ∧ W.heap.size + 2 ≤ kb) := Lib.hid ⟨by unfold b0lt; omega, by omega, by omega, by omega⟩
    have HA0 := Lib.hid A0
    have HA1 := Lib.hid A1
    clear hb2 hz2 b1 b2 hH2 hK2 hkbl A0 A1 a0' a1' hier1 hkn1 hW2 hg0 hx hl1 hl2 hl3 hsz hsz1 HB1 HBW
    gi_wp2_with fail
    refine range_own rfl (by omega) (gf := 80) (lb := #[.pointer (some ⟨wa.heap.size, 0, none⟩), .pointer (some ⟨wa.heap.size + 1, 0, none⟩)]) rfl trivial enters_prec ?_
    intro fn R _ hR
    have rs : R.state = .ready := by rw [hR]
    have rp : R.pending = none := by rw [hR]
    have rq : R.params = #[23] := by rw [hR]
    have rt := congrArg Loop.tmps hR
    have ra := congrArg Loop.assign hR
    have rb := congrArg Loop.body hR
    simp only at rt ra rb
    clear hR hmf
    obtain ⟨W0, hW0⟩ : ∃ W0, W0 = (W2.alloc (.deferred (some []))).alloc (.loop R) := ⟨_, rfl⟩
    have hB0 : Below W2.heap.size W2 W0 := by rw [hW0]; exact ((Below.refl _ W2).alloc (Nat.le_refl _) _).alloc (by simp) _
    have f0 : W0.heap[W2.heap.size]? = some (.deferred (some [])) := by rw [hW0]; exact (Below.heap_alloc _ _ _ (by simp)).trans (heap_alloc_new W2 _)
    have f1 : W0.heap[W2.heap.size + 1]? = some (.loop R) := by rw [hW0]; have := heap_alloc_new (W2.alloc (.deferred (some []))) (.loop R); simpa using this
    have fs : W0.heap.size = W2.heap.size + 2 := by rw [hW0]; simp
    rw [← hW0]
    have hlk := HLK.out
    unfold b0lt at hlk
    have hJ0 : LsJ W2 W.heap.size kb R (fun b => (b = W.heap.size ∨ b = W2.heap.size ∨ b = W2.heap.size + 1 ∨ (Value.slice none 0 0).ownBlock = some b)) [] W0 :=
      ⟨⟨_, (hB0.block _ (by omega)).trans HA0.out, LOwn.nil _ _ _, fun b => Iff.rfl⟩, f0, f1, Keep.of_below hB0, by omega⟩
    refine (HIT.out 2 (W2.heap.size + 1) (LsJ W2 W.heap.size kb R) _ W0 (lsJ_ok W2 W.heap.size kb R hlk.2.1 (by omega) hlk.2.2.1) ?hy hJ0 hB0 (fun b hb => lsJ_q hJ0 b hb)).mono ?_
    case hy =>
      clear hJ0 f0 f1 fs hB0 hW0 HIT HA0 HA1 HRE HRR
      intro m Q pre l u W1 hpre hj hu
      obtain ⟨Rb, hRb⟩ : ∃ Rb : Loop, Rb = { R with state := .busy } := ⟨_, rfl⟩
      refine yield_own (R := R) hRb trivial hj.loop rs rp (by rw [rq]; rfl) ?_
      have HJ := Lib.hid hj
      have HLS := Lib.hid (list_sub hpre)
      obtain ⟨v, hv, hlo, hqq⟩ := hj.row
      obtain ⟨va, vc, rfl⟩ := hlo.len
      have hz := hj.size
      obtain ⟨ub, uc, rfl, hur⟩ := id hu
      rw [ra, rt, rq]
      have RB := Lib.hid rb
      clear ra rt rq rb rs rp hRb hpre
      simp only [List.zip_toArray, List.zip_cons_cons, List.zip_nil_right, List.foldl_toArray, List.foldl_cons, List.foldl_nil, List.setIfInBounds_toArray, List.set_cons_zero, List.set_cons_succ]
      gi_wp2_with fail
      refine ⟨HJ.out.loop, ?_⟩
      rw [RB.out]
      clear RB
      obtain ⟨W5, hW5⟩ : ∃ W5, W5 = W1.putObj (W2.heap.size + 1) (.loop Rb) := ⟨_, rfl⟩
      rw [← hW5]
      have s5 : W5.heap.size = W1.heap.size := by rw [hW5]; simp
      have k5 : ∀ b, b ≠ W2.heap.size + 1 → W5.heap[b]? = W1.heap[b]? := fun b h => by rw [hW5]; exact World.putObj_heap_other h
      have hQL : ¬ ∃ b, ¬ Q b ∧ b = W2.heap.size + 1 := fun ⟨b, h1, h2⟩ => h1 ((hqq b).2 (.inr (.inr (.inl h2))))
      have hm5 : W5.heap[W.heap.size]? = some (.cells #[.slice va pre.length vc] 31) := (k5 _ (by omega)).trans hv
      have hlo5 : LOwn W5 (W2.heap.size + 2) (fun b => (¬ Q b ∧ W2.heap.size ≤ b) ∧ b < W5.heap.size) (.slice va pre.length vc) pre := (hlo.mono (Q' := fun b => (¬ Q b ∧ W2.heap.size ≤ b) ∧ b < W5.heap.size) fun b hb hq => ⟨hq, by omega⟩).keep (fun k e => k5 k (by have := (hlo.lt k e).1; omega)) (fun b hb _ => k5 b fun e => hQL ⟨b, hb.1.1, e⟩) (by omega)
      have hsr5 : SRow W5 (fun b => ¬ Q b ∧ b ≠ kb) (.slice ub l.length uc) l := hu.keep (fun b hb _ => k5 b fun e => hQL ⟨b, hb.1, e⟩) (by omega)
      have HCL := Lib.hid (clone_any (hsr5.below (Below.refl _ W5).drew) (by have := HLS.out.1; have := HSM.out.1; omega))
      have hql := ((lsJ_ok W2 W.heap.size kb R hlk.2.1 (by omega) hlk.2.2.1).blocks _ _ _ hj).1
      have HAFT := Lib.hid fun (w6 : World) (kb6 : Option Addr) (kc6 : Nat) (hro : l ≠ [] → ∃ g o, kb6 = some ⟨g, o, none⟩ ∧ W5.drew.heap.size ≤ g ∧ g < w6.heap.size ∧ SAt w6 g o l ∧ l.length ≤ kc6) (hb6 : Below W5.drew.heap.size W5.drew w6) =>
        after_clone (Q := Q) (kb := W2.heap.size) hm5 (by omega) ((hqq _).2 (.inl rfl)) (fun b hb => by have := hql b hb; omega) (by omega) (fun b hb => (hqq b).2 (.inr (.inr (.inr hb)))) (by omega) hlo5 hro (show Below W5.heap.size W5 w6 from ⟨hb6.os, hb6.tape, hb6.output, hb6.size, hb6.block⟩)
      have HNE : Hid (pre.length + 1 ≤ 1099511627776) := Lib.hid (by have := HLS.out.2; have := HSM.out.2; omega)
      have e0 : W5.cell? ⟨W.heap.size, 0, none⟩ = some (.slice va pre.length vc) := by rw [cellOf hm5]; rfl
      have HV := Lib.hid hv
      have HW5 := Lib.hid hW5
      clear hj hlo hqq hv hur k5 hW5 hm5 hlo5 hsr5 hql s5 hQL hu
      refine wpIn_mono (Q := fun e _ w' => e = .normal ∧ MidL W5 W.heap.size (W2.heap.size + 2) W2.heap.size Q (.slice va pre.length vc) (pre ++ [l]) w') ?_ ?_
      · gi_wp2_with fail
        refine region_any_round rfl (by kernel_rfl) (by kernel_rfl) ?_
        refine wpAnyIn_take (i := 1) (v := ?_) rfl rfl (by kernel_rfl) (by kernel_rfl) (by kernel_rfl) (fun _ _ _ h => nomatch h.1) ⟨Or.inl ⟨by rfl, ?_⟩, fun _ => rfl⟩ ?_
        rotate_left
        · (intro w; go_simp); try with_reducible rfl
        refine wpAnyIn_ready (rs := [0, 2]) (by kernel_rfl) (by simp) ?_
        refine AllReadyIn.cons rfl (fun K hK => ?_) ?_
        · go_simp
          refine hK _ _ ?_
          clear hK K
          refine wpAnyIn_ready (rs := [2]) (by kernel_rfl) (by simp) ?_
          refine AllReadyIn.cons rfl (fun K hK => ?_) ?_
          · go_simp
            refine ⟨trivial, fun h => by simp [Fence.wide] at h, ?_⟩
            refine (callsIn_wide.2 HCL.out).mono ?_
            rintro e w6 ⟨_, rfl, ⟨kb6, kc6, rfl, hro6⟩, hb6⟩
            obtain ⟨a0, a1, a2, _, HCK'⟩ := HAFT.out w6 kb6 kc6 hro6 hb6
            have HCK := Lib.hid HCK'
            clear HCK' hro6 hb6
            refine hK _ _ ?_
            clear hK K
            refine wpAnyIn_ready (rs := [3]) (by kernel_rfl) (by simp) ?_
            refine AllReadyIn.cons rfl (fun K hK => ?_) ?_
            · go_simp
              refine hK _ _ ?_
              clear hK K
              refine wpAnyIn_ready (rs := [4]) (by kernel_rfl) (by simp) ?_
              refine AllReadyIn.cons rfl (fun K hK => ?_) ?_
              · refine stepIn_append_lst rfl (.tmp 24) (.tmp 27) rfl (W2.heap.size + 2) (fun b => (¬ Q b ∧ W2.heap.size ≤ b) ∧ b < w6.heap.size) (.slice va pre.length vc) pre (by rfl) HCK.out.1 _ _ kb6 kc6 l (by rfl) HCK.out.2.1 HCK.out.2.2.1 HCK.out.2.2.2.1 HNE.out HCK.out.2.2.2.2.1 (w6.heap.size + 1) (by simp) ?_
                intro g7 cap7 w7 hown7 hgr7 hat7
                obtain ⟨c7, f7, hmd⟩ := HCK.out.2.2.2.2.2 _ _ _ hown7 hgr7 hat7
                have HMD := Lib.hid hmd
                clear hown7 hgr7 hat7 hmd
                refine hK _ _ ?_
                clear hK K
                refine wpAnyIn_ready (rs := [5]) (by kernel_rfl) (by simp) ?_
                refine AllReadyIn.cons rfl (fun K hK => ?_) ?_
                · go_simp
                  refine hK _ _ ?_
                  clear hK K
                  refine wpAnyIn_done (by kernel_rfl) ?_ _
                  exact ⟨rfl, HMD.out⟩
                exact AllReadyIn.nil
              exact AllReadyIn.nil
            exact AllReadyIn.nil
          exact AllReadyIn.nil
        refine AllReadyIn.cons rfl (fun K hK => ?_) ?_
        · go_simp
          refine ⟨trivial, fun h => by simp [Fence.wide] at h, ?_⟩
          refine (callsIn_wide.2 HCL.out).mono ?_
          rintro e w6 ⟨_, rfl, ⟨kb6, kc6, rfl, hro6⟩, hb6⟩
          obtain ⟨a0, a1, a2, _, HCK'⟩ := HAFT.out w6 kb6 kc6 hro6 hb6
          have HCK := Lib.hid HCK'
          clear HCK' hro6 hb6
          refine hK _ _ ?_
          clear hK K
          refine wpAnyIn_ready (rs := [0, 3]) (by kernel_rfl) (by simp) ?_
          refine AllReadyIn.cons rfl (fun K hK => ?_) ?_
          · go_simp
            refine hK _ _ ?_
            clear hK K
            refine wpAnyIn_ready (rs := [3]) (by kernel_rfl) (by simp) ?_
            refine AllReadyIn.cons rfl (fun K hK => ?_) ?_
            · go_simp
              refine hK _ _ ?_
              clear hK K
              refine wpAnyIn_ready (rs := [4]) (by kernel_rfl) (by simp) ?_
              refine AllReadyIn.cons rfl (fun K hK => ?_) ?_
              · refine stepIn_append_lst rfl (.tmp 24) (.tmp 27) rfl (W2.heap.size + 2) (fun b => (¬ Q b ∧ W2.heap.size ≤ b) ∧ b < w6.heap.size) (.slice va pre.length vc) pre (by rfl) HCK.out.1 _ _ kb6 kc6 l (by rfl) HCK.out.2.1 HCK.out.2.2.1 HCK.out.2.2.2.1 HNE.out HCK.out.2.2.2.2.1 (w6.heap.size + 1) (by simp) ?_
                intro g7 cap7 w7 hown7 hgr7 hat7
                obtain ⟨c7, f7, hmd⟩ := HCK.out.2.2.2.2.2 _ _ _ hown7 hgr7 hat7
                have HMD := Lib.hid hmd
                clear hown7 hgr7 hat7 hmd
                refine hK _ _ ?_
                clear hK K
                refine wpAnyIn_ready (rs := [5]) (by kernel_rfl) (by simp) ?_
                refine AllReadyIn.cons rfl (fun K hK => ?_) ?_
                · go_simp
                  refine hK _ _ ?_
                  clear hK K
                  refine wpAnyIn_done (by kernel_rfl) ?_ _
                  exact ⟨rfl, HMD.out⟩
                exact AllReadyIn.nil
              exact AllReadyIn.nil
            exact AllReadyIn.nil
          refine AllReadyIn.cons rfl (fun K hK => ?_) ?_
          · go_simp
            refine hK _ _ ?_
            clear hK K
            refine wpAnyIn_ready (rs := [0]) (by kernel_rfl) (by simp) ?_
            refine AllReadyIn.cons rfl (fun K hK => ?_) ?_
            · go_simp
              refine hK _ _ ?_
              clear hK K
              refine wpAnyIn_ready (rs := [4]) (by kernel_rfl) (by simp) ?_
              refine AllReadyIn.cons rfl (fun K hK => ?_) ?_
              · refine stepIn_append_lst rfl (.tmp 24) (.tmp 27) rfl (W2.heap.size + 2) (fun b => (¬ Q b ∧ W2.heap.size ≤ b) ∧ b < w6.heap.size) (.slice va pre.length vc) pre (by rfl) HCK.out.1 _ _ kb6 kc6 l (by rfl) HCK.out.2.1 HCK.out.2.2.1 HCK.out.2.2.2.1 HNE.out HCK.out.2.2.2.2.1 (w6.heap.size + 1) (by simp) ?_
                intro g7 cap7 w7 hown7 hgr7 hat7
                obtain ⟨c7, f7, hmd⟩ := HCK.out.2.2.2.2.2 _ _ _ hown7 hgr7 hat7
                have HMD := Lib.hid hmd
                clear hown7 hgr7 hat7 hmd
                refine hK _ _ ?_
                clear hK K
                refine wpAnyIn_ready (rs := [5]) (by kernel_rfl) (by simp) ?_
                refine AllReadyIn.cons rfl (fun K hK => ?_) ?_
                · go_simp
                  refine hK _ _ ?_
                  clear hK K
                  refine wpAnyIn_done (by kernel_rfl) ?_ _
                  exact ⟨rfl, HMD.out⟩
                exact AllReadyIn.nil
              exact AllReadyIn.nil
            exact AllReadyIn.nil
          exact AllReadyIn.nil
        exact AllReadyIn.nil
      · rintro e a' w8 ⟨rfl, hmid⟩
        exact ⟨rfl, round_endL HJ.out (by omega) HV.out HW5.out hmid⟩
    rintro e w3 (⟨rfl, Q', hj, hed⟩ | ⟨ch, Q', pre, rfl, hj, hdi⟩)
    · obtain ⟨_, _, ls, hls⟩ := hed
      have hRe : R0 = .ok (preM (supsM g x) ++ [x.2]) := by rw [HRE.out, hls, (seq_mem _ _ hls).1]; rfl
      obtain ⟨LL, hLL⟩ : ∃ LL, LL = preM (supsM g x) ++ [x.2] := ⟨_, rfl⟩
      rw [← hLL] at hj hRe
      refine ⟨R.pending, w3.putObj (W2.heap.size + 1) (.loop { R with state := .exhausted }), run_endLoop (P := Try.prog) hj.loop (by rw [rs]; simp), ?_⟩
      obtain ⟨w4, hw4⟩ : ∃ w4, w4 = w3.putObj (W2.heap.size + 1) (.loop { R with state := .exhausted }) := ⟨_, rfl⟩
      rw [← hw4]
      have hz := hj.size
      have k4 : ∀ k, k ≠ W2.heap.size + 1 → w4.heap[k]? = w3.heap[k]? := fun k hk => by rw [hw4]; exact World.putObj_heap_other hk
      obtain ⟨v, hv, hlo, hqq⟩ := hj.row
      obtain ⟨va, vc, rfl⟩ := hlo.len
      have A0 := (k4 W.heap.size (by omega)).trans hv
      have A1 := (k4 (W.heap.size + 1) (by omega)).trans ((hj.keep.block _ (by omega) (by omega)).trans HA1.out)
      have c0 : w4.cell? ⟨W.heap.size, 0, none⟩ = some (.slice va LL.length vc) := by rw [cellOf A0]; rfl
      have c1 : w4.cell? ⟨W.heap.size + 1, 0, none⟩ = some (.int .i64 0) := by rw [cellOf A1]; rfl
      have g0 := frozenOf (j := 0) A0
      have g1 := frozenOf (j := 0) A1
      have D4 : Hid (w4.heap[W2.heap.size]? = some (.deferred (some []))) := Lib.hid ((k4 _ (by omega)).trans hj.defd)
      have HRE2 := Lib.hid hRe
      have HSZ4 : Hid (W2.heap.size + 2 ≤ w4.heap.size) := Lib.hid (by rw [hw4]; simpa using hz)
      have HKW : Hid (Keep (fun b => W.heap.size ≤ b) W w4) := Lib.hid (((Keep.of_below HBW2.out).trans (hj.keep.mono fun b _ e => by omega)).trans (by rw [hw4]; exact (Keep.refl _ w3).putObj (.inl (by omega)) _))
      have HLO4 : Hid (LRow w4 (fun b => W2.heap.size + 2 ≤ b ∨ (¬ Q' b ∧ W2.heap.size ≤ b)) (.slice va LL.length vc) LL) := Lib.hid (by
        have h4 : LOwn w4 (W2.heap.size + 2) (fun b => ¬ Q' b ∧ W2.heap.size ≤ b) (.slice va LL.length vc) LL := hlo.keep (fun k e => k4 k (by have := (hlo.lt k e).1; omega)) (fun b hb _ => k4 b fun e => hb.1 ((hqq b).2 (.inr (.inr (.inl e))))) (by rw [hw4]; simp)
        exact h4.lrow (fun b _ h => .inr h) fun b hb _ => .inl hb)
      have HQD : Hid (Q' W2.heap.size) := Lib.hid ((hqq _).2 (.inr (.inl rfl)))
      clear hw4 k4 hj hz hv hlo hqq A0 A1 f0 f1 fs hB0 hW0 ra rb rt rq HIT hJ0 hLL hls hRe HRE
      rw [rp]
      gi_wp2_with fail
      obtain ⟨z0, z1, hbz⟩ := two_set (.slice va LL.length vc) (.int .i64 0) c0 c1
      have hz4 := HSZ4.out
      have hD : ((w4.setCell ⟨W.heap.size, 0, none⟩ (.slice va LL.length vc)).setCell ⟨W.heap.size + 1, 0, none⟩ (.int .i64 0)).heap[W2.heap.size]? = some (.deferred (some [])) := by
        rw [Below.heap_setCell _ _ _ _ (by simp; omega), Below.heap_setCell _ _ _ _ (by simp; omega)]; exact D4.out
      refine leave_coll (by simp) W2.heap.size _ _ _ hD ?_
      have kp : ∀ b, b ≠ W2.heap.size → (((w4.setCell ⟨W.heap.size, 0, none⟩ (.slice va LL.length vc)).setCell ⟨W.heap.size + 1, 0, none⟩ (.int .i64 0)).putObj W2.heap.size (.deferred none)).heap[b]? = ((w4.setCell ⟨W.heap.size, 0, none⟩ (.slice va LL.length vc)).setCell ⟨W.heap.size + 1, 0, none⟩ (.int .i64 0)).heap[b]? := fun b h => World.putObj_heap_other h
      refine ls_leave W.heap.size _ _ (fun W a n c x h0 h1 => by simp [results, Try.results30, go_sem, h0, h1]) va LL.length vc 0 ((World.cell?_of_block (a := ⟨W.heap.size, 0, none⟩) (kp W.heap.size (by omega))).trans z0) ((World.cell?_of_block (a := ⟨W.heap.size + 1, 0, none⟩) (kp (W.heap.size + 1) (by omega))).trans z1) (by simp; omega) fun w' hb => ?_
      have kfin : Keep (fun b => W.heap.size ≤ b) W w' := (((HKW.out.setCell (.inr (Nat.le_refl _)) _ _).setCell (.inr (by omega)) _ _).putObj (.inr (by omega)) _).trans (.of_below hb)
      refine ⟨kfin.below (fun _ h => h) (Nat.le_refl _), ?_⟩
      rw [HRE2.out]
      refine ⟨_, rfl, ?_⟩
      refine (HLO4.out.keep (fun b hq hlt => ?_) (by have := hb.size; simp at this; omega)).mono fun _ _ _ => trivial
      have hbn : b ≠ W2.heap.size := fun e => hq.elim (by omega) fun h => h.1 (e ▸ HQD.out)
      refine (hb.block b (by simpa using hlt)).trans ((kp b hbn).trans ?_)
      rw [Below.heap_setCell _ _ _ _ (by simp; omega), Below.heap_setCell _ _ _ _ (by simp; omega)]
    · obtain ⟨_, _, e', hls, rfl⟩ := hdi
      have hRe : R0 = .error 71 := by rw [HRE.out, hls]; rfl
      simp only [rangePost, Exit.inBlock, Exit.then]
      have hz := hj.size
      obtain ⟨v, hv, hlo, hqq⟩ := hj.row
      have A1 := (hj.keep.block (W.heap.size + 1) (by omega) (by omega)).trans HA1.out
      refine leave_coll (by simp) W2.heap.size _ _ _ hj.defd ?_
      have kp : ∀ b, b ≠ W2.heap.size → (w3.putObj W2.heap.size (.deferred none)).heap[b]? = w3.heap[b]? := fun b h => World.putObj_heap_other h
      have B0 := (kp W.heap.size (by omega)).trans hv
      have B1 := (kp (W.heap.size + 1) (by omega)).trans A1
      refine ls_leave_panic W.heap.size e' _ _ (fun W a n c x h0 h1 => by simp [results, Try.results30, go_sem, h0, h1]) v (.int .i64 0) (by rw [cellOf B0]; rfl) (by rw [cellOf B1]; rfl) (frozenOf B0) (frozenOf B1) (by simp; omega) fun w' hb => ?_
      have kfin : Below W.heap.size W w' := ((((Keep.of_below (S := fun b => W.heap.size ≤ b) HBW2.out).trans (hj.keep.mono fun b _ e => by omega)).putObj (.inr (by omega)) _).below (fun _ h => h) (Nat.le_refl _)).trans hb
      refine ⟨kfin, ?_⟩
      rw [hRe]
theorem Lists_any (g : List Hr) (nm : ByteArray) (v : Value) (W : World) (hr : HRow W (fun b => b < W.heap.size) v g) (hz : ∀ x ∈ g, x.2.length ≤ 8796093022207) :
    Calls Try.prog 30 #[v, .string nm] W (LLRes (listsM g nm) W) := callsIn_wide.1 (Lists_run g nm v W hr hz)
end Go.Proofs.Ytolopideimnbgaa
