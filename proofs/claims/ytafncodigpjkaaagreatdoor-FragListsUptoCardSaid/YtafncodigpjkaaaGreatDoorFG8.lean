/-
  The reader's walk over all tokens.
-/
import Derived.Test.YtafncodigpjkaaaGreatDoorFG7
namespace Go.Proofs.YtafncodigpjkaaaGreatDoor
section
open Go.RowKit

theorem closers_new (W : World) (x : ByteArray) (b : Nat) (hb : b = W.heap.size) : Calls Tryz.prog 61 #[.string x, .slice (some ⟨b, 0, none⟩) 4 4] (W.alloc (.cells #[.string ⟨#[41]⟩, .string ⟨#[93]⟩, .string ⟨#[125]⟩, .string ⟨#[101, 110, 100]⟩] 9)) fun e w' => e = .returned (.bool (decide (x ∈ closers))) ∧ (W.alloc (.cells #[.string ⟨#[41]⟩, .string ⟨#[93]⟩, .string ⟨#[125]⟩, .string ⟨#[101, 110, 100]⟩] 9)) = w' := by
  subst hb
  exact among_any x (l := closers) (by decide) _ (srow_new W _ closers 9 rfl)
theorem frefuse_any' (rb i : Nat) (c : Int) (W : World) (h1 : W.cell? ⟨rb, 1, none⟩ = some (.int .i64 (i : Int))) :
    Calls Tryz.prog 66 #[.pointer (some ⟨rb, 0, none⟩), .int .i64 c] W fun e w' => e = .panicked [{ v := .iface 63 (.agg #[.int .i64 (i : Int), .int .i64 c]), recovered := false }] ∧ W = w' := frefuse_any rb i c W h1
theorem begin_bad {l : List Tkn} {tv : Value} {ws : List ByteArray} {base rb mb i : Nat} {s : RS} {W : World} (h : Rdr l tv ws base rb mb i s W) (t : Tkn) (hn : 100 < s.pre.length + 1) :
    Calls Tryz.prog 68 #[.pointer (some ⟨rb, 0, none⟩), .agg (tkL t).toArray] W fun e w' => e = .panicked [{ v := .iface 63 (.agg #[.int .i64 (i : Int), .int .i64 6]), recovered := false }] ∧ Below W.heap.size W w' := by
  obtain ⟨ob, cap, kp, kt, h3, ho⟩ := h.op
  exact begin_no rb ob cap s.pre.length i t W h.rz hn h3 h.st.c1
theorem end_bad {l : List Tkn} {tv : Value} {ws : List ByteArray} {base rb mb i : Nat} {s : RS} {W : World} (h : Rdr l tv ws base rb mb i s W) (t : Tkn) (hn : s.pre.length + 1 ≤ 1048576) (hb : s.top.opn = sNo ∨ closingM s.top.opn ≠ t.2.2.1) :
    Calls Tryz.prog 69 #[.pointer (some ⟨rb, 0, none⟩), .agg (tkL t).toArray] W fun e w' => e = .panicked [{ v := .iface 63 (.agg #[.int .i64 (i : Int), .int .i64 20]), recovered := false }] ∧ Below W.heap.size W w' := by
  obtain ⟨ob, cap, kp, kt, h3, ho⟩ := h.op
  obtain ⟨ka, kc, rfl, _⟩ := id ho.pop.2
  exact end_no rb ob cap s.pre.length i s.top.fg ka s.top.kids.length kc t.1 t.2.1 t.2.2.1 t.2.2.2.1 t.2.2.2.2 W h.rz ho.oblt.2 hn h.st.c1 h3 (fun j u hu => ho.cellG (by
    have hj : j < 7 := by have := (List.getElem?_eq_some_iff.1 hu).1; simpa [fgV] using this
    unfold gpV
    rw [List.getElem?_append_left (by simpa [fgV] using hj)]
    exact hu)) hb
/-- The loop's relation. -/
structure RL (ok : Tkn → Bool) (l : List Tkn) (tv : Value) (ws : List ByteArray) (base rb mb : Nat) (W : World) (R : Except (Nat × Nat) (List Fg)) (k : Nat) (wr : World) : Prop where
  hk : k ≤ l.length
  st : ∃ s j, Rdr l tv ws base rb mb j s wr ∧ RsOk ws k s ∧ KLen k s ∧ runM ok ws l (l.drop k) k s = R
  keep : KeepS (fun b => b = rb ∨ Bs base b) W wr

theorem RL.next {ok : Tkn → Bool} {l : List Tkn} {tv : Value} {ws : List ByteArray} {base rb mb k : Nat} {W : World} {R : Except (Nat × Nat) (List Fg)} {t : Tkn} {s s' : RS} (hstep : stepM ok ws l k t s = .ok s') (hok : RsOk ws k s) (hkl : KLen k s)
    (hrun : (match stepM ok ws l k t s with | .error p => Except.error p | .ok s' => runM ok ws l (l.drop (k + 1)) (k + 1) s') = R) (hk : k < l.length) : ∀ w4, Rdr l tv ws base rb mb k s' w4 → KeepS (fun b => b = rb ∨ Bs base b) W w4 → RL ok l tv ws base rb mb W R (k + 1) w4 := fun w4 h hks => by
  rw [hstep] at hrun
  exact ⟨by omega, ⟨s', k, h, stepM_ok hok hstep, hkl.step hstep, hrun⟩, hks⟩
theorem RL.fail {ok : Tkn → Bool} {l : List Tkn} {ws : List ByteArray} {k : Nat} {R : Except (Nat × Nat) (List Fg)} {t : Tkn} {s : RS} {p : Nat × Nat} (hstep : stepM ok ws l k t s = .error p)
    (hrun : (match stepM ok ws l k t s with | .error p => Except.error p | .ok s' => runM ok ws l (l.drop (k + 1)) (k + 1) s') = R) : R = .error p := by
  rw [hstep] at hrun
  exact hrun.symm
set_option maxRecDepth 100000 in
set_option maxHeartbeats 16000000 in
theorem read_any (l : List Tkn) (tv : Value) (ws : List ByteArray) (base rb mb : Nat) (W : World) (h : Rdr l tv ws base rb mb 0 rs0 W) (hlen : l.length ≤ 6000) (hts : ∀ x ∈ l, (x.2.2.1 : ByteArray).size ≤ 140737488351232)
    (hE : ∀ w', KeepS (fun b => b = rb ∨ Bs base b) W w' → Env w') :
    Calls Tryz.prog 42 #[.pointer (some ⟨rb, 0, none⟩)] W (ReadEnd base rb (runM tokOk ws l l 0 rs0) W) := by
  obtain ⟨R, hR⟩ : ∃ R, R = runM tokOk ws l l 0 rs0 := ⟨_, rfl⟩
  have hRL : RL tokOk l tv ws base rb mb W R 0 W := ⟨by omega, ⟨rs0, 0, h, rs0_ok ws, ⟨by simp [rs0], (fun g hg => by cases hg)⟩, by rw [List.drop_zero]; exact hR.symm⟩, KeepS.refl _ _⟩
  rw [← hR]
  have HRL := Lib.hid hRL
  have HE := Lib.hid hE
  have HTS := Lib.hid hts
  have hst := h.st
  obtain ⟨tb, tc, rfl, _⟩ := id h.st.tk
  have c0 := h.st.c0
  have hrz := h.rz
  clear hR hRL hE hts h hst
  go_enter Tryz.func42, Tryz.ntmps42
  go_wp2_with fail
  go_loopw [10] (fun iv wr => ∃ k : Nat, iv = .int .i64 (k : Int) ∧ Hid (RL tokOk l (.slice tb l.length tc) ws base rb mb W R k wr)) (fun iv _ => l.length - (intOf iv).toNat)
  case atStart => exact ⟨0, rfl, HRL⟩
  case round =>
    obtain ⟨k, rfl, hr⟩ := hrel
    have hk := hr.out.hk
    obtain ⟨s, j, hd, hok, hkl, hrun⟩ := hr.out.st
    have HKP := Lib.hid hr.out.keep
    have hdz := hd.rz
    have w3' : IntKind.i64.wrap ((k : Int) + 1) = (k : Int) + 1 := IntWalk.i64_in _ (by omega)
    have hdeep := hok.deep
    clear hr HRL c0
    by_cases hlt : k < l.length
    · obtain ⟨t, ht⟩ : ∃ t, l[k]? = some t := ⟨_, List.getElem?_eq_getElem hlt⟩
      rw [run_step ht] at hrun
      have htm : t ∈ l := List.mem_iff_getElem?.2 ⟨k, ht⟩
      have hsz := HTS.out t htm
      obtain ⟨b0, cc0, hbe, hrow⟩ := hd.st.tk
      simp only [Value.slice.injEq, true_and] at hbe
      obtain ⟨rfl, rfl⟩ := hbe
      obtain ⟨g, o, rfl, hg0, hg, hat⟩ := hrow (by rintro rfl; simp at hlt)
      obtain ⟨e0, e1, e2, e3, e4⟩ := hat k t ht
      have hl' : (k : Int) < (l.length : Int) := by omega
      have r1 := hd.st.c1
      have f1 := hd.st.fr 1
      have HD1 : Hid (∀ O, Rdr l (.slice (some ⟨g, o, none⟩) l.length tc) ws base rb mb k s ((wr.setCell ⟨rb, 1, none⟩ (.int .i64 (k : Int))).alloc O) ∧ KeepS (fun b => b = rb ∨ Bs base b) W ((wr.setCell ⟨rb, 1, none⟩ (.int .i64 (k : Int))).alloc O)) := Lib.hid fun O =>
        ⟨(hd.setAt k).below ((Below.refl _ _).alloc (Nat.le_refl _) O), (HKP.out.setCell (.inl rfl) _ _).alloc O⟩
      have HOK := Lib.hid hok; have HKL := Lib.hid hkl
      clear hrow hat hd hg0 HKP hok hkl ht htm
      obtain ⟨k0, n0, s0, a0, m0⟩ := t
      simp only at e0 e1 e2 e3 e4 hsz
      have HCK : Hid (∀ w', Env w' → Calls Tryz.prog 65 #[.agg #[.int .i64 k0, .int .i64 n0, .string s0, .int .i64 a0, .int .i64 m0]] w' fun e w'' => e = .returned (.int .i64 (chkN (k0, n0, s0, a0, m0))) ∧ Below w'.heap.size w' w'') := Lib.hid fun w' E => check_any k0 n0 s0 a0 m0 hsz w' E
      have HRUN := Lib.hid hrun
      clear hrun hsz
      cases hck : tokOk (k0, n0, s0, a0, m0)
      · have hRe := RL.fail (p := (k, 14)) (by unfold stepM; rw [hck]; rfl) HRUN.out
        have HRE := Lib.hid hRe
        clear hRe HRUN
        have hchk : chkN (k0, n0, s0, a0, m0) = 14 := by unfold chkN; rw [hck]; rfl
        rw [hchk] at HCK
        clear hchk
        go_wp2_with fail
        have HDX := Lib.hid (HD1.out (.cells #[.int .i64 k0, .int .i64 n0, .string s0, .int .i64 a0, .int .i64 m0] 50))
        refine (HCK.out _ (HE.out _ HDX.out.2)).mono ?_
        rintro e w2 ⟨rfl, hb2⟩
        have HR2 := Lib.hid (HDX.out.1.below hb2)
        have HK2 := Lib.hid (HDX.out.2.trans (.of_below hb2))
        have hx : ∀ j v, (#[.int .i64 k0, .int .i64 n0, .string s0, .int .i64 a0, .int .i64 m0] : Array Value)[j]? = some v → w2.cell? ⟨wr.heap.size, j, none⟩ = some v := fun j v hv => (hb2.cell (p := ⟨wr.heap.size, j, none⟩) (by simp)).trans (by
          have := heap_alloc_new (wr.setCell ⟨rb, 1, none⟩ (.int .i64 (k : Int))) (.cells #[.int .i64 k0, .int .i64 n0, .string s0, .int .i64 a0, .int .i64 m0] 50)
          rw [World.size_setCell] at this
          rw [fcell_at this]; exact hv)
        have b0 : w2.cell? ⟨wr.heap.size, 0, none⟩ = some (.int .i64 k0) := hx 0 _ rfl
        have b1 : w2.cell? ⟨wr.heap.size, 1, none⟩ = some (.int .i64 n0) := hx 1 _ rfl
        have b2 : w2.cell? ⟨wr.heap.size, 2, none⟩ = some (.string s0) := hx 2 _ rfl
        have b3 : w2.cell? ⟨wr.heap.size, 3, none⟩ = some (.int .i64 a0) := hx 3 _ rfl
        have b4 : w2.cell? ⟨wr.heap.size, 4, none⟩ = some (.int .i64 m0) := hx 4 _ rfl
        have hbz : wr.heap.size < w2.heap.size := by have := hb2.size; simp at this; omega
        have d2 := HR2.out.c2
        clear hx hb2 HDX HCK HD1 e0 e1 e2 e3 e4 r1 f1 HTS
        clear hck HOK HKL
        go_wp2_with fail
        refine (frefuse_any' rb k 14 w2 (HR2.out.st.c1)).mono ?_
        rintro e w9 ⟨rfl, rfl⟩
        go_wp2_with fail
        exact ⟨rfl, ReadEnd.bad HRE.out HK2.out⟩
      by_cases hsk : k < s.beh
      · have hact : actM ws l k (k0, n0, s0, a0, m0) s = .skip := by unfold actM; rw [if_pos hsk]
        have HN := Lib.hid (RL.next (tv := (.slice (some ⟨g, o, none⟩) l.length tc)) (base := base) (rb := rb) (mb := mb) (W := W) (s' := s) (by unfold stepM; rw [hck, if_pos rfl, hact]) HOK.out HKL.out HRUN.out hlt)
        have hlt2 : (k : Int) < (s.beh : Int) := by omega
        clear HRUN hact HOK HKL
        have hchk : chkN (k0, n0, s0, a0, m0) = 0 := by unfold chkN; rw [hck]; rfl
        rw [hchk] at HCK
        clear hchk
        go_wp2_with fail
        have HDX := Lib.hid (HD1.out (.cells #[.int .i64 k0, .int .i64 n0, .string s0, .int .i64 a0, .int .i64 m0] 50))
        refine (HCK.out _ (HE.out _ HDX.out.2)).mono ?_
        rintro e w2 ⟨rfl, hb2⟩
        have HR2 := Lib.hid (HDX.out.1.below hb2)
        have HK2 := Lib.hid (HDX.out.2.trans (.of_below hb2))
        have hx : ∀ j v, (#[.int .i64 k0, .int .i64 n0, .string s0, .int .i64 a0, .int .i64 m0] : Array Value)[j]? = some v → w2.cell? ⟨wr.heap.size, j, none⟩ = some v := fun j v hv => (hb2.cell (p := ⟨wr.heap.size, j, none⟩) (by simp)).trans (by
          have := heap_alloc_new (wr.setCell ⟨rb, 1, none⟩ (.int .i64 (k : Int))) (.cells #[.int .i64 k0, .int .i64 n0, .string s0, .int .i64 a0, .int .i64 m0] 50)
          rw [World.size_setCell] at this
          rw [fcell_at this]; exact hv)
        have b0 : w2.cell? ⟨wr.heap.size, 0, none⟩ = some (.int .i64 k0) := hx 0 _ rfl
        have b1 : w2.cell? ⟨wr.heap.size, 1, none⟩ = some (.int .i64 n0) := hx 1 _ rfl
        have b2 : w2.cell? ⟨wr.heap.size, 2, none⟩ = some (.string s0) := hx 2 _ rfl
        have b3 : w2.cell? ⟨wr.heap.size, 3, none⟩ = some (.int .i64 a0) := hx 3 _ rfl
        have b4 : w2.cell? ⟨wr.heap.size, 4, none⟩ = some (.int .i64 m0) := hx 4 _ rfl
        have hbz : wr.heap.size < w2.heap.size := by have := hb2.size; simp at this; omega
        have d2 := HR2.out.c2
        clear hx hb2 HDX HCK HD1 e0 e1 e2 e3 e4 r1 f1 HTS
        clear hck
        go_wp2_with fail
        go_wp2_with fail
        exact ⟨⟨k + 1, by simp, Lib.hid (HN.out _ HR2.out HK2.out)⟩, by simp only [intOf]; omega⟩
      cases hop : opensM ws l k (k0, n0, s0, a0, m0) s.top
      · by_cases hcl : s0 ∈ closers
        · by_cases hst : s.top.opn = sNo ∨ closingM s.top.opn ≠ s0
          · have hlt2 : ¬ (k : Int) < (s.beh : Int) := by omega
            have hmem : decide (s0 ∈ closers) = true := by exact decide_eq_true hcl
            have HCLS : Hid (∀ (w' : World) (b : Nat), b = w'.heap.size → Calls Tryz.prog 61 #[.string s0, .slice (some ⟨b, 0, none⟩) 4 4] (w'.alloc (.cells #[.string ⟨#[41]⟩, .string ⟨#[93]⟩, .string ⟨#[125]⟩, .string ⟨#[101, 110, 100]⟩] 9)) fun e w'' => e = .returned (.bool true) ∧ (w'.alloc (.cells #[.string ⟨#[41]⟩, .string ⟨#[93]⟩, .string ⟨#[125]⟩, .string ⟨#[101, 110, 100]⟩] 9)) = w'') := Lib.hid fun w' b hb => by
              have := closers_new w' s0 b hb
              rw [hmem] at this
              exact this
            have HOP : Hid (∀ w', Rdr l (.slice (some ⟨g, o, none⟩) l.length tc) ws base rb mb k s w' → Calls Tryz.prog 67 #[.pointer (some ⟨rb, 0, none⟩), .agg #[.int .i64 k0, .int .i64 n0, .string s0, .int .i64 a0, .int .i64 m0]] w' fun e w'' => e = .returned (.bool false) ∧ Below w'.heap.size w' w'') := Lib.hid fun w' h => by
              have := opens_any h (k0, n0, s0, a0, m0) (by omega) (by omega)
              rw [hop] at this
              exact this
            have hact : actM ws l k (k0, n0, s0, a0, m0) s = .cls := by unfold actM; rw [if_neg hsk, hop]; simp only [Bool.false_eq_true, if_false]; exact if_pos hcl
            have HRE := Lib.hid (RL.fail (p := (k, 20)) (by unfold stepM; rw [hck, if_pos rfl, hact]; exact if_pos hst) HRUN.out)
            clear HRUN hact HOK HKL hop hcl hmem
            have hchk : chkN (k0, n0, s0, a0, m0) = 0 := by unfold chkN; rw [hck]; rfl
            rw [hchk] at HCK
            clear hchk
            go_wp2_with fail
            have HDX := Lib.hid (HD1.out (.cells #[.int .i64 k0, .int .i64 n0, .string s0, .int .i64 a0, .int .i64 m0] 50))
            refine (HCK.out _ (HE.out _ HDX.out.2)).mono ?_
            rintro e w2 ⟨rfl, hb2⟩
            have HR2 := Lib.hid (HDX.out.1.below hb2)
            have HK2 := Lib.hid (HDX.out.2.trans (.of_below hb2))
            have hx : ∀ j v, (#[.int .i64 k0, .int .i64 n0, .string s0, .int .i64 a0, .int .i64 m0] : Array Value)[j]? = some v → w2.cell? ⟨wr.heap.size, j, none⟩ = some v := fun j v hv => (hb2.cell (p := ⟨wr.heap.size, j, none⟩) (by simp)).trans (by
              have := heap_alloc_new (wr.setCell ⟨rb, 1, none⟩ (.int .i64 (k : Int))) (.cells #[.int .i64 k0, .int .i64 n0, .string s0, .int .i64 a0, .int .i64 m0] 50)
              rw [World.size_setCell] at this
              rw [fcell_at this]; exact hv)
            have b0 : w2.cell? ⟨wr.heap.size, 0, none⟩ = some (.int .i64 k0) := hx 0 _ rfl
            have b1 : w2.cell? ⟨wr.heap.size, 1, none⟩ = some (.int .i64 n0) := hx 1 _ rfl
            have b2 : w2.cell? ⟨wr.heap.size, 2, none⟩ = some (.string s0) := hx 2 _ rfl
            have b3 : w2.cell? ⟨wr.heap.size, 3, none⟩ = some (.int .i64 a0) := hx 3 _ rfl
            have b4 : w2.cell? ⟨wr.heap.size, 4, none⟩ = some (.int .i64 m0) := hx 4 _ rfl
            have hbz : wr.heap.size < w2.heap.size := by have := hb2.size; simp at this; omega
            have d2 := HR2.out.c2
            clear hx hb2 HDX HCK HD1 e0 e1 e2 e3 e4 r1 f1 HTS
            clear hck
            go_wp2_with fail
            refine (HOP.out _ HR2.out).mono ?_
            rintro e w3 ⟨rfl, hb3⟩
            have HR3 := Lib.hid (HR2.out.below hb3)
            have HK3 := Lib.hid (HK2.out.trans (.of_below hb3))
            replace b0 : w3.cell? ⟨wr.heap.size, 0, none⟩ = some (.int .i64 k0) := (hb3.cell (p := ⟨wr.heap.size, 0, none⟩) hbz).trans b0
            replace b1 : w3.cell? ⟨wr.heap.size, 1, none⟩ = some (.int .i64 n0) := (hb3.cell (p := ⟨wr.heap.size, 1, none⟩) hbz).trans b1
            replace b2 : w3.cell? ⟨wr.heap.size, 2, none⟩ = some (.string s0) := (hb3.cell (p := ⟨wr.heap.size, 2, none⟩) hbz).trans b2
            replace b3 : w3.cell? ⟨wr.heap.size, 3, none⟩ = some (.int .i64 a0) := (hb3.cell (p := ⟨wr.heap.size, 3, none⟩) hbz).trans b3
            replace b4 : w3.cell? ⟨wr.heap.size, 4, none⟩ = some (.int .i64 m0) := (hb3.cell (p := ⟨wr.heap.size, 4, none⟩) hbz).trans b4
            replace hbz : wr.heap.size < w3.heap.size := by have := hb3.size; omega
            clear hb3 d2 HOP
            go_wp2_with fail
            (with_reducible refine (HCLS.out w3 _ rfl).mono ?_)
            rintro e w4 ⟨rfl, rfl⟩
            have HR4 := Lib.hid (HR3.out.below ((Below.refl _ _).alloc (Nat.le_refl _) (.cells #[.string ⟨#[41]⟩, .string ⟨#[93]⟩, .string ⟨#[125]⟩, .string ⟨#[101, 110, 100]⟩] 9)))
            have HK4 := Lib.hid (HK3.out.alloc (.cells #[.string ⟨#[41]⟩, .string ⟨#[93]⟩, .string ⟨#[125]⟩, .string ⟨#[101, 110, 100]⟩] 9))
            replace b0 := fun O => box_cell w3 O b0 hbz
            replace b1 := fun O => box_cell w3 O b1 hbz
            replace b2 := fun O => box_cell w3 O b2 hbz
            replace b3 := fun O => box_cell w3 O b3 hbz
            replace b4 := fun O => box_cell w3 O b4 hbz
            clear HCLS
            go_wp2_with fail
            refine (end_bad HR4.out (k0, n0, s0, a0, m0) (by omega) hst).mono ?_
            rintro e w5 ⟨rfl, hb5⟩
            have HK5 := Lib.hid (HK4.out.trans (.of_below hb5))
            clear hb5
            go_wp2_with fail
            exact ⟨rfl, ReadEnd.bad HRE.out HK5.out⟩
          · have hlt2 : ¬ (k : Int) < (s.beh : Int) := by omega
            have hmem : decide (s0 ∈ closers) = true := by exact decide_eq_true hcl
            have HCLS : Hid (∀ (w' : World) (b : Nat), b = w'.heap.size → Calls Tryz.prog 61 #[.string s0, .slice (some ⟨b, 0, none⟩) 4 4] (w'.alloc (.cells #[.string ⟨#[41]⟩, .string ⟨#[93]⟩, .string ⟨#[125]⟩, .string ⟨#[101, 110, 100]⟩] 9)) fun e w'' => e = .returned (.bool true) ∧ (w'.alloc (.cells #[.string ⟨#[41]⟩, .string ⟨#[93]⟩, .string ⟨#[125]⟩, .string ⟨#[101, 110, 100]⟩] 9)) = w'') := Lib.hid fun w' b hb => by
              have := closers_new w' s0 b hb
              rw [hmem] at this
              exact this
            have HOP : Hid (∀ w', Rdr l (.slice (some ⟨g, o, none⟩) l.length tc) ws base rb mb k s w' → Calls Tryz.prog 67 #[.pointer (some ⟨rb, 0, none⟩), .agg #[.int .i64 k0, .int .i64 n0, .string s0, .int .i64 a0, .int .i64 m0]] w' fun e w'' => e = .returned (.bool false) ∧ Below w'.heap.size w' w'') := Lib.hid fun w' h => by
              have := opens_any h (k0, n0, s0, a0, m0) (by omega) (by omega)
              rw [hop] at this
              exact this
            have hact : actM ws l k (k0, n0, s0, a0, m0) s = .cls := by unfold actM; rw [if_neg hsk, hop]; simp only [Bool.false_eq_true, if_false]; exact if_pos hcl
            have HN := Lib.hid (RL.next (tv := (.slice (some ⟨g, o, none⟩) l.length tc)) (base := base) (rb := rb) (mb := mb) (W := W) (s' := clsM l k s) (by unfold stepM; rw [hck, if_pos rfl, hact]; exact if_neg hst) HOK.out HKL.out HRUN.out hlt)
            clear HRUN hact hop hcl hmem
            have hchk : chkN (k0, n0, s0, a0, m0) = 0 := by unfold chkN; rw [hck]; rfl
            rw [hchk] at HCK
            clear hchk
            go_wp2_with fail
            have HDX := Lib.hid (HD1.out (.cells #[.int .i64 k0, .int .i64 n0, .string s0, .int .i64 a0, .int .i64 m0] 50))
            refine (HCK.out _ (HE.out _ HDX.out.2)).mono ?_
            rintro e w2 ⟨rfl, hb2⟩
            have HR2 := Lib.hid (HDX.out.1.below hb2)
            have HK2 := Lib.hid (HDX.out.2.trans (.of_below hb2))
            have hx : ∀ j v, (#[.int .i64 k0, .int .i64 n0, .string s0, .int .i64 a0, .int .i64 m0] : Array Value)[j]? = some v → w2.cell? ⟨wr.heap.size, j, none⟩ = some v := fun j v hv => (hb2.cell (p := ⟨wr.heap.size, j, none⟩) (by simp)).trans (by
              have := heap_alloc_new (wr.setCell ⟨rb, 1, none⟩ (.int .i64 (k : Int))) (.cells #[.int .i64 k0, .int .i64 n0, .string s0, .int .i64 a0, .int .i64 m0] 50)
              rw [World.size_setCell] at this
              rw [fcell_at this]; exact hv)
            have b0 : w2.cell? ⟨wr.heap.size, 0, none⟩ = some (.int .i64 k0) := hx 0 _ rfl
            have b1 : w2.cell? ⟨wr.heap.size, 1, none⟩ = some (.int .i64 n0) := hx 1 _ rfl
            have b2 : w2.cell? ⟨wr.heap.size, 2, none⟩ = some (.string s0) := hx 2 _ rfl
            have b3 : w2.cell? ⟨wr.heap.size, 3, none⟩ = some (.int .i64 a0) := hx 3 _ rfl
            have b4 : w2.cell? ⟨wr.heap.size, 4, none⟩ = some (.int .i64 m0) := hx 4 _ rfl
            have hbz : wr.heap.size < w2.heap.size := by have := hb2.size; simp at this; omega
            have d2 := HR2.out.c2
            clear hx hb2 HDX HCK HD1 e0 e1 e2 e3 e4 r1 f1 HTS
            clear hck
            go_wp2_with fail
            refine (HOP.out _ HR2.out).mono ?_
            rintro e w3 ⟨rfl, hb3⟩
            have HR3 := Lib.hid (HR2.out.below hb3)
            have HK3 := Lib.hid (HK2.out.trans (.of_below hb3))
            replace b0 : w3.cell? ⟨wr.heap.size, 0, none⟩ = some (.int .i64 k0) := (hb3.cell (p := ⟨wr.heap.size, 0, none⟩) hbz).trans b0
            replace b1 : w3.cell? ⟨wr.heap.size, 1, none⟩ = some (.int .i64 n0) := (hb3.cell (p := ⟨wr.heap.size, 1, none⟩) hbz).trans b1
            replace b2 : w3.cell? ⟨wr.heap.size, 2, none⟩ = some (.string s0) := (hb3.cell (p := ⟨wr.heap.size, 2, none⟩) hbz).trans b2
            replace b3 : w3.cell? ⟨wr.heap.size, 3, none⟩ = some (.int .i64 a0) := (hb3.cell (p := ⟨wr.heap.size, 3, none⟩) hbz).trans b3
            replace b4 : w3.cell? ⟨wr.heap.size, 4, none⟩ = some (.int .i64 m0) := (hb3.cell (p := ⟨wr.heap.size, 4, none⟩) hbz).trans b4
            replace hbz : wr.heap.size < w3.heap.size := by have := hb3.size; omega
            clear hb3 d2 HOP
            go_wp2_with fail
            (with_reducible refine (HCLS.out w3 _ rfl).mono ?_)
            rintro e w4 ⟨rfl, rfl⟩
            have HR4 := Lib.hid (HR3.out.below ((Below.refl _ _).alloc (Nat.le_refl _) (.cells #[.string ⟨#[41]⟩, .string ⟨#[93]⟩, .string ⟨#[125]⟩, .string ⟨#[101, 110, 100]⟩] 9)))
            have HK4 := Lib.hid (HK3.out.alloc (.cells #[.string ⟨#[41]⟩, .string ⟨#[93]⟩, .string ⟨#[125]⟩, .string ⟨#[101, 110, 100]⟩] 9))
            replace b0 := fun O => box_cell w3 O b0 hbz
            replace b1 := fun O => box_cell w3 O b1 hbz
            replace b2 := fun O => box_cell w3 O b2 hbz
            replace b3 := fun O => box_cell w3 O b3 hbz
            replace b4 := fun O => box_cell w3 O b4 hbz
            clear HCLS
            go_wp2_with fail
            refine (end_any HR4.out HOK.out (k0, n0, s0, a0, m0) hlt (by omega) (fun gg hgg => by have := HKL.out.2 gg hgg; omega) (fun e => hst (.inl e)) (Decidable.byContradiction fun e => hst (.inr e))).mono ?_
            rintro e w5 ⟨rfl, hk5, hr5⟩
            have HR5 := Lib.hid hr5
            have HK5 := Lib.hid (HK4.out.trans hk5)
            clear hk5 hr5
            go_wp2_with fail
            exact ⟨⟨k + 1, by simp, Lib.hid (HN.out _ HR5.out HK5.out)⟩, by simp only [intOf]; omega⟩
        · have hlt2 : ¬ (k : Int) < (s.beh : Int) := by omega
          have hmem : decide (s0 ∈ closers) = false := by exact decide_eq_false hcl
          have HCLS : Hid (∀ (w' : World) (b : Nat), b = w'.heap.size → Calls Tryz.prog 61 #[.string s0, .slice (some ⟨b, 0, none⟩) 4 4] (w'.alloc (.cells #[.string ⟨#[41]⟩, .string ⟨#[93]⟩, .string ⟨#[125]⟩, .string ⟨#[101, 110, 100]⟩] 9)) fun e w'' => e = .returned (.bool false) ∧ (w'.alloc (.cells #[.string ⟨#[41]⟩, .string ⟨#[93]⟩, .string ⟨#[125]⟩, .string ⟨#[101, 110, 100]⟩] 9)) = w'') := Lib.hid fun w' b hb => by
            have := closers_new w' s0 b hb
            rw [hmem] at this
            exact this
          have HOP : Hid (∀ w', Rdr l (.slice (some ⟨g, o, none⟩) l.length tc) ws base rb mb k s w' → Calls Tryz.prog 67 #[.pointer (some ⟨rb, 0, none⟩), .agg #[.int .i64 k0, .int .i64 n0, .string s0, .int .i64 a0, .int .i64 m0]] w' fun e w'' => e = .returned (.bool false) ∧ Below w'.heap.size w' w'') := Lib.hid fun w' h => by
            have := opens_any h (k0, n0, s0, a0, m0) (by omega) (by omega)
            rw [hop] at this
            exact this
          have hact : actM ws l k (k0, n0, s0, a0, m0) s = .put := by unfold actM; rw [if_neg hsk, hop]; simp only [Bool.false_eq_true, if_false]; exact if_neg hcl
          have HN := Lib.hid (RL.next (tv := (.slice (some ⟨g, o, none⟩) l.length tc)) (base := base) (rb := rb) (mb := mb) (W := W) (s' := ⟨s.pre, s.top.add (.mk (k0, n0, s0, a0, m0) sNo []), s.beh⟩) (by unfold stepM; rw [hck, if_pos rfl, hact]) HOK.out HKL.out HRUN.out hlt)
          clear HRUN hact hop hcl hmem HOK
          have hchk : chkN (k0, n0, s0, a0, m0) = 0 := by unfold chkN; rw [hck]; rfl
          rw [hchk] at HCK
          clear hchk
          go_wp2_with fail
          have HDX := Lib.hid (HD1.out (.cells #[.int .i64 k0, .int .i64 n0, .string s0, .int .i64 a0, .int .i64 m0] 50))
          refine (HCK.out _ (HE.out _ HDX.out.2)).mono ?_
          rintro e w2 ⟨rfl, hb2⟩
          have HR2 := Lib.hid (HDX.out.1.below hb2)
          have HK2 := Lib.hid (HDX.out.2.trans (.of_below hb2))
          have hx : ∀ j v, (#[.int .i64 k0, .int .i64 n0, .string s0, .int .i64 a0, .int .i64 m0] : Array Value)[j]? = some v → w2.cell? ⟨wr.heap.size, j, none⟩ = some v := fun j v hv => (hb2.cell (p := ⟨wr.heap.size, j, none⟩) (by simp)).trans (by
            have := heap_alloc_new (wr.setCell ⟨rb, 1, none⟩ (.int .i64 (k : Int))) (.cells #[.int .i64 k0, .int .i64 n0, .string s0, .int .i64 a0, .int .i64 m0] 50)
            rw [World.size_setCell] at this
            rw [fcell_at this]; exact hv)
          have b0 : w2.cell? ⟨wr.heap.size, 0, none⟩ = some (.int .i64 k0) := hx 0 _ rfl
          have b1 : w2.cell? ⟨wr.heap.size, 1, none⟩ = some (.int .i64 n0) := hx 1 _ rfl
          have b2 : w2.cell? ⟨wr.heap.size, 2, none⟩ = some (.string s0) := hx 2 _ rfl
          have b3 : w2.cell? ⟨wr.heap.size, 3, none⟩ = some (.int .i64 a0) := hx 3 _ rfl
          have b4 : w2.cell? ⟨wr.heap.size, 4, none⟩ = some (.int .i64 m0) := hx 4 _ rfl
          have hbz : wr.heap.size < w2.heap.size := by have := hb2.size; simp at this; omega
          have d2 := HR2.out.c2
          clear hx hb2 HDX HCK HD1 e0 e1 e2 e3 e4 r1 f1 HTS
          clear hck
          go_wp2_with fail
          refine (HOP.out _ HR2.out).mono ?_
          rintro e w3 ⟨rfl, hb3⟩
          have HR3 := Lib.hid (HR2.out.below hb3)
          have HK3 := Lib.hid (HK2.out.trans (.of_below hb3))
          replace b0 : w3.cell? ⟨wr.heap.size, 0, none⟩ = some (.int .i64 k0) := (hb3.cell (p := ⟨wr.heap.size, 0, none⟩) hbz).trans b0
          replace b1 : w3.cell? ⟨wr.heap.size, 1, none⟩ = some (.int .i64 n0) := (hb3.cell (p := ⟨wr.heap.size, 1, none⟩) hbz).trans b1
          replace b2 : w3.cell? ⟨wr.heap.size, 2, none⟩ = some (.string s0) := (hb3.cell (p := ⟨wr.heap.size, 2, none⟩) hbz).trans b2
          replace b3 : w3.cell? ⟨wr.heap.size, 3, none⟩ = some (.int .i64 a0) := (hb3.cell (p := ⟨wr.heap.size, 3, none⟩) hbz).trans b3
          replace b4 : w3.cell? ⟨wr.heap.size, 4, none⟩ = some (.int .i64 m0) := (hb3.cell (p := ⟨wr.heap.size, 4, none⟩) hbz).trans b4
          replace hbz : wr.heap.size < w3.heap.size := by have := hb3.size; omega
          clear hb3 d2 HOP
          go_wp2_with fail
          (with_reducible refine (HCLS.out w3 _ rfl).mono ?_)
          rintro e w4 ⟨rfl, rfl⟩
          have HR4 := Lib.hid (HR3.out.below ((Below.refl _ _).alloc (Nat.le_refl _) (.cells #[.string ⟨#[41]⟩, .string ⟨#[93]⟩, .string ⟨#[125]⟩, .string ⟨#[101, 110, 100]⟩] 9)))
          have HK4 := Lib.hid (HK3.out.alloc (.cells #[.string ⟨#[41]⟩, .string ⟨#[93]⟩, .string ⟨#[125]⟩, .string ⟨#[101, 110, 100]⟩] 9))
          replace b0 := fun O => box_cell w3 O b0 hbz
          replace b1 := fun O => box_cell w3 O b1 hbz
          replace b2 := fun O => box_cell w3 O b2 hbz
          replace b3 := fun O => box_cell w3 O b3 hbz
          replace b4 := fun O => box_cell w3 O b4 hbz
          clear HCLS
          go_wp2_with fail
          refine (put_any HR4.out (k0, n0, s0, a0, m0) (by omega) (by have := HKL.out.1; omega)).mono ?_
          rintro e w5 ⟨rfl, hk5, hr5⟩
          have HR5 := Lib.hid hr5
          have HK5 := Lib.hid (HK4.out.trans hk5)
          clear hk5 hr5
          go_wp2_with fail
          exact ⟨⟨k + 1, by simp, Lib.hid (HN.out _ HR5.out HK5.out)⟩, by simp only [intOf]; omega⟩
      · by_cases hdp : 100 < s.pre.length + 1
        · have hact : actM ws l k (k0, n0, s0, a0, m0) s = .opn := by unfold actM; rw [if_neg hsk, if_pos hop]
          have hlt2 : ¬ (k : Int) < (s.beh : Int) := by omega
          have HOP : Hid (∀ w', Rdr l (.slice (some ⟨g, o, none⟩) l.length tc) ws base rb mb k s w' → Calls Tryz.prog 67 #[.pointer (some ⟨rb, 0, none⟩), .agg #[.int .i64 k0, .int .i64 n0, .string s0, .int .i64 a0, .int .i64 m0]] w' fun e w'' => e = .returned (.bool true) ∧ Below w'.heap.size w' w'') := Lib.hid fun w' h => by
            have := opens_any h (k0, n0, s0, a0, m0) (by omega) (by omega)
            rw [hop] at this
            exact this
          have HRE := Lib.hid (RL.fail (p := (k, 6)) (by unfold stepM; rw [hck, if_pos rfl, hact]; exact if_pos hdp) HRUN.out)
          clear HRUN hact HOK HKL hop
          have hchk : chkN (k0, n0, s0, a0, m0) = 0 := by unfold chkN; rw [hck]; rfl
          rw [hchk] at HCK
          clear hchk
          go_wp2_with fail
          have HDX := Lib.hid (HD1.out (.cells #[.int .i64 k0, .int .i64 n0, .string s0, .int .i64 a0, .int .i64 m0] 50))
          refine (HCK.out _ (HE.out _ HDX.out.2)).mono ?_
          rintro e w2 ⟨rfl, hb2⟩
          have HR2 := Lib.hid (HDX.out.1.below hb2)
          have HK2 := Lib.hid (HDX.out.2.trans (.of_below hb2))
          have hx : ∀ j v, (#[.int .i64 k0, .int .i64 n0, .string s0, .int .i64 a0, .int .i64 m0] : Array Value)[j]? = some v → w2.cell? ⟨wr.heap.size, j, none⟩ = some v := fun j v hv => (hb2.cell (p := ⟨wr.heap.size, j, none⟩) (by simp)).trans (by
            have := heap_alloc_new (wr.setCell ⟨rb, 1, none⟩ (.int .i64 (k : Int))) (.cells #[.int .i64 k0, .int .i64 n0, .string s0, .int .i64 a0, .int .i64 m0] 50)
            rw [World.size_setCell] at this
            rw [fcell_at this]; exact hv)
          have b0 : w2.cell? ⟨wr.heap.size, 0, none⟩ = some (.int .i64 k0) := hx 0 _ rfl
          have b1 : w2.cell? ⟨wr.heap.size, 1, none⟩ = some (.int .i64 n0) := hx 1 _ rfl
          have b2 : w2.cell? ⟨wr.heap.size, 2, none⟩ = some (.string s0) := hx 2 _ rfl
          have b3 : w2.cell? ⟨wr.heap.size, 3, none⟩ = some (.int .i64 a0) := hx 3 _ rfl
          have b4 : w2.cell? ⟨wr.heap.size, 4, none⟩ = some (.int .i64 m0) := hx 4 _ rfl
          have hbz : wr.heap.size < w2.heap.size := by have := hb2.size; simp at this; omega
          have d2 := HR2.out.c2
          clear hx hb2 HDX HCK HD1 e0 e1 e2 e3 e4 r1 f1 HTS
          clear hck
          go_wp2_with fail
          refine (HOP.out _ HR2.out).mono ?_
          rintro e w3 ⟨rfl, hb3⟩
          have HR3 := Lib.hid (HR2.out.below hb3)
          have HK3 := Lib.hid (HK2.out.trans (.of_below hb3))
          replace b0 : w3.cell? ⟨wr.heap.size, 0, none⟩ = some (.int .i64 k0) := (hb3.cell (p := ⟨wr.heap.size, 0, none⟩) hbz).trans b0
          replace b1 : w3.cell? ⟨wr.heap.size, 1, none⟩ = some (.int .i64 n0) := (hb3.cell (p := ⟨wr.heap.size, 1, none⟩) hbz).trans b1
          replace b2 : w3.cell? ⟨wr.heap.size, 2, none⟩ = some (.string s0) := (hb3.cell (p := ⟨wr.heap.size, 2, none⟩) hbz).trans b2
          replace b3 : w3.cell? ⟨wr.heap.size, 3, none⟩ = some (.int .i64 a0) := (hb3.cell (p := ⟨wr.heap.size, 3, none⟩) hbz).trans b3
          replace b4 : w3.cell? ⟨wr.heap.size, 4, none⟩ = some (.int .i64 m0) := (hb3.cell (p := ⟨wr.heap.size, 4, none⟩) hbz).trans b4
          replace hbz : wr.heap.size < w3.heap.size := by have := hb3.size; omega
          clear hb3 d2 HOP
          go_wp2_with fail
          refine (begin_bad HR3.out (k0, n0, s0, a0, m0) hdp).mono ?_
          rintro e w4 ⟨rfl, hb4⟩
          have HK4 := Lib.hid (HK3.out.trans (.of_below hb4))
          clear hb4
          go_wp2_with fail
          exact ⟨rfl, ReadEnd.bad HRE.out HK4.out⟩
        · have hact : actM ws l k (k0, n0, s0, a0, m0) s = .opn := by unfold actM; rw [if_neg hsk, if_pos hop]
          have hlt2 : ¬ (k : Int) < (s.beh : Int) := by omega
          have HOP : Hid (∀ w', Rdr l (.slice (some ⟨g, o, none⟩) l.length tc) ws base rb mb k s w' → Calls Tryz.prog 67 #[.pointer (some ⟨rb, 0, none⟩), .agg #[.int .i64 k0, .int .i64 n0, .string s0, .int .i64 a0, .int .i64 m0]] w' fun e w'' => e = .returned (.bool true) ∧ Below w'.heap.size w' w'') := Lib.hid fun w' h => by
            have := opens_any h (k0, n0, s0, a0, m0) (by omega) (by omega)
            rw [hop] at this
            exact this
          have HN := Lib.hid (RL.next (tv := (.slice (some ⟨g, o, none⟩) l.length tc)) (base := base) (rb := rb) (mb := mb) (W := W) (s' := ⟨s.pre ++ [s.top], ⟨(k0, n0, s0, a0, m0), s0, [], k⟩, s.beh⟩) (by unfold stepM; rw [hck, if_pos rfl, hact]; exact if_neg hdp) HOK.out HKL.out HRUN.out hlt)
          clear HRUN hact HOK HKL hop
          have hchk : chkN (k0, n0, s0, a0, m0) = 0 := by unfold chkN; rw [hck]; rfl
          rw [hchk] at HCK
          clear hchk
          go_wp2_with fail
          have HDX := Lib.hid (HD1.out (.cells #[.int .i64 k0, .int .i64 n0, .string s0, .int .i64 a0, .int .i64 m0] 50))
          refine (HCK.out _ (HE.out _ HDX.out.2)).mono ?_
          rintro e w2 ⟨rfl, hb2⟩
          have HR2 := Lib.hid (HDX.out.1.below hb2)
          have HK2 := Lib.hid (HDX.out.2.trans (.of_below hb2))
          have hx : ∀ j v, (#[.int .i64 k0, .int .i64 n0, .string s0, .int .i64 a0, .int .i64 m0] : Array Value)[j]? = some v → w2.cell? ⟨wr.heap.size, j, none⟩ = some v := fun j v hv => (hb2.cell (p := ⟨wr.heap.size, j, none⟩) (by simp)).trans (by
            have := heap_alloc_new (wr.setCell ⟨rb, 1, none⟩ (.int .i64 (k : Int))) (.cells #[.int .i64 k0, .int .i64 n0, .string s0, .int .i64 a0, .int .i64 m0] 50)
            rw [World.size_setCell] at this
            rw [fcell_at this]; exact hv)
          have b0 : w2.cell? ⟨wr.heap.size, 0, none⟩ = some (.int .i64 k0) := hx 0 _ rfl
          have b1 : w2.cell? ⟨wr.heap.size, 1, none⟩ = some (.int .i64 n0) := hx 1 _ rfl
          have b2 : w2.cell? ⟨wr.heap.size, 2, none⟩ = some (.string s0) := hx 2 _ rfl
          have b3 : w2.cell? ⟨wr.heap.size, 3, none⟩ = some (.int .i64 a0) := hx 3 _ rfl
          have b4 : w2.cell? ⟨wr.heap.size, 4, none⟩ = some (.int .i64 m0) := hx 4 _ rfl
          have hbz : wr.heap.size < w2.heap.size := by have := hb2.size; simp at this; omega
          have d2 := HR2.out.c2
          clear hx hb2 HDX HCK HD1 e0 e1 e2 e3 e4 r1 f1 HTS
          clear hck
          go_wp2_with fail
          refine (HOP.out _ HR2.out).mono ?_
          rintro e w3 ⟨rfl, hb3⟩
          have HR3 := Lib.hid (HR2.out.below hb3)
          have HK3 := Lib.hid (HK2.out.trans (.of_below hb3))
          replace b0 : w3.cell? ⟨wr.heap.size, 0, none⟩ = some (.int .i64 k0) := (hb3.cell (p := ⟨wr.heap.size, 0, none⟩) hbz).trans b0
          replace b1 : w3.cell? ⟨wr.heap.size, 1, none⟩ = some (.int .i64 n0) := (hb3.cell (p := ⟨wr.heap.size, 1, none⟩) hbz).trans b1
          replace b2 : w3.cell? ⟨wr.heap.size, 2, none⟩ = some (.string s0) := (hb3.cell (p := ⟨wr.heap.size, 2, none⟩) hbz).trans b2
          replace b3 : w3.cell? ⟨wr.heap.size, 3, none⟩ = some (.int .i64 a0) := (hb3.cell (p := ⟨wr.heap.size, 3, none⟩) hbz).trans b3
          replace b4 : w3.cell? ⟨wr.heap.size, 4, none⟩ = some (.int .i64 m0) := (hb3.cell (p := ⟨wr.heap.size, 4, none⟩) hbz).trans b4
          replace hbz : wr.heap.size < w3.heap.size := by have := hb3.size; omega
          clear hb3 d2 HOP
          go_wp2_with fail
          refine (begin_any HR3.out (k0, n0, s0, a0, m0) hdp).mono ?_
          rintro e w4 ⟨rfl, hk4, hr4⟩
          have HR4 := Lib.hid hr4
          have HK4 := Lib.hid (HK3.out.trans hk4)
          clear hk4 hr4
          go_wp2_with fail
          exact ⟨⟨k + 1, by simp, Lib.hid (HN.out _ HR4.out HK4.out)⟩, by simp only [intOf]; omega⟩
    · have hl' : ((k : Int) < (l.length : Int)) = False := by simp; omega
      rw [run_done hlt] at hrun
      obtain ⟨ob, cap, kp, kt, h3, ho⟩ := hd.op
      have r1 := hd.st.c1
      have f1 := hd.st.fr 1
      by_cases hp : s.pre = []
      · rw [if_pos hp] at hrun
        have hkp : kp = [] := by
          have hl := ho.len
          rw [hp] at hl
          simp at hl
          exact hl
        rw [hp] at h3 ho
        subst hkp
        have hfv := (ho.kids 0 s.top kt (by simp) (by simp)).val (P' := fun b => base ≤ b) (fun b hb => hb.1) (fun b hb => ((ho.kids 0 s.top kt (by simp) (by simp)).lt hb).1)
        obtain ⟨ka, kc, rfl, _⟩ := id hfv
        have g6 : wr.cell? ⟨ob, 6, none⟩ = some (.slice ka s.top.kids.length kc) := by
          have := ho.cellG (pre := []) (kp := []) (j := 6) rfl
          simpa using this
        have hfin : Hid (ReadEnd base rb R W (.returned (.slice ka s.top.kids.length kc)) wr) := Lib.hid ⟨HKP.out, .inr ⟨s.top.kids, _, hrun.symm, rfl, hfv⟩⟩
        simp only [List.length_nil, Nat.zero_add] at h3
        clear hrun ho hd hfv hp hok hkl HE HTS
        go_wp2_with fail
        exact bodyPost_ret (v := .slice ka s.top.kids.length kc) (by simp [results, Tryz.results42, go_sem]) rfl hfin.out
      · rw [if_neg hp] at hrun
        have hpl : 0 < s.pre.length := List.length_pos_iff.2 hp
        obtain ⟨n, hn⟩ : ∃ n, n = s.pre.length := ⟨_, rfl⟩
        have g7 : wr.cell? ⟨ob, s.pre.length * 8 + 7, none⟩ = some (.int .i64 (s.top.pl : Int)) := ho.cellG (j := 7) rfl
        have HI := Lib.hid (innermost_any rb ob s.pre.length cap (by omega) wr h3)
        have hob := ho.oblt
        have hnr : ¬ ob = rb := by have := hd.st.rlt; omega
        have HF : Hid (∀ q, KeepS (fun b => b = rb ∨ Bs base b) W ((wr.drewN q).setCell ⟨rb, 1, none⟩ (.int .i64 (s.top.pl : Int)))) := Lib.hid fun q => (HKP.out.drew q).setCell (.inl rfl) _ _
        have HRF : Hid (∀ q, Calls Tryz.prog 66 #[.pointer (some ⟨rb, 0, none⟩), .int .i64 21] ((wr.drewN q).setCell ⟨rb, 1, none⟩ (.int .i64 (s.top.pl : Int))) fun e w' => e = .panicked [{ v := .iface 63 (.agg #[.int .i64 (s.top.pl : Int), .int .i64 21]), recovered := false }] ∧ ((wr.drewN q).setCell ⟨rb, 1, none⟩ (.int .i64 (s.top.pl : Int))) = w') := Lib.hid fun q =>
          frefuse_any' rb s.top.pl 21 _ (World.cell?_setCell_same' _ _ _ (by rw [show (wr.drewN q).cell? ⟨rb, 1, none⟩ = some _ from r1]; rfl))
        have HRE := Lib.hid hrun.symm
        rw [← hn] at h3 g7 HI hpl
        have q1 : (1 : Int) < ((n + 1 : Nat) : Int) := by omega
        have q2 : (1 : Int) < (n : Int) + 1 := by omega
        clear hrun ho hd hp hok hkl HE HTS hn hdeep
        go_wp2_with fail
        refine HI.out.mono ?_
        rintro e w1 ⟨rfl, q, rfl⟩
        go_wp2_with fail
        refine (HRF.out q).mono ?_
        rintro e w1 ⟨rfl, rfl⟩
        go_wp2_with fail
        exact ⟨rfl, ReadEnd.bad HRE.out (HF.out q)⟩
end

end Go.Proofs.YtafncodigpjkaaaGreatDoor
