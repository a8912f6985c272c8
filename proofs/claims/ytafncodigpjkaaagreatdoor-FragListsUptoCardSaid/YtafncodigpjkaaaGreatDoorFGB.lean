/-
  The walk over the tokens of fragments.
  The size of fragments.
-/
import Derived.Test.YtafncodigpjkaaaGreatDoorFGA
import Derived.Test.YtafncodigpjkaaaGreatDoorXG
import Derived.Test.YtafncodigpjkaaaGreatDoorXB
namespace Go.Proofs.YtafncodigpjkaaaGreatDoor
section
open Go.RowKit Go.Shelf

def tokL (F : List Fg → List Tkn) (z : Bool) : List Fg → List Tkn
  | [] => []
  | x :: r => (if x.opn = sNo then [x.tok] else if z then [] else x.tok :: (F x.kids ++ [closeTok x])) ++ tokL F z r
def tokM : Nat → List Fg → List Tkn
  | 0, l => tokL (fun _ => []) true l
  | m + 1, l => tokL (tokM m) false l
theorem tokL_snoc {F : List Fg → List Tkn} {z : Bool} {l : List Fg} {k : Nat} {x : Fg} (h : l[k]? = some x) : tokL F z (l.take (k + 1)) = tokL F z (l.take k) ++ (if x.opn = sNo then [x.tok] else if z then [] else x.tok :: (F x.kids ++ [closeTok x])) := by
  have hk := (List.getElem?_eq_some_iff.1 h).1
  have e : l.take (k + 1) = l.take k ++ [x] := by rw [List.take_add_one, h]; rfl
  rw [e]
  generalize l.take k = p
  induction p with
  | nil => simp [tokL]
  | cons y r ih => rw [List.cons_append]; unfold tokL; rw [ih, List.append_assoc]
theorem tokL_append (F : List Fg → List Tkn) (z : Bool) : ∀ (a b : List Fg), tokL F z (a ++ b) = tokL F z a ++ tokL F z b
  | [], b => rfl
  | x :: r, b => by
    show (if x.opn = sNo then [x.tok] else if z then [] else x.tok :: (F x.kids ++ [closeTok x])) ++ tokL F z (r ++ b) = ((if x.opn = sNo then [x.tok] else if z then [] else x.tok :: (F x.kids ++ [closeTok x])) ++ tokL F z r) ++ tokL F z b
    rw [tokL_append F z r b, List.append_assoc]
theorem tokL_take (F : List Fg → List Tkn) (z : Bool) (l : List Fg) (k : Nat) : tokL F z (l.take k) <+: tokL F z l := by
  have e := tokL_append F z (l.take k) (l.drop k)
  rw [List.take_append_drop] at e
  exact ⟨_, e.symm⟩
/-- What a body keeps: Q are the blocks that it may write. -/
structure Kp (Q Q' : Nat → Prop) (w w' : World) : Prop where
  size : w.heap.size ≤ w'.heap.size
  same : ∀ b, b < w.heap.size → ¬ Q b → w'.heap[b]? = w.heap[b]?
  more : ∀ b, Q' b → Q b ∨ w.heap.size ≤ b
theorem Kp.refl (Q : Nat → Prop) (w : World) : Kp Q Q w w := ⟨Nat.le_refl _, fun _ _ _ => rfl, fun _ h => .inl h⟩
theorem Kp.trans {Q Q' Q'' : Nat → Prop} {a b c : World} (h : Kp Q Q' a b) (k : Kp Q' Q'' b c) : Kp Q Q'' a c :=
  ⟨Nat.le_trans h.size k.size, fun n hn hq => (k.same n (by have := h.size; omega) fun hq' => (h.more n hq').elim hq (by omega)).trans (h.same n hn hq),
    fun n hn => (k.more n hn).elim (h.more n) fun hs => .inr (by have := h.size; omega)⟩
theorem Kp.of_below {Q : Nat → Prop} {w w' : World} (h : Below w.heap.size w w') : Kp Q Q w w' := ⟨h.size, fun b hb _ => h.block b hb, fun _ h => .inl h⟩
theorem Kp.val {Q Q' P : Nat → Prop} {w w' : World} {v : Value} {l : List Fg} (h : Kp Q Q' w w') (hP : ∀ b, P b → b < w.heap.size ∧ ¬ Q b) (hv : FVal w P v l) : FVal w' P v l :=
  hv.keep (fun b p z => ⟨p, h.same b z (hP b p).2⟩) h.size
theorem Kp.apart {Q Q' P : Nat → Prop} {w w' : World} (h : Kp Q Q' w w') (hP : ∀ b, P b → b < w.heap.size ∧ ¬ Q b) : ∀ b, P b → b < w'.heap.size ∧ ¬ Q' b := fun b p =>
  ⟨by have := (hP b p).1; have := h.size; omega, fun hq => (h.more b hq).elim (hP b p).2 (by have := (hP b p).1; omega)⟩
/-- What the body's invariant owes. -/
structure BodyOk (J : (Nat → Prop) → List Tkn → World → Prop) : Prop where
  below : ∀ Q pre w w', J Q pre w → Below w.heap.size w w' → J Q pre w'
  blocks : ∀ Q pre w, J Q pre w → ∀ b, Q b → b < w.heap.size
/-- How the walk ends. -/
def WalkPost (J : (Nat → Prop) → List Tkn → World → Prop) (Stop : List Tkn → World → Prop) (Q : Nat → Prop) (l : List Tkn) (W : World) (e : Ending) (w' : World) : Prop :=
  (e = .returned (.bool true) ∧ ∃ Q', J Q' l w' ∧ Kp Q Q' W w') ∨ (e = .returned (.bool false) ∧ ∃ p, p <+: l ∧ Stop p w')
structure WkLoop (J : (Nat → Prop) → List Tkn → World → Prop) (F : List Fg → List Tkn) (z : Bool) (l : List Fg) (Q : Nat → Prop) (pre : List Tkn) (W : World) (k : Nat) (wr : World) : Prop where
  hk : k ≤ l.length
  st : ∃ Q', J Q' (pre ++ tokL F z (l.take k)) wr ∧ Kp Q Q' W wr
set_option maxRecDepth 100000 in
set_option maxHeartbeats 8000000 in
theorem walk_run (n lp : Nat) (J : (Nat → Prop) → List Tkn → World → Prop) (Stop : List Tkn → World → Prop) (hJ : BodyOk J)
    (LL : List Tkn) (hY : ∀ n Q pre t w, pre ++ [t] <+: LL → J Q pre w → YieldAt Fence.wide n Tryz.prog lp #[.agg (tkL t).toArray] w (WalkPost J Stop Q (pre ++ [t]) w))
    (F : List Fg → List Tkn) (m : Nat) (hm : m ≤ 100) (z : Bool) (hz : z = true ↔ m = 0) (P : Nat → Prop) (l : List Fg) (v : Value) (Q : Nat → Prop) (pre : List Tkn) (W : World) (hv : FVal W P v l) (hP : ∀ b, P b → b < W.heap.size ∧ ¬ Q b) (hj : J Q pre W) (hX : pre ++ tokL F z l <+: LL) (hl : l.length ≤ 140737488351232) (hle : FgsLe 140737488351232 l)
    (HC : 0 < m → ∀ (n : Nat) (ks : List Fg) (kv : Value) (Q : Nat → Prop) (pre : List Tkn) (w : World), pre ++ F ks <+: LL → FVal w P kv ks → (∀ b, P b → b < w.heap.size ∧ ¬ Q b) → J Q pre w → ks.length ≤ 140737488351232 → FgsLe 140737488351232 ks → CallsIn Fence.wide n Tryz.prog 82 #[kv, .int .i64 ((m : Int) - 1), .func (.yield lp) #[] #[]] w (WalkPost J Stop Q (pre ++ F ks) w)) :
    CallsIn Fence.wide n Tryz.prog 82 #[v, .int .i64 (m : Int), .func (.yield lp) #[] #[]] W (WalkPost J Stop Q (pre ++ tokL F z l) W) := by
  obtain ⟨b, c, rfl, hrow⟩ := hv
  have w4' : IntKind.i64.wrap ((m : Int) - 1) = (m : Int) - 1 := IntWalk.i64_in _ (by omega)
  have HCC := Lib.hid HC
  have HZ := Lib.hid hz
  have HR := Lib.hid hrow
  have HLE := Lib.hid hle
  have HJ := Lib.hid hJ
  have HY := Lib.hid hY
  have HP := Lib.hid hP
  have HJ0 := Lib.hid hj
  have HXX := Lib.hid hX
  clear HC hrow hle hJ hY hP hj hz hX
  refine callsIn_of_wp Tryz.func82 rfl trivial ?_
  simp only [Tryz.ntmps82, List.size_toArray, List.length_cons, List.length_nil, Nat.reduceAdd, Nat.reduceSub, Array.replicate_succ,
     Array.replicate_zero, List.push_toArray, List.append_toArray, List.nil_append, List.cons_append]
  gi_wp2_with fail
  gi_loopw [12] (fun iv wr => ∃ k : Nat, iv = .int .i64 (k : Int) ∧ Hid (WkLoop J F z l Q pre W k wr)) (fun iv _ => l.length - (intOf iv).toNat)
  case atStart => exact ⟨0, rfl, Lib.hid ⟨by omega, Q, by rw [List.take_zero]; simpa [tokL] using HJ0.out, Kp.refl _ _⟩⟩
  case round =>
    obtain ⟨k, rfl, hr⟩ := hrel
    have w3' : IntKind.i64.wrap ((k : Int) + 1) = (k : Int) + 1 := IntWalk.i64_in _ (by have := hr.out.hk; omega)
    by_cases hlt : k < l.length
    · obtain ⟨x, hx⟩ : ∃ x, l[k]? = some x := ⟨_, List.getElem?_eq_getElem hlt⟩
      obtain ⟨hk, Q1, hj1, hkp⟩ := hr.out
      obtain ⟨g, o, rfl, hp, hg, hrw⟩ := HR.out (by rintro rfl; simp at hlt)
      obtain ⟨kv, hcell, ka, kc, rfl, hkr⟩ := (hrw.get hx).parts
      have hsn := tokL_snoc (F := F) (z := z) hx
      have hcell' : ∀ j u, (fgV x (.slice ka x.kids.length kc))[j]? = some u → wr.cell? ⟨g, o + k * 7 + j, none⟩ = some u := fun j u hu => (World.cell?_of_block (w := W) (a := ⟨g, o + k * 7 + j, none⟩) (hkp.same g hg (HP.out g hp).2)).trans (hcell j u hu)
      have e0 : wr.cell? ⟨g, o + k * 7, none⟩ = some (.int .i64 x.tok.1) := hcell' 0 _ rfl
      have e1 : wr.cell? ⟨g, o + k * 7 + 1, none⟩ = some (.int .i64 x.tok.2.1) := hcell' 1 _ rfl
      have e2 : wr.cell? ⟨g, o + k * 7 + 2, none⟩ = some (.string x.tok.2.2.1) := hcell' 2 _ rfl
      have e3 : wr.cell? ⟨g, o + k * 7 + 3, none⟩ = some (.int .i64 x.tok.2.2.2.1) := hcell' 3 _ rfl
      have e4 : wr.cell? ⟨g, o + k * 7 + 4, none⟩ = some (.int .i64 x.tok.2.2.2.2) := hcell' 4 _ rfl
      have e5 : wr.cell? ⟨g, o + k * 7 + 5, none⟩ = some (.string x.opn) := hcell' 5 _ rfl
      have e6 : wr.cell? ⟨g, o + k * 7 + 6, none⟩ = some (.slice ka x.kids.length kc) := hcell' 6 _ rfl
      have HPX : Hid (pre ++ tokL F z (l.take (k + 1)) <+: pre ++ tokL F z l) := Lib.hid (List.prefix_append_right_inj pre |>.2 (tokL_take F z l (k + 1)))
      have HPL : Hid (pre ++ tokL F z (l.take (k + 1)) <+: LL) := Lib.hid (HPX.out.trans HXX.out)
      have hlt' : (k : Int) < (l.length : Int) := by omega
      have HLX := Lib.hid (HLE.out.get hx)
      have HKV : Hid (FVal W P (.slice ka x.kids.length kc) x.kids) := Lib.hid ⟨_, _, rfl, hkr⟩
      have HKP := Lib.hid hkp
      have HJ1 := Lib.hid hj1
      have HCL : Hid (∀ W, Calls Tryz.prog 97 #[.agg (fgV x (.slice ka x.kids.length kc)).toArray] W fun e w' => e = .returned (.agg (tkL (closeTok x)).toArray) ∧ Below W.heap.size W w') := Lib.hid fun W => closing_any x (.slice ka x.kids.length kc) W
      have hcs : (x.opn = sNo ∧ tokL F z (l.take (k + 1)) = tokL F z (l.take k) ++ [x.tok]) ∨
          (¬ x.opn = sNo ∧ m = 0 ∧ tokL F z (l.take (k + 1)) = tokL F z (l.take k)) ∨
          (¬ x.opn = sNo ∧ ¬ m = 0 ∧ tokL F z (l.take (k + 1)) = tokL F z (l.take k) ++ x.tok :: (F x.kids ++ [closeTok x])) := by
        rw [hsn]
        by_cases ho : x.opn = sNo
        · exact .inl ⟨ho, by rw [if_pos ho]⟩
        · by_cases hm0 : m = 0
          · exact .inr (.inl ⟨ho, hm0, by rw [if_neg ho, if_pos (HZ.out.2 hm0), List.append_nil]⟩)
          · exact .inr (.inr ⟨ho, hm0, by rw [if_neg ho, if_neg fun h => hm0 (HZ.out.1 h)]⟩)
      generalize closeTok x = ct at hcs HCL
      clear hr hcell hcell' hrw hx hkr hsn hj1 hkp
      obtain ⟨⟨k0, n0, s0, a0, m0⟩, op, ks⟩ := x
      obtain ⟨ck, cn, cs, ca, cm⟩ := ct
      simp only [Fg.tok, Fg.opn, Fg.kids, fgV] at *
      simp only [tkL] at HCL
      have HJB := Lib.hid (HJ.out.below _ _ _ _ HJ1.out ((Below.refl _ wr).alloc (Nat.le_refl _) (.cells #[.int .i64 k0, .int .i64 n0, .string s0, .int .i64 a0, .int .i64 m0, .string op, .slice ka ks.length kc] 52)))
      have HKB := Lib.hid (HKP.out.trans (.of_below ((Below.refl _ wr).alloc (Nat.le_refl _) (.cells #[.int .i64 k0, .int .i64 n0, .string s0, .int .i64 a0, .int .i64 m0, .string op, .slice ka ks.length kc] 52))))
      rcases hcs with ⟨ho, hcs⟩ | ⟨ho, hm0, hcs⟩ | ⟨ho, hm0, hcs⟩
      · have HCS := Lib.hid hcs
        have ho1 := (lit_eq [] ho).1
        have ho2 := (lit_eq [] ho).2
        clear hcs ho
        obtain ⟨fn, tmps, assign, body, hy, hR⟩ := HY.out _ _ _ (k0, n0, s0, a0, m0) _ ((show (pre ++ tokL F z (l.take k)) ++ [((k0, n0, s0, a0, m0) : Tkn)] <+: pre ++ tokL F z (l.take (k + 1)) from ⟨[], by rw [HCS.out]; simp⟩).trans HPL.out) HJB.out
        simp only [tkL] at hy
        have HRD := Lib.hid hR
        clear hR
        gi_wp2_with fail
        refine ⟨fun h => by simp [Fence.wide] at h, ?_⟩
        refine HRD.out.mono ?_
        rintro e w4 (⟨rfl, Q2, hj4, hk4⟩ | ⟨rfl, hstop⟩)
        rotate_left
        · have HST := Lib.hid (hstop.elim fun p h => (⟨p, h.1.trans ((show _ <+: pre ++ tokL F z (l.take (k + 1)) from ⟨[], by rw [HCS.out]; simp⟩).trans HPX.out), h.2⟩ : ∃ p, p <+: pre ++ tokL F z l ∧ Stop p _))
          clear hstop
          gi_wp2_with fail
          exact bodyPost_ret (v := .bool false) (by simp [results, Tryz.results82, go_sem]) rfl (.inr ⟨rfl, HST.out⟩)
        · have HL4 : Hid (WkLoop J F z l Q pre W (k + 1) w4) := Lib.hid ⟨by omega, Q2, by rw [HCS.out, ← List.append_assoc]; exact hj4, HKB.out.trans hk4⟩
          clear hj4 hk4 hy HRD
          gi_wp2_with fail
          refine ⟨trivial, ?_⟩
          gi_wp2_with fail
          all_goals try (exfalso; have hu := ‹some undef = some (Value.bool _)›; simp [undef] at hu; done)
          refine ⟨trivial, ?_⟩
          gi_wp2_with fail
          all_goals try (exfalso; have hu := ‹some undef = some (Value.bool _)›; simp [undef] at hu; done)
          refine ⟨(fun f h => nomatch h), ?_⟩
          gi_wp2_with fail
          all_goals try (exfalso; have hu := ‹some undef = some (Value.bool _)›; simp [undef] at hu; done)
          exact ⟨⟨k + 1, by simp, HL4⟩, by simp only [intOf]; omega⟩
      · have HCS := Lib.hid hcs
        have ho1 := (lit_ne [] ho).1
        have ho2 := (lit_ne [] ho).2
        subst hm0
        clear hcs ho
        gi_wp2_with fail
        exact ⟨⟨k + 1, by simp, Lib.hid ⟨by omega, Q1, by rw [HCS.out]; exact HJB.out, HKB.out⟩⟩, by simp only [intOf]; omega⟩
      · have HCS := Lib.hid hcs
        have ho1 := (lit_ne [] ho).1
        have ho2 := (lit_ne [] ho).2
        have hm0' : ¬ (m : Int) = 0 := by omega
        clear hcs ho
        obtain ⟨fn, tmps, assign, body, hy, hR⟩ := HY.out _ _ _ (k0, n0, s0, a0, m0) _ ((show (pre ++ tokL F z (l.take k)) ++ [((k0, n0, s0, a0, m0) : Tkn)] <+: pre ++ tokL F z (l.take (k + 1)) from ⟨F ks ++ [(ck, cn, cs, ca, cm)], by rw [HCS.out]; simp⟩).trans HPL.out) HJB.out
        simp only [tkL] at hy
        have HRD := Lib.hid hR
        clear hR
        gi_wp2_with fail
        refine ⟨fun h => by simp [Fence.wide] at h, ?_⟩
        refine HRD.out.mono ?_
        rintro e w4 (⟨rfl, Q2, hj4, hk4⟩ | ⟨rfl, hstop⟩)
        rotate_left
        · have HST := Lib.hid (hstop.elim fun p h => (⟨p, h.1.trans ((show _ <+: pre ++ tokL F z (l.take (k + 1)) from ⟨F ks ++ [(ck, cn, cs, ca, cm)], by rw [HCS.out]; simp⟩).trans HPX.out), h.2⟩ : ∃ p, p <+: pre ++ tokL F z l ∧ Stop p _))
          clear hstop
          gi_wp2_with fail
          exact bodyPost_ret (v := .bool false) (by simp [results, Tryz.results82, go_sem]) rfl (.inr ⟨rfl, HST.out⟩)
        · have hbx : w4.heap[wr.heap.size]? = some (.cells #[.int .i64 k0, .int .i64 n0, .string s0, .int .i64 a0, .int .i64 m0, .string op, .slice ka ks.length kc] 52) := (hk4.same _ (by simp) (fun hq => absurd (HJ.out.blocks _ _ _ HJ1.out _ hq) (by omega))).trans (heap_alloc_new wr (.cells #[.int .i64 k0, .int .i64 n0, .string s0, .int .i64 a0, .int .i64 m0, .string op, .slice ka ks.length kc] 52))
          have b0 : w4.cell? ⟨wr.heap.size, 0, none⟩ = some (.int .i64 k0) := by rw [fcell_at hbx]; rfl
          have b1 : w4.cell? ⟨wr.heap.size, 1, none⟩ = some (.int .i64 n0) := by rw [fcell_at hbx]; rfl
          have b2 : w4.cell? ⟨wr.heap.size, 2, none⟩ = some (.string s0) := by rw [fcell_at hbx]; rfl
          have b3 : w4.cell? ⟨wr.heap.size, 3, none⟩ = some (.int .i64 a0) := by rw [fcell_at hbx]; rfl
          have b4 : w4.cell? ⟨wr.heap.size, 4, none⟩ = some (.int .i64 m0) := by rw [fcell_at hbx]; rfl
          have b5 : w4.cell? ⟨wr.heap.size, 5, none⟩ = some (.string op) := by rw [fcell_at hbx]; rfl
          have b6 : w4.cell? ⟨wr.heap.size, 6, none⟩ = some (.slice ka ks.length kc) := by rw [fcell_at hbx]; rfl
          have HK4 := Lib.hid (HKB.out.trans hk4)
          have HK4S : Hid (wr.heap.size < w4.heap.size) := Lib.hid (by have := hk4.size; simp only [World.size_alloc] at this; omega)
          have BNQ : Hid (¬ Q2 wr.heap.size) := Lib.hid fun hq => (hk4.more _ hq).elim (fun h => absurd (HJ.out.blocks _ _ _ HJ1.out _ h) (by omega)) (fun h => by simp only [World.size_alloc] at h; omega)
          have HCK : Hid (CallsIn Fence.wide (n - 1) Tryz.prog 82 #[.slice ka ks.length kc, .int .i64 ((m : Int) - 1), .func (.yield lp) #[] #[]] w4 (WalkPost J Stop Q2 (pre ++ tokL F z (l.take k) ++ [(k0, n0, s0, a0, m0)] ++ F ks) w4)) :=
            Lib.hid (HCC.out (by omega) (n - 1) ks _ Q2 (pre ++ tokL F z (l.take k) ++ [(k0, n0, s0, a0, m0)]) w4 ((show pre ++ tokL F z (l.take k) ++ [((k0, n0, s0, a0, m0) : Tkn)] ++ F ks <+: pre ++ tokL F z (l.take (k + 1)) from ⟨[(ck, cn, cs, ca, cm)], by rw [HCS.out]; simp⟩).trans HPL.out) (HK4.out.val HP.out HKV.out) (HK4.out.apart HP.out) hj4 HLX.out.1 HLX.out.2)
          clear hj4 hk4 hy HRD hbx e0 e1 e2 e3 e4 e5 e6
          gi_wp2_with fail
          refine ⟨trivial, fun h => by simp [Fence.wide] at h, ?_⟩
          refine HCK.out.mono ?_
          rintro e w5 (⟨rfl, Q3, hj5, hk5⟩ | ⟨rfl, hstop⟩)
          rotate_left
          · have HST := Lib.hid (hstop.elim fun p h => (⟨p, h.1.trans ((show _ <+: pre ++ tokL F z (l.take (k + 1)) from ⟨[(ck, cn, cs, ca, cm)], by rw [HCS.out]; simp⟩).trans HPX.out), h.2⟩ : ∃ p, p <+: pre ++ tokL F z l ∧ Stop p _))
            clear hstop
            gi_wp2_with fail
            refine ⟨trivial, ?_⟩
            gi_wp2_with fail
            refine ⟨(fun f h => nomatch h), ?_⟩
            gi_wp2_with fail
            exact bodyPost_ret (v := .bool false) (by simp [results, Tryz.results82, go_sem]) rfl (.inr ⟨rfl, HST.out⟩)
          · have bb : w5.heap[wr.heap.size]? = w4.heap[wr.heap.size]? := hk5.same _ (by have := HK4.out.size; have := HK4S.out; omega) (fun hq => BNQ.out hq)
            have hs5 := hk5.size
            have HJ5 := Lib.hid hj5
            have HK5 := Lib.hid (HK4.out.trans hk5)
            clear hj5 hk5 HCK
            have d0 : w5.cell? ⟨wr.heap.size, 0, none⟩ = some (.int .i64 k0) := (World.cell?_of_block (w := w4) (a := ⟨wr.heap.size, 0, none⟩) bb).trans b0
            have d1 : w5.cell? ⟨wr.heap.size, 1, none⟩ = some (.int .i64 n0) := (World.cell?_of_block (w := w4) (a := ⟨wr.heap.size, 1, none⟩) bb).trans b1
            have d2 : w5.cell? ⟨wr.heap.size, 2, none⟩ = some (.string s0) := (World.cell?_of_block (w := w4) (a := ⟨wr.heap.size, 2, none⟩) bb).trans b2
            have d3 : w5.cell? ⟨wr.heap.size, 3, none⟩ = some (.int .i64 a0) := (World.cell?_of_block (w := w4) (a := ⟨wr.heap.size, 3, none⟩) bb).trans b3
            have d4 : w5.cell? ⟨wr.heap.size, 4, none⟩ = some (.int .i64 m0) := (World.cell?_of_block (w := w4) (a := ⟨wr.heap.size, 4, none⟩) bb).trans b4
            have d5 : w5.cell? ⟨wr.heap.size, 5, none⟩ = some (.string op) := (World.cell?_of_block (w := w4) (a := ⟨wr.heap.size, 5, none⟩) bb).trans b5
            have d6 : w5.cell? ⟨wr.heap.size, 6, none⟩ = some (.slice ka ks.length kc) := (World.cell?_of_block (w := w4) (a := ⟨wr.heap.size, 6, none⟩) bb).trans b6
            clear b0 b1 b2 b3 b4 b5 b6 bb
            gi_wp2_with fail
            refine ⟨trivial, fun h => by simp [Fence.wide] at h, ?_⟩
            refine (callsIn_wide.2 (HCL.out w5)).mono ?_
            rintro e w6 ⟨rfl, hb6⟩
            have HJ6 := Lib.hid (HJ.out.below _ _ _ _ HJ5.out hb6)
            have HK6 := Lib.hid (HK5.out.trans (.of_below hb6))
            obtain ⟨fn2, tmps2, assign2, body2, hy, hR⟩ := HY.out (n - 1) _ (pre ++ tokL F z (l.take k) ++ [(k0, n0, s0, a0, m0)] ++ F ks) (ck, cn, cs, ca, cm) _ ((show pre ++ tokL F z (l.take k) ++ [((k0, n0, s0, a0, m0) : Tkn)] ++ F ks ++ [((ck, cn, cs, ca, cm) : Tkn)] <+: pre ++ tokL F z (l.take (k + 1)) from ⟨[], by rw [HCS.out]; simp⟩).trans HPL.out) HJ6.out
            simp only [tkL] at hy
            have HRD := Lib.hid hR
            clear hR hb6 HCL HY HCC d0 d1 d2 d3 d4 d5 d6 hs5
            gi_wp2_with fail
            refine ⟨fun h => by simp [Fence.wide] at h, ?_⟩
            refine HRD.out.mono ?_
            rintro e w7 (⟨rfl, Q4, hj7, hk7⟩ | ⟨rfl, hstop⟩)
            rotate_left
            · have HST := Lib.hid (hstop.elim fun p h => (⟨p, h.1.trans ((show _ <+: pre ++ tokL F z (l.take (k + 1)) from ⟨[], by rw [HCS.out]; simp⟩).trans HPX.out), h.2⟩ : ∃ p, p <+: pre ++ tokL F z l ∧ Stop p _))
              clear hstop
              gi_wp2_with fail
              exact bodyPost_ret (v := .bool false) (by simp [results, Tryz.results82, go_sem]) rfl (.inr ⟨rfl, HST.out⟩)
            · have HL7 : Hid (WkLoop J F z l Q pre W (k + 1) w7) := Lib.hid ⟨by omega, Q4, by rw [HCS.out]; simpa using hj7, HK6.out.trans hk7⟩
              clear hj7 hk7 hy HRD
              gi_wp2_with fail
              exact ⟨⟨k + 1, by simp, HL7⟩, by simp only [intOf]; omega⟩
    · have hlt' : ((k : Int) < (l.length : Int)) = False := by simp; omega
      have HRES : Hid (l.take k = l) := Lib.hid (List.take_of_length_le (by omega))
      gi_wp2_with fail
      obtain ⟨Q', h1, h2⟩ := hr.out.st
      rw [HRES.out] at h1
      exact bodyPost_ret (v := .bool true) (by simp [results, Tryz.results82, go_sem]) rfl (.inl ⟨rfl, Q', h1, h2⟩)
theorem walk_any (lp : Nat) (J : (Nat → Prop) → List Tkn → World → Prop) (Stop : List Tkn → World → Prop) (hJ : BodyOk J)
    (LL : List Tkn) (hY : ∀ n Q pre t w, pre ++ [t] <+: LL → J Q pre w → YieldAt Fence.wide n Tryz.prog lp #[.agg (tkL t).toArray] w (WalkPost J Stop Q (pre ++ [t]) w)) (P : Nat → Prop) :
    ∀ (m : Nat), m ≤ 100 → ∀ (n : Nat) (l : List Fg) (v : Value) (Q : Nat → Prop) (pre : List Tkn) (W : World), pre ++ tokM m l <+: LL → FVal W P v l → (∀ b, P b → b < W.heap.size ∧ ¬ Q b) → J Q pre W → l.length ≤ 140737488351232 → FgsLe 140737488351232 l →
      CallsIn Fence.wide n Tryz.prog 82 #[v, .int .i64 (m : Int), .func (.yield lp) #[] #[]] W (WalkPost J Stop Q (pre ++ tokM m l) W)
  | 0, hm, n, l, v, Q, pre, W, hX, hv, hP, hj, h1, h2 => walk_run n lp J Stop hJ LL hY (fun _ => []) 0 hm true (by simp) P l v Q pre W hv hP hj hX h1 h2 (fun h => absurd h (by omega))
  | m + 1, hm, n, l, v, Q, pre, W, hX, hv, hP, hj, h1, h2 => walk_run n lp J Stop hJ LL hY (tokM m) (m + 1) hm false (by simp) P l v Q pre W hv hP hj hX h1 h2 fun _ n ks kv Q pre w hX hk hP hj a b => by
    have e : (((m + 1 : Nat) : Int) - 1) = (m : Int) := by omega
    rw [e]
    exact walk_any lp J Stop hJ LL hY P m (by omega) n ks kv Q pre w hX hk hP hj a b
/-- How the iterator over the tokens ends. -/
def TokPost (J : (Nat → Prop) → List Tkn → World → Prop) (Stop : List Tkn → World → Prop) (Q : Nat → Prop) (l : List Tkn) (W : World) (e : Ending) (w' : World) : Prop :=
  e = .returned (.tuple #[]) ∧ ((∃ Q', J Q' l w' ∧ Kp Q Q' W w') ∨ ∃ p, p <+: l ∧ Stop p w')
theorem tokens1_any (n lp cb : Nat) (J : (Nat → Prop) → List Tkn → World → Prop) (Stop : List Tkn → World → Prop) (hJ : BodyOk J)
    (P : Nat → Prop) (l : List Fg) (hY : ∀ n Q pre t w, pre ++ [t] <+: tokM 100 l → J Q pre w → YieldAt Fence.wide n Tryz.prog lp #[.agg (tkL t).toArray] w (WalkPost J Stop Q (pre ++ [t]) w)) (v : Value) (Q : Nat → Prop) (W : World)
    (hb : W.cell? ⟨cb, 0, none⟩ = some v) (hv : FVal W P v l) (hP : ∀ b, P b → b < W.heap.size ∧ ¬ Q b) (hj : J Q [] W) (h1 : l.length ≤ 140737488351232) (h2 : FgsLe 140737488351232 l) :
    CallsIn Fence.wide n Tryz.prog 81 #[.func (.yield lp) #[] #[], .pointer (some ⟨cb, 0, none⟩)] W (TokPost J Stop Q (tokM 100 l) W) := by
  have HW := Lib.hid (walk_any lp J Stop hJ (tokM 100 l) hY P 100 (Nat.le_refl _) (n - 1) l v Q [] W (by rw [List.nil_append]; exact List.prefix_refl _) hv hP hj h1 h2)
  obtain ⟨va, vc, rfl, _⟩ := hv
  clear hJ hY hP hj h1 h2
  refine callsIn_of_wp Tryz.func81 rfl trivial ?_
  simp only [Tryz.ntmps81, List.size_toArray, List.length_cons, List.length_nil, Nat.reduceAdd, Nat.reduceSub, Array.replicate_succ,
     Array.replicate_zero, List.push_toArray, List.append_toArray, List.nil_append, List.cons_append]
  gi_wp2_with fail
  refine ⟨trivial, fun h => by simp [Fence.wide] at h, ?_⟩
  refine HW.out.mono ?_
  rintro e w5 (⟨rfl, hh⟩ | ⟨rfl, hh⟩)
  · have HH := Lib.hid hh
    clear hh HW
    gi_wp2_with fail
    exact bodyPost_end (results_none rfl _ _ _) rfl ⟨rfl, .inl (by simpa using HH.out)⟩
  · have HH := Lib.hid hh
    clear hh HW
    gi_wp2_with fail
    exact bodyPost_end (results_none rfl _ _ _) rfl ⟨rfl, .inr (by simpa using HH.out)⟩
end

section
open Go.RowKit Go.Shelf
attribute [local go_sem] Oper.semAt_some

def sizeM (l : List Fg) : Nat := min (tokM 100 l).length 6001
theorem heap4 (w : World) (o0 o1 o2 o3 : Obj) : ((((w.alloc o0).alloc o1).alloc o2).alloc o3).heap[w.heap.size]? = some o0 ∧ ((((w.alloc o0).alloc o1).alloc o2).alloc o3).heap[w.heap.size + 1]? = some o1 ∧
    ((((w.alloc o0).alloc o1).alloc o2).alloc o3).heap[w.heap.size + 2]? = some o2 ∧ ((((w.alloc o0).alloc o1).alloc o2).alloc o3).heap[w.heap.size + 3]? = some o3 ∧ ((((w.alloc o0).alloc o1).alloc o2).alloc o3).heap.size = w.heap.size + 4 := by
  have n0 := World.alloc_heap_new w o0
  have n1 := World.alloc_heap_new (w.alloc o0) o1
  have n2 := World.alloc_heap_new ((w.alloc o0).alloc o1) o2
  have n3 := World.alloc_heap_new (((w.alloc o0).alloc o1).alloc o2) o3
  simp only [World.size_alloc, Nat.add_assoc, Nat.reduceAdd] at n1 n2 n3
  refine ⟨?_, ?_, ?_, n3, by simp⟩
  · exact (Below.heap_alloc _ o3 _ (by simp <;> omega)).trans ((Below.heap_alloc _ o2 _ (by simp <;> omega)).trans ((Below.heap_alloc _ o1 _ (by simp)).trans n0))
  · exact (Below.heap_alloc _ o3 _ (by simp)).trans ((Below.heap_alloc _ o2 _ (by simp)).trans n1)
  · exact (Below.heap_alloc _ o3 _ (by simp)).trans n2

structure SzJ (w : World) (R : Loop) (Q : Nat → Prop) (pre : List Tkn) (W : World) : Prop where
  q : ∀ b, Q b ↔ b = w.heap.size
  box : W.cell? ⟨w.heap.size, 0, none⟩ = some (.int .i64 (pre.length : Int))
  fz : W.frozen? ⟨w.heap.size, 0, none⟩ = false
  le : pre.length ≤ 6000
  defd : W.heap[w.heap.size + 2]? = some (.deferred (some []))
  loop : W.heap[w.heap.size + 3]? = some (.loop R)
  below : Below w.heap.size w W
  size : w.heap.size + 4 ≤ W.heap.size
structure SzStop (w : World) (R : Loop) (pre : List Tkn) (W : World) : Prop where
  len : pre.length = 6001
  box : W.cell? ⟨w.heap.size, 0, none⟩ = some (.int .i64 6001)
  defd : W.heap[w.heap.size + 2]? = some (.deferred (some []))
  loop : W.heap[w.heap.size + 3]? = some (.loop (doneL R 0))
  below : Below w.heap.size w W
  size : w.heap.size + 4 ≤ W.heap.size
theorem szJ_ok (w : World) (R : Loop) : BodyOk (SzJ w R) :=
  ⟨fun Q pre a b h hb => ⟨h.q, (hb.cell (p := ⟨w.heap.size, 0, none⟩) (show w.heap.size < a.heap.size by have := h.size; omega)).trans h.box, (World.frozen?_of_block (w := a) (a := ⟨w.heap.size, 0, none⟩) (hb.block _ (show w.heap.size < a.heap.size by have := h.size; omega))).trans h.fz, h.le,
    (hb.block _ (by have := h.size; omega)).trans h.defd, (hb.block _ (by have := h.size; omega)).trans h.loop, h.below.trans (hb.mono (by have := h.size; omega)), by have := h.size; have := hb.size; omega⟩,
   fun Q pre a h b hb => by have := (h.q b).1 hb; have := h.size; omega⟩
theorem sz_step {w W1 W5 W3 W6 : World} (hz : w.heap.size + 4 ≤ W1.heap.size) (u : Value) (hb : W1.cell? ⟨w.heap.size, 0, none⟩ = some u) (X Y : Obj) (v : Value)
    (h5 : W5 = W1.putObj (w.heap.size + 3) X) (h3 : W3 = W5.setCell ⟨w.heap.size, 0, none⟩ v) (h6 : W6 = W3.putObj (w.heap.size + 3) Y) :
    W5.cell? ⟨w.heap.size, 0, none⟩ = some u ∧ W5.frozen? ⟨w.heap.size, 0, none⟩ = W1.frozen? ⟨w.heap.size, 0, none⟩ ∧ W3.heap[w.heap.size + 3]? = some X ∧
    W6.cell? ⟨w.heap.size, 0, none⟩ = some v ∧ W6.frozen? ⟨w.heap.size, 0, none⟩ = W1.frozen? ⟨w.heap.size, 0, none⟩ ∧ W6.heap[w.heap.size + 3]? = some Y ∧
    (∀ b, b ≠ w.heap.size + 3 → b ≠ w.heap.size → W6.heap[b]? = W1.heap[b]?) ∧ W6.heap.size = W1.heap.size ∧ W6.os = W1.os ∧ W6.tape = W1.tape ∧ W6.output = W1.output := by
  have n5 : W5.heap[w.heap.size]? = W1.heap[w.heap.size]? := by rw [h5]; exact World.putObj_heap_other (by omega)
  have n6 : W6.heap[w.heap.size]? = W3.heap[w.heap.size]? := by rw [h6]; exact World.putObj_heap_other (by omega)
  have s5 : W5.heap.size = W1.heap.size := by rw [h5]; simp
  have s3 : W3.heap.size = W1.heap.size := by rw [h3]; simp [s5]
  have c5 : W5.cell? ⟨w.heap.size, 0, none⟩ = some u := (World.cell?_of_block (w := W1) (a := ⟨w.heap.size, 0, none⟩) n5).trans hb
  have f5 : W5.frozen? ⟨w.heap.size, 0, none⟩ = W1.frozen? ⟨w.heap.size, 0, none⟩ := World.frozen?_of_block (w := W1) (a := ⟨w.heap.size, 0, none⟩) n5
  refine ⟨c5, f5, ?_, ?_, ?_, ?_, ?_, ?_, ?_, ?_, ?_⟩
  · rw [h3, Below.heap_setCell _ _ _ _ (by simp), h5]; exact World.putObj_heap_same (by omega)
  · rw [World.cell?_of_block (w := W3) (a := ⟨w.heap.size, 0, none⟩) n6, h3]; exact World.cell?_setCell_same' _ _ _ (by rw [c5]; rfl)
  · rw [World.frozen?_of_block (w := W3) (a := ⟨w.heap.size, 0, none⟩) n6, h3, World.frozen?_setCell]; exact f5
  · rw [h6]; exact World.putObj_heap_same (by omega)
  · intro b hb1 hb2
    rw [h6, World.putObj_heap_other hb1, h3, Below.heap_setCell _ _ _ _ (by simpa using hb2), h5, World.putObj_heap_other hb1]
  · rw [h6]; simp [s3]
  · rw [h6, h3, h5]; rfl
  · rw [h6, h3, h5]; rfl
  · rw [h6, h3, h5]; rfl
theorem SzJ.go {w W1 W5 W3 : World} {R : Loop} {Q : Nat → Prop} {pre : List Tkn} (h : SzJ w R Q pre W1) (t : Tkn) (X : Obj) (h5 : W5 = W1.putObj (w.heap.size + 3) X) (h3 : W3 = W5.setCell ⟨w.heap.size, 0, none⟩ (.int .i64 ((pre.length : Int) + 1))) (hl : pre.length + 1 ≤ 6000) :
    W3.heap[w.heap.size + 3]? = some X ∧ WalkPost (SzJ w R) (SzStop w R) Q (pre ++ [t]) W1 (.returned (.bool true)) (W3.putObj (w.heap.size + 3) (.loop R)) := by
  obtain ⟨_, _, g1, g2, g3, g4, g5, g6, g7, g8, g9⟩ := sz_step h.size _ h.box X (.loop R) _ h5 h3 rfl
  have hz := h.size
  refine ⟨g1, .inl ⟨rfl, Q, ⟨h.q, by rw [g2]; simp, by rw [g3]; exact h.fz, by simpa using hl, (g5 _ (by omega) (by omega)).trans h.defd, g4,
    ⟨g7.trans h.below.os, g8.trans h.below.tape, g9.trans h.below.output, by omega, fun b hb => (g5 b (by omega) (by omega)).trans (h.below.block b hb)⟩, by omega⟩, by omega, fun b hb hq => ?_, fun b hb => .inl hb⟩⟩
  by_cases he : b = w.heap.size + 3
  · subst he; rw [g4, h.loop]
  · exact g5 b he fun e => hq ((h.q b).2 e)
theorem SzJ.stop {w W1 W5 W3 : World} {R : Loop} {Q : Nat → Prop} {pre : List Tkn} (h : SzJ w R Q pre W1) (t : Tkn) (X : Obj) (h5 : W5 = W1.putObj (w.heap.size + 3) X) (h3 : W3 = W5.setCell ⟨w.heap.size, 0, none⟩ (.int .i64 ((pre.length : Int) + 1))) (hl : ¬ pre.length + 1 ≤ 6000) :
    W3.heap[w.heap.size + 3]? = some X ∧ WalkPost (SzJ w R) (SzStop w R) Q (pre ++ [t]) W1 (.returned (.bool false)) (W3.putObj (w.heap.size + 3) (.loop (doneL R 0))) := by
  obtain ⟨_, _, g1, g2, g3, g4, g5, g6, g7, g8, g9⟩ := sz_step h.size _ h.box X (.loop (doneL R 0)) _ h5 h3 rfl
  have hz := h.size
  have hp : pre.length = 6000 := by have := h.le; omega
  rw [hp] at g2
  exact ⟨g1, .inr ⟨rfl, pre ++ [t], ⟨[], by simp⟩, by simp [hp], g2, (g5 _ (by omega) (by omega)).trans h.defd, g4,
    ⟨g7.trans h.below.os, g8.trans h.below.tape, g9.trans h.below.output, by omega, fun b hb => (g5 b (by omega) (by omega)).trans (h.below.block b hb)⟩, by omega⟩⟩
theorem size_leave (n : Nat) (w W : World) (tm : Array Value) (hres : ∀ W, (results Tryz.f15 tm).run Tryz.prog W = .ok (.int .i64 (n : Int)) W) (hd : W.heap[w.heap.size + 2]? = some (.deferred (some []))) (hB : Below w.heap.size w W) :
    LeavesInM Fence.wide 3 Tryz.prog Tryz.f15 tm (DepPost n w) [{ target := .collected (w.heap.size + 2), args := #[] }] .returning W := by
  refine ⟨by simp, .inl ⟨_, _, rfl, run_takeDeferred hd, ?_⟩⟩
  have low : Below w.heap.size w (W.putObj (w.heap.size + 2) (.deferred none)) := ⟨hB.os, hB.tape, hB.output, by have := hB.size; simp; omega, fun k hk => (World.putObj_heap_other (by omega)).trans (hB.block k hk)⟩
  simp [LeavesInM, LeavesIn, hres]
  exact ⟨rfl, low⟩
theorem tokens_any (a : Option Addr) (n c : Nat) (W : World) : Calls Tryz.prog 45 #[.slice a n c] W fun e w' => e = .returned (.func (.func 81) #[] #[.pointer (some ⟨W.heap.size, 0, none⟩)]) ∧ w' = W.alloc (.cells #[.slice a n c] 25) := by
  have hmf : ∀ (fn : Fn) (first cap : Array Value) (w : World), (Instr.makeFunc fn first cap).run Tryz.prog w = .ok (.func fn first cap) w := fun _ _ _ _ => rfl
  go_enter Tryz.func45, Tryz.ntmps45
  go_wp2_with fail
  exact bodyPost_ret (v := .func (.func 81) #[] #[.pointer (some ⟨W.heap.size, 0, none⟩)]) (by simp [results, Tryz.results45, go_sem]) rfl ⟨rfl, rfl⟩
set_option maxHeartbeats 4000000 in
set_option maxRecDepth 100000 in
theorem Size_run (P : Nat → Prop) (l : List Fg) (v : Value) (w : World) (hv : FVal w P v l) (h1 : l.length ≤ 140737488351232) (h2 : FgsLe 140737488351232 l) :
    CallsIn Fence.wide 3 Tryz.prog 15 #[v] w (DepPost (sizeM l) w) := by
  have hmf : ∀ (fn : Fn) (first cap : Array Value) (w : World), (Instr.makeFunc fn first cap).run Tryz.prog w = .ok (.func fn first cap) w := fun _ _ _ _ => rfl
  refine callsIn_of_wp_marks Tryz.func15 rfl trivial ?_ rfl
  simp only [Tryz.ntmps15, List.size_toArray, List.length_cons, List.length_nil, Nat.reduceAdd, Nat.reduceSub, Array.replicate_succ,
     Array.replicate_zero, List.push_toArray, List.append_toArray, List.nil_append, List.cons_append]
  obtain ⟨va, vc, rfl, hrow⟩ := hv
  have HV : Hid (FVal w P (.slice va l.length vc) l) := Lib.hid ⟨va, vc, rfl, hrow⟩
  have HLE := Lib.hid h2
  clear hrow h2
  gi_wp2_with fail
  refine ⟨trivial, ?_⟩
  refine (callsIn_wide.2 (tokens_any va l.length vc _)).mono ?_
  rintro e w1 ⟨rfl, rfl⟩
  gi_wp2_with fail
  refine range_own rfl (by omega) (gf := 81) (lb := #[.pointer (some ⟨w.heap.size + 1, 0, none⟩)]) rfl trivial (enters_of Tryz.func81 (by kernel_rfl) rfl) ?_
  intro fn R _ hR
  have rs : R.state = .ready := by rw [hR]
  have rp : R.pending = none := by rw [hR]
  have rq : R.params = #[6] := by rw [hR]
  have rt := congrArg Loop.tmps hR
  have ra := congrArg Loop.assign hR
  have rb := congrArg Loop.body hR
  simp only at rt ra rb
  clear hR
  simp only [List.append_toArray, List.cons_append, List.nil_append]
  obtain ⟨W0, hW0⟩ : ∃ W0, W0 = ((((w.alloc (.cells #[.int .i64 0] 3)).alloc (.cells #[.slice va l.length vc] 25)).alloc (.deferred (some []))).alloc (.loop R)) := ⟨_, rfl⟩
  have hB0 : Below w.heap.size w W0 := by
    rw [hW0]
    exact (((((Below.refl _ w).alloc (Nat.le_refl _) _).alloc (by simp) _).alloc (by simp; omega) _).alloc (by simp; omega) _)
  obtain ⟨f0, f1, f2, f3, f4⟩ := heap4 w (.cells #[.int .i64 0] 3) (.cells #[.slice va l.length vc] 25) (.deferred (some [])) (.loop R)
  simp only [World.size_alloc, Nat.add_assoc, Nat.reduceAdd]
  rw [← hW0] at f0 f1 f2 f3 f4 ⊢
  have hJ0 : SzJ w R (fun b => b = w.heap.size) [] W0 := ⟨fun b => Iff.rfl, cell_at f0, frozen_at f0, by simp, f2, f3, hB0, by omega⟩
  refine (tokens1_any 2 (w.heap.size + 3) (w.heap.size + 1) (SzJ w R) (SzStop w R) (szJ_ok w R) (fun b => P b ∧ b < w.heap.size) l ?hy (.slice va l.length vc) (fun b => b = w.heap.size) W0 (cell_at f1)
    ((HV.out.keep (P' := fun b => P b ∧ b < w.heap.size) (fun b p z => ⟨⟨p, z⟩, rfl⟩) (Nat.le_refl _)).below hB0) (fun b p => ⟨by have := p.2; omega, fun e => by have := p.2; omega⟩) hJ0 h1 HLE.out).mono ?_
  case hy =>
    clear hJ0 f0 f1 f2 f3 f4 hB0 hW0
    intro m Q pre t W1 _ hj
    obtain ⟨Rb, hRb⟩ : ∃ Rb : Loop, Rb = { R with state := .busy } := ⟨_, rfl⟩
    refine yield_own2 (R := R) hRb trivial hj.loop rs rp (by rw [rq]; rfl) ?_
    have HJ := Lib.hid hj
    rw [ra, rt, rq]
    have RB := Lib.hid rb
    clear ra rt rq rb rs rp hRb hj hmf
    simp only [tkL, List.zip_toArray, List.zip_cons_cons, List.zip_nil_right, List.foldl_toArray, List.foldl_cons, List.foldl_nil, List.setIfInBounds_toArray, List.set_cons_zero, List.set_cons_succ]
    gi_wp2_with fail
    refine ⟨HJ.out.loop, ?_⟩
    rw [RB.out]
    clear RB
    obtain ⟨W5, hW5⟩ : ∃ W5, W5 = W1.putObj (w.heap.size + 3) (.loop Rb) := ⟨_, rfl⟩
    rw [← hW5]
    obtain ⟨c5, f5, _⟩ := sz_step (v := .int .i64 0) HJ.out.size _ HJ.out.box (.loop Rb) (.loop R) hW5 rfl rfl
    rw [HJ.out.fz] at f5
    have w3' : IntKind.i64.wrap ((pre.length : Int) + 1) = (pre.length : Int) + 1 := IntWalk.i64_in _ (by have := HJ.out.le; omega)
    have HW5 := Lib.hid hW5
    clear hW5
    by_cases hlim : pre.length + 1 ≤ 6000
    · have hg : ((6000 : Int) < (pre.length : Int) + 1) = False := by simp; omega
      have HL := Lib.hid hlim
      clear hlim
      gi_wp2_with fail
      have hh := HJ.out.go t (.loop Rb) HW5.out rfl HL.out
      exact hh
    · have hg : (6000 : Int) < (pre.length : Int) + 1 := by omega
      have HL := Lib.hid hlim
      clear hlim
      gi_wp2_with fail
      have hh := HJ.out.stop t (.loop Rb) HW5.out rfl HL.out
      exact ⟨hh.1, .inr ⟨0, rfl, hh.2⟩⟩
  rintro e w2 ⟨rfl, hend⟩
  have hend2 : ∃ Rx : Loop, w2.heap[w.heap.size + 3]? = some (.loop Rx) ∧ Rx.state ≠ .busy ∧ (Rx.pending = none ∨ Rx.pending = some (.exit 0)) ∧ w2.cell? ⟨w.heap.size, 0, none⟩ = some (.int .i64 (sizeM l : Nat)) ∧ w2.heap[w.heap.size + 2]? = some (.deferred (some [])) ∧ Below w.heap.size w w2 ∧ w.heap.size + 4 ≤ w2.heap.size := by
    rcases hend with ⟨Q', h, _⟩ | ⟨p, hp, h⟩
    · refine ⟨R, h.loop, by rw [rs]; simp, .inl rp, ?_, h.defd, h.below, h.size⟩
      have : sizeM l = (tokM 100 l).length := by unfold sizeM; have := h.le; omega
      rw [this]; exact h.box
    · refine ⟨doneL R 0, h.loop, by simp [doneL], .inr rfl, ?_, h.defd, h.below, h.size⟩
      have : sizeM l = 6001 := by unfold sizeM; have := hp.length_le; have := h.len; omega
      rw [this]; exact h.box
  clear hend hJ0 f0 f1 f2 f3 f4 hB0 hW0 ra rb rt rq rs rp hmf
  obtain ⟨Rx, hlp, hnb, hpend, hbox, hdef, hbel, hsz⟩ := hend2
  refine ⟨Rx.pending, w2.putObj (w.heap.size + 3) (.loop { Rx with state := .exhausted }), run_endLoop (P := Tryz.prog) hlp hnb, ?_⟩
  obtain ⟨w3, hw3⟩ : ∃ w3, w3 = w2.putObj (w.heap.size + 3) (.loop { Rx with state := .exhausted }) := ⟨_, rfl⟩
  rw [← hw3]
  have k3 : ∀ k, k ≠ w.heap.size + 3 → w3.heap[k]? = w2.heap[k]? := fun k hk => by rw [hw3]; exact World.putObj_heap_other hk
  have c3 : w3.cell? ⟨w.heap.size, 0, none⟩ = some (.int .i64 (sizeM l : Nat)) := (World.cell?_of_block (w := w2) (a := ⟨w.heap.size, 0, none⟩) (k3 _ (by simp))).trans hbox
  have d3 : w3.heap[w.heap.size + 2]? = some (.deferred (some [])) := (k3 _ (by omega)).trans hdef
  have low3 : Below w.heap.size w w3 := by
    rw [hw3]
    exact ⟨hbel.os, hbel.tape, hbel.output, by have := hbel.size; simp; omega, fun k hk => (World.putObj_heap_other (by omega)).trans (hbel.block k hk)⟩
  have D3 := Lib.hid d3; have L3 := Lib.hid low3
  clear hw3 k3 d3 low3 hbox hdef hbel hsz hlp hnb
  rcases hpend with hp | hp
  all_goals
    rw [hp]
    clear hp
    gi_wp2_with fail
    exact size_leave (sizeM l) w _ _ (fun W => by simp [results, Tryz.results15, go_sem]) D3.out L3.out
theorem Size_any (P : Nat → Prop) (l : List Fg) (v : Value) (w : World) (hv : FVal w P v l) (h1 : l.length ≤ 140737488351232) (h2 : FgsLe 140737488351232 l) : Calls Tryz.prog 15 #[v] w (DepPost (sizeM l) w) :=
  callsIn_wide.1 (Size_run P l v w hv h1 h2)
end

end Go.Proofs.YtafncodigpjkaaaGreatDoor
