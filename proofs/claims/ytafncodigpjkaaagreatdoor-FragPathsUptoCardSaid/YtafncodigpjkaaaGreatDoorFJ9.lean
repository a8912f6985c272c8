/-
  Fragments appended to a list of the call's own: one law, whether there are some or none.
  The reference's put.
  The reference's put, further down the way.
-/
import Derived.Test.YtafncodigpjkaaaGreatDoorFJ2
import Derived.Test.YtafncodigpjkaaaGreatDoorFJ5
import Derived.Test.YtafncodigpjkaaaGreatDoorFJ4
namespace Go.Proofs.YtafncodigpjkaaaGreatDoor
section
open Go.RowKit

/-- A list of fragments in a row of the call's own, that does not hold itself; what it holds is in blocks of Q. -/
def JQ (Q : Nat → Prop) (w : World) (base : Nat) (v : Value) (l : List Fg) : Prop := FOwn w base (fun b => v.ownBlock ≠ some b ∧ Q b) v l
theorem JQ.mono {Q : Nat → Prop} {w : World} {base base' : Nat} {v : Value} {l : List Fg} (h : JQ Q w base v l) (hb : base' ≤ base) : JQ Q w base' v l := by
  obtain ⟨kvs, h1, h2, h3⟩ := h
  exact ⟨kvs, h1, h2.mono hb, h3⟩
theorem JQ.below {Q : Nat → Prop} {w w' : World} {base : Nat} {v : Value} {l : List Fg} (h : JQ Q w base v l) (hb : Below w.heap.size w w') : JQ Q w' base v l :=
  FOwn.keep h (fun b p z => ⟨p, hb.block b z⟩) hb.size (fun b _ z => hb.block b z)
theorem appQ_val {Q : Nat → Prop} {w w' : World} {v u : Value} {g : Nat} {l : List Fg} (hg : w.grownBy w' v.ownBlock) (hat : v.ownBlock = some g ∨ g = w.heap.size) (h : FVal w (fun b => v.ownBlock ≠ some b ∧ Q b) u l) : FVal w' (fun b => some g ≠ some b ∧ Q b) u l :=
  h.keep (fun b p z => ⟨⟨fun e => by
    rcases hat with h | h
    · exact p.1 (h.trans e)
    · have := Option.some.inj e; omega, p.2⟩, hg.block b z (fun e => p.1 (e.symm ▸ rfl))⟩) hg.size
theorem JQ.app {Q : Nat → Prop} {w w' : World} {base g cap n : Nat} {v : Value} {l m : List Fg} {kvs kvs' : List Value} (h1 : kvs.length = l.length) (h1' : kvs'.length = m.length) (h3 : ∀ (i : Nat) (x : Fg) (u : Value), l[i]? = some x → kvs[i]? = some u → FVal w (fun b => v.ownBlock ≠ some b ∧ Q b) u x.kids)
    (h3' : ∀ (i : Nat) (x : Fg) (u : Value), m[i]? = some x → kvs'[i]? = some u → FVal w (fun b => v.ownBlock ≠ some b ∧ Q b) u x.kids) (hg : w.grownBy w' v.ownBlock) (hat : v.ownBlock = some g ∨ g = w.heap.size) (hn : n = l.length + m.length)
    (ho : w'.ownsRow base 52 7 (.slice (some ⟨g, 0, none⟩) n cap) n (flatF l kvs ++ flatF m kvs')) : JQ Q w' base (.slice (some ⟨g, 0, none⟩) n cap) (l ++ m) := by
  subst hn
  refine ⟨kvs ++ kvs', by simp [h1, h1'], by rw [List.length_append, flatF_append h1]; exact ho, fun i x y hx hy => ?_⟩
  by_cases hi : i < l.length
  · rw [List.getElem?_append_left hi] at hx
    rw [List.getElem?_append_left (by omega)] at hy
    exact appQ_val hg hat (h3 i x y hx hy)
  · rw [List.getElem?_append_right (by omega)] at hx
    rw [List.getElem?_append_right (by omega), h1] at hy
    exact appQ_val hg hat (h3' _ x y hx hy)
theorem JQ.val {Q P' : Nat → Prop} {w : World} {base : Nat} {v : Value} {l : List Fg} (h : JQ Q w base v l) (hP : ∀ b, Q b → P' b) (hb : ∀ b, base ≤ b → P' b) : FVal w P' v l :=
  FOwn.val h (fun b p => hP b p.2) (fun b e => by
    obtain ⟨_, _, h2, _⟩ := h
    exact hb b (h2.lt b e).1)
/-- What an append of fragments leaves. -/
def AppD (Q : Nat → Prop) (base : Nat) (jb : Option Addr) (n jc : Nat) (L p : List Fg) (m : Nat) (w : World) (H : Nat) (b' : Option Addr) (c' : Nat) (w' : World) : Prop :=
  JQ Q w' base (.slice b' (n + m) c') (L ++ p) ∧ n + m ≤ c' ∧ w.grownBy w' (Value.slice jb n jc).ownBlock ∧ (∀ g, (Value.slice b' (n + m) c').ownBlock = some g → (Value.slice jb n jc).ownBlock = some g ∨ g = H) ∧ (∀ g, (Value.slice jb n jc).ownBlock = some g → base ≤ g)
theorem wp_append_frags {o : Oper} {a : Act} {w : World} {K : Act → World → Prop} {Q : Exit → Act → World → Prop} (s x : Operand) (ho : o.op = .call { callee := .builtin .append, args := #[s, x], argTypes := #[25, 25] })
    (base : Nat) (jb : Option Addr) (n jc : Nat) (L p : List Fg) (hs : a.eval s = .slice jb n jc) {QQ : Nat → Prop} (hj : JQ QQ w base (.slice jb n jc) L) (hn : n = L.length) (hjc : n ≤ jc)
    (P' : Nat → Prop) (xb : Option Addr) (m xc : Nat) (hx : a.eval x = .slice xb m xc) (hp : FVal w P' (.slice xb m xc) p) (hne : ∀ b, P' b → b < w.heap.size → (Value.slice jb n jc).ownBlock ≠ some b ∧ QQ b)
    (hbytes : (n + m) * 88 ≤ 140737488355328) (hbase : base ≤ w.heap.size) (H : Nat) (hH : w.heap.size = H)
    (h : ∀ b' c' w', AppD QQ base jb n jc L p m w H b' c' w' → K (a.put o.dst (.slice b' (n + m) c')) w') : o.wp Tryz.prog a w K Q := by
  obtain ⟨i0, hi, hz0, hz1, hz2⟩ := info_parts infoFrag
  have hml : m = p.length := by obtain ⟨_, _, e, _⟩ := hp; cases e; rfl
  have hlow : ∀ g, (Value.slice jb n jc).ownBlock = some g → base ≤ g := fun g e => by
    obtain ⟨_, _, h2, _⟩ := hj
    exact (h2.lt g e).1
  by_cases hp0 : p = []
  · subst hp0
    have hm0 : m = 0 := hml
    subst hm0
    have hr : (Builtin.append_ #[25, 25] o.type #[.slice jb n jc, .slice xb 0 xc]).run Tryz.prog w = .ok (.slice jb n jc) w := by
      cases xb with
      | none => exact Go.run_append_nothing w 25 25 o.type 52 i0 Tryz.underlying25 hi jb n jc hjc _ (Go.Src.ofNil w Tryz.underlying25 xc)
      | some ad => exact Go.run_append_nothing w 25 25 o.type 52 i0 Tryz.underlying25 hi jb n jc hjc _ (Go.Src.ofSlice w Tryz.underlying25 ad 0 xc [] (by simp) (fun j u hu => by simp at hu) (fun u hu => by cases hu))
    unfold Oper.wp execOp
    simp only [ho, resolve, invoke, builtin, Sem.run_bind, Sem.run_pure, Result.andThen_ok, List.map_toArray, List.map_cons, List.map_nil, hs, hx, hr]
    exact h jb jc w ⟨by rw [List.append_nil]; exact hj, hjc, ⟨rfl, rfl, rfl, Nat.le_refl _, fun _ _ _ => rfl⟩, fun g e => .inl e, hlow⟩
  · obtain ⟨kvs', hk1', hk2', hk3', hk4'⟩ := frag_cells hp
    obtain ⟨g', o', rfl, hcells⟩ := hk2' hp0
    obtain ⟨kvs, hk1, hk2, hk3⟩ := hj
    rw [← hn] at hk2
    have hpos : 0 < p.length := Nat.pos_of_ne_zero fun e => hp0 (List.length_eq_zero_iff.1 e)
    refine wp_append_lies w s x 25 ho base 52 i0 _ 7 88 Tryz.underlying25 hi hz0 hz1 hz2 rfl (by omega) _ n (flatF L kvs) hs hk2 ⟨g', o', none⟩ m xc (flatF p kvs') hx (by rw [flatF_length hk1', hml]) (hcells w (Below.refl _ _)) hk4' (by omega) (by unfold maxLen; omega) hbytes hbase H hH fun g cap w' h2 h3 h4 h5 => h _ _ w' ⟨?_, own_cap h2, h3, fun g2 e => by cases e; exact h4, hlow⟩
    refine JQ.app hk1 hk1' hk3 (fun i y u hy hu => ?_) h3 (by rw [hH]; exact h4) (by rw [hn, hml]) h2
    exact (hk3' i y u hy hu).keep (fun b q z => ⟨hne b q z, rfl⟩) (Nat.le_refl _)
theorem wpList_append_frags {ops : Array Oper} {rest : List Oper} {o : Oper} {a : Act} {w : World} {Q : Exit → Act → World → Prop} (hgd : o.guard = none) (s x : Operand) (ho : o.op = .call { callee := .builtin .append, args := #[s, x], argTypes := #[25, 25] })
    (base : Nat) (jb : Option Addr) (n jc : Nat) (L p : List Fg) (hs : a.eval s = .slice jb n jc) {QQ : Nat → Prop} (hj : JQ QQ w base (.slice jb n jc) L) (hn : n = L.length) (hjc : n ≤ jc)
    (P' : Nat → Prop) (xb : Option Addr) (m xc : Nat) (hx : a.eval x = .slice xb m xc) (hp : FVal w P' (.slice xb m xc) p) (hne : ∀ b, P' b → b < w.heap.size → (Value.slice jb n jc).ownBlock ≠ some b ∧ QQ b)
    (hbytes : (n + m) * 88 ≤ 140737488355328) (hbase : base ≤ w.heap.size) (H : Nat) (hH : w.heap.size = H)
    (h : ∀ b' c' w', AppD QQ base jb n jc L p m w H b' c' w' → wpList Tryz.prog ops Q rest (a.put o.dst (.slice b' (n + m) c')) w') : wpList Tryz.prog ops Q (o :: rest) a w :=
  wpList_plain hgd fun _ hK => wp_append_frags s x ho base jb n jc L p hs hj hn hjc P' xb m xc hx hp hne hbytes hbase H hH fun b' c' w' h2 => hK _ _ (h b' c' w' h2)
theorem step_append_frags {ops : Array Oper} {o : Oper} {a : Act} {w : World} {K : Act → World → Prop} {Q : Exit → Act → World → Prop} {E : Prop} (hgd : o.guard = none) (s x : Operand) (ho : o.op = .call { callee := .builtin .append, args := #[s, x], argTypes := #[25, 25] })
    (base : Nat) (jb : Option Addr) (n jc : Nat) (L p : List Fg) (hs : a.eval s = .slice jb n jc) {QQ : Nat → Prop} (hj : JQ QQ w base (.slice jb n jc) L) (hn : n = L.length) (hjc : n ≤ jc)
    (P' : Nat → Prop) (xb : Option Addr) (m xc : Nat) (hx : a.eval x = .slice xb m xc) (hp : FVal w P' (.slice xb m xc) p) (hne : ∀ b, P' b → b < w.heap.size → (Value.slice jb n jc).ownBlock ≠ some b ∧ QQ b)
    (hbytes : (n + m) * 88 ≤ 140737488355328) (hbase : base ≤ w.heap.size) (H : Nat) (hH : w.heap.size = H)
    (h : ∀ b' c' w', AppD QQ base jb n jc L p m w H b' c' w' → K (a.put o.dst (.slice b' (n + m) c')) w') :
    if Region.wanted o (yielded ops a.tmps) = true then Oper.wp Tryz.prog o a w K Q else E := by
  have hw : Region.wanted o (yielded ops a.tmps) = true := by simp [Region.wanted, hgd]
  rw [if_pos hw]
  exact wp_append_frags s x ho base jb n jc L p hs hj hn hjc P' xb m xc hx hp hne hbytes hbase H hH h
end

section
open Go.RowKit

def RputPost (S : Nat) (m : List Fg) (W : World) (e : Ending) (w' : World) : Prop := ∃ v, e = .returned v ∧ FVal w' (fun b => b < S ∨ W.heap.size ≤ b) v m ∧ Below W.heap.size W w'
theorem fresh_ne {S g b n c : Nat} (h : b < S) (hg : S ≤ g) : (Value.slice (some ⟨g, 0, none⟩) n c).ownBlock ≠ some b := fun e => by
  have h2 : g = b := Option.some.inj e
  omega
theorem AppD.low {Q : Nat → Prop} {base n jc m H : Nat} {jb b' : Option Addr} {c' : Nat} {L p : List Fg} {w w' : World} (h : AppD Q base jb n jc L p m w H b' c' w') (hb : base ≤ H) : ∀ g, (Value.slice b' (n + m) c').ownBlock = some g → base ≤ g := fun g e => by
  rcases h.2.2.2.1 g e with h1 | h1
  · exact h.2.2.2.2 g h1
  · omega
theorem AppD.belo {Q : Nat → Prop} {base n jc m H : Nat} {jb b' : Option Addr} {c' : Nat} {L p : List Fg} {w w' W : World} {B : Nat} (h : AppD Q base jb n jc L p m w H b' c' w') (hB : B ≤ base) (hW : Below B W w) (hz : B ≤ w.heap.size) : Below B W w' :=
  hW.grown h.2.2.1 hz (fun g e => Nat.le_trans hB (h.2.2.2.2 g e))
theorem low_ne {S base b n c : Nat} {a : Option Addr} (h : b < S) (hg : S ≤ base) (hl : ∀ g, (Value.slice a n c).ownBlock = some g → base ≤ g) : (Value.slice a n c).ownBlock ≠ some b := fun e => by
  have := hl b e
  omega
theorem jq_empty {Q : Nat → Prop} (W : World) : JQ Q (W.alloc (.cells #[] 52)) W.heap.size (.slice (some ⟨W.heap.size, 0, none⟩) 0 0) [] :=
  ⟨[], rfl, World.ownsRow_lit W #[] 0 (Nat.le_refl _) (Nat.zero_le _) rfl, fun _ _ _ h => by cases h⟩
theorem putM_last {by' l : List Fg} {k : Nat} {x : Fg} (hx : l[k]? = some x) : putM by' l [(k : Int)] = l.take k ++ by' ++ l.drop (k + 1) := by
  unfold putM
  rw [getI_nat, hx]
  simp [upM]
theorem putM_more {by' l : List Fg} {k : Nat} {x : Fg} {q : List Int} (hx : l[k]? = some x) (hq : q ≠ []) : putM by' l ((k : Int) :: q) = l.take k ++ [setK x (putM by' x.kids q)] ++ l.drop (k + 1) := by
  rw [putM]
  rw [getI_nat, hx]
  simp only
  rw [if_neg hq]
  simp [upM]
set_option maxRecDepth 100000 in
set_option maxHeartbeats 16000000 in
theorem rput_last (S : Nat) (by' l : List Fg) (a : Option Addr) (n c k : Nat) (x : Fg) (pb : Option Addr) (pc : Nat) (bv : Value) (W : World) (hS : S ≤ W.heap.size) (hv : FVal W (fun b => b < S) (.slice a n c) l) (hc : n ≤ c) (hp : IntRow W (.slice pb 1 pc) [(k : Int)])
    (hx : l[k]? = some x) (hb : FVal W (fun b => b < S) bv by') (h1 : l.length ≤ 1048576) (b1 : by'.length ≤ 1048576) : Calls Tryz.prog 59 #[.slice a n c, .slice pb 1 pc, bv] W (RputPost S (putM by' l [(k : Int)]) W) := by
  obtain ⟨_, _, e, hpr⟩ := hp
  cases e
  obtain ⟨gp, op, rfl, hgp, hps⟩ := hpr (by simp)
  have e0 : W.cell? ⟨gp, op, none⟩ = some (.int .i64 (k : Int)) := hps 0 _ rfl
  have hk := (List.getElem?_eq_some_iff.1 hx).1
  have hnl : n = l.length := by obtain ⟨_, _, e, _⟩ := hv; cases e; rfl
  have hkc : k ≤ c := by omega
  have hkn : (k : Int) + 1 ≤ (n : Int) := by omega
  have hk0 : (0 : Int) ≤ (k : Int) + 1 := by omega
  have w3' : IntKind.i64.wrap ((k : Int) + 1) = (k : Int) + 1 := IntWalk.i64_in _ (by omega)
  have f1 := hv.take (k := k) (by omega)
  have f2 := hv.sub hc (b := k + 1) (i := l.length) (by omega) (Nat.le_refl _)
  rw [List.take_length, ← hnl] at f2
  obtain ⟨ba, bc, rfl, hbr⟩ := hb
  have hb : FVal W (fun b => b < S) (.slice ba by'.length bc) by' := ⟨ba, bc, rfl, hbr⟩
  obtain ⟨m, hm⟩ : ∃ m, m = by'.length := ⟨_, rfl⟩
  rw [← hm] at hb ⊢
  have HF1 := Lib.hid f1
  have HF2 := Lib.hid f2
  have HB := Lib.hid hb
  have HPM := Lib.hid (putM_last (by' := by') hx)
  have HKL : Hid (k = (l.take k).length) := Lib.hid (by rw [List.length_take]; omega)
  have HKM : Hid (k + m = (l.take k ++ by').length) := Lib.hid (by rw [List.length_append, ← HKL.out, hm])
  have HS := Lib.hid hS
  have HM0 : Hid ((0 + k) * 88 ≤ 140737488355328) := Lib.hid (by omega)
  have HM1 : Hid ((k + m) * 88 ≤ 140737488355328) := Lib.hid (by omega)
  have HM2 : Hid ((k + m + (n - (k + 1))) * 88 ≤ 140737488355328) := Lib.hid (by omega)
  have HBA : Hid (Below W.heap.size W (W.alloc (.cells #[] 52))) := Lib.hid ((Below.refl _ _).alloc (Nat.le_refl _) _)
  clear hv hc hpr hps hx hb hbr f1 f2 hnl hm hS
  go_enter Tryz.func59, Tryz.ntmps59
  go_wp2_with (at_builtin; go_loud (refine wpList_append_frags rfl _ _ rfl W.heap.size (some ⟨W.heap.size, 0, none⟩) 0 0 [] (l.take k) rfl (jq_empty (Q := fun b => b < S ∨ W.heap.size ≤ b) W) rfl (Nat.le_refl _) _ a k c rfl (HF1.out.below HBA.out) (fun b hb _ => ⟨fresh_ne hb HS.out, .inl hb⟩) HM0.out (by simp) (W.heap.size + 1) (by simp) ?_); intro b1 c1 w1 h1; have HL1 := Lib.hid (h1.low (by omega)); have HB1 := Lib.hid (h1.belo (Nat.le_refl _) HBA.out (by simp)); rw [Nat.zero_add] at HL1 ⊢; have HJ1 : Hid (JQ (fun b => b < S ∨ W.heap.size ≤ b) w1 W.heap.size (.slice b1 k c1) (l.take k)) := Lib.hid (by have := h1.1; rwa [Nat.zero_add, List.nil_append] at this); have HC1 : Hid (k ≤ c1) := Lib.hid (by have := h1.2.1; omega); clear h1)
  go_region_law (first
   | (refine step_append_frags rfl (.tmp 21) (.tmp 22) rfl W.heap.size b1 k c1 (l.take k) by' (by rfl) (HJ1.out.below (Below.refl _ _).drew) HKL.out HC1.out _ ba m bc (by rfl) (HB.out.below HB1.out.drew) (fun b hb _ => ⟨low_ne hb HS.out HL1.out, .inl hb⟩) HM1.out HB1.out.size w1.heap.size (by simp) ?_; intro b2 c2 w2 h2; have HL2 := Lib.hid (h2.low HB1.out.size); have HB2 := Lib.hid (h2.belo (Nat.le_refl _) HB1.out.drew HB1.out.size); have HJ2 := Lib.hid h2.1; have HC2 := Lib.hid h2.2.1; clear h2)
   | (refine step_append_frags rfl (.tmp 23) (.tmp 27) rfl W.heap.size b2 (k + m) c2 (l.take k ++ by') (l.drop (k + 1)) (by rfl) HJ2.out HKM.out HC2.out _ _ (n - (k + 1)) (c - (k + 1)) (by rfl) (HF2.out.below HB2.out) (fun b hb _ => ⟨low_ne hb HS.out HL2.out, .inl hb⟩) HM2.out HB2.out.size w2.heap.size (by simp) ?_; intro b3 c3 w3 h3; have HB3 := Lib.hid (h3.belo (Nat.le_refl _) HB2.out HB2.out.size); have HJ3 := Lib.hid h3.1; clear h3))
  all_goals go_wp2_with fail
  all_goals exact bodyPost_ret (v := .slice b3 (k + m + (n - (k + 1))) c3) (by simp [results, Tryz.results59, go_sem]) rfl ⟨_, rfl, by rw [HPM.out]; exact HJ3.out.val (fun b h => h) (fun b h => .inr h), HB3.out⟩
end

section
open Go.RowKit

theorem one_valP {w : World} {P : Nat → Prop} {B : Nat} {x : Fg} {kv : Value} {ks : List Fg} {t : TypeId} (hB : P B) (hb : w.heap[B]? = some (.cells (fgV (setK x ks) kv).toArray t)) (hk : FVal w P kv ks) : FVal w P (.slice (some ⟨B, 0, none⟩) 1 1) [setK x ks] := by
  refine ⟨some ⟨B, 0, none⟩, 1, rfl, fun _ => ⟨B, 0, rfl, hB, lt_some hb, FRow.of fun i y hy => ?_⟩⟩
  rcases i with _ | i
  · cases hy
    refine FElt.of (kv := kv) (fun j u hu => ?_) hk
    rw [Nat.zero_mul, Nat.zero_add]
    first | (rw [Nat.zero_add, fcell_at hb]; simpa using hu) | (rw [fcell_at hb]; simpa using hu)
  · simp at hy
theorem JQ.own_lt {Q : Nat → Prop} {w : World} {base : Nat} {v : Value} {l : List Fg} (h : JQ Q w base v l) : ∀ g, v.ownBlock = some g → g < w.heap.size := fun g e => by
  obtain ⟨_, _, h2, _⟩ := h
  exact (h2.lt g e).2
set_option maxRecDepth 100000 in
set_option maxHeartbeats 16000000 in
theorem rput_more (S : Nat) (by' l : List Fg) (a : Option Addr) (n c k : Nat) (x : Fg) (q : List Int) (pb : Option Addr) (pc : Nat) (bv : Value) (W : World) (hS : S ≤ W.heap.size) (hv : FVal W (fun b => b < S) (.slice a n c) l) (hc : ValC W (.slice a n c) l) (hp : IntRow W (.slice pb (q.length + 1) pc) ((k : Int) :: q)) (hpc : q.length + 1 ≤ pc)
    (hpl : q.length ≤ 1048576) (hx : l[k]? = some x) (hq : q ≠ []) (hb : FVal W (fun b => b < S) bv by') (h1 : l.length ≤ 1048576)
    (HC : ∀ w, Below W.heap.size W w → ∀ kv, FVal w (fun b => b < S) kv x.kids → ValC w kv x.kids → ∀ qb qc, IntRow w (.slice qb q.length qc) q → q.length ≤ qc → Calls Tryz.prog 59 #[kv, .slice qb q.length qc, bv] w (RputPost S (putM by' x.kids q) w)) :
    Calls Tryz.prog 59 #[.slice a n c, .slice pb (q.length + 1) pc, bv] W (RputPost S (putM by' l ((k : Int) :: q)) W) := by
  obtain ⟨i0, hi, hz0, hz1, hz2⟩ := info_parts infoFrag
  have hcap := hc.cap
  obtain ⟨_, _, e, hpr⟩ := hp
  cases e
  obtain ⟨gp, op, rfl, hgp, hps⟩ := hpr (by simp)
  have e0 : W.cell? ⟨gp, op, none⟩ = some (.int .i64 (k : Int)) := hps 0 _ rfl
  have hk := (List.getElem?_eq_some_iff.1 hx).1
  have hnl : n = l.length := by obtain ⟨_, _, e, _⟩ := hv; cases e; rfl
  have f1 := hv.take (k := k) (by omega)
  have f2 := hv.sub hcap (b := k + 1) (i := l.length) (by omega) (Nat.le_refl _)
  rw [List.take_length, ← hnl] at f2
  have hqpos : 0 < q.length := Nat.pos_of_ne_zero fun e => hq (List.length_eq_zero_iff.1 e)
  obtain ⟨m, hm⟩ : ∃ m, m = q.length := ⟨_, rfl⟩
  have HPS : Hid (∀ w, Below W.heap.size W w → IntRow w (.slice (some ⟨gp, op + 1, none⟩) m (pc - 1)) q) := Lib.hid (fun w hb => ⟨_, _, by rw [hm], fun _ => ⟨gp, op + 1, rfl, by have := hb.size; omega, fun j i hj => by
    have := hps (j + 1) i (by simpa using hj)
    rw [show op + 1 + j = op + (j + 1) by omega]
    exact (hb.cell (p := ⟨gp, op + (j + 1), none⟩) hgp).trans this⟩⟩)
  obtain ⟨_, _, e, hr⟩ := hv
  have hr0 := hr
  cases e
  obtain ⟨g, o, rfl, hgS, hg, hrw⟩ := hr (by rintro rfl; cases hx)
  obtain ⟨kv, hcell, ka, kc, rfl, hkr⟩ := (hrw.get hx).parts
  have HKV : Hid (FVal W (fun b => b < S) (.slice ka x.kids.length kc) x.kids) := Lib.hid ⟨_, _, rfl, hkr⟩
  have HKC := Lib.hid (hc.kid hx (hcell 6 _ rfl))
  have HCELL := Lib.hid (fun (w : World) (hb : Below W.heap.size W w) j u (hu : (fgV x (.slice ka x.kids.length kc))[j]? = some u) => (hb.cell (p := ⟨g, o + k * 7 + j, none⟩) hg).trans (hcell j u hu))
  have hkc : k ≤ c := by omega
  have hkl : (k : Int) < (l.length : Int) := by omega
  have hkn : (k : Int) + 1 ≤ (l.length : Int) := by omega
  have hk0 : (0 : Int) ≤ (k : Int) + 1 := by omega
  have w3' : IntKind.i64.wrap ((k : Int) + 1) = (k : Int) + 1 := IntWalk.i64_in _ (by omega)
  have hne1 : ((m : Int) + 1 == 1) = false := by rw [beq_eq_false_iff_ne]; omega
  have hm1 : (1 : Int) ≤ (m : Int) + 1 := by omega
  have hpc1 : ¬ pc = 1 := by omega
  have HFF1 := Lib.hid f1
  have HFF2 := Lib.hid f2
  have HPM := Lib.hid (putM_more (by' := by') hx hq)
  have HKL : Hid (k = (l.take k).length) := Lib.hid (by rw [List.length_take]; omega)
  obtain ⟨Y, hY⟩ : ∃ Y, Y = putM by' x.kids q := ⟨_, rfl⟩
  have HKM : Hid (k + 1 = (l.take k ++ [setK x Y]).length) := Lib.hid (by rw [List.length_append, ← HKL.out]; rfl)
  rw [← hY] at HC HPM
  rw [← hm] at HC ⊢
  have HCC := Lib.hid HC
  have HS := Lib.hid hS
  have HM0 : Hid ((0 + k) * 88 ≤ 140737488355328) := Lib.hid (by omega)
  have HM1 : Hid ((k + 1) * 88 ≤ 140737488355328) := Lib.hid (by omega)
  have HM2 : Hid ((k + 1 + (l.length - (k + 1))) * 88 ≤ 140737488355328) := Lib.hid (by omega)
  have HBA : Hid (Below W.heap.size W (W.alloc (.cells #[] 52))) := Lib.hid ((Below.refl _ _).alloc (Nat.le_refl _) _)
  have HMC : Hid (m ≤ pc - 1) := Lib.hid (by omega)
  obtain ⟨ba, bc, rfl, _⟩ := hb
  clear hc hcap hpr hps hr hr0 hrw hcell hkr f1 f2 hm hS hx hq HC hqpos hY hpc hpl
  go_enter Tryz.func59, Tryz.ntmps59
  go_wp2_with (at_builtin; go_loud (refine wpList_append_frags rfl _ _ rfl W.heap.size (some ⟨W.heap.size, 0, none⟩) 0 0 [] (l.take k) rfl (jq_empty (Q := fun b => b < S ∨ W.heap.size ≤ b) W) rfl (Nat.le_refl _) _ (some ⟨g, o, none⟩) k c rfl (HFF1.out.below HBA.out) (fun b hb _ => ⟨fresh_ne hb HS.out, .inl hb⟩) HM0.out (by simp) (W.heap.size + 1) (by simp) ?_); intro b1 c1 w1 h1; have HL1 := Lib.hid (h1.low (by omega)); have HB1 := Lib.hid (h1.belo (Nat.le_refl _) HBA.out (by simp)); rw [Nat.zero_add] at HL1 ⊢; have HJ1 : Hid (JQ (fun b => b < S ∨ W.heap.size ≤ b) w1 W.heap.size (.slice b1 k c1) (l.take k)) := Lib.hid (by have := h1.1; rwa [Nat.zero_add, List.nil_append] at this); have HC1 : Hid (k ≤ c1) := Lib.hid (by have := h1.2.1; omega); have hcc := HCELL.out w1 HB1.out; have c0 : w1.cell? ⟨g, o + k * 7, none⟩ = some (.int .i64 x.tok.1) := hcc 0 _ rfl; have cc1 : w1.cell? ⟨g, o + k * 7 + 1, none⟩ = some (.int .i64 x.tok.2.1) := hcc 1 _ rfl; have c2 : w1.cell? ⟨g, o + k * 7 + 2, none⟩ = some (.string x.tok.2.2.1) := hcc 2 _ rfl; have c3 : w1.cell? ⟨g, o + k * 7 + 3, none⟩ = some (.int .i64 x.tok.2.2.2.1) := hcc 3 _ rfl; have cc4 : w1.cell? ⟨g, o + k * 7 + 4, none⟩ = some (.int .i64 x.tok.2.2.2.2) := hcc 4 _ rfl; have c5 : w1.cell? ⟨g, o + k * 7 + 5, none⟩ = some (.string x.opn) := hcc 5 _ rfl; have c6 : w1.cell? ⟨g, o + k * 7 + 6, none⟩ = some (.slice ka x.kids.length kc) := hcc 6 _ rfl; clear h1 hcc)
  have HBX : Hid (Below W.heap.size W (w1.alloc (.cells #[.int .i64 x.tok.1, .int .i64 x.tok.2.1, .string x.tok.2.2.1, .int .i64 x.tok.2.2.2.1, .int .i64 x.tok.2.2.2.2, .string x.opn, .slice ka x.kids.length kc] 52)).drew) := Lib.hid ((HB1.out.alloc HB1.out.size _).drew)
  have HXX : Hid (∀ kv, fgV (setK x Y) kv = [.int .i64 x.tok.1, .int .i64 x.tok.2.1, .string x.tok.2.2.1, .int .i64 x.tok.2.2.2.1, .int .i64 x.tok.2.2.2.2, .string x.opn, kv]) := Lib.hid (fun kv => rfl)
  have HU1 := Lib.hid HJ1.out.own_lt
  go_region_law (go_simp; go_at_call 59; refine (HCC.out _ HBX.out _ (HKV.out.below HBX.out) (HKC.out.keep HKV.out (fun b _ z => HBX.out.block b z)) _ _ (HPS.out _ HBX.out) HMC.out).mono ?_; rintro e w4 ⟨_, rfl, ⟨a4, c4, rfl, hr4⟩, hb4⟩; have hv4 : FVal w4 (fun b => b < S ∨ w1.heap.size + 1 ≤ b) (.slice a4 Y.length c4) Y := FVal.keep (w := w4) (P := fun b => b < S ∨ _ ≤ b) ⟨a4, c4, rfl, hr4⟩ (fun b hb _ => ⟨hb.imp id (fun h => by simp at h; exact h), rfl⟩) (Nat.le_refl _); have HV4 := Lib.hid hv4; have hx4 : w4.heap[w1.heap.size]? = some (.cells #[.int .i64 x.tok.1, .int .i64 x.tok.2.1, .string x.tok.2.2.1, .int .i64 x.tok.2.2.2.1, .int .i64 x.tok.2.2.2.2, .string x.opn, .slice ka x.kids.length kc] 52) := (hb4.block w1.heap.size (by simp)).trans (heap_alloc_new w1 _); have HB14 : Hid (Below w1.heap.size w1 w4) := Lib.hid (((Below.refl w1.heap.size w1).alloc (Nat.le_refl _) _).drew.trans (hb4.mono (by simp))); have HZ4 : Hid (w1.heap.size + 1 ≤ w4.heap.size) := Lib.hid (by have := hb4.size; simp at this; exact this); obtain ⟨d0, d1, d2, d3, d4, d5, d6, df⟩ := seven_cells hx4; have HX5 := Lib.hid (six_set (y := .slice a4 Y.length c4) hx4); clear hr4 hb4 hv4 hx4)
  all_goals go_wp2_with fail
  have hb5 : Below w1.heap.size w1 (w4.setCell ⟨w1.heap.size, 6, none⟩ (.slice a4 Y.length c4)) := HB14.out.setCell (p := ⟨w1.heap.size, 6, none⟩) (Nat.le_refl _) _
  have hz5 : w1.heap.size + 1 ≤ (w4.setCell ⟨w1.heap.size, 6, none⟩ (.slice a4 Y.length c4)).heap.size := by have := HZ4.out; simpa [World.setCell] using this
  have hv5 : FVal (w4.setCell ⟨w1.heap.size, 6, none⟩ (.slice a4 Y.length c4)) (fun b => b < S ∨ w1.heap.size + 1 ≤ b) (.slice a4 Y.length c4) Y := HV4.out.keep (fun b hb _ => ⟨hb, Below.heap_setCell _ _ _ _ (by have := HS.out; have := HB1.out.size; show b ≠ w1.heap.size; omega)⟩) (by simp [World.setCell])
  clear d0 d1 d2 d3 d4 d5 d6 df HB14 HZ4 HV4
  have hx5 := HX5.out
  clear HX5
  generalize w4.setCell ⟨w1.heap.size, 6, none⟩ (.slice a4 Y.length c4) = w5 at *
  obtain ⟨m0, m1, m2, m3, m4, m5, m6, mf⟩ := seven_cells hx5
  have HB5 := Lib.hid hb5
  have HJW := Lib.hid (fun (w' : World) (hb : Below w1.heap.size w1 w') => HJ1.out.below hb)
  have HOW : Hid (∀ w' : World, Below w5.heap.size w5 w' → w'.heap[w5.heap.size]? = some (.cells #[.int .i64 x.tok.1, .int .i64 x.tok.2.1, .string x.tok.2.2.1, .int .i64 x.tok.2.2.2.1, .int .i64 x.tok.2.2.2.2, .string x.opn, .slice a4 Y.length c4] 52) → FVal w' (fun b => b < S ∨ w1.heap.size + 1 ≤ b) (.slice (some ⟨w5.heap.size, 0, none⟩) 1 1) [setK x Y]) := Lib.hid (fun w' hb hx => one_valP (kv := .slice a4 Y.length c4) (.inr hz5) (by rw [HXX.out]; exact hx) (hv5.below hb))
  have HF2W := Lib.hid (fun (w' : World) (hb : Below w1.heap.size w1 w') => HFF2.out.below (HB1.out.trans (hb.mono HB1.out.size)))
  have hzz : w1.heap.size ≤ w5.heap.size := by omega
  have HZZ := Lib.hid hzz
  have HNE1 : Hid (∀ b, b < S ∨ w1.heap.size + 1 ≤ b → (Value.slice b1 k c1).ownBlock ≠ some b ∧ (b < S ∨ W.heap.size ≤ b)) := Lib.hid (fun b hb => ⟨hb.elim (fun h => low_ne h HS.out HL1.out) (fun h e => by have := HU1.out b e; omega), hb.imp id (fun h => by have := HB1.out.size; omega)⟩)
  clear hb5 hz5 hv5 hx5 hzz
  go_region_law (first
   | (refine step_append_frags rfl (.tmp 40) (.tmp 42) rfl W.heap.size b1 k c1 (l.take k) [setK x Y] (by rfl) (HJW.out _ (by first | exact (HB5.out.alloc HZZ.out _).drew | exact HB5.out.drew.alloc HZZ.out _ | exact HB5.out.alloc HZZ.out _)) HKL.out HC1.out _ (some ⟨w5.heap.size, 0, none⟩) 1 1 (by rfl) (HOW.out _ (by first | exact ((Below.refl w5.heap.size w5).alloc (Nat.le_refl _) _).drew | exact (Below.refl w5.heap.size w5).drew.alloc (Nat.le_refl _) _ | exact (Below.refl w5.heap.size w5).alloc (Nat.le_refl _) _) (by first | exact heap_alloc_new w5 _ | exact heap_alloc_new w5.drew _)) (fun b hb _ => HNE1.out b hb) HM1.out (by have := HZZ.out; have := HB1.out.size; simp; omega) (w5.heap.size + 1) (by simp) ?_; intro b2 c2 w6 h2; have HL2 := Lib.hid (h2.low (by have := HZZ.out; have := HB1.out.size; omega)); have HB2 : Hid (Below W.heap.size W w6) := Lib.hid (h2.belo (Nat.le_refl _) (HB1.out.trans (Below.mono (by first | exact (HB5.out.alloc HZZ.out _).drew | exact HB5.out.drew.alloc HZZ.out _ | exact HB5.out.alloc HZZ.out _) HB1.out.size)) (by have := HZZ.out; have := HB1.out.size; simp; omega)); have HJ2 := Lib.hid h2.1; have HC2 := Lib.hid h2.2.1; clear h2)
   | (refine step_append_frags rfl (.tmp 43) (.tmp 47) rfl W.heap.size b2 (k + 1) c2 (l.take k ++ [setK x Y]) (l.drop (k + 1)) (by rfl) HJ2.out HKM.out HC2.out _ _ (l.length - (k + 1)) (c - (k + 1)) (by rfl) (HFF2.out.below HB2.out) (fun b hb _ => ⟨low_ne hb HS.out HL2.out, .inl hb⟩) HM2.out HB2.out.size w6.heap.size (by simp) ?_; intro b3 c3 w7 h3; have HB3 := Lib.hid (h3.belo (Nat.le_refl _) HB2.out HB2.out.size); have HJ3 := Lib.hid h3.1; clear h3))
  all_goals go_wp2_with fail
  all_goals exact bodyPost_ret (v := .slice b3 (k + 1 + (l.length - (k + 1))) c3) (by simp [results, Tryz.results59, go_sem]) rfl ⟨_, rfl, by rw [HPM.out]; exact HJ3.out.val (fun b h => h) (fun b h => .inr h), HB3.out⟩
theorem rput_any (S : Nat) (by' : List Fg) (bv : Value) (b1 : by'.length ≤ 1048576) : ∀ (p : List Int) (l : List Fg) (a : Option Addr) (n c : Nat) (pb : Option Addr) (pc : Nat) (W : World), S ≤ W.heap.size → FVal W (fun b => b < S) (.slice a n c) l → ValC W (.slice a n c) l → IntRow W (.slice pb p.length pc) p → p.length ≤ pc → p.length ≤ 1048576 →
    FVal W (fun b => b < S) bv by' → l.length ≤ 1048576 → FgsLe 1048576 l → p ≠ [] → (walkP l p).isSome = true → Calls Tryz.prog 59 #[.slice a n c, .slice pb p.length pc, bv] W (RputPost S (putM by' l p) W)
  | [], _, _, _, _, _, _, _, _, _, _, _, _, _, _, _, _, hne, _ => absurd rfl hne
  | i :: q, l, a, n, c, pb, pc, W, hS, hv, hc, hp, hpc, hpl, hb, h1, h2, _, hw => by
    unfold walkP at hw
    cases hg : getI l i with
    | none => rw [hg] at hw; cases hw
    | some x =>
      rw [hg] at hw
      simp only at hw
      obtain ⟨k, rfl, hk, hx⟩ := getI_some hg
      by_cases hq : q = []
      · subst hq
        exact rput_last S by' l a n c k x pb pc bv W hS hv hc.cap hp hx hb h1 b1
      · refine rput_more S by' l a n c k x q pb pc bv W hS hv hc hp hpc (by simp at hpl; omega) hx hq hb h1 fun w hbw kv hkv hkc qb qc hq1 hq2 => ?_
        obtain ⟨ka, kc, rfl, hkr⟩ := hkv
        exact rput_any S by' bv b1 q x.kids ka x.kids.length kc qb qc w (Nat.le_trans hS hbw.size) ⟨ka, kc, rfl, hkr⟩ hkc hq1 hq2 (by simp at hpl; omega) (hb.below hbw) (h2.get hx).1 (h2.get hx).2 hq (by cases h : walkP x.kids q with | some _ => rfl | none => rw [h] at hw; cases hw)
end

end Go.Proofs.YtafncodigpjkaaaGreatDoor
