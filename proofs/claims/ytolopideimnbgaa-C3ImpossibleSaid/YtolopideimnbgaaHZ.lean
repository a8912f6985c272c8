/-
  All: the walk.
-/
import Derived.Test.YtolopideimnbgaaHY
import Derived.RegionTactic
namespace Go.Proofs.Ytolopideimnbgaa
open Go.RowKit

def allTo (g : List Hr) : Nat → Except Nat (List Nms)
  | 0 => .ok []
  | k + 1 => match allTo g k with
    | .error e => .error e
    | .ok ls => match linM g k with
      | .ok l => .ok (ls ++ [l])
      | .error j => .error j
def allM (g : List Hr) : Except (Nat × Int) (List Nms) := if checkM g = 0 then
    match allTo g g.length with
    | .ok ls => .ok ls
    | .error j => .error (j, 71)
  else .error (0, checkM g)
/-- All linearizations, or an error. -/
def ARes (r : Except (Nat × Int) (List Nms)) (W : World) (e : Ending) (w' : World) : Prop :=
  Below W.heap.size W w' ∧ match r with
  | .ok ls => ∃ v, e = .returned (.tuple #[v, .int .i64 0, .int .i64 0]) ∧ LRow w' (fun b => W.heap.size ≤ b) v ls
  | .error c => e = .returned (.tuple #[.slice none 0 0, .int .i64 (c.1 : Int), .int .i64 c.2])
theorem allTo_stop {g : List Hr} {k j : Nat} (h : allTo g k = .error j) : ∀ n, k ≤ n → allTo g n = .error j := by
  intro n hn
  induction n with
  | zero => have : k = 0 := by omega
            subst this; exact h
  | succ n ih =>
    by_cases e : k = n + 1
    · subst e; exact h
    · show (match allTo g n with | .error e => _ | .ok ls => _) = _
      rw [ih (by omega)]
theorem all_len {g : List Hr} : ∀ (k : Nat) (ls : List Nms), allTo g k = .ok ls → ls.length = k
  | 0, _, h => by cases h; rfl
  | k + 1, ls, h => by
    have h : (match allTo g k with | .error e => Except.error e | .ok ls => match linM g k with | .ok l => .ok (ls ++ [l]) | .error j => .error j) = Except.ok ls := h
    cases hk : allTo g k with
    | error e => rw [hk] at h; cases h
    | ok l2 =>
      rw [hk] at h
      simp only at h
      cases hl : linM g k with
      | error e => rw [hl] at h; cases h
      | ok l => rw [hl] at h; cases h; have := all_len k l2 hk; simp; omega
/-- The loop of All. -/
structure ZAt (g : List Hr) (gv : Value) (W : World) (base hb ab kb k : Nat) (v : Value) (ls : List Nms) (wr : World) : Prop where
  blk : wr.heap[W.heap.size]? = some (.cells #[v] 31)
  own : LOwn wr base (fun b => W.heap.size + 3 ≤ b ∧ v.ownBlock ≠ some b ∧ b ≠ kb) v ls
  eq : allTo g k = .ok ls
  known : KnownAt wr kb g (fun b => W.heap.size + 3 ≤ b ∧ v.ownBlock ≠ some b)
  at1 : wr.heap[W.heap.size + 1]? = some (.cells #[.int .i64 0] 3)
  at2 : wr.heap[W.heap.size + 2]? = some (.cells #[.int .i64 0] 25)
  hier : HierAt wr W.heap.size hb ab kb gv g
  below : Below W.heap.size W wr
  size : base ≤ wr.heap.size
  par : W.heap.size + 3 ≤ base ∧ hb < base ∧ ab < base ∧ kb < base ∧ W.heap.size + 3 ≤ hb ∧ W.heap.size + 3 ≤ ab ∧ W.heap.size + 3 ≤ kb
def AftLin (g : List Hr) (gv : Value) (W : World) (base hb ab kb k : Nat) (va : Option Addr) (vc : Nat) (ls : List Nms) (l : Nms) (ub : Option Addr) (uc : Nat) (w4 : World) : Prop :=
    w4.cell? ⟨W.heap.size, 0, none⟩ = some (.slice va ls.length vc) ∧ (w4.alloc (.cells #[.slice ub l.length uc] 24)).cell? ⟨W.heap.size, 0, none⟩ = some (.slice va ls.length vc) ∧
    (LOwn (w4.alloc (.cells #[.slice ub l.length uc] 24)) base (fun b => (W.heap.size + 3 ≤ b ∧ (Value.slice va ls.length vc).ownBlock ≠ some b ∧ b ≠ kb) ∧ b < w4.heap.size) (.slice va ls.length vc) ls ∧ (w4.alloc (.cells #[.slice ub l.length uc] 24)).heap[w4.heap.size]? = some (.cells #[.slice ub l.length uc] 24) ∧
      SRow (w4.alloc (.cells #[.slice ub l.length uc] 24)) (fun b => (W.heap.size + 3 ≤ b ∧ (Value.slice va ls.length vc).ownBlock ≠ some b ∧ b ≠ kb) ∧ b < w4.heap.size) (.slice ub l.length uc) l ∧ (∀ q, ((W.heap.size + 3 ≤ q ∧ (Value.slice va ls.length vc).ownBlock ≠ some q ∧ q ≠ kb) ∧ q < w4.heap.size) → (Value.slice va ls.length vc).ownBlock ≠ some q) ∧ base ≤ (w4.alloc (.cells #[.slice ub l.length uc] 24)).heap.size ∧
      ∀ g7 cap w7, LOwn w7 base (fun b => (W.heap.size + 3 ≤ b ∧ (Value.slice va ls.length vc).ownBlock ≠ some b ∧ b ≠ kb) ∧ b < w4.heap.size) (.slice (some ⟨g7, 0, none⟩) (ls.length + 1) cap) (ls ++ [l]) → (w4.alloc (.cells #[.slice ub l.length uc] 24)).grownBy w7 (Value.slice va ls.length vc).ownBlock → ((Value.slice va ls.length vc).ownBlock = some g7 ∨ g7 = w4.heap.size + 1) →
        w7.cell? ⟨W.heap.size, 0, none⟩ = some (.slice va ls.length vc) ∧ w7.frozen? ⟨W.heap.size, 0, none⟩ = false ∧ ZAt g gv W base hb ab kb (k + 1) (.slice (some ⟨g7, 0, none⟩) (ls.length + 1) cap) (ls ++ [l]) (w7.setCell ⟨W.heap.size, 0, none⟩ (.slice (some ⟨g7, 0, none⟩) (ls.length + 1) cap)))
theorem after_lin {g : List Hr} {gv : Value} {W wr w4 : World} {base hb ab kb k : Nat} {va : Option Addr} {vc : Nat} {ls : List Nms} {l : Nms} {ub : Option Addr} {uc : Nat} (hj : ZAt g gv W base hb ab kb k (.slice va ls.length vc) ls wr)
    (hk4 : Keep (fun b => b = kb) wr w4) (hkn4 : KnownAt w4 kb g (fun b => (W.heap.size + 3 ≤ b ∧ (Value.slice va ls.length vc).ownBlock ≠ some b) ∨ wr.heap.size ≤ b))
    (hs4 : SRow w4 (fun b => ((W.heap.size + 3 ≤ b ∧ (Value.slice va ls.length vc).ownBlock ≠ some b) ∨ wr.heap.size ≤ b) ∧ b ≠ kb) (.slice ub l.length uc) l) (hl : linM g k = .ok l) :
    AftLin g gv W base hb ab kb k va vc ls l ub uc w4 := by
  obtain ⟨p1, p2, p3, p4, p5, p6, p7⟩ := hj.par
  have hz := hj.size
  have hz4 := hk4.size
  have ho : ∀ b, (Value.slice va ls.length vc).ownBlock = some b → base ≤ b ∧ b < wr.heap.size := fun b e => hj.own.lt b e
  have m4 := (hk4.block W.heap.size (by omega) (by omega)).trans hj.blk
  have hbx := (Below.refl w4.heap.size w4).alloc (Nat.le_refl _) (.cells #[.slice ub l.length uc] 24)
  have hown4 : LOwn w4 base (fun b => W.heap.size + 3 ≤ b ∧ (Value.slice va ls.length vc).ownBlock ≠ some b ∧ b ≠ kb) (.slice va ls.length vc) ls := hj.own.keep (fun q e => hk4.block q (ho q e).2 (by have := (ho q e).1; omega)) (fun b hb hz => hk4.block b hz hb.2.2) hz4
  have hs4' : SRow w4 (fun b => (W.heap.size + 3 ≤ b ∧ (Value.slice va ls.length vc).ownBlock ≠ some b ∧ b ≠ kb) ∧ b < w4.heap.size) (.slice ub l.length uc) l := hs4.mono fun b hb h => by
    refine ⟨?_, hb⟩
    rcases h.1 with h1 | h1
    · exact ⟨h1.1, h1.2, h.2⟩
    · exact ⟨by omega, fun e => by have := (ho b e).2; omega, h.2⟩
  refine ⟨by rw [cellOf m4]; rfl, by rw [cellOf ((hbx.block _ (by omega)).trans m4)]; rfl, (hown4.mono (Q' := fun b => (W.heap.size + 3 ≤ b ∧ (Value.slice va ls.length vc).ownBlock ≠ some b ∧ b ≠ kb) ∧ b < w4.heap.size) fun b hb h => ⟨h, hb⟩).below hbx, heap_alloc_new w4 _, hs4'.below hbx, fun q hq => hq.1.2.1, by simp; omega, fun g7 cap w7 h1 h2 h3 => ?_⟩
  have m7 : w7.heap[W.heap.size]? = some (.cells #[.slice va ls.length vc] 31) := (h2.block _ (by simp; omega) fun e => by have := ho _ e.symm; omega).trans ((hbx.block _ (by omega)).trans m4)
  have k47 : Keep (fun b => b = W.heap.size ∨ (Value.slice va ls.length vc).ownBlock = some b) w4 (w7.setCell ⟨W.heap.size, 0, none⟩ (.slice (some ⟨g7, 0, none⟩) (ls.length + 1) cap)) := ((Keep.of_below hbx).trans (Keep.of_grown h2 fun q e => .inr e)).setCell (.inl (.inl rfl)) _ _
  have kf : Keep (fun b => b = kb ∨ b = W.heap.size ∨ (Value.slice va ls.length vc).ownBlock = some b) wr (w7.setCell ⟨W.heap.size, 0, none⟩ (.slice (some ⟨g7, 0, none⟩) (ls.length + 1) cap)) := (hk4.mono fun b _ e => .inl e).trans (k47.mono fun b _ e => .inr e)
  refine ⟨by rw [cellOf m7]; rfl, frozenOf m7, heap_setCell_same _ _ 0 _ _ _ m7, ?_, ?_, ?_, ?_, ?_, ?_, ?_, ?_, hj.par⟩
  · have hlen : (ls ++ [l]).length = ls.length + 1 := by simp
    have hg7 : base ≤ g7 := (h1.lt g7 rfl).1
    refine ((h1.keep (w' := w7.setCell ⟨W.heap.size, 0, none⟩ (.slice (some ⟨g7, 0, none⟩) (ls.length + 1) cap)) (fun q e => Below.heap_setCell _ _ _ _ (by cases e; show g7 ≠ W.heap.size; omega)) (fun b hb _ => Below.heap_setCell _ _ _ _ (by show b ≠ W.heap.size; omega)) (by simp))).mono fun b hb hq => ⟨hq.1.1, ?_, hq.1.2.2⟩
    intro e
    have e : some g7 = some b := e
    cases e
    rcases h3 with h | h
    · exact hq.1.2.1 h
    · have := hq.2; omega
  · show (match allTo g k with | .error e => _ | .ok ls => _) = _
    rw [hj.eq]
    simp only
    rw [hl]
  · refine ((hkn4.mono (S' := fun b => ((W.heap.size + 3 ≤ b ∧ (Value.slice va ls.length vc).ownBlock ≠ some b)) ∧ b < w4.heap.size) fun b hb h => ⟨?_, hb⟩).keep (k47.block kb hkn4.choose_spec.1.lt (fun e => e.elim (by omega) fun e => by have := ho _ e; omega)) (fun b hb _ hz => k47.block b hz fun e => e.elim (by omega) fun e => hb.1.2 e) k47.size).mono fun b hb h => ⟨h.1.1, ?_⟩
    · rcases h with h | h
      · exact h
      · exact ⟨by omega, fun e => by have := (ho b e).2; omega⟩
    · intro e
      have e : some g7 = some b := e
      cases e
      rcases h3 with h3 | h3
      · exact h.1.2 h3
      · have := h.2; omega
  · exact (kf.block _ (by omega) (fun e => e.elim (by omega) fun e => e.elim (by omega) fun e => by have := ho _ e; omega)).trans hj.at1
  · exact (kf.block _ (by omega) (fun e => e.elim (by omega) fun e => e.elim (by omega) fun e => by have := ho _ e; omega)).trans hj.at2
  · exact hj.hier.keep kf fun b h => by
      rcases h with h | h | h
      · have := hj.hier.ne; omega
      · omega
      · have := ho _ h; omega
  · exact hj.below.trans (kf.below (fun b h => by
      rcases h with h | h | h
      · omega
      · omega
      · have := ho _ h; omega) hj.below.size)
  · have := kf.size; omega
theorem step_append_lst {ops : Array Oper} {o : Oper} {a : Act} {w : World} {K : Act → World → Prop} {Q : Exit → Act → World → Prop} {E : Prop} (hgd : o.guard = none) (s x : Operand)
    (ho : o.op = .call { callee := .builtin .append, args := #[s, x], argTypes := #[31, 31] }) (base : Nat) (R : Nat → Prop) (v : Value) (ls : List Nms) (hs : a.eval s = v) (hown : LOwn w base R v ls)
    (b c : Nat) (lb : Option Addr) (lc : Nat) (l : Nms) (hx : a.eval x = .slice (some ⟨b, 0, none⟩) 1 c) (hc : w.heap[b]? = some (.cells #[.slice lb l.length lc] 24)) (hr : SRow w R (.slice lb l.length lc) l) (hR : ∀ k, R k → v.ownBlock ≠ some k) (hl : ls.length + 1 ≤ 1099511627776) (hbase : base ≤ w.heap.size) (H : Nat) (hH : w.heap.size = H)
    (h : ∀ g cap w', LOwn w' base R (.slice (some ⟨g, 0, none⟩) (ls.length + 1) cap) (ls ++ [l]) → w.grownBy w' v.ownBlock → (v.ownBlock = some g ∨ g = H) → K (a.put o.dst (.slice (some ⟨g, 0, none⟩) (ls.length + 1) cap)) w') :
    if Region.wanted o (yielded ops a.tmps) = true then Oper.wp Try.prog o a w K Q else E := by
  obtain ⟨i, hi, hz0, hz1, hz2⟩ := info_parts infoStrs
  obtain ⟨us, h1, h2⟩ := hown
  have hus : us.length = ls.length := by have := h1.1; omega
  refine step_append_lies w hgd s x 31 ho base 24 i _ 1 24 Try.underlying31 hi hz0 hz1 hz2 rfl (by omega) v ls.length us hs h1 ⟨b, 0, none⟩ 1 c [.slice lb l.length lc] hx rfl (new_one hc) (by simp [Value.oneCell']) (by omega) (by unfold maxLen; omega) (by omega) hbase H hH ?_
  intro g cap w' h3 h4 h5 _
  refine h g cap w' ⟨us ++ [.slice lb l.length lc], by rw [List.length_append]; exact h3, fun j l' hj => ?_⟩ h4 h5
  have hk : ∀ q, R q → q < w.heap.size → w'.heap[q]? = w.heap[q]? := fun q hq hz => h4.block q hz fun e => hR q hq e.symm
  by_cases hlt : j < ls.length
  · rw [List.getElem?_append_left hlt] at hj
    obtain ⟨u, h6, h7⟩ := h2 j l' hj
    exact ⟨u, by rw [List.getElem?_append_left (by omega)]; exact h6, h7.keep hk h4.size⟩
  · have hj2 := (List.getElem?_eq_some_iff.1 hj).1
    simp at hj2
    have : j = ls.length := by omega
    subst this
    simp at hj
    subst hj
    exact ⟨_, by rw [← hus]; simp, hr.keep hk h4.size⟩
def ReadsAll (bl : Nat) (tm : Array Value) : Prop := ∀ (W : World) (a : Value) (x y : Int), W.cell? ⟨bl, 0, none⟩ = some a → W.cell? ⟨bl + 1, 0, none⟩ = some (.int .i64 x) → W.cell? ⟨bl + 1 + 1, 0, none⟩ = some (.int .i64 y) → (results Try.f25 tm).run Try.prog W = .ok (.tuple #[a, .int .i64 x, .int .i64 y]) W
theorem all_out {g : List Hr} {gv : Value} {W wr w4 : World} {base hb ab kb k j : Nat} {v : Value} {ls : List Nms} {R : Except (Nat × Int) (List Nms)} {tm : Array Value} (hj : ZAt g gv W base hb ab kb k v ls wr) (hk : Keep (fun b => b = kb) wr.drew w4) (hF : R = .error (j, 71)) (hres : ReadsAll W.heap.size tm) :
    Leaves Try.prog Try.f25 tm (ARes R W) [{ target := .fn (.func 60) #[.pointer (some ⟨W.heap.size, 0, none⟩), .pointer (some ⟨W.heap.size + 1, 0, none⟩), .pointer (some ⟨W.heap.size + 1 + 1, 0, none⟩)], args := #[] }] (.panicking (impCh j)) w4 := by
  have hz1 := hj.size
  have hz2 := hj.par
  have hz4 : wr.heap.size ≤ w4.heap.size := hk.size
  refine leaves_cons (f := 60) (args := #[.pointer (some ⟨W.heap.size, 0, none⟩), .pointer (some ⟨W.heap.size + 1, 0, none⟩), .pointer (some ⟨W.heap.size + 1 + 1, 0, none⟩)]) (by simp) (by simp [go_sem]) ?_
  have hbk : ∀ b, b < W.heap.size + 3 → w4.heap[b]? = wr.heap[b]? := fun b hb => hk.block b (show b < wr.heap.size by omega) (by omega)
  refine (catchA_yes j W.heap.size w4 (by omega) _ _ _ _ _ _ ((hbk _ (by omega)).trans hj.blk) ((hbk _ (by omega)).trans hj.at1) ((hbk _ (by omega)).trans hj.at2)).mono ?_
  rintro e u' w5 ⟨rfl, rfl, z0, z1, z2, hb5⟩
  have z2 : w5.cell? ⟨W.heap.size + 1 + 1, 0, none⟩ = some (.int .i64 71) := z2
  have k4 : Keep (fun b => b = kb) wr w4 := ⟨hk.os, hk.tape, hk.output, hk.size, hk.block⟩
  refine ⟨.tuple #[.slice none 0 0, .int .i64 (j : Int), .int .i64 71], hres w5 _ _ _ z0 z1 z2, hj.below.trans ((k4.below (fun k e => by omega) hj.below.size).trans hb5), ?_⟩
  rw [hF]
theorem wp_cut6 {c : Code} {a : Act} {w : World} {Q : Exit → Act → World → Prop} (s1 s2 s3 s4 s5 s6 : Nat) (J : World → Prop)
    (h : c.wp Try.prog (fun e a' w' => e = .normal ∧ (∃ x1 x2 x3 x4 x5 x6, a' = (((((a.put (some s1) x1).put (some s2) x2).put (some s3) x3).put (some s4) x4).put (some s5) x5).put (some s6) x6) ∧ J w') a w)
    (hq : ∀ x1 x2 x3 x4 x5 x6 w', J w' → Q .normal ((((((a.put (some s1) x1).put (some s2) x2).put (some s3) x3).put (some s4) x4).put (some s5) x5).put (some s6) x6) w') : c.wp Try.prog Q a w :=
  Code.wp_mono (fun e a' w' hh => by
    obtain ⟨rfl, ⟨x1, x2, x3, x4, x5, x6, rfl⟩, hj⟩ := hh
    exact hq _ _ _ _ _ _ _ hj) h
theorem three_cells (W : World) (o0 o1 o2 : Obj) (w' : World) (hb : Below (W.heap.size + 3) (((W.alloc o0).alloc o1).alloc o2) w') :
    w'.heap[W.heap.size]? = some o0 ∧ w'.heap[W.heap.size + 1]? = some o1 ∧ w'.heap[W.heap.size + 2]? = some o2 ∧ Below W.heap.size W w' ∧ W.heap.size + 3 ≤ w'.heap.size := by
  have a2 := heap_alloc_new ((W.alloc o0).alloc o1) o2
  have z2 : ((W.alloc o0).alloc o1).heap.size = W.heap.size + 2 := by simp
  rw [z2] at a2
  have hx : Below (W.heap.size + 2) ((W.alloc o0).alloc o1) w' := ((Below.refl _ ((W.alloc o0).alloc o1)).alloc (by simp) o2).trans (hb.mono (by omega))
  obtain ⟨h0, h1, h2, _⟩ := two_cells W o0 o1 w' hx
  exact ⟨h0, h1, (hb.block _ (by omega)).trans a2, h2, by have := hb.size; simp at this; omega⟩
set_option maxRecDepth 100000 in
set_option maxHeartbeats 8000000 in
theorem All_any (g : List Hr) (v : Value) (W : World) (hr : HRow W (fun b => b < W.heap.size) v g) (hz : ∀ x ∈ g, x.2.length ≤ 8796093022207) :
    Calls Try.prog 25 #[v] W (ARes (allM g) W) := by
  have hmf : ∀ (fn : Fn) (first cap : Array Value) (w : World), (Instr.makeFunc fn first cap).run Try.prog w = .ok (.func fn first cap) w := fun _ _ _ _ => rfl
  have H3 := Lib.hid (fun o0 o1 o2 w' hb => three_cells W o0 o1 o2 w' hb)
  have HB3 := Lib.hid (fun o0 o1 o2 => (((Below.refl _ W).alloc (Nat.le_refl _) o0).alloc (by simp) o1).alloc (by simp; omega) o2)
  have HCH := Lib.hid fun (w' : World) (hb : Below W.heap.size W w') => Check_any g (fun b => b < W.heap.size) v w' (hr.below hb) hz
  have HHI := Lib.hid fun (w' : World) (hb : Below W.heap.size W w') => hierarchyOf_any g v w' ((hr.below hb).mono fun b h _ => h)
  obtain ⟨vb, vc, rfl, _⟩ := id hr
  obtain ⟨R, hR⟩ : ∃ R, R = allM g := ⟨_, rfl⟩
  rw [← hR]
  have HR := Lib.hid hR
  have HRR := Lib.hid hr
  clear hR hr
  go_enter_defers Try.func25, Try.ntmps25
  go_wp2_with fail
  refine (HCH.out _ (HB3.out _ _ _)).mono ?_
  rintro e w1 ⟨rfl, hb1⟩
  obtain ⟨a0, a1, a2, hbw, hsz⟩ := H3.out _ _ _ w1 (hb1.mono (by simp))
  have HBW := Lib.hid hbw
  have HA0 := Lib.hid a0
  have HA1 := Lib.hid a1
  have HA2 := Lib.hid a2
  have HSZ := Lib.hid hsz
  clear hb1 H3 HB3 HCH hmf hbw
  by_cases h0 : checkM g = 0
  · rw [h0]
    have hhi := HHI.out w1 HBW.out (checkM_len h0)
    have HE : Hid (R = match allTo g g.length with | .ok ls => .ok ls | .error j => .error (j, 71)) := Lib.hid (by rw [HR.out]; unfold allM; rw [if_pos h0])
    have HG0 := Lib.hid h0
    have HL : Hid (g.length ≤ 120) := Lib.hid (checkM_len h0)
    clear h0 hz HHI a0 a1 a2 HR
    go_wp2_with fail
    refine hhi.mono ?_
    rintro e w2 ⟨rfl, hb2, hier, hkn⟩
    have HZ0 : Hid (ZAt g (.slice vb g.length vc) W w2.heap.size (w1.heap.size + 2) w1.heap.size (w1.heap.size + 1) 0 (.slice none 0 0) [] w2) := Lib.hid (by
      have hl := hkn.lt
      have hl2 := hier.pos.lt
      have hl3 := (Array.getElem?_eq_some_iff.1 hier.blk).1
      exact ⟨(hb2.block _ (by omega)).trans HA0.out, LOwn.nil _ _ _, rfl, known_none _ hkn, (hb2.block _ (by omega)).trans HA1.out, (hb2.block _ (by omega)).trans HA2.out, hier.narrow (HRR.out.below (HBW.out.trans (hb2.mono HBW.out.size))) (by omega), HBW.out.trans (hb2.mono HBW.out.size), Nat.le_refl _, by omega⟩)
    clear hb2 hier hkn hhi HA0 HA1 HA2
    go_wp2_with fail
    go_loopw [18] (fun iv wr => ∃ k : Nat, k ≤ g.length ∧ iv = .int .i64 (k : Int) ∧ Hid (∃ v ls, ZAt g (.slice vb g.length vc) W w2.heap.size (w1.heap.size + 2) w1.heap.size (w1.heap.size + 1) k v ls wr)) (fun iv _ => g.length - (intOf iv).toNat)
    case atStart => exact ⟨0, by omega, rfl, Lib.hid ⟨_, _, HZ0.out⟩⟩
    case round =>
      obtain ⟨k, hk, rfl, hst⟩ := hrel
      obtain ⟨v, ls, hj⟩ := hst.out
      obtain ⟨va, vc', rfl⟩ := hj.own.len
      have HJ := Lib.hid hj
      clear hst
      by_cases hlt : k < g.length
      · have hk2 : (k : Int) < (g.length : Int) := by omega
        have w3 : IntKind.i64.wrap ((k : Int) + 1) = (k : Int) + 1 := IntWalk.i64_in _ (by have := HL.out; omega)
        have hlin := lin_any g HG0.out W.heap.size (w1.heap.size + 2) w1.heap.size (w1.heap.size + 1) _ k hlt (fun b => W.heap.size + 3 ≤ b ∧ (Value.slice va ls.length vc').ownBlock ≠ some b) wr.drew (hj.hier.below (Below.refl _ wr).drew) (hj.known.below (Below.refl _ wr).drew)
        have HLIN := Lib.hid hlin
        have e0 : wr.cell? ⟨W.heap.size, 0, none⟩ = some (.slice va ls.length vc') := by rw [cellOf hj.blk]; rfl
        have HAFT := Lib.hid fun (w4 : World) (l : Nms) (ub : Option Addr) (uc : Nat) => after_lin (w4 := w4) (l := l) (ub := ub) (uc := uc) hj
        have HLS : Hid (ls.length = k) := Lib.hid (all_len k ls hj.eq)
        have HEQ := Lib.hid hj.eq
        clear hj hlin
        cases hM : linM g k with
        | ok l =>
          have HEQ2 : Hid (allTo g (k + 1) = .ok (ls ++ [l])) := Lib.hid (by
            show (match allTo g k with | .error e => _ | .ok ls => _) = _
            rw [HEQ.out]
            simp only
            rw [hM])
          have HL2 : Hid (Calls Try.prog 58 #[.pointer (some ⟨w1.heap.size + 2, 0, none⟩), .int .i64 (k : Int)] wr.drew fun e w4 => ∃ ub uc, e = .returned (.slice ub l.length uc) ∧ Hid (AftLin g (.slice vb g.length vc) W w2.heap.size (w1.heap.size + 2) w1.heap.size (w1.heap.size + 1) k va vc' ls l ub uc w4)) := Lib.hid (HLIN.out.mono fun e w4 h => by
            obtain ⟨hk4, hkn4, hres⟩ := h
            rw [hM] at hres
            obtain ⟨u, rfl, hsr⟩ := hres
            obtain ⟨ub, uc, rfl, _⟩ := id hsr
            exact ⟨ub, uc, rfl, Lib.hid (HAFT.out w4 l ub uc ⟨hk4.os, hk4.tape, hk4.output, hk4.size, hk4.block⟩ hkn4 hsr hM)⟩)
          clear hM HLIN HAFT
          go_wp2_with fail
          refine wp_cut6 21 22 23 24 25 26 (fun w' => ∃ v ls, ZAt g (.slice vb g.length vc) W w2.heap.size (w1.heap.size + 2) w1.heap.size (w1.heap.size + 1) (k + 1) v ls w') ?_ ?_
          · refine wp_region_any (by kernel_rfl) ?_
            change wpAny _ _ _ _ _ _ _ (World.drew _)
            refine wpAny_take (i := 1) (v := ?_) rfl (by kernel_rfl) (by kernel_rfl) (by kernel_rfl) (fun _ _ _ h => nomatch h.1) (Or.inl ⟨by rfl, ?_⟩) ?_
            rotate_left
            · (intro w; go_simp); try with_reducible rfl
            refine wpAny_take (i := 2) (v := ?_) rfl (by kernel_rfl) (by kernel_rfl) (by kernel_rfl) (fun _ _ _ h => nomatch h.1) (Or.inl ⟨by rfl, ?_⟩) ?_
            rotate_left
            · (intro w; go_simp); try with_reducible rfl
            refine wpAny_ready (rs := [0, 3]) (by kernel_rfl) (by simp) ?_
            refine AllReady.cons rfl (fun K hK => ?_) ?_
            · go_simp
              refine hK _ _ ?_
              clear hK K
              refine wpAny_ready (rs := [3]) (by kernel_rfl) (by simp) ?_
              refine AllReady.cons rfl (fun K hK => ?_) ?_
              · go_simp
                refine HL2.out.mono ?_
                rintro e w4 ⟨ub, uc, rfl, hck⟩
                obtain ⟨a0, a1, HCK'⟩ := hck.out
                have HCK := Lib.hid HCK'
                clear hck HCK'
                refine hK _ _ ?_
                clear hK K
                refine wpAny_ready (rs := [4]) (by kernel_rfl) (by simp) ?_
                refine AllReady.cons rfl (fun K hK => ?_) ?_
                · go_simp
                  refine hK _ _ ?_
                  clear hK K
                  refine wpAny_ready (rs := [5]) (by kernel_rfl) (by simp) ?_
                  refine AllReady.cons rfl (fun K hK => ?_) ?_
                  · refine step_append_lst rfl (.tmp 21) (.tmp 25) rfl w2.heap.size _ (.slice va ls.length vc') ls (by rfl) HCK.out.1 _ _ ub uc l (by rfl) HCK.out.2.1 HCK.out.2.2.1 HCK.out.2.2.2.1 (by have := HLS.out; have := HL.out; omega) HCK.out.2.2.2.2.1 (w4.heap.size + 1) (by simp) ?_
                    intro g7 cap7 w7 hown7 hgr7 hat7
                    obtain ⟨c7, f7, hzn⟩ := HCK.out.2.2.2.2.2 _ _ _ hown7 hgr7 hat7
                    have HZN := Lib.hid hzn
                    clear hown7 hgr7 hat7 hzn
                    refine hK _ _ ?_
                    clear hK K
                    refine wpAny_ready (rs := [6]) (by kernel_rfl) (by simp) ?_
                    refine AllReady.cons rfl (fun K hK => ?_) ?_
                    · go_simp
                      refine hK _ _ ?_
                      clear hK K
                      refine wpAny_done (by kernel_rfl) ?_ _
                      exact ⟨rfl, ⟨_, _, _, _, _, _, rfl⟩, _, _, HZN.out⟩
                    exact AllReady.nil
                  exact AllReady.nil
                exact AllReady.nil
              exact AllReady.nil
            refine AllReady.cons rfl (fun K hK => ?_) ?_
            · go_simp
              refine HL2.out.mono ?_
              rintro e w4 ⟨ub, uc, rfl, hck⟩
              obtain ⟨a0, a1, HCK'⟩ := hck.out
              have HCK := Lib.hid HCK'
              clear hck HCK'
              refine hK _ _ ?_
              clear hK K
              refine wpAny_ready (rs := [0, 4]) (by kernel_rfl) (by simp) ?_
              refine AllReady.cons rfl (fun K hK => ?_) ?_
              · go_simp
                refine hK _ _ ?_
                clear hK K
                refine wpAny_ready (rs := [4]) (by kernel_rfl) (by simp) ?_
                refine AllReady.cons rfl (fun K hK => ?_) ?_
                · go_simp
                  refine hK _ _ ?_
                  clear hK K
                  refine wpAny_ready (rs := [5]) (by kernel_rfl) (by simp) ?_
                  refine AllReady.cons rfl (fun K hK => ?_) ?_
                  · refine step_append_lst rfl (.tmp 21) (.tmp 25) rfl w2.heap.size _ (.slice va ls.length vc') ls (by rfl) HCK.out.1 _ _ ub uc l (by rfl) HCK.out.2.1 HCK.out.2.2.1 HCK.out.2.2.2.1 (by have := HLS.out; have := HL.out; omega) HCK.out.2.2.2.2.1 (w4.heap.size + 1) (by simp) ?_
                    intro g7 cap7 w7 hown7 hgr7 hat7
                    obtain ⟨c7, f7, hzn⟩ := HCK.out.2.2.2.2.2 _ _ _ hown7 hgr7 hat7
                    have HZN := Lib.hid hzn
                    clear hown7 hgr7 hat7 hzn
                    refine hK _ _ ?_
                    clear hK K
                    refine wpAny_ready (rs := [6]) (by kernel_rfl) (by simp) ?_
                    refine AllReady.cons rfl (fun K hK => ?_) ?_
                    · go_simp
                      refine hK _ _ ?_
                      clear hK K
                      refine wpAny_done (by kernel_rfl) ?_ _
                      exact ⟨rfl, ⟨_, _, _, _, _, _, rfl⟩, _, _, HZN.out⟩
                    exact AllReady.nil
                  exact AllReady.nil
                exact AllReady.nil
              refine AllReady.cons rfl (fun K hK => ?_) ?_
              · go_simp
                refine hK _ _ ?_
                clear hK K
                refine wpAny_ready (rs := [0]) (by kernel_rfl) (by simp) ?_
                refine AllReady.cons rfl (fun K hK => ?_) ?_
                · go_simp
                  refine hK _ _ ?_
                  clear hK K
                  refine wpAny_ready (rs := [5]) (by kernel_rfl) (by simp) ?_
                  refine AllReady.cons rfl (fun K hK => ?_) ?_
                  · refine step_append_lst rfl (.tmp 21) (.tmp 25) rfl w2.heap.size _ (.slice va ls.length vc') ls (by rfl) HCK.out.1 _ _ ub uc l (by rfl) HCK.out.2.1 HCK.out.2.2.1 HCK.out.2.2.2.1 (by have := HLS.out; have := HL.out; omega) HCK.out.2.2.2.2.1 (w4.heap.size + 1) (by simp) ?_
                    intro g7 cap7 w7 hown7 hgr7 hat7
                    obtain ⟨c7, f7, hzn⟩ := HCK.out.2.2.2.2.2 _ _ _ hown7 hgr7 hat7
                    have HZN := Lib.hid hzn
                    clear hown7 hgr7 hat7 hzn
                    refine hK _ _ ?_
                    clear hK K
                    refine wpAny_ready (rs := [6]) (by kernel_rfl) (by simp) ?_
                    refine AllReady.cons rfl (fun K hK => ?_) ?_
                    · go_simp
                      refine hK _ _ ?_
                      clear hK K
                      refine wpAny_done (by kernel_rfl) ?_ _
                      exact ⟨rfl, ⟨_, _, _, _, _, _, rfl⟩, _, _, HZN.out⟩
                    exact AllReady.nil
                  exact AllReady.nil
                exact AllReady.nil
              exact AllReady.nil
            exact AllReady.nil
          · intro x1 x2 x3 x4 x5 x6 w9 hzn
            have HZN := Lib.hid hzn
            clear hzn
            simp only [Act.put, List.setIfInBounds_toArray, List.set_cons_zero, List.set_cons_succ]
            go_wp2_with fail
            exact ⟨⟨k + 1, by omega, by go_num, HZN⟩, by simp only [intOf]; omega⟩
        | error j =>
          have HF : Hid (R = .error (j, 71)) := Lib.hid (by
            have h1 : allTo g (k + 1) = .error j := by
              show (match allTo g k with | .error e => _ | .ok ls => _) = _
              rw [HEQ.out]
              simp only
              rw [hM]
            rw [HE.out, allTo_stop h1 g.length (by omega)])
          have HL2 := Lib.hid (HLIN.out.mono fun e w4 h => by
            obtain ⟨hk4, hkn4, hres⟩ := h
            rw [hM] at hres
            exact (⟨hres, Lib.hid hk4⟩ : e = .panicked (impCh j) ∧ Hid _))
          clear hM HLIN HAFT HEQ
          simp only [impCh] at HL2
          go_wp2_with fail
          refine wp_region_any (by kernel_rfl) ?_
          change wpAny _ _ _ _ _ _ _ (World.drew _)
          refine wpAny_ready (rs := [0, 1, 2]) (by kernel_rfl) (by simp) ?_
          refine AllReady.cons rfl (fun K hK => ?_) ?_
          · go_simp
            refine hK _ _ ?_
            clear hK K
            refine wpAny_ready (rs := [1, 2]) (by kernel_rfl) (by simp) ?_
            refine AllReady.cons rfl (fun K hK => ?_) ?_
            · go_simp
              refine hK _ _ ?_
              clear hK K
              refine wpAny_ready (rs := [2]) (by kernel_rfl) (by simp) ?_
              refine AllReady.cons rfl (fun K hK => ?_) ?_
              · go_simp
                refine hK _ _ ?_
                clear hK K
                refine wpAny_ready (rs := [3]) (by kernel_rfl) (by simp) ?_
                refine AllReady.cons rfl (fun K hK => ?_) ?_
                · go_simp
                  refine HL2.out.mono ?_
                  rintro e w4 ⟨rfl, hk4⟩
                  go_wp2_with fail
                  exact all_out HJ.out hk4.out HF.out (fun W a x y h0 h1 h2 => by simp [results, Try.results25, go_sem, h0, h1, h2])
                exact AllReady.nil
              exact AllReady.nil
            refine AllReady.cons rfl (fun K hK => ?_) ?_
            · go_simp
              refine hK _ _ ?_
              clear hK K
              refine wpAny_ready (rs := [1]) (by kernel_rfl) (by simp) ?_
              refine AllReady.cons rfl (fun K hK => ?_) ?_
              · go_simp
                refine hK _ _ ?_
                clear hK K
                refine wpAny_ready (rs := [3]) (by kernel_rfl) (by simp) ?_
                refine AllReady.cons rfl (fun K hK => ?_) ?_
                · go_simp
                  refine HL2.out.mono ?_
                  rintro e w4 ⟨rfl, hk4⟩
                  go_wp2_with fail
                  exact all_out HJ.out hk4.out HF.out (fun W a x y h0 h1 h2 => by simp [results, Try.results25, go_sem, h0, h1, h2])
                exact AllReady.nil
              exact AllReady.nil
            exact AllReady.nil
          refine AllReady.cons rfl (fun K hK => ?_) ?_
          · go_simp
            refine hK _ _ ?_
            clear hK K
            refine wpAny_ready (rs := [0, 2]) (by kernel_rfl) (by simp) ?_
            refine AllReady.cons rfl (fun K hK => ?_) ?_
            · go_simp
              refine hK _ _ ?_
              clear hK K
              refine wpAny_ready (rs := [2]) (by kernel_rfl) (by simp) ?_
              refine AllReady.cons rfl (fun K hK => ?_) ?_
              · go_simp
                refine hK _ _ ?_
                clear hK K
                refine wpAny_ready (rs := [3]) (by kernel_rfl) (by simp) ?_
                refine AllReady.cons rfl (fun K hK => ?_) ?_
                · go_simp
                  refine HL2.out.mono ?_
                  rintro e w4 ⟨rfl, hk4⟩
                  go_wp2_with fail
                  exact all_out HJ.out hk4.out HF.out (fun W a x y h0 h1 h2 => by simp [results, Try.results25, go_sem, h0, h1, h2])
                exact AllReady.nil
              exact AllReady.nil
            refine AllReady.cons rfl (fun K hK => ?_) ?_
            · go_simp
              refine hK _ _ ?_
              clear hK K
              refine wpAny_ready (rs := [0, 3]) (by kernel_rfl) (by simp) ?_
              refine AllReady.cons rfl (fun K hK => ?_) ?_
              · go_simp
                refine hK _ _ ?_
                clear hK K
                refine wpAny_ready (rs := [3]) (by kernel_rfl) (by simp) ?_
                refine AllReady.cons rfl (fun K hK => ?_) ?_
                · go_simp
                  refine HL2.out.mono ?_
                  rintro e w4 ⟨rfl, hk4⟩
                  go_wp2_with fail
                  exact all_out HJ.out hk4.out HF.out (fun W a x y h0 h1 h2 => by simp [results, Try.results25, go_sem, h0, h1, h2])
                exact AllReady.nil
              refine AllReady.cons rfl (fun K hK => ?_) ?_
              · go_simp
                refine HL2.out.mono ?_
                rintro e w4 ⟨rfl, hk4⟩
                go_wp2_with fail
                exact all_out HJ.out hk4.out HF.out (fun W a x y h0 h1 h2 => by simp [results, Try.results25, go_sem, h0, h1, h2])
              exact AllReady.nil
            exact AllReady.nil
          refine AllReady.cons rfl (fun K hK => ?_) ?_
          · go_simp
            refine hK _ _ ?_
            clear hK K
            refine wpAny_ready (rs := [0, 1]) (by kernel_rfl) (by simp) ?_
            refine AllReady.cons rfl (fun K hK => ?_) ?_
            · go_simp
              refine hK _ _ ?_
              clear hK K
              refine wpAny_ready (rs := [1]) (by kernel_rfl) (by simp) ?_
              refine AllReady.cons rfl (fun K hK => ?_) ?_
              · go_simp
                refine hK _ _ ?_
                clear hK K
                refine wpAny_ready (rs := [3]) (by kernel_rfl) (by simp) ?_
                refine AllReady.cons rfl (fun K hK => ?_) ?_
                · go_simp
                  refine HL2.out.mono ?_
                  rintro e w4 ⟨rfl, hk4⟩
                  go_wp2_with fail
                  exact all_out HJ.out hk4.out HF.out (fun W a x y h0 h1 h2 => by simp [results, Try.results25, go_sem, h0, h1, h2])
                exact AllReady.nil
              exact AllReady.nil
            refine AllReady.cons rfl (fun K hK => ?_) ?_
            · go_simp
              refine hK _ _ ?_
              clear hK K
              refine wpAny_ready (rs := [0, 3]) (by kernel_rfl) (by simp) ?_
              refine AllReady.cons rfl (fun K hK => ?_) ?_
              · go_simp
                refine hK _ _ ?_
                clear hK K
                refine wpAny_ready (rs := [3]) (by kernel_rfl) (by simp) ?_
                refine AllReady.cons rfl (fun K hK => ?_) ?_
                · go_simp
                  refine HL2.out.mono ?_
                  rintro e w4 ⟨rfl, hk4⟩
                  go_wp2_with fail
                  exact all_out HJ.out hk4.out HF.out (fun W a x y h0 h1 h2 => by simp [results, Try.results25, go_sem, h0, h1, h2])
                exact AllReady.nil
              refine AllReady.cons rfl (fun K hK => ?_) ?_
              · go_simp
                refine HL2.out.mono ?_
                rintro e w4 ⟨rfl, hk4⟩
                go_wp2_with fail
                exact all_out HJ.out hk4.out HF.out (fun W a x y h0 h1 h2 => by simp [results, Try.results25, go_sem, h0, h1, h2])
              exact AllReady.nil
            exact AllReady.nil
          exact AllReady.nil
      · have hk2 : ((k : Int) < (g.length : Int)) = False := by simp; omega
        have hkl : k = g.length := by omega
        have HF : Hid (R = .ok ls) := Lib.hid (by rw [HE.out, ← hkl, hj.eq])
        have c0 : wr.cell? ⟨W.heap.size, 0, none⟩ = some (.slice va ls.length vc') := by rw [cellOf hj.blk]; rfl
        have c1 : wr.cell? ⟨W.heap.size + 1, 0, none⟩ = some (.int .i64 0) := by rw [cellOf hj.at1]; rfl
        have c2 : wr.cell? ⟨W.heap.size + 1 + 1, 0, none⟩ = some (.int .i64 0) := by rw [show W.heap.size + 1 + 1 = W.heap.size + 2 from rfl, cellOf hj.at2]; rfl
        have f0 : wr.frozen? ⟨W.heap.size, 0, none⟩ = false := frozenOf hj.blk
        have f1 : wr.frozen? ⟨W.heap.size + 1, 0, none⟩ = false := frozenOf hj.at1
        have f2 : wr.frozen? ⟨W.heap.size + 1 + 1, 0, none⟩ = false := frozenOf hj.at2
        have HT := Lib.hid (three_set (.slice va ls.length vc') (.int .i64 0) (.int .i64 0) c0 c1 c2)
        clear hj hkl
        go_wp2_with fail
        have hz1 := HJ.out.size
        have hz2 := HJ.out.par
        refine leaves_cons (f := 60) (args := #[.pointer (some ⟨W.heap.size, 0, none⟩), .pointer (some ⟨W.heap.size + 1, 0, none⟩), .pointer (some ⟨W.heap.size + 1 + 1, 0, none⟩)]) (by simp) (by simp [go_sem]) ?_
        refine (catchA_none _ _ _ _).mono ?_
        rintro e u' w5 ⟨rfl, rfl, hb5⟩
        obtain ⟨z0, z1, z2, hbz⟩ := HT.out
        have y0 := (hb5.cell (p := ⟨W.heap.size, 0, none⟩) (by simp; omega)).trans z0
        have y1 := (hb5.cell (p := ⟨W.heap.size + 1, 0, none⟩) (by simp; omega)).trans z1
        have y2 := (hb5.cell (p := ⟨W.heap.size + 1 + 1, 0, none⟩) (by simp; omega)).trans z2
        refine ⟨.tuple #[.slice va ls.length vc', .int .i64 0, .int .i64 0], by simp [results, Try.results25, go_sem, y0, y1, y2], HJ.out.below.trans (hbz.trans (hb5.mono (by simp; omega))), ?_⟩
        rw [HF.out]
        refine ⟨_, rfl, ?_⟩
        have hlr : LRow wr (fun b => W.heap.size + 3 ≤ b) (.slice va ls.length vc') ls := HJ.out.own.lrow (fun b _ h => h.1) (fun b hb _ => by omega)
        refine (hlr.keep (fun b hb hz => (hb5.block b (by simpa using hz)).trans ?_) (by have := hb5.size; simp at this; omega)).mono fun b _ h => by omega
        rw [Below.heap_setCell _ _ _ _ (by show b ≠ W.heap.size + 1 + 1; omega), Below.heap_setCell _ _ _ _ (by show b ≠ W.heap.size + 1; omega), Below.heap_setCell _ _ _ _ (by show b ≠ W.heap.size; omega)]
  · have hn' : (checkM g != 0) = true := by simp [h0]
    have HE : Hid (R = .error (0, checkM g)) := Lib.hid (by rw [HR.out]; unfold allM; rw [if_neg h0])
    have c0 : w1.cell? ⟨W.heap.size, 0, none⟩ = some (.slice none 0 0) := by rw [cellOf a0]; rfl
    have c1 : w1.cell? ⟨W.heap.size + 1, 0, none⟩ = some (.int .i64 0) := by rw [cellOf a1]; rfl
    have c2 : w1.cell? ⟨W.heap.size + 1 + 1, 0, none⟩ = some (.int .i64 0) := by rw [show W.heap.size + 1 + 1 = W.heap.size + 2 from rfl, cellOf a2]; rfl
    have f0 : w1.frozen? ⟨W.heap.size, 0, none⟩ = false := frozenOf a0
    have f1 : w1.frozen? ⟨W.heap.size + 1, 0, none⟩ = false := frozenOf a1
    have f2 : w1.frozen? ⟨W.heap.size + 1 + 1, 0, none⟩ = false := frozenOf a2
    generalize checkM g = cm at *
    have HT := Lib.hid (three_set (.slice none 0 0) (.int .i64 0) (.int .i64 cm) c0 c1 c2)
    clear h0 hz HHI a0 a1 a2 HR HA0 HA1 HA2
    go_wp2_with fail
    refine leaves_cons (f := 60) (args := #[.pointer (some ⟨W.heap.size, 0, none⟩), .pointer (some ⟨W.heap.size + 1, 0, none⟩), .pointer (some ⟨W.heap.size + 1 + 1, 0, none⟩)]) (by simp) (by simp [go_sem]) ?_
    refine (catchA_none _ _ _ _).mono ?_
    rintro e u' w5 ⟨rfl, rfl, hb5⟩
    obtain ⟨z0, z1, z2, hbz⟩ := HT.out
    have y0 := (hb5.cell (p := ⟨W.heap.size, 0, none⟩) (by simp; omega)).trans z0
    have y1 := (hb5.cell (p := ⟨W.heap.size + 1, 0, none⟩) (by simp; omega)).trans z1
    have y2 := (hb5.cell (p := ⟨W.heap.size + 1 + 1, 0, none⟩) (by simp; omega)).trans z2
    refine ⟨.tuple #[.slice none 0 0, .int .i64 0, .int .i64 cm], by simp [results, Try.results25, go_sem, y0, y1, y2], HBW.out.trans (hbz.trans (hb5.mono (by simp; omega))), ?_⟩
    rw [HE.out]
    rfl
end Go.Proofs.Ytolopideimnbgaa
