/-
  Fragments appended to a list of the call's own: one law, whether there are some or none.
-/
import Derived.Test.YtafncodigpjkaaaGreatDoorFJ2
namespace Go.Proofs.YtafncodigpjkaaaGreatDoor
section
open Go.RowKit

/-- A list of fragments in a row of the call's own, that does not hold itself; what it holds is in blocks of Q. -/
def JQ (Q : Nat → Prop) (w : World) (base : Nat) (v : Value) (l : List Fg) : Prop := FOwn w base (fun b => v.ownBlock ≠ some b ∧ Q b) v l
theorem JQ.mono {Q : Nat → Prop} {w : World} {base base' : Nat} {v : Value} {l : List Fg} (h : JQ Q w base v l) (hb : base' ≤ base) : JQ Q w base' v l := by
  obtain ⟨kvs, h1, h2, h3⟩ := h
  exact ⟨kvs, h1, h2.mono hb, h3⟩
theorem JQ.below {Q : Nat → Prop} {w w' : World} {base : Nat} {v : Value} {l : List Fg} (h : JQ Q w base v l) (hb : Below w.heap.size w w') : JQ Q w' base v l :=
  FOwn.keep h (fun b p z => ⟨p, hb.block b z⟩) hb.size (fun b _ z => hb.block b z)
theorem appQ_val {Q : Nat → Prop} {w w' : World} {v u : Value} {g : Nat} {l : List Fg} (hg : w.grownBy w' v.ownBlock) (hat : v.ownBlock = some g ∨ g = w.heap.size) (h : FVal w (fun b => v.ownBlock ≠ some b ∧ Q b) u l) : FVal w' (fun b => some g ≠ some b ∧ Q b) u l :=
  h.keep (fun b p z => ⟨⟨fun e => by
    rcases hat with h | h
    · exact p.1 (h.trans e)
    · have := Option.some.inj e; omega, p.2⟩, hg.block b z (fun e => p.1 (e.symm ▸ rfl))⟩) hg.size
theorem JQ.app {Q : Nat → Prop} {w w' : World} {base g cap n : Nat} {v : Value} {l m : List Fg} {kvs kvs' : List Value} (h1 : kvs.length = l.length) (h1' : kvs'.length = m.length) (h3 : ∀ (i : Nat) (x : Fg) (u : Value), l[i]? = some x → kvs[i]? = some u → FVal w (fun b => v.ownBlock ≠ some b ∧ Q b) u x.kids)
    (h3' : ∀ (i : Nat) (x : Fg) (u : Value), m[i]? = some x → kvs'[i]? = some u → FVal w (fun b => v.ownBlock ≠ some b ∧ Q b) u x.kids) (hg : w.grownBy w' v.ownBlock) (hat : v.ownBlock = some g ∨ g = w.heap.size) (hn : n = l.length + m.length)
    (ho : w'.ownsRow base 52 7 (.slice (some ⟨g, 0, none⟩) n cap) n (flatF l kvs ++ flatF m kvs')) : JQ Q w' base (.slice (some ⟨g, 0, none⟩) n cap) (l ++ m) := by
  subst hn
  refine ⟨kvs ++ kvs', by simp [h1, h1'], by rw [List.length_append, flatF_append h1]; exact ho, fun i x y hx hy => ?_⟩
  by_cases hi : i < l.length
  · rw [List.getElem?_append_left hi] at hx
    rw [List.getElem?_append_left (by omega)] at hy
    exact appQ_val hg hat (h3 i x y hx hy)
  · rw [List.getElem?_append_right (by omega)] at hx
    rw [List.getElem?_append_right (by omega), h1] at hy
    exact appQ_val hg hat (h3' _ x y hx hy)
theorem JQ.val {Q P' : Nat → Prop} {w : World} {base : Nat} {v : Value} {l : List Fg} (h : JQ Q w base v l) (hP : ∀ b, Q b → P' b) (hb : ∀ b, base ≤ b → P' b) : FVal w P' v l :=
  FOwn.val h (fun b p => hP b p.2) (fun b e => by
    obtain ⟨_, _, h2, _⟩ := h
    exact hb b (h2.lt b e).1)
/-- What an append of fragments leaves. -/
def AppD (Q : Nat → Prop) (base : Nat) (jb : Option Addr) (n jc : Nat) (L p : List Fg) (m : Nat) (w : World) (H : Nat) (b' : Option Addr) (c' : Nat) (w' : World) : Prop :=
  JQ Q w' base (.slice b' (n + m) c') (L ++ p) ∧ n + m ≤ c' ∧ w.grownBy w' (Value.slice jb n jc).ownBlock ∧ (∀ g, (Value.slice b' (n + m) c').ownBlock = some g → (Value.slice jb n jc).ownBlock = some g ∨ g = H) ∧ (∀ g, (Value.slice jb n jc).ownBlock = some g → base ≤ g)
theorem wp_append_frags {o : Oper} {a : Act} {w : World} {K : Act → World → Prop} {Q : Exit → Act → World → Prop} (s x : Operand) (ho : o.op = .call { callee := .builtin .append, args := #[s, x], argTypes := #[25, 25] })
    (base : Nat) (jb : Option Addr) (n jc : Nat) (L p : List Fg) (hs : a.eval s = .slice jb n jc) {QQ : Nat → Prop} (hj : JQ QQ w base (.slice jb n jc) L) (hn : n = L.length) (hjc : n ≤ jc)
    (P' : Nat → Prop) (xb : Option Addr) (m xc : Nat) (hx : a.eval x = .slice xb m xc) (hp : FVal w P' (.slice xb m xc) p) (hne : ∀ b, P' b → b < w.heap.size → (Value.slice jb n jc).ownBlock ≠ some b ∧ QQ b)
    (hbytes : (n + m) * 88 ≤ 140737488355328) (hbase : base ≤ w.heap.size) (H : Nat) (hH : w.heap.size = H)
    (h : ∀ b' c' w', AppD QQ base jb n jc L p m w H b' c' w' → K (a.put o.dst (.slice b' (n + m) c')) w') : o.wp Tryz.prog a w K Q := by
  obtain ⟨i0, hi, hz0, hz1, hz2⟩ := info_parts infoFrag
  have hml : m = p.length := by obtain ⟨_, _, e, _⟩ := hp; cases e; rfl
  have hlow : ∀ g, (Value.slice jb n jc).ownBlock = some g → base ≤ g := fun g e => by
    obtain ⟨_, _, h2, _⟩ := hj
    exact (h2.lt g e).1
  by_cases hp0 : p = []
  · subst hp0
    have hm0 : m = 0 := hml
    subst hm0
    have hr : (Builtin.append_ #[25, 25] o.type #[.slice jb n jc, .slice xb 0 xc]).run Tryz.prog w = .ok (.slice jb n jc) w := by
      cases xb with
      | none => exact Go.run_append_nothing w 25 25 o.type 52 i0 Tryz.underlying25 hi jb n jc hjc _ (Go.Src.ofNil w Tryz.underlying25 xc)
      | some ad => exact Go.run_append_nothing w 25 25 o.type 52 i0 Tryz.underlying25 hi jb n jc hjc _ (Go.Src.ofSlice w Tryz.underlying25 ad 0 xc [] (by simp) (fun j u hu => by simp at hu) (fun u hu => by cases hu))
    unfold Oper.wp execOp
    simp only [ho, resolve, invoke, builtin, Sem.run_bind, Sem.run_pure, Result.andThen_ok, List.map_toArray, List.map_cons, List.map_nil, hs, hx, hr]
    exact h jb jc w ⟨by rw [List.append_nil]; exact hj, hjc, ⟨rfl, rfl, rfl, Nat.le_refl _, fun _ _ _ => rfl⟩, fun g e => .inl e, hlow⟩
  · obtain ⟨kvs', hk1', hk2', hk3', hk4'⟩ := frag_cells hp
    obtain ⟨g', o', rfl, hcells⟩ := hk2' hp0
    obtain ⟨kvs, hk1, hk2, hk3⟩ := hj
    rw [← hn] at hk2
    have hpos : 0 < p.length := Nat.pos_of_ne_zero fun e => hp0 (List.length_eq_zero_iff.1 e)
    refine wp_append_lies w s x 25 ho base 52 i0 _ 7 88 Tryz.underlying25 hi hz0 hz1 hz2 rfl (by omega) _ n (flatF L kvs) hs hk2 ⟨g', o', none⟩ m xc (flatF p kvs') hx (by rw [flatF_length hk1', hml]) (hcells w (Below.refl _ _)) hk4' (by omega) (by unfold maxLen; omega) hbytes hbase H hH fun g cap w' h2 h3 h4 h5 => h _ _ w' ⟨?_, own_cap h2, h3, fun g2 e => by cases e; exact h4, hlow⟩
    refine JQ.app hk1 hk1' hk3 (fun i y u hy hu => ?_) h3 (by rw [hH]; exact h4) (by rw [hn, hml]) h2
    exact (hk3' i y u hy hu).keep (fun b q z => ⟨hne b q z, rfl⟩) (Nat.le_refl _)
theorem wpList_append_frags {ops : Array Oper} {rest : List Oper} {o : Oper} {a : Act} {w : World} {Q : Exit → Act → World → Prop} (hgd : o.guard = none) (s x : Operand) (ho : o.op = .call { callee := .builtin .append, args := #[s, x], argTypes := #[25, 25] })
    (base : Nat) (jb : Option Addr) (n jc : Nat) (L p : List Fg) (hs : a.eval s = .slice jb n jc) {QQ : Nat → Prop} (hj : JQ QQ w base (.slice jb n jc) L) (hn : n = L.length) (hjc : n ≤ jc)
    (P' : Nat → Prop) (xb : Option Addr) (m xc : Nat) (hx : a.eval x = .slice xb m xc) (hp : FVal w P' (.slice xb m xc) p) (hne : ∀ b, P' b → b < w.heap.size → (Value.slice jb n jc).ownBlock ≠ some b ∧ QQ b)
    (hbytes : (n + m) * 88 ≤ 140737488355328) (hbase : base ≤ w.heap.size) (H : Nat) (hH : w.heap.size = H)
    (h : ∀ b' c' w', AppD QQ base jb n jc L p m w H b' c' w' → wpList Tryz.prog ops Q rest (a.put o.dst (.slice b' (n + m) c')) w') : wpList Tryz.prog ops Q (o :: rest) a w :=
  wpList_plain hgd fun _ hK => wp_append_frags s x ho base jb n jc L p hs hj hn hjc P' xb m xc hx hp hne hbytes hbase H hH fun b' c' w' h2 => hK _ _ (h b' c' w' h2)
end

end Go.Proofs.YtafncodigpjkaaaGreatDoor
