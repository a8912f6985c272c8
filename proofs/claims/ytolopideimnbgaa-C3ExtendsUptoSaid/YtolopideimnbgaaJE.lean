/-
  Heirs appended; further heirs at the end change no linearization.
-/
import Derived.Test.YtolopideimnbgaaHX
import Derived.Test.YtolopideimnbgaaJD
namespace Go.Proofs.Ytolopideimnbgaa
open Go.RowKit

def hrF : List Hr → List Value → List Value
  | x :: l, u :: us => .string x.1 :: u :: hrF l us
  | _, _ => []
theorem hrF_length : ∀ {l : List Hr} {us : List Value}, us.length = l.length → (hrF l us).length = l.length * 2
  | [], [], _ => rfl
  | x :: l, u :: us, h => by
    have := hrF_length (l := l) (us := us) (by simpa using h)
    simp only [hrF, List.length_cons, this]; omega
theorem hrF_append : ∀ {l m : List Hr} {us vs : List Value}, us.length = l.length → hrF (l ++ m) (us ++ vs) = hrF l us ++ hrF m vs
  | [], _, [], _, _ => rfl
  | x :: l, m, u :: us, vs, h => by
    show _ :: _ :: hrF (l ++ m) (us ++ vs) = _ :: _ :: (hrF l us ++ hrF m vs)
    rw [hrF_append (by simpa using h)]
theorem hrF_at : ∀ {l : List Hr} {us : List Value}, us.length = l.length → ∀ {i : Nat} {x : Hr}, l[i]? = some x → ∃ u, us[i]? = some u ∧ (hrF l us)[i * 2]? = some (.string x.1) ∧ (hrF l us)[i * 2 + 1]? = some u
  | y :: l, u :: us, _, 0, x, hi => by cases hi; exact ⟨u, rfl, rfl, rfl⟩
  | y :: l, u :: us, h, i + 1, x, hi => by
    obtain ⟨v, h1, h2, h3⟩ := hrF_at (l := l) (us := us) (by simpa using h) (i := i) (by simpa using hi)
    refine ⟨v, by simpa using h1, ?_, ?_⟩
    · rw [show (i + 1) * 2 = i * 2 + 1 + 1 by omega]; simpa [hrF] using h2
    · rw [show (i + 1) * 2 + 1 = i * 2 + 1 + 1 + 1 by omega]; simpa [hrF] using h3
theorem hrF_all {p : Nat → Value → Prop} : ∀ {l : List Hr} {us : List Value} (k : Nat), (∀ (i : Nat) (x : Hr) (u : Value), l[i]? = some x → us[i]? = some u → p (k + i * 2) (.string x.1) ∧ p (k + i * 2 + 1) u) → ∀ j u, (hrF l us)[j]? = some u → p (k + j) u
  | x :: l, v :: us, k, h, 0, u, hj => by cases hj; exact (h 0 x v rfl rfl).1
  | x :: l, v :: us, k, h, 1, u, hj => by cases hj; exact (h 0 x v rfl rfl).2
  | x :: l, v :: us, k, h, j + 2, u, hj => by
    have := hrF_all (l := l) (us := us) (p := p) (k + 2) (fun i x u hx hu => by
      have := h (i + 1) x u (by simpa using hx) (by simpa using hu)
      rw [show k + 2 + i * 2 = k + (i + 1) * 2 by omega]
      exact this) j u (by simpa [hrF] using hj)
    rw [show k + (j + 2) = k + 2 + j by omega]
    exact this
  | [], _, _, _, _, _, hj => by simp [hrF] at hj
  | _ :: _, [], _, _, _, _, hj => by simp [hrF] at hj
theorem heir_cells {w : World} {Q : Nat → Prop} {b : Option Addr} {m c : Nat} {l : List Hr} (h : HRow w Q (.slice b m c) l) :
    ∃ us, us.length = l.length ∧ (l ≠ [] → ∃ g o, b = some ⟨g, o, none⟩ ∧ ∀ j u, (hrF l us)[j]? = some u → w.cell? ((⟨g, o, none⟩ : Addr).add j) = some u) ∧ (∀ (i : Nat) (x : Hr) (u : Value), l[i]? = some x → us[i]? = some u → SRow w Q u x.2) ∧ ∀ u ∈ hrF l us, u.oneCell' = true := by
  obtain ⟨b', c', e, hr⟩ := h
  cases e
  by_cases hne : l = []
  · subst hne
    exact ⟨[], rfl, fun h => absurd rfl h, fun i x u hx => by simp at hx, fun u hu => by cases hu⟩
  · obtain ⟨g, o, rfl, _, _, hat, _⟩ := hr hne
    obtain ⟨f, hf⟩ := choose_any (Value.bool false) (n := l.length) (p := fun i u => w.cell? ⟨g, o + i * 2 + 1, none⟩ = some u ∧ ∀ x, l[i]? = some x → SRow w Q u x.2) (fun i hi => by
      obtain ⟨_, sv, h1, h2⟩ := hat i _ (List.getElem?_eq_getElem hi)
      exact ⟨sv, h1, fun x hx => by rw [List.getElem?_eq_getElem hi] at hx; cases hx; exact h2⟩)
    have hus : ∀ (i : Nat) (u : Value), ((List.range l.length).map f)[i]? = some u → i < l.length ∧ u = f i := fun i u hu => by
      have hi : i < l.length := by have := (List.getElem?_eq_some_iff.1 hu).1; simpa using this
      rw [List.getElem?_map, List.getElem?_range hi] at hu
      simp at hu
      exact ⟨hi, hu.symm⟩
    refine ⟨(List.range l.length).map f, by simp, fun _ => ⟨g, o, rfl, fun j u hj => ?_⟩, fun i x u hx hu => ?_, fun u hu => ?_⟩
    · rw [add_off]
      have := hrF_all (p := fun j u => w.cell? ⟨g, o + j, none⟩ = some u) 0 (fun i x u hx hu => by
        obtain ⟨hi, rfl⟩ := hus i u hu
        rw [Nat.zero_add]
        exact ⟨(hat i x hx).1, (hf i hi).1⟩) j u hj
      rwa [Nat.zero_add] at this
    · obtain ⟨hi, rfl⟩ := hus i u hu
      exact (hf i hi).2 x hx
    · obtain ⟨j, hj⟩ := List.mem_iff_getElem?.1 hu
      exact hrF_all (p := fun _ u => u.oneCell' = true) 0 (fun i x u hx hu => by
        obtain ⟨hi, rfl⟩ := hus i u hu
        obtain ⟨_, _, e, _⟩ := (hf i hi).2 x hx
        exact ⟨rfl, by rw [e]; rfl⟩) j u hj
/-- A row of heirs of one's own; what they hold is old. -/
def HOwn (w : World) (base : Nat) (v : Value) (l : List Hr) : Prop := ∃ us, us.length = l.length ∧ w.ownsRow base 57 2 v l.length (hrF l us) ∧ ∀ (i : Nat) (x : Hr) (u : Value), l[i]? = some x → us[i]? = some u → SRow w (fun b => b < base) u x.2
theorem HOwn.row {w : World} {base : Nat} {v : Value} {l : List Hr} (h : HOwn w base v l) : HRow w (fun _ => True) v l := by
  obtain ⟨us, h0, h1, h2⟩ := h
  have h1' := h1
  obtain ⟨_, h3⟩ := h1
  rcases h3 with ⟨e, h4⟩ | ⟨g, cap, cur, e, h3, h4, h5⟩
  · exact ⟨none, 0, by rw [e, h4], fun hne => absurd (List.length_eq_zero_iff.1 h4) hne⟩
  · refine ⟨some ⟨g, 0, none⟩, cap, e, fun _ => ⟨g, 0, rfl, trivial, (Array.getElem?_eq_some_iff.1 h4).1, fun i x hi => ?_, h5.1⟩⟩
    obtain ⟨u, q1, q2, q3⟩ := hrF_at h0 hi
    have c0 := World.ownsRow.cells h1' (g := g) (by rw [e]; rfl) _ _ q2
    have c1 := World.ownsRow.cells h1' (g := g) (by rw [e]; rfl) _ _ q3
    rw [add_off, Nat.zero_add] at c0 c1
    exact ⟨by rw [Nat.zero_add]; exact c0, u, by rw [Nat.zero_add]; exact c1, (h2 i x u hi q1).mono fun _ _ _ => trivial⟩
theorem HOwn.len {w : World} {base : Nat} {v : Value} {l : List Hr} (h : HOwn w base v l) : ∃ b c, v = .slice b l.length c ∧ l.length ≤ c := by
  obtain ⟨us, _, h1, _⟩ := h
  rcases h1.2 with ⟨e, h4⟩ | ⟨g, cap, cur, e, _, _, h5, _⟩
  · exact ⟨none, 0, by rw [e, h4], by omega⟩
  · exact ⟨_, _, e, h5⟩
theorem infoHeir : (Try.prog.info? 57).map (fun i => (i.zero, i.size, i.bytes)) = some (some (.agg #[.string ⟨#[]⟩, .slice none 0 0]), 2, 40) := by kernel_rfl
theorem wpList_append_heirs {ops : Array Oper} {rest : List Oper} {o : Oper} {a : Act} {w : World} {Q : Exit → Act → World → Prop} (hgd : o.guard = none) (s x : Operand) (ho : o.op = .call { callee := .builtin .append, args := #[s, x], argTypes := #[22, 22] })
    (base : Nat) (jb : Option Addr) (jc : Nat) (L p : List Hr) (hs : a.eval s = .slice jb L.length jc) (hj : HOwn w base (.slice jb L.length jc) L) (xb : Option Addr) (xc : Nat) (hx : a.eval x = .slice xb p.length xc) (hp : HRow w (fun b => b < base) (.slice xb p.length xc) p)
    (hbytes : (L.length + p.length) * 40 ≤ 140737488355328) (hbase : base ≤ w.heap.size) (n : Nat) (hn : n = L.length + p.length)
    (h : ∀ b' c' w', HOwn w' base (.slice b' n c') (L ++ p) → Below base w w' → wpList Try.prog ops Q rest (a.put o.dst (.slice b' n c')) w') : wpList Try.prog ops Q (o :: rest) a w := by
  subst hn
  refine wpList_plain hgd fun _ hK => ?_
  obtain ⟨i0, hi, hz0, hz1, hz2⟩ := info_parts infoHeir
  have hjc : L.length ≤ jc := by obtain ⟨_, _, e, h⟩ := hj.len; cases e; exact h
  by_cases hp0 : p = []
  · subst hp0
    have hr : (Builtin.append_ #[22, 22] o.type #[.slice jb L.length jc, .slice xb 0 xc]).run Try.prog w = .ok (.slice jb L.length jc) w := by
      cases xb with
      | none => exact Go.run_append_nothing w 22 22 o.type 57 i0 Try.underlying22 hi jb _ jc hjc _ (Go.Src.ofNil w Try.underlying22 xc)
      | some ad => exact Go.run_append_nothing w 22 22 o.type 57 i0 Try.underlying22 hi jb _ jc hjc _ (Go.Src.ofSlice w Try.underlying22 ad 0 xc [] (by simp) (fun j u hu => by simp at hu) (fun u hu => by cases hu))
    unfold Oper.wp execOp
    simp only [ho, resolve, invoke, builtin, Sem.run_bind, Sem.run_pure, Result.andThen_ok, List.map_toArray, List.map_cons, List.map_nil, hs, hx, List.length_nil, hr]
    exact hK _ _ (h jb jc w (by rw [List.append_nil]; exact hj) (Below.refl _ _))
  · obtain ⟨us', hk1', hk2', hk3', hk4'⟩ := heir_cells hp
    obtain ⟨g', o', rfl, hcells⟩ := hk2' hp0
    obtain ⟨us, hk1, hk2, hk3⟩ := hj
    have hpos : 0 < p.length := List.length_pos_iff.2 hp0
    have hlow : ∀ g, (Value.slice jb L.length jc).ownBlock = some g → base ≤ g := fun g e => (World.ownsRow.lt hk2 g e).1
    refine wp_append_lies w s x 22 ho base 57 i0 _ 2 40 Try.underlying22 hi hz0 hz1 hz2 rfl (by omega) _ L.length (hrF L us) hs hk2 ⟨g', o', none⟩ p.length xc (hrF p us') hx (hrF_length hk1') hcells hk4' hpos (by unfold maxLen; omega) hbytes hbase w.heap.size rfl fun g cap w' h2 h3 h4 h5 => hK _ _ (h _ _ w' ⟨us ++ us', by simp [hk1, hk1'], ?_, fun i y u hy hu => ?_⟩ ?_)
    · rw [hrF_append hk1, List.length_append]; exact h2
    · have hk : ∀ b, b < base → b < w.heap.size → w'.heap[b]? = w.heap[b]? := fun b hb hz => h3.block b hz fun e => by have := hlow b e.symm; omega
      by_cases hi : i < L.length
      · rw [List.getElem?_append_left hi] at hy
        rw [List.getElem?_append_left (by omega)] at hu
        exact (hk3 i y u hy hu).keep hk h3.size
      · rw [List.getElem?_append_right (by omega)] at hy
        rw [List.getElem?_append_right (by omega), hk1] at hu
        exact (hk3' _ y u hy hu).keep hk h3.size
    · exact (Keep.of_grown (S := fun b => base ≤ b) h3 fun k e => hlow k e).below (fun _ h => h) hbase
theorem lin_more {g more : List Hr} (hg : checkM g = 0) (hg' : checkM (g ++ more) = 0) : ∀ n, n < g.length → linM (g ++ more) n = linM g n := by
  intro n
  induction n using Nat.strongRecOn with
  | ind n ih =>
    intro hn
    obtain ⟨x, hx⟩ : ∃ x, g[n]? = some x := ⟨_, List.getElem?_eq_getElem hn⟩
    have hx' : (g ++ more)[n]? = some x := by rw [List.getElem?_append_left hn]; exact hx
    rw [lin_eq hg hx, lin_eq hg' hx']
    congr 2
    unfold supsM
    refine List.map_congr_left fun s hs => ?_
    obtain ⟨j, y, h1, h2, h3, h4⟩ := sup_pos hg hx hs
    have h2' : (g ++ more)[j]? = some y := by rw [List.getElem?_append_left (by omega)]; exact h2
    have h5 := pos_at hg' h2'
    rw [h3] at h5
    rw [h4, h5]
    exact ih j h1 (by omega)
theorem ext_ok {g more : List Hr} {nm : ByteArray} {l : Nms} (h : linearizeM g nm = .ok l) : linearizeM (g ++ more) nm = .ok l ∨ ∃ c, linearizeM (g ++ more) nm = .error c ∧ (c = 2 ∨ c = 70) := by
  unfold linearizeM at h
  by_cases h0 : checkM g = 0
  · rw [if_pos h0] at h
    cases hp : posM g nm with
    | none => rw [hp] at h; cases h
    | some n =>
      rw [hp] at h
      simp only at h
      obtain ⟨x, hx, hn⟩ := posM_some hp
      have hlt := (List.getElem?_eq_some_iff.1 hx).1
      unfold linearizeM
      by_cases h1 : checkM (g ++ more) = 0
      · left
        have hx' : (g ++ more)[n]? = some x := by rw [List.getElem?_append_left hlt]; exact hx
        have h5 := pos_at h1 hx'
        rw [hn] at h5
        rw [if_pos h1, h5]
        simp only
        rw [lin_more h0 h1 n hlt]
        exact h
      · right
        rw [if_neg h1]
        refine ⟨_, rfl, ?_⟩
        unfold checkM at h1 ⊢
        split
        · exact .inl rfl
        · rename_i h2
          rw [if_neg h2] at h1
          split
          · rename_i h3; rw [if_pos h3] at h1; exact absurd rfl h1
          · exact .inr rfl
  · rw [if_neg h0] at h; cases h
end Go.Proofs.Ytolopideimnbgaa
