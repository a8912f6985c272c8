/-
  A group is closed.
  A group is closed behind whose end its word and its name may stand.
  What the reader holds that does not turn while a token is read; both ways to close; the table of closings.
-/
import Derived.Test.YtafncodigpjkaaaGreatDoorFG3
namespace Go.Proofs.YtafncodigpjkaaaGreatDoor
section
open Go.RowKit

theorem Opq.keep {W W' : World} {base ob cap : Nat} {gs : List Gp} {kvs : List Value} (h : Opq W base gs ob cap kvs) (hk : ∀ b, Bs base b → b < W.heap.size → W'.heap[b]? = W.heap[b]?) (hs : W.heap.size ≤ W'.heap.size) : Opq W' base gs ob cap kvs := by
  refine ⟨h.len, ⟨h.row.1, ?_⟩, h.obp, h.ne, h.nd, fun i g kv hi hj => (h.kids i g kv hi hj).keep (fun b hb hz => ⟨hb, hk b (.inl hb.1) hz⟩) hs (fun b hb hz => hk b (.inl ((h.kids i g kv hi hj).lt hb).1) hz)⟩
  rcases h.row.2 with ⟨e, _⟩ | ⟨g, cap', cur, e, hb, hg, rest⟩
  · cases e
  · cases e
    exact .inr ⟨ob, cap, cur, rfl, hb, (hk ob h.obp (Array.getElem?_eq_some_iff.1 hg).1).trans hg, rest⟩

set_option maxRecDepth 100000 in
set_option maxHeartbeats 4000000 in
theorem close_run (rb ob cap n : Nat) (top : Gp) (ka : Option Addr) (kn kc : Nat) (Q : Ending → World → Prop) (W : World) (hrb : rb < W.heap.size) (hn : n + 1 + 1 ≤ 1048576)
    (h3 : W.cell? ⟨rb, 3, none⟩ = some (.slice (some ⟨ob, 0, none⟩) (n + 1 + 1) cap)) (hcap : n + 1 + 1 ≤ cap) (hfr : W.frozen? ⟨rb, 3, none⟩ = false)
    (hc : ∀ j u, (fgV top.fg (.slice ka kn kc))[j]? = some u → W.cell? ⟨ob, (n + 1) * 8 + j, none⟩ = some u)
    (hadd : ∀ W', KeepS (fun b => b = rb) W W' → (∀ j, j ≠ 3 → W'.cell? ⟨rb, j, none⟩ = W.cell? ⟨rb, j, none⟩) → (∀ j, W'.frozen? ⟨rb, j, none⟩ = W.frozen? ⟨rb, j, none⟩) → W'.cell? ⟨rb, 3, none⟩ = some (.slice (some ⟨ob, 0, none⟩) (n + 1) cap) → Calls Tryz.prog 70 #[.pointer (some ⟨rb, 0, none⟩), .agg (fgV top.fg (.slice ka kn kc)).toArray] W' fun e w' => e = .returned (.tuple #[]) ∧ Q e w') :
    Calls Tryz.prog 63 #[.pointer (some ⟨rb, 0, none⟩)] W fun e w' => e = .returned (.tuple #[]) ∧ Q e w' := by
  obtain ⟨⟨k0, n0, s0, a0, m0⟩, o, ks, pl⟩ := top
  have hadd : ∀ W', KeepS (fun b => b = rb) W W' → (∀ j, j ≠ 3 → W'.cell? ⟨rb, j, none⟩ = W.cell? ⟨rb, j, none⟩) → (∀ j, W'.frozen? ⟨rb, j, none⟩ = W.frozen? ⟨rb, j, none⟩) → W'.cell? ⟨rb, 3, none⟩ = some (.slice (some ⟨ob, 0, none⟩) (n + 1) cap) → Calls Tryz.prog 70 #[.pointer (some ⟨rb, 0, none⟩), .agg #[.int .i64 k0, .int .i64 n0, .string s0, .int .i64 a0, .int .i64 m0, .string o, .slice ka kn kc]] W' fun e w' => e = .returned (.tuple #[]) ∧ Q e w' := hadd
  have c0 : W.cell? ⟨ob, (n + 1) * 8, none⟩ = some (.int .i64 k0) := hc 0 _ rfl
  have c1 : W.cell? ⟨ob, (n + 1) * 8 + 1, none⟩ = some (.int .i64 n0) := hc 1 _ rfl
  have c2 : W.cell? ⟨ob, (n + 1) * 8 + 2, none⟩ = some (.string s0) := hc 2 _ rfl
  have c3 : W.cell? ⟨ob, (n + 1) * 8 + 3, none⟩ = some (.int .i64 a0) := hc 3 _ rfl
  have c4 : W.cell? ⟨ob, (n + 1) * 8 + 4, none⟩ = some (.int .i64 m0) := hc 4 _ rfl
  have c5 : W.cell? ⟨ob, (n + 1) * 8 + 5, none⟩ = some (.string o) := hc 5 _ rfl
  have c6 : W.cell? ⟨ob, (n + 1) * 8 + 6, none⟩ = some (.slice ka kn kc) := hc 6 _ rfl
  have HI := Lib.hid (innermost_any rb ob (n + 1) cap hn W h3)
  have HADD := Lib.hid hadd
  clear hc hadd
  go_enter Tryz.func63, Tryz.ntmps63
  go_wp2_with fail
  refine HI.out.mono ?_
  rintro e w1 ⟨rfl, q, rfl⟩
  have d0 : (W.drewN q).cell? ⟨ob, (n + 1) * 8, none⟩ = some (.int .i64 k0) := c0
  have d1 : (W.drewN q).cell? ⟨ob, (n + 1) * 8 + 1, none⟩ = some (.int .i64 n0) := c1
  have d2 : (W.drewN q).cell? ⟨ob, (n + 1) * 8 + 2, none⟩ = some (.string s0) := c2
  have d3 : (W.drewN q).cell? ⟨ob, (n + 1) * 8 + 3, none⟩ = some (.int .i64 a0) := c3
  have d4 : (W.drewN q).cell? ⟨ob, (n + 1) * 8 + 4, none⟩ = some (.int .i64 m0) := c4
  have d5 : (W.drewN q).cell? ⟨ob, (n + 1) * 8 + 5, none⟩ = some (.string o) := c5
  have d6 : (W.drewN q).cell? ⟨ob, (n + 1) * 8 + 6, none⟩ = some (.slice ka kn kc) := c6
  have g3 : (W.drewN q).cell? ⟨rb, 3, none⟩ = some (.slice (some ⟨ob, 0, none⟩) (n + 1 + 1) cap) := h3
  have gf : (W.drewN q).frozen? ⟨rb, 3, none⟩ = false := hfr
  have HQ : Hid ((W.drewN q).heap = W.heap ∧ KeepS (fun b => b = rb) W (W.drewN q)) := Lib.hid ⟨rfl, (KeepS.refl _ W).drew q⟩
  have hrb' : rb < (W.drewN q).heap.size := hrb
  have HCM : Hid ((∀ j, (W.drewN q).cell? ⟨rb, j, none⟩ = W.cell? ⟨rb, j, none⟩) ∧ ∀ j, (W.drewN q).frozen? ⟨rb, j, none⟩ = W.frozen? ⟨rb, j, none⟩) := Lib.hid ⟨fun j => rfl, fun j => rfl⟩
  clear c0 c1 c2 c3 c4 c5 c6 h3 hfr HI hrb
  generalize W.drewN q = Wq at d0 d1 d2 d3 d4 d5 d6 g3 gf HQ HCM hrb' ⊢
  have e3 := fun O => box_cell Wq O g3 hrb'
  have ef : ∀ O, (Wq.alloc O).frozen? ⟨rb, 3, none⟩ = false := fun O => (((Below.refl _ Wq).alloc (Nat.le_refl _) O).frozen (p := ⟨rb, 3, none⟩) hrb').trans gf
  have hrz : ¬ rb = Wq.heap.size := by omega
  have w1 : IntKind.i64.wrap (((n + 1 + 1 : Nat) : Int) - 1) = ((n + 1 : Nat) : Int) := by have h := IntWalk.i64_in (((n + 1 + 1 : Nat) : Int) - 1) (by omega); rw [h]; exact (by omega : ((n + 1 + 1 : Nat) : Int) - 1 = ((n + 1 : Nat) : Int))
  have w2 : ((n + 1 + 1 : Nat) : Int) - 1 = ((n + 1 : Nat) : Int) := by omega
  have w4 : (n : Int) + 1 + 1 - 1 = ((n + 1 : Nat) : Int) := by omega
  have w5 : ((n + 1 : Nat) : Int) ≤ (cap : Int) := by omega
  have HE : Hid (∀ O, KeepS (fun b => b = rb) W ((Wq.setCell ⟨rb, 3, none⟩ (.slice (some ⟨ob, 0, none⟩) (n + 1) cap)).alloc O).drew ∧ (∀ j, j ≠ 3 → ((Wq.setCell ⟨rb, 3, none⟩ (.slice (some ⟨ob, 0, none⟩) (n + 1) cap)).alloc O).drew.cell? ⟨rb, j, none⟩ = W.cell? ⟨rb, j, none⟩) ∧ (∀ j, ((Wq.setCell ⟨rb, 3, none⟩ (.slice (some ⟨ob, 0, none⟩) (n + 1) cap)).alloc O).drew.frozen? ⟨rb, j, none⟩ = W.frozen? ⟨rb, j, none⟩) ∧ ((Wq.setCell ⟨rb, 3, none⟩ (.slice (some ⟨ob, 0, none⟩) (n + 1) cap)).alloc O).drew.cell? ⟨rb, 3, none⟩ = some (.slice (some ⟨ob, 0, none⟩) (n + 1) cap)) := Lib.hid fun O => by
    refine ⟨((HQ.out.2.setCell rfl _ _).alloc O).drew 1, fun j hj => ?_, fun j => ?_, ?_⟩
    · refine (((Below.refl _ (Wq.setCell ⟨rb, 3, none⟩ _)).alloc (Nat.le_refl _) O).cell (p := ⟨rb, j, none⟩) (by simpa using hrb')).trans ?_
      rw [World.cell?_setCell_other _ _ _ _ (by simp)]
      exact HCM.out.1 j
    · refine (((Below.refl _ (Wq.setCell ⟨rb, 3, none⟩ _)).alloc (Nat.le_refl _) O).frozen (p := ⟨rb, j, none⟩) (by simpa using hrb')).trans ?_
      rw [World.frozen?_setCell]
      exact HCM.out.2 j
    · refine (((Below.refl _ (Wq.setCell ⟨rb, 3, none⟩ _)).alloc (Nat.le_refl _) O).cell (p := ⟨rb, 3, none⟩) (by simpa using hrb')).trans ?_
      exact World.cell?_setCell_same' _ _ _ (by rw [g3]; rfl)
  clear HQ HCM
  go_wp2_with fail
  go_region
  all_goals
    have hE := HE.out (.cells #[.int .i64 k0, .int .i64 n0, .string s0, .int .i64 a0, .int .i64 m0, .string o, .slice ka kn kc] 52)
    have HC := Lib.hid (HADD.out _ hE.1 hE.2.1 hE.2.2.1 hE.2.2.2)
    clear hE HADD HE
    go_wp2_with fail
    refine HC.out.mono ?_
    rintro e w' ⟨rfl, hQ⟩
    have HQ := Lib.hid hQ
    clear hQ
    go_wp2_with fail
    exact bodyPost_end (results_none rfl _ _ _) rfl ⟨rfl, HQ.out⟩
/-- The reader's own cells, and blocks that are none of its rows, stay. -/
structure KeptR (rb base : Nat) (K : Nat → Prop) (W W' : World) : Prop where
  keep : KeepS (fun b => b = rb ∨ Bs base b) W W'
  cells : ∀ j, ¬ K j → W'.cell? ⟨rb, j, none⟩ = W.cell? ⟨rb, j, none⟩
  fr : ∀ j, W'.frozen? ⟨rb, j, none⟩ = W.frozen? ⟨rb, j, none⟩
/-- The innermost group is closed. -/
theorem close_any (rb base ob cap : Nat) (pre : List Gp) (g top : Gp) (kp : List Value) (kg kt : Value) (W : World) (hrb : rb + 2 = base) (hbz : base ≤ W.heap.size) (hn : pre.length + 1 + 1 ≤ 1048576) (hkn : g.kids.length + 1 ≤ 1048576)
    (h3 : W.cell? ⟨rb, 3, none⟩ = some (.slice (some ⟨ob, 0, none⟩) (pre.length + 1 + 1) cap)) (hfr : W.frozen? ⟨rb, 3, none⟩ = false) (h : Opq W base ((pre ++ [g]) ++ [top]) ob cap ((kp ++ [kg]) ++ [kt])) :
    Calls Tryz.prog 63 #[.pointer (some ⟨rb, 0, none⟩)] W fun e w' => e = .returned (.tuple #[]) ∧ KeptR rb base (fun j => j = 3) W w' ∧ (∀ b, Sealed base ob (kp ++ [kg]) b → b < W.heap.size → w'.heap[b]? = W.heap[b]?) ∧ FVal w' (fun _ => True) kt top.kids ∧
      w'.cell? ⟨rb, 3, none⟩ = some (.slice (some ⟨ob, 0, none⟩) (pre.length + 1) cap) ∧ ∃ v', Opq w' base (pre ++ [g.add top.fg]) ob cap (kp ++ [v']) := by
  have hl : kp.length = pre.length := by have := h.len; simpa using this
  have hob := h.oblt
  obtain ⟨hpop, hval⟩ := h.pop
  obtain ⟨ka, kc, rfl, _⟩ := id hval
  have hcap : pre.length + 1 + 1 ≤ cap := by
    rcases h.row.2 with ⟨e, _⟩ | ⟨g0, cap0, cur, e, _, _, hc, _⟩
    · cases e
    · cases e
      simpa using hc
  refine (close_run rb ob cap pre.length top ka top.kids.length kc (fun e w' => KeptR rb base (fun j => j = 3) W w' ∧ (∀ b, Sealed base ob (kp ++ [kg]) b → b < W.heap.size → w'.heap[b]? = W.heap[b]?) ∧ FVal w' (fun _ => True) (.slice ka top.kids.length kc) top.kids ∧ w'.cell? ⟨rb, 3, none⟩ = some (.slice (some ⟨ob, 0, none⟩) (pre.length + 1) cap) ∧ ∃ v', Opq w' base (pre ++ [g.add top.fg]) ob cap (kp ++ [v'])) W (by omega) hn h3 hcap hfr (fun j u hu => ?_) ?_)
  · have := h.cellG (j := j) (u := u) (by
      have hj : j < 7 := by have := (List.getElem?_eq_some_iff.1 hu).1; simpa [fgV] using this
      unfold gpV
      rw [List.getElem?_append_left (by simpa [fgV] using hj)]
      exact hu)
    rw [List.length_append, List.length_singleton] at this
    exact this
  · intro W' hk hcs hfs hc3
    have hkb : ∀ b, Bs base b → b < W.heap.size → W'.heap[b]? = W.heap[b]? := fun b h1 h2 => hk.block b h2 (by omega)
    have hz := hk.size
    refine (add_any rb base ob cap pre g kp kg top.fg (.slice ka top.kids.length kc) W' hrb (by omega) (by omega) hkn hc3 (hpop.keep hkb hk.size) (hval.keep (fun b hb hz => ⟨hb, hkb b (.inl hb.1) hz⟩) hk.size)).mono ?_
    rintro e w' ⟨rfl, hks, hse, v', hv'⟩
    refine ⟨rfl, ⟨(hk.mono fun b e => .inl e).trans (hks.mono fun b e => .inr e), fun j hj => (hks.cell (by omega) (by omega)).trans (hcs j hj), fun j => (hks.frozen (by omega) (by omega)).trans (hfs j)⟩, fun b hb hbz => (hse b hb (by omega)).trans (hkb b (.inl hb.1) hbz), ?_, (hks.cell (by omega) (by omega)).trans hc3, v', hv'⟩
    exact hval.keep (fun b hb hbz => ⟨trivial, (hse b hb (by omega)).trans (hkb b (.inl hb.1) hbz)⟩) (by have := hks.size; omega)
end

section
open Go.RowKit

theorem TRow.keep {w w' : World} {Q : Nat → Prop} {v : Value} {l : List Tkn} (h : TRow w Q v l) (hk : ∀ b, Q b → b < w.heap.size → w'.heap[b]? = w.heap[b]?) (hs : w.heap.size ≤ w'.heap.size) : TRow w' Q v l := by
  obtain ⟨b, c, rfl, hr⟩ := h
  refine ⟨b, c, rfl, fun hne => ?_⟩
  obtain ⟨g, o, e, hq, hg, hat⟩ := hr hne
  refine ⟨g, o, e, hq, by omega, fun i x hx => ?_⟩
  have hb := hk g hq hg
  obtain ⟨h0, h1, h2, h3, h4⟩ := hat i x hx
  exact ⟨(World.cell?_of_block (w := w) (a := ⟨g, o + i * 5, none⟩) hb).trans h0, (World.cell?_of_block (w := w) (a := ⟨g, o + i * 5 + 1, none⟩) hb).trans h1, (World.cell?_of_block (w := w) (a := ⟨g, o + i * 5 + 2, none⟩) hb).trans h2, (World.cell?_of_block (w := w) (a := ⟨g, o + i * 5 + 3, none⟩) hb).trans h3, (World.cell?_of_block (w := w) (a := ⟨g, o + i * 5 + 4, none⟩) hb).trans h4⟩
/-- What closeNamed has behind its call of close. -/
structure Mid (rb B i : Nat) (tv : Value) (l : List Tkn) (Q : Nat → Prop) (top : Gp) (kt : Value) (w : World) : Prop where
  hrb : rb < w.heap.size
  hB : B < w.heap.size
  c0 : w.cell? ⟨rb, 0, none⟩ = some tv
  c1 : w.cell? ⟨rb, 1, none⟩ = some (.int .i64 (i : Int))
  c2 : ∃ v, w.cell? ⟨rb, 2, none⟩ = some v
  f2 : w.frozen? ⟨rb, 2, none⟩ = false
  tk : TRow w Q tv l
  bx : ∀ j u, (fgV top.fg kt)[j]? = some u → w.cell? ⟨B, j, none⟩ = some u
  fv : FVal w (fun _ => True) kt top.kids
theorem Mid.below {rb B i : Nat} {tv : Value} {l : List Tkn} {Q : Nat → Prop} {top : Gp} {kt : Value} {w w' : World} (h : Mid rb B i tv l Q top kt w) (hb : Below w.heap.size w w') : Mid rb B i tv l Q top kt w' :=
  ⟨by have := hb.size; have := h.hrb; omega, by have := hb.size; have := h.hB; omega, (hb.cell (p := ⟨rb, 0, none⟩) h.hrb).trans h.c0, (hb.cell (p := ⟨rb, 1, none⟩) h.hrb).trans h.c1,
    (by obtain ⟨v, hv⟩ := h.c2; exact ⟨v, (hb.cell (p := ⟨rb, 2, none⟩) h.hrb).trans hv⟩), (hb.frozen (p := ⟨rb, 2, none⟩) h.hrb).trans h.f2, h.tk.keep (fun b _ hz => hb.block b hz) hb.size, fun j u hu => (hb.cell (p := ⟨B, j, none⟩) h.hB).trans (h.bx j u hu), h.fv.below hb⟩

theorem skipW_cases (l : List Tkn) (i : Nat) (o : ByteArray) : (isNameM l i o = true ∧ skipW l i o = i + 1) ∨ (isNameM l i o = false ∧ skipW l i o = i) := by
  unfold skipW
  rcases h : isNameM l i o
  · right; simp
  · left; simp
theorem skipN_cases (l : List Tkn) (i : Nat) (k : List Fg) : ((nameV k).2 = true ∧ isNameM l i (nameV k).1 = true ∧ skipN l i k = i + 1) ∨ ((nameV k).2 = true ∧ isNameM l i (nameV k).1 = false ∧ skipN l i k = i) ∨ ((nameV k).2 = false ∧ skipN l i k = i) := by
  unfold skipN nameV
  rcases nameOfM k with _ | nm
  · right; right; exact ⟨rfl, rfl⟩
  · rcases h : isNameM l i nm
    · right; left; exact ⟨rfl, rfl, by simp [h]⟩
    · left; exact ⟨rfl, rfl, by simp [h]⟩

set_option maxRecDepth 100000 in
set_option maxHeartbeats 8000000 in
theorem closeNamed_run (rb ob cap n i : Nat) (tv : Value) (l : List Tkn) (QT : Nat → Prop) (top : Gp) (ka : Option Addr) (kc : Nat) (X : World → Prop) (QE : World → Prop) (W : World) (hn : n + 1 + 1 ≤ 1048576) (hi : i < l.length) (hz : l.length ≤ 1048576)
    (h3 : W.cell? ⟨rb, 3, none⟩ = some (.slice (some ⟨ob, 0, none⟩) (n + 1 + 1) cap))
    (hc : ∀ j u, (fgV top.fg (.slice ka top.kids.length kc))[j]? = some u → W.cell? ⟨ob, (n + 1) * 8 + j, none⟩ = some u)
    (hcl : ∀ q O, Calls Tryz.prog 63 #[.pointer (some ⟨rb, 0, none⟩)] ((W.drewN q).alloc (.cells (fgV top.fg (.slice ka top.kids.length kc)).toArray O)) fun e w' => e = .returned (.tuple #[]) ∧ Mid rb W.heap.size i tv l QT top (.slice ka top.kids.length kc) w' ∧ X w')
    (hno : isStopM l (skipN l (skipW l (i + 1) top.opn) top.kids) = false → ∀ w2 w4, X w2 → Below w2.heap.size w2 w4 → QE w4)
    (hyes : isStopM l (skipN l (skipW l (i + 1) top.opn) top.kids) = true → ∀ w2 w4, X w2 → Mid rb W.heap.size i tv l QT top (.slice ka top.kids.length kc) w4 → Below w2.heap.size w2 w4 → QE (w4.setCell ⟨rb, 2, none⟩ (.int .i64 (skipN l (skipW l (i + 1) top.opn) top.kids : Int)))) :
    Calls Tryz.prog 64 #[.pointer (some ⟨rb, 0, none⟩)] W fun e w' => e = .returned (.tuple #[]) ∧ QE w' := by
  have hj1 := skipW_len l (i + 1) top.opn (by omega)
  have hj2 := skipN_len l (skipW l (i + 1) top.opn) top.kids hj1
  have hk1 := skipW_cases l (i + 1) top.opn
  have hk2 := skipN_cases l (skipW l (i + 1) top.opn) top.kids
  generalize hJ1 : skipW l (i + 1) top.opn = j1 at hj1 hj2 hk1 hk2 hno hyes
  generalize hJ2 : skipN l j1 top.kids = j2 at hj2 hk2 hno hyes
  obtain ⟨⟨k0, n0, s0, a0, m0⟩, o, ks, pl⟩ := top
  simp only at hk1 hk2 hno hyes hJ1 hJ2
  have hnm : ∀ (w : World) (B : Nat), Mid rb B i tv l QT ⟨(k0, n0, s0, a0, m0), o, ks, pl⟩ (.slice ka ks.length kc) w → Calls Tryz.prog 93 #[.agg #[.int .i64 k0, .int .i64 n0, .string s0, .int .i64 a0, .int .i64 m0, .string o, .slice ka ks.length kc]] w fun e w' => e = .returned (.tuple #[.string (nameV ks).1, .bool (nameV ks).2]) ∧ Below w.heap.size w w' := fun w B hm => nameOf_any (.mk (k0, n0, s0, a0, m0) o ks) w hm.fv
  generalize nameV ks = nv at hk2 hnm
  obtain ⟨nm, okb⟩ := nv
  simp only at hk2 hnm
  have HNM := Lib.hid hnm
  have HIN : Hid (∀ (w : World) (B j : Nat) (ji : Int) (s : ByteArray) (b : Bool), ji = (j : Int) → isNameM l j s = b → Mid rb B i tv l QT ⟨(k0, n0, s0, a0, m0), o, ks, pl⟩ (.slice ka ks.length kc) w → Calls Tryz.prog 92 #[.pointer (some ⟨rb, 0, none⟩), .int .i64 ji, .string s] w fun e w' => e = .returned (.bool b) ∧ w = w') :=
    Lib.hid (by rintro w B j ji s b rfl rfl hm; exact fisName_any rb j s w hm.c0 hm.tk)
  have HIS : Hid (∀ (w : World) (B j : Nat) (ji : Int) (b : Bool), ji = (j : Int) → j ≤ l.length → isStopM l j = b → Mid rb B i tv l QT ⟨(k0, n0, s0, a0, m0), o, ks, pl⟩ (.slice ka ks.length kc) w → Calls Tryz.prog 94 #[.pointer (some ⟨rb, 0, none⟩), .int .i64 ji] w fun e w' => e = .returned (.bool b) ∧ Below w.heap.size w w') :=
    Lib.hid (by rintro w B j ji b rfl hj rfl hm; exact isStop_any rb j hj hz w hm.c0 hm.tk)
  clear hnm
  have c0 : W.cell? ⟨ob, (n + 1) * 8, none⟩ = some (.int .i64 k0) := hc 0 _ rfl
  have c1 : W.cell? ⟨ob, (n + 1) * 8 + 1, none⟩ = some (.int .i64 n0) := hc 1 _ rfl
  have c2 : W.cell? ⟨ob, (n + 1) * 8 + 2, none⟩ = some (.string s0) := hc 2 _ rfl
  have c3 : W.cell? ⟨ob, (n + 1) * 8 + 3, none⟩ = some (.int .i64 a0) := hc 3 _ rfl
  have c4 : W.cell? ⟨ob, (n + 1) * 8 + 4, none⟩ = some (.int .i64 m0) := hc 4 _ rfl
  have c5 : W.cell? ⟨ob, (n + 1) * 8 + 5, none⟩ = some (.string o) := hc 5 _ rfl
  have c6 : W.cell? ⟨ob, (n + 1) * 8 + 6, none⟩ = some (.slice ka ks.length kc) := hc 6 _ rfl
  have HI := Lib.hid (innermost_any rb ob (n + 1) cap hn W h3)
  have HCL : Hid (∀ (w : World) (O : Obj), (∃ q, w = (W.drewN q).alloc O) → O = .cells #[.int .i64 k0, .int .i64 n0, .string s0, .int .i64 a0, .int .i64 m0, .string o, .slice ka ks.length kc] 52 → Calls Tryz.prog 63 #[.pointer (some ⟨rb, 0, none⟩)] w fun e w' => e = .returned (.tuple #[]) ∧ Mid rb W.heap.size i tv l QT ⟨(k0, n0, s0, a0, m0), o, ks, pl⟩ (.slice ka ks.length kc) w' ∧ X w') :=
    Lib.hid (by rintro w O ⟨q, rfl⟩ rfl; exact hcl q 52)
  have HNO := Lib.hid hno; have HYES := Lib.hid hyes; have HK1 := Lib.hid hk1; have HK2 := Lib.hid hk2
  have HJ := Lib.hid hJ1; have HJ2 := Lib.hid hJ2
  clear hc hcl hno hyes h3 hk1 hk2 hJ1 hJ2
  have w1 : IntKind.i64.wrap ((i : Int) + 1) = (i : Int) + 1 := IntWalk.i64_in _ (by omega)
  have w2 : IntKind.i64.wrap ((i : Int) + 1 + 1) = (i : Int) + 1 + 1 := IntWalk.i64_in _ (by omega)
  have w3 : IntKind.i64.wrap ((i : Int) + 1 + 1 + 1) = (i : Int) + 1 + 1 + 1 := IntWalk.i64_in _ (by omega)
  go_enter Tryz.func64, Tryz.ntmps64
  go_wp2_with fail
  refine HI.out.mono ?_
  rintro e w1 ⟨rfl, q, rfl⟩
  have d0 : (W.drewN q).cell? ⟨ob, (n + 1) * 8, none⟩ = some (.int .i64 k0) := c0
  have d1 : (W.drewN q).cell? ⟨ob, (n + 1) * 8 + 1, none⟩ = some (.int .i64 n0) := c1
  have d2 : (W.drewN q).cell? ⟨ob, (n + 1) * 8 + 2, none⟩ = some (.string s0) := c2
  have d3 : (W.drewN q).cell? ⟨ob, (n + 1) * 8 + 3, none⟩ = some (.int .i64 a0) := c3
  have d4 : (W.drewN q).cell? ⟨ob, (n + 1) * 8 + 4, none⟩ = some (.int .i64 m0) := c4
  have d5 : (W.drewN q).cell? ⟨ob, (n + 1) * 8 + 5, none⟩ = some (.string o) := c5
  have d6 : (W.drewN q).cell? ⟨ob, (n + 1) * 8 + 6, none⟩ = some (.slice ka ks.length kc) := c6
  have HQ : Hid (∃ q, W.drewN q = W.drewN q ∧ (W.drewN q).heap.size = W.heap.size) := Lib.hid ⟨q, rfl, rfl⟩
  have HCL2 : Hid (∀ (O : Obj), O = .cells #[.int .i64 k0, .int .i64 n0, .string s0, .int .i64 a0, .int .i64 m0, .string o, .slice ka ks.length kc] 52 → Calls Tryz.prog 63 #[.pointer (some ⟨rb, 0, none⟩)] ((W.drewN q).alloc O) fun e w' => e = .returned (.tuple #[]) ∧ Mid rb (W.drewN q).heap.size i tv l QT ⟨(k0, n0, s0, a0, m0), o, ks, pl⟩ (.slice ka ks.length kc) w' ∧ X w') :=
    Lib.hid fun O hO => HCL.out _ O ⟨q, rfl⟩ hO
  have HY2 : Hid (isStopM l j2 = true → ∀ w2 w4, X w2 → Mid rb (W.drewN q).heap.size i tv l QT ⟨(k0, n0, s0, a0, m0), o, ks, pl⟩ (.slice ka ks.length kc) w4 → Below w2.heap.size w2 w4 → QE (w4.setCell ⟨rb, 2, none⟩ (.int .i64 (j2 : Int)))) := HYES
  clear c0 c1 c2 c3 c4 c5 c6 HI HCL HYES HQ
  generalize W.drewN q = Wq at d0 d1 d2 d3 d4 d5 d6 HCL2 HY2 ⊢
  go_wp2_with fail
  refine (HCL2.out _ rfl).mono ?_
  rintro e w2 ⟨rfl, hm, hx⟩
  have HM := Lib.hid hm; have HX := Lib.hid hx
  have e1 := hm.c1
  have b0 : w2.cell? ⟨Wq.heap.size, 0, none⟩ = some (.int .i64 k0) := hm.bx 0 _ rfl
  have b1 : w2.cell? ⟨Wq.heap.size, 1, none⟩ = some (.int .i64 n0) := hm.bx 1 _ rfl
  have b2 : w2.cell? ⟨Wq.heap.size, 2, none⟩ = some (.string s0) := hm.bx 2 _ rfl
  have b3 : w2.cell? ⟨Wq.heap.size, 3, none⟩ = some (.int .i64 a0) := hm.bx 3 _ rfl
  have b4 : w2.cell? ⟨Wq.heap.size, 4, none⟩ = some (.int .i64 m0) := hm.bx 4 _ rfl
  have b5 : w2.cell? ⟨Wq.heap.size, 5, none⟩ = some (.string o) := hm.bx 5 _ rfl
  have b6 : w2.cell? ⟨Wq.heap.size, 6, none⟩ = some (.slice ka ks.length kc) := hm.bx 6 _ rfl
  clear hm hx HCL2 d0 d1 d2 d3 d4 d5 d6
  rcases HK1.out with ⟨hb1, hj1e⟩ | ⟨hb1, hj1e⟩
  · subst hj1e
    have HC0 := Lib.hid (HIN.out w2 Wq.heap.size (i + 1) ((i : Int) + 1) o true (by omega) hb1 HM.out)
    clear hb1 HK1
    go_wp2_with fail
    refine HC0.out.mono ?_
    rintro e w2' ⟨rfl, rfl⟩
    go_wp2_with fail
    refine (HNM.out _ _ HM.out).mono ?_
    rintro e w3 ⟨rfl, hb3⟩
    have HB3 := Lib.hid hb3
    have HM3 := Lib.hid (HM.out.below hb3)
    clear hb3 b0 b1 b2 b3 b4 b5 b6 e1 HNM
    rcases HK2.out with ⟨hok, hb2, hj⟩ | ⟨hok, hb2, hj⟩ | ⟨hok, hj⟩
    · subst hok
      have HC1 := Lib.hid (HIN.out w3 Wq.heap.size _ ((i : Int) + 1 + 1) nm true (by omega) hb2 HM3.out)
      have HJX := Lib.hid hj
      clear hb2 hj HIN HK2
      go_wp2_with fail
      refine HC1.out.mono ?_
      rintro e w3' ⟨rfl, rfl⟩
      go_wp2_with fail
      have hj := HJX.out
      cases hstop : isStopM l j2
      · have HF := Lib.hid (HNO.out hstop)
        have HC := Lib.hid (HIS.out w3 Wq.heap.size j2 ((i : Int) + 1 + 1 + 1) false (by omega) hj2 hstop HM3.out)
        clear hstop HNO HY2 HIS
        go_wp2_with fail
        refine HC.out.mono ?_
        rintro e w4 ⟨rfl, hb4⟩
        have H4 := Lib.hid hb4
        clear hb4
        go_wp2_with fail
        exact bodyPost_end (results_none rfl _ _ _) rfl ⟨rfl, HF.out _ _ HX.out (HB3.out.trans (H4.out.mono HB3.out.size))⟩
      · have HF := Lib.hid (HY2.out hstop)
        have HC := Lib.hid (HIS.out w3 Wq.heap.size j2 ((i : Int) + 1 + 1 + 1) true (by omega) hj2 hstop HM3.out)
        clear hstop HNO HY2 HIS
        go_wp2_with fail
        refine HC.out.mono ?_
        rintro e w4 ⟨rfl, hb4⟩
        have hm4 := HM3.out.below hb4
        obtain ⟨v2, g2⟩ := hm4.c2
        have g2f := hm4.f2
        have hfin := HF.out _ _ HX.out hm4 (HB3.out.trans (hb4.mono HB3.out.size))
        have hjj : (((i : Int) + 1 + 1 + 1) : Int) = (j2 : Int) := by omega
        rw [← hjj] at hfin
        have HFIN := Lib.hid hfin
        clear hb4 hm4 hfin hjj HF
        go_wp2_with fail
        exact bodyPost_end (results_none rfl _ _ _) rfl ⟨rfl, HFIN.out⟩
    · subst hok
      have HC1 := Lib.hid (HIN.out w3 Wq.heap.size _ ((i : Int) + 1 + 1) nm false (by omega) hb2 HM3.out)
      have HJX := Lib.hid hj
      clear hb2 hj HIN HK2
      go_wp2_with fail
      refine HC1.out.mono ?_
      rintro e w3' ⟨rfl, rfl⟩
      go_wp2_with fail
      have hj := HJX.out
      cases hstop : isStopM l j2
      · have HF := Lib.hid (HNO.out hstop)
        have HC := Lib.hid (HIS.out w3 Wq.heap.size j2 ((i : Int) + 1 + 1) false (by omega) hj2 hstop HM3.out)
        clear hstop HNO HY2 HIS
        go_wp2_with fail
        refine HC.out.mono ?_
        rintro e w4 ⟨rfl, hb4⟩
        have H4 := Lib.hid hb4
        clear hb4
        go_wp2_with fail
        exact bodyPost_end (results_none rfl _ _ _) rfl ⟨rfl, HF.out _ _ HX.out (HB3.out.trans (H4.out.mono HB3.out.size))⟩
      · have HF := Lib.hid (HY2.out hstop)
        have HC := Lib.hid (HIS.out w3 Wq.heap.size j2 ((i : Int) + 1 + 1) true (by omega) hj2 hstop HM3.out)
        clear hstop HNO HY2 HIS
        go_wp2_with fail
        refine HC.out.mono ?_
        rintro e w4 ⟨rfl, hb4⟩
        have hm4 := HM3.out.below hb4
        obtain ⟨v2, g2⟩ := hm4.c2
        have g2f := hm4.f2
        have hfin := HF.out _ _ HX.out hm4 (HB3.out.trans (hb4.mono HB3.out.size))
        have hjj : (((i : Int) + 1 + 1) : Int) = (j2 : Int) := by omega
        rw [← hjj] at hfin
        have HFIN := Lib.hid hfin
        clear hb4 hm4 hfin hjj HF
        go_wp2_with fail
        exact bodyPost_end (results_none rfl _ _ _) rfl ⟨rfl, HFIN.out⟩
    · subst hok
      have HJX := Lib.hid hj
      clear hj HIN HK2
      go_wp2_with fail
      have hj := HJX.out
      cases hstop : isStopM l j2
      · have HF := Lib.hid (HNO.out hstop)
        have HC := Lib.hid (HIS.out w3 Wq.heap.size j2 ((i : Int) + 1 + 1) false (by omega) hj2 hstop HM3.out)
        clear hstop HNO HY2 HIS
        go_wp2_with fail
        refine HC.out.mono ?_
        rintro e w4 ⟨rfl, hb4⟩
        have H4 := Lib.hid hb4
        clear hb4
        go_wp2_with fail
        exact bodyPost_end (results_none rfl _ _ _) rfl ⟨rfl, HF.out _ _ HX.out (HB3.out.trans (H4.out.mono HB3.out.size))⟩
      · have HF := Lib.hid (HY2.out hstop)
        have HC := Lib.hid (HIS.out w3 Wq.heap.size j2 ((i : Int) + 1 + 1) true (by omega) hj2 hstop HM3.out)
        clear hstop HNO HY2 HIS
        go_wp2_with fail
        refine HC.out.mono ?_
        rintro e w4 ⟨rfl, hb4⟩
        have hm4 := HM3.out.below hb4
        obtain ⟨v2, g2⟩ := hm4.c2
        have g2f := hm4.f2
        have hfin := HF.out _ _ HX.out hm4 (HB3.out.trans (hb4.mono HB3.out.size))
        have hjj : (((i : Int) + 1 + 1) : Int) = (j2 : Int) := by omega
        rw [← hjj] at hfin
        have HFIN := Lib.hid hfin
        clear hb4 hm4 hfin hjj HF
        go_wp2_with fail
        exact bodyPost_end (results_none rfl _ _ _) rfl ⟨rfl, HFIN.out⟩
  · subst hj1e
    have HC0 := Lib.hid (HIN.out w2 Wq.heap.size (i + 1) ((i : Int) + 1) o false (by omega) hb1 HM.out)
    clear hb1 HK1
    go_wp2_with fail
    refine HC0.out.mono ?_
    rintro e w2' ⟨rfl, rfl⟩
    go_wp2_with fail
    refine (HNM.out _ _ HM.out).mono ?_
    rintro e w3 ⟨rfl, hb3⟩
    have HB3 := Lib.hid hb3
    have HM3 := Lib.hid (HM.out.below hb3)
    clear hb3 b0 b1 b2 b3 b4 b5 b6 e1 HNM
    rcases HK2.out with ⟨hok, hb2, hj⟩ | ⟨hok, hb2, hj⟩ | ⟨hok, hj⟩
    · subst hok
      have HC1 := Lib.hid (HIN.out w3 Wq.heap.size _ ((i : Int) + 1) nm true (by omega) hb2 HM3.out)
      have HJX := Lib.hid hj
      clear hb2 hj HIN HK2
      go_wp2_with fail
      refine HC1.out.mono ?_
      rintro e w3' ⟨rfl, rfl⟩
      go_wp2_with fail
      have hj := HJX.out
      cases hstop : isStopM l j2
      · have HF := Lib.hid (HNO.out hstop)
        have HC := Lib.hid (HIS.out w3 Wq.heap.size j2 ((i : Int) + 1 + 1) false (by omega) hj2 hstop HM3.out)
        clear hstop HNO HY2 HIS
        go_wp2_with fail
        refine HC.out.mono ?_
        rintro e w4 ⟨rfl, hb4⟩
        have H4 := Lib.hid hb4
        clear hb4
        go_wp2_with fail
        exact bodyPost_end (results_none rfl _ _ _) rfl ⟨rfl, HF.out _ _ HX.out (HB3.out.trans (H4.out.mono HB3.out.size))⟩
      · have HF := Lib.hid (HY2.out hstop)
        have HC := Lib.hid (HIS.out w3 Wq.heap.size j2 ((i : Int) + 1 + 1) true (by omega) hj2 hstop HM3.out)
        clear hstop HNO HY2 HIS
        go_wp2_with fail
        refine HC.out.mono ?_
        rintro e w4 ⟨rfl, hb4⟩
        have hm4 := HM3.out.below hb4
        obtain ⟨v2, g2⟩ := hm4.c2
        have g2f := hm4.f2
        have hfin := HF.out _ _ HX.out hm4 (HB3.out.trans (hb4.mono HB3.out.size))
        have hjj : (((i : Int) + 1 + 1) : Int) = (j2 : Int) := by omega
        rw [← hjj] at hfin
        have HFIN := Lib.hid hfin
        clear hb4 hm4 hfin hjj HF
        go_wp2_with fail
        exact bodyPost_end (results_none rfl _ _ _) rfl ⟨rfl, HFIN.out⟩
    · subst hok
      have HC1 := Lib.hid (HIN.out w3 Wq.heap.size _ ((i : Int) + 1) nm false (by omega) hb2 HM3.out)
      have HJX := Lib.hid hj
      clear hb2 hj HIN HK2
      go_wp2_with fail
      refine HC1.out.mono ?_
      rintro e w3' ⟨rfl, rfl⟩
      go_wp2_with fail
      have hj := HJX.out
      cases hstop : isStopM l j2
      · have HF := Lib.hid (HNO.out hstop)
        have HC := Lib.hid (HIS.out w3 Wq.heap.size j2 ((i : Int) + 1) false (by omega) hj2 hstop HM3.out)
        clear hstop HNO HY2 HIS
        go_wp2_with fail
        refine HC.out.mono ?_
        rintro e w4 ⟨rfl, hb4⟩
        have H4 := Lib.hid hb4
        clear hb4
        go_wp2_with fail
        exact bodyPost_end (results_none rfl _ _ _) rfl ⟨rfl, HF.out _ _ HX.out (HB3.out.trans (H4.out.mono HB3.out.size))⟩
      · have HF := Lib.hid (HY2.out hstop)
        have HC := Lib.hid (HIS.out w3 Wq.heap.size j2 ((i : Int) + 1) true (by omega) hj2 hstop HM3.out)
        clear hstop HNO HY2 HIS
        go_wp2_with fail
        refine HC.out.mono ?_
        rintro e w4 ⟨rfl, hb4⟩
        have hm4 := HM3.out.below hb4
        obtain ⟨v2, g2⟩ := hm4.c2
        have g2f := hm4.f2
        have hfin := HF.out _ _ HX.out hm4 (HB3.out.trans (hb4.mono HB3.out.size))
        have hjj : (((i : Int) + 1) : Int) = (j2 : Int) := by omega
        rw [← hjj] at hfin
        have HFIN := Lib.hid hfin
        clear hb4 hm4 hfin hjj HF
        go_wp2_with fail
        exact bodyPost_end (results_none rfl _ _ _) rfl ⟨rfl, HFIN.out⟩
    · subst hok
      have HJX := Lib.hid hj
      clear hj HIN HK2
      go_wp2_with fail
      have hj := HJX.out
      cases hstop : isStopM l j2
      · have HF := Lib.hid (HNO.out hstop)
        have HC := Lib.hid (HIS.out w3 Wq.heap.size j2 ((i : Int) + 1) false (by omega) hj2 hstop HM3.out)
        clear hstop HNO HY2 HIS
        go_wp2_with fail
        refine HC.out.mono ?_
        rintro e w4 ⟨rfl, hb4⟩
        have H4 := Lib.hid hb4
        clear hb4
        go_wp2_with fail
        exact bodyPost_end (results_none rfl _ _ _) rfl ⟨rfl, HF.out _ _ HX.out (HB3.out.trans (H4.out.mono HB3.out.size))⟩
      · have HF := Lib.hid (HY2.out hstop)
        have HC := Lib.hid (HIS.out w3 Wq.heap.size j2 ((i : Int) + 1) true (by omega) hj2 hstop HM3.out)
        clear hstop HNO HY2 HIS
        go_wp2_with fail
        refine HC.out.mono ?_
        rintro e w4 ⟨rfl, hb4⟩
        have hm4 := HM3.out.below hb4
        obtain ⟨v2, g2⟩ := hm4.c2
        have g2f := hm4.f2
        have hfin := HF.out _ _ HX.out hm4 (HB3.out.trans (hb4.mono HB3.out.size))
        have hjj : (((i : Int) + 1) : Int) = (j2 : Int) := by omega
        rw [← hjj] at hfin
        have HFIN := Lib.hid hfin
        clear hb4 hm4 hfin hjj HF
        go_wp2_with fail
        exact bodyPost_end (results_none rfl _ _ _) rfl ⟨rfl, HFIN.out⟩
end

section
open Go.RowKit

def clsF (rb : Nat) (s : ByteArray) : Value := .func (.func (if isNamed s then 64 else 63)) #[.pointer (some ⟨rb, 0, none⟩)] #[]
/-- The table of closings. -/
def MapOk (W : World) (mb rb : Nat) (ws : List ByteArray) : Prop :=
  ∃ es clk, W.heap[mb]? = some (.map es clk) ∧ es.isEmpty = false ∧ (∀ s, s ∈ basics ++ ws → ∃ k, Instr.findNow .string (.string s) es.toList 0 = some (some (k, clsF rb s))) ∧ (∀ s, ¬ s ∈ basics ++ ws → Instr.findNow .string (.string s) es.toList 0 = some none)
structure RdrS (l : List Tkn) (tv : Value) (ws : List ByteArray) (base rb mb i : Nat) (W : World) : Prop where
  rlt : rb + 2 = base
  mlt : mb + 1 = base
  rm : mb ≠ rb
  bz : base ≤ W.heap.size
  c0 : W.cell? ⟨rb, 0, none⟩ = some tv
  c1 : W.cell? ⟨rb, 1, none⟩ = some (.int .i64 (i : Int))
  c4 : W.cell? ⟨rb, 4, none⟩ = some (.map (some mb))
  fr : ∀ j, W.frozen? ⟨rb, j, none⟩ = false
  tk : TRow W (fun g => g + 3 < base) tv l
  mp : MapOk W mb rb ws
theorem RdrS.keep {l : List Tkn} {tv : Value} {ws : List ByteArray} {base rb mb i : Nat} {W W' : World} {K : Nat → Prop} (h : RdrS l tv ws base rb mb i W) (hk : KeptR rb base K W W') (h0 : ¬ K 0) (h1 : ¬ K 1) (h4 : ¬ K 4) : RdrS l tv ws base rb mb i W' := by
  have hz := hk.keep.size; have hb := h.bz; have hl := h.mlt; have hr := h.rlt
  refine ⟨h.rlt, h.mlt, h.rm, by omega, (hk.cells 0 h0).trans h.c0, (hk.cells 1 h1).trans h.c1, (hk.cells 4 h4).trans h.c4, fun j => (hk.fr j).trans (h.fr j), h.tk.keep (fun b hb hz => hk.keep.block b hz (by omega)) hz, ?_⟩
  obtain ⟨es, clk, hm, rest⟩ := h.mp
  exact ⟨es, clk, (hk.keep.block mb (by omega) (by have := h.rm; omega)).trans hm, rest⟩
theorem RdrS.below {l : List Tkn} {tv : Value} {ws : List ByteArray} {base rb mb i : Nat} {W W' : World} (h : RdrS l tv ws base rb mb i W) (hb : Below W.heap.size W W') : RdrS l tv ws base rb mb i W' :=
  h.keep (K := fun _ => False) ⟨.of_below hb, fun j _ => hb.cell (p := ⟨rb, j, none⟩) (by have := h.rlt; have := h.bz; simp; omega), fun j => hb.frozen (p := ⟨rb, j, none⟩) (by have := h.rlt; have := h.bz; simp; omega)⟩ (fun h => h) (fun h => h) (fun h => h)
theorem KeptR.below {rb base : Nat} {K : Nat → Prop} {W W' : World} (hb : Below W.heap.size W W') (hr : rb < W.heap.size) : KeptR rb base K W W' :=
  ⟨.of_below hb, fun j _ => hb.cell (p := ⟨rb, j, none⟩) hr, fun j => hb.frozen (p := ⟨rb, j, none⟩) hr⟩
theorem KeptR.trans {rb base : Nat} {K : Nat → Prop} {x y z : World} (h : KeptR rb base K x y) (k : KeptR rb base K y z) : KeptR rb base K x z :=
  ⟨h.keep.trans k.keep, fun j hj => (k.cells j hj).trans (h.cells j hj), fun j => (k.fr j).trans (h.fr j)⟩
theorem KeptR.mono {rb base : Nat} {K K' : Nat → Prop} {x y : World} (h : KeptR rb base K x y) (hk : ∀ j, K j → K' j) : KeptR rb base K' x y := ⟨h.keep, fun j hj => h.cells j (fun e => hj (hk j e)), h.fr⟩
theorem KeptR.set {rb base : Nat} {K : Nat → Prop} {x y : World} (h : KeptR rb base K x y) {j : Nat} (hj : K j) (v : Value) : KeptR rb base K x (y.setCell ⟨rb, j, none⟩ v) :=
  ⟨h.keep.setCell (.inl rfl) _ _, fun j' hj' => (World.cell?_setCell_other _ _ _ _ (by intro e; simp only [Addr.mk.injEq, true_and, and_true] at e; subst e; exact hj' hj)).trans (h.cells j' hj'), fun j' => by rw [World.frozen?_setCell]; exact h.fr j'⟩

/-- Behind the closing of a group. -/
def Closed (l : List Tkn) (i : Nat) (rb base ob cap : Nat) (pre : List Gp) (g top : Gp) (kp : List Value) (beh : Nat) (W w' : World) : Prop :=
  KeptR rb base (fun j => j = 2 ∨ j = 3) W w' ∧ w'.cell? ⟨rb, 2, none⟩ = some (.int .i64 ((if isNamed top.opn then behindM l i top beh else beh : Nat) : Int)) ∧ w'.cell? ⟨rb, 3, none⟩ = some (.slice (some ⟨ob, 0, none⟩) (pre.length + 1) cap) ∧ ∃ v', Opq w' base (pre ++ [g.add top.fg]) ob cap (kp ++ [v'])
section
variable {l : List Tkn} {tv : Value} {ws : List ByteArray} {base rb mb i ob cap beh : Nat} {pre : List Gp} {g top : Gp} {kp : List Value} {kg kt : Value} {W : World}
theorem closeP_any (hR : RdrS l tv ws base rb mb i W) (hnm : isNamed top.opn = false) (hn : pre.length + 1 + 1 ≤ 1048576) (hkn : g.kids.length + 1 ≤ 1048576)
    (h2 : W.cell? ⟨rb, 2, none⟩ = some (.int .i64 (beh : Int))) (h3 : W.cell? ⟨rb, 3, none⟩ = some (.slice (some ⟨ob, 0, none⟩) (pre.length + 1 + 1) cap)) (h : Opq W base ((pre ++ [g]) ++ [top]) ob cap ((kp ++ [kg]) ++ [kt])) :
    Calls Tryz.prog 63 #[.pointer (some ⟨rb, 0, none⟩)] W fun e w' => e = .returned (.tuple #[]) ∧ Closed l i rb base ob cap pre g top kp beh W w' := by
  refine (close_any rb base ob cap pre g top kp kg kt W hR.rlt hR.bz hn hkn h3 (hR.fr 3) h).mono ?_
  rintro e w' ⟨rfl, hk, _, _, hc3, hv⟩
  exact ⟨rfl, hk.mono fun j e => .inr e, by rw [hnm]; exact (hk.cells 2 (by omega)).trans h2, hc3, hv⟩
theorem closeNamed_any (hR : RdrS l tv ws base rb mb i W) (hnm : isNamed top.opn = true) (hn : pre.length + 1 + 1 ≤ 1048576) (hkn : g.kids.length + 1 ≤ 1048576) (hi : i < l.length) (hz : l.length ≤ 1048576)
    (h2 : W.cell? ⟨rb, 2, none⟩ = some (.int .i64 (beh : Int))) (h3 : W.cell? ⟨rb, 3, none⟩ = some (.slice (some ⟨ob, 0, none⟩) (pre.length + 1 + 1) cap)) (h : Opq W base ((pre ++ [g]) ++ [top]) ob cap ((kp ++ [kg]) ++ [kt])) :
    Calls Tryz.prog 64 #[.pointer (some ⟨rb, 0, none⟩)] W fun e w' => e = .returned (.tuple #[]) ∧ Closed l i rb base ob cap pre g top kp beh W w' := by
  have hl : kp.length = pre.length := by have := h.len; simpa using this
  obtain ⟨ka, kc, rfl, _⟩ := id h.pop.2
  have hrz : rb < W.heap.size := by have := hR.rlt; have := hR.bz; omega
  refine closeNamed_run rb ob cap pre.length i tv l (fun g => g + 3 < base) top ka kc (fun w' => KeptR rb base (fun j => j = 3) W w' ∧ w'.cell? ⟨rb, 3, none⟩ = some (.slice (some ⟨ob, 0, none⟩) (pre.length + 1) cap) ∧ ∃ v', Opq w' base (pre ++ [g.add top.fg]) ob cap (kp ++ [v'])) (Closed l i rb base ob cap pre g top kp beh W) W hn hi hz h3 (fun j u hu => ?_) (fun q O => ?_) (fun hs => ?_) (fun hs => ?_)
  · have := h.cellG (j := j) (u := u) (by
      have hj : j < 7 := by have := (List.getElem?_eq_some_iff.1 hu).1; simpa [fgV] using this
      unfold gpV
      rw [List.getElem?_append_left (by simpa [fgV] using hj)]
      exact hu)
    rw [List.length_append, List.length_singleton] at this
    exact this
  · have hb : Below W.heap.size W ((W.drewN q).alloc (.cells (fgV top.fg (.slice ka top.kids.length kc)).toArray O)) := (below_drewN (Below.refl _ W) q).alloc (Nat.le_refl _) _
    have hR1 := hR.below hb
    have h1 := h.keep (W' := (W.drewN q).alloc (.cells (fgV top.fg (.slice ka top.kids.length kc)).toArray O)) (fun b _ hz => hb.block b hz) hb.size
    refine (close_any rb base ob cap pre g top kp kg _ _ hR1.rlt hR1.bz hn hkn ((hb.cell (p := ⟨rb, 3, none⟩) hrz).trans h3) (hR1.fr 3) h1).mono ?_
    rintro e w' ⟨rfl, hk, hse, hfv, hc3, hv⟩
    have hR2 := hR1.keep hk (by omega) (by omega) (by omega)
    have hsz := hk.keep.size
    simp only [World.size_alloc, World.heap_drewN] at hsz
    have hbx : w'.heap[W.heap.size]? = some (.cells (fgV top.fg (.slice ka top.kids.length kc)).toArray O) := by
      refine (hse W.heap.size ⟨hR.bz, ?_, ?_⟩ (by simp)).trans (heap_alloc_new (W.drewN q) _)
      · have := h.oblt; omega
      · intro kv hkv e
        obtain ⟨j, hj⟩ := List.mem_iff_getElem?.1 hkv
        have hjl := (List.getElem?_eq_some_iff.1 hj).1
        obtain ⟨gj, hgj⟩ : ∃ gj, ((pre ++ [g]) ++ [top])[j]? = some gj := ⟨_, List.getElem?_eq_getElem (by simp at hjl ⊢; omega)⟩
        have := (h.kids j gj kv hgj (by rw [List.getElem?_append_left hjl]; exact hj)).lt e
        omega
    exact ⟨rfl, ⟨by have := hR2.rlt; have := hR2.bz; omega, by omega, hR2.c0, hR2.c1, ⟨_, (hk.cells 2 (by omega)).trans ((hb.cell (p := ⟨rb, 2, none⟩) hrz).trans h2)⟩, hR2.fr 2, hR2.tk, fun j u hu => by rw [fcell_at hbx, List.getElem?_toArray]; exact hu, hfv⟩,
      (KeptR.below hb hrz).trans hk, hc3, hv⟩
  · rintro w2 w4 ⟨hk, hc3, v', hv⟩ hb4
    have hr2 : rb < w2.heap.size := by have := hk.keep.size; omega
    have hbe : behindM l i top beh = beh := by unfold behindM; rw [hs]; rfl
    exact ⟨(hk.mono fun j e => .inr e).trans (KeptR.below hb4 hr2), by rw [hnm, if_pos rfl, hbe]; exact (hb4.cell (p := ⟨rb, 2, none⟩) hr2).trans ((hk.cells 2 (by omega)).trans h2), (hb4.cell (p := ⟨rb, 3, none⟩) hr2).trans hc3, v', hv.keep (fun b _ hz => hb4.block b hz) hb4.size⟩
  · rintro w2 w4 ⟨hk, hc3, v', hv⟩ hm hb4
    have hr2 : rb < w2.heap.size := by have := hk.keep.size; omega
    have hbe : behindM l i top beh = skipN l (skipW l (i + 1) top.opn) top.kids := by unfold behindM; rw [hs]; rfl
    have hk4 := (hk.mono (K' := fun j => j = 2 ∨ j = 3) fun j e => .inr e).trans (KeptR.below hb4 hr2)
    obtain ⟨u2, hu2⟩ := hm.c2
    refine ⟨hk4.set (.inl rfl) _, ?_, ?_, v', (hv.keep (fun b _ hz => hb4.block b hz) hb4.size).keep (fun b hb hz => ?_) (by simp)⟩
    · rw [hnm, if_pos rfl, hbe]
      exact World.cell?_setCell_same' _ _ _ (by rw [hu2]; rfl)
    · rw [World.cell?_setCell_other _ _ _ _ (by simp)]
      exact (hb4.cell (p := ⟨rb, 3, none⟩) hr2).trans hc3
    · exact Below.heap_setCell _ _ _ _ (by have := hR.rlt; simp; omega)
end
end

end Go.Proofs.YtafncodigpjkaaaGreatDoor
