/-
  Lists of lists of fragments in memory; what is appended.
  Split and Join.
  Join.
-/
import Derived.Test.YtafncodigpjkaaaGreatDoorFJ1
import Derived.Test.YtafncodigpjkaaaGreatDoorFHN
import Derived.Deep.AppendLies
namespace Go.Proofs.YtafncodigpjkaaaGreatDoor
section
open Go.RowKit

/-- A list of lists of fragments. -/
def PVal (w : World) (P : Nat → Prop) (v : Value) (ls : List (List Fg)) : Prop :=
  ∃ a c, v = .slice a ls.length c ∧ (ls ≠ [] → ∃ g o, a = some ⟨g, o, none⟩ ∧ g < w.heap.size ∧ ∀ i l, ls[i]? = some l → ∃ u, w.cell? ⟨g, o + i, none⟩ = some u ∧ FVal w P u l)
theorem PVal.keep {w w' : World} {P P' : Nat → Prop} {v : Value} {ls : List (List Fg)} (h : PVal w P v ls) (hP : ∀ b, P b → b < w.heap.size → P' b) (hb : Below w.heap.size w w') : PVal w' P' v ls := by
  obtain ⟨a, c, rfl, hr⟩ := h
  refine ⟨a, c, rfl, fun hne => ?_⟩
  obtain ⟨g, o, e, z, hr⟩ := hr hne
  refine ⟨g, o, e, by have := hb.size; omega, fun i l hl => ?_⟩
  obtain ⟨u, h1, h2⟩ := hr i l hl
  exact ⟨u, (hb.cell (p := ⟨g, o + i, none⟩) z).trans h1, h2.keep (fun b p z => ⟨hP b p z, hb.block b z⟩) hb.size⟩
/-- A list of lists of fragments in a row of the call's own. -/
def POwn (w : World) (base : Nat) (v : Value) (ls : List (List Fg)) : Prop :=
  ∃ kvs : List Value, kvs.length = ls.length ∧ w.ownsRow base 25 1 v ls.length kvs ∧ ∀ (i : Nat) (l : List Fg) (u : Value), ls[i]? = some l → kvs[i]? = some u → FVal w (fun b => v.ownBlock ≠ some b) u l
theorem POwn.nil (w : World) (base : Nat) : POwn w base (.slice none 0 0) [] := ⟨[], rfl, World.ownsRow_nil _ _ _ _, fun i l u h => by cases h⟩
theorem ownsRow_keep {w w' : World} {base : Nat} {e : TypeId} {size n : Nat} {v : Value} {xs : List Value} (h : w.ownsRow base e size v n xs) (hb : ∀ k, k < w.heap.size → w'.heap[k]? = w.heap[k]?) : w'.ownsRow base e size v n xs := by
  refine ⟨h.1, ?_⟩
  rcases h.2 with hn | ⟨g', cap', cur, e1, hb', hh, rest⟩
  · exact .inl hn
  · exact .inr ⟨_, _, cur, e1, hb', (hb _ (Array.getElem?_eq_some_iff.1 hh).1).trans hh, rest⟩
theorem POwn.below {w w' : World} {base : Nat} {v : Value} {ls : List (List Fg)} (h : POwn w base v ls) (hb : Below w.heap.size w w') : POwn w' base v ls := by
  obtain ⟨kvs, h1, h2, h3⟩ := h
  exact ⟨kvs, h1, ownsRow_keep h2 hb.block, fun i l u hl hu => (h3 i l u hl hu).below hb⟩
/-- What is kept behind an append. -/
theorem app_val {w w' : World} {v u : Value} {g : Nat} {l : List Fg} (hg : w.grownBy w' v.ownBlock) (hat : v.ownBlock = some g ∨ g = w.heap.size) (h : FVal w (fun b => v.ownBlock ≠ some b) u l) : FVal w' (fun b => some g ≠ some b) u l :=
  h.keep (fun b p z => ⟨fun e => by
    rcases hat with h | h
    · exact p (h.trans e)
    · have := Option.some.inj e; omega, hg.block b z (fun e => p (e.symm ▸ rfl))⟩) hg.size
theorem POwn.app {w w' : World} {base g cap : Nat} {v u : Value} {ls : List (List Fg)} {l : List Fg} {kvs : List Value} (h1 : kvs.length = ls.length) (h3 : ∀ (i : Nat) (l : List Fg) (u : Value), ls[i]? = some l → kvs[i]? = some u → FVal w (fun b => v.ownBlock ≠ some b) u l)
    (hu : FVal w (fun b => v.ownBlock ≠ some b) u l) (hg : w.grownBy w' v.ownBlock) (hat : v.ownBlock = some g ∨ g = w.heap.size) (ho : w'.ownsRow base 25 1 (.slice (some ⟨g, 0, none⟩) (ls.length + 1) cap) (ls.length + 1) (kvs ++ [u])) :
    POwn w' base (.slice (some ⟨g, 0, none⟩) (ls.length + 1) cap) (ls ++ [l]) := by
  refine ⟨kvs ++ [u], by simp [h1], by rw [List.length_append, List.length_singleton]; exact ho, fun i m y hm hy => ?_⟩
  by_cases hi : i < ls.length
  · rw [List.getElem?_append_left hi] at hm
    rw [List.getElem?_append_left (by omega)] at hy
    exact app_val hg hat (h3 i m y hm hy)
  · rw [List.getElem?_append_right (by omega)] at hm
    rw [List.getElem?_append_right (by omega), h1] at hy
    have hi0 : i - ls.length = 0 := by have := (List.getElem?_eq_some_iff.1 hm).1; simp at this; omega
    rw [hi0] at hm hy
    cases hm; cases hy
    exact app_val hg hat hu
theorem POwn.val {w : World} {base : Nat} {v : Value} {ls : List (List Fg)} (h : POwn w base v ls) : PVal w (fun _ => True) v ls := by
  obtain ⟨kvs, h1, h2, h3⟩ := h
  rcases h2.2 with ⟨rfl, hn⟩ | ⟨g, cap, cur, rfl, hb, hg, _⟩
  · rw [List.length_eq_zero_iff.1 hn]
    exact ⟨none, 0, rfl, fun h => absurd rfl h⟩
  · refine ⟨some ⟨g, 0, none⟩, cap, rfl, fun _ => ⟨g, 0, rfl, (Array.getElem?_eq_some_iff.1 hg).1, fun i l hl => ?_⟩⟩
    have hil := (List.getElem?_eq_some_iff.1 hl).1
    obtain ⟨u, hu⟩ : ∃ u, kvs[i]? = some u := ⟨_, List.getElem?_eq_getElem (by omega)⟩
    refine ⟨u, ?_, (h3 i l u hl hu).keep (fun _ _ _ => ⟨trivial, rfl⟩) (Nat.le_refl _)⟩
    rw [Nat.zero_add, h2.cellAt i (by omega)]
    exact hu
/-- A list of fragments in a row of the call's own, that does not hold itself. -/
def JOwn (w : World) (base : Nat) (v : Value) (l : List Fg) : Prop := FOwn w base (fun b => v.ownBlock ≠ some b) v l
theorem JOwn.nil (w : World) (base : Nat) : JOwn w base (.slice none 0 0) [] := FOwn.nil _ _ _
theorem JOwn.below {w w' : World} {base : Nat} {v : Value} {l : List Fg} (h : JOwn w base v l) (hb : Below w.heap.size w w') : JOwn w' base v l :=
  FOwn.keep h (fun b p z => ⟨p, hb.block b z⟩) hb.size (fun b _ z => hb.block b z)
theorem JOwn.app {w w' : World} {base g cap n : Nat} {v : Value} {l m : List Fg} {kvs kvs' : List Value} (h1 : kvs.length = l.length) (h1' : kvs'.length = m.length) (h3 : ∀ (i : Nat) (x : Fg) (u : Value), l[i]? = some x → kvs[i]? = some u → FVal w (fun b => v.ownBlock ≠ some b) u x.kids)
    (h3' : ∀ (i : Nat) (x : Fg) (u : Value), m[i]? = some x → kvs'[i]? = some u → FVal w (fun b => v.ownBlock ≠ some b) u x.kids) (hg : w.grownBy w' v.ownBlock) (hat : v.ownBlock = some g ∨ g = w.heap.size) (hn : n = l.length + m.length)
    (ho : w'.ownsRow base 52 7 (.slice (some ⟨g, 0, none⟩) n cap) n (flatF l kvs ++ flatF m kvs')) : JOwn w' base (.slice (some ⟨g, 0, none⟩) n cap) (l ++ m) := by
  subst hn
  refine ⟨kvs ++ kvs', by simp [h1, h1'], by rw [List.length_append, flatF_append h1]; exact ho, fun i x y hx hy => ?_⟩
  by_cases hi : i < l.length
  · rw [List.getElem?_append_left hi] at hx
    rw [List.getElem?_append_left (by omega)] at hy
    exact app_val hg hat (h3 i x y hx hy)
  · rw [List.getElem?_append_right (by omega)] at hx
    rw [List.getElem?_append_right (by omega), h1] at hy
    exact app_val hg hat (h3' _ x y hx hy)
theorem JOwn.val {w : World} {base : Nat} {v : Value} {l : List Fg} (h : JOwn w base v l) : FVal w (fun _ => True) v l := FOwn.val h (fun _ _ => trivial) (fun _ _ => trivial)
theorem JOwn.form {w : World} {base : Nat} {v : Value} {l : List Fg} (h : JOwn w base v l) : ∃ b c, v = .slice b l.length c ∧ l.length ≤ c := by
  obtain ⟨kvs, h1, h2, h3⟩ := h
  rcases h2.2 with ⟨rfl, hn⟩ | ⟨g, cap, cur, rfl, hb, hg, hc, _⟩
  · exact ⟨none, 0, by rw [hn], by omega⟩
  · exact ⟨_, cap, rfl, hc⟩
theorem infoFrags : (Tryz.prog.info? 25).map (fun i => (i.zero, i.size, i.bytes)) = some (some (.slice none 0 0), 1, 24) := by kernel_rfl
/-- The cell of a block that is made. -/
theorem new_one {w : World} {B : Nat} {u : Value} {t : TypeId} {fr : Nat × Nat} (h : w.heap[B]? = some (.cells #[u] t fr)) : ∀ j x, [u][j]? = some x → w.cell? ((⟨B, 0, none⟩ : Addr).add j) = some x := World.news_of_block (cs := #[u]) h
/-! A part of a list. -/
def subV (a : Option Addr) (b i c : Nat) : Value := .slice (if c = b then a else a.map (·.add (b * 7))) (i - b) (c - b)
theorem slice_lh (a : Option Addr) (n c b i : Nat) (h1 : b ≤ i) (h2 : i ≤ c) (w : World) : (Instr.sliceAt 25 (.slice a n c) (some (.int .i64 (b : Int))) (some (.int .i64 (i : Int))) none).run Tryz.prog w = .ok (subV a b i c) w := by
  rw [run_sliceAt_slice w 25 _ _ _ _ (by kernel_rfl), run_slice_lh w 25 a n c (by kernel_rfl) .i64 .i64 (b : Int) (i : Int) (by omega) (by omega) (by omega)]
  have e : (sizeOf (Tryz.prog.elem 25)).run Tryz.prog w = .ok 7 w := by kernel_rfl
  rw [e]
  rfl
theorem slice_l (a : Option Addr) (n c b : Nat) (h1 : b ≤ n) (w : World) : (Instr.sliceAt 25 (.slice a n c) (some (.int .i64 (b : Int))) none none).run Tryz.prog w = .ok (subV a b n c) w := by
  rw [run_sliceAt_slice w 25 _ _ _ _ (by kernel_rfl), run_slice_l w 25 a n c (by kernel_rfl) .i64 (b : Int) (by omega) (by omega)]
  have e : (sizeOf (Tryz.prog.elem 25)).run Tryz.prog w = .ok 7 w := by kernel_rfl
  rw [e]
  rfl
theorem slice_h (a : Option Addr) (n c i : Nat) (h2 : i ≤ c) (w : World) : (Instr.sliceAt 25 (.slice a n c) none (some (.int .i64 (i : Int))) none).run Tryz.prog w = .ok (subV a 0 i c) w := by
  rw [run_sliceAt_slice w 25 _ _ _ _ (by kernel_rfl), run_slice_h w 25 a n c (by kernel_rfl) .i64 (i : Int) (by omega) (by omega)]
  have e : (sizeOf (Tryz.prog.elem 25)).run Tryz.prog w = .ok 7 w := by kernel_rfl
  rw [e]
  rfl
theorem FVal.sub {w : World} {P : Nat → Prop} {a : Option Addr} {n c : Nat} {l : List Fg} (h : FVal w P (.slice a n c) l) (hc : n ≤ c) {b i : Nat} (h1 : b ≤ i) (h2 : i ≤ l.length) : FVal w P (subV a b i c) ((l.take i).drop b) := by
  obtain ⟨a', c', e, hr⟩ := h
  cases e
  have hlen : ((l.take i).drop b).length = i - b := by rw [List.length_drop, List.length_take]; omega
  refine ⟨if c = b then a else a.map (·.add (b * 7)), c - b, by unfold subV; rw [hlen], fun hne => ?_⟩
  have hbi : b < i := by
    apply Nat.lt_of_not_le
    intro hh
    exact hne (List.length_eq_zero_iff.1 (by omega))
  obtain ⟨g, o, rfl, p, z, hrw⟩ := hr (by rintro rfl; simp at h2; omega)
  refine ⟨g, o + b * 7, ?_, p, z, FRow.of fun j x hx => ?_⟩
  · rw [if_neg (by omega)]
    simp only [Option.map_some]
    rw [add_off]
  · rw [List.getElem?_drop, List.getElem?_take] at hx
    split at hx
    · have := hrw.get hx
      have e : o + (b + j) * 7 = o + b * 7 + j * 7 := by omega
      rwa [e] at this
    · cases hx
end

section
open Go.RowKit

def SLoop (s : ByteArray) (l : List Fg) (W : World) (k b : Nat) (pv : Value) (wr : World) : Prop :=
  k ≤ l.length ∧ b ≤ k ∧ Below W.heap.size W wr ∧ ∃ ps, ps ++ splG s ((l.take k).drop b) (l.drop k) = splitM s l ∧ POwn wr W.heap.size pv ps ∧ ps.length ≤ k
theorem take_drop_snoc {l : List Fg} {k b : Nat} {x : Fg} (h : l[k]? = some x) (hb : b ≤ k) : (l.take (k + 1)).drop b = (l.take k).drop b ++ [x] := by
  have hk := (List.getElem?_eq_some_iff.1 h).1
  rw [List.take_add_one, h, Option.toList_some, List.drop_append_of_le_length (by rw [List.length_take]; omega)]
theorem SLoop.other {s : ByteArray} {l : List Fg} {W wr w' : World} {k b : Nat} {pv : Value} {x : Fg} (h : SLoop s l W k b pv wr) (hx : l[k]? = some x) (hs : isS s x = false) (hb : Below wr.heap.size wr w') : SLoop s l W (k + 1) b pv w' := by
  obtain ⟨h1, h2, h3, ps, h4, h5, h6⟩ := h
  have hk := (List.getElem?_eq_some_iff.1 hx).1
  refine ⟨hk, by omega, h3.trans (hb.mono h3.size), ps, ?_, h5.below hb, by omega⟩
  rw [← h4, splG_at hx, if_neg (by rw [hs]; simp), take_drop_snoc hx h2]
theorem SLoop.sign {s : ByteArray} {l : List Fg} {W : World} {k b : Nat} {x : Fg} (hx : l[k]? = some x) (hs : isS s x = true) {ps : List (List Fg)} (h4 : ps ++ splG s ((l.take k).drop b) (l.drop k) = splitM s l) (h6 : ps.length ≤ k)
    {w' : World} {pv' : Value} (h5 : POwn w' W.heap.size pv' (ps ++ [(l.take k).drop b])) (hb : Below W.heap.size W w') : SLoop s l W (k + 1) (k + 1) pv' w' := by
  have hk := (List.getElem?_eq_some_iff.1 hx).1
  refine ⟨hk, Nat.le_refl _, hb, _, ?_, h5, by simp; omega⟩
  have hd : (l.take (k + 1)).drop (k + 1) = [] := List.drop_eq_nil_of_le (by rw [List.length_take]; omega)
  rw [← h4, splG_at hx, if_pos hs, List.append_assoc, hd]
  rfl
def SplitPost (ls : List (List Fg)) (W : World) (e : Ending) (w' : World) : Prop := ∃ v, e = .returned v ∧ POwn w' W.heap.size v ls ∧ Below W.heap.size W w'
theorem isS_parts {s : ByteArray} {k n a m : Int} {t o : ByteArray} {ks : List Fg} : isS s (.mk (k, n, t, a, m) o ks) = (decide (o = sNo) && (decide (k = 5) && decide (t = s))) := rfl
theorem copied_sub (P : Nat → Prop) {a : Option Addr} {n c : Nat} {l : List Fg} {W w : World} (hv : FVal W P (.slice a n c) l) (hc : n ≤ c) (hl : l.length ≤ 1599289640000) (hle : FgsLe 1599289640000 l) (hb : Below W.heap.size W w) {b i : Nat} (h1 : b ≤ i) (h2 : i ≤ l.length) :
    Calls Tryz.prog 55 #[subV a b i c] w (CopPost ((l.take i).drop b) w) :=
  copied_any P _ _ w ((hv.below hb).sub hc h1 h2) (by rw [List.length_drop, List.length_take]; omega) (FgsLe.of fun x hx => hle.mem (List.mem_of_mem_take (List.mem_of_mem_drop hx)))
set_option maxRecDepth 100000 in
set_option maxHeartbeats 8000000 in
theorem Split_any (P : Nat → Prop) (l : List Fg) (a : Option Addr) (n c : Nat) (s : ByteArray) (W : World) (hv : FVal W P (.slice a n c) l) (hc : n ≤ c) (hl : l.length ≤ 1599289640000) (hle : FgsLe 1599289640000 l) :
    Calls Tryz.prog 29 #[.slice a n c, .string s] W (SplitPost (splitM s l) W) := by
  obtain ⟨i0, hi, hz0, hz1, hz2⟩ := info_parts infoFrags
  have HSUB := Lib.hid (fun (w : World) (hb : Below W.heap.size W w) (b i : Nat) (h1 : b ≤ i) (h2 : i ≤ l.length) => copied_sub P hv hc hl hle hb h1 h2)
  have hnl : n = l.length := by obtain ⟨_, _, e, _⟩ := hv; cases e; rfl
  subst hnl
  have HR := Lib.hid hv
  have hsl := fun (b i : Nat) (h1 : b ≤ i) (h2 : i ≤ c) (w : World) => slice_lh a l.length c b i h1 h2 w
  have hse := fun (b : Nat) (h1 : b ≤ l.length) (w : World) => slice_l a l.length c b h1 w
  clear hv hle
  go_enter Tryz.func29, Tryz.ntmps29
  go_wp2_with fail
  go_loopw [5, 6, 11] (fun pv bv iv wr => ∃ k b : Nat, bv = .int .i64 (b : Int) ∧ iv = .int .i64 (k : Int) ∧ Hid (SLoop s l W k b pv wr)) (fun _ _ iv _ => l.length - (intOf iv).toNat)
  case atStart => exact ⟨0, 0, rfl, rfl, Lib.hid ⟨Nat.zero_le _, Nat.le_refl _, Below.refl _ _, [], by rw [List.take_zero, List.drop_zero]; rfl, POwn.nil _ _, Nat.le_refl _⟩⟩
  case round =>
    obtain ⟨k, b, rfl, rfl, hr⟩ := hrel
    have hk := hr.out.1
    have hbk := hr.out.2.1
    have w3' : IntKind.i64.wrap ((k : Int) + 1) = (k : Int) + 1 := IntWalk.i64_in _ (by omega)
    by_cases hlt : k < l.length
    · obtain ⟨x, hx⟩ : ∃ x, l[k]? = some x := ⟨_, List.getElem?_eq_getElem hlt⟩
      obtain ⟨a', c', e, hrow⟩ := HR.out
      cases e
      obtain ⟨g, o, rfl, hp, hg, hrw⟩ := hrow (by rintro rfl; simp at hlt)
      obtain ⟨kv, hcell, ka, kc, rfl, hkr⟩ := (hrw.get hx).parts
      have hbe := hr.out.2.2.1
      have hcell' : ∀ j u, (fgV x (.slice ka x.kids.length kc))[j]? = some u → wr.cell? ⟨g, o + k * 7 + j, none⟩ = some u := fun j u hu => (hbe.cell (p := ⟨g, o + k * 7 + j, none⟩) hg).trans (hcell j u hu)
      have e0 : wr.cell? ⟨g, o + k * 7, none⟩ = some (.int .i64 x.tok.1) := hcell' 0 _ rfl
      have e1 : wr.cell? ⟨g, o + k * 7 + 1, none⟩ = some (.int .i64 x.tok.2.1) := hcell' 1 _ rfl
      have e2 : wr.cell? ⟨g, o + k * 7 + 2, none⟩ = some (.string x.tok.2.2.1) := hcell' 2 _ rfl
      have e3 : wr.cell? ⟨g, o + k * 7 + 3, none⟩ = some (.int .i64 x.tok.2.2.2.1) := hcell' 3 _ rfl
      have e4 : wr.cell? ⟨g, o + k * 7 + 4, none⟩ = some (.int .i64 x.tok.2.2.2.2) := hcell' 4 _ rfl
      have e5 : wr.cell? ⟨g, o + k * 7 + 5, none⟩ = some (.string x.opn) := hcell' 5 _ rfl
      have e6 : wr.cell? ⟨g, o + k * 7 + 6, none⟩ = some (.slice ka x.kids.length kc) := hcell' 6 _ rfl
      have hlt' : (k : Int) < (l.length : Int) := by omega
      have HX := Lib.hid hx
      have HRR := hr
      clear hr hcell hcell' hbe hrw hx hkr hrow
      obtain ⟨⟨k0, n0, s0, a0, m0⟩, op, ks⟩ := x
      simp only [Fg.tok, Fg.opn, Fg.kids] at *
      have HBX : Hid (Below wr.heap.size wr (wr.alloc (.cells #[.int .i64 k0, .int .i64 n0, .string s0, .int .i64 a0, .int .i64 m0, .string op, .slice ka ks.length kc] 52))) := Lib.hid ((Below.refl _ _).alloc (Nat.le_refl _) _)
      by_cases q1 : op = sNo
      rotate_left
      · have z1 := (lit_ne [] q1).1
        have HS : Hid (isS s (.mk (k0, n0, s0, a0, m0) op ks) = false) := Lib.hid (by rw [isS_parts, decide_eq_false q1]; rfl)
        clear q1 hsl hse
        go_wp2_with fail
        exact ⟨⟨k + 1, b, rfl, by simp, Lib.hid (HRR.out.other HX.out HS.out HBX.out)⟩, by simp only [intOf]; omega⟩
      have z1 := (lit_eq [] q1).1
      by_cases q2 : k0 = 5
      rotate_left
      · have z2 := (ne_int q2).1
        have HS : Hid (isS s (.mk (k0, n0, s0, a0, m0) op ks) = false) := Lib.hid (by rw [isS_parts, decide_eq_false q2]; simp)
        clear q1 q2 hsl hse
        go_wp2_with fail
        exact ⟨⟨k + 1, b, rfl, by simp, Lib.hid (HRR.out.other HX.out HS.out HBX.out)⟩, by simp only [intOf]; omega⟩
      by_cases q3 : s0 = s
      rotate_left
      · have z3 := (str_ne q3).1
        have HS : Hid (isS s (.mk (k0, n0, s0, a0, m0) op ks) = false) := Lib.hid (by rw [isS_parts, decide_eq_false q3]; simp)
        subst q2
        clear q1 q3 hsl hse
        go_wp2_with fail
        exact ⟨⟨k + 1, b, rfl, by simp, Lib.hid (HRR.out.other HX.out HS.out HBX.out)⟩, by simp only [intOf]; omega⟩
      · have HS : Hid (isS s (.mk (k0, n0, s0, a0, m0) op ks) = true) := Lib.hid (by rw [isS_parts, decide_eq_true q1, decide_eq_true q2, decide_eq_true q3]; rfl)
        subst q2
        subst q3
        have hslk := hsl b k hbk (by omega)
        clear q1 hsl hse
        obtain ⟨ps, h4, h5, h6⟩ := HRR.out.2.2.2
        have HBW := Lib.hid (HRR.out.2.2.1)
        have HK2 : Hid (k ≤ 1599289640000) := Lib.hid (by omega)
        have H46 := Lib.hid (And.intro h4 h6)
        have H5 := Lib.hid h5
        clear h4 h5 h6
        go_wp2_with fail
        refine (HSUB.out _ (HBW.out.trans (HBX.out.mono HBW.out.size)) b k hbk hk).mono ?_
        rintro e w4 ⟨v4, rfl, ⟨a4, c4, rfl, hr4⟩, hb4, _⟩
        have HB4 : Hid (Below wr.heap.size wr w4) := Lib.hid (HBX.out.trans (hb4.mono (by simp)))
        have HBW4 : Hid (Below W.heap.size W w4) := Lib.hid (HBW.out.trans (HB4.out.mono HBW.out.size))
        obtain ⟨pc, hpc⟩ : ∃ pc, pc = (l.take k).drop b := ⟨_, rfl⟩
        rw [← hpc] at hr4 ⊢
        have hv4 : FVal w4 (fun q => wr.heap.size ≤ q) (.slice a4 pc.length c4) pc := FVal.keep (w := w4) ⟨a4, c4, rfl, hr4⟩ (fun q p _ => ⟨by first | omega | (simp at p; omega), rfl⟩) (Nat.le_refl _)
        obtain ⟨n4, hn4⟩ : ∃ n4, n4 = pc.length := ⟨_, rfl⟩
        rw [← hn4] at hv4 ⊢
        have hbx5 := HB4.out.alloc HB4.out.size (.cells #[.slice a4 n4 c4] 25)
        obtain ⟨kvs, hk1, hk2, hk3⟩ := H5.out.below hbx5
        have HK1 := Lib.hid hk1
        have HKR := Lib.hid hk2
        have HKV := Lib.hid hk3
        have HV4 : Hid (FVal (w4.alloc (.cells #[.slice a4 n4 c4] 25)) (fun b => u5.ownBlock ≠ some b) (.slice a4 n4 c4) pc) := Lib.hid (hv4.keep (fun q p z => ⟨fun e => by have := (H5.out.choose_spec.2.1.lt q e).2; omega, Below.heap_alloc _ _ _ z⟩) (by simp))
        have HM0 : Hid (ps.length + 1 ≤ maxLen) := Lib.hid (by unfold maxLen; have := H46.out.2; have := HK2.out; omega)
        have HM1 : Hid ((ps.length + 1) * 24 ≤ 140737488355328) := Lib.hid (by have := H46.out.2; have := HK2.out; omega)
        have HPC := Lib.hid hpc
        clear hv4 hb4 hr4 hk1 hk2 hk3 hbx5 hpc hn4
        go_wp2_with (at_builtin; go_loud (refine wpList_append_lies _ rfl _ _ 42 rfl W.heap.size 25 i0 _ 1 24 Tryz.underlying42 hi hz0 hz1 hz2 rfl (by omega) _ ps.length kvs rfl HKR.out ⟨w4.heap.size, 0, none⟩ 1 1 [.slice a4 n4 c4] rfl rfl (new_one (heap_alloc_new _ _)) (by simp [Value.oneCell']) (by omega) HM0.out HM1.out (by have := HBW4.out.size; simp; omega) (w4.heap.size + 1) (by simp) ?_); intro g6 cap6 w6 hown6 hgrow6 hat6 hlt6; have HP6 : Hid (POwn w6 W.heap.size (.slice (some ⟨g6, 0, none⟩) (ps.length + 1) cap6) (ps ++ [pc])) := Lib.hid (POwn.app HK1.out HKV.out HV4.out hgrow6 (hat6.imp id (fun e => by simp; omega)) hown6); have HB6 : Hid (Below W.heap.size W w6) := Lib.hid ((HBW4.out.alloc HBW4.out.size _).grown hgrow6 (by have := HBW4.out.size; simp; omega) (fun q e => (H5.out.choose_spec.2.1.lt q e).1)); clear hown6 hgrow6 hat6 hlt6)
        exact ⟨⟨k + 1, k + 1, by simp, by simp, Lib.hid (SLoop.sign HX.out HS.out H46.out.1 H46.out.2 (by rw [← HPC.out]; exact HP6.out) HB6.out)⟩, by simp only [intOf]; omega⟩
    · have hlt' : ((k : Int) < (l.length : Int)) = False := by simp; omega
      have hkl : k = l.length := by omega
      subst hkl
      have hseb := hse b hbk
      clear hsl hse
      obtain ⟨ps, h4, h5, h6⟩ := hr.out.2.2.2
      have HBW := Lib.hid (hr.out.2.2.1)
      have HK2 : Hid (l.length ≤ 1599289640000) := Lib.hid hl
      have H46 := Lib.hid (And.intro h4 h6)
      have H5 := Lib.hid h5
      clear h4 h5 h6 hr
      go_wp2_with fail
      refine (HSUB.out _ HBW.out b l.length hbk (Nat.le_refl _)).mono ?_
      rintro e w4 ⟨v4, rfl, ⟨a4, c4, rfl, hr4⟩, hb4, _⟩
      have HB4 : Hid (Below wr.heap.size wr w4) := Lib.hid (hb4)
      have HBW4 : Hid (Below W.heap.size W w4) := Lib.hid (HBW.out.trans (HB4.out.mono HBW.out.size))
      obtain ⟨pc, hpc⟩ : ∃ pc, pc = (l.take l.length).drop b := ⟨_, rfl⟩
      rw [← hpc] at hr4 ⊢
      have hv4 : FVal w4 (fun q => wr.heap.size ≤ q) (.slice a4 pc.length c4) pc := FVal.keep (w := w4) ⟨a4, c4, rfl, hr4⟩ (fun q p _ => ⟨by first | omega | (simp at p; omega), rfl⟩) (Nat.le_refl _)
      obtain ⟨n4, hn4⟩ : ∃ n4, n4 = pc.length := ⟨_, rfl⟩
      rw [← hn4] at hv4 ⊢
      have hbx5 := HB4.out.alloc HB4.out.size (.cells #[.slice a4 n4 c4] 25)
      obtain ⟨kvs, hk1, hk2, hk3⟩ := H5.out.below hbx5
      have HK1 := Lib.hid hk1
      have HKR := Lib.hid hk2
      have HKV := Lib.hid hk3
      have HV4 : Hid (FVal (w4.alloc (.cells #[.slice a4 n4 c4] 25)) (fun b => u5.ownBlock ≠ some b) (.slice a4 n4 c4) pc) := Lib.hid (hv4.keep (fun q p z => ⟨fun e => by have := (H5.out.choose_spec.2.1.lt q e).2; omega, Below.heap_alloc _ _ _ z⟩) (by simp))
      have HM0 : Hid (ps.length + 1 ≤ maxLen) := Lib.hid (by unfold maxLen; have := H46.out.2; have := HK2.out; omega)
      have HM1 : Hid ((ps.length + 1) * 24 ≤ 140737488355328) := Lib.hid (by have := H46.out.2; have := HK2.out; omega)
      have HPC := Lib.hid hpc
      clear hv4 hb4 hr4 hk1 hk2 hk3 hbx5 hpc hn4
      go_wp2_with (at_builtin; go_loud (refine wpList_append_lies _ rfl _ _ 42 rfl W.heap.size 25 i0 _ 1 24 Tryz.underlying42 hi hz0 hz1 hz2 rfl (by omega) _ ps.length kvs rfl HKR.out ⟨w4.heap.size, 0, none⟩ 1 1 [.slice a4 n4 c4] rfl rfl (new_one (heap_alloc_new _ _)) (by simp [Value.oneCell']) (by omega) HM0.out HM1.out (by have := HBW4.out.size; simp; omega) (w4.heap.size + 1) (by simp) ?_); intro g6 cap6 w6 hown6 hgrow6 hat6 hlt6; have HP6 : Hid (POwn w6 W.heap.size (.slice (some ⟨g6, 0, none⟩) (ps.length + 1) cap6) (ps ++ [pc])) := Lib.hid (POwn.app HK1.out HKV.out HV4.out hgrow6 (hat6.imp id (fun e => by simp; omega)) hown6); have HB6 : Hid (Below W.heap.size W w6) := Lib.hid ((HBW4.out.alloc HBW4.out.size _).grown hgrow6 (by have := HBW4.out.size; simp; omega) (fun q e => (H5.out.choose_spec.2.1.lt q e).1)); clear hown6 hgrow6 hat6 hlt6)
      refine bodyPost_ret (v := .slice (some ⟨g6, 0, none⟩) (ps.length + 1) cap6) (by simp [results, Tryz.results29, go_sem]) rfl ⟨_, rfl, ?_, HB6.out⟩
      have h4 := H46.out.1
      rw [List.drop_length] at h4
      rw [← h4, HPC.out] at *
      exact HP6.out
end

section
open Go.RowKit

def JoinPost (s : ByteArray) (ls : List (List Fg)) (W : World) (e : Ending) (w' : World) : Prop := ∃ v, e = .returned v ∧ JOwn w' W.heap.size v (joinM s ls) ∧ Below W.heap.size W w'
theorem joinM_step {s : ByteArray} {ls : List (List Fg)} {k : Nat} {p : List Fg} (h : ls[k]? = some p) (hk : 0 < k) : joinM s (ls.take (k + 1)) = (joinM s (ls.take k) ++ [signF s]) ++ p := by
  rw [joinM_take h, if_neg (by omega), List.append_assoc]
theorem joinM_first {s : ByteArray} {ls : List (List Fg)} {p : List Fg} (h : ls[0]? = some p) : joinM s (ls.take 1) = [] ++ p := by
  have := joinM_take (s := s) h
  rw [if_pos rfl] at this
  exact this
theorem joinM_le {s : ByteArray} {ls : List (List Fg)} {k : Nat} : (joinM s (ls.take k)).length ≤ (joinM s ls).length := by
  have e : ls = ls.take k ++ ls.drop k := (List.take_append_drop k ls).symm
  cases h2 : ls.take k with
  | nil => simp [joinM]
  | cons q r =>
    rw [e, h2, List.cons_append, joinM, joinM, joinG_append, List.length_append, List.length_append, List.length_append]
    omega
theorem sign_flat (s : ByteArray) : flatF [signF s] [.slice none 0 0] = [.int .i64 5, .int .i64 0, .string s, .int .i64 0, .int .i64 0, .string ⟨#[]⟩, .slice none 0 0] := rfl
set_option maxRecDepth 100000 in
set_option maxHeartbeats 8000000 in
theorem Join_any (P : Nat → Prop) (s : ByteArray) (ls : List (List Fg)) (v : Value) (W : World) (hv : PVal W P v ls) (hn : ls.length ≤ 140737488351232) (hj : (joinM s ls).length * 88 ≤ 140737488355328) (hle : ∀ p ∈ ls, p.length ≤ 1599289640000 ∧ FgsLe 1599289640000 p) :
    Calls Tryz.prog 31 #[v, .string s] W (JoinPost s ls W) := by
  obtain ⟨i0, hi, hz0, hz1, hz2⟩ := info_parts infoFrag
  obtain ⟨b, c, rfl, hrow⟩ := hv
  have HR := Lib.hid hrow
  have HL := Lib.hid hj
  have HLE := Lib.hid hle
  clear hrow hj hle
  go_enter Tryz.func31, Tryz.ntmps31
  go_wp2_with fail
  go_loopw [5, 10] (fun jv iv wr => ∃ k : Nat, iv = .int .i64 (k : Int) ∧ Hid (k ≤ ls.length ∧ Below W.heap.size W wr ∧ JOwn wr W.heap.size jv (joinM s (ls.take k)))) (fun _ iv _ => ls.length - (intOf iv).toNat)
  case atStart => exact ⟨0, rfl, Lib.hid ⟨Nat.zero_le _, Below.refl _ _, JOwn.nil _ _⟩⟩
  case round =>
    obtain ⟨k, rfl, hr⟩ := hrel
    obtain ⟨hk, hbe, hj⟩ := hr.out
    have w3' : IntKind.i64.wrap ((k : Int) + 1) = (k : Int) + 1 := IntWalk.i64_in _ (by omega)
    by_cases hlt : k < ls.length
    · obtain ⟨p, hp⟩ : ∃ p, ls[k]? = some p := ⟨_, List.getElem?_eq_getElem hlt⟩
      obtain ⟨g, o, rfl, hg, hcs⟩ := HR.out (by rintro rfl; simp at hlt)
      obtain ⟨u, hu, pa, pc, rfl, hpr⟩ := hcs k p hp
      have e0 : wr.cell? ⟨g, o + k, none⟩ = some (.slice pa p.length pc) := (hbe.cell (p := ⟨g, o + k, none⟩) hg).trans hu
      have hpv : FVal W P (.slice pa p.length pc) p := ⟨pa, pc, rfl, hpr⟩
      have hpl := HLE.out p (List.mem_of_getElem? hp)
      have HCP := Lib.hid (fun (w : World) (hb : Below W.heap.size W w) => copied_any P p (.slice pa p.length pc) w (hpv.below hb) hpl.1 hpl.2)
      have hlt' : (k : Int) < (ls.length : Int) := by omega
      have hlj := joinM_le (s := s) (ls := ls) (k := k + 1)
      have HBR := Lib.hid hbe
      by_cases hk0 : k = 0
      · subst hk0
        have e0' : wr.cell? ⟨g, o, none⟩ = some (.slice pa p.length pc) := e0
        have HTK := Lib.hid (joinM_first (s := s) hp)
        have HMX0 : Hid ((0 + p.length) * 88 ≤ 140737488355328) := Lib.hid (by have h1 := HL.out; have h2 := HTK.out; rw [h2] at hlj; rw [List.nil_append] at hlj; omega)
        have HJ0 : Hid (JOwn wr W.heap.size u5 []) := Lib.hid hj
        obtain ⟨jb, jc, rfl, hjc⟩ := HJ0.out.form
        obtain ⟨n, hn⟩ : ∃ n, n = ([] : List Fg).length := ⟨_, rfl⟩
        rw [← hn] at HJ0 hjc ⊢
        have HN := Lib.hid hn
        have HMX : Hid ((n + p.length) * 88 ≤ 140737488355328) := Lib.hid (by rw [hn]; exact HMX0.out)
        have HJC := Lib.hid hjc
        clear hr hbe hj hu hpr hcs hp hpv hpl hlj hjc hn
        go_wp2_with fail
        refine (HCP.out wr HBR.out).mono ?_
        rintro e w4 ⟨_, rfl, ⟨a4, c4, rfl, hr4⟩, hb4, _⟩
        have HB4 := Lib.hid (HBR.out.trans (hb4.mono HBR.out.size))
        have HJ4 := Lib.hid (HJ0.out.below hb4)
        have hv4 : FVal w4 (fun b => wr.heap.size ≤ b) (.slice a4 p.length c4) p := ⟨a4, c4, rfl, hr4⟩
        have HNE : Hid (∀ b, wr.heap.size ≤ b → (Value.slice jb n jc).ownBlock ≠ some b) := Lib.hid (fun b hb e => by
          obtain ⟨_, _, h2, _⟩ := HJ0.out
          have := (h2.lt b e).2
          omega)
        clear hr4 hb4
        by_cases hp0 : p = []
        · subst hp0
          have HJN : Hid (JOwn w4 W.heap.size (.slice jb n jc) (([] : List Fg) ++ [])) := Lib.hid (by rw [List.append_nil]; exact HJ4.out)
          clear hv4
          go_wp2_with (at_builtin; (refine wpList_append_zero rfl _ _ 25 rfl 52 i0 Tryz.underlying25 hi jb n jc rfl HJC.out a4 c4 rfl ?_))
          exact ⟨⟨1, by simp, Lib.hid ⟨by omega, HB4.out, by rw [HTK.out]; exact HJN.out⟩⟩, by simp only [intOf]; omega⟩
        · obtain ⟨kvs', hk1', hk2', hk3', hk4'⟩ := frag_cells hv4
          obtain ⟨g', o', rfl, hcells⟩ := hk2' hp0
          have HNW := Lib.hid (hcells w4 (Below.refl _ _))
          obtain ⟨kvs, hk1, hk2, hk3⟩ := HJ4.out
          rw [← HN.out] at hk2
          have HK1 := Lib.hid hk1
          have HKR := Lib.hid hk2
          have HKV := Lib.hid hk3
          have HK1' := Lib.hid hk1'
          have HKV' : Hid (∀ (i : Nat) (x : Fg) (u : Value), p[i]? = some x → kvs'[i]? = some u → FVal w4 (fun b => (Value.slice jb n jc).ownBlock ≠ some b) u x.kids) := Lib.hid (fun i x u hx hu => (hk3' i x u hx hu).keep (fun q pq _ => ⟨HNE.out q pq, rfl⟩) (Nat.le_refl _))
          have HONE := Lib.hid hk4'
          have HFL : Hid ((flatF p kvs').length = p.length * 7) := Lib.hid (flatF_length hk1')
          have HP : Hid (0 < p.length) := Lib.hid (Nat.pos_of_ne_zero fun h => hp0 (List.length_eq_zero_iff.1 h))
          have HM0 : Hid (n + p.length ≤ maxLen) := Lib.hid (by have := HMX.out; unfold maxLen; omega)
          have HBS : Hid (W.heap.size ≤ w4.heap.size) := Lib.hid HB4.out.size
          have HNN : Hid (n + p.length = (([] : List Fg)).length + p.length) := Lib.hid (by rw [HN.out])
          clear hk1 hk2 hk3 hk1' hk2' hk3' hk4' hcells hv4 hp0
          go_wp2_with (at_builtin; go_loud (refine wpList_append_lies _ rfl _ _ 25 rfl W.heap.size 52 i0 _ 7 88 Tryz.underlying25 hi hz0 hz1 hz2 rfl (by omega) _ n (flatF ([] : List Fg) kvs) rfl HKR.out ⟨g', o', none⟩ p.length c4 (flatF p kvs') rfl HFL.out HNW.out HONE.out HP.out HM0.out HMX.out HBS.out w4.heap.size rfl ?_); intro g6 cap6 w6 hown6 hgrow6 hat6 hlt6; have HJ6 : Hid (JOwn w6 W.heap.size (.slice (some ⟨g6, 0, none⟩) (n + p.length) cap6) (([] : List Fg) ++ p)) := Lib.hid (JOwn.app HK1.out HK1'.out HKV.out HKV'.out hgrow6 hat6 HNN.out hown6); have HB6 : Hid (Below W.heap.size W w6) := Lib.hid (HB4.out.grown hgrow6 HBS.out (fun q e => (HKR.out.lt q e).1)); clear hown6 hgrow6 hat6 hlt6)
          exact ⟨⟨1, by simp, Lib.hid ⟨by omega, HB6.out, by rw [HTK.out]; exact HJ6.out⟩⟩, by simp only [intOf]; omega⟩
      · have HTK := Lib.hid (joinM_step (s := s) hp (by omega))
        obtain ⟨JL, hJL⟩ : ∃ JL, JL = joinM s (ls.take k) := ⟨_, rfl⟩
        rw [← hJL] at HTK hj
        obtain ⟨jb0, jc0, rfl, hjc0⟩ := hj.form
        obtain ⟨m, hm⟩ : ∃ m, m = JL.length := ⟨_, rfl⟩
        rw [← hm] at hj hr ⊢
        have HMX' : Hid ((m + 1 + p.length) * 88 ≤ 140737488355328) := Lib.hid (by
          have h1 := HL.out
          have h2 := HTK.out
          rw [h2, List.length_append, List.length_append, List.length_singleton, ← hm] at hlj
          omega)
        have HM0 : Hid (m + 1 ≤ maxLen) := Lib.hid (by have := HMX'.out; unfold maxLen; omega)
        have HM1 : Hid ((m + 1) * 88 ≤ 140737488355328) := Lib.hid (by have := HMX'.out; omega)
        have HBX : Hid (Below wr.heap.size wr (wr.alloc (.cells #[.int .i64 5, .int .i64 0, .string s, .int .i64 0, .int .i64 0, .string ⟨#[]⟩, .slice none 0 0] 52))) := Lib.hid ((Below.refl _ _).alloc (Nat.le_refl _) _)
        obtain ⟨kvs, hk1, hk2, hk3⟩ := hj.below HBX.out
        rw [← hm] at hk2
        have HK1 := Lib.hid hk1
        have HKR := Lib.hid hk2
        have HKV := Lib.hid hk3
        have HMJ := Lib.hid hm
        have HJL := Lib.hid hJL
        have hkpos : (0 : Int) < (k : Int) := by omega
        clear hr hbe hj hu hpr hcs hp hpv hpl hlj hk1 hk2 hk3 hm hJL hjc0
        go_wp2_with (at_builtin; go_loud (refine wpList_append_lies _ rfl _ _ 25 rfl W.heap.size 52 i0 _ 7 88 Tryz.underlying25 hi hz0 hz1 hz2 rfl (by omega) _ m (flatF JL kvs) rfl HKR.out ⟨wr.heap.size, 0, none⟩ 1 1 [.int .i64 5, .int .i64 0, .string s, .int .i64 0, .int .i64 0, .string ⟨#[]⟩, .slice none 0 0] rfl rfl (World.news_of_block (cs := #[.int .i64 5, .int .i64 0, .string s, .int .i64 0, .int .i64 0, .string ⟨#[]⟩, .slice none 0 0]) (t := 52) (fr := (0, 0)) (heap_alloc_new wr _)) (by simp [Value.oneCell']) (by omega) HM0.out HM1.out (by have := HBR.out.size; simp; omega) (wr.heap.size + 1) (by simp) ?_); intro g3 cap3 w3 hown3 hgrow3 hat3 hlt3; have HJ3 : Hid (JOwn w3 W.heap.size (.slice (some ⟨g3, 0, none⟩) (m + 1) cap3) (JL ++ [signF s])) := Lib.hid (JOwn.app (kvs' := [.slice none 0 0]) HK1.out rfl HKV.out (fun i x u hx hu => by rcases i with _ | i <;> simp at hx hu; subst hx; subst hu; exact FVal.nil _ _ _ _) hgrow3 (hat3.imp id (fun e => by simp; omega)) (by rw [HMJ.out]; rfl) (by rw [sign_flat]; exact hown3)); have HB3 : Hid (Below W.heap.size W w3) := Lib.hid ((HBR.out.alloc HBR.out.size _).grown hgrow3 (by have := HBR.out.size; simp; omega) (fun q e => (HKR.out.lt q e).1)); have HC3 : Hid (m + 1 ≤ cap3) := Lib.hid (own_cap hown3); clear hown3 hgrow3 hat3 hlt3)
        clear HBR
        obtain ⟨n, hn⟩ : ∃ n, n = m + 1 := ⟨_, rfl⟩
        obtain ⟨jc, hjc⟩ : ∃ jc, jc = cap3 := ⟨_, rfl⟩
        obtain ⟨jb, hjb⟩ : ∃ jb : Option Addr, jb = some ⟨g3, 0, none⟩ := ⟨_, rfl⟩
        have HBR := HB3
        have HN : Hid (n = (JL ++ [signF s]).length) := Lib.hid (by rw [List.length_append, hn, HMJ.out]; rfl)
        have HJC : Hid (n ≤ jc) := Lib.hid (by rw [hn, hjc]; exact HC3.out)
        have HMX : Hid ((n + p.length) * 88 ≤ 140737488355328) := Lib.hid (by rw [hn]; exact HMX'.out)
        have HJ0 : Hid (JOwn w3 W.heap.size (.slice jb n jc) (JL ++ [signF s])) := Lib.hid (by rw [hn, hjc, hjb]; exact HJ3.out)
        rw [← hn, ← hjc, ← hjb]
        clear HJ3 hn hjc hjb HK1 HKR HKV HM0 HM1 HC3 HMX'
        refine (HCP.out w3 HBR.out).mono ?_
        rintro e w4 ⟨_, rfl, ⟨a4, c4, rfl, hr4⟩, hb4, _⟩
        have HB4 := Lib.hid (HBR.out.trans (hb4.mono HBR.out.size))
        have HJ4 := Lib.hid (HJ0.out.below hb4)
        have hv4 : FVal w4 (fun b => w3.heap.size ≤ b) (.slice a4 p.length c4) p := ⟨a4, c4, rfl, hr4⟩
        have HNE : Hid (∀ b, w3.heap.size ≤ b → (Value.slice jb n jc).ownBlock ≠ some b) := Lib.hid (fun b hb e => by
          obtain ⟨_, _, h2, _⟩ := HJ0.out
          have := (h2.lt b e).2
          omega)
        clear hr4 hb4
        by_cases hp0 : p = []
        · subst hp0
          have HJN : Hid (JOwn w4 W.heap.size (.slice jb n jc) ((JL ++ [signF s]) ++ [])) := Lib.hid (by rw [List.append_nil]; exact HJ4.out)
          clear hv4
          go_wp2_with (at_builtin; (refine wpList_append_zero rfl _ _ 25 rfl 52 i0 Tryz.underlying25 hi jb n jc rfl HJC.out a4 c4 rfl ?_))
          exact ⟨⟨k + 1, by simp, Lib.hid ⟨by omega, HB4.out, by rw [HTK.out]; exact HJN.out⟩⟩, by simp only [intOf]; omega⟩
        · obtain ⟨kvs', hk1', hk2', hk3', hk4'⟩ := frag_cells hv4
          obtain ⟨g', o', rfl, hcells⟩ := hk2' hp0
          have HNW := Lib.hid (hcells w4 (Below.refl _ _))
          obtain ⟨kvs, hk1, hk2, hk3⟩ := HJ4.out
          rw [← HN.out] at hk2
          have HK1 := Lib.hid hk1
          have HKR := Lib.hid hk2
          have HKV := Lib.hid hk3
          have HK1' := Lib.hid hk1'
          have HKV' : Hid (∀ (i : Nat) (x : Fg) (u : Value), p[i]? = some x → kvs'[i]? = some u → FVal w4 (fun b => (Value.slice jb n jc).ownBlock ≠ some b) u x.kids) := Lib.hid (fun i x u hx hu => (hk3' i x u hx hu).keep (fun q pq _ => ⟨HNE.out q pq, rfl⟩) (Nat.le_refl _))
          have HONE := Lib.hid hk4'
          have HFL : Hid ((flatF p kvs').length = p.length * 7) := Lib.hid (flatF_length hk1')
          have HP : Hid (0 < p.length) := Lib.hid (Nat.pos_of_ne_zero fun h => hp0 (List.length_eq_zero_iff.1 h))
          have HM0 : Hid (n + p.length ≤ maxLen) := Lib.hid (by have := HMX.out; unfold maxLen; omega)
          have HBS : Hid (W.heap.size ≤ w4.heap.size) := Lib.hid HB4.out.size
          have HNN : Hid (n + p.length = ((JL ++ [signF s])).length + p.length) := Lib.hid (by rw [HN.out])
          clear hk1 hk2 hk3 hk1' hk2' hk3' hk4' hcells hv4 hp0
          go_wp2_with (at_builtin; go_loud (refine wpList_append_lies _ rfl _ _ 25 rfl W.heap.size 52 i0 _ 7 88 Tryz.underlying25 hi hz0 hz1 hz2 rfl (by omega) _ n (flatF (JL ++ [signF s]) kvs) rfl HKR.out ⟨g', o', none⟩ p.length c4 (flatF p kvs') rfl HFL.out HNW.out HONE.out HP.out HM0.out HMX.out HBS.out w4.heap.size rfl ?_); intro g6 cap6 w6 hown6 hgrow6 hat6 hlt6; have HJ6 : Hid (JOwn w6 W.heap.size (.slice (some ⟨g6, 0, none⟩) (n + p.length) cap6) ((JL ++ [signF s]) ++ p)) := Lib.hid (JOwn.app HK1.out HK1'.out HKV.out HKV'.out hgrow6 hat6 HNN.out hown6); have HB6 : Hid (Below W.heap.size W w6) := Lib.hid (HB4.out.grown hgrow6 HBS.out (fun q e => (HKR.out.lt q e).1)); clear hown6 hgrow6 hat6 hlt6)
          exact ⟨⟨k + 1, by simp, Lib.hid ⟨by omega, HB6.out, by rw [HTK.out]; exact HJ6.out⟩⟩, by simp only [intOf]; omega⟩
    · have hlt' : ((k : Int) < (ls.length : Int)) = False := by simp; omega
      have hkl : k = ls.length := by omega
      subst hkl
      rw [List.take_length] at hj
      have HBE := Lib.hid hbe
      have HJ := Lib.hid hj
      clear hr hbe hj
      go_wp2_with fail
      exact bodyPost_ret (v := u5) (by simp [results, Tryz.results31, go_sem]) rfl ⟨_, rfl, HJ.out, HBE.out⟩
end

end Go.Proofs.YtafncodigpjkaaaGreatDoor
