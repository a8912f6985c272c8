/-
  newMerger.
-/
import Derived.Test.YtolopideimnbgaaHK
namespace Go.Proofs.Ytolopideimnbgaa
open Go.RowKit
attribute [local go_sem] Oper.semAt_some

structure NwJ (W : World) (kb : Nat) (R : Loop) (Q : Nat → Prop) (pre : List Nms) (w : World) : Prop where
  row : ∃ v, w.heap[W.heap.size + 1]? = some (.cells #[v, .map (some W.heap.size)] 105) ∧ LOwn w (W.heap.size + 5) (fun b => ¬ Q b ∧ b ≠ kb) v (nonE pre) ∧ ∀ b, Q b ↔ (b = W.heap.size ∨ b = W.heap.size + 1 ∨ b = W.heap.size + 3 ∨ b = W.heap.size + 4 ∨ v.ownBlock = some b)
  cnt : CntF w W.heap.size (behM pre)
  box : w.heap[W.heap.size + 2]? = some (.cells #[.pointer (some ⟨W.heap.size + 1, 0, none⟩)] 74)
  defd : w.heap[W.heap.size + 3]? = some (.deferred (some []))
  loop : w.heap[W.heap.size + 4]? = some (.loop R)
  keep : Keep (fun b => b = kb) W w
  size : W.heap.size + 5 ≤ w.heap.size
theorem nwJ_ok (W : World) (kb : Nat) (R : Loop) (hkb : kb < W.heap.size) : BOk kb (NwJ W kb R) := by
  constructor
  · intro Q pre w w' h hk
    have hz := h.size
    have hs := hk.size
    obtain ⟨v, h1, h2, h3⟩ := h.row
    have same : ∀ b, W.heap.size ≤ b → b < w.heap.size → w'.heap[b]? = w.heap[b]? := fun b h4 h5 => hk.block b h5 (by omega)
    exact ⟨⟨v, (same _ (by omega) (by omega)).trans h1, h2.keep (fun k e => by have := h2.lt k e; exact same k (by omega) this.2) (fun b hb hz => hk.block b hz hb.2) hs, h3⟩,
      h.cnt.keep (same _ (Nat.le_refl _) (by omega)), (same _ (by omega) (by omega)).trans h.box, (same _ (by omega) (by omega)).trans h.defd, (same _ (by omega) (by omega)).trans h.loop, h.keep.trans hk, by omega⟩
  · intro Q pre w h
    have hz := h.size
    obtain ⟨v, h1, h2, h3⟩ := h.row
    refine ⟨fun b hb => ?_, fun hb => ?_⟩
    · rcases (h3 b).1 hb with e | e | e | e | e
      · omega
      · omega
      · omega
      · omega
      · exact (h2.lt b e).2
    · rcases (h3 kb).1 hb with e | e | e | e | e
      · omega
      · omega
      · omega
      · omega
      · have := (h2.lt kb e).1; omega
theorem list_sub {L : List Nms} {pre : List Nms} {l : Nms} (h : pre ++ [l] <+: L) : totM pre + l.length ≤ totM L ∧ pre.length + 1 ≤ L.length := by
  obtain ⟨r, rfl⟩ := h
  rw [totM_app, totM_app]
  simp only [totM, List.length_append, List.length_cons, List.length_nil]; omega
/-- What the append of a list to the merger's own leaves. -/
def MidR (W5 : World) (mb bm base kb : Nat) (Q : Nat → Prop) (v : Value) (ls : List Nms) (W8 : World) : Prop :=
  ∃ g cap, W8.heap[mb]? = some (.cells #[.slice (some ⟨g, 0, none⟩) ls.length cap, .map (some bm)] 105) ∧ LOwn W8 base (fun b => (¬ Q b ∧ b ≠ kb) ∧ b < W5.heap.size) (.slice (some ⟨g, 0, none⟩) ls.length cap) ls ∧ (v.ownBlock = some g ∨ W5.heap.size ≤ g) ∧ Keep (fun b => b = mb ∨ v.ownBlock = some b) W5 W8
theorem mid_of {W5 w7 : World} {mb bm base kb g cap : Nat} {Q : Nat → Prop} {v : Value} {fl : List Nms} {l : Nms} {O : Obj} (hmb : W5.heap[mb]? = some (.cells #[v, .map (some bm)] 105)) (hlt : mb < base) (hQ : Q mb) (hlo : LOwn W5 base (fun b => ¬ Q b ∧ b ≠ kb) v fl)
    (hown : LOwn w7 base (fun b => (¬ Q b ∧ b ≠ kb) ∧ b < W5.heap.size) (.slice (some ⟨g, 0, none⟩) (fl.length + 1) cap) (fl ++ [l])) (hgr : (W5.drew.alloc O).grownBy w7 v.ownBlock) (hat : v.ownBlock = some g ∨ g = W5.heap.size + 1) :
    w7.heap[mb]? = some (.cells #[v, .map (some bm)] 105) ∧ MidR W5 mb bm base kb Q v (fl ++ [l]) (w7.setCell ⟨mb, 0, none⟩ (.slice (some ⟨g, 0, none⟩) (fl.length + 1) cap)) := by
  have hz := (Array.getElem?_eq_some_iff.1 hmb).1
  have ho : ∀ b, v.ownBlock = some b → base ≤ b := fun b hb => (hlo.lt b hb).1
  have h7 : w7.heap[mb]? = some (.cells #[v, .map (some bm)] 105) := (hgr.block _ (by simp; omega) fun e => by have := ho _ e.symm; omega).trans ((Below.heap_alloc _ _ _ (by simpa using hz)).trans hmb)
  have hlen : (fl ++ [l]).length = fl.length + 1 := by simp
  have hgm : g ≠ mb := by
    rcases hat with e | e
    · have := ho _ e; omega
    · omega
  refine ⟨h7, g, cap, by rw [hlen]; exact heap_setCell_same _ mb 0 _ _ _ h7, ?_, hat.imp id (by omega), ?_⟩
  · rw [hlen]
    exact hown.keep (fun k hk => Below.heap_setCell _ _ _ _ (by cases hk; simpa using hgm)) (fun b hb _ => Below.heap_setCell _ _ _ _ (by
      show b ≠ mb
      rintro rfl
      exact hb.1.1 hQ)) (by simp)
  · have k1 : Keep (fun b => b = mb ∨ v.ownBlock = some b) W5 (W5.drew.alloc O) := ((Keep.refl _ W5).drew 1).alloc O
    exact (k1.trans (Keep.of_grown hgr fun k e => .inr e)).setCell (.inl (.inl rfl)) _ _
theorem heap4 (W : World) (a b c d e : Obj) : ((((((W.alloc a).alloc b).alloc c).alloc d).alloc e).heap[W.heap.size]? = some a) ∧ ((((((W.alloc a).alloc b).alloc c).alloc d).alloc e).heap[W.heap.size + 1]? = some b) ∧ ((((((W.alloc a).alloc b).alloc c).alloc d).alloc e).heap[W.heap.size + 2]? = some c) ∧ ((((((W.alloc a).alloc b).alloc c).alloc d).alloc e).heap[W.heap.size + 3]? = some d) ∧ ((((((W.alloc a).alloc b).alloc c).alloc d).alloc e).heap[W.heap.size + 4]? = some e) ∧ (((((W.alloc a).alloc b).alloc c).alloc d).alloc e).heap.size = W.heap.size + 5 := by
  have n1 : ∀ (X : World) (n : Nat) (o : Obj), X.heap.size = n → (X.alloc o).heap[n]? = some o := fun X n o h => by subst h; exact heap_alloc_new X o
  have n2 : ∀ (X : World) (n : Nat) (o : Obj), n < X.heap.size → (X.alloc o).heap[n]? = X.heap[n]? := fun X n o h => Below.heap_alloc X o n h
  refine ⟨?_, ?_, ?_, ?_, ?_, by simp⟩
  · rw [n2 _ _ _ (by simp; omega), n2 _ _ _ (by simp; omega), n2 _ _ _ (by simp; omega), n2 _ _ _ (by simp)]; exact n1 _ _ _ rfl
  · rw [n2 _ _ _ (by simp), n2 _ _ _ (by simp), n2 _ _ _ (by simp)]; exact n1 _ _ _ (by simp)
  · rw [n2 _ _ _ (by simp), n2 _ _ _ (by simp)]; exact n1 _ _ _ (by simp)
  · rw [n2 _ _ _ (by simp)]; exact n1 _ _ _ (by simp)
  · exact n1 _ _ _ (by simp)
/-- The counts while the names of a list come in. -/
def CLoop (W0 : World) (bm : Nat) (pre : List Nms) (t : Nms) (k : Nat) (wr : World) : Prop :=
  k ≤ t.length ∧ Keep (fun b => b = bm) W0 wr ∧ wr.heap.size = W0.heap.size ∧ CntF wr bm (fun s => behM pre s + cntL s (t.take k))
theorem cnt_snoc {t : Nms} {k : Nat} {x : ByteArray} (h : t[k]? = some x) (s : ByteArray) : cntL s (t.take (k + 1)) = cntL s (t.take k) + if x = s then 1 else 0 := by
  have e : t.take (k + 1) = t.take k ++ [x] := by rw [List.take_add_one, h]; rfl
  rw [e]
  generalize t.take k = p
  induction p with
  | nil => simp [cntL]
  | cons y r ih => simp only [List.cons_append, cntL, ih]; omega
/-- The end of a round. -/
theorem round_end {W W1 W5 W8 W9 : World} {kb : Nat} {R Rb : Loop} {Q : Nat → Prop} {pre : List Nms} {v : Value} {x : ByteArray} {t : Nms} (hj : NwJ W kb R Q pre W1) (hv : W1.heap[W.heap.size + 1]? = some (.cells #[v, .map (some W.heap.size)] 105)) (h5 : W5 = W1.putObj (W.heap.size + 4) (.loop Rb))
    (h8 : MidR W5 (W.heap.size + 1) W.heap.size (W.heap.size + 5) kb Q v (nonE pre ++ [x :: t]) W8) (h9 : CLoop W8 W.heap.size pre t t.length W9) :
    W9.heap[W.heap.size + 4]? = some (.loop Rb) ∧ RPost (NwJ W kb R) Q (pre ++ [x :: t]) W1 (.returned (.bool true)) (W9.putObj (W.heap.size + 4) (.loop R)) := by
  obtain ⟨v', h1, h2, h3⟩ := hj.row
  rw [hv] at h1
  cases h1
  obtain ⟨g, cap, m1, m2, m3, m4⟩ := h8
  obtain ⟨_, c1, c2, c3⟩ := h9
  have hz := hj.size
  have s5 : W5.heap.size = W1.heap.size := by rw [h5]; simp
  have s8 := m4.size
  have ho : ∀ b, v.ownBlock = some b → W.heap.size + 5 ≤ b ∧ b < W1.heap.size := fun b hb => h2.lt b hb
  have hgl : W.heap.size + 5 ≤ g ∧ g < W8.heap.size := m2.lt g rfl
  have hgk : ∀ k, (Value.slice (some ⟨g, 0, none⟩) (nonE pre ++ [x :: t]).length cap).ownBlock = some k → W.heap.size + 5 ≤ k ∧ k < W8.heap.size := fun k hk => m2.lt k hk
  have l8 : W8.heap[W.heap.size + 4]? = some (.loop Rb) := (m4.block _ (by omega) (fun e => e.elim (by omega) fun e => by have := ho _ e; omega)).trans (by rw [h5]; exact World.putObj_heap_same (by omega))
  have l9 : W9.heap[W.heap.size + 4]? = some (.loop Rb) := (c1.block _ (by omega) (by omega)).trans l8
  have k9 : ∀ b, b < W1.heap.size → b ≠ W.heap.size → b ≠ W.heap.size + 1 → b ≠ W.heap.size + 4 → v.ownBlock ≠ some b → W9.heap[b]? = W1.heap[b]? := fun b q1 q2 q3 q4 q5 =>
    (c1.block b (by omega) q2).trans ((m4.block b (by omega) (fun e => e.elim q3 q5)).trans (by rw [h5]; exact World.putObj_heap_other q4))
  have hq' : ∀ b, (b = W.heap.size ∨ b = W.heap.size + 1 ∨ b = W.heap.size + 3 ∨ b = W.heap.size + 4 ∨ (Value.slice (some ⟨g, 0, none⟩) (nonE pre ++ [x :: t]).length cap).ownBlock = some b) → Q b ∨ W1.heap.size ≤ b := by
    rintro b (e | e | e | e | e)
    · exact .inl ((h3 b).2 (.inl e))
    · exact .inl ((h3 b).2 (.inr (.inl e)))
    · exact .inl ((h3 b).2 (.inr (.inr (.inl e))))
    · exact .inl ((h3 b).2 (.inr (.inr (.inr (.inl e)))))
    · have e : some g = some b := e
      cases e
      rcases m3 with e | e
      · exact .inl ((h3 g).2 (.inr (.inr (.inr (.inr e)))))
      · exact .inr (by omega)
  have kk : Keep Q W1 W5 := by rw [h5]; exact (Keep.refl Q W1).putObj (.inl ((h3 _).2 (.inr (.inr (.inr (.inl rfl)))))) _
  have kk9 : Keep Q W1 (W9.putObj (W.heap.size + 4) (.loop R)) := ((kk.trans (m4.mono fun b _ e => e.elim (fun e => (h3 b).2 (.inr (.inl e))) fun e => (h3 b).2 (.inr (.inr (.inr (.inr e)))))).trans (c1.mono fun b _ e => (h3 b).2 (.inl e))).putObj (.inl ((h3 _).2 (.inr (.inr (.inr (.inl rfl)))))) _
  have hne : nonE (pre ++ [x :: t]) = nonE pre ++ [x :: t] := by rw [nonE_snoc, if_neg (by simp)]
  refine ⟨l9, rfl, fun b => (b = W.heap.size ∨ b = W.heap.size + 1 ∨ b = W.heap.size + 3 ∨ b = W.heap.size + 4 ∨ (Value.slice (some ⟨g, 0, none⟩) (nonE pre ++ [x :: t]).length cap).ownBlock = some b), ⟨⟨_, (World.putObj_heap_other (by omega)).trans ((c1.block _ (by omega) (by omega)).trans m1), ?_, fun b => Iff.rfl⟩, ?_, ?_, ?_, World.putObj_heap_same (by omega), ?_, by simp; omega⟩, ?_⟩
  · rw [hne]
    obtain ⟨us, n1, n2⟩ := m2
    refine ⟨us, row_at n1 fun k hk => (World.putObj_heap_other (by have := hgk k hk; omega)).trans (c1.block _ (hgk k hk).2 (by have := hgk k hk; omega)), fun i l hi => ?_⟩
    obtain ⟨u, n3, n4⟩ := n2 i l hi
    refine ⟨u, n3, ?_⟩
    refine ((n4.mono (Q' := fun b => (¬ Q b ∧ b ≠ kb) ∧ b ≠ g) fun b hb hq => ⟨hq.1, ?_⟩).keep (fun b hq hb => ?_) (by simp; omega)).mono fun b hb hq => ⟨?_, hq.1.2⟩
    · rintro rfl
      rcases m3 with e | e
      · exact hq.1.1 ((h3 b).2 (.inr (.inr (.inr (.inr e)))))
      · have := hq.2; omega
    · have n5 : b ≠ W.heap.size := fun e => hq.1.1 ((h3 b).2 (.inl e))
      have n6 : b ≠ W.heap.size + 4 := fun e => hq.1.1 ((h3 b).2 (.inr (.inr (.inr (.inl e)))))
      exact (World.putObj_heap_other n6).trans (c1.block b hb n5)
    · rintro (e | e | e | e | e)
      · exact hq.1.1 ((h3 b).2 (.inl e))
      · exact hq.1.1 ((h3 b).2 (.inr (.inl e)))
      · exact hq.1.1 ((h3 b).2 (.inr (.inr (.inl e))))
      · exact hq.1.1 ((h3 b).2 (.inr (.inr (.inr (.inl e)))))
      · have e : some g = some b := e
        cases e; exact hq.2 rfl
  · refine (c3.keep (W' := W9.putObj (W.heap.size + 4) (.loop R)) (World.putObj_heap_other (by omega))).ext fun s => ?_
    rw [behM_app, List.take_length]; simp [behM]
  · exact (World.putObj_heap_other (by omega)).trans ((k9 _ (by omega) (by omega) (by omega) (by omega) (fun e => by have := ho _ e; omega)).trans hj.box)
  · exact (World.putObj_heap_other (by omega)).trans ((k9 _ (by omega) (by omega) (by omega) (by omega) (fun e => by have := ho _ e; omega)).trans hj.defd)
  · exact hj.keep.trans' (T := Q) kk9 fun b hb => .inr (by
      rcases (h3 b).1 hb with e | e | e | e | e
      · omega
      · omega
      · omega
      · omega
      · have := ho b e; omega)
  · exact ⟨kk9, hq'⟩
end Go.Proofs.Ytolopideimnbgaa
