/-
  Lists.
-/
import Derived.Test.YtolopideimnbgaaHS
namespace Go.Proofs.Ytolopideimnbgaa
open Go.RowKit
attribute [local go_sem] Oper.semAt_some

theorem clone_any {w : World} {Q : Nat → Prop} {a : Option Addr} {c : Nat} {l : Nms} (h : SRow w Q (.slice a l.length c) l) (hn : l.length ≤ 8796093022207) :
    Calls Try.prog 65 #[.slice a l.length c] w fun e w' => ∃ v', e = .returned v' ∧ SRow w' (fun b => w.heap.size ≤ b) v' l ∧ Below w.heap.size w w' := by
  obtain ⟨a', c', e, hr⟩ := h
  cases e
  cases l with
  | nil =>
    cases a with
    | none =>
      refine (Try.slices_Clone_string_nil 0 c w).mono ?_
      rintro e w' ⟨rfl, rfl⟩
      exact ⟨_, rfl, SRow.nil _ _ _ _, Below.refl _ _⟩
    | some ad =>
      refine (Try.slices_Clone_string_zero ad c w).mono ?_
      rintro e w' ⟨v', rfl, h1, _, h2⟩
      exact ⟨_, rfl, SOwn.srow (l := []) h1, h2⟩
  | cons x t =>
    obtain ⟨g, o, rfl, _, _, hat, _⟩ := hr (by simp)
    refine (Try.slices_Clone_string g o (x :: t).length c (x :: t) w (Nat.le_refl _) (by omega) (SRow.getD hat)).mono ?_
    rintro e w' ⟨v', rfl, h1, _, h2⟩
    rw [List.take_length] at h1
    exact ⟨_, rfl, SOwn.srow (l := x :: t) h1, h2⟩
structure LsJ (W : World) (b0 kb : Nat) (R : Loop) (Q : Nat → Prop) (pre : List Nms) (w : World) : Prop where
  row : ∃ v, w.heap[b0]? = some (.cells #[v] 31) ∧ LOwn w (W.heap.size + 2) (fun b => ¬ Q b ∧ W.heap.size ≤ b) v pre ∧ ∀ b, Q b ↔ (b = b0 ∨ b = W.heap.size ∨ b = W.heap.size + 1 ∨ v.ownBlock = some b)
  defd : w.heap[W.heap.size]? = some (.deferred (some []))
  loop : w.heap[W.heap.size + 1]? = some (.loop R)
  keep : Keep (fun b => b = kb ∨ b = b0) W w
  size : W.heap.size + 2 ≤ w.heap.size
theorem lsJ_ok (W : World) (b0 kb : Nat) (R : Loop) (hkb : kb < W.heap.size) (hb0 : b0 < W.heap.size) (hne : b0 ≠ kb) : BOk kb (LsJ W b0 kb R) := by
  constructor
  · intro Q pre w w' h hk
    have hz := h.size
    have hs := hk.size
    obtain ⟨v, h1, h2, h3⟩ := h.row
    exact ⟨⟨v, (hk.block _ (by omega) hne).trans h1, h2.keep (fun k e => hk.block k (h2.lt k e).2 (by have := h2.lt k e; omega)) (fun b hb hz => hk.block b hz (by omega)) hs, h3⟩,
      (hk.block _ (by omega) (by omega)).trans h.defd, (hk.block _ (by omega) (by omega)).trans h.loop, h.keep.trans (hk.mono fun b _ e => .inl e), by omega⟩
  · intro Q pre w h
    have hz := h.size
    obtain ⟨v, h1, h2, h3⟩ := h.row
    refine ⟨fun b hb => ?_, fun hb => ?_⟩
    · rcases (h3 b).1 hb with e | e | e | e
      · omega
      · omega
      · omega
      · exact (h2.lt b e).2
    · rcases (h3 kb).1 hb with e | e | e | e
      · omega
      · omega
      · omega
      · have := (h2.lt kb e).1; omega
theorem lsJ_q {W : World} {b0 kb : Nat} {R : Loop} {Q : Nat → Prop} {pre : List Nms} {w : World} (h : LsJ W b0 kb R Q pre w) : ∀ b, Q b → b = b0 ∨ W.heap.size ≤ b := by
  obtain ⟨v, _, h2, h3⟩ := h.row
  intro b hb
  rcases (h3 b).1 hb with e | e | e | e
  · exact .inl e
  · omega
  · omega
  · have := (h2.lt b e).1; omega
/-- What the append of a list to the result leaves. -/
def MidL (W5 : World) (b0 base kb : Nat) (Q : Nat → Prop) (v : Value) (ls : List Nms) (W8 : World) : Prop :=
  ∃ g cap N, W8.heap[b0]? = some (.cells #[.slice (some ⟨g, 0, none⟩) ls.length cap] 31) ∧ LOwn W8 base (fun b => (¬ Q b ∧ kb ≤ b) ∧ b < N) (.slice (some ⟨g, 0, none⟩) ls.length cap) ls ∧ (v.ownBlock = some g ∨ N ≤ g) ∧ W5.heap.size ≤ N ∧ Keep (fun b => b = b0 ∨ v.ownBlock = some b) W5 W8
/-- The end of a round. -/
theorem round_endL {W W1 W5 W8 : World} {b0 kb : Nat} {R Rb : Loop} {Q : Nat → Prop} {pre : List Nms} {v : Value} {l : Nms} (hj : LsJ W b0 kb R Q pre W1) (hb0 : b0 < W.heap.size) (hv : W1.heap[b0]? = some (.cells #[v] 31)) (h5 : W5 = W1.putObj (W.heap.size + 1) (.loop Rb))
    (h8 : MidL W5 b0 (W.heap.size + 2) W.heap.size Q v (pre ++ [l]) W8) :
    W8.heap[W.heap.size + 1]? = some (.loop Rb) ∧ RPost (LsJ W b0 kb R) Q (pre ++ [l]) W1 (.returned (.bool true)) (W8.putObj (W.heap.size + 1) (.loop R)) := by
  obtain ⟨v', h1, h2, h3⟩ := hj.row
  rw [hv] at h1
  cases h1
  obtain ⟨g, cap, N, m1, m2, m3, m4, m5⟩ := h8
  have hz := hj.size
  have s5 : W5.heap.size = W1.heap.size := by rw [h5]; simp
  have s8 := m5.size
  have ho : ∀ b, v.ownBlock = some b → W.heap.size + 2 ≤ b ∧ b < W1.heap.size := fun b hb => h2.lt b hb
  have hgl : W.heap.size + 2 ≤ g ∧ g < W8.heap.size := m2.lt g rfl
  have hgk : ∀ k, (Value.slice (some ⟨g, 0, none⟩) (pre ++ [l]).length cap).ownBlock = some k → W.heap.size + 2 ≤ k ∧ k < W8.heap.size := fun k hk => m2.lt k hk
  have l8 : W8.heap[W.heap.size + 1]? = some (.loop Rb) := (m5.block _ (by omega) (fun e => e.elim (by omega) fun e => by have := ho _ e; omega)).trans (by rw [h5]; exact World.putObj_heap_same (by omega))
  have k8 : ∀ b, b < W1.heap.size → b ≠ b0 → b ≠ W.heap.size + 1 → v.ownBlock ≠ some b → W8.heap[b]? = W1.heap[b]? := fun b q1 q2 q3 q4 =>
    (m5.block b (by omega) (fun e => e.elim q2 q4)).trans (by rw [h5]; exact World.putObj_heap_other q3)
  have hq' : ∀ b, (b = b0 ∨ b = W.heap.size ∨ b = W.heap.size + 1 ∨ (Value.slice (some ⟨g, 0, none⟩) (pre ++ [l]).length cap).ownBlock = some b) → Q b ∨ W1.heap.size ≤ b := by
    rintro b (e | e | e | e)
    · exact .inl ((h3 b).2 (.inl e))
    · exact .inl ((h3 b).2 (.inr (.inl e)))
    · exact .inl ((h3 b).2 (.inr (.inr (.inl e))))
    · have e : some g = some b := e
      cases e
      rcases m3 with e | e
      · exact .inl ((h3 g).2 (.inr (.inr (.inr e))))
      · exact .inr (by omega)
  have kk : Keep Q W1 W5 := by rw [h5]; exact (Keep.refl Q W1).putObj (.inl ((h3 _).2 (.inr (.inr (.inl rfl))))) _
  have kk9 : Keep Q W1 (W8.putObj (W.heap.size + 1) (.loop R)) := (kk.trans (m5.mono fun b _ e => e.elim (fun e => (h3 b).2 (.inl e)) fun e => (h3 b).2 (.inr (.inr (.inr e))))).putObj (.inl ((h3 _).2 (.inr (.inr (.inl rfl))))) _
  refine ⟨l8, rfl, fun b => (b = b0 ∨ b = W.heap.size ∨ b = W.heap.size + 1 ∨ (Value.slice (some ⟨g, 0, none⟩) (pre ++ [l]).length cap).ownBlock = some b), ⟨⟨_, (World.putObj_heap_other (by omega)).trans m1, ?_, fun b => Iff.rfl⟩, ?_, World.putObj_heap_same (by omega), ?_, by simp; omega⟩, kk9, hq'⟩
  · obtain ⟨us, n1, n2⟩ := m2
    refine ⟨us, row_at n1 fun k hk => World.putObj_heap_other (by have := hgk k hk; omega), fun i l hi => ?_⟩
    obtain ⟨u, n3, n4⟩ := n2 i l hi
    refine ⟨u, n3, ?_⟩
    refine ((n4.mono (Q' := fun b => (¬ Q b ∧ W.heap.size ≤ b) ∧ b ≠ g) fun b hb hq => ⟨hq.1, ?_⟩).keep (fun b hq hb => ?_) (by simp)).mono fun b hb hq => ⟨?_, hq.1.2⟩
    · rintro rfl
      rcases m3 with e | e
      · exact hq.1.1 ((h3 b).2 (.inr (.inr (.inr e))))
      · have := hq.2; omega
    · exact World.putObj_heap_other fun e => hq.1.1 ((h3 b).2 (.inr (.inr (.inl e))))
    · rintro (e | e | e | e)
      · exact hq.1.1 ((h3 b).2 (.inl e))
      · exact hq.1.1 ((h3 b).2 (.inr (.inl e)))
      · exact hq.1.1 ((h3 b).2 (.inr (.inr (.inl e))))
      · have e : some g = some b := e
        cases e; exact hq.2 rfl
  · exact (World.putObj_heap_other (by omega)).trans ((k8 _ (by omega) (by omega) (by omega) (fun e => by have := ho _ e; omega)).trans hj.defd)
  · exact hj.keep.trans' (T := Q) kk9 fun b hb => (lsJ_q hj b hb).imp .inr id
/-- Behind the copy of a list, whatever came ahead of it. -/
theorem after_clone {W5 w6 : World} {b0 base kb : Nat} {Q : Nat → Prop} {va : Option Addr} {vc : Nat} {pre : List Nms} {l : Nms} {kb6 : Option Addr} {kc6 : Nat} (hm5 : W5.heap[b0]? = some (.cells #[.slice va pre.length vc] 31)) (hlt : b0 < base) (hQ0 : Q b0) (hQl : ∀ b, Q b → b < W5.heap.size) (hkb : kb < W5.heap.size) (hQo : ∀ b, (Value.slice va pre.length vc).ownBlock = some b → Q b) (hbase : base ≤ W5.heap.size)
    (hlo : LOwn W5 base (fun b => (¬ Q b ∧ kb ≤ b) ∧ b < W5.heap.size) (.slice va pre.length vc) pre) (hro : l ≠ [] → ∃ g o, kb6 = some ⟨g, o, none⟩ ∧ W5.heap.size ≤ g ∧ g < w6.heap.size ∧ SAt w6 g o l ∧ l.length ≤ kc6) (hb6 : Below W5.heap.size W5 w6) :
    w6.cell? ⟨b0, 0, none⟩ = some (.slice va pre.length vc) ∧ (w6.alloc (.cells #[.slice kb6 l.length kc6] 24)).cell? ⟨b0, 0, none⟩ = some (.slice va pre.length vc) ∧ w6.frozen? ⟨b0, 0, none⟩ = false ∧ True ∧
    (LOwn (w6.alloc (.cells #[.slice kb6 l.length kc6] 24)) base (fun b => (¬ Q b ∧ kb ≤ b) ∧ b < w6.heap.size) (.slice va pre.length vc) pre ∧ (w6.alloc (.cells #[.slice kb6 l.length kc6] 24)).heap[w6.heap.size]? = some (.cells #[.slice kb6 l.length kc6] 24) ∧
      SRow (w6.alloc (.cells #[.slice kb6 l.length kc6] 24)) (fun b => (¬ Q b ∧ kb ≤ b) ∧ b < w6.heap.size) (.slice kb6 l.length kc6) l ∧ (∀ k, ((¬ Q k ∧ kb ≤ k) ∧ k < w6.heap.size) → (Value.slice va pre.length vc).ownBlock ≠ some k) ∧ base ≤ (w6.alloc (.cells #[.slice kb6 l.length kc6] 24)).heap.size ∧
      ∀ g cap w7, LOwn w7 base (fun b => (¬ Q b ∧ kb ≤ b) ∧ b < w6.heap.size) (.slice (some ⟨g, 0, none⟩) (pre.length + 1) cap) (pre ++ [l]) → (w6.alloc (.cells #[.slice kb6 l.length kc6] 24)).grownBy w7 (Value.slice va pre.length vc).ownBlock → ((Value.slice va pre.length vc).ownBlock = some g ∨ g = w6.heap.size + 1) →
        w7.cell? ⟨b0, 0, none⟩ = some (.slice va pre.length vc) ∧ w7.frozen? ⟨b0, 0, none⟩ = false ∧ MidL W5 b0 base kb Q (.slice va pre.length vc) (pre ++ [l]) (w7.setCell ⟨b0, 0, none⟩ (.slice (some ⟨g, 0, none⟩) (pre.length + 1) cap))) := by
  have hz := (Array.getElem?_eq_some_iff.1 hm5).1
  have hs6 := hb6.size
  have hm6 := (hb6.block b0 hz).trans hm5
  have hbx := (Below.refl w6.heap.size w6).alloc (Nat.le_refl _) (.cells #[.slice kb6 l.length kc6] 24)
  have ho : ∀ b, (Value.slice va pre.length vc).ownBlock = some b → base ≤ b := fun b hb => (hlo.lt b hb).1
  refine ⟨by rw [cellOf hm6]; rfl, by rw [cellOf ((hbx.block b0 (by omega)).trans hm6)]; rfl, frozenOf hm6, trivial, ((hlo.below hb6).mono fun b _ h => ⟨h.1, by omega⟩).below hbx, heap_alloc_new w6 _, ?_, fun k hk e => hk.1.1 (hQo k e), by simp; omega, fun g cap w7 h1 h2 h3 => ?_⟩
  · refine SRow.below (w := w6) ⟨kb6, kc6, rfl, fun hne => ?_⟩ hbx
    obtain ⟨g, o, e, h1, h2, h3, h4⟩ := hro hne
    exact ⟨g, o, e, ⟨⟨fun h => by have := hQl g h; omega, by omega⟩, h2⟩, h2, h3, h4⟩
  · have h7 : w7.heap[b0]? = some (.cells #[.slice va pre.length vc] 31) := (h2.block b0 (by simp; omega) fun e => by have := ho _ e.symm; omega).trans ((hbx.block b0 (by omega)).trans hm6)
    have hgm : g ≠ b0 := by
      rcases h3 with e | e
      · have := ho _ e; omega
      · omega
    have hlen : (pre ++ [l]).length = pre.length + 1 := by simp
    refine ⟨by rw [cellOf h7]; rfl, frozenOf h7, g, cap, w6.heap.size, by rw [hlen]; exact heap_setCell_same _ b0 0 _ _ _ h7, ?_, h3.imp id (by omega), hs6, ?_⟩
    · rw [hlen]
      exact h1.keep (fun k hk => Below.heap_setCell _ _ _ _ (by cases hk; simpa using hgm)) (fun b hb _ => Below.heap_setCell _ _ _ _ (by
        show b ≠ b0
        rintro rfl
        exact hb.1.1 hQ0)) (by simp)
    · have k1 : Keep (fun b => b = b0 ∨ (Value.slice va pre.length vc).ownBlock = some b) W5 (w6.alloc (.cells #[.slice kb6 l.length kc6] 24)) := .of_below (hb6.trans (hbx.mono hs6))
      exact (k1.trans (Keep.of_grown h2 fun k e => .inr e)).setCell (.inl (.inl rfl)) _ _
end Go.Proofs.Ytolopideimnbgaa
