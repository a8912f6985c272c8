/-
  The reference's Split: what it holds.
  The reference's Split.
  The law's alike, at equal lists of lists.
-/
import Derived.Test.YtafncodigpjkaaaGreatDoorFJB
import Derived.Test.YtafncodigpjkaaaGreatDoorFJ5
import Derived.Test.YtafncodigpjkaaaGreatDoorFJ2
import Derived.Test.YtafncodigpjkaaaGreatDoorFGI
import Derived.Deep.RegionLaw
namespace Go.Proofs.YtafncodigpjkaaaGreatDoor
section
open Go.RowKit

set_option maxRecDepth 100000 in
set_option maxHeartbeats 4000000 in
theorem isSign_any (x : Fg) (kb : Option Addr) (kn kc : Nat) (s : ByteArray) (W : World) : Calls Tryz.prog 56 #[.agg #[.int .i64 x.tok.1, .int .i64 x.tok.2.1, .string x.tok.2.2.1, .int .i64 x.tok.2.2.2.1, .int .i64 x.tok.2.2.2.2, .string x.opn, .slice kb kn kc], .string s] W fun e w' => e = .returned (.bool (isS s x)) ∧ Below W.heap.size W w' := by
  have his : isS s x = (decide (x.opn = sNo) && (decide (x.tok.1 = 5) && decide (x.tok.2.2.1 = s))) := rfl
  rw [his]
  generalize x.tok.1 = k0
  generalize x.tok.2.1 = n0
  generalize x.tok.2.2.1 = s0
  generalize x.tok.2.2.2.1 = a0
  generalize x.tok.2.2.2.2 = m0
  generalize x.opn = op
  have HB : Hid (Below W.heap.size W (W.alloc (.cells #[.int .i64 k0, .int .i64 n0, .string s0, .int .i64 a0, .int .i64 m0, .string op, .slice kb kn kc] 52))) := Lib.hid ((Below.refl _ _).alloc (Nat.le_refl _) _)
  by_cases q1 : op = sNo
  rotate_left
  · have z1 := (lit_ne [] q1).1
    rw [decide_eq_false q1]
    clear q1
    go_enter Tryz.func56, Tryz.ntmps56
    go_wp2_with fail
    exact bodyPost_ret (v := .bool false) (by simp [results, Tryz.results56, go_sem]) rfl ⟨rfl, HB.out⟩
  have z1 := (lit_eq [] q1).1
  rw [decide_eq_true q1]
  clear q1
  by_cases q2 : k0 = 5
  rotate_left
  · have z2 := (ne_int q2).1
    rw [decide_eq_false q2]
    clear q2
    go_enter Tryz.func56, Tryz.ntmps56
    go_wp2_with fail
    exact bodyPost_ret (v := .bool false) (by simp [results, Tryz.results56, go_sem]) rfl ⟨by simp, HB.out⟩
  subst q2
  by_cases q3 : s0 = s
  rotate_left
  · have z3 := (str_ne q3).1
    rw [decide_eq_false q3]
    clear q3
    go_enter Tryz.func56, Tryz.ntmps56
    go_wp2_with fail
    exact bodyPost_ret (v := .bool false) (by simp [results, Tryz.results56, go_sem]) rfl ⟨by simp, HB.out⟩
  subst q3
  go_enter Tryz.func56, Tryz.ntmps56
  go_wp2_with fail
  exact bodyPost_ret (v := .bool true) (by simp [results, Tryz.results56, go_sem]) rfl ⟨by simp, HB.out⟩
/-- The pieces so far in a row of the call's own, the last one of which grows in a row of its own. -/
def ROut (S base : Nat) (w : World) (ov av : Value) (ps : List (List Fg)) (acc : List Fg) : Prop :=
  ∃ kvs : List Value, kvs.length = ps.length ∧ w.ownsRow base 25 1 ov (ps.length + 1) (kvs ++ [av]) ∧ (∀ (i : Nat) (l : List Fg) (u : Value), ps[i]? = some l → kvs[i]? = some u → FVal w (fun b => ov.ownBlock ≠ some b ∧ av.ownBlock ≠ some b) u l) ∧
    JQ (fun b => b < S) w base av acc ∧ ∀ g, av.ownBlock = some g → ov.ownBlock ≠ some g
theorem ROut.below {S base : Nat} {w w' : World} {ov av : Value} {ps : List (List Fg)} {acc : List Fg} (h : ROut S base w ov av ps acc) (hb : Below w.heap.size w w') : ROut S base w' ov av ps acc := by
  obtain ⟨kvs, h1, h2, h3, h4, h5⟩ := h
  exact ⟨kvs, h1, ownsRow_keep h2 hb.block, fun i l u hl hu => (h3 i l u hl hu).below hb, h4.below hb, h5⟩
/-- Behind an append of a new piece. -/
theorem ROut.next {S base g cap : Nat} {w w' : World} {ov av : Value} {ps : List (List Fg)} {acc : List Fg} {kvs : List Value} (hS : S ≤ base) (h1 : kvs.length = ps.length)
    (h3 : ∀ (i : Nat) (l : List Fg) (u : Value), ps[i]? = some l → kvs[i]? = some u → FVal w (fun b => ov.ownBlock ≠ some b ∧ av.ownBlock ≠ some b) u l) (h4 : JQ (fun b => b < S) w base av acc) (h5 : ∀ g, av.ownBlock = some g → ov.ownBlock ≠ some g) (hov : ∀ g, ov.ownBlock = some g → base ≤ g) (hbase : base ≤ w.heap.size)
    (hg : w.grownBy w' ov.ownBlock) (hat : ov.ownBlock = some g ∨ g = w.heap.size) (ho : w'.ownsRow base 25 1 (.slice (some ⟨g, 0, none⟩) (ps.length + 1 + 1) cap) (ps.length + 1 + 1) ((kvs ++ [av]) ++ [.slice none 0 0])) :
    ROut S base w' (.slice (some ⟨g, 0, none⟩) (ps.length + 1 + 1) cap) (.slice none 0 0) (ps ++ [acc]) [] := by
  have hgb : base ≤ g := by rcases hat with e | e; exact hov g e; omega
  have hne : ∀ {b : Nat}, b < w.heap.size → ov.ownBlock ≠ some b → (Value.slice (some ⟨g, 0, none⟩) (ps.length + 1 + 1) cap).ownBlock ≠ some b ∧ (Value.slice none 0 0).ownBlock ≠ some b ∧ w'.heap[b]? = w.heap[b]? := fun {b} z hb => ⟨fun e => by
    have e2 : g = b := Option.some.inj e
    rcases hat with h | h
    · exact hb (by rw [h, e2])
    · omega, fun e => by simp [Value.ownBlock] at e, hg.block b z (fun e => hb e.symm)⟩
  refine ⟨kvs ++ [av], by simp [h1], by rw [List.length_append, List.length_singleton]; exact ho, fun i l u hl hu => ?_, JQ.nil _ _, fun g e => by simp [Value.ownBlock] at e⟩
  by_cases hi : i < ps.length
  · rw [List.getElem?_append_left hi] at hl
    rw [List.getElem?_append_left (by omega)] at hu
    exact (h3 i l u hl hu).keep (fun b p z => ⟨⟨(hne z p.1).1, (hne z p.1).2.1⟩, (hne z p.1).2.2⟩) hg.size
  · rw [List.getElem?_append_right (by omega)] at hl
    rw [List.getElem?_append_right (by omega), h1] at hu
    have hi0 : i - ps.length = 0 := by have := (List.getElem?_eq_some_iff.1 hl).1; simp at this; omega
    rw [hi0] at hl hu
    cases hl; cases hu
    have hv : FVal w (fun b => ov.ownBlock ≠ some b) av acc := FOwn.val h4 (fun b p e => by have := hov b e; have := p.2; omega) (fun b e => h5 b e)
    exact hv.keep (fun b p z => ⟨⟨(hne z p).1, (hne z p).2.1⟩, (hne z p).2.2⟩) hg.size
/-- Behind a fragment that is put behind the last piece, whose new value is stored. -/
theorem ROut.grow {S base go oc g n cap : Nat} {w w6 w' : World} {av : Value} {ps : List (List Fg)} {acc : List Fg} {kvs akvs : List Value} {x : Fg} {kv : Value} (hS : S ≤ base) (h1 : kvs.length = ps.length) (h2 : w.ownsRow base 25 1 (.slice (some ⟨go, 0, none⟩) (ps.length + 1) oc) (ps.length + 1) (kvs ++ [av]))
    (h3 : ∀ (i : Nat) (l : List Fg) (u : Value), ps[i]? = some l → kvs[i]? = some u → FVal w (fun b => (Value.slice (some ⟨go, 0, none⟩) (ps.length + 1) oc).ownBlock ≠ some b ∧ av.ownBlock ≠ some b) u l) (h5 : ∀ g, av.ownBlock = some g → go ≠ g)
    (ha1 : akvs.length = acc.length) (ha3 : ∀ (i : Nat) (x : Fg) (u : Value), acc[i]? = some x → akvs[i]? = some u → FVal w (fun b => av.ownBlock ≠ some b ∧ b < S) u x.kids) (hk : FVal w (fun b => b < S) kv x.kids) (hav : ∀ g, av.ownBlock = some g → base ≤ g) (hbase : base ≤ w.heap.size)
    (hg : w.grownBy w6 av.ownBlock) (hat : av.ownBlock = some g ∨ g = w.heap.size) (hK : KeepS (fun b => b = g ∨ b = go) w6 w') (hn : n = acc.length + 1)
    (ho6 : w'.ownsRow base 52 7 (.slice (some ⟨g, 0, none⟩) n cap) n (flatF acc akvs ++ fgV x kv)) (hoo : w'.ownsRow base 25 1 (.slice (some ⟨go, 0, none⟩) (ps.length + 1) oc) (ps.length + 1) (kvs ++ [.slice (some ⟨g, 0, none⟩) n cap])) :
    ROut S base w' (.slice (some ⟨go, 0, none⟩) (ps.length + 1) oc) (.slice (some ⟨g, 0, none⟩) n cap) ps (acc ++ [x]) := by
  have hgo : go < w.heap.size := (h2.lt go rfl).2
  have hgob : base ≤ go := (h2.lt go rfl).1
  have hgg : go ≠ g := by rcases hat with e | e; exact h5 g e; omega
  have hgb : base ≤ g := by rcases hat with e | e; exact hav g e; omega
  have hkeep : ∀ {b : Nat}, b < w.heap.size → av.ownBlock ≠ some b → b ≠ go → b ≠ g ∧ w'.heap[b]? = w.heap[b]? := fun {b} z p q => by
    have hbg : b ≠ g := fun e => by
      rcases hat with h | h
      · exact p (by rw [h, e])
      · omega
    exact ⟨hbg, (hK.block b (by have := hg.size; omega) (fun e => e.elim hbg q)).trans (hg.block b z (fun e => p e.symm))⟩
  have hsz : w.heap.size ≤ w'.heap.size := Nat.le_trans hg.size hK.size
  refine ⟨kvs, h1, hoo, fun i l u hl hu => (h3 i l u hl hu).keep (fun b p z => ?_) hsz, ⟨akvs ++ [kv], by simp [ha1], ?_, fun i y u hy hu => ?_⟩, fun g2 e => fun e2 => hgg ((Option.some.inj e2).trans (Option.some.inj e).symm)⟩
  · have hb : b ≠ go := fun e => p.1 (by rw [e]; rfl)
    have := hkeep z p.2 hb
    exact ⟨⟨p.1, fun e => this.1 (Option.some.inj e).symm⟩, this.2⟩
  · rw [List.length_append, List.length_singleton, ← hn, flatF_snoc ha1]
    exact ho6
  · have hlow : ∀ {b : Nat}, b < S → b < w.heap.size → ((Value.slice (some ⟨g, 0, none⟩) n cap).ownBlock ≠ some b ∧ b < S) ∧ w'.heap[b]? = w.heap[b]? := fun {b} hb z => by
      have := hkeep z (fun e => by have := hav b e; omega) (by omega)
      exact ⟨⟨fun e => this.1 (Option.some.inj e).symm, hb⟩, this.2⟩
    by_cases hi : i < acc.length
    · rw [List.getElem?_append_left hi] at hy
      rw [List.getElem?_append_left (by omega)] at hu
      exact (ha3 i y u hy hu).keep (fun b p z => hlow p.2 z) hsz
    · rw [List.getElem?_append_right (by omega)] at hy
      rw [List.getElem?_append_right (by omega), ha1] at hu
      have hi0 : i - acc.length = 0 := by have := (List.getElem?_eq_some_iff.1 hy).1; simp at this; omega
      rw [hi0] at hy hu
      cases hy; cases hu
      exact hk.keep (fun b p z => hlow p z) hsz
/-- What an append to a row left, begun in a world that has one block more. -/
def FarP (w5 w6 : World) (av : Value) : Prop := ∃ wa : World, Below w5.heap.size w5 wa ∧ wa.heap.size = w5.heap.size + 1 ∧ wa.grownBy w6 av.ownBlock
theorem FarP.block {w5 w6 : World} {av : Value} (h : FarP w5 w6 av) {b : Nat} (hb : b < w5.heap.size) (hn : av.ownBlock ≠ some b) : w6.heap[b]? = w5.heap[b]? := by
  obtain ⟨wa, h1, h2, h3⟩ := h
  exact (h3.block b (by omega) (fun e => hn e.symm)).trans (h1.block b hb)
theorem FarP.size {w5 w6 : World} {av : Value} (h : FarP w5 w6 av) : w5.heap.size + 1 ≤ w6.heap.size := by
  obtain ⟨wa, _, h2, h3⟩ := h
  have := h3.size
  omega
theorem FarP.belo {W w5 w6 : World} {B : Nat} {av : Value} (h : FarP w5 w6 av) (hb : Below B W w5) (hB : B ≤ w5.heap.size) (hl : ∀ g, av.ownBlock = some g → B ≤ g) : Below B W w6 := by
  obtain ⟨wa, h1, h2, h3⟩ := h
  exact (hb.trans (h1.mono hB)).grown h3 (by omega) hl
theorem set_last {kvs : List Value} {av nv : Value} {m : Nat} (h : kvs.length = m) : (kvs ++ [av]).set m nv = kvs ++ [nv] := by
  rw [List.set_append_right _ _ (by omega), h, Nat.sub_self]
  rfl
theorem out_stored {base go oc m : Nat} {w5 w6 : World} {kvs : List Value} {av : Value} (h1 : kvs.length = m) (h2 : w5.ownsRow base 25 1 (.slice (some ⟨go, 0, none⟩) (m + 1) oc) (m + 1) (kvs ++ [av])) (hgo : w6.heap[go]? = w5.heap[go]?) (nv : Value) :
    (w6.setCell ⟨go, m, none⟩ nv).ownsRow base 25 1 (.slice (some ⟨go, 0, none⟩) (m + 1) oc) (m + 1) (kvs ++ [nv]) := by
  have h := ((ownsRow_block h2 hgo).stored m nv).1
  rwa [set_last h1] at h
theorem own_belo {base size n : Nat} {e : TypeId} {w w' : World} {v : Value} {xs : List Value} (h : w.ownsRow base e size v n xs) (hb : Below w.heap.size w w') : w'.ownsRow base e size v n xs := ownsRow_keep h hb.block
theorem row_filled {w : World} {base g n cap : Nat} {xs : List Value} {z0 z1 z2 z3 z4 z5 z6 : Value} (h : w.ownsRow base 52 7 (.slice (some ⟨g, 0, none⟩) (n + 1) cap) (n + 1) (xs ++ [z0, z1, z2, z3, z4, z5, z6])) (hx : xs.length = n * 7) (v0 v1 v2 v3 v4 v5 v6 : Value) :
    (((((((w.setCell ⟨g, n * 7, none⟩ v0).setCell ⟨g, n * 7 + 1, none⟩ v1).setCell ⟨g, n * 7 + 2, none⟩ v2).setCell ⟨g, n * 7 + 3, none⟩ v3).setCell ⟨g, n * 7 + 4, none⟩ v4).setCell ⟨g, n * 7 + 5, none⟩ v5).setCell ⟨g, n * 7 + 6, none⟩ v6).ownsRow base 52 7 (.slice (some ⟨g, 0, none⟩) (n + 1) cap) (n + 1) (xs ++ [v0, v1, v2, v3, v4, v5, v6]) := by
  have h0 := (h.stored (n * 7 + 0) v0).1
  rw [set_app hx, Nat.add_zero] at h0
  have h1 := (h0.stored (n * 7 + 1) v1).1
  rw [set_app hx] at h1
  have h2 := (h1.stored (n * 7 + 2) v2).1
  rw [set_app hx] at h2
  have h3 := (h2.stored (n * 7 + 3) v3).1
  rw [set_app hx] at h3
  have h4 := (h3.stored (n * 7 + 4) v4).1
  rw [set_app hx] at h4
  have h5 := (h4.stored (n * 7 + 5) v5).1
  rw [set_app hx] at h5
  have h6 := (h5.stored (n * 7 + 6) v6).1
  rw [set_app hx] at h6
  exact h6
theorem keep7 (w : World) (g m : Nat) (v0 v1 v2 v3 v4 v5 v6 : Value) {Q : Nat → Prop} (hQ : Q g) : KeepS Q w (((((((w.setCell ⟨g, m, none⟩ v0).setCell ⟨g, m + 1, none⟩ v1).setCell ⟨g, m + 2, none⟩ v2).setCell ⟨g, m + 3, none⟩ v3).setCell ⟨g, m + 4, none⟩ v4).setCell ⟨g, m + 5, none⟩ v5).setCell ⟨g, m + 6, none⟩ v6) :=
  (((((((KeepS.refl Q w).setCell hQ _ _).setCell hQ _ _).setCell hQ _ _).setCell hQ _ _).setCell hQ _ _).setCell hQ _ _).setCell hQ _ _
theorem rs_store {S base go oc g6 cap6 : Nat} {w5 w6 w' : World} {av : Value} {ps : List (List Fg)} {acc : List Fg} {kvs akvs : List Value} {x : Fg} {kv : Value} (hS : S ≤ base) (h1 : kvs.length = ps.length) (h2 : w5.ownsRow base 25 1 (.slice (some ⟨go, 0, none⟩) (ps.length + 1) oc) (ps.length + 1) (kvs ++ [av]))
    (h3 : ∀ (i : Nat) (l : List Fg) (u : Value), ps[i]? = some l → kvs[i]? = some u → FVal w5 (fun b => (Value.slice (some ⟨go, 0, none⟩) (ps.length + 1) oc).ownBlock ≠ some b ∧ av.ownBlock ≠ some b) u l) (h5 : ∀ g, av.ownBlock = some g → go ≠ g)
    (ha1 : akvs.length = acc.length) (ha3 : ∀ (i : Nat) (x : Fg) (u : Value), acc[i]? = some x → akvs[i]? = some u → FVal w5 (fun b => av.ownBlock ≠ some b ∧ b < S) u x.kids) (hk : FVal w5 (fun b => b < S) kv x.kids) (hav : ∀ g, av.ownBlock = some g → base ≤ g) (hbase : base ≤ w5.heap.size)
    (hfar : FarP w5 w6 av) (hat : av.ownBlock = some g6 ∨ g6 = w5.heap.size + 1) (hK : KeepS (fun b => b = g6 ∨ b = go) w6 w')
    (ho6 : w'.ownsRow base 52 7 (.slice (some ⟨g6, 0, none⟩) (acc.length + 1) cap6) (acc.length + 1) (flatF acc akvs ++ fgV x kv)) (hoo : w'.ownsRow base 25 1 (.slice (some ⟨go, 0, none⟩) (ps.length + 1) oc) (ps.length + 1) (kvs ++ [.slice (some ⟨g6, 0, none⟩) (acc.length + 1) cap6])) :
    ROut S base w' (.slice (some ⟨go, 0, none⟩) (ps.length + 1) oc) (.slice (some ⟨g6, 0, none⟩) (acc.length + 1) cap6) ps (acc ++ [x]) := by
  obtain ⟨wa, b1, b2, b3⟩ := hfar
  exact ROut.grow (w := wa) (w6 := w6) hS h1 (ownsRow_keep h2 b1.block) (fun i l u hl hu => (h3 i l u hl hu).below b1) h5 ha1 (fun i y u hy hu => (ha3 i y u hy hu).below b1) (hk.below b1) hav (by omega) b3 (hat.imp id (fun e => by omega)) hK rfl ho6 hoo
end

section
open Go.RowKit

def RSLoop (S : Nat) (s : ByteArray) (l : List Fg) (W : World) (k : Nat) (ov : Value) (wr : World) : Prop :=
  k ≤ l.length ∧ Below W.heap.size W wr ∧ ∃ ps acc av, ps ++ splG s acc (l.drop k) = splitM s l ∧ ROut S W.heap.size wr ov av ps acc ∧ ps.length ≤ k ∧ acc.length ≤ k
def RSplitPost (ls : List (List Fg)) (W : World) (e : Ending) (w' : World) : Prop := ∃ v, e = .returned v ∧ PVal w' (fun _ => True) v ls ∧ Below W.heap.size W w'
theorem ROut.pval {S base : Nat} {w : World} {ov av : Value} {ps : List (List Fg)} {acc : List Fg} (h : ROut S base w ov av ps acc) : PVal w (fun _ => True) ov (ps ++ [acc]) := by
  obtain ⟨kvs, h1, h2, h3, h4, h5⟩ := h
  rcases h2.2 with ⟨rfl, hn⟩ | ⟨g, cap, cur, rfl, hb, hg, _⟩
  · omega
  · refine ⟨some ⟨g, 0, none⟩, cap, by rw [List.length_append]; rfl, fun _ => ⟨g, 0, rfl, (Array.getElem?_eq_some_iff.1 hg).1, fun i l hl => ?_⟩⟩
    have hil := (List.getElem?_eq_some_iff.1 hl).1
    rw [List.length_append, List.length_singleton] at hil
    rw [Nat.zero_add, h2.cellAt i (by omega)]
    by_cases hi : i < ps.length
    · rw [List.getElem?_append_left hi] at hl
      obtain ⟨u, hu⟩ : ∃ u, kvs[i]? = some u := ⟨_, List.getElem?_eq_getElem (by omega)⟩
      exact ⟨u, by rw [List.getElem?_append_left (by omega)]; exact hu, (h3 i l u hl hu).keep (fun _ _ _ => ⟨trivial, rfl⟩) (Nat.le_refl _)⟩
    · rw [List.getElem?_append_right (by omega)] at hl
      have hi0 : i - ps.length = 0 := by omega
      rw [hi0] at hl
      cases hl
      refine ⟨av, by rw [List.getElem?_append_right (by omega), h1, hi0]; rfl, FOwn.val h4 (fun _ _ => trivial) (fun _ _ => trivial)⟩
theorem ROut.form {S base : Nat} {w : World} {ov av : Value} {ps : List (List Fg)} {acc : List Fg} (h : ROut S base w ov av ps acc) : ∃ go oc, ov = .slice (some ⟨go, 0, none⟩) (ps.length + 1) oc := by
  obtain ⟨kvs, h1, h2, _⟩ := h
  rcases h2.2 with ⟨_, hn⟩ | ⟨g, cap, cur, rfl, _⟩
  · omega
  · exact ⟨g, cap, rfl⟩
theorem ROut.last {S base : Nat} {w : World} {ov av : Value} {ps : List (List Fg)} {acc : List Fg} (h : ROut S base w ov av ps acc) : ∃ ab ac, av = .slice ab acc.length ac := by
  obtain ⟨kvs, _, _, _, h4, _⟩ := h
  obtain ⟨b, c, e, _⟩ := h4.form
  exact ⟨b, c, e⟩
set_option maxRecDepth 100000 in
set_option maxHeartbeats 16000000 in
theorem RSplit_any (S : Nat) (l : List Fg) (v0 : Value) (s : ByteArray) (W : World) (hS : S ≤ W.heap.size) (hv : FVal W (fun b => b < S) v0 l) (hl : l.length ≤ 1599289640000) : Calls Tryz.prog 30 #[v0, .string s] W (RSplitPost (splitM s l) W) := by
  obtain ⟨i0, hi, hz0, hz1, hz2⟩ := info_parts infoFrags
  obtain ⟨j0, hj, jz0, jz1, jz2⟩ := info_parts infoFrag
  obtain ⟨a, c, rfl, hrow⟩ := hv
  have HR := Lib.hid hrow
  have HS := Lib.hid hS
  clear hrow hS
  go_enter Tryz.func30, Tryz.ntmps30
  go_wp2_with fail
  go_loopw [5, 6] (fun ov iv wr => ∃ k : Nat, iv = .int .i64 (k : Int) ∧ Hid (RSLoop S s l W k ov wr)) (fun _ iv _ => l.length - (intOf iv).toNat)
  case atStart => exact ⟨0, rfl, Lib.hid ⟨Nat.zero_le _, (Below.refl _ W).alloc (Nat.le_refl _) _, [], [], .slice none 0 0, by rw [List.drop_zero]; rfl, ⟨[], rfl, World.ownsRow_lit W #[.slice none 0 0] 1 (Nat.le_refl _) (by unfold maxLen; omega) rfl, (fun _ _ _ h => by cases h), JQ.nil _ _, fun g e => by simp [Value.ownBlock] at e⟩, Nat.le_refl _, Nat.le_refl _⟩⟩
  case round =>
    obtain ⟨k, rfl, hr⟩ := hrel
    obtain ⟨hk, hbe, ps, acc, av, hsp, hro, hps, hac⟩ := hr.out
    have w3' : IntKind.i64.wrap ((k : Int) + 1) = (k : Int) + 1 := IntWalk.i64_in _ (by omega)
    by_cases hlt : k < l.length
    · obtain ⟨x, hx⟩ : ∃ x, l[k]? = some x := ⟨_, List.getElem?_eq_getElem hlt⟩
      obtain ⟨g, o, rfl, hgS, hg, hrw⟩ := HR.out (by rintro rfl; simp at hlt)
      obtain ⟨kv, hcell, ka, kc, rfl, hkr⟩ := (hrw.get hx).parts
      rw [splG_at hx] at hsp
      have hcw := fun (w : World) (hb : Below W.heap.size W w) j u (hu : (fgV x (.slice ka x.kids.length kc))[j]? = some u) => (hb.cell (p := ⟨g, o + k * 7 + j, none⟩) hg).trans (hcell j u hu)
      have HCW := Lib.hid hcw
      have HKV := Lib.hid (fun (w : World) (hb : Below W.heap.size W w) => (show FVal W (fun b => b < S) (.slice ka x.kids.length kc) x.kids from ⟨_, _, rfl, hkr⟩).below hb)
      have c0 : wr.cell? ⟨g, o + k * 7, none⟩ = some (.int .i64 x.tok.1) := hcw wr hbe 0 _ rfl
      have c1 : wr.cell? ⟨g, o + k * 7 + 1, none⟩ = some (.int .i64 x.tok.2.1) := hcw wr hbe 1 _ rfl
      have c2 : wr.cell? ⟨g, o + k * 7 + 2, none⟩ = some (.string x.tok.2.2.1) := hcw wr hbe 2 _ rfl
      have c3 : wr.cell? ⟨g, o + k * 7 + 3, none⟩ = some (.int .i64 x.tok.2.2.2.1) := hcw wr hbe 3 _ rfl
      have c4 : wr.cell? ⟨g, o + k * 7 + 4, none⟩ = some (.int .i64 x.tok.2.2.2.2) := hcw wr hbe 4 _ rfl
      have c5 : wr.cell? ⟨g, o + k * 7 + 5, none⟩ = some (.string x.opn) := hcw wr hbe 5 _ rfl
      have c6 : wr.cell? ⟨g, o + k * 7 + 6, none⟩ = some (.slice ka x.kids.length kc) := hcw wr hbe 6 _ rfl
      have hlt' : (k : Int) < (l.length : Int) := by omega
      have HBE := Lib.hid hbe
      have HIS := Lib.hid (fun (w : World) => isSign_any x ka x.kids.length kc s w)
      cases hsg : isS s x with
      | true =>
        rw [if_pos hsg] at hsp
        rw [hsg] at HIS
        have HSP := Lib.hid hsp
        have HRO := Lib.hid hro
        have HPS := Lib.hid hps
        clear hr hbe hsp hro hcw hcell hkr hrw hx hsg hac
        go_wp2_with fail
        refine (HIS.out _).mono ?_
        rintro e w4 ⟨rfl, hb4⟩
        have HB4 : Hid (Below W.heap.size W w4) := Lib.hid (HBE.out.trans (hb4.mono HBE.out.size))
        have hxb := HB4.out.alloc HB4.out.size (.cells #[.slice none 0 0] 25)
        have hro5 := (HRO.out.below hb4).below ((Below.refl _ _).alloc (Nat.le_refl _) (.cells #[.slice none 0 0] 25))
        obtain ⟨kvs, hk1, hk2, hk3, hk4, hk5⟩ := hro5
        have HK1 := Lib.hid hk1
        have HKR := Lib.hid hk2
        have HK3 := Lib.hid hk3
        have HK4 := Lib.hid hk4
        have HK5 := Lib.hid hk5
        have HXB := Lib.hid hxb
        have HM0 : Hid (ps.length + 1 + 1 ≤ maxLen) := Lib.hid (by unfold maxLen; omega)
        have HM1 : Hid ((ps.length + 1 + 1) * 24 ≤ 140737488355328) := Lib.hid (by omega)
        clear hb4 hk1 hk2 hk3 hk4 hk5 hxb HRO
        go_wp2_with (at_builtin; go_loud (refine wpList_append_lies _ rfl _ _ 42 rfl W.heap.size 25 i0 _ 1 24 Tryz.underlying42 hi hz0 hz1 hz2 rfl (by omega) _ (ps.length + 1) (kvs ++ [av]) rfl HKR.out ⟨w4.heap.size, 0, none⟩ 1 1 [.slice none 0 0] rfl rfl (new_one (heap_alloc_new _ _)) (by simp [Value.oneCell']) (by omega) HM0.out HM1.out HXB.out.size (w4.heap.size + 1) (by simp) ?_); intro g6 cap6 w6 hown6 hgrow6 hat6 hlt6; have HN6 := Lib.hid (ROut.next HS.out HK1.out HK3.out HK4.out HK5.out (fun q e => (HKR.out.lt q e).1) HXB.out.size hgrow6 (hat6.imp id (fun e => by simp; omega)) hown6); have HB6 : Hid (Below W.heap.size W w6) := Lib.hid (HXB.out.grown hgrow6 HXB.out.size (fun q e => (HKR.out.lt q e).1)); clear hown6 hgrow6 hat6 hlt6)
        exact ⟨⟨k + 1, by simp, Lib.hid ⟨by omega, HB6.out, ps ++ [acc], [], .slice none 0 0, by rw [List.append_assoc]; exact HSP.out, HN6.out, by have := HPS.out; simp; omega, by simp⟩⟩, by simp only [intOf]; omega⟩
      | false =>
        rw [if_neg (by rw [hsg]; simp)] at hsp
        rw [hsg] at HIS
        have HSP := Lib.hid hsp
        obtain ⟨go, oc, rfl⟩ := hro.form
        obtain ⟨ab, ac, rfl⟩ := hro.last
        have HRO := Lib.hid hro
        have HPS := Lib.hid hps
        have HAC := Lib.hid hac
        clear hr hbe hsp hro hcw hcell hkr hrw hx hsg
        go_wp2_with fail
        refine (HIS.out _).mono ?_
        rintro e w4 ⟨rfl, hb4⟩
        have HB4 : Hid (Below W.heap.size W w4) := Lib.hid (HBE.out.trans (hb4.mono HBE.out.size))
        have HRO4 := Lib.hid (HRO.out.below hb4)
        clear hb4 HRO c0 c1 c2 c3 c4 c5 c6
        go_wp2_with fail
        go_region_law (fail)
        all_goals go_wp2_with fail
        · have hro5 := HRO4.out.below (((Below.refl w4.heap.size w4).alloc (Nat.le_refl _) (.cells #[.bool false] 4)).drew)
          have hb5 : Below W.heap.size W ((w4.alloc (.cells #[.bool false] 4)).drew) := (HB4.out.alloc HB4.out.size _).drew
          generalize (w4.alloc (.cells #[.bool false] 4)).drew = w5 at *
          obtain ⟨kvs, hk1, hk2, hk3, hk4, hk5⟩ := hro5
          obtain ⟨akvs, ha1, ha2, ha3⟩ := hk4
          have HK1 := Lib.hid hk1
          have HK2 := Lib.hid hk2
          have HK3 := Lib.hid hk3
          have HK5 : Hid (∀ g, (Value.slice ab acc.length ac).ownBlock = some g → go ≠ g) := Lib.hid (fun g e e2 => hk5 g e (by rw [e2]; rfl))
          have HA1 := Lib.hid ha1
          have HA2 := Lib.hid ha2
          have HA3 := Lib.hid ha3
          have HB5 := Lib.hid hb5
          have HZB5 : Hid (W.heap.size ≤ w5.heap.size) := Lib.hid hb5.size
          have HLA : Hid (∀ g, (Value.slice ab acc.length ac).ownBlock = some g → W.heap.size ≤ g) := Lib.hid (fun g e => (ha2.lt g e).1)
          have HGO : Hid (W.heap.size ≤ go ∧ go < w5.heap.size) := Lib.hid (hk2.lt go rfl)
          have HNO : Hid ((Value.slice ab acc.length ac).ownBlock ≠ some go) := Lib.hid (fun e => HK5.out go e rfl)
          have HGW : Hid (g < W.heap.size) := Lib.hid hg
          have HAF : Hid ((flatF acc akvs).length = acc.length * 7) := Lib.hid (flatF_length ha1)
          have eo : w5.cell? ⟨go, ps.length, none⟩ = some (.slice ab acc.length ac) := by
            rw [hk2.cellAt _ (by omega), List.getElem?_append_right (by omega), hk1, Nat.sub_self]
            rfl
          have fo : w5.frozen? ⟨go, ps.length, none⟩ = false := hk2.frozenAt _
          have hcc := HCW.out w5 hb5
          have c0 : w5.cell? ⟨g, o + k * 7, none⟩ = some (.int .i64 x.tok.1) := hcc 0 _ rfl
          have c1 : w5.cell? ⟨g, o + k * 7 + 1, none⟩ = some (.int .i64 x.tok.2.1) := hcc 1 _ rfl
          have c2 : w5.cell? ⟨g, o + k * 7 + 2, none⟩ = some (.string x.tok.2.2.1) := hcc 2 _ rfl
          have c3 : w5.cell? ⟨g, o + k * 7 + 3, none⟩ = some (.int .i64 x.tok.2.2.2.1) := hcc 3 _ rfl
          have c4 : w5.cell? ⟨g, o + k * 7 + 4, none⟩ = some (.int .i64 x.tok.2.2.2.2) := hcc 4 _ rfl
          have c5 : w5.cell? ⟨g, o + k * 7 + 5, none⟩ = some (.string x.opn) := hcc 5 _ rfl
          have c6 : w5.cell? ⟨g, o + k * 7 + 6, none⟩ = some (.slice ka x.kids.length kc) := hcc 6 _ rfl
          have w7' : IntKind.i64.wrap ((ps.length : Int) + 1 - 1) = (ps.length : Int) := by rw [show (ps.length : Int) + 1 - 1 = (ps.length : Int) by omega]; exact IntWalk.i64_in _ (by omega)
          have w8' : IntKind.i64.wrap (ps.length : Int) = (ps.length : Int) := IntWalk.i64_in _ (by omega)
          have hml : (ps.length : Int) < (ps.length : Int) + 1 := by omega
          have hal : (acc.length : Int) < (acc.length : Int) + 1 := by omega
          have hgo5 : go < w5.heap.size := HGO.out.2
          have hg5 : g < w5.heap.size := by have := HZB5.out; omega
          have HM0 : Hid (acc.length + 1 ≤ maxLen) := Lib.hid (by unfold maxLen; omega)
          have HM1 : Hid ((acc.length + 1) * 88 ≤ 140737488355328) := Lib.hid (by omega)
          have HKW := Lib.hid (HKV.out w5 hb5)
          clear hk1 hk2 hk3 hk5 ha1 ha2 ha3 hb5 hcc
          go_region_law (refine step_append_lies _ rfl (.tmp 53) (.tmp 58) 25 rfl W.heap.size 52 j0 _ 7 88 Tryz.underlying25 hj jz0 jz1 jz2 (by rfl) (by omega) (.slice ab acc.length ac) acc.length (flatF acc akvs) (by rfl) (own_belo HA2.out (by first | exact ((Below.refl w5.heap.size w5).alloc (Nat.le_refl _) _).drew | exact (Below.refl w5.heap.size w5).drew.alloc (Nat.le_refl _) _ | exact (Below.refl w5.heap.size w5).alloc (Nat.le_refl _) _)) ⟨w5.heap.size, 0, none⟩ 1 1 [.int .i64 x.tok.1, .int .i64 x.tok.2.1, .string x.tok.2.2.1, .int .i64 x.tok.2.2.2.1, .int .i64 x.tok.2.2.2.2, .string x.opn, .slice ka x.kids.length kc] (by rfl) (by rfl) (World.news_of_block (cs := #[.int .i64 x.tok.1, .int .i64 x.tok.2.1, .string x.tok.2.2.1, .int .i64 x.tok.2.2.2.1, .int .i64 x.tok.2.2.2.2, .string x.opn, .slice ka x.kids.length kc]) (t := 52) (fr := (0, 0)) (by first | exact heap_alloc_new w5 _ | exact heap_alloc_new w5.drew _)) (by simp [Value.oneCell']) (by omega) HM0.out HM1.out (by have := HZB5.out; simp; omega) (w5.heap.size + 1) (by simp) ?_; intro g6 cap6 w6 hown6 hgrow6 hat6 hlt6; have HOWN6 := Lib.hid hown6; have HFAR : Hid (FarP w5 w6 (.slice ab acc.length ac)) := Lib.hid ⟨_, (by first | exact ((Below.refl w5.heap.size w5).alloc (Nat.le_refl _) _).drew | exact (Below.refl w5.heap.size w5).drew.alloc (Nat.le_refl _) _ | exact (Below.refl w5.heap.size w5).alloc (Nat.le_refl _) _), (by simp), hgrow6⟩; have HAT6 := Lib.hid hat6; have HG6 : Hid (g6 ≠ go ∧ g6 ≠ g ∧ W.heap.size ≤ g6) := Lib.hid (by rcases hat6 with e | e; exact ⟨fun e2 => HK5.out g6 e e2.symm, fun e2 => by have := HLA.out g6 e; have := HGW.out; omega, HLA.out g6 e⟩; have := HGO.out; have := HGW.out; have := HZB5.out; exact ⟨by omega, by omega, by omega⟩); have HGB : Hid (w6.heap[go]? = w5.heap[go]?) := Lib.hid (HFAR.out.block HGO.out.2 HNO.out); have eo6 : w6.cell? ⟨go, ps.length, none⟩ = some (.slice ab acc.length ac) := (World.cell?_of_block (w := w5) (a := ⟨go, ps.length, none⟩) HGB.out).trans eo; have fo6 : w6.frozen? ⟨go, ps.length, none⟩ = false := (World.frozen?_of_block (w := w5) (a := ⟨go, ps.length, none⟩) HGB.out).trans fo; clear hown6 hgrow6 hat6 hlt6)
          all_goals go_wp2_with fail
          all_goals exact ⟨⟨k + 1, by simp, Lib.hid ⟨by omega, (HFAR.out.belo HB5.out HZB5.out HLA.out).setCell (p := ⟨go, ps.length, none⟩) HGO.out.1 _, ps, acc ++ [x], .slice (some ⟨g6, 0, none⟩) (acc.length + 1) cap6, HSP.out, rs_store HS.out HK1.out HK2.out HK3.out HK5.out HA1.out HA3.out HKW.out HLA.out HZB5.out HFAR.out HAT6.out ((KeepS.refl _ w6).setCell (.inr rfl) _ _) (ownsRow_block HOWN6.out (Below.heap_setCell _ _ _ _ HG6.out.1)) (out_stored HK1.out HK2.out HGB.out _), by have := HPS.out; omega, by have := HAC.out; simp; omega⟩⟩, by simp only [intOf]; omega⟩
        · have hro5 := HRO4.out.below (((Below.refl w4.heap.size w4).alloc (Nat.le_refl _) (.cells #[.bool true] 4)).drew)
          have hb5 : Below W.heap.size W ((w4.alloc (.cells #[.bool true] 4)).drew) := (HB4.out.alloc HB4.out.size _).drew
          generalize (w4.alloc (.cells #[.bool true] 4)).drew = w5 at *
          obtain ⟨kvs, hk1, hk2, hk3, hk4, hk5⟩ := hro5
          obtain ⟨akvs, ha1, ha2, ha3⟩ := hk4
          have HK1 := Lib.hid hk1
          have HK2 := Lib.hid hk2
          have HK3 := Lib.hid hk3
          have HK5 : Hid (∀ g, (Value.slice ab acc.length ac).ownBlock = some g → go ≠ g) := Lib.hid (fun g e e2 => hk5 g e (by rw [e2]; rfl))
          have HA1 := Lib.hid ha1
          have HA2 := Lib.hid ha2
          have HA3 := Lib.hid ha3
          have HB5 := Lib.hid hb5
          have HZB5 : Hid (W.heap.size ≤ w5.heap.size) := Lib.hid hb5.size
          have HLA : Hid (∀ g, (Value.slice ab acc.length ac).ownBlock = some g → W.heap.size ≤ g) := Lib.hid (fun g e => (ha2.lt g e).1)
          have HGO : Hid (W.heap.size ≤ go ∧ go < w5.heap.size) := Lib.hid (hk2.lt go rfl)
          have HNO : Hid ((Value.slice ab acc.length ac).ownBlock ≠ some go) := Lib.hid (fun e => HK5.out go e rfl)
          have HGW : Hid (g < W.heap.size) := Lib.hid hg
          have HAF : Hid ((flatF acc akvs).length = acc.length * 7) := Lib.hid (flatF_length ha1)
          have eo : w5.cell? ⟨go, ps.length, none⟩ = some (.slice ab acc.length ac) := by
            rw [hk2.cellAt _ (by omega), List.getElem?_append_right (by omega), hk1, Nat.sub_self]
            rfl
          have fo : w5.frozen? ⟨go, ps.length, none⟩ = false := hk2.frozenAt _
          have hcc := HCW.out w5 hb5
          have c0 : w5.cell? ⟨g, o + k * 7, none⟩ = some (.int .i64 x.tok.1) := hcc 0 _ rfl
          have c1 : w5.cell? ⟨g, o + k * 7 + 1, none⟩ = some (.int .i64 x.tok.2.1) := hcc 1 _ rfl
          have c2 : w5.cell? ⟨g, o + k * 7 + 2, none⟩ = some (.string x.tok.2.2.1) := hcc 2 _ rfl
          have c3 : w5.cell? ⟨g, o + k * 7 + 3, none⟩ = some (.int .i64 x.tok.2.2.2.1) := hcc 3 _ rfl
          have c4 : w5.cell? ⟨g, o + k * 7 + 4, none⟩ = some (.int .i64 x.tok.2.2.2.2) := hcc 4 _ rfl
          have c5 : w5.cell? ⟨g, o + k * 7 + 5, none⟩ = some (.string x.opn) := hcc 5 _ rfl
          have c6 : w5.cell? ⟨g, o + k * 7 + 6, none⟩ = some (.slice ka x.kids.length kc) := hcc 6 _ rfl
          have w7' : IntKind.i64.wrap ((ps.length : Int) + 1 - 1) = (ps.length : Int) := by rw [show (ps.length : Int) + 1 - 1 = (ps.length : Int) by omega]; exact IntWalk.i64_in _ (by omega)
          have w8' : IntKind.i64.wrap (ps.length : Int) = (ps.length : Int) := IntWalk.i64_in _ (by omega)
          have hml : (ps.length : Int) < (ps.length : Int) + 1 := by omega
          have hal : (acc.length : Int) < (acc.length : Int) + 1 := by omega
          have hgo5 : go < w5.heap.size := HGO.out.2
          have hg5 : g < w5.heap.size := by have := HZB5.out; omega
          have HM0 : Hid (acc.length + 1 ≤ maxLen) := Lib.hid (by unfold maxLen; omega)
          have HM1 : Hid ((acc.length + 1) * 88 ≤ 140737488355328) := Lib.hid (by omega)
          have HKW := Lib.hid (HKV.out w5 hb5)
          clear hk1 hk2 hk3 hk5 ha1 ha2 ha3 hb5 hcc
          go_region_law (refine step_append_lies _ rfl (.tmp 34) (.tmp 40) 25 rfl W.heap.size 52 j0 _ 7 88 Tryz.underlying25 hj jz0 jz1 jz2 (by rfl) (by omega) (.slice ab acc.length ac) acc.length (flatF acc akvs) (by rfl) (own_belo HA2.out (by first | exact ((Below.refl w5.heap.size w5).alloc (Nat.le_refl _) _).drew | exact (Below.refl w5.heap.size w5).drew.alloc (Nat.le_refl _) _ | exact (Below.refl w5.heap.size w5).alloc (Nat.le_refl _) _)) ⟨w5.heap.size, 0, none⟩ 1 1 [.int .i64 0, .int .i64 0, .string ⟨#[]⟩, .int .i64 0, .int .i64 0, .string ⟨#[]⟩, .slice none 0 0] (by rfl) (by rfl) (World.news_of_block (cs := #[.int .i64 0, .int .i64 0, .string ⟨#[]⟩, .int .i64 0, .int .i64 0, .string ⟨#[]⟩, .slice none 0 0]) (t := 52) (fr := (0, 0)) (by first | exact heap_alloc_new w5 _ | exact heap_alloc_new w5.drew _)) (by simp [Value.oneCell']) (by omega) HM0.out HM1.out (by have := HZB5.out; simp; omega) (w5.heap.size + 1) (by simp) ?_; intro g6 cap6 w6 hown6 hgrow6 hat6 hlt6; have HOWN6 := Lib.hid hown6; have HFAR : Hid (FarP w5 w6 (.slice ab acc.length ac)) := Lib.hid ⟨_, (by first | exact ((Below.refl w5.heap.size w5).alloc (Nat.le_refl _) _).drew | exact (Below.refl w5.heap.size w5).drew.alloc (Nat.le_refl _) _ | exact (Below.refl w5.heap.size w5).alloc (Nat.le_refl _) _), (by simp), hgrow6⟩; have HAT6 := Lib.hid hat6; have HG6 : Hid (g6 ≠ go ∧ g6 ≠ g ∧ W.heap.size ≤ g6) := Lib.hid (by rcases hat6 with e | e; exact ⟨fun e2 => HK5.out g6 e e2.symm, fun e2 => by have := HLA.out g6 e; have := HGW.out; omega, HLA.out g6 e⟩; have := HGO.out; have := HGW.out; have := HZB5.out; exact ⟨by omega, by omega, by omega⟩); have HGB : Hid (w6.heap[go]? = w5.heap[go]?) := Lib.hid (HFAR.out.block HGO.out.2 HNO.out); have eo6 : w6.cell? ⟨go, ps.length, none⟩ = some (.slice ab acc.length ac) := (World.cell?_of_block (w := w5) (a := ⟨go, ps.length, none⟩) HGB.out).trans eo; have fo6 : w6.frozen? ⟨go, ps.length, none⟩ = false := (World.frozen?_of_block (w := w5) (a := ⟨go, ps.length, none⟩) HGB.out).trans fo; have hcc6 := HCW.out w6 (HFAR.out.belo HB5.out HZB5.out HLA.out); have y0 : w6.cell? ⟨g, o + k * 7, none⟩ = some (.int .i64 x.tok.1) := hcc6 0 _ rfl; have y1 : w6.cell? ⟨g, o + k * 7 + 1, none⟩ = some (.int .i64 x.tok.2.1) := hcc6 1 _ rfl; have y2 : w6.cell? ⟨g, o + k * 7 + 2, none⟩ = some (.string x.tok.2.2.1) := hcc6 2 _ rfl; have y3 : w6.cell? ⟨g, o + k * 7 + 3, none⟩ = some (.int .i64 x.tok.2.2.2.1) := hcc6 3 _ rfl; have y4 : w6.cell? ⟨g, o + k * 7 + 4, none⟩ = some (.int .i64 x.tok.2.2.2.2) := hcc6 4 _ rfl; have y5 : w6.cell? ⟨g, o + k * 7 + 5, none⟩ = some (.string x.opn) := hcc6 5 _ rfl; have y6 : w6.cell? ⟨g, o + k * 7 + 6, none⟩ = some (.slice ka x.kids.length kc) := hcc6 6 _ rfl; clear hcc6; have zx := HAF.out; have z0 : w6.cell? ⟨g6, acc.length * 7, none⟩ = some (.int .i64 0) := app_cell HOWN6.out zx (j := 0) rfl (by omega); have z1 := app_cell HOWN6.out zx (j := 1) rfl (by omega); have z2 := app_cell HOWN6.out zx (j := 2) rfl (by omega); have z3 := app_cell HOWN6.out zx (j := 3) rfl (by omega); have z4 := app_cell HOWN6.out zx (j := 4) rfl (by omega); have z5 := app_cell HOWN6.out zx (j := 5) rfl (by omega); have z6 := app_cell HOWN6.out zx (j := 6) rfl (by omega); clear zx; have fz6 := HOWN6.out.frozenAt; have n1 : ¬ g6 = go := HG6.out.1; have n2 : ¬ go = g6 := fun e => HG6.out.1 e.symm; have n3 : ¬ g = go := fun e => (by have := HGO.out.1; have := HGW.out; omega); have n4 : ¬ go = g := fun e => n3 e.symm; clear hown6 hgrow6 hat6 hlt6)
          all_goals go_wp2_with fail
          all_goals exact ⟨⟨k + 1, by simp, Lib.hid ⟨by omega, ((HFAR.out.belo HB5.out HZB5.out HLA.out).setCell (p := ⟨go, ps.length, none⟩) HGO.out.1 _).trans ((keep7 _ g6 _ _ _ _ _ _ _ _ (Q := fun b => b = g6) rfl).below (fun b e => by rw [e]; exact HG6.out.2.2) (by have := (HFAR.out.belo HB5.out HZB5.out HLA.out).size; simpa [World.setCell] using this)), ps, acc ++ [x], .slice (some ⟨g6, 0, none⟩) (acc.length + 1) cap6, HSP.out, rs_store HS.out HK1.out HK2.out HK3.out HK5.out HA1.out HA3.out HKW.out HLA.out HZB5.out HFAR.out HAT6.out (((KeepS.refl _ w6).setCell (.inr rfl) _ _).trans (keep7 _ g6 _ _ _ _ _ _ _ _ (.inl rfl))) (row_filled (ownsRow_block HOWN6.out (Below.heap_setCell _ _ _ _ HG6.out.1)) HAF.out _ _ _ _ _ _ _) (ownsRow_block (out_stored HK1.out HK2.out HGB.out _) ((keep7 _ g6 _ _ _ _ _ _ _ _ (Q := fun b => b = g6) rfl).block go (by have := HFAR.out.size; have := HGO.out.2; simp [World.setCell]; omega) (fun e => HG6.out.1 e.symm))), by have := HPS.out; omega, by have := HAC.out; simp; omega⟩⟩, by simp only [intOf]; omega⟩
    · have hlt' : ((k : Int) < (l.length : Int)) = False := by simp; omega
      have hkl : k = l.length := by omega
      subst hkl
      rw [List.drop_length] at hsp
      have hpv := hro.pval
      have e1 : ps ++ [acc] = splitM s l := hsp
      rw [e1] at hpv
      have HPV := Lib.hid hpv
      have HBE := Lib.hid hbe
      clear hr hbe hsp hro hpv e1
      go_wp2_with fail
      exact bodyPost_ret (v := u5) (by simp [results, Tryz.results30, go_sem]) rfl ⟨_, rfl, HPV.out, HBE.out⟩
end

section
open Go.RowKit

set_option maxRecDepth 100000 in
set_option maxHeartbeats 8000000 in
theorem alikeLL_any (P P' : Nat → Prop) (ls : List (List Fg)) (va vb : Value) (W : World) (hva : PVal W P va ls) (hvb : PVal W P' vb ls) (hn : ls.length ≤ 140737488351232) (hle : ∀ p ∈ ls, p.length ≤ 140737488351232 ∧ FgsLe 140737488351232 p) :
    Calls Tryz.prog 28 #[va, vb] W fun e w' => e = .returned (.bool true) ∧ Below W.heap.size W w' := by
  obtain ⟨ba, ca, rfl, ha⟩ := hva
  obtain ⟨bb, cb, rfl, hb⟩ := hvb
  have HA := Lib.hid ha
  have HB := Lib.hid hb
  have HLE := Lib.hid hle
  clear ha hb hle
  go_enter Tryz.func28, Tryz.ntmps28
  go_wp2_with fail
  go_loopw [5] (fun iv wr => ∃ k : Nat, iv = .int .i64 (k : Int) ∧ Hid (k ≤ ls.length ∧ Below W.heap.size W wr)) (fun iv _ => ls.length - (intOf iv).toNat)
  case atStart => exact ⟨0, rfl, Lib.hid ⟨Nat.zero_le _, Below.refl _ _⟩⟩
  case round =>
    obtain ⟨k, rfl, hr⟩ := hrel
    obtain ⟨hk, hbe⟩ := hr.out
    have w3' : IntKind.i64.wrap ((k : Int) + 1) = (k : Int) + 1 := IntWalk.i64_in _ (by omega)
    by_cases hlt : k < ls.length
    · obtain ⟨p, hp⟩ : ∃ p, ls[k]? = some p := ⟨_, List.getElem?_eq_getElem hlt⟩
      obtain ⟨g, o, rfl, hg, hcs⟩ := HA.out (by rintro rfl; simp at hlt)
      obtain ⟨g', o', rfl, hg', hcs'⟩ := HB.out (by rintro rfl; simp at hlt)
      obtain ⟨u, hu, pa, pc, rfl, hpr⟩ := hcs k p hp
      obtain ⟨u', hu', pa', pc', rfl, hpr'⟩ := hcs' k p hp
      have hp1 : FVal W P (.slice pa p.length pc) p := ⟨pa, pc, rfl, hpr⟩
      have hp2 : FVal W P' (.slice pa' p.length pc') p := ⟨pa', pc', rfl, hpr'⟩
      have hpl := HLE.out p (List.mem_of_getElem? hp)
      have HCL : Hid (∀ w, Below W.heap.size W w → Calls Tryz.prog 14 #[.slice pa p.length pc, .slice pa' p.length pc', .bool false] w (AlPost true w)) := Lib.hid (fun w hb => by
        have := alike_any false P P' p p _ _ w (hp1.below hb) (hp2.below hb) hpl.1 hpl.2
        rwa [(sameL_eq p p).2 rfl] at this)
      have e0 : wr.cell? ⟨g, o + k, none⟩ = some (.slice pa p.length pc) := (hbe.cell (p := ⟨g, o + k, none⟩) hg).trans hu
      have e1 : wr.cell? ⟨g', o' + k, none⟩ = some (.slice pa' p.length pc') := (hbe.cell (p := ⟨g', o' + k, none⟩) hg').trans hu'
      have hlt' : (k : Int) < (ls.length : Int) := by omega
      have HBE := Lib.hid hbe
      clear hr hbe hcs hcs' hu hu' hpr hpr' hp1 hp2 hpl hp
      go_wp2_with fail
      go_region_law (go_simp; go_at_call 14; refine (HCL.out _ (by first | exact HBE.out.drew | exact HBE.out)).mono ?_; rintro e w4 ⟨rfl, hb4⟩; have HB4 : Hid (Below W.heap.size W w4) := Lib.hid (HBE.out.trans ((below_undrew hb4).mono (by have := HBE.out.size; simp; omega))); clear hb4)
      all_goals go_wp2_with fail
      all_goals exact ⟨⟨k + 1, by simp, Lib.hid ⟨by omega, HB4.out⟩⟩, by simp only [intOf]; omega⟩
    · have hlt' : ((k : Int) < (ls.length : Int)) = False := by simp; omega
      have HBE := Lib.hid hbe
      clear hr hbe
      go_wp2_with fail
      exact bodyPost_ret (v := .bool true) (by simp [results, Tryz.results28, go_sem]) rfl ⟨rfl, HBE.out⟩
end

end Go.Proofs.YtafncodigpjkaaaGreatDoor
