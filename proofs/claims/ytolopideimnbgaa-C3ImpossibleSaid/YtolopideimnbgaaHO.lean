/-
  slices.Values over lists, and what it yields; Merge.
-/
import Derived.Test.YtolopideimnbgaaHN
namespace Go.Proofs.Ytolopideimnbgaa
open Go.RowKit

/-- While lists are yielded. -/
def VLoop (J : (Nat → Prop) → List Nms → World → Prop) (LL : List Nms) (W : World) (k : Nat) (wr : World) : Prop :=
  k ≤ LL.length ∧ Below W.heap.size W wr ∧ ∃ Q, J Q (LL.take k) wr ∧ ∀ b, Q b → W.heap.size ≤ b
theorem pre_take {LL : List Nms} {k : Nat} {l : Nms} (h : LL[k]? = some l) : LL.take k ++ [l] <+: LL := by
  have e : LL.take (k + 1) = LL.take k ++ [l] := by rw [List.take_add_one, h]; rfl
  rw [← e]; exact List.take_prefix _ _
set_option maxRecDepth 100000 in
set_option maxHeartbeats 4000000 in
theorem values_it (cb kb : Nat) (v : Value) (LL : List Nms) (W : World) (hbox : W.cell? ⟨cb, 0, none⟩ = some v) (hcb : cb < W.heap.size) (hrow : LRow W (fun b => b ≠ kb) v LL) (hn : LL.length ≤ 1000)
    (n lp : Nat) (J : (Nat → Prop) → List Nms → World → Prop) (Q0 : Nat → Prop) (W1 : World) (hY : YOk kb lp J LL) (hJ0 : J Q0 [] W1) (hB : Below W.heap.size W W1) (hQ0 : ∀ b, Q0 b → W.heap.size ≤ b) :
    CallsIn Fence.wide n Try.prog 78 (#[.func (.yield lp) #[] #[]] ++ #[.pointer (some ⟨cb, 0, none⟩)]) W1 (ItPost J LL (fun _ _ => True) (fun _ _ _ => False)) := by
  obtain ⟨b, c, rfl, hrw⟩ := hrow
  have c0 := (hB.cell (p := ⟨cb, 0, none⟩) hcb).trans hbox
  have HY := Lib.hid hY
  have HV0 : Hid (VLoop J LL W 0 W1) := Lib.hid ⟨by omega, hB, Q0, by rw [List.take_zero]; exact hJ0, hQ0⟩
  clear hY hJ0 hQ0 hB hbox
  refine callsIn_of_wp Try.func78 rfl trivial ?_
  simp only [Try.ntmps78, List.size_toArray, List.length_cons, List.length_nil, Nat.reduceAdd, Nat.reduceSub, Array.replicate_succ,
     Array.replicate_zero, List.push_toArray, List.append_toArray, List.nil_append, List.cons_append]
  gi_wp2_with fail
  gi_loopw [7] (fun iv wr => ∃ k : Nat, iv = .int .i64 (k : Int) ∧ Hid (VLoop J LL W k wr)) (fun iv _ => LL.length - (intOf iv).toNat)
  case atStart => exact ⟨0, rfl, HV0⟩
  case round =>
    obtain ⟨k, rfl, hst⟩ := hrel
    obtain ⟨hk, hbe, Q, hj, hq⟩ := hst.out
    have w3 : IntKind.i64.wrap ((k : Int) + 1) = (k : Int) + 1 := IntWalk.i64_in _ (by omega)
    by_cases hlt : k < LL.length
    · obtain ⟨l, hl⟩ : ∃ l, LL[k]? = some l := ⟨_, List.getElem?_eq_getElem hlt⟩
      obtain ⟨g, o, rfl, hqg, hg, hat, _⟩ := hrw (by rintro rfl; simp at hlt)
      obtain ⟨u, hu, hsr⟩ := hat k l hl
      have e0 := (hbe.cell (p := ⟨g, o + k, none⟩) hg).trans hu
      have hsr2 : SRow wr (fun b => ¬ Q b ∧ b ≠ kb) u l := (hsr.mono (Q' := fun b => b ≠ kb ∧ b < W.heap.size) fun b hb h => ⟨h, hb⟩).keep (fun b hb _ => hbe.block b hb.2) hbe.size |>.mono fun b _ h => ⟨fun hh => by have := hq b hh; omega, h.1⟩
      have hy := HY.out (n - 1) Q (LL.take k) l u wr (pre_take hl) hj hsr2
      obtain ⟨fn, tmps, assign, body, hy1, hR⟩ := hy
      have HNX : Hid (∀ w', (∃ Q', J Q' (LL.take k ++ [l]) w' ∧ Kp Q Q' wr w') → VLoop J LL W (k + 1) w') := Lib.hid fun w' h => by
        obtain ⟨Q', h1, h2⟩ := h
        have e : LL.take (k + 1) = LL.take k ++ [l] := by rw [List.take_add_one, hl]; rfl
        exact ⟨hlt, hbe.trans (h2.keep.below hq hbe.size), Q', by rw [e]; exact h1, fun b hb => (h2.more b hb).elim (hq b) fun h => by have := hbe.size; omega⟩
      have hk2 : (k : Int) < (LL.length : Int) := by omega
      have HRD := Lib.hid hR
      clear hst hbe hj hq hat hu hsr hsr2 hR
      gi_wp2_with fail
      refine ⟨fun h => by simp [Fence.wide] at h, ?_⟩
      refine HRD.out.mono ?_
      rintro e w4 ⟨rfl, h4⟩
      have H4 := Lib.hid (HNX.out w4 h4)
      clear h4 hy1 HRD
      gi_wp2_with fail
      exact ⟨⟨k + 1, by simp, H4⟩, by simp only [intOf]; omega⟩
    · have hk2 : ((k : Int) < (LL.length : Int)) = False := by simp; omega
      have HE : Hid (∃ Q', J Q' LL wr ∧ True) := Lib.hid ⟨Q, by rw [List.take_of_length_le (by omega)] at hj; exact hj, trivial⟩
      clear hst hbe hj hq
      gi_wp2_with fail
      exact bodyPost_end (results_none rfl _ _ _) rfl (.inl ⟨rfl, HE.out⟩)
theorem values_any (a : Option Addr) (n c : Nat) (W : World) : Calls Try.prog 54 #[.slice a n c] W fun e w' => e = .returned (.func (.func 78) #[] #[.pointer (some ⟨W.heap.size, 0, none⟩)]) ∧ w' = W.alloc (.cells #[.slice a n c] 31) := by
  go_enter Try.func54, Try.ntmps54
  go_wp2_with fail
  exact bodyPost_ret (v := .func (.func 78) #[] #[.pointer (some ⟨W.heap.size, 0, none⟩)]) (by simp [results, Try.results54, go_sem]) rfl ⟨rfl, rfl⟩
theorem enters_values : ∀ args w, (callFunc 78 args).run Try.prog w = .ok (.enter 78 args) w := enters_of Try.func78 (by kernel_rfl) rfl
/-- A merger of given lists. -/
theorem newOf_any (a : Option Addr) (c : Nat) (LL : List Nms) (W : World) (hrow : LRow W (fun _ => True) (.slice a LL.length c) LL) (hLL : totM LL ≤ 1073741824) (hLn : LL.length ≤ 1000) :
    Calls Try.prog 53 #[.func (.func 78) #[] #[.pointer (some ⟨W.heap.size, 0, none⟩)]] (W.alloc (.cells #[.slice a LL.length c] 31)) fun e w' =>
      ∃ mb bm, e = .returned (.pointer (some ⟨mb, 0, none⟩)) ∧ Below W.heap.size W w' ∧ W.heap.size ≤ mb ∧ W.heap.size ≤ bm ∧ MgAt w' mb bm (fun b => b ≠ mb ∧ b ≠ bm) (nonE LL) := by
  have hb := (Below.refl W.heap.size W).alloc (Nat.le_refl _) (.cells #[.slice a LL.length c] 31)
  have hz : (W.alloc (.cells #[.slice a LL.length c] 31)).heap.size = W.heap.size + 1 := by simp
  have hrow2 : LRow (W.alloc (.cells #[.slice a LL.length c] 31)) (fun b => b ≠ W.heap.size) (.slice a LL.length c) LL := ((hrow.mono (Q' := fun b => b < W.heap.size) fun b hb _ => hb).below hb).mono fun b _ h => by omega
  have h := newMerger_run 78 #[.pointer (some ⟨W.heap.size, 0, none⟩)] W.heap.size LL (W.alloc (.cells #[.slice a LL.length c] 31)) (fun _ _ => True) (fun _ _ _ => False) enters_values (by omega) hLL hLn
    (fun n lp J Q W1 _ hY hJ hB hQ => values_it W.heap.size W.heap.size _ LL _ (by rw [cellOf (heap_alloc_new W _)]; rfl) (by omega) hrow2 hLn n lp J Q W1 hY hJ hB hQ) (fun _ _ _ h _ => h) (fun _ _ _ _ h _ => h)
  refine (callsIn_wide.1 h).mono ?_
  rintro e w' ⟨hk, ⟨rfl, hm, _⟩ | ⟨_, _, _, _, h⟩⟩
  · refine ⟨_, _, rfl, ?_, by omega, by omega, hm⟩
    have hs := hk.size
    exact ⟨hk.os.trans hb.os, hk.tape.trans hb.tape, hk.output.trans hb.output, by omega, fun b hlt => (hk.block b (by omega) (by omega)).trans (hb.block b hlt)⟩
  · exact h.elim
end Go.Proofs.Ytolopideimnbgaa
