/-
  The end of a row is reversed; the cycle of a merger that is stuck.
-/
import Derived.Test.YtolopideimnbgaaHV
namespace Go.Proofs.Ytolopideimnbgaa
open Go.RowKit

theorem Keep.setCells {S : Nat → Prop} {x : World} {b : Nat} (hb : S b ∨ x.heap.size ≤ b) : ∀ (vs : List Value) (o : Nat) (w : World), Keep S x w → Keep S x (w.setCells b o vs)
  | [], _, _, h => h
  | v :: vs, o, _, h => Keep.setCells hb vs (o + 1) _ (h.setCell hb o v)
theorem subS_at {g o n c b : Nat} (h : b < c) : subS (some ⟨g, o, none⟩) n c b = .slice (some ⟨g, o + b, none⟩) (n - b) (c - b) := by
  unfold subS
  rw [if_neg (by omega)]
  by_cases hz : b = 0
  · subst hz; simp [Addr.add]
  · simp [Addr.add, hz]
theorem rev_enc (Sx : Nat → ByteArray) (n : Nat) : (Lib.strsOf Sx n).reverse.map encStr = (((List.range n).map Sx).reverse).map Value.string := by
  unfold Lib.strsOf
  rw [← List.map_reverse, ← List.map_reverse, List.map_map, List.map_map]
  refine List.map_congr_left fun i _ => ?_
  simp [encStr]
theorem range_get (r : Nms) : (List.range r.length).map (fun j => r.getD j ⟨#[]⟩) = r := by
  apply List.ext_getElem?
  intro i
  rw [List.getElem?_map]
  by_cases h : i < r.length
  · simp [h, List.getD]
  · simp [h]
theorem rev_tail {W : World} {base g cap : Nat} {t : Nms} (h : SOwn W base (.slice (some ⟨g, 0, none⟩) t.length cap) t) {i : Nat} {y : ByteArray} {r : Nms} (hd : t.drop i = y :: r) (hz : t.length ≤ 1073741824) :
    ∃ c1, subS (some ⟨g, 0, none⟩) t.length cap i = .slice (some ⟨g, i, none⟩) (r.length + 1) c1 ∧ ∃ a2 c2, subS (some ⟨g, i, none⟩) (r.length + 1) c1 1 = .slice a2 r.length c2 ∧
      Calls Try.prog 82 #[.slice a2 r.length c2] W fun e w' => e = .returned (.tuple #[]) ∧ Keep (fun b => b = g) W w' ∧ SRow w' (fun b => b = g) (.slice (some ⟨g, i, none⟩) (r.length + 1) c1) (y :: r.reverse) := by
  have hlen : t.length = i + r.length + 1 := by
    have := congrArg List.length hd
    rw [List.length_drop] at this
    simp at this; omega
  have hs := h.srow
  obtain ⟨_, hcap⟩ : ∃ _ : True, t.length ≤ cap := by
    obtain ⟨_, _, e, hh⟩ := id hs
    cases e
    obtain ⟨_, _, _, _, _, _, hc⟩ := hh (by rintro rfl; simp at hlen)
    exact ⟨trivial, hc⟩
  have hg : g < W.heap.size := (h.lt g rfl).2
  have hfro : ∀ j, W.frozen? ⟨g, j, none⟩ = false := by
    obtain ⟨_, h2⟩ := id h
    rcases h2 with ⟨e, _⟩ | ⟨g', cap', cur, e, _, h4, _⟩
    · cases e
    · cases e
      exact fun j => frozenOf h4
  have hs1 := SRow.sub hs (b := i) (by omega)
  rw [subS_at (by omega), hd] at hs1
  have e1 : t.length - i = r.length + 1 := by omega
  rw [e1, Nat.zero_add] at hs1
  refine ⟨cap - i, by rw [subS_at (by omega), e1, Nat.zero_add], ?_⟩
  have hat : SAt W g i (y :: r) := by
    obtain ⟨_, _, e, hh⟩ := id hs1
    cases e
    obtain ⟨_, _, e', _, _, hat, _⟩ := hh (by simp)
    cases e'
    exact hat
  cases r with
  | nil =>
    obtain ⟨a', ha'⟩ := subS_parts (some ⟨g, i, none⟩) 1 (cap - i) 1
    refine ⟨a', cap - i - 1, ha', (Try.slices_Reverse_string_empty a' (cap - i - 1) W).mono ?_⟩
    rintro e w' ⟨rfl, rfl⟩
    refine ⟨rfl, Keep.refl _ _, ⟨_, _, rfl, fun _ => ⟨g, i, rfl, rfl, hg, hat, ?_⟩⟩⟩
    show 1 ≤ cap - i
    omega
  | cons z r =>
    refine ⟨some ⟨g, i + 1, none⟩, cap - i - 1, by rw [subS_at (by simp at hlen; omega)]; rfl, ?_⟩
    obtain ⟨R, hR⟩ : ∃ R, z :: r = R := ⟨_, rfl⟩
    rw [hR] at hd hlen hs1 hat e1 ⊢
    clear hR
    refine (Try.slices_Reverse_string_cells g (i + 1) R.length (cap - i - 1) (fun j => R.getD j ⟨#[]⟩) W (by omega) (fun j hj => ?_) fun j _ => hfro _).mono ?_
    · have := hat (j + 1) (R[j]'hj) (by simp)
      rw [show i + (j + 1) = i + 1 + j by omega] at this
      simpa [List.getD, hj] using this
    · rintro e w' ⟨rfl, q, rfl⟩
      rw [rev_enc, range_get]
      have k1 : Keep (fun b => b = g) W ((W.drewN q).setCells g (i + 1) (R.reverse.map Value.string)) := Keep.setCells (S := fun b => b = g) (.inl rfl) _ _ _ ((Keep.refl _ W).drew q)
      refine ⟨rfl, k1, some ⟨g, i, none⟩, cap - i, by rw [List.length_cons, List.length_reverse], fun _ => ⟨g, i, rfl, rfl, by have := k1.size; omega, fun j x hj => ?_, by show R.reverse.length + 1 ≤ _; rw [List.length_reverse]; omega⟩⟩
      cases j with
      | zero =>
        cases hj
        rw [World.cell?_setCells_out g _ _ _ _ (fun _ _ => by left; show i + 0 < i + 1; omega)]
        exact hat 0 y rfl
      | succ j =>
        have hj' : R.reverse[j]? = some x := hj
        obtain ⟨hl, hx⟩ := List.getElem?_eq_some_iff.1 hj'
        have := World.cell?_setCells_in g (R.reverse.map Value.string) (i + 1) (W.drewN q) (fun k hk => by
          have hk' : k < R.length := by simpa using hk
          have := hat (k + 1) (R[k]'hk') (by simp)
          rw [show i + (k + 1) = i + 1 + k by omega] at this
          show (W.cell? ⟨g, i + 1 + k, none⟩).isSome = true
          rw [this]; rfl) j (by simpa using hl)
        rw [show i + (j + 1) = i + 1 + j by omega, this]
        simp [← hx]
theorem idxFrom_mem (x : ByteArray) : ∀ (zs : Nms) (i : Nat), x ∈ zs → ∃ k, k < zs.length ∧ Lib.idxFromS zs x i = ((i + k : Nat) : Int) ∧ zs[k]? = some x
  | [], _, h => by cases h
  | z :: zs, i, h => by
    by_cases e : z = x
    · exact ⟨0, by simp, by simp [Lib.idxFromS, e], by simp [e]⟩
    · obtain ⟨k, h1, h2, h3⟩ := idxFrom_mem x zs (i + 1) (by
        cases h with
        | head => exact absurd rfl e
        | tail _ h => exact h)
      exact ⟨k + 1, by simp; omega, by simp [Lib.idxFromS, e, h2]; omega, by simpa using h3⟩
theorem ixM_mem {x : ByteArray} {l : Nms} (h : x ∈ l) : ∃ k, k < l.length ∧ ixM l x = (k : Int) ∧ l[k]? = some x := by
  obtain ⟨k, h1, h2, h3⟩ := idxFrom_mem x l 0 h
  exact ⟨k, h1, by unfold ixM Lib.idxOfS; rw [h2]; omega, h3⟩
/-- What stands at the front of a list. -/
def heads (ls : List Nms) : Nms := ls.map fun l => l.headD ⟨#[]⟩
theorem head_mem {ls : List Nms} {y : ByteArray} {t : Nms} (h : (y :: t) ∈ ls) : y ∈ heads ls := List.mem_map.2 ⟨_, h, rfl⟩
theorem head_behind {ls : List Nms} (hs : Stuck ls) {x : ByteArray} (h : x ∈ heads ls) : ∃ l ∈ ls, x ∈ l.tail := by
  obtain ⟨l, h1, rfl⟩ := List.mem_map.1 h
  cases l with
  | nil => exact absurd rfl (hs.full _ h1)
  | cons y t => exact hs.behind y t h1
theorem ahM_head {ls : List Nms} {x : ByteArray} (h : ∃ l ∈ ls, x ∈ l.tail) : ahM ls x ∈ heads ls := by
  obtain ⟨k, t, h1, _⟩ := ahM_find h
  exact head_mem (List.mem_iff_getElem?.2 ⟨k, h1⟩)
/-- The loop of cycle. -/
structure YLoop (ls : List Nms) (x0 : ByteArray) (W : World) (v : Value) (x : ByteArray) (tr : Nms) (wr : World) : Prop where
  own : SOwn wr W.heap.size v tr
  below : Below W.heap.size W wr
  eq : ∃ n, trM ls (ls.length + 1) [] x0 = trM ls n tr x ∧ n + tr.length = ls.length + 1
  nodup : tr.Nodup
  hd : ∀ y ∈ tr, y ∈ heads ls
  mem : x ∈ heads ls
theorem YLoop.len {ls : List Nms} {x0 : ByteArray} {W : World} {v : Value} {x : ByteArray} {tr : Nms} {wr : World} (h : YLoop ls x0 W v x tr wr) : tr.length ≤ ls.length := by
  have := length_sub tr (heads ls) h.nodup h.hd
  unfold heads at this
  rwa [List.length_map] at this
theorem YLoop.more {ls : List Nms} {x0 : ByteArray} {W : World} {v : Value} {x : ByteArray} {tr : Nms} {wr : World} (h : YLoop ls x0 W v x tr wr) (hx : ¬ x ∈ tr) : tr.length < ls.length ∧ (tr ++ [x]).Nodup := by
  have hn : (tr ++ [x]).Nodup := List.nodup_append.2 ⟨h.nodup, by simp, fun a ha b hb e => hx (by simp at hb; rw [← hb, ← e]; exact ha)⟩
  have := length_sub (tr ++ [x]) (heads ls) hn fun y hy => by
    rcases List.mem_append.1 hy with h1 | h1
    · exact h.hd y h1
    · simp at h1; rw [h1]; exact h.mem
  unfold heads at this
  simp at this
  exact ⟨by omega, hn⟩
set_option maxRecDepth 100000 in
set_option maxHeartbeats 4000000 in
theorem cycle_any (mb bm : Nat) (Q : Nat → Prop) (ls : List Nms) (W : World) (hm : MgAt W mb bm Q ls) (hs : Stuck ls) (hz : totM ls ≤ 1073741824) :
    Calls Try.prog 67 #[.pointer (some ⟨mb, 0, none⟩)] W fun e w' => ∃ v, e = .returned v ∧ Below W.heap.size W w' ∧ SRow w' (fun b => W.heap.size ≤ b) v (cycM ls) := by
  have hmlt := hm.lt
  have hn : ls.length ≤ 1073741824 := by have := totM_len hm.full; omega
  have HM := Lib.hid hm
  have HS := Lib.hid hs
  obtain ⟨v, hblk, hrow⟩ := hm.st
  obtain ⟨vb, vc, rfl, hrw⟩ := hrow
  obtain ⟨l0, hl0⟩ : ∃ l, ls[0]? = some l := ⟨_, List.getElem?_eq_getElem (List.length_pos_iff.2 hs.ne)⟩
  obtain ⟨x0, t0, rfl⟩ : ∃ y t, l0 = y :: t := by
    cases l0 with
    | nil => exact absurd rfl (hs.full _ (List.mem_iff_getElem?.2 ⟨0, hl0⟩))
    | cons y t => exact ⟨y, t, rfl⟩
  obtain ⟨C, hC⟩ : ∃ C, C = cycM ls := ⟨_, rfl⟩
  have HC : Hid (C = cutM (trM ls (ls.length + 1) [] x0).1 (trM ls (ls.length + 1) [] x0).2) := Lib.hid (by
    rw [hC]
    cases ls with
    | nil => cases hl0
    | cons a r => cases hl0; rfl)
  rw [← hC]
  obtain ⟨g, o, rfl, _, _, hat, _⟩ := hrw hs.ne
  obtain ⟨u, hu, hsr⟩ := hat 0 _ hl0
  obtain ⟨ub, uc, rfl, hur⟩ := hsr
  obtain ⟨ug, uo, rfl, _, _, hat3, _⟩ := hur (by simp)
  have e1 : W.cell? ⟨ug, uo, none⟩ = some (.string x0) := hat3 0 _ rfl
  have c0 : W.cell? ⟨mb, 0, none⟩ = some (.slice (some ⟨g, o, none⟩) ls.length vc) := by rw [cellOf hblk]; rfl
  have hlen : (x0 :: t0).length = t0.length + 1 := rfl
  rw [hlen, Nat.add_zero] at hu
  have hlp : (0 : Int) < (ls.length : Int) := by have := List.length_pos_iff.2 hs.ne; omega
  have hlp' : 0 < ls.length := by omega
  have HY0 : Hid (YLoop ls x0 W (.slice none 0 0) x0 [] W) := Lib.hid ⟨SOwn.nil _ _, Below.refl _ _, ⟨_, rfl, rfl⟩, List.nodup_nil, (fun y hy => by cases hy), head_mem (List.mem_iff_getElem?.2 ⟨0, hl0⟩)⟩
  clear hm hs hblk hrw hat hur hat3 hC hl0
  go_enter Try.func67, Try.ntmps67
  go_wp2_with fail
  go_loopw [3, 4] (fun v3 v4 wr => ∃ x a c tr, v3 = .string x ∧ v4 = .slice a tr.length c ∧ Hid (YLoop ls x0 W v4 x tr wr)) (fun _ v4 _ => ls.length - lenOf v4)
  case atStart => exact ⟨x0, none, 0, [], rfl, rfl, HY0⟩
  case round =>
    obtain ⟨x, ta, tc, tr, rfl, rfl, hy⟩ := hrel
    have hct := contains_any x hy.out.own.srow (by have := hy.out.len; omega)
    by_cases hx : x ∈ tr
    · rw [decide_eq_true hx] at hct
      have hl := hy.out.len
      have htl : tr.length ≤ 1073741824 := by omega
      have hix := index_any x hy.out.own.srow (by omega)
      obtain ⟨i, hil, hi, _⟩ := ixM_mem hx
      rw [hi] at hix
      have HCF : Hid (C = cutM tr x) := Lib.hid (by
        obtain ⟨n, h1, h2⟩ := hy.out.eq
        obtain ⟨n, rfl⟩ : ∃ n', n = n' + 1 := ⟨n - 1, by omega⟩
        rw [HC.out, h1]
        unfold trM
        rw [if_pos hx])
      obtain ⟨y, r, hyr⟩ : ∃ y r, tr.drop i = y :: r := ⟨_, _, List.drop_eq_getElem_cons hil⟩
      have HCG : Hid (C = y :: r.reverse) := Lib.hid (by
        rw [HCF.out]
        unfold cutM
        rw [hi]
        show (match tr.drop i with | [] => [] | y :: r => y :: r.reverse) = _
        rw [hyr])
      obtain ⟨g4, hg4⟩ : ∃ g4, ta = some ⟨g4, 0, none⟩ := by
        obtain ⟨_, h2⟩ := hy.out.own
        rcases h2 with ⟨_, e⟩ | ⟨g', cap', cur, e, _⟩
        · omega
        · cases e; exact ⟨_, rfl⟩
      subst hg4
      obtain ⟨c1, hs1, a2, c2, hs2, hrv⟩ := rev_tail hy.out.own hyr htl
      have hr1 := sub_run (some ⟨g4, 0, none⟩) tr.length tc i (by omega)
      have hr2 := sub_run1 (some ⟨g4, i, none⟩) (r.length + 1) c1 (by omega)
      rw [hs1] at hr1
      rw [hs2] at hr2
      have HBW := Lib.hid hy.out.below
      have HGL : Hid (W.heap.size ≤ g4) := Lib.hid (hy.out.own.lt g4 rfl).1
      clear hy hx hs1 hs2 hi hyr
      go_wp2_with fail
      refine hct.mono ?_
      rintro e w' ⟨rfl, rfl⟩
      go_wp2_with fail
      refine hix.mono ?_
      rintro e w' ⟨rfl, rfl⟩
      go_wp2_with fail
      refine hrv.mono ?_
      rintro e w3 ⟨rfl, hk3, hs3⟩
      have HK3 := Lib.hid hk3
      have HS3 := Lib.hid hs3
      clear hk3 hs3
      go_wp2_with fail
      refine bodyPost_ret (v := .slice (some ⟨g4, i, none⟩) (r.length + 1) c1) (by simp [results, Try.results67, go_sem]) rfl ⟨_, rfl, HBW.out.trans (HK3.out.below (fun k e => by have := HGL.out; omega) HBW.out.size), ?_⟩
      rw [HCG.out]
      exact HS3.out.mono fun b _ e => by have := HGL.out; omega
    · rw [decide_eq_false hx] at hct
      obtain ⟨hlt, hnd⟩ := hy.out.more hx
      have HND := Lib.hid hnd
      have HBX : Hid ((wr.alloc (.cells #[.string x] 9)).heap[wr.heap.size]? = some (.cells #[.string x] 9)) := Lib.hid (heap_alloc_new wr _)
      have hbp := (Below.refl _ wr).alloc (Nat.le_refl _) (.cells #[.string x] 9)
      have HO2 := Lib.hid (hy.out.own.below hbp)
      have HB2 : Hid (Below W.heap.size W (wr.alloc (.cells #[.string x] 9))) := Lib.hid (hy.out.below.alloc (by exact hy.out.below.size) _)
      have hbh := head_behind HS.out hy.out.mem
      have HBH := Lib.hid hbh
      have HX := Lib.hid hx
      have HWS : Hid (W.heap.size ≤ wr.heap.size) := Lib.hid hy.out.below.size
      clear hbp hnd hx hbh
      go_wp2_with (first | (at_builtin; go_loud (refine wpList_append_str rfl _ _ rfl W.heap.size (.slice ta tr.length tc) tr (by rfl) HO2.out _ _ x rfl HBX.out (by omega) (by have := HWS.out; simp; omega) _ rfl ?_); intro g6 cap6 w6 hown6 hgrow6 hat6; have HP6 := Lib.hid hown6; have HG6 := Lib.hid hgrow6; have HA6 := Lib.hid hat6; clear hown6 hgrow6 hat6) | fail)
      refine hct.mono ?_
      rintro e w' ⟨rfl, rfl⟩
      go_wp2_with (first | (at_builtin; go_loud (refine wpList_append_str rfl _ _ rfl W.heap.size (.slice ta tr.length tc) tr (by rfl) HO2.out _ _ x rfl HBX.out (by omega) (by have := HWS.out; simp; omega) _ rfl ?_); intro g6 cap6 w6 hown6 hgrow6 hat6; have HP6 := Lib.hid hown6; have HG6 := Lib.hid hgrow6; have HA6 := Lib.hid hat6; clear hown6 hgrow6 hat6) | fail)
      have hb6 : Below W.heap.size W w6 := ((Keep.of_below (S := fun b => W.heap.size ≤ b) HB2.out).trans (Keep.of_grown HG6.out fun k e => (HO2.out.lt k e).1)).below (fun _ h => h) (Nat.le_refl _)
      have HB6 := Lib.hid hb6
      have hah := ahead_any mb bm _ x ls w6 (HM.out.below hb6) HBH.out hz
      clear hb6 hct
      go_wp2_with fail
      refine hah.mono ?_
      rintro e w7 ⟨rfl, hb7⟩
      have HNX : Hid (YLoop ls x0 W (.slice (some ⟨g6, 0, none⟩) (tr.length + 1) cap6) (ahM ls x) (tr ++ [x]) w7) := Lib.hid (by
        have h6 := HP6.out
        refine ⟨SOwn.below (l := tr ++ [x]) h6 hb7, HB6.out.trans (hb7.mono HB6.out.size), ?_, HND.out, fun y hm => ?_, ahM_head HBH.out⟩
        · obtain ⟨n, h1, h2⟩ := hy.out.eq
          obtain ⟨n, rfl⟩ : ∃ n', n = n' + 1 := ⟨n - 1, by omega⟩
          refine ⟨n, ?_, by simp; omega⟩
          rw [h1]
          conv => lhs; unfold trM
          rw [if_neg HX.out]
        · rcases List.mem_append.1 hm with h1 | h1
          · exact hy.out.hd y h1
          · simp at h1; rw [h1]; exact hy.out.mem)
      clear hb7 hah
      go_wp2_with fail
      exact ⟨⟨_, some ⟨g6, 0, none⟩, cap6, tr ++ [x], rfl, by simp, HNX⟩, by simp only [lenOf]; omega⟩
end Go.Proofs.Ytolopideimnbgaa
