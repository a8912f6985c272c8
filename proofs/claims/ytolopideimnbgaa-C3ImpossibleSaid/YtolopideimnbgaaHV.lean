/-
  A cycle of a merger that is stuck: the model; ahead.
-/
import Derived.Test.YtolopideimnbgaaHT
import Derived.Deep.QuietTactic
namespace Go.Proofs.Ytolopideimnbgaa
open Go.RowKit

/-- The first element of the first list in which a name stands behind it. -/
def ahM (ls : List Nms) (x : ByteArray) : ByteArray := match ls.find? (fun l => decide (x ∈ l.tail)) with
  | some (y :: _) => y
  | _ => x
def trM (ls : List Nms) : Nat → Nms → ByteArray → Nms × ByteArray
  | 0, t, x => (t, x)
  | n + 1, t, x => if x ∈ t then (t, x) else trM ls n (t ++ [x]) (ahM ls x)
def cutM (t : Nms) (x : ByteArray) : Nms := match t.drop (ixM t x).toNat with
  | [] => []
  | y :: r => y :: r.reverse
def cycM (ls : List Nms) : Nms := match ls with
  | (x :: _) :: _ => cutM (trM ls (ls.length + 1) [] x).1 (trM ls (ls.length + 1) [] x).2
  | _ => []
/-- No first element is a candidate. -/
structure Stuck (ls : List Nms) : Prop where
  ne : ls ≠ []
  full : ∀ l ∈ ls, l ≠ []
  behind : ∀ y t, (y :: t) ∈ ls → ∃ l ∈ ls, y ∈ l.tail
theorem behM_mem {s : ByteArray} : ∀ ls : List Nms, behM ls s ≠ 0 → ∃ l ∈ ls, s ∈ l.tail
  | [], h => absurd rfl h
  | l :: r, h => by
    by_cases e : cntL s l.tail = 0
    · obtain ⟨l', h1, h2⟩ := behM_mem r (fun e2 => h (by show cntL s l.tail + behM r s = 0; rw [e, e2]))
      exact ⟨l', .tail _ h1, h2⟩
    · exact ⟨l, .head _, Decidable.byContradiction fun e2 => e (cntL_mem.2 e2)⟩
theorem candM_none {all : List Nms} : ∀ ls : List Nms, candM all ls = none → ∀ y t, (y :: t) ∈ ls → behM all y ≠ 0
  | [], _, _, _, h => by cases h
  | [] :: r, h, y, t, hm => by
    cases hm with
    | tail _ hm => exact candM_none r h y t hm
  | (x :: k) :: r, h, y, t, hm => by
    unfold candM at h
    by_cases e : behM all x = 0
    · rw [if_pos e] at h; cases h
    · rw [if_neg e] at h
      cases hm with
      | head => exact e
      | tail _ hm => exact candM_none r h y t hm
/-- What is left of lists. -/
def Left (ls' ls : List Nms) : Prop := ∀ l' ∈ ls', ∃ l ∈ ls, l' <:+ l
theorem take_left (x : ByteArray) (ls : List Nms) : Left (nonE (ls.map (takeL x))) ls := by
  intro l' h
  obtain ⟨l, h1, rfl⟩ := List.mem_map.1 (List.mem_filter.1 h).1
  refine ⟨l, h1, ?_⟩
  cases l with
  | nil => exact List.suffix_refl _
  | cons y t =>
    show (if y = x then t else y :: t) <:+ y :: t
    by_cases e : y = x
    · rw [if_pos e]; exact List.suffix_cons y t
    · rw [if_neg e]; exact List.suffix_refl _
theorem mergeM_stuck : ∀ (n : Nat) (ls ls' : List Nms), totM ls ≤ n → (∀ l ∈ ls, l ≠ []) → mergeM n ls = .error ls' → Stuck ls' ∧ Left ls' ls ∧ totM ls' ≤ totM ls ∧ ls'.length ≤ ls.length
  | 0, ls, ls', hz, hf, h => by
    unfold mergeM at h
    by_cases e : ls = []
    · rw [if_pos e] at h; cases h
    · have := totM_len hf
      have := List.length_pos_iff.2 e
      omega
  | n + 1, ls, ls', hz, hf, h => by
    unfold mergeM at h
    by_cases e : ls = []
    · rw [if_pos e] at h; cases h
    · rw [if_neg e] at h
      cases hc : candM ls ls with
      | none =>
        rw [hc] at h
        cases h
        exact ⟨⟨e, hf, fun y t hm => behM_mem _ (candM_none _ hc y t hm)⟩, fun l hl => ⟨l, hl, List.suffix_refl _⟩, Nat.le_refl _, Nat.le_refl _⟩
      | some x =>
        rw [hc] at h
        simp only at h
        have hlt := totM_lt ls hc
        have hz' : totM (nonE (ls.map (takeL x))) < totM ls := by rw [totM_nonE]; exact hlt
        cases hm : mergeM n (nonE (ls.map (takeL x))) with
        | ok m => rw [hm] at h; cases h
        | error e' =>
          rw [hm] at h
          cases h
          obtain ⟨h1, h2, h3, h4⟩ := mergeM_stuck n _ ls' (by omega) nonE_ne hm
          refine ⟨h1, fun l' hl => ?_, by omega, Nat.le_trans h4 (Nat.le_trans (List.length_filter_le _ _) (by rw [List.length_map]; exact Nat.le_refl _))⟩
          obtain ⟨l, q1, q2⟩ := h2 l' hl
          obtain ⟨k, q3, q4⟩ := take_left x ls l q1
          exact ⟨k, q3, q2.trans q4⟩
theorem ahM_find {ls : List Nms} {x : ByteArray} (h : ∃ l ∈ ls, x ∈ l.tail) : ∃ (k : Nat) (t : Nms), ls[k]? = some (ahM ls x :: t) ∧ x ∈ t ∧ idxB (fun l => decide (x ∈ l.tail)) ls 0 = (k : Int) := by
  have hg : ∀ (r : List Nms) (j : Int), (∃ l ∈ r, x ∈ l.tail) → ∃ (k : Nat) (y : ByteArray) (t : Nms), r[k]? = some (y :: t) ∧ x ∈ t ∧ r.find? (fun l => decide (x ∈ l.tail)) = some (y :: t) ∧ idxB (fun l => decide (x ∈ l.tail)) r j = j + (k : Int) := by
    intro r
    induction r with
    | nil => rintro j ⟨l, h, _⟩; cases h
    | cons a r ih =>
      rintro j ⟨l, h1, h2⟩
      by_cases e : x ∈ a.tail
      · cases a with
        | nil => cases e
        | cons y t => exact ⟨0, y, t, rfl, e, by rw [List.find?_cons_of_pos (p := fun l : Nms => decide (x ∈ l.tail)) (decide_eq_true e)], by unfold idxB; rw [if_pos (decide_eq_true e)]; omega⟩
      · cases h1 with
        | head => exact absurd h2 e
        | tail _ h1 =>
          obtain ⟨k, y, t, q1, q2, q3, q4⟩ := ih (j + 1) ⟨l, h1, h2⟩
          exact ⟨k + 1, y, t, by simpa using q1, q2, by rw [List.find?_cons_of_neg (by simpa using e)]; exact q3, by unfold idxB; rw [if_neg (by simpa using e), q4]; omega⟩
  obtain ⟨k, y, t, q1, q2, q3, q4⟩ := hg ls 0 h
  have : ahM ls x = y := by unfold ahM; rw [q3]
  exact ⟨k, t, by rw [this]; exact q1, q2, by rw [q4]; omega⟩

theorem ahead1_any (fx : Nat) (x : ByteArray) (l : Nms) (Q : Nat → Prop) (u : Value) (W : World) (hr : SRow W Q u l) (hne : l ≠ []) (hn : l.length ≤ 140737488351232) (hc : W.cell? ⟨fx, 0, none⟩ = some (.string x)) :
    Calls Try.prog 88 #[u, .pointer (some ⟨fx, 0, none⟩)] W fun e w' => e = .returned (.bool (decide (x ∈ l.tail))) ∧ Below W.heap.size W w' := by
  obtain ⟨a, c, rfl, _⟩ := id hr
  have hp : 1 ≤ l.length := List.length_pos_iff.2 hne
  have hsub := sub_run1 a l.length c hp
  have hs := SRow.sub hr (b := 1) hp
  obtain ⟨a', ha'⟩ := subS_parts a l.length c 1
  rw [ha'] at hsub hs
  have hcc : ∀ n, Calls Try.prog 50 #[.slice a' (l.length - 1) (c - 1), .string x] (W.drewN n) fun e w' => e = .returned (.bool (decide (x ∈ l.tail))) ∧ w' = W.drewN n := fun n => by
    have := contains_any x (hs.below (below_drewN (Below.refl _ W) n)) (by rw [List.length_drop]; omega)
    rw [List.drop_one] at this
    exact this.mono fun e w' h => ⟨h.1, h.2.symm⟩
  have hz : (1 : Int) ≤ (l.length : Int) := by omega
  generalize decide (x ∈ l.tail) = A at *
  clear hr hs hne
  go_enter Try.func88, Try.ntmps88
  go_wp2_with fail
  go_quiet ((go_at_call 50; exact Calls.quiet_of_same (hcc _)))
  go_wp2_with fail
  exact bodyPost_ret (v := .bool A) (by simp [results, Try.results88, go_sem]) rfl ⟨rfl, below_drewN (Below.refl _ _) _⟩

set_option maxRecDepth 100000 in
theorem indexA2_any (caps : Array Value) (p : Nms → Bool) (ls : List Nms) (Q : Nat → Prop) (v : Value) (W : World) (hr : LRow W Q v ls) (hn : ls.length ≤ 140737488351232)
    (hp : ∀ u l w, l ∈ ls → Below W.heap.size W w → SRow w Q u l → Calls Try.prog 88 (#[u] ++ caps) w fun e w' => e = .returned (.bool (p l)) ∧ Below w.heap.size w w') :
    Calls Try.prog 87 #[v, .func (.func 88) #[] caps] W fun e w' => e = .returned (.int .i64 (idxB p ls 0)) ∧ Below W.heap.size W w' := by
  have HK := Lib.hid hp
  have HR := Lib.hid hr
  obtain ⟨b, c, rfl, _⟩ := hr
  have HB0 : Hid (Below W.heap.size W W) := Lib.hid (Below.refl _ W)
  clear hp
  go_enter Try.func87, Try.ntmps87
  go_wp2_with fail
  go_loopw [8] (fun i wr => ∃ k : Nat, k ≤ ls.length ∧ i = .int .i64 (k : Int) ∧ Hid (idxB p ls 0 = idxB p (ls.drop k) k) ∧ Hid (Below W.heap.size W wr)) (fun i _ => ls.length - (intOf i).toNat)
  case atStart => exact ⟨0, by omega, rfl, Lib.hid (by simp), HB0⟩
  case round =>
    obtain ⟨k, hk, rfl, hi, hb⟩ := hrel
    by_cases hlt : k < ls.length
    · obtain ⟨l, hl⟩ : ∃ l, ls[k]? = some l := ⟨_, List.getElem?_eq_getElem hlt⟩
      obtain ⟨_, _, e, hrow⟩ := HR.out.below hb.out
      cases e
      obtain ⟨g, o, rfl, _, _, hat, _⟩ := hrow (by rintro rfl; simp at hlt)
      obtain ⟨u, e0, hsr⟩ := hat k l hl
      have hl2 : (k : Int) < (ls.length : Int) := by omega
      have w3 : IntKind.i64.wrap ((k : Int) + 1) = (k : Int) + 1 := IntWalk.i64_in _ (by omega)
      have HE := Lib.hid (hi.out.trans (idxB_at (p := p) hl))
      have hks := HK.out u l wr (List.mem_iff_getElem?.2 ⟨k, hl⟩) hb.out hsr
      clear hat hl hi hsr hrow
      by_cases he : p l = true
      · have HN : Hid (idxB p ls 0 = (k : Int)) := Lib.hid (by rw [HE.out, if_pos he])
        rw [he] at hks
        clear he HE
        go_wp2_with fail
        refine hks.mono ?_
        rintro e w' ⟨rfl, hb'⟩
        have HB2 := Lib.hid (hb.out.trans (hb'.mono hb.out.size))
        clear hb'
        go_wp2_with fail
        exact bodyPost_ret (v := .int .i64 (k : Int)) (by simp [results, Try.results87, go_sem]) rfl ⟨by rw [HN.out], HB2.out⟩
      · have HN : Hid (idxB p ls 0 = idxB p (ls.drop (k + 1)) ((k + 1 : Nat) : Int)) := Lib.hid (by rw [HE.out, if_neg he])
        rw [Bool.eq_false_iff.2 he] at hks
        clear he HE
        go_wp2_with fail
        refine hks.mono ?_
        rintro e w' ⟨rfl, hb'⟩
        have HB2 := Lib.hid (hb.out.trans (hb'.mono hb.out.size))
        clear hb'
        go_wp2_with fail
        exact ⟨⟨k + 1, by omega, by go_num, HN, HB2⟩, by simp only [intOf]; omega⟩
    · have hl2 : ((k : Int) < (ls.length : Int)) = False := by simp; omega
      have HN : Hid (idxB p ls 0 = -1) := Lib.hid (by rw [hi.out, List.drop_eq_nil_of_le (by omega)]; rfl)
      go_wp2_with fail
      exact bodyPost_ret (v := .int .i64 (-1)) (by simp [results, Try.results87, go_sem]) rfl ⟨by rw [HN.out], hb.out⟩

theorem ahead_any (mb bm : Nat) (Q : Nat → Prop) (x : ByteArray) (ls : List Nms) (W : World) (hm : MgAt W mb bm Q ls) (hx : ∃ l ∈ ls, x ∈ l.tail) (hz : totM ls ≤ 1073741824) :
    Calls Try.prog 81 #[.pointer (some ⟨mb, 0, none⟩), .string x] W fun e w' => e = .returned (.string (ahM ls x)) ∧ Below W.heap.size W w' := by
  obtain ⟨k, t, hk, _, hix⟩ := ahM_find hx
  obtain ⟨y, hy⟩ : ∃ y, y = ahM ls x := ⟨_, rfl⟩
  rw [← hy]
  rw [← hy] at hk
  clear hy
  obtain ⟨v, hblk, hrow⟩ := hm.st
  have hn : ls.length ≤ 1073741824 := by have := totM_len hm.full; omega
  have hbw := (Below.refl W.heap.size W).alloc (Nat.le_refl _) (.cells #[.string x] 9)
  have hkl := (List.getElem?_eq_some_iff.1 hk).1
  have hcc := indexA2_any #[.pointer (some ⟨W.heap.size, 0, none⟩)] (fun l => decide (x ∈ l.tail)) ls Q v (W.alloc (.cells #[.string x] 9)) (hrow.below hbw) (by omega) (fun u l w hl hb hs =>
    ahead1_any W.heap.size x l Q u w hs (hm.full l hl) (by have := totM_mem hl; omega) (by rw [cellOf ((hb.block _ (by simp)).trans (heap_alloc_new W _))]; rfl))
  rw [hix] at hcc
  obtain ⟨vb, vc, rfl, _⟩ := id hrow
  have hmlt := hm.lt
  have c0 : (W.alloc (.cells #[.string x] 9)).cell? ⟨mb, 0, none⟩ = some (.slice vb ls.length vc) := by rw [cellOf ((hbw.block _ hmlt).trans hblk)]; rfl
  have hmf : ∀ (fn : Fn) (first cap : Array Value) (w : World), (Instr.makeFunc fn first cap).run Try.prog w = .ok (.func fn first cap) w := fun _ _ _ _ => rfl
  have HROW := Lib.hid hrow
  have HBLK := Lib.hid hblk
  have HBW := Lib.hid hbw
  have HK := Lib.hid hk
  have hkl2 : (k : Int) < (ls.length : Int) := by omega
  clear hm hblk hrow hbw hk hix
  go_enter Try.func81, Try.ntmps81
  go_wp2_with fail
  refine hcc.mono ?_
  rintro e w' ⟨rfl, hb'⟩
  have HB2 := Lib.hid (HBW.out.trans (hb'.mono HBW.out.size))
  have hrow := HROW.out.below HB2.out
  obtain ⟨_, _, e, hrw⟩ := hrow
  cases e
  obtain ⟨g, o, rfl, _, _, hat, _⟩ := hrw (by rintro rfl; simp at hkl)
  obtain ⟨u, hu, hsr⟩ := hat k _ HK.out
  obtain ⟨ub, uc, rfl, hur⟩ := hsr
  obtain ⟨ug, uo, rfl, _, _, hat3, _⟩ := hur (by simp)
  have e1 : w'.cell? ⟨ug, uo, none⟩ = some (.string y) := hat3 0 _ rfl
  have c1 : w'.cell? ⟨mb, 0, none⟩ = some (.slice (some ⟨g, o, none⟩) ls.length vc) := by rw [cellOf ((HB2.out.block _ hmlt).trans HBLK.out)]; rfl
  have hlen : (y :: t).length = t.length + 1 := rfl
  rw [hlen] at hu
  clear hat hat3 hb' hcc hur hrw
  go_wp2_with fail
  exact bodyPost_ret (v := .string y) (by simp [results, Try.results81, go_sem]) rfl ⟨rfl, HB2.out⟩
end Go.Proofs.Ytolopideimnbgaa
