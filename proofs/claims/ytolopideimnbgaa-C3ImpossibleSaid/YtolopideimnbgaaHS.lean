/-
  Merge; searches in lists of lists.
-/
import Derived.Test.YtolopideimnbgaaHR
namespace Go.Proofs.Ytolopideimnbgaa
open Go.RowKit

def idxB (p : Nms → Bool) : List Nms → Int → Int
  | [], _ => -1
  | l :: r, k => if p l = true then k else idxB p r (k + 1)
theorem idxB_any (p : Nms → Bool) : ∀ (r : List Nms) (k : Int), 0 ≤ k → (0 ≤ idxB p r k ↔ r.any p = true)
  | [], k, _ => by simp [idxB]
  | l :: r, k, hk => by
    unfold idxB
    by_cases h : p l = true
    · rw [if_pos h]; simp [h, hk]
    · rw [if_neg h, idxB_any p r (k + 1) (by omega)]; simp [h]
theorem idxB_at {p : Nms → Bool} {r : List Nms} {k : Nat} {l : Nms} (h : r[k]? = some l) : idxB p (r.drop k) k = if p l = true then (k : Int) else idxB p (r.drop (k + 1)) ((k + 1 : Nat) : Int) := by
  have hk := (List.getElem?_eq_some_iff.1 h)
  rw [List.drop_eq_getElem_cons hk.1, hk.2]
  rfl

set_option maxRecDepth 100000 in
theorem indexS_any (caps : Array Value) (p : Nms → Bool) (ls : List Nms) (Q : Nat → Prop) (v : Value) (W : World) (hr : LRow W Q v ls) (hn : ls.length ≤ 140737488351232)
    (hp : ∀ u l, l ∈ ls → SRow W Q u l → Calls Try.prog 77 (#[u] ++ caps) W fun e w' => e = .returned (.bool (p l)) ∧ W = w') :
    Calls Try.prog 87 #[v, .func (.func 77) #[] caps] W fun e w' => e = .returned (.int .i64 (idxB p ls 0)) ∧ W = w' := by
  have HK := Lib.hid hp
  obtain ⟨b, c, rfl, hrow⟩ := hr
  clear hp
  go_enter Try.func87, Try.ntmps87
  go_wp2_with fail
  go_loop [8] (fun i => ∃ k : Nat, k ≤ ls.length ∧ i = .int .i64 (k : Int) ∧ Hid (idxB p ls 0 = idxB p (ls.drop k) k)) (fun i => ls.length - (intOf i).toNat)
  case atStart => exact ⟨0, by omega, rfl, Lib.hid (by simp)⟩
  case round =>
    obtain ⟨k, hk, rfl, hi⟩ := hrel
    by_cases hlt : k < ls.length
    · obtain ⟨l, hl⟩ : ∃ l, ls[k]? = some l := ⟨_, List.getElem?_eq_getElem hlt⟩
      obtain ⟨g, o, rfl, _, _, hat, _⟩ := hrow (by rintro rfl; simp at hlt)
      obtain ⟨u, e0, hsr⟩ := hat k l hl
      have hl2 : (k : Int) < (ls.length : Int) := by omega
      have w3 : IntKind.i64.wrap ((k : Int) + 1) = (k : Int) + 1 := IntWalk.i64_in _ (by omega)
      have HE := Lib.hid (hi.out.trans (idxB_at (p := p) hl))
      have hks := HK.out u l (List.mem_iff_getElem?.2 ⟨k, hl⟩) hsr
      clear hat hl hi hsr
      by_cases he : p l = true
      · have HN : Hid (idxB p ls 0 = (k : Int)) := Lib.hid (by rw [HE.out, if_pos he])
        rw [he] at hks
        clear he HE
        go_wp2_with fail
        refine hks.mono ?_
        rintro e w' ⟨rfl, rfl⟩
        go_wp2_with fail
        exact bodyPost_ret (v := .int .i64 (k : Int)) (by simp [results, Try.results87, go_sem]) rfl ⟨by rw [HN.out], rfl⟩
      · have HN : Hid (idxB p ls 0 = idxB p (ls.drop (k + 1)) ((k + 1 : Nat) : Int)) := Lib.hid (by rw [HE.out, if_neg he])
        rw [Bool.eq_false_iff.2 he] at hks
        clear he HE
        go_wp2_with fail
        refine hks.mono ?_
        rintro e w' ⟨rfl, rfl⟩
        go_wp2_with fail
        go_round
        case rel => exact ⟨k + 1, by omega, by go_num, HN⟩
        case measure => simp [intOf]; omega
    · have hl2 : ((k : Int) < (ls.length : Int)) = False := by simp; omega
      have HN : Hid (idxB p ls 0 = -1) := Lib.hid (by rw [hi.out, List.drop_eq_nil_of_le (by omega)]; rfl)
      go_wp2_with fail
      exact bodyPost_ret (v := .int .i64 (-1)) (by simp [results, Try.results87, go_sem]) rfl ⟨by rw [HN.out], rfl⟩

theorem containsS_any (caps : Array Value) (p : Nms → Bool) (ls : List Nms) (Q : Nat → Prop) (v : Value) (W : World) (hr : LRow W Q v ls) (hn : ls.length ≤ 140737488351232)
    (hp : ∀ u l, l ∈ ls → SRow W Q u l → Calls Try.prog 77 (#[u] ++ caps) W fun e w' => e = .returned (.bool (p l)) ∧ W = w') :
    Calls Try.prog 76 #[v, .func (.func 77) #[] caps] W fun e w' => e = .returned (.bool (ls.any p)) ∧ W = w' := by
  have hi := indexS_any caps p ls Q v W hr hn hp
  obtain ⟨b, c, rfl, hrow⟩ := hr
  have ha := idxB_any p ls 0 (Int.le_refl _)
  generalize idxB p ls 0 = n at *
  have hb : decide (0 ≤ n) = ls.any p := by
    cases h : ls.any p with
    | true => exact decide_eq_true (ha.2 h)
    | false => exact decide_eq_false fun e => by rw [ha.1 e] at h; cases h
  have HB := Lib.hid hb
  clear ha hb hrow hp
  go_enter Try.func76, Try.ntmps76
  go_wp2_with fail
  refine hi.mono ?_
  rintro e w' ⟨rfl, rfl⟩
  go_wp2_with fail
  refine bodyPost_ret (v := .bool (decide (0 ≤ n))) (by simp [results, Try.results76, go_sem]) rfl ⟨by rw [HB.out], rfl⟩

set_option maxRecDepth 100000 in
theorem indexC_any (caps : Array Value) (p : Nms → Bool) (ls : List Nms) (Q : Nat → Prop) (v : Value) (W : World) (hr : LRow W Q v ls) (hn : ls.length ≤ 140737488351232)
    (hp : ∀ u l, l ∈ ls → SRow W Q u l → Calls Try.prog 83 (#[u] ++ caps) W fun e w' => e = .returned (.bool (p l)) ∧ W = w') :
    Calls Try.prog 87 #[v, .func (.func 83) #[] caps] W fun e w' => e = .returned (.int .i64 (idxB p ls 0)) ∧ W = w' := by
  have HK := Lib.hid hp
  obtain ⟨b, c, rfl, hrow⟩ := hr
  clear hp
  go_enter Try.func87, Try.ntmps87
  go_wp2_with fail
  go_loop [8] (fun i => ∃ k : Nat, k ≤ ls.length ∧ i = .int .i64 (k : Int) ∧ Hid (idxB p ls 0 = idxB p (ls.drop k) k)) (fun i => ls.length - (intOf i).toNat)
  case atStart => exact ⟨0, by omega, rfl, Lib.hid (by simp)⟩
  case round =>
    obtain ⟨k, hk, rfl, hi⟩ := hrel
    by_cases hlt : k < ls.length
    · obtain ⟨l, hl⟩ : ∃ l, ls[k]? = some l := ⟨_, List.getElem?_eq_getElem hlt⟩
      obtain ⟨g, o, rfl, _, _, hat, _⟩ := hrow (by rintro rfl; simp at hlt)
      obtain ⟨u, e0, hsr⟩ := hat k l hl
      have hl2 : (k : Int) < (ls.length : Int) := by omega
      have w3 : IntKind.i64.wrap ((k : Int) + 1) = (k : Int) + 1 := IntWalk.i64_in _ (by omega)
      have HE := Lib.hid (hi.out.trans (idxB_at (p := p) hl))
      have hks := HK.out u l (List.mem_iff_getElem?.2 ⟨k, hl⟩) hsr
      clear hat hl hi hsr
      by_cases he : p l = true
      · have HN : Hid (idxB p ls 0 = (k : Int)) := Lib.hid (by rw [HE.out, if_pos he])
        rw [he] at hks
        clear he HE
        go_wp2_with fail
        refine hks.mono ?_
        rintro e w' ⟨rfl, rfl⟩
        go_wp2_with fail
        exact bodyPost_ret (v := .int .i64 (k : Int)) (by simp [results, Try.results87, go_sem]) rfl ⟨by rw [HN.out], rfl⟩
      · have HN : Hid (idxB p ls 0 = idxB p (ls.drop (k + 1)) ((k + 1 : Nat) : Int)) := Lib.hid (by rw [HE.out, if_neg he])
        rw [Bool.eq_false_iff.2 he] at hks
        clear he HE
        go_wp2_with fail
        refine hks.mono ?_
        rintro e w' ⟨rfl, rfl⟩
        go_wp2_with fail
        go_round
        case rel => exact ⟨k + 1, by omega, by go_num, HN⟩
        case measure => simp [intOf]; omega
    · have hl2 : ((k : Int) < (ls.length : Int)) = False := by simp; omega
      have HN : Hid (idxB p ls 0 = -1) := Lib.hid (by rw [hi.out, List.drop_eq_nil_of_le (by omega)]; rfl)
      go_wp2_with fail
      exact bodyPost_ret (v := .int .i64 (-1)) (by simp [results, Try.results87, go_sem]) rfl ⟨by rw [HN.out], rfl⟩

theorem containsC_any (caps : Array Value) (p : Nms → Bool) (ls : List Nms) (Q : Nat → Prop) (v : Value) (W : World) (hr : LRow W Q v ls) (hn : ls.length ≤ 140737488351232)
    (hp : ∀ u l, l ∈ ls → SRow W Q u l → Calls Try.prog 83 (#[u] ++ caps) W fun e w' => e = .returned (.bool (p l)) ∧ W = w') :
    Calls Try.prog 76 #[v, .func (.func 83) #[] caps] W fun e w' => e = .returned (.bool (ls.any p)) ∧ W = w' := by
  have hi := indexC_any caps p ls Q v W hr hn hp
  obtain ⟨b, c, rfl, hrow⟩ := hr
  have ha := idxB_any p ls 0 (Int.le_refl _)
  generalize idxB p ls 0 = n at *
  have hb : decide (0 ≤ n) = ls.any p := by
    cases h : ls.any p with
    | true => exact decide_eq_true (ha.2 h)
    | false => exact decide_eq_false fun e => by rw [ha.1 e] at h; cases h
  have HB := Lib.hid hb
  clear ha hb hrow hp
  go_enter Try.func76, Try.ntmps76
  go_wp2_with fail
  refine hi.mono ?_
  rintro e w' ⟨rfl, rfl⟩
  go_wp2_with fail
  refine bodyPost_ret (v := .bool (decide (0 ≤ n))) (by simp [results, Try.results76, go_sem]) rfl ⟨by rw [HB.out], rfl⟩

set_option maxRecDepth 100000 in
theorem indexA_any (caps : Array Value) (p : Nms → Bool) (ls : List Nms) (Q : Nat → Prop) (v : Value) (W : World) (hr : LRow W Q v ls) (hn : ls.length ≤ 140737488351232)
    (hp : ∀ u l, l ∈ ls → SRow W Q u l → Calls Try.prog 88 (#[u] ++ caps) W fun e w' => e = .returned (.bool (p l)) ∧ W = w') :
    Calls Try.prog 87 #[v, .func (.func 88) #[] caps] W fun e w' => e = .returned (.int .i64 (idxB p ls 0)) ∧ W = w' := by
  have HK := Lib.hid hp
  obtain ⟨b, c, rfl, hrow⟩ := hr
  clear hp
  go_enter Try.func87, Try.ntmps87
  go_wp2_with fail
  go_loop [8] (fun i => ∃ k : Nat, k ≤ ls.length ∧ i = .int .i64 (k : Int) ∧ Hid (idxB p ls 0 = idxB p (ls.drop k) k)) (fun i => ls.length - (intOf i).toNat)
  case atStart => exact ⟨0, by omega, rfl, Lib.hid (by simp)⟩
  case round =>
    obtain ⟨k, hk, rfl, hi⟩ := hrel
    by_cases hlt : k < ls.length
    · obtain ⟨l, hl⟩ : ∃ l, ls[k]? = some l := ⟨_, List.getElem?_eq_getElem hlt⟩
      obtain ⟨g, o, rfl, _, _, hat, _⟩ := hrow (by rintro rfl; simp at hlt)
      obtain ⟨u, e0, hsr⟩ := hat k l hl
      have hl2 : (k : Int) < (ls.length : Int) := by omega
      have w3 : IntKind.i64.wrap ((k : Int) + 1) = (k : Int) + 1 := IntWalk.i64_in _ (by omega)
      have HE := Lib.hid (hi.out.trans (idxB_at (p := p) hl))
      have hks := HK.out u l (List.mem_iff_getElem?.2 ⟨k, hl⟩) hsr
      clear hat hl hi hsr
      by_cases he : p l = true
      · have HN : Hid (idxB p ls 0 = (k : Int)) := Lib.hid (by rw [HE.out, if_pos he])
        rw [he] at hks
        clear he HE
        go_wp2_with fail
        refine hks.mono ?_
        rintro e w' ⟨rfl, rfl⟩
        go_wp2_with fail
        exact bodyPost_ret (v := .int .i64 (k : Int)) (by simp [results, Try.results87, go_sem]) rfl ⟨by rw [HN.out], rfl⟩
      · have HN : Hid (idxB p ls 0 = idxB p (ls.drop (k + 1)) ((k + 1 : Nat) : Int)) := Lib.hid (by rw [HE.out, if_neg he])
        rw [Bool.eq_false_iff.2 he] at hks
        clear he HE
        go_wp2_with fail
        refine hks.mono ?_
        rintro e w' ⟨rfl, rfl⟩
        go_wp2_with fail
        go_round
        case rel => exact ⟨k + 1, by omega, by go_num, HN⟩
        case measure => simp [intOf]; omega
    · have hl2 : ((k : Int) < (ls.length : Int)) = False := by simp; omega
      have HN : Hid (idxB p ls 0 = -1) := Lib.hid (by rw [hi.out, List.drop_eq_nil_of_le (by omega)]; rfl)
      go_wp2_with fail
      exact bodyPost_ret (v := .int .i64 (-1)) (by simp [results, Try.results87, go_sem]) rfl ⟨by rw [HN.out], rfl⟩

theorem short_any (a : Option Addr) (n c : Nat) (W : World) : Calls Try.prog 51 #[.slice a n c] W fun e w' => e = .returned (.bool (decide (n ≤ 120))) ∧ W = w' := by
  by_cases h : n ≤ 120
  · have h' : (n : Int) ≤ 120 := by omega
    rw [decide_eq_true h]
    clear h
    go_enter Try.func51, Try.ntmps51
    go_wp2_with fail
    exact bodyPost_ret (v := .bool true) (by simp [results, Try.results51, go_sem]) rfl ⟨rfl, rfl⟩
  · have h' : ((n : Int) ≤ 120) = False := by simp; omega
    have h2 : (n ≤ 120) = False := by simp; omega
    rw [decide_eq_false h]
    clear h
    go_enter Try.func51, Try.ntmps51
    go_wp2_with fail
    exact bodyPost_ret (v := .bool false) (by simp [results, Try.results51, go_sem]) rfl ⟨rfl, rfl⟩
theorem notShort_any (fx : Nat) (a : Option Addr) (n c : Nat) (W : World) (hf : W.cell? ⟨fx, 0, none⟩ = some (.func (.func 51) #[] #[])) :
    Calls Try.prog 77 #[.slice a n c, .pointer (some ⟨fx, 0, none⟩)] W fun e w' => e = .returned (.bool (!decide (n ≤ 120))) ∧ W = w' := by
  have hk := short_any a n c W
  generalize decide (n ≤ 120) = A at *
  go_enter Try.func77, Try.ntmps77
  go_wp2_with fail
  refine hk.mono ?_
  rintro e w' ⟨rfl, rfl⟩
  go_wp2_with fail
  exact bodyPost_ret (v := .bool (!A)) (by simp [results, Try.results77, go_sem]) rfl ⟨rfl, rfl⟩
theorem not_any_all : ∀ ls : List Nms, (!(ls.any fun l => !decide (l.length ≤ 120))) = ls.all fun l => decide (l.length ≤ 120)
  | [] => rfl
  | l :: r => by
    have := not_any_all r
    simp only [List.any_cons, List.all_cons, Bool.not_or, Bool.not_not]; rw [this]
theorem allShort_any (ls : List Nms) (Q : Nat → Prop) (v : Value) (W : World) (hr : LRow W Q v ls) (hn : ls.length ≤ 140737488351232) :
    Calls Try.prog 52 #[v, .func (.func 51) #[] #[]] W fun e w' => e = .returned (.bool (ls.all fun l => decide (l.length ≤ 120))) ∧ Below W.heap.size W w' := by
  have hb : Below W.heap.size W (W.alloc (.cells #[.func (.func 51) #[] #[]] 52)) := (Below.refl _ W).alloc (Nat.le_refl _) _
  have hcc := containsS_any #[.pointer (some ⟨W.heap.size, 0, none⟩)] (fun l => !decide (l.length ≤ 120)) ls Q v _ (hr.below hb) hn (fun u l _ h => by
    obtain ⟨ub, uc, rfl, _⟩ := h
    exact notShort_any W.heap.size ub l.length uc _ (by rw [cellOf (heap_alloc_new W _)]; rfl))
  have hall : (!(ls.any fun l => !decide (l.length ≤ 120))) = ls.all fun l => decide (l.length ≤ 120) := by
    exact not_any_all ls
  rw [← hall]
  obtain ⟨b, c, rfl, hrow⟩ := hr
  have HB := Lib.hid hb
  generalize (ls.any fun l => !decide (l.length ≤ 120)) = A at *
  clear hrow hall hb
  go_enter Try.func52, Try.ntmps52
  go_wp2_with fail
  refine hcc.mono ?_
  rintro e w' ⟨rfl, rfl⟩
  go_wp2_with fail
  refine bodyPost_ret (v := .bool (!A)) (by simp [results, Try.results52, go_sem]) rfl ⟨rfl, HB.out⟩
def mergeTop (ls : List Nms) : Option Nms := if ls.length ≤ 20 ∧ (ls.all fun l => decide (l.length ≤ 120)) = true then
    match mergeM (totM (nonE ls)) (nonE ls) with
    | .ok m => some m
    | .error _ => none
  else none
/-- A list, or none. -/
def MRes (r : Option Nms) (W : World) (e : Ending) (w' : World) : Prop :=
  Below W.heap.size W w' ∧ match r with
  | some l => ∃ v, e = .returned (.tuple #[v, .bool true]) ∧ SRow w' (fun b => W.heap.size ≤ b) v l
  | none => e = .returned (.tuple #[.slice none 0 0, .bool false])
theorem tot_all : ∀ ls : List Nms, (ls.all fun l => decide (l.length ≤ 120)) = true → totM ls ≤ ls.length * 120
  | [], _ => Nat.le_refl _
  | l :: r, h => by
    simp only [List.all_cons, Bool.and_eq_true, decide_eq_true_eq] at h
    have := tot_all r h.2
    simp only [totM, List.length_cons]; omega
set_option maxRecDepth 100000 in
set_option maxHeartbeats 4000000 in
theorem Merge_any (ls : List Nms) (v : Value) (W : World) (hr : LRow W (fun _ => True) v ls) (hn : ls.length ≤ 140737488351232) :
    Calls Try.prog 21 #[v] W (MRes (mergeTop ls) W) := by
  have HR := Lib.hid hr
  have hal := allShort_any ls _ v W hr hn
  obtain ⟨b, c, rfl, _⟩ := id hr
  have hmf : ∀ (fn : Fn) (first cap : Array Value) (w : World), (Instr.makeFunc fn first cap).run Try.prog w = .ok (.func fn first cap) w := fun _ _ _ _ => rfl
  obtain ⟨R, hR⟩ : ∃ R, R = mergeTop ls := ⟨_, rfl⟩
  rw [← hR]
  clear hr
  by_cases h20 : ls.length ≤ 20
  · have hl : ((20 : Int) < (ls.length : Int)) = False := by simp; omega
    have hl' : (20 < ls.length) = False := by simp; omega
    cases hA : ls.all fun l => decide (l.length ≤ 120) with
    | false =>
      have HE : Hid (R = none) := Lib.hid (by rw [hR]; unfold mergeTop; rw [if_neg (by rw [hA]; simp)])
      rw [hA] at hal
      clear hA hR h20
      go_enter Try.func21, Try.ntmps21
      go_wp2_with fail
      refine hal.mono ?_
      rintro e w1 ⟨rfl, hb1⟩
      have HB1 := Lib.hid hb1
      clear hb1
      go_wp2_with fail
      refine bodyPost_ret (v := .tuple #[.slice none 0 0, .bool false]) (by simp [results, Try.results21, go_sem]) rfl ⟨HB1.out, ?_⟩
      rw [HE.out]
    | true =>
      have HE : Hid (R = match mergeM (totM (nonE ls)) (nonE ls) with | .ok m => some m | .error _ => none) := Lib.hid (by rw [hR]; unfold mergeTop; rw [if_pos ⟨h20, hA⟩])
      have HT : Hid (totM ls ≤ 2400) := Lib.hid (by have := tot_all ls hA; omega)
      have HL20 := Lib.hid h20
      rw [hA] at hal
      clear hA hR h20
      go_enter Try.func21, Try.ntmps21
      go_wp2_with fail
      refine hal.mono ?_
      rintro e w1 ⟨rfl, hb1⟩
      have HB1 := Lib.hid hb1
      clear hb1 hal
      go_wp2_with fail
      refine (values_any b ls.length c w1).mono ?_
      rintro e w2 ⟨rfl, rfl⟩
      have hnw := newOf_any b c ls w1 (HR.out.below HB1.out) (by have := HT.out; omega) (by have := HL20.out; omega)
      go_wp2_with fail
      refine hnw.mono ?_
      rintro e w3 ⟨mb, bm, rfl, hb3, hl3, hl4, hmg⟩
      have hmr := merge_any mb bm _ (nonE ls) w3 hmg (by rw [totM_nonE]; have := HT.out; omega)
      have HB3 := Lib.hid (HB1.out.trans (hb3.mono HB1.out.size))
      have HMB : Hid (W.heap.size ≤ mb ∧ W.heap.size ≤ bm) := Lib.hid (by have := HB1.out.size; omega)
      clear hb3 hnw hmg hl3 hl4
      go_wp2_with fail
      refine hmr.mono ?_
      rintro e w4 ⟨hk4, hres⟩
      have HB4 : Hid (Below W.heap.size W w4) := Lib.hid (HB3.out.trans (hk4.below (fun k e => by have := HMB.out; omega) HB3.out.size))
      have HZ := Lib.hid HB3.out.size
      clear hk4 hmr
      cases hM : mergeM (totM (nonE ls)) (nonE ls) with
      | ok m =>
        rw [hM] at hres HE
        obtain ⟨v, rfl, hown⟩ := hres
        obtain ⟨mb', mc, rfl⟩ := hown.len
        have HE2 : Hid (R = some m) := Lib.hid HE.out
        have HS := Lib.hid (hown.srow.mono (Q' := fun b => W.heap.size ≤ b) fun b _ h => by have := HZ.out; omega)
        clear hown
        go_wp2_with fail
        refine bodyPost_ret (v := .tuple #[.slice mb' m.length mc, .bool true]) (by simp [results, Try.results21, go_sem]) rfl ⟨HB4.out, ?_⟩
        rw [HE2.out]
        exact ⟨_, rfl, HS.out⟩
      | error ls' =>
        rw [hM] at hres HE
        obtain ⟨rfl, _⟩ := hres
        have HE2 : Hid (R = none) := Lib.hid HE.out
        go_wp2_with fail
        refine bodyPost_ret (v := .tuple #[.slice none 0 0, .bool false]) (by simp [results, Try.results21, go_sem]) rfl ⟨HB4.out, ?_⟩
        rw [HE2.out]
  · have hl : (20 : Int) < (ls.length : Int) := by omega
    have HE : Hid (R = none) := Lib.hid (by rw [hR]; unfold mergeTop; rw [if_neg fun h => h20 h.1])
    clear hR h20
    go_enter Try.func21, Try.ntmps21
    go_wp2_with fail
    refine bodyPost_ret (v := .tuple #[.slice none 0 0, .bool false]) (by simp [results, Try.results21, go_sem]) rfl ⟨Below.refl _ _, ?_⟩
    rw [HE.out]
end Go.Proofs.Ytolopideimnbgaa
