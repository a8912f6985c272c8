/-
  The law: parts of readable lists are readable, and two readable lists one behind the other.
-/
import Derived.Test.YtcokdapnafgnpaaGreatDoorFGL
import Derived.Test.YtcokdapnafgnpaaGreatDoorFGJ
namespace Go.Proofs.YtcokdapnafgnpaaGreatDoor
section
open Go.RowKit

theorem check_parts {l : List Fg} {ws : List ByteArray} (h : checkM l ws = 0) : readM tokOk isPlainB (tkA l) ws = .ok l ∧ dpA l ≤ 100 ∧ sizeM l = (tkA l).length := by
  obtain ⟨_, hd, hs, hm⟩ := checkM_ok h
  rw [depM_full] at hd
  have hd2 : dpA l ≤ 100 := by omega
  have ht := tokM_full 100 l hd2
  rw [ht] at hm
  refine ⟨hm, hd2, ?_⟩
  unfold sizeM at hs ⊢
  rw [ht] at hs ⊢
  omega
theorem check_of {l : List Fg} {ws : List ByteArray} (h : readM tokOk isPlainB (tkA l) ws = .ok l) (hd : dpA l ≤ 100) : checkM l ws = 0 := by
  have ht := tokM_full 100 l hd
  have h6 := (readM_run h).2.1
  unfold checkM
  rw [if_pos (readM_run h).1, if_neg (by rw [depM_full]; omega), if_neg (by unfold sizeM; rw [ht]; omega), ht, h]
  simp only [(sameL_eq l l).2 rfl, if_true]
theorem check_concat {a b : List Fg} {ws : List ByteArray} (ha : checkM a ws = 0) (hb : checkM b ws = 0) (he : endsM a = false) (hs : sizeM a + sizeM b ≤ 6000) : checkM (a ++ b) ws = 0 := by
  obtain ⟨a1, a2, a3⟩ := check_parts ha
  obtain ⟨b1, b2, b3⟩ := check_parts hb
  exact check_of (read_concat a1 b1 he (by omega)) (by rw [dpA_append]; omega)
theorem dpA_get : ∀ {a : List Fg} {c : Nat} {x : Fg}, a[c]? = some x → dpF x ≤ dpA a
  | [], _, _, h => by cases h
  | y :: r, 0, x, h => by
    simp only [List.getElem?_cons_zero, Option.some.injEq] at h
    rw [dpA_cons, h]; omega
  | y :: r, c + 1, x, h => by
    have := dpA_get (a := r) (c := c) (x := x) (by simpa using h)
    rw [dpA_cons]; omega
theorem check_kids {a : List Fg} {ws : List ByteArray} {c : Nat} {x : Fg} (ha : checkM a ws = 0) (hx : a[c]? = some x) (ho : ¬ x.opn = sNo) (hm : ¬ x.opn = sMacro) : checkM x.kids ws = 0 := by
  obtain ⟨a1, a2, _⟩ := check_parts ha
  have h1 := dpA_get hx
  have h2 := dpF_group ho
  exact check_of (read_kids a1 hx ho hm) (by omega)
set_option maxRecDepth 100000 in
theorem index_any (s : ByteArray) {v : Value} {l : List ByteArray} (hn : l.length ≤ 1048576) (W : World) (hl : SRow W v l) :
    Calls Tryz.prog 68 #[v, .string s] W fun e w' => (∃ k : Int, e = .returned (.int .i64 k) ∧ (0 ≤ k) = (s ∈ l)) ∧ W = w' := by
  obtain ⟨b, c, rfl, hrow⟩ := hl
  go_enter Tryz.func68, Tryz.ntmps68
  go_wp2_with fail
  go_loop [5] (fun i => ∃ k : Nat, k ≤ l.length ∧ i = .int .i64 (k : Int) ∧ Hid (¬ s ∈ l.take k)) (fun i => l.length - (intOf i).toNat)
  case atStart => exact ⟨0, by omega, rfl, Lib.hid (by simp)⟩
  case round =>
    obtain ⟨k, hk, rfl, hno⟩ := hrel
    by_cases hlt : k < l.length
    · obtain ⟨y, hy⟩ : ∃ y, l[k]? = some y := ⟨_, List.getElem?_eq_getElem hlt⟩
      obtain ⟨g, o, rfl, _, hat⟩ := hrow (by rintro rfl; simp at hlt)
      have e0 := hat k y hy
      have hl : (k : Int) < (l.length : Int) := by omega
      have w3 : IntKind.i64.wrap ((k : Int) + 1) = (k : Int) + 1 := IntWalk.i64_in _ (by omega)
      have htk : l.take (k + 1) = l.take k ++ [y] := by rw [List.take_add_one, hy]; rfl
      have HT := Lib.hid htk
      have HY := Lib.hid (List.mem_iff_getElem?.2 ⟨k, hy⟩ : y ∈ l)
      clear hat htk hy
      by_cases he : y = s
      · obtain ⟨q1, q2⟩ := str_eq he
        have hc : Hid (s ∈ l) := Lib.hid (by rw [← he]; exact HY.out)
        clear he
        go_wp2_with fail
        exact bodyPost_ret (v := .int .i64 (k : Int)) (by simp [results, Tryz.results68, go_sem]) rfl ⟨⟨(k : Int), rfl, by simp [hc.out]⟩, rfl⟩
      · obtain ⟨q1, q2⟩ := str_ne he
        have hc : Hid (¬ s ∈ l.take (k + 1)) := Lib.hid (by rw [HT.out, List.mem_append, List.mem_singleton]; rintro (h | h); exact hno.out h; exact he h.symm)
        clear he
        go_wp2_with fail
        go_round
        case rel => exact ⟨k + 1, by omega, by go_num, hc⟩
        case measure => simp [intOf]; omega
    · have hl : ((k : Int) < (l.length : Int)) = False := by simp; omega
      have hc : Hid (¬ s ∈ l) := Lib.hid (by have := hno.out; rwa [List.take_of_length_le (by omega)] at this)
      go_wp2_with fail
      exact bodyPost_ret (v := .int .i64 (-1)) (by simp [results, Tryz.results68, go_sem]) rfl ⟨⟨-1, rfl, by simp [hc.out]⟩, rfl⟩
theorem named_mem (o : ByteArray) : isNamed o = decide (o ∈ [sClass, sMethod, sMacro]) := by
  unfold isNamed
  simp only [List.mem_cons, List.not_mem_nil, or_false]
  by_cases h1 : o = sMethod <;> by_cases h2 : o = sClass <;> by_cases h3 : o = sMacro <;> simp [h1, h2, h3]
set_option maxRecDepth 100000 in
theorem ends_any (P : Nat → Prop) (a : List Fg) (v : Value) (W : World) (hv : FVal W P v a) (h1 : a.length ≤ 140737488351232) : Calls Tryz.prog 44 #[v] W fun e w' => e = .returned (.bool (endsM a)) ∧ Below W.heap.size W w' := by
  obtain ⟨b, c, rfl, hrow⟩ := hv
  have HIX := Lib.hid (fun (s : ByteArray) (w : World) => index_any s (l := [sClass, sMethod, sMacro]) (v := .slice (some ⟨W.heap.size, 0, none⟩) 3 3) (by simp) w)
  have HSR := Lib.hid (srow_new W #[.string ⟨#[99, 108, 97, 115, 115]⟩, .string ⟨#[109, 101, 116, 104, 111, 100]⟩, .string ⟨#[109, 97, 99, 114, 111]⟩] [sClass, sMethod, sMacro] 9 rfl)
  have HBA : Hid (Below W.heap.size W (W.alloc (.cells #[.string ⟨#[99, 108, 97, 115, 115]⟩, .string ⟨#[109, 101, 116, 104, 111, 100]⟩, .string ⟨#[109, 97, 99, 114, 111]⟩] 9))) := Lib.hid ((Below.refl _ W).alloc (Nat.le_refl _) _)
  by_cases hn : a = []
  · subst hn
    clear hrow
    go_enter Tryz.func44, Tryz.ntmps44
    go_wp2_with fail
    exact bodyPost_ret (v := .bool false) (by simp [results, Tryz.results44, go_sem]) rfl ⟨rfl, Below.refl _ _⟩
  · obtain ⟨q, x, rfl⟩ := snoc_of hn
    obtain ⟨g, o, rfl, _, hg, hrw⟩ := hrow hn
    have hx : (q ++ [x])[q.length]? = some x := by simp
    obtain ⟨kv, hcell, _⟩ := (hrw.get hx).parts
    have e5 : W.cell? ⟨g, o + q.length * 7 + 5, none⟩ = some (.string x.opn) := hcell 5 _ rfl
    have hE : Hid (endsM (q ++ [x]) = decide (x.opn ∈ [sClass, sMethod, sMacro])) := Lib.hid (by unfold endsM; rw [List.getLast?_concat, ← named_mem])
    generalize endsM (q ++ [x]) = em at hE
    rw [show (q ++ [x]).length = q.length + 1 by simp] at h1 ⊢
    have n1 : IntKind.i64.wrap ((q.length : Int) + 1 - 1) = (q.length : Int) := by rw [IntWalk.i64_in _ (by omega)]; omega
    have e5' := (HBA.out.cell (p := ⟨g, o + q.length * 7 + 5, none⟩) hg).trans e5
    have hgt : (0 : Int) < (q.length : Int) + 1 := by omega
    clear hrow hrw hcell hx hn e5
    generalize q.length = n at *
    go_enter Tryz.func44, Tryz.ntmps44
    go_wp2_with fail
    refine (HIX.out x.opn _ HSR.out).mono ?_
    rintro e w2 ⟨⟨k, rfl, hk⟩, rfl⟩
    by_cases hm : x.opn ∈ [sClass, sMethod, sMacro]
    · have hk2 : (0 ≤ k) = True := by rw [hk]; simp [hm]
      have hE2 : Hid (em = true) := Lib.hid (by rw [hE.out, decide_eq_true hm])
      clear hk hm hE
      go_wp2_with fail
      rw [hE2.out]
      exact bodyPost_ret (v := .bool true) (by simp [results, Tryz.results44, go_sem]) rfl ⟨rfl, HBA.out⟩
    · have hk2 : (0 ≤ k) = False := by rw [hk]; simp [hm]
      have hE2 : Hid (em = false) := Lib.hid (by rw [hE.out, decide_eq_false hm])
      clear hk hm hE
      go_wp2_with fail
      rw [hE2.out]
      exact bodyPost_ret (v := .bool false) (by simp [results, Tryz.results44, go_sem]) rfl ⟨rfl, HBA.out⟩
/-- The cells of a list that came in. -/
theorem fval_cells {W : World} {P : Nat → Prop} {g o : Nat} : ∀ {l : List Fg}, FRow W P l g o → ∃ kvs : List Value, kvs.length = l.length ∧ (∀ j u, (flatF l kvs)[j]? = some u → W.cell? ⟨g, o + j, none⟩ = some u) ∧ (∀ (i : Nat) (x : Fg) (u : Value), l[i]? = some x → kvs[i]? = some u → FVal W P u x.kids) ∧ ∀ u ∈ flatF l kvs, u.oneCell' = true := by
  intro l h
  induction l generalizing o with
  | nil => exact ⟨[], rfl, (fun j u hj => by simp [flatF] at hj), (fun i x u hx => by cases hx), (fun u hu => by simp [flatF] at hu)⟩
  | cons x r ih =>
    unfold FRow at h
    obtain ⟨kv, hc, hk⟩ := h.1.parts
    obtain ⟨kvs, h1, h2, h3, h4⟩ := ih h.2
    have e : flatF (x :: r) (kv :: kvs) = fgV x kv ++ flatF r kvs := by simp [flatF]
    refine ⟨kv :: kvs, by simp [h1], fun j u hj => ?_, fun i y u hy hu => ?_, fun u hu => ?_⟩
    · rw [e] at hj
      by_cases h7 : j < 7
      · rw [List.getElem?_append_left (by rw [fgV_length]; exact h7)] at hj
        exact hc j u hj
      · rw [List.getElem?_append_right (by rw [fgV_length]; omega), fgV_length] at hj
        have := h2 (j - 7) u hj
        have e2 : o + 7 + (j - 7) = o + j := by omega
        rwa [e2] at this
    · cases i with
      | zero =>
        simp only [List.getElem?_cons_zero, Option.some.injEq] at hy hu
        rw [← hy, ← hu]; exact hk
      | succ i => exact h3 i y u (by simpa using hy) (by simpa using hu)
    · rw [e] at hu
      rcases List.mem_append.1 hu with hu | hu
      · obtain ⟨a, c, hkv, _⟩ := hk
        unfold fgV at hu
        rw [hkv] at hu
        simp only [List.mem_cons, List.not_mem_nil, or_false] at hu
        rcases hu with rfl | rfl | rfl | rfl | rfl | rfl | rfl <;> rfl
      · exact h4 u hu
theorem infoFg : (Tryz.prog.info? 52).map (fun i => (i.zero, i.size, i.bytes)) = some (some (.agg #[.int .i64 0, .int .i64 0, .string ⟨#[]⟩, .int .i64 0, .int .i64 0, .string ⟨#[]⟩, .slice none 0 0]), 7, 88) := by kernel_rfl
end

end Go.Proofs.YtcokdapnafgnpaaGreatDoor
