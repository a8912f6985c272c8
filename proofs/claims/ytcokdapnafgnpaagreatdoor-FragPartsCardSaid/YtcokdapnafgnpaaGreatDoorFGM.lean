/-
  The law: parts of readable lists are readable, and two readable lists one behind the other.
  The law: parts of readable lists are readable, and two readable lists one behind the other: the walk.
-/
import Derived.Test.YtcokdapnafgnpaaGreatDoorFGL
import Derived.Test.YtcokdapnafgnpaaGreatDoorFGJ
import Derived.Test.YtcokdapnafgnpaaGreatDoorFGC
namespace Go.Proofs.YtcokdapnafgnpaaGreatDoor
section
open Go.RowKit

theorem check_parts {l : List Fg} {ws : List ByteArray} (h : checkM l ws = 0) : readM tokOk isPlainB (tkA l) ws = .ok l ∧ dpA l ≤ 100 ∧ sizeM l = (tkA l).length := by
  obtain ⟨_, hd, hs, hm⟩ := checkM_ok h
  rw [depM_full] at hd
  have hd2 : dpA l ≤ 100 := by omega
  have ht := tokM_full 100 l hd2
  rw [ht] at hm
  refine ⟨hm, hd2, ?_⟩
  unfold sizeM at hs ⊢
  rw [ht] at hs ⊢
  omega
theorem check_of {l : List Fg} {ws : List ByteArray} (h : readM tokOk isPlainB (tkA l) ws = .ok l) (hd : dpA l ≤ 100) : checkM l ws = 0 := by
  have ht := tokM_full 100 l hd
  have h6 := (readM_run h).2.1
  unfold checkM
  rw [if_pos (readM_run h).1, if_neg (by rw [depM_full]; omega), if_neg (by unfold sizeM; rw [ht]; omega), ht, h]
  simp only [(sameL_eq l l).2 rfl, if_true]
theorem check_concat {a b : List Fg} {ws : List ByteArray} (ha : checkM a ws = 0) (hb : checkM b ws = 0) (he : endsM a = false) (hs : sizeM a + sizeM b ≤ 6000) : checkM (a ++ b) ws = 0 := by
  obtain ⟨a1, a2, a3⟩ := check_parts ha
  obtain ⟨b1, b2, b3⟩ := check_parts hb
  exact check_of (read_concat a1 b1 he (by omega)) (by rw [dpA_append]; omega)
theorem dpA_get : ∀ {a : List Fg} {c : Nat} {x : Fg}, a[c]? = some x → dpF x ≤ dpA a
  | [], _, _, h => by cases h
  | y :: r, 0, x, h => by
    simp only [List.getElem?_cons_zero, Option.some.injEq] at h
    rw [dpA_cons, h]; omega
  | y :: r, c + 1, x, h => by
    have := dpA_get (a := r) (c := c) (x := x) (by simpa using h)
    rw [dpA_cons]; omega
theorem check_kids {a : List Fg} {ws : List ByteArray} {c : Nat} {x : Fg} (ha : checkM a ws = 0) (hx : a[c]? = some x) (ho : ¬ x.opn = sNo) (hm : ¬ x.opn = sMacro) : checkM x.kids ws = 0 := by
  obtain ⟨a1, a2, _⟩ := check_parts ha
  have h1 := dpA_get hx
  have h2 := dpF_group ho
  exact check_of (read_kids a1 hx ho hm) (by omega)
set_option maxRecDepth 100000 in
theorem index_any (s : ByteArray) {v : Value} {l : List ByteArray} (hn : l.length ≤ 1048576) (W : World) (hl : SRow W v l) :
    Calls Tryz.prog 68 #[v, .string s] W fun e w' => (∃ k : Int, e = .returned (.int .i64 k) ∧ (0 ≤ k) = (s ∈ l)) ∧ W = w' := by
  obtain ⟨b, c, rfl, hrow⟩ := hl
  go_enter Tryz.func68, Tryz.ntmps68
  go_wp2_with fail
  go_loop [5] (fun i => ∃ k : Nat, k ≤ l.length ∧ i = .int .i64 (k : Int) ∧ Hid (¬ s ∈ l.take k)) (fun i => l.length - (intOf i).toNat)
  case atStart => exact ⟨0, by omega, rfl, Lib.hid (by simp)⟩
  case round =>
    obtain ⟨k, hk, rfl, hno⟩ := hrel
    by_cases hlt : k < l.length
    · obtain ⟨y, hy⟩ : ∃ y, l[k]? = some y := ⟨_, List.getElem?_eq_getElem hlt⟩
      obtain ⟨g, o, rfl, _, hat⟩ := hrow (by rintro rfl; simp at hlt)
      have e0 := hat k y hy
      have hl : (k : Int) < (l.length : Int) := by omega
      have w3 : IntKind.i64.wrap ((k : Int) + 1) = (k : Int) + 1 := IntWalk.i64_in _ (by omega)
      have htk : l.take (k + 1) = l.take k ++ [y] := by rw [List.take_add_one, hy]; rfl
      have HT := Lib.hid htk
      have HY := Lib.hid (List.mem_iff_getElem?.2 ⟨k, hy⟩ : y ∈ l)
      clear hat htk hy
      by_cases he : y = s
      · obtain ⟨q1, q2⟩ := str_eq he
        have hc : Hid (s ∈ l) := Lib.hid (by rw [← he]; exact HY.out)
        clear he
        go_wp2_with fail
        exact bodyPost_ret (v := .int .i64 (k : Int)) (by simp [results, Tryz.results68, go_sem]) rfl ⟨⟨(k : Int), rfl, by simp [hc.out]⟩, rfl⟩
      · obtain ⟨q1, q2⟩ := str_ne he
        have hc : Hid (¬ s ∈ l.take (k + 1)) := Lib.hid (by rw [HT.out, List.mem_append, List.mem_singleton]; rintro (h | h); exact hno.out h; exact he h.symm)
        clear he
        go_wp2_with fail
        go_round
        case rel => exact ⟨k + 1, by omega, by go_num, hc⟩
        case measure => simp [intOf]; omega
    · have hl : ((k : Int) < (l.length : Int)) = False := by simp; omega
      have hc : Hid (¬ s ∈ l) := Lib.hid (by have := hno.out; rwa [List.take_of_length_le (by omega)] at this)
      go_wp2_with fail
      exact bodyPost_ret (v := .int .i64 (-1)) (by simp [results, Tryz.results68, go_sem]) rfl ⟨⟨-1, rfl, by simp [hc.out]⟩, rfl⟩
theorem named_mem (o : ByteArray) : isNamed o = decide (o ∈ [sClass, sMethod, sMacro]) := by
  unfold isNamed
  simp only [List.mem_cons, List.not_mem_nil, or_false]
  by_cases h1 : o = sMethod <;> by_cases h2 : o = sClass <;> by_cases h3 : o = sMacro <;> simp [h1, h2, h3]
set_option maxRecDepth 100000 in
theorem ends_any (P : Nat → Prop) (a : List Fg) (v : Value) (W : World) (hv : FVal W P v a) (h1 : a.length ≤ 140737488351232) : Calls Tryz.prog 44 #[v] W fun e w' => e = .returned (.bool (endsM a)) ∧ Below W.heap.size W w' := by
  obtain ⟨b, c, rfl, hrow⟩ := hv
  have HIX := Lib.hid (fun (s : ByteArray) (w : World) => index_any s (l := [sClass, sMethod, sMacro]) (v := .slice (some ⟨W.heap.size, 0, none⟩) 3 3) (by simp) w)
  have HSR := Lib.hid (srow_new W #[.string ⟨#[99, 108, 97, 115, 115]⟩, .string ⟨#[109, 101, 116, 104, 111, 100]⟩, .string ⟨#[109, 97, 99, 114, 111]⟩] [sClass, sMethod, sMacro] 9 rfl)
  have HBA : Hid (Below W.heap.size W (W.alloc (.cells #[.string ⟨#[99, 108, 97, 115, 115]⟩, .string ⟨#[109, 101, 116, 104, 111, 100]⟩, .string ⟨#[109, 97, 99, 114, 111]⟩] 9))) := Lib.hid ((Below.refl _ W).alloc (Nat.le_refl _) _)
  by_cases hn : a = []
  · subst hn
    clear hrow
    go_enter Tryz.func44, Tryz.ntmps44
    go_wp2_with fail
    exact bodyPost_ret (v := .bool false) (by simp [results, Tryz.results44, go_sem]) rfl ⟨rfl, Below.refl _ _⟩
  · obtain ⟨q, x, rfl⟩ := snoc_of hn
    obtain ⟨g, o, rfl, _, hg, hrw⟩ := hrow hn
    have hx : (q ++ [x])[q.length]? = some x := by simp
    obtain ⟨kv, hcell, _⟩ := (hrw.get hx).parts
    have e5 : W.cell? ⟨g, o + q.length * 7 + 5, none⟩ = some (.string x.opn) := hcell 5 _ rfl
    have hE : Hid (endsM (q ++ [x]) = decide (x.opn ∈ [sClass, sMethod, sMacro])) := Lib.hid (by unfold endsM; rw [List.getLast?_concat, ← named_mem])
    generalize endsM (q ++ [x]) = em at hE
    rw [show (q ++ [x]).length = q.length + 1 by simp] at h1 ⊢
    have n1 : IntKind.i64.wrap ((q.length : Int) + 1 - 1) = (q.length : Int) := by rw [IntWalk.i64_in _ (by omega)]; omega
    have e5' := (HBA.out.cell (p := ⟨g, o + q.length * 7 + 5, none⟩) hg).trans e5
    have hgt : (0 : Int) < (q.length : Int) + 1 := by omega
    clear hrow hrw hcell hx hn e5
    generalize q.length = n at *
    go_enter Tryz.func44, Tryz.ntmps44
    go_wp2_with fail
    refine (HIX.out x.opn _ HSR.out).mono ?_
    rintro e w2 ⟨⟨k, rfl, hk⟩, rfl⟩
    by_cases hm : x.opn ∈ [sClass, sMethod, sMacro]
    · have hk2 : (0 ≤ k) = True := by rw [hk]; simp [hm]
      have hE2 : Hid (em = true) := Lib.hid (by rw [hE.out, decide_eq_true hm])
      clear hk hm hE
      go_wp2_with fail
      rw [hE2.out]
      exact bodyPost_ret (v := .bool true) (by simp [results, Tryz.results44, go_sem]) rfl ⟨rfl, HBA.out⟩
    · have hk2 : (0 ≤ k) = False := by rw [hk]; simp [hm]
      have hE2 : Hid (em = false) := Lib.hid (by rw [hE.out, decide_eq_false hm])
      clear hk hm hE
      go_wp2_with fail
      rw [hE2.out]
      exact bodyPost_ret (v := .bool false) (by simp [results, Tryz.results44, go_sem]) rfl ⟨rfl, HBA.out⟩
/-- The cells of a list that came in. -/
theorem fval_cells {W : World} {P : Nat → Prop} {g o : Nat} : ∀ {l : List Fg}, FRow W P l g o → ∃ kvs : List Value, kvs.length = l.length ∧ (∀ j u, (flatF l kvs)[j]? = some u → W.cell? ⟨g, o + j, none⟩ = some u) ∧ (∀ (i : Nat) (x : Fg) (u : Value), l[i]? = some x → kvs[i]? = some u → FVal W P u x.kids) ∧ ∀ u ∈ flatF l kvs, u.oneCell' = true := by
  intro l h
  induction l generalizing o with
  | nil => exact ⟨[], rfl, (fun j u hj => by simp [flatF] at hj), (fun i x u hx => by cases hx), (fun u hu => by simp [flatF] at hu)⟩
  | cons x r ih =>
    unfold FRow at h
    obtain ⟨kv, hc, hk⟩ := h.1.parts
    obtain ⟨kvs, h1, h2, h3, h4⟩ := ih h.2
    have e : flatF (x :: r) (kv :: kvs) = fgV x kv ++ flatF r kvs := by simp [flatF]
    refine ⟨kv :: kvs, by simp [h1], fun j u hj => ?_, fun i y u hy hu => ?_, fun u hu => ?_⟩
    · rw [e] at hj
      by_cases h7 : j < 7
      · rw [List.getElem?_append_left (by rw [fgV_length]; exact h7)] at hj
        exact hc j u hj
      · rw [List.getElem?_append_right (by rw [fgV_length]; omega), fgV_length] at hj
        have := h2 (j - 7) u hj
        have e2 : o + 7 + (j - 7) = o + j := by omega
        rwa [e2] at this
    · cases i with
      | zero =>
        simp only [List.getElem?_cons_zero, Option.some.injEq] at hy hu
        rw [← hy, ← hu]; exact hk
      | succ i => exact h3 i y u (by simpa using hy) (by simpa using hu)
    · rw [e] at hu
      rcases List.mem_append.1 hu with hu | hu
      · obtain ⟨a, c, hkv, _⟩ := hk
        unfold fgV at hu
        rw [hkv] at hu
        simp only [List.mem_cons, List.not_mem_nil, or_false] at hu
        rcases hu with rfl | rfl | rfl | rfl | rfl | rfl | rfl <;> rfl
      · exact h4 u hu
theorem infoFg : (Tryz.prog.info? 52).map (fun i => (i.zero, i.size, i.bytes)) = some (some (.agg #[.int .i64 0, .int .i64 0, .string ⟨#[]⟩, .int .i64 0, .int .i64 0, .string ⟨#[]⟩, .slice none 0 0]), 7, 88) := by kernel_rfl
end

section
open Go.RowKit

theorem flatF_append {a b : List Fg} {ka kb : List Value} (h : ka.length = a.length) : flatF (a ++ b) (ka ++ kb) = flatF a ka ++ flatF b kb := by
  unfold flatF
  rw [List.zip_append h.symm, List.flatMap_append]
theorem tkA_ge : ∀ (a : List Fg), a.length ≤ (tkA a).length
  | [] => by simp
  | x :: r => by
    have := tkA_ge r
    have := tkF_pos x
    rw [tkA_cons_len, List.length_cons]; omega
theorem frag_cells {W : World} {P : Nat → Prop} {b : Option Addr} {n c : Nat} {l : List Fg} (h : FVal W P (.slice b n c) l) : ∃ kvs : List Value, kvs.length = l.length ∧
    (l ≠ [] → ∃ g o, b = some ⟨g, o, none⟩ ∧ ∀ w', Below W.heap.size W w' → ∀ j u, (flatF l kvs)[j]? = some u → w'.cell? ((⟨g, o, none⟩ : Addr).add j) = some u) ∧ (∀ (i : Nat) (x : Fg) (u : Value), l[i]? = some x → kvs[i]? = some u → FVal W P u x.kids) ∧ ∀ u ∈ flatF l kvs, u.oneCell' = true := by
  obtain ⟨b', c', e, hr⟩ := h
  cases e
  by_cases hn : l = []
  · subst hn
    exact ⟨[], rfl, fun h => absurd rfl h, (fun i x u hx => by cases hx), (fun u hu => by simp [flatF] at hu)⟩
  · obtain ⟨g, o, rfl, _, hg, hrw⟩ := hr hn
    obtain ⟨kvs, h1, h2, h3, h4⟩ := fval_cells hrw
    refine ⟨kvs, h1, fun _ => ⟨g, o, rfl, fun w' hb j u hj => ?_⟩, h3, h4⟩
    rw [add_offs]
    exact (hb.cell (p := ⟨g, o + j, none⟩) hg).trans (h2 j u hj)
theorem concat_val {W w' : World} {P P' : Nat → Prop} {base g cap : Nat} {a b : List Fg} {ka kb : List Value} (ha : ka.length = a.length) (hb : kb.length = b.length) (h1 : ∀ (i : Nat) (x : Fg) (u : Value), a[i]? = some x → ka[i]? = some u → FVal W P u x.kids)
    (h2 : ∀ (i : Nat) (x : Fg) (u : Value), b[i]? = some x → kb[i]? = some u → FVal W P' u x.kids) (hB : Below W.heap.size W w') (ho : w'.ownsRow base 52 7 (.slice (some ⟨g, 0, none⟩) (a.length + b.length) cap) (a.length + b.length) (flatF a ka ++ flatF b kb)) :
    FVal w' (fun _ => True) (.slice (some ⟨g, 0, none⟩) (a.length + b.length) cap) (a ++ b) := by
  have hl : (a ++ b).length = a.length + b.length := List.length_append
  have hf : FOwn w' base (fun _ => True) (.slice (some ⟨g, 0, none⟩) (a.length + b.length) cap) (a ++ b) := by
    refine ⟨ka ++ kb, by rw [List.length_append, List.length_append, ha, hb], by rw [hl, flatF_append ha]; exact ho, fun i x u hx hu => ?_⟩
    by_cases hi : i < a.length
    · rw [List.getElem?_append_left hi] at hx
      rw [List.getElem?_append_left (by omega)] at hu
      exact (h1 i x u hx hu).keep (fun b p z => ⟨trivial, hB.block b z⟩) hB.size
    · rw [List.getElem?_append_right (by omega)] at hx
      rw [List.getElem?_append_right (by omega), ha] at hu
      exact (h2 _ x u hx hu).keep (fun b p z => ⟨trivial, hB.block b z⟩) hB.size
  exact hf.val (fun _ _ => trivial) (fun _ _ => trivial)
/-- Appends under a guard that lets them run. -/
theorem wpList_append_lies_g {P : Program} (w : World) {ops : Array Oper} {rest : List Oper} {o : Oper} {a : Act} {Q : Exit → Act → World → Prop} (hgd : Region.wanted o (yielded ops a.tmps) = true) (s x : Operand) (t : TypeId)
    (ho : o.op = .call { callee := .builtin .append, args := #[s, x], argTypes := #[t, t] })
    (base : Nat) (e : TypeId) (i : TypeInfo) (z : Value) (size bytes : Nat) (ht : P.underlying t = some (.slice e)) (hi : P.info? e = some i) (hz : i.zero = some z)
    (hsize : i.size = size) (hby : i.bytes = bytes) (hzs : z.cells.size = size) (hsz : 0 < size)
    (v : Value) (n : Nat) (xs : List Value) (hs : a.eval s = v) (hown : w.ownsRow base e size v n xs)
    (ad : Addr) (m c : Nat) (news : List Value) (hx : a.eval x = .slice (some ad) m c) (hl : news.length = m * size) (hnews : ∀ j u, news[j]? = some u → w.cell? (ad.add j) = some u) (h1 : ∀ u ∈ news, u.oneCell' = true)
    (hm : 0 < m) (h63 : n + m ≤ maxLen) (hbytes : (n + m) * bytes ≤ 140737488355328) (hbase : base ≤ w.heap.size) (H : Nat) (hH : w.heap.size = H)
    (h : ∀ g cap w', w'.ownsRow base e size (.slice (some ⟨g, 0, none⟩) (n + m) cap) (n + m) (xs ++ news) → w.grownBy w' v.ownBlock → (v.ownBlock = some g ∨ g = H) → g < w'.heap.size → wpList P ops Q rest (a.put o.dst (.slice (some ⟨g, 0, none⟩) (n + m) cap)) w') : wpList P ops Q (o :: rest) a w :=
  wpList_step fun _ hK => by
    rw [if_pos hgd]
    exact wp_append_lies w s x t ho base e i z size bytes ht hi hz hsize hby hzs hsz v n xs hs hown ad m c news hx hl hnews h1 hm h63 hbytes hbase H hH fun g cap w' h2 h3 h4 h5 => hK _ _ (h g cap w' h2 h3 h4 h5)
theorem wpList_append_zero_g {P : Program} {w : World} {ops : Array Oper} {rest : List Oper} {o : Oper} {a : Act} {Q : Exit → Act → World → Prop} (hgd : Region.wanted o (yielded ops a.tmps) = true) (s x : Operand) (t : TypeId)
    (ho : o.op = .call { callee := .builtin .append, args := #[s, x], argTypes := #[t, t] }) (e : TypeId) (i : TypeInfo) (ht : P.underlying t = some (.slice e)) (hi : P.info? e = some i)
    (base : Option Addr) (n c : Nat) (hs : a.eval s = .slice base n c) (hle : n ≤ c) (b2 : Option Addr) (c2 : Nat) (hx : a.eval x = .slice b2 0 c2)
    (h : wpList P ops Q rest (a.put o.dst (.slice base n c)) w) : wpList P ops Q (o :: rest) a w :=
  wpList_step fun _ hK => by
    rw [if_pos hgd]
    have hr : (Builtin.append_ #[t, t] o.type #[.slice base n c, .slice b2 0 c2]).run P w = .ok (.slice base n c) w := by
      cases b2 with
      | none => exact Go.run_append_nothing w t t o.type e i ht hi base n c hle _ (Go.Src.ofNil w ht c2)
      | some ad => exact Go.run_append_nothing w t t o.type e i ht hi base n c hle _ (Go.Src.ofSlice w ht ad 0 c2 [] (by simp) (fun j u hu => by simp at hu) (fun u hu => by cases hu))
    unfold Oper.wp execOp
    simp only [ho, resolve, invoke, builtin, Sem.run_bind, Sem.run_pure, Result.andThen_ok, List.map_toArray, List.map_cons, List.map_nil, hs, hx, hr]
    exact hK _ _ h
set_option maxRecDepth 100000 in
set_option maxHeartbeats 32000000 in
theorem parts_any (P P' : Nat → Prop) (a b : List Fg) (v0 v1 : Value) (ws : List ByteArray) (v2 : Value) (W : World) (E : Env W) (hva : FVal W P v0 a) (hvb : FVal W P' v1 b) (ha1 : a.length * 88 ≤ 140737488351232) (ha2 : FgsLe 140737488351232 a) (ha3 : FgsSz 140737488351232 a)
    (hb1 : b.length * 88 ≤ 140737488351232) (hb2 : FgsLe 140737488351232 b) (hb3 : FgsSz 140737488351232 b) (hw : SRow W v2 ws) (hwz : ∀ x ∈ ws, x.size ≤ 140737488351232) :
    Calls Tryz.prog 10 #[v0, v1, v2] W fun e w' => e = .returned (.bool true) ∧ Below W.heap.size W w' := by
  have HSN := Lib.hid (sane_any W E)
  have HCK : Hid (∀ (P : Nat → Prop) (l : List Fg) (v : Value) w', Below W.heap.size W w' → FVal w' P v l → l.length ≤ 140737488351232 → FgsLe 140737488351232 l → FgsSz 140737488351232 l → Calls Tryz.prog 30 #[v, v2] w' (ErPost (checkM l ws) w')) := Lib.hid fun P l v w' hb hv x y z => Check_any P l v ws v2 w' (E.below E.size hb) hv x y z (srow_below hw hb) hwz
  have HVA := Lib.hid (fun (w' : World) (hb : Below W.heap.size W w') => hva.below hb)
  have HVB := Lib.hid (fun (w' : World) (hb : Below W.heap.size W w') => hvb.below hb)
  have HAC : Hid (∀ w', Below W.heap.size W w' → ∀ k x, a[k]? = some x → ∃ g o, v0 = .slice (some ⟨g, o, none⟩) a.length (match v0 with | .slice _ _ c => c | _ => 0) ∧ ∃ kv, w'.cell? ⟨g, o + k * 7 + 5, none⟩ = some (.string x.opn) ∧ w'.cell? ⟨g, o + k * 7 + 6, none⟩ = some kv ∧ FVal w' P kv x.kids) := Lib.hid fun w' hb k x hx => by
    obtain ⟨ba, ca, rfl, hr⟩ := hva
    obtain ⟨g, o, rfl, _, hg, hrw⟩ := hr (by rintro rfl; cases hx)
    obtain ⟨kv, hcell, hk⟩ := (hrw.get hx).parts
    exact ⟨g, o, rfl, kv, (hb.cell (p := ⟨g, o + k * 7 + 5, none⟩) hg).trans (hcell 5 _ rfl), (hb.cell (p := ⟨g, o + k * 7 + 6, none⟩) hg).trans (hcell 6 _ rfl), hk.below hb⟩
  have HLE := Lib.hid ha2
  have HSZ := Lib.hid ha3
  have HLB := Lib.hid hb2
  have HSB := Lib.hid hb3
  have HSSA := Lib.hid (fun (w' : World) (hb : Below W.heap.size W w') => Size_any P a v0 w' (hva.below hb) (by omega) ha2)
  have HSSB := Lib.hid (fun (w' : World) (hb : Below W.heap.size W w') => Size_any P' b v1 w' (hvb.below hb) (by omega) hb2)
  have HEE := Lib.hid (fun (w' : World) (hb : Below W.heap.size W w') => ends_any P a v0 w' (hva.below hb) (by omega))
  have HRWA := Lib.hid hva
  have HRWB := Lib.hid hvb
  obtain ⟨ba, ca, rfl, _⟩ := hva
  obtain ⟨bb, cb, rfl, _⟩ := hvb
  obtain ⟨wb, wc, rfl, _⟩ := hw
  simp only at HAC
  clear E ha2 ha3 hb2 hb3 hwz
  go_enter Tryz.func10, Tryz.ntmps10
  go_wp2_with fail
  refine HSN.out.mono ?_
  rintro e w1 ⟨rfl, hb1'⟩
  have HB1 := Lib.hid hb1'
  clear hb1' HSN
  go_wp2_with fail
  refine (HCK.out P a _ w1 HB1.out (HVA.out w1 HB1.out) (by omega) HLE.out HSZ.out).mono ?_
  rintro e w2 ⟨rfl, hb2'⟩
  have HB2 := Lib.hid (HB1.out.trans (hb2'.mono HB1.out.size))
  clear hb2'
  by_cases hc1 : checkM a ws = 0
  rotate_left
  · obtain ⟨y1, y2⟩ := ne_int (show ¬ (checkM a ws : Int) = 0 by omega)
    clear hc1
    go_wp2_with fail
    exact bodyPost_ret (v := .bool true) (by simp [results, Tryz.results10, go_sem]) rfl ⟨rfl, HB2.out⟩
  have hz1 : ((checkM a ws : Nat) : Int) = 0 := by omega
  rw [hz1]
  have HCA := Lib.hid hc1
  clear hc1 hz1
  go_wp2_with fail
  refine (HCK.out P' b _ w2 HB2.out (HVB.out w2 HB2.out) (by omega) HLB.out HSB.out).mono ?_
  rintro e w3 ⟨rfl, hb3'⟩
  have HB3 := Lib.hid (HB2.out.trans (hb3'.mono HB2.out.size))
  clear hb3'
  by_cases hc2 : checkM b ws = 0
  rotate_left
  · obtain ⟨y1, y2⟩ := ne_int (show ¬ (checkM b ws : Int) = 0 by omega)
    clear hc2
    go_wp2_with fail
    exact bodyPost_ret (v := .bool true) (by simp [results, Tryz.results10, go_sem]) rfl ⟨rfl, HB3.out⟩
  have hz2 : ((checkM b ws : Nat) : Int) = 0 := by omega
  rw [hz2]
  have HCB := Lib.hid hc2
  clear hc2 hz2
  go_wp2_with fail
  refine (HEE.out w3 HB3.out).mono ?_
  rintro e w4 ⟨rfl, hb4'⟩
  have HB4 := Lib.hid (HB3.out.trans (hb4'.mono HB3.out.size))
  clear hb4' HEE
  cases hen : endsM a with
  | true =>
    have HBX := Lib.hid HB4.out
    clear hen
    go_wp2_with fail
    go_loopw [8] (fun iv wr => ∃ k : Nat, iv = .int .i64 (k : Int) ∧ Hid (k ≤ a.length ∧ Below W.heap.size W wr)) (fun iv _ => a.length - (intOf iv).toNat)
    case atStart => exact ⟨0, rfl, Lib.hid ⟨Nat.zero_le _, HBX.out⟩⟩
    case round =>
      obtain ⟨k, rfl, hr⟩ := hrel
      obtain ⟨hk, hbe⟩ := hr.out
      have w3' : IntKind.i64.wrap ((k : Int) + 1) = (k : Int) + 1 := IntWalk.i64_in _ (by omega)
      by_cases hlt : k < a.length
      · obtain ⟨x, hx⟩ : ∃ x, a[k]? = some x := ⟨_, List.getElem?_eq_getElem hlt⟩
        have hlt' : (k : Int) < (a.length : Int) := by omega
        obtain ⟨g, o, e, kv, e5, e6, hvk⟩ := HAC.out wr hbe k x hx
        have HKK : Hid (¬ x.opn = sNo → ¬ x.opn = sMacro → Calls Tryz.prog 30 #[kv, .slice wb ws.length wc] wr (fun e w' => e = .returned (.int .i64 0) ∧ Below wr.heap.size wr w')) := Lib.hid fun ho hm => by
          have hck := HCK.out _ x.kids kv wr hbe hvk (HLE.out.get hx).1 (HLE.out.get hx).2 (HSZ.out.get hx).2.2
          unfold ErPost at hck
          rw [check_kids HCA.out hx ho hm] at hck
          exact hck
        obtain ⟨ka, kc, rfl, _⟩ := hvk
        cases e
        have HBE := Lib.hid hbe
        clear hr hbe hx
        generalize x.opn = op at e5 HKK
        generalize x.kids.length = kn at e6 HKK
        by_cases ho : op = sNo
        · have o1 := (lit_eq [] ho).1
          have o2 := (lit_eq [] ho).2
          clear ho
          go_wp2_with fail
          exact ⟨⟨k + 1, by simp, Lib.hid ⟨by omega, HBE.out⟩⟩, by simp only [intOf]; omega⟩
        · have o1 := (lit_ne [] ho).1
          have o2 := (lit_ne [] ho).2
          by_cases hm : op = sMacro
          · have p1 := (lit_eq [109, 97, 99, 114, 111] hm).1
            have p2 := (lit_eq [109, 97, 99, 114, 111] hm).2
            clear ho hm
            go_wp2_with fail
            exact ⟨⟨k + 1, by simp, Lib.hid ⟨by omega, HBE.out⟩⟩, by simp only [intOf]; omega⟩
          · have p1 := (lit_ne [109, 97, 99, 114, 111] hm).1
            have p2 := (lit_ne [109, 97, 99, 114, 111] hm).2
            have HK2 := Lib.hid (HKK.out ho hm)
            clear ho hm HKK
            go_wp2_with fail
            refine HK2.out.mono ?_
            rintro e w9 ⟨rfl, hb9⟩
            have HB9 := Lib.hid (HBE.out.trans (hb9.mono HBE.out.size))
            clear hb9 HK2
            go_wp2_with fail
            exact ⟨⟨k + 1, by simp, Lib.hid ⟨by omega, HB9.out⟩⟩, by simp only [intOf]; omega⟩
      · have hlt' : ((k : Int) < (a.length : Int)) = False := by simp; omega
        have HBE := Lib.hid hbe
        clear hr hbe
        go_wp2_with fail
        exact bodyPost_ret (v := .bool true) (by simp [results, Tryz.results10, go_sem]) rfl ⟨rfl, HBE.out⟩
  | false =>
    have HEN := Lib.hid hen
    clear hen
    go_wp2_with fail
    refine (HSSA.out w4 HB4.out).mono ?_
    rintro e w5 ⟨rfl, hb5'⟩
    have HB5 := Lib.hid (HB4.out.trans (hb5'.mono HB4.out.size))
    clear hb5'
    go_wp2_with fail
    refine (HSSB.out w5 HB5.out).mono ?_
    rintro e w6 ⟨rfl, hb6'⟩
    have HB6 := Lib.hid (HB5.out.trans (hb6'.mono HB5.out.size))
    have hsa : sizeM a ≤ 6001 := by unfold sizeM; omega
    have hsb : sizeM b ≤ 6001 := by unfold sizeM; omega
    have wad : IntKind.i64.wrap ((sizeM a : Int) + (sizeM b : Int)) = (sizeM a : Int) + (sizeM b : Int) := IntWalk.i64_in _ (by omega)
    clear hb6' HSSA HSSB
    by_cases hsum : sizeM a + sizeM b ≤ 6000
    rotate_left
    · have hs1 : ((sizeM a : Int) + (sizeM b : Int) ≤ 6000) = False := by simp; omega
      have HBX := Lib.hid HB6.out
      clear hsum
      go_wp2_with fail
      go_loopw [8] (fun iv wr => ∃ k : Nat, iv = .int .i64 (k : Int) ∧ Hid (k ≤ a.length ∧ Below W.heap.size W wr)) (fun iv _ => a.length - (intOf iv).toNat)
      case atStart => exact ⟨0, rfl, Lib.hid ⟨Nat.zero_le _, HBX.out⟩⟩
      case round =>
        obtain ⟨k, rfl, hr⟩ := hrel
        obtain ⟨hk, hbe⟩ := hr.out
        have w3' : IntKind.i64.wrap ((k : Int) + 1) = (k : Int) + 1 := IntWalk.i64_in _ (by omega)
        by_cases hlt : k < a.length
        · obtain ⟨x, hx⟩ : ∃ x, a[k]? = some x := ⟨_, List.getElem?_eq_getElem hlt⟩
          have hlt' : (k : Int) < (a.length : Int) := by omega
          obtain ⟨g, o, e, kv, e5, e6, hvk⟩ := HAC.out wr hbe k x hx
          have HKK : Hid (¬ x.opn = sNo → ¬ x.opn = sMacro → Calls Tryz.prog 30 #[kv, .slice wb ws.length wc] wr (fun e w' => e = .returned (.int .i64 0) ∧ Below wr.heap.size wr w')) := Lib.hid fun ho hm => by
            have hck := HCK.out _ x.kids kv wr hbe hvk (HLE.out.get hx).1 (HLE.out.get hx).2 (HSZ.out.get hx).2.2
            unfold ErPost at hck
            rw [check_kids HCA.out hx ho hm] at hck
            exact hck
          obtain ⟨ka, kc, rfl, _⟩ := hvk
          cases e
          have HBE := Lib.hid hbe
          clear hr hbe hx
          generalize x.opn = op at e5 HKK
          generalize x.kids.length = kn at e6 HKK
          by_cases ho : op = sNo
          · have o1 := (lit_eq [] ho).1
            have o2 := (lit_eq [] ho).2
            clear ho
            go_wp2_with fail
            exact ⟨⟨k + 1, by simp, Lib.hid ⟨by omega, HBE.out⟩⟩, by simp only [intOf]; omega⟩
          · have o1 := (lit_ne [] ho).1
            have o2 := (lit_ne [] ho).2
            by_cases hm : op = sMacro
            · have p1 := (lit_eq [109, 97, 99, 114, 111] hm).1
              have p2 := (lit_eq [109, 97, 99, 114, 111] hm).2
              clear ho hm
              go_wp2_with fail
              exact ⟨⟨k + 1, by simp, Lib.hid ⟨by omega, HBE.out⟩⟩, by simp only [intOf]; omega⟩
            · have p1 := (lit_ne [109, 97, 99, 114, 111] hm).1
              have p2 := (lit_ne [109, 97, 99, 114, 111] hm).2
              have HK2 := Lib.hid (HKK.out ho hm)
              clear ho hm HKK
              go_wp2_with fail
              refine HK2.out.mono ?_
              rintro e w9 ⟨rfl, hb9⟩
              have HB9 := Lib.hid (HBE.out.trans (hb9.mono HBE.out.size))
              clear hb9 HK2
              go_wp2_with fail
              exact ⟨⟨k + 1, by simp, Lib.hid ⟨by omega, HB9.out⟩⟩, by simp only [intOf]; omega⟩
        · have hlt' : ((k : Int) < (a.length : Int)) = False := by simp; omega
          have HBE := Lib.hid hbe
          clear hr hbe
          go_wp2_with fail
          exact bodyPost_ret (v := .bool true) (by simp [results, Tryz.results10, go_sem]) rfl ⟨rfl, HBE.out⟩
    have hs1 : (sizeM a : Int) + (sizeM b : Int) ≤ 6000 := by omega
    have HCC := Lib.hid (check_concat HCA.out HCB.out HEN.out hsum)
    clear hsum hsa hsb
    have hck : ∀ (g cap : Nat) (w' : World), Below W.heap.size W w' → FVal w' (fun _ => True) (.slice (some ⟨g, 0, none⟩) (a.length + b.length) cap) (a ++ b) → Calls Tryz.prog 30 #[.slice (some ⟨g, 0, none⟩) (a.length + b.length) cap, .slice wb ws.length wc] w' (fun e w'' => e = .returned (.int .i64 0) ∧ Below w'.heap.size w' w'') := fun g cap w' hb hv => by
      have h := HCK.out _ (a ++ b) _ w' hb hv (by rw [List.length_append]; omega) (HLE.out.append HLB.out) (HSZ.out.append HSB.out)
      unfold ErPost at h
      rw [HCC.out] at h
      exact h
    obtain ⟨i0, hi, hz0, hz1, hz2⟩ := info_parts infoFg
    have HOW := Lib.hid (World.ownsRow_lit (base := w6.heap.size) (e := 52) (size := 7) w6 #[] 0 (Nat.le_refl _) (by omega) rfl)
    have HB8 := Lib.hid (HB6.out.alloc HB6.out.size (.cells #[] 52))
    obtain ⟨kva, ka1, ka2, ka3, ka4⟩ := frag_cells HRWA.out
    obtain ⟨kvb, kb1, kb2, kb3, kb4⟩ := frag_cells HRWB.out
    have HA1L := Lib.hid (flatF_length ka1)
    have HB1L := Lib.hid (flatF_length kb1)
    have HA3C := Lib.hid ka4
    have HB3C := Lib.hid kb4
    have HM0 : Hid (0 + a.length ≤ maxLen) := Lib.hid (by unfold maxLen; omega)
    have HM1 : Hid ((0 + a.length) * 88 ≤ 140737488355328) := Lib.hid (by omega)
    have hab : a.length + b.length ≤ 12000 := by
      have h1 := (check_parts HCA.out).2.2
      have h2 := (check_parts HCB.out).2.2
      have h3 := tkA_ge a
      have h4 := tkA_ge b
      omega
    have HM2 : Hid (a.length + b.length ≤ maxLen) := Lib.hid (by unfold maxLen; omega)
    have HM3 : Hid ((a.length + b.length) * 88 ≤ 140737488355328) := Lib.hid (by omega)
    clear ka4 kb4 hab
    by_cases han : a = []
    · subst han
      have hckb : ∀ (g cap : Nat) (w' : World), Below W.heap.size W w' → FVal w' (fun _ => True) (.slice (some ⟨g, 0, none⟩) b.length cap) b → Calls Tryz.prog 30 #[.slice (some ⟨g, 0, none⟩) b.length cap, .slice wb ws.length wc] w' (fun e w'' => e = .returned (.int .i64 0) ∧ Below w'.heap.size w' w'') := fun g cap w' hb hv => by
        have h := hck g cap w' hb (by simpa using hv)
        simpa using h
      have HM4 : Hid (0 + b.length ≤ maxLen) := Lib.hid (by have := HM2.out; simpa using this)
      have HM5 : Hid ((0 + b.length) * 88 ≤ 140737488355328) := Lib.hid (by have := HM3.out; simpa using this)
      simp only [List.length_nil] at *
      clear ka2
      by_cases hbn : b = []
      · subst hbn
        have hc0 := hckb w6.heap.size 0 _ HB8.out (FVal.nil _ _ _ _)
        simp only [List.length_nil] at *
        clear kb2
        go_wp2_with (first | (at_builtin; (refine wpList_append_zero_g (by rfl) _ _ 25 rfl 52 i0 Tryz.underlying25 hi (some ⟨w6.heap.size, 0, none⟩) 0 0 rfl (Nat.le_refl _) ba ca rfl ?_)) | (at_builtin; (refine wpList_append_zero_g (by rfl) _ _ 25 rfl 52 i0 Tryz.underlying25 hi (some ⟨w6.heap.size, 0, none⟩) 0 0 rfl (Nat.le_refl _) bb cb rfl ?_)))
        refine hc0.mono ?_
        clear hc0 hckb
        rintro e w9 ⟨rfl, hb9⟩
        have HBX := Lib.hid (HB8.out.trans (hb9.mono HB8.out.size))
        clear hb9 hck ka1 kb1 ka3 kb3
        go_wp2_with fail
        go_loopw [8] (fun iv wr => iv = .int .i64 0 ∧ Hid (Below W.heap.size W wr)) (fun _ _ => 0)
        case atStart => exact ⟨rfl, HBX⟩
        case round =>
          obtain ⟨rfl, HBE⟩ := hrel
          go_wp2_with fail
          exact bodyPost_ret (v := .bool true) (by simp [results, Tryz.results10, go_sem]) rfl ⟨rfl, HBE.out⟩
      · obtain ⟨gb, ob, rfl, hb2c⟩ := kb2 hbn
        have HB2C := Lib.hid hb2c
        have HB4P : Hid (0 < b.length) := Lib.hid (List.length_pos_iff.2 hbn)
        clear kb2 hb2c hbn
        go_wp2_with (first | (at_builtin; (refine wpList_append_lies_g _ (by rfl) _ _ 25 rfl w6.heap.size 52 i0 _ 7 88 Tryz.underlying25 hi hz0 hz1 hz2 rfl (by omega) (.slice (some ⟨w6.heap.size, 0, none⟩) 0 0) 0 _ rfl HOW.out ⟨gb, ob, none⟩ b.length _ (flatF b kvb) rfl HB1L.out (HB2C.out _ HB8.out) HB3C.out HB4P.out HM4.out HM5.out (by simp) (w6.heap.size + 1) (by simp) ?_); intro g5 cap5 w8 hown5 hgrow5 hat5 hlt5; have HO5 := Lib.hid hown5; have HBZ := Lib.hid (HB8.out.grown hgrow5 (by have := HB8.out.size; omega) (fun k hk => by have := (HOW.out.lt k hk).1; have := HB6.out.size; omega)); clear hown5 hgrow5 hat5 hlt5; simp only [Nat.zero_add, List.nil_append] at HO5 ⊢) | (at_builtin; (refine wpList_append_zero_g (by rfl) _ _ 25 rfl 52 i0 Tryz.underlying25 hi (some ⟨w6.heap.size, 0, none⟩) 0 0 rfl (Nat.le_refl _) ba ca rfl ?_)))
        refine (hckb _ _ _ HBZ.out (by have h := concat_val (a := []) (ka := kva) ka1 kb1 ka3 kb3 HBZ.out (g := g5) (cap := cap5) (base := w6.heap.size) (by have h2 := HO5.out; simpa [flatF] using h2); simpa using h)).mono ?_
        clear hckb
        rintro e w9 ⟨rfl, hb9⟩
        have HBX := Lib.hid (HBZ.out.trans (hb9.mono HBZ.out.size))
        clear hb9 hck ka1 kb1 ka3 kb3
        go_wp2_with fail
        go_loopw [8] (fun iv wr => iv = .int .i64 0 ∧ Hid (Below W.heap.size W wr)) (fun _ _ => 0)
        case atStart => exact ⟨rfl, HBX⟩
        case round =>
          obtain ⟨rfl, HBE⟩ := hrel
          go_wp2_with fail
          exact bodyPost_ret (v := .bool true) (by simp [results, Tryz.results10, go_sem]) rfl ⟨rfl, HBE.out⟩
    · obtain ⟨ga, oa, rfl, ha2c⟩ := ka2 han
      have HA2C := Lib.hid ha2c
      have HA4P : Hid (0 < a.length) := Lib.hid (List.length_pos_iff.2 han)
      clear ka2 ha2c han
      by_cases hbn : b = []
      · subst hbn
        have hckb : ∀ (g cap : Nat) (w' : World), Below W.heap.size W w' → FVal w' (fun _ => True) (.slice (some ⟨g, 0, none⟩) a.length cap) a → Calls Tryz.prog 30 #[.slice (some ⟨g, 0, none⟩) a.length cap, .slice wb ws.length wc] w' (fun e w'' => e = .returned (.int .i64 0) ∧ Below w'.heap.size w' w'') := fun g cap w' hb hv => by
          have h := hck g cap w' hb (by simpa using hv)
          simpa using h
        simp only [List.length_nil] at *
        clear kb2
        go_wp2_with (first | (at_builtin; (refine wpList_append_zero_g (by rfl) _ _ 25 rfl 52 i0 Tryz.underlying25 hi (some ⟨g3, 0, none⟩) a.length cap3 rfl HCP.out bb cb rfl ?_)) | ((at_builtin; (refine wpList_append_lies_g _ (by rfl) _ _ 25 rfl w6.heap.size 52 i0 _ 7 88 Tryz.underlying25 hi hz0 hz1 hz2 rfl (by omega) (.slice (some ⟨w6.heap.size, 0, none⟩) 0 0) 0 _ rfl HOW.out ⟨ga, oa, none⟩ a.length _ (flatF a kva) rfl HA1L.out (HA2C.out _ HB8.out) HA3C.out HA4P.out HM0.out HM1.out (by simp) (w6.heap.size + 1) (by simp) ?_); intro g3 cap3 w7 hown3 hgrow3 hat3 hlt3; have HO3 := Lib.hid hown3; have HB9 := Lib.hid (HB8.out.grown hgrow3 (by have := HB8.out.size; omega) (fun k hk => by have := (HOW.out.lt k hk).1; have := HB6.out.size; omega)); clear hown3 hgrow3 hat3 hlt3; simp only [Nat.zero_add, List.nil_append] at HO3 ⊢); have HCP : Hid (a.length ≤ cap3) := Lib.hid (own_cap HO3.out); have HS3 : Hid (w6.heap.size ≤ w7.heap.size) := Lib.hid (by have := (HO3.out.lt g3 rfl); omega)))
        refine (hckb _ _ _ HB9.out (by have h := concat_val (b := []) (kb := kvb) ka1 kb1 ka3 kb3 HB9.out (g := g3) (cap := cap3) (base := w6.heap.size) (by have h2 := HO3.out; simpa [flatF] using h2); simpa using h)).mono ?_
        clear hckb
        rintro e w9 ⟨rfl, hb9⟩
        have HBX := Lib.hid (HB9.out.trans (hb9.mono HB9.out.size))
        clear hb9 hck ka1 kb1 ka3 kb3
        go_wp2_with fail
        go_loopw [8] (fun iv wr => ∃ k : Nat, iv = .int .i64 (k : Int) ∧ Hid (k ≤ a.length ∧ Below W.heap.size W wr)) (fun iv _ => a.length - (intOf iv).toNat)
        case atStart => exact ⟨0, rfl, Lib.hid ⟨Nat.zero_le _, HBX.out⟩⟩
        case round =>
          obtain ⟨k, rfl, hr⟩ := hrel
          obtain ⟨hk, hbe⟩ := hr.out
          have w3' : IntKind.i64.wrap ((k : Int) + 1) = (k : Int) + 1 := IntWalk.i64_in _ (by omega)
          by_cases hlt : k < a.length
          · obtain ⟨x, hx⟩ : ∃ x, a[k]? = some x := ⟨_, List.getElem?_eq_getElem hlt⟩
            have hlt' : (k : Int) < (a.length : Int) := by omega
            obtain ⟨g, o, e, kv, e5, e6, hvk⟩ := HAC.out wr hbe k x hx
            have HKK : Hid (¬ x.opn = sNo → ¬ x.opn = sMacro → Calls Tryz.prog 30 #[kv, .slice wb ws.length wc] wr (fun e w' => e = .returned (.int .i64 0) ∧ Below wr.heap.size wr w')) := Lib.hid fun ho hm => by
              have hck := HCK.out _ x.kids kv wr hbe hvk (HLE.out.get hx).1 (HLE.out.get hx).2 (HSZ.out.get hx).2.2
              unfold ErPost at hck
              rw [check_kids HCA.out hx ho hm] at hck
              exact hck
            obtain ⟨ka, kc, rfl, _⟩ := hvk
            cases e
            have HBE := Lib.hid hbe
            clear hr hbe hx
            generalize x.opn = op at e5 HKK
            generalize x.kids.length = kn at e6 HKK
            by_cases ho : op = sNo
            · have o1 := (lit_eq [] ho).1
              have o2 := (lit_eq [] ho).2
              clear ho
              go_wp2_with fail
              exact ⟨⟨k + 1, by simp, Lib.hid ⟨by omega, HBE.out⟩⟩, by simp only [intOf]; omega⟩
            · have o1 := (lit_ne [] ho).1
              have o2 := (lit_ne [] ho).2
              by_cases hm : op = sMacro
              · have p1 := (lit_eq [109, 97, 99, 114, 111] hm).1
                have p2 := (lit_eq [109, 97, 99, 114, 111] hm).2
                clear ho hm
                go_wp2_with fail
                exact ⟨⟨k + 1, by simp, Lib.hid ⟨by omega, HBE.out⟩⟩, by simp only [intOf]; omega⟩
              · have p1 := (lit_ne [109, 97, 99, 114, 111] hm).1
                have p2 := (lit_ne [109, 97, 99, 114, 111] hm).2
                have HK2 := Lib.hid (HKK.out ho hm)
                clear ho hm HKK
                go_wp2_with fail
                refine HK2.out.mono ?_
                rintro e w9 ⟨rfl, hb9⟩
                have HB9 := Lib.hid (HBE.out.trans (hb9.mono HBE.out.size))
                clear hb9 HK2
                go_wp2_with fail
                exact ⟨⟨k + 1, by simp, Lib.hid ⟨by omega, HB9.out⟩⟩, by simp only [intOf]; omega⟩
          · have hlt' : ((k : Int) < (a.length : Int)) = False := by simp; omega
            have HBE := Lib.hid hbe
            clear hr hbe
            go_wp2_with fail
            exact bodyPost_ret (v := .bool true) (by simp [results, Tryz.results10, go_sem]) rfl ⟨rfl, HBE.out⟩
      · obtain ⟨gb, ob, rfl, hb2c⟩ := kb2 hbn
        have HB2C := Lib.hid hb2c
        have HB4P : Hid (0 < b.length) := Lib.hid (List.length_pos_iff.2 hbn)
        clear kb2 hb2c hbn
        go_wp2_with (first | (at_builtin; (refine wpList_append_lies_g _ (by rfl) _ _ 25 rfl w6.heap.size 52 i0 _ 7 88 Tryz.underlying25 hi hz0 hz1 hz2 rfl (by omega) (.slice (some ⟨g3, 0, none⟩) a.length cap3) a.length _ rfl HO3.out ⟨gb, ob, none⟩ b.length _ (flatF b kvb) rfl HB1L.out (HB2C.out _ HB9.out) HB3C.out HB4P.out HM2.out HM3.out HS3.out w7.heap.size rfl ?_); intro g5 cap5 w8 hown5 hgrow5 hat5 hlt5; have HO5 := Lib.hid hown5; have HBZ := Lib.hid (HB9.out.grown hgrow5 HB9.out.size (fun k hk => by have := (HO3.out.lt k hk).1; have := HB6.out.size; omega)); clear hown5 hgrow5 hat5 hlt5) | ((at_builtin; (refine wpList_append_lies_g _ (by rfl) _ _ 25 rfl w6.heap.size 52 i0 _ 7 88 Tryz.underlying25 hi hz0 hz1 hz2 rfl (by omega) (.slice (some ⟨w6.heap.size, 0, none⟩) 0 0) 0 _ rfl HOW.out ⟨ga, oa, none⟩ a.length _ (flatF a kva) rfl HA1L.out (HA2C.out _ HB8.out) HA3C.out HA4P.out HM0.out HM1.out (by simp) (w6.heap.size + 1) (by simp) ?_); intro g3 cap3 w7 hown3 hgrow3 hat3 hlt3; have HO3 := Lib.hid hown3; have HB9 := Lib.hid (HB8.out.grown hgrow3 (by have := HB8.out.size; omega) (fun k hk => by have := (HOW.out.lt k hk).1; have := HB6.out.size; omega)); clear hown3 hgrow3 hat3 hlt3; simp only [Nat.zero_add, List.nil_append] at HO3 ⊢); have HCP : Hid (a.length ≤ cap3) := Lib.hid (own_cap HO3.out); have HS3 : Hid (w6.heap.size ≤ w7.heap.size) := Lib.hid (by have := (HO3.out.lt g3 rfl); omega)))
        refine (hck _ _ _ HBZ.out (concat_val ka1 kb1 ka3 kb3 HBZ.out HO5.out)).mono ?_
        rintro e w9 ⟨rfl, hb9⟩
        have HBX := Lib.hid (HBZ.out.trans (hb9.mono HBZ.out.size))
        clear hb9 hck ka1 kb1 ka3 kb3
        go_wp2_with fail
        go_loopw [8] (fun iv wr => ∃ k : Nat, iv = .int .i64 (k : Int) ∧ Hid (k ≤ a.length ∧ Below W.heap.size W wr)) (fun iv _ => a.length - (intOf iv).toNat)
        case atStart => exact ⟨0, rfl, Lib.hid ⟨Nat.zero_le _, HBX.out⟩⟩
        case round =>
          obtain ⟨k, rfl, hr⟩ := hrel
          obtain ⟨hk, hbe⟩ := hr.out
          have w3' : IntKind.i64.wrap ((k : Int) + 1) = (k : Int) + 1 := IntWalk.i64_in _ (by omega)
          by_cases hlt : k < a.length
          · obtain ⟨x, hx⟩ : ∃ x, a[k]? = some x := ⟨_, List.getElem?_eq_getElem hlt⟩
            have hlt' : (k : Int) < (a.length : Int) := by omega
            obtain ⟨g, o, e, kv, e5, e6, hvk⟩ := HAC.out wr hbe k x hx
            have HKK : Hid (¬ x.opn = sNo → ¬ x.opn = sMacro → Calls Tryz.prog 30 #[kv, .slice wb ws.length wc] wr (fun e w' => e = .returned (.int .i64 0) ∧ Below wr.heap.size wr w')) := Lib.hid fun ho hm => by
              have hck := HCK.out _ x.kids kv wr hbe hvk (HLE.out.get hx).1 (HLE.out.get hx).2 (HSZ.out.get hx).2.2
              unfold ErPost at hck
              rw [check_kids HCA.out hx ho hm] at hck
              exact hck
            obtain ⟨ka, kc, rfl, _⟩ := hvk
            cases e
            have HBE := Lib.hid hbe
            clear hr hbe hx
            generalize x.opn = op at e5 HKK
            generalize x.kids.length = kn at e6 HKK
            by_cases ho : op = sNo
            · have o1 := (lit_eq [] ho).1
              have o2 := (lit_eq [] ho).2
              clear ho
              go_wp2_with fail
              exact ⟨⟨k + 1, by simp, Lib.hid ⟨by omega, HBE.out⟩⟩, by simp only [intOf]; omega⟩
            · have o1 := (lit_ne [] ho).1
              have o2 := (lit_ne [] ho).2
              by_cases hm : op = sMacro
              · have p1 := (lit_eq [109, 97, 99, 114, 111] hm).1
                have p2 := (lit_eq [109, 97, 99, 114, 111] hm).2
                clear ho hm
                go_wp2_with fail
                exact ⟨⟨k + 1, by simp, Lib.hid ⟨by omega, HBE.out⟩⟩, by simp only [intOf]; omega⟩
              · have p1 := (lit_ne [109, 97, 99, 114, 111] hm).1
                have p2 := (lit_ne [109, 97, 99, 114, 111] hm).2
                have HK2 := Lib.hid (HKK.out ho hm)
                clear ho hm HKK
                go_wp2_with fail
                refine HK2.out.mono ?_
                rintro e w9 ⟨rfl, hb9⟩
                have HB9 := Lib.hid (HBE.out.trans (hb9.mono HBE.out.size))
                clear hb9 HK2
                go_wp2_with fail
                exact ⟨⟨k + 1, by simp, Lib.hid ⟨by omega, HB9.out⟩⟩, by simp only [intOf]; omega⟩
          · have hlt' : ((k : Int) < (a.length : Int)) = False := by simp; omega
            have HBE := Lib.hid hbe
            clear hr hbe
            go_wp2_with fail
            exact bodyPost_ret (v := .bool true) (by simp [results, Tryz.results10, go_sem]) rfl ⟨rfl, HBE.out⟩
end

end Go.Proofs.YtcokdapnafgnpaaGreatDoor
