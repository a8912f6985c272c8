/-
  lists.All over strings with a set; the set as a map.
-/
import Derived.Test.YtolopideimnbgaaHA
namespace Go.Proofs.Ytolopideimnbgaa
open Go.RowKit

/-- A set of strings as a map. -/
def setF (l : List ByteArray) (s : ByteArray) : Option Value := if s ∈ l then some (.bool true) else none
theorem setF_getD (l : List ByteArray) (s : ByteArray) : (setF l s).getD (.bool false) = .bool (decide (s ∈ l)) := by
  unfold setF
  by_cases h : s ∈ l <;> simp [h]
theorem zero_bool (W : World) : (zeroValue 4).run Try.prog W = .ok (.bool false) W := by kernel_rfl
theorem set_look {W : World} {mb : Nat} {l : List ByteArray} (h : MapF W mb (setF l)) (s : ByteArray) :
    (Instr.lookup 67 (.map (some mb)) (.string s) false).run Try.prog W = .ok (.bool (decide (s ∈ l))) W := by
  rw [h.look Try.underlying67 Try.underlying9 (zero_bool W) s, setF_getD]
theorem set_upd {W : World} {mb : Nat} {l : List ByteArray} (h : MapF W mb (setF l)) (s : ByteArray) :
    ∃ o, ∀ W' : World, W'.heap[mb]? = W.heap[mb]? → (Instr.mapUpdate 67 (.map (some mb)) (.string s) (.bool true)).run Try.prog W' = .ok () (W'.putObj mb o) ∧ MapF (W'.putObj mb o) mb (setF (l ++ [s])) := by
  obtain ⟨o, ho⟩ := h.upd Try.underlying67 Try.underlying9 s (.bool true)
  refine ⟨o, fun W' hb => ⟨(ho W' hb).1, (ho W' hb).2.ext fun t => ?_⟩⟩
  unfold setF
  by_cases e : s = t
  · subst e; simp
  · have : ¬ t = s := fun h => e h.symm
    simp [e, this]
theorem set_new (W : World) (mb : Nat) (h : mb = W.heap.size) : MapF (W.alloc (.map #[] 0)) mb (setF []) := (MapF.new W mb h).ext fun s => by simp [setF]

/-- areSupers's own function: does a name stand ahead? -/
theorem known_any (bx mb : Nat) (l : List ByteArray) (s : ByteArray) (W : World) (hx : W.cell? ⟨bx, 0, none⟩ = some (.map (some mb))) (hm : MapF W mb (setF l)) :
    Calls Try.prog 71 #[.string s, .pointer (some ⟨bx, 0, none⟩)] W fun e w' => e = .returned (.bool (decide (s ∈ l))) ∧ W = w' := by
  have hl := set_look hm s
  clear hm
  go_enter Try.func71, Try.ntmps71
  go_wp2_with fail
  exact bodyPost_ret (v := .bool (decide (s ∈ l))) (by simp [results, Try.results71, go_sem]) rfl ⟨rfl, rfl⟩
theorem notKnown_any (fx bx mb : Nat) (l : List ByteArray) (s : ByteArray) (W : World) (hf : W.cell? ⟨fx, 0, none⟩ = some (.func (.func 71) #[] #[.pointer (some ⟨bx, 0, none⟩)])) (hx : W.cell? ⟨bx, 0, none⟩ = some (.map (some mb))) (hm : MapF W mb (setF l)) :
    Calls Try.prog 85 #[.string s, .pointer (some ⟨fx, 0, none⟩)] W fun e w' => e = .returned (.bool (!decide (s ∈ l))) ∧ W = w' := by
  have hk := known_any bx mb l s W hx hm
  clear hm hx
  go_enter Try.func85, Try.ntmps85
  go_wp2_with fail
  refine hk.mono ?_
  rintro e w' ⟨rfl, rfl⟩
  go_wp2_with fail
  exact bodyPost_ret (v := .bool (!decide (s ∈ l))) (by simp [results, Try.results85, go_sem]) rfl ⟨rfl, rfl⟩
/-- Where the first string lies that is not in the set. -/
def idxNot (l : List ByteArray) : List ByteArray → Int → Int
  | [], _ => -1
  | s :: r, k => if s ∈ l then idxNot l r (k + 1) else k
theorem idxNot_all (l : List ByteArray) : ∀ (r : List ByteArray) (k : Int), 0 ≤ k → (0 ≤ idxNot l r k ↔ ¬ ∀ s ∈ r, s ∈ l)
  | [], k, _ => by simp [idxNot]
  | s :: r, k, hk => by
    unfold idxNot
    by_cases h : s ∈ l
    · rw [if_pos h, idxNot_all l r (k + 1) (by omega)]; simp [h]
    · rw [if_neg h]; simp [h, hk]
theorem idxNot_at {l r : List ByteArray} {k : Nat} {s : ByteArray} (h : r[k]? = some s) : idxNot l (r.drop k) k = if s ∈ l then idxNot l (r.drop (k + 1)) ((k + 1 : Nat) : Int) else (k : Int) := by
  have hk := (List.getElem?_eq_some_iff.1 h)
  rw [List.drop_eq_getElem_cons hk.1, hk.2]
  rfl
set_option maxRecDepth 100000 in
theorem indexNot_any (fx bx mb : Nat) (l r : List ByteArray) (Q : Nat → Prop) (v : Value) (W : World) (hr : SRow W Q v r) (hn : r.length ≤ 140737488351232) (hf : W.cell? ⟨fx, 0, none⟩ = some (.func (.func 71) #[] #[.pointer (some ⟨bx, 0, none⟩)])) (hx : W.cell? ⟨bx, 0, none⟩ = some (.map (some mb))) (hm : MapF W mb (setF l)) :
    Calls Try.prog 89 #[v, .func (.func 85) #[] #[.pointer (some ⟨fx, 0, none⟩)]] W fun e w' => e = .returned (.int .i64 (idxNot l r 0)) ∧ W = w' := by
  have HK := Lib.hid fun s => notKnown_any fx bx mb l s W hf hx hm
  obtain ⟨b, c, rfl, hrow⟩ := hr
  clear hf hx hm
  go_enter Try.func89, Try.ntmps89
  go_wp2_with fail
  go_loop [8] (fun i => ∃ k : Nat, k ≤ r.length ∧ i = .int .i64 (k : Int) ∧ Hid (idxNot l r 0 = idxNot l (r.drop k) k)) (fun i => r.length - (intOf i).toNat)
  case atStart => exact ⟨0, by omega, rfl, Lib.hid (by simp)⟩
  case round =>
    obtain ⟨k, hk, rfl, hi⟩ := hrel
    by_cases hlt : k < r.length
    · obtain ⟨s, hs⟩ : ∃ s, r[k]? = some s := ⟨_, List.getElem?_eq_getElem hlt⟩
      obtain ⟨g, o, rfl, _, _, hat, _⟩ := hrow (by rintro rfl; simp at hlt)
      have e0 := hat k s hs
      have hl : (k : Int) < (r.length : Int) := by omega
      have w3 : IntKind.i64.wrap ((k : Int) + 1) = (k : Int) + 1 := IntWalk.i64_in _ (by omega)
      have HE := Lib.hid (hi.out.trans (idxNot_at (l := l) hs))
      have hks := HK.out s
      clear hat hs hi
      by_cases he : s ∈ l
      · have HN : Hid (idxNot l r 0 = idxNot l (r.drop (k + 1)) ((k + 1 : Nat) : Int)) := Lib.hid (by rw [HE.out, if_pos he])
        rw [decide_eq_true he] at hks
        clear he HE
        go_wp2_with fail
        refine hks.mono ?_
        rintro e w' ⟨rfl, rfl⟩
        go_wp2_with fail
        go_round
        case rel => exact ⟨k + 1, by omega, by go_num, HN⟩
        case measure => simp [intOf]; omega
      · have HN : Hid (idxNot l r 0 = (k : Int)) := Lib.hid (by rw [HE.out, if_neg he])
        rw [decide_eq_false he] at hks
        clear he HE
        go_wp2_with fail
        refine hks.mono ?_
        rintro e w' ⟨rfl, rfl⟩
        go_wp2_with fail
        exact bodyPost_ret (v := .int .i64 (k : Int)) (by simp [results, Try.results89, go_sem]) rfl ⟨by rw [HN.out], rfl⟩
    · have hl : ((k : Int) < (r.length : Int)) = False := by simp; omega
      have HN : Hid (idxNot l r 0 = -1) := Lib.hid (by rw [hi.out, List.drop_eq_nil_of_le (by omega)]; rfl)
      go_wp2_with fail
      exact bodyPost_ret (v := .int .i64 (-1)) (by simp [results, Try.results89, go_sem]) rfl ⟨by rw [HN.out], rfl⟩
theorem containsNot_any (fx bx mb : Nat) (l r : List ByteArray) (Q : Nat → Prop) (v : Value) (W : World) (hr : SRow W Q v r) (hn : r.length ≤ 140737488351232) (hf : W.cell? ⟨fx, 0, none⟩ = some (.func (.func 71) #[] #[.pointer (some ⟨bx, 0, none⟩)])) (hx : W.cell? ⟨bx, 0, none⟩ = some (.map (some mb))) (hm : MapF W mb (setF l)) :
    Calls Try.prog 84 #[v, .func (.func 85) #[] #[.pointer (some ⟨fx, 0, none⟩)]] W fun e w' => e = .returned (.bool (!decide (∀ s ∈ r, s ∈ l))) ∧ W = w' := by
  have hi := indexNot_any fx bx mb l r Q v W hr hn hf hx hm
  obtain ⟨b, c, rfl, hrow⟩ := hr
  have ha := idxNot_all l r 0 (Int.le_refl _)
  generalize idxNot l r 0 = n at *
  have hb : decide (0 ≤ n) = (!decide (∀ s ∈ r, s ∈ l)) := by
    by_cases h : ∀ s ∈ r, s ∈ l
    · rw [decide_eq_true h, decide_eq_false (fun h' => ha.1 h' h)]; rfl
    · rw [decide_eq_false h, decide_eq_true (ha.2 h)]; rfl
  have HB := Lib.hid hb
  clear ha hb hrow hf hx hm
  go_enter Try.func84, Try.ntmps84
  go_wp2_with fail
  refine hi.mono ?_
  rintro e w' ⟨rfl, rfl⟩
  go_wp2_with fail
  refine bodyPost_ret (v := .bool (decide (0 ≤ n))) (by simp [results, Try.results84, go_sem]) rfl ⟨by rw [HB.out], rfl⟩
theorem allKnown_any (bx mb : Nat) (l r : List ByteArray) (Q : Nat → Prop) (v : Value) (W : World) (hr : SRow W Q v r) (hn : r.length ≤ 140737488351232) (hxz : bx < W.heap.size) (hx : W.cell? ⟨bx, 0, none⟩ = some (.map (some mb))) (hm : MapF W mb (setF l)) :
    Calls Try.prog 72 #[v, .func (.func 71) #[] #[.pointer (some ⟨bx, 0, none⟩)]] W fun e w' => e = .returned (.bool (decide (∀ s ∈ r, s ∈ l))) ∧ Below W.heap.size W w' := by
  have HC := Lib.hid fun O (hf : (W.alloc O).cell? ⟨W.heap.size, 0, none⟩ = some (.func (.func 71) #[] #[.pointer (some ⟨bx, 0, none⟩)])) =>
    have hb : Below W.heap.size W (W.alloc O) := (Below.refl _ W).alloc (Nat.le_refl _) O
    containsNot_any W.heap.size bx mb l r Q v (W.alloc O) (hr.below hb) hn hf ((hb.cell (p := ⟨bx, 0, none⟩) hxz).trans hx) (hm.keep (hb.block _ hm.lt))
  obtain ⟨b, c, rfl, hrow⟩ := hr
  have hcc := HC.out (.cells #[.func (.func 71) #[] #[.pointer (some ⟨bx, 0, none⟩)]] 100) (by rw [cellOf (heap_alloc_new W _)]; rfl)
  have HB : Hid (Below W.heap.size W (W.alloc (.cells #[.func (.func 71) #[] #[.pointer (some ⟨bx, 0, none⟩)]] 100))) := Lib.hid ((Below.refl _ W).alloc (Nat.le_refl _) _)
  generalize decide (∀ s ∈ r, s ∈ l) = A at *
  clear hrow hx hm HC
  go_enter Try.func72, Try.ntmps72
  go_wp2_with fail
  refine hcc.mono ?_
  rintro e w' ⟨rfl, rfl⟩
  go_wp2_with fail
  refine bodyPost_ret (v := .bool (!!A)) (by simp [results, Try.results72, go_sem]) rfl ⟨by simp, HB.out⟩
end Go.Proofs.Ytolopideimnbgaa
