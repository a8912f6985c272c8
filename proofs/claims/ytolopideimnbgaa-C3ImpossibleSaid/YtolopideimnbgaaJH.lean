/-
  isCycle, VerifyCycle.
-/
import Derived.Test.YtolopideimnbgaaHX
namespace Go.Proofs.Ytolopideimnbgaa
open Go.RowKit

def cycAt (LL : List Nms) (l : Nms) (i : Nat) : Bool := LL.any fun L => isAh L (l.getD i ⟨#[]⟩) (l.getD ((i + 1) % l.length) ⟨#[]⟩)
def isCyc (LL : List Nms) (l : Nms) : Bool := decide (2 ≤ l.length) && (decide l.Nodup && (List.range l.length).all (cycAt LL l))
theorem isCycle1_any (f6 f7 : Nat) (a b : ByteArray) (l : Nms) (Q : Nat → Prop) (u : Value) (W : World) (hr : SRow W Q u l) (hn : l.length ≤ 140737488351232) (h6 : W.cell? ⟨f6, 0, none⟩ = some (.string a)) (h7 : W.cell? ⟨f7, 0, none⟩ = some (.string b)) :
    Calls Try.prog 83 #[u, .pointer (some ⟨f6, 0, none⟩), .pointer (some ⟨f7, 0, none⟩)] W fun e w' => e = .returned (.bool (isAh l a b)) ∧ W = w' := by
  have hc := isAhead_any a b hr hn
  obtain ⟨ua, uc, rfl, _⟩ := hr
  generalize isAh l a b = A at *
  go_enter Try.func83, Try.ntmps83
  go_wp2_with fail
  refine hc.mono ?_
  rintro e w' ⟨rfl, rfl⟩
  go_wp2_with fail
  exact bodyPost_ret (v := .bool A) (by simp [results, Try.results83, go_sem]) rfl ⟨rfl, rfl⟩
set_option maxRecDepth 100000 in
set_option maxHeartbeats 4000000 in
theorem isCycle_any (LL : List Nms) (l : Nms) (Q : Nat → Prop) (v u : Value) (W : World) (hL : LRow W (fun _ => True) v LL) (hLn : LL.length ≤ 1000) (hLs : ∀ L ∈ LL, L.length ≤ 140737488351232) (hl : SRow W Q u l) (hn : l.length ≤ 8796093022207) :
    Calls Try.prog 69 #[v, u] W fun e w' => e = .returned (.bool (isCyc LL l)) ∧ Below W.heap.size W w' := by
  have hd := distinct_any l Q u W hl hn
  have HL := Lib.hid hL
  have HS := Lib.hid hl
  have HLS := Lib.hid hLs
  obtain ⟨va, vc, rfl, _⟩ := id hL
  obtain ⟨ua, uc, rfl, hur⟩ := hl
  have hmf : ∀ (fn : Fn) (first cap : Array Value) (w : World), (Instr.makeFunc fn first cap).run Try.prog w = .ok (.func fn first cap) w := fun _ _ _ _ => rfl
  obtain ⟨R, hR⟩ : ∃ R, R = isCyc LL l := ⟨_, rfl⟩
  rw [← hR]
  have HR := Lib.hid hR
  clear hR hL hLs
  by_cases h2 : 2 ≤ l.length
  · have h2' : ((l.length : Int) < 2) = False := by simp; omega
    by_cases hN : l.Nodup
    · rw [decide_eq_true hN] at hd
      have HE : Hid (R = (List.range l.length).all (cycAt LL l)) := Lib.hid (by rw [HR.out]; unfold isCyc; rw [decide_eq_true h2, decide_eq_true hN]; rfl)
      obtain ⟨ug, uo, rfl, _, hug, hat, _⟩ := hur (by rintro rfl; simp at h2)
      have HAT := Lib.hid hat
      have HN := Lib.hid hN
      clear hN hat HR hur
      go_enter Try.func69, Try.ntmps69
      go_wp2_with fail
      refine hd.mono ?_
      rintro e w1 ⟨rfl, hb1⟩
      have HB1 := Lib.hid hb1
      clear hb1 hd
      go_wp2_with fail
      go_loopw [18] (fun iv wr => ∃ k : Nat, k ≤ l.length ∧ iv = .int .i64 (k : Int) ∧ Hid (∀ i, i < k → cycAt LL l i = true) ∧ Hid (Below W.heap.size W wr)) (fun iv _ => l.length - (intOf iv).toNat)
      case atStart => exact ⟨0, by omega, rfl, Lib.hid fun i h => absurd h (by omega), HB1⟩
      case round =>
        obtain ⟨k, hk, rfl, hp, hb⟩ := hrel
        by_cases hlt : k < l.length
        · have hk2 : (k : Int) < (l.length : Int) := by omega
          have w3 : IntKind.i64.wrap ((k : Int) + 1) = (k : Int) + 1 := IntWalk.i64_in _ (by omega)
          have hm : (k + 1) % l.length < l.length := Nat.mod_lt _ (by omega)
          obtain ⟨j, hj⟩ : ∃ j, j = (k + 1) % l.length := ⟨_, rfl⟩
          rw [← hj] at hm
          have hj2 : (j : Int) < (l.length : Int) := by omega
          have hrem : ((k : Int) + 1).tmod (l.length : Int) = (j : Int) := by
            rw [Int.tmod_eq_emod_of_nonneg (by omega), hj, Int.natCast_emod]; rfl
          have w4 : IntKind.i64.wrap (j : Int) = (j : Int) := IntWalk.i64_in _ (by omega)
          have hl0 : ((l.length : Int) == 0) = false := beq_eq_false_iff_ne.2 (by omega)
          have hl0' : ¬ ((l.length : Int) = 0) := by omega
          have hbw : ∀ x y, Below W.heap.size W ((wr.alloc (.cells #[.string x] 9)).alloc (.cells #[.string y] 9)) := fun x y => (hb.out.alloc hb.out.size _).alloc (by simp; have := hb.out.size; omega) _
          obtain ⟨x, hx⟩ : ∃ x, x = l.getD k ⟨#[]⟩ := ⟨_, rfl⟩
          obtain ⟨y, hy⟩ : ∃ y, y = l.getD j ⟨#[]⟩ := ⟨_, rfl⟩
          have e1 : wr.cell? ⟨ug, uo + k, none⟩ = some (.string x) := (hb.out.cell (p := ⟨ug, uo + k, none⟩) hug).trans (HAT.out k _ (by rw [hx]; simp [List.getD, hlt]))
          have e2 : (wr.alloc (.cells #[.string x] 9)).cell? ⟨ug, uo + j, none⟩ = some (.string y) := ((hb.out.alloc hb.out.size _).cell (p := ⟨ug, uo + j, none⟩) hug).trans (HAT.out j _ (by rw [hy]; simp [List.getD, hm]))
          have hcall := containsC_any #[.pointer (some ⟨wr.heap.size, 0, none⟩), .pointer (some ⟨wr.heap.size + 1, 0, none⟩)] (fun L => isAh L x y) LL (fun _ => True) (.slice va LL.length vc) _ (HL.out.keep (fun b _ z => (hbw x y).block b z) (hbw x y).size) (by omega) (fun u L hm hs =>
            isCycle1_any wr.heap.size (wr.heap.size + 1) x y L _ u _ hs (HLS.out L hm) (by
              rw [cellOf ((Below.heap_alloc _ _ _ (by simp)).trans (heap_alloc_new wr _))]; rfl) (by
              have := heap_alloc_new (wr.alloc (.cells #[.string x] 9)) (.cells #[.string y] 9)
              rw [World.size_alloc] at this
              rw [cellOf this]; rfl))
          have hAt : cycAt LL l k = LL.any fun L => isAh L x y := by unfold cycAt; rw [← hj, ← hx, ← hy]
          rw [← hAt] at hcall
          have HBW := Lib.hid (hbw x y)
          clear hbw hAt hj hx hy
          by_cases hc : cycAt LL l k = true
          · have HNX : Hid (∀ i, i < k + 1 → cycAt LL l i = true) := Lib.hid fun i hi => by
              by_cases e : i = k
              · subst e; exact hc
              · exact hp.out i (by omega)
            rw [hc] at hcall
            clear hc
            go_wp2_with fail
            refine hcall.mono ?_
            rintro e w' ⟨rfl, rfl⟩
            go_wp2_with fail
            exact ⟨⟨k + 1, by omega, by go_num, HNX, HBW⟩, by simp only [intOf]; omega⟩
          · have HF : Hid (R = false) := Lib.hid (by
              rw [HE.out]
              refine Bool.eq_false_iff.2 fun h => hc ?_
              exact (List.all_eq_true.1 h) k (List.mem_range.2 hlt))
            rw [Bool.eq_false_iff.2 hc] at hcall
            clear hc
            go_wp2_with fail
            refine hcall.mono ?_
            rintro e w' ⟨rfl, rfl⟩
            go_wp2_with fail
            exact bodyPost_ret (v := .bool false) (by simp [results, Try.results69, go_sem]) rfl ⟨by rw [HF.out], HBW.out⟩
        · have hk2 : ((k : Int) < (l.length : Int)) = False := by simp; omega
          have HF : Hid (R = true) := Lib.hid (by rw [HE.out, List.all_eq_true]; intro i hi; exact hp.out i (by have := List.mem_range.1 hi; omega))
          go_wp2_with fail
          exact bodyPost_ret (v := .bool true) (by simp [results, Try.results69, go_sem]) rfl ⟨by rw [HF.out], hb.out⟩
    · rw [decide_eq_false hN] at hd
      have HF : Hid (R = false) := Lib.hid (by rw [HR.out]; unfold isCyc; rw [decide_eq_false hN]; simp)
      clear hN HR
      go_enter Try.func69, Try.ntmps69
      go_wp2_with fail
      refine hd.mono ?_
      rintro e w1 ⟨rfl, hb1⟩
      have HB1 := Lib.hid hb1
      clear hb1 hd
      go_wp2_with fail
      exact bodyPost_ret (v := .bool false) (by simp [results, Try.results69, go_sem]) rfl ⟨by rw [HF.out], HB1.out⟩
  · have h2' : (l.length : Int) < 2 := by omega
    have HF : Hid (R = false) := Lib.hid (by rw [HR.out]; unfold isCyc; rw [decide_eq_false h2]; rfl)
    clear h2 HR hd
    go_enter Try.func69, Try.ntmps69
    go_wp2_with fail
    exact bodyPost_ret (v := .bool false) (by simp [results, Try.results69, go_sem]) rfl ⟨by rw [HF.out], Below.refl _ _⟩
def verifyCycleM (g : List Hr) (nm : ByteArray) (l : Nms) : Int := match listsM g nm with
  | .ok LL => if isCyc LL l = true then 0 else 73
  | .error c => c
end Go.Proofs.Ytolopideimnbgaa
