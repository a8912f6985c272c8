/-
  Does a token open a group?
  A closing token.
  A closing token that closes the innermost group.
-/
import Derived.Test.YtafncodigpjkaaaGreatDoorFG5
import Derived.Test.YtafncodigpjkaaaGreatDoorFG4
import Derived.Laws.EntriesVeiled
import Derived.Test.YtafncodigpjkaaaGreatDoorXY
import Derived.StillTailTactics
namespace Go.Proofs.YtafncodigpjkaaaGreatDoor
section
open Go.RowKit

theorem lookup_run {mb : Nat} {es : Array MapEntry} {clk : Nat} {s : ByteArray} {r : Option (Nat × Value)} {W : World} (hm : W.heap[mb]? = some (.map es clk)) (hf : Instr.findNow .string (.string s) es.toList 0 = some r) :
    (Instr.lookup 93 (.map (some mb)) (.string s) false).run Tryz.prog W = .ok (match r with | some (_, v) => v | none => .nilFunc) W := by
  have hc := MapKept.run_checkKey (P := Tryz.prog) (w := W) (k := .string s) Tryz.underlying9 (by simp [MapKept.IsKey]) es.isEmpty 9999
  have hk := MapKept.run_findKey (P := Tryz.prog) (w := W) (k := .string s) Tryz.underlying9 hf
  rcases r with _ | ⟨k, v⟩
  · simp [Instr.lookup, run_underlying Tryz.underlying93, MapKept.run_getObj_map hm, hc, hk, Result.andThen]
  · simp [Instr.lookup, run_underlying Tryz.underlying93, MapKept.run_getObj_map hm, hc, hk, Result.andThen]
theorem MapOk.look {W : World} {mb rb : Nat} {ws : List ByteArray} (h : MapOk W mb rb ws) (s : ByteArray) : (Instr.lookup 93 (.map (some mb)) (.string s) false).run Tryz.prog W = .ok (if s ∈ basics ++ ws then clsF rb s else .nilFunc) W := by
  obtain ⟨es, clk, hm, _, h1, h2⟩ := h
  by_cases hs : s ∈ basics ++ ws
  · obtain ⟨k, hk⟩ := h1 s hs
    rw [if_pos hs]
    exact lookup_run hm hk
  · rw [if_neg hs]
    exact lookup_run hm (h2 s hs)

theorem bop_nil (w : World) : (binOp .eql 1 .nilFunc .nilFunc).run Tryz.prog w = .ok (.bool true) w := by kernel_rfl
theorem bop_fn (f : FuncId) (x y : Array Value) (w : World) : (binOp .eql 1 (.func (.func f) x y) .nilFunc).run Tryz.prog w = .ok (.bool false) w := by kernel_rfl
theorem opens_cases (ws : List ByteArray) (l : List Tkn) (i : Nat) (t : Tkn) (top : Gp) :
    (¬ t.2.2.1 ∈ basics ++ ws ∧ opensM ws l i t top = false) ∨ (t.2.2.1 ∈ basics ++ ws ∧ ¬ t.1 = 1 ∧ opensM ws l i t top = true) ∨
    (t.2.2.1 ∈ basics ++ ws ∧ t.1 = 1 ∧ top.opn = sMacro ∧ top.pl + 1 = i ∧ opensM ws l i t top = false) ∨
    (t.2.2.1 ∈ basics ++ ws ∧ t.1 = 1 ∧ ¬ (top.opn = sMacro ∧ top.pl + 1 = i) ∧ t.2.2.1 = sClass ∧ opensM ws l i t top = !isNameM l (i + 1) sSlot) ∨
    (t.2.2.1 ∈ basics ++ ws ∧ t.1 = 1 ∧ ¬ (top.opn = sMacro ∧ top.pl + 1 = i) ∧ ¬ t.2.2.1 = sClass ∧ opensM ws l i t top = true) := by
  unfold opensM
  by_cases h1 : t.2.2.1 ∈ basics ++ ws
  · rw [if_pos h1]
    by_cases h2 : t.1 = 1
    · rw [if_pos h2]
      by_cases h3 : top.opn = sMacro ∧ top.pl + 1 = i
      · right; right; left
        exact ⟨h1, h2, h3.1, h3.2, by rw [decide_eq_true h3.1, decide_eq_true h3.2]; rfl⟩
      · have e : (decide (top.opn = sMacro) && decide (top.pl + 1 = i)) = false := by
          by_cases h4 : top.opn = sMacro
          · rw [decide_eq_false (fun h5 => h3 ⟨h4, h5⟩), Bool.and_false]
          · rw [decide_eq_false h4, Bool.false_and]
        rw [e]
        by_cases h5 : t.2.2.1 = sClass
        · right; right; right; left; exact ⟨h1, h2, h3, h5, by rw [decide_eq_true h5]; rfl⟩
        · right; right; right; right; exact ⟨h1, h2, h3, h5, by rw [decide_eq_false h5]; rfl⟩
    · rw [if_neg h2]; right; left; exact ⟨h1, h2, rfl⟩
  · rw [if_neg h1]; left; exact ⟨h1, rfl⟩

set_option maxRecDepth 100000 in
set_option maxHeartbeats 4000000 in
theorem opens_run (rb mb ob cap n i pl : Nat) (k0 n0 : Int) (s0 : ByteArray) (a0 m0 : Int) (o : ByteArray) (ws : List ByteArray) (isn : Bool) (W : World) (hrb : rb < W.heap.size) (hob : ob < W.heap.size) (hn : n + 1 ≤ 1048576) (hi : i ≤ 1048576)
    (h1 : W.cell? ⟨rb, 1, none⟩ = some (.int .i64 (i : Int))) (h3 : W.cell? ⟨rb, 3, none⟩ = some (.slice (some ⟨ob, 0, none⟩) (n + 1) cap)) (h4 : W.cell? ⟨rb, 4, none⟩ = some (.map (some mb)))
    (g5 : W.cell? ⟨ob, n * 8 + 5, none⟩ = some (.string o)) (g7 : W.cell? ⟨ob, n * 8 + 7, none⟩ = some (.int .i64 (pl : Int)))
    (hlk : ∀ w', Below W.heap.size W w' → (Instr.lookup 93 (.map (some mb)) (.string s0) false).run Tryz.prog w' = .ok (if s0 ∈ basics ++ ws then clsF rb s0 else .nilFunc) w')
    (hin : ∀ w', Below W.heap.size W w' → Calls Tryz.prog 92 #[.pointer (some ⟨rb, 0, none⟩), .int .i64 ((i : Int) + 1), .string ⟨#[115, 108, 111, 116]⟩] w' fun e w'' => e = .returned (.bool isn) ∧ w' = w'')
    (R : Bool) (hc : (¬ s0 ∈ basics ++ ws ∧ R = false) ∨ (s0 ∈ basics ++ ws ∧ ¬ k0 = 1 ∧ R = true) ∨ (s0 ∈ basics ++ ws ∧ k0 = 1 ∧ o = sMacro ∧ pl + 1 = i ∧ R = false) ∨ (s0 ∈ basics ++ ws ∧ k0 = 1 ∧ ¬ (o = sMacro ∧ pl + 1 = i) ∧ s0 = sClass ∧ R = !isn) ∨ (s0 ∈ basics ++ ws ∧ k0 = 1 ∧ ¬ (o = sMacro ∧ pl + 1 = i) ∧ ¬ s0 = sClass ∧ R = true)) :
    Calls Tryz.prog 67 #[.pointer (some ⟨rb, 0, none⟩), .agg #[.int .i64 k0, .int .i64 n0, .string s0, .int .i64 a0, .int .i64 m0]] W fun e w' => e = .returned (.bool R) ∧ Below W.heap.size W w' := by
  have e1 := fun O => box_cell W O h1 hrb
  have e4 := fun O => box_cell W O h4 hrb
  have fin := fun O => below_one W O
  rcases hc with ⟨a1, rfl⟩ | ⟨a1, a2, rfl⟩ | ⟨a1, a2, a3, a4, rfl⟩ | ⟨a1, a2, a3, a4, rfl⟩ | ⟨a1, a2, a3, a4, rfl⟩
  · have lk : ∀ O n, (Instr.lookup 93 (.map (some mb)) (.string s0) false).run Tryz.prog ((W.alloc O).drewN n) = .ok .nilFunc ((W.alloc O).drewN n) := fun O n => by
      have := hlk _ (below_drewN (fin O) n)
      rwa [if_neg a1] at this
    have q2 := fun w => bop_nil w
    clear hlk hin h1 h3 h4 g5 g7 a1
    go_enter Tryz.func67, Tryz.ntmps67
    go_wp2_with fail
    go_quiet (fail)
    go_wp2_with fail
    exact bodyPost_ret (v := .bool false) (by simp [results, Tryz.results67, go_sem]) rfl ⟨rfl, below_drewN (fin _) _⟩
  · obtain ⟨cf, hcf⟩ : ∃ f, clsF rb s0 = .func (.func f) #[.pointer (some ⟨rb, 0, none⟩)] #[] := ⟨_, rfl⟩
    have lk : ∀ O n, (Instr.lookup 93 (.map (some mb)) (.string s0) false).run Tryz.prog ((W.alloc O).drewN n) = .ok (.func (.func cf) #[.pointer (some ⟨rb, 0, none⟩)] #[]) ((W.alloc O).drewN n) := fun O n => by
      have := hlk _ (below_drewN (fin O) n)
      rwa [if_pos a1, hcf] at this
    have q2 := fun w => bop_fn cf #[.pointer (some ⟨rb, 0, none⟩)] #[] w
    have k1 : ((k0 : Int) != 1) = true := by simp [a2]
    clear hlk hin h1 h3 h4 g5 g7 a1 a2 hcf
    go_enter Tryz.func67, Tryz.ntmps67
    go_wp2_with fail
    go_quiet (fail)
    go_wp2_with fail
    exact bodyPost_ret (v := .bool true) (by simp [results, Tryz.results67, go_sem]) rfl ⟨rfl, below_drewN (fin _) _⟩
  · obtain ⟨cf, hcf⟩ : ∃ f, clsF rb s0 = .func (.func f) #[.pointer (some ⟨rb, 0, none⟩)] #[] := ⟨_, rfl⟩
    have lk : ∀ O n, (Instr.lookup 93 (.map (some mb)) (.string s0) false).run Tryz.prog ((W.alloc O).drewN n) = .ok (.func (.func cf) #[.pointer (some ⟨rb, 0, none⟩)] #[]) ((W.alloc O).drewN n) := fun O n => by
      have := hlk _ (below_drewN (fin O) n)
      rwa [if_pos a1, hcf] at this
    have q2 := fun w => bop_fn cf #[.pointer (some ⟨rb, 0, none⟩)] #[] w
    have k1 : ((k0 : Int) != 1) = false := by simp [a2]
    have HI : Hid (∀ (O : Obj) (q : Nat), Calls Tryz.prog 71 #[.pointer (some ⟨rb, 0, none⟩)] ((W.alloc O).drewN q) fun e w' => e = .returned (.pointer (some ⟨ob, n * 8, none⟩)) ∧ ∃ q', w' = ((W.alloc O).drewN q).drewN q') := Lib.hid fun O q => innermost_any rb ob n cap hn _ (box_cell W O h3 hrb)
    have d5 := fun O => box_cell W O g5 hob
    have d7 := fun O => box_cell W O g7 hob
    have w1 : IntKind.i64.wrap ((i : Int) - 1) = (i : Int) - 1 := IntWalk.i64_in _ (by omega)
    have w2 : IntKind.i64.wrap ((i : Int) + 1) = (i : Int) + 1 := IntWalk.i64_in _ (by omega)
    have HIN : Hid (∀ (O : Obj) (q : Nat), Calls Tryz.prog 92 #[.pointer (some ⟨rb, 0, none⟩), .int .i64 ((i : Int) + 1), .string ⟨#[115, 108, 111, 116]⟩] ((W.alloc O).drewN q) fun e w'' => e = .returned (.bool isn) ∧ (W.alloc O).drewN q = w'') := Lib.hid fun O q => hin _ (below_drewN (fin O) q)
    obtain ⟨y1, y2⟩ := lit_eq [109, 97, 99, 114, 111] a3
    have p1 : ((pl : Int) == (i : Int) - 1) = true := by simp; omega
    clear a1 a2 a3 a4
    clear hlk hin h1 h3 h4 g5 g7 hcf
    go_enter Tryz.func67, Tryz.ntmps67
    go_wp2_with fail
    go_quiet (fail)
    go_wp2_with fail
    refine (HI.out _ _).mono ?_
    rintro e w1 ⟨rfl, qq, rfl⟩
    go_wp2_with fail
    go_quiet (fail)
    go_wp2_with fail
    exact bodyPost_ret (v := .bool false) (by simp [results, Tryz.results67, go_sem]) rfl ⟨rfl, below_drewN (fin _) _⟩
  · obtain ⟨cf, hcf⟩ : ∃ f, clsF rb s0 = .func (.func f) #[.pointer (some ⟨rb, 0, none⟩)] #[] := ⟨_, rfl⟩
    have lk : ∀ O n, (Instr.lookup 93 (.map (some mb)) (.string s0) false).run Tryz.prog ((W.alloc O).drewN n) = .ok (.func (.func cf) #[.pointer (some ⟨rb, 0, none⟩)] #[]) ((W.alloc O).drewN n) := fun O n => by
      have := hlk _ (below_drewN (fin O) n)
      rwa [if_pos a1, hcf] at this
    have q2 := fun w => bop_fn cf #[.pointer (some ⟨rb, 0, none⟩)] #[] w
    have k1 : ((k0 : Int) != 1) = false := by simp [a2]
    have HI : Hid (∀ (O : Obj) (q : Nat), Calls Tryz.prog 71 #[.pointer (some ⟨rb, 0, none⟩)] ((W.alloc O).drewN q) fun e w' => e = .returned (.pointer (some ⟨ob, n * 8, none⟩)) ∧ ∃ q', w' = ((W.alloc O).drewN q).drewN q') := Lib.hid fun O q => innermost_any rb ob n cap hn _ (box_cell W O h3 hrb)
    have d5 := fun O => box_cell W O g5 hob
    have d7 := fun O => box_cell W O g7 hob
    have w1 : IntKind.i64.wrap ((i : Int) - 1) = (i : Int) - 1 := IntWalk.i64_in _ (by omega)
    have w2 : IntKind.i64.wrap ((i : Int) + 1) = (i : Int) + 1 := IntWalk.i64_in _ (by omega)
    have HIN : Hid (∀ (O : Obj) (q : Nat), Calls Tryz.prog 92 #[.pointer (some ⟨rb, 0, none⟩), .int .i64 ((i : Int) + 1), .string ⟨#[115, 108, 111, 116]⟩] ((W.alloc O).drewN q) fun e w'' => e = .returned (.bool isn) ∧ (W.alloc O).drewN q = w'') := Lib.hid fun O q => hin _ (below_drewN (fin O) q)
    obtain ⟨z1, z2⟩ := lit_eq [99, 108, 97, 115, 115] a4
    by_cases hmac : o = sMacro
    · obtain ⟨y1, y2⟩ := lit_eq [109, 97, 99, 114, 111] hmac
      have p1 : ((pl : Int) == (i : Int) - 1) = false := by simp; exact fun e => a3 ⟨hmac, by omega⟩
      clear a1 a2 a3 a4 hmac
      clear hlk hin h1 h3 h4 g5 g7 hcf
      go_enter Tryz.func67, Tryz.ntmps67
      go_wp2_with fail
      go_quiet (fail)
      go_wp2_with fail
      refine (HI.out _ _).mono ?_
      rintro e w1 ⟨rfl, qq, rfl⟩
      go_wp2_with fail
      go_quiet (fail)
      go_wp2_with fail
      refine (HIN.out _ _).mono ?_
      rintro e w1 ⟨rfl, rfl⟩
      go_wp2_with fail
      exact bodyPost_ret (v := .bool (!isn)) (by simp [results, Tryz.results67, go_sem]) rfl ⟨rfl, below_drewN (fin _) _⟩
    · obtain ⟨y1, y2⟩ := lit_ne [109, 97, 99, 114, 111] hmac
      clear a1 a2 a3 a4 hmac
      clear hlk hin h1 h3 h4 g5 g7 hcf
      go_enter Tryz.func67, Tryz.ntmps67
      go_wp2_with fail
      go_quiet (fail)
      go_wp2_with fail
      refine (HI.out _ _).mono ?_
      rintro e w1 ⟨rfl, qq, rfl⟩
      go_wp2_with fail
      go_quiet (fail)
      go_wp2_with fail
      refine (HIN.out _ _).mono ?_
      rintro e w1 ⟨rfl, rfl⟩
      go_wp2_with fail
      exact bodyPost_ret (v := .bool (!isn)) (by simp [results, Tryz.results67, go_sem]) rfl ⟨rfl, below_drewN (fin _) _⟩
  · obtain ⟨cf, hcf⟩ : ∃ f, clsF rb s0 = .func (.func f) #[.pointer (some ⟨rb, 0, none⟩)] #[] := ⟨_, rfl⟩
    have lk : ∀ O n, (Instr.lookup 93 (.map (some mb)) (.string s0) false).run Tryz.prog ((W.alloc O).drewN n) = .ok (.func (.func cf) #[.pointer (some ⟨rb, 0, none⟩)] #[]) ((W.alloc O).drewN n) := fun O n => by
      have := hlk _ (below_drewN (fin O) n)
      rwa [if_pos a1, hcf] at this
    have q2 := fun w => bop_fn cf #[.pointer (some ⟨rb, 0, none⟩)] #[] w
    have k1 : ((k0 : Int) != 1) = false := by simp [a2]
    have HI : Hid (∀ (O : Obj) (q : Nat), Calls Tryz.prog 71 #[.pointer (some ⟨rb, 0, none⟩)] ((W.alloc O).drewN q) fun e w' => e = .returned (.pointer (some ⟨ob, n * 8, none⟩)) ∧ ∃ q', w' = ((W.alloc O).drewN q).drewN q') := Lib.hid fun O q => innermost_any rb ob n cap hn _ (box_cell W O h3 hrb)
    have d5 := fun O => box_cell W O g5 hob
    have d7 := fun O => box_cell W O g7 hob
    have w1 : IntKind.i64.wrap ((i : Int) - 1) = (i : Int) - 1 := IntWalk.i64_in _ (by omega)
    have w2 : IntKind.i64.wrap ((i : Int) + 1) = (i : Int) + 1 := IntWalk.i64_in _ (by omega)
    have HIN : Hid (∀ (O : Obj) (q : Nat), Calls Tryz.prog 92 #[.pointer (some ⟨rb, 0, none⟩), .int .i64 ((i : Int) + 1), .string ⟨#[115, 108, 111, 116]⟩] ((W.alloc O).drewN q) fun e w'' => e = .returned (.bool isn) ∧ (W.alloc O).drewN q = w'') := Lib.hid fun O q => hin _ (below_drewN (fin O) q)
    obtain ⟨z1, z2⟩ := lit_ne [99, 108, 97, 115, 115] a4
    by_cases hmac : o = sMacro
    · obtain ⟨y1, y2⟩ := lit_eq [109, 97, 99, 114, 111] hmac
      have p1 : ((pl : Int) == (i : Int) - 1) = false := by simp; exact fun e => a3 ⟨hmac, by omega⟩
      clear a1 a2 a3 a4 hmac
      clear hlk hin h1 h3 h4 g5 g7 hcf
      go_enter Tryz.func67, Tryz.ntmps67
      go_wp2_with fail
      go_quiet (fail)
      go_wp2_with fail
      refine (HI.out _ _).mono ?_
      rintro e w1 ⟨rfl, qq, rfl⟩
      go_wp2_with fail
      go_quiet (fail)
      go_wp2_with fail
      exact bodyPost_ret (v := .bool true) (by simp [results, Tryz.results67, go_sem]) rfl ⟨rfl, below_drewN (fin _) _⟩
    · obtain ⟨y1, y2⟩ := lit_ne [109, 97, 99, 114, 111] hmac
      clear a1 a2 a3 a4 hmac
      clear hlk hin h1 h3 h4 g5 g7 hcf
      go_enter Tryz.func67, Tryz.ntmps67
      go_wp2_with fail
      go_quiet (fail)
      go_wp2_with fail
      refine (HI.out _ _).mono ?_
      rintro e w1 ⟨rfl, qq, rfl⟩
      go_wp2_with fail
      go_quiet (fail)
      go_wp2_with fail
      exact bodyPost_ret (v := .bool true) (by simp [results, Tryz.results67, go_sem]) rfl ⟨rfl, below_drewN (fin _) _⟩
end

section
open Go.RowKit

theorem field_text (a b d e : Value) (c : ByteArray) (w : World) : (Instr.field 50 (.agg #[a, b, .string c, d, e]) 2).run Tryz.prog w = .ok (.string c) w := by kernel_rfl
set_option maxRecDepth 100000 in
set_option maxHeartbeats 4000000 in
theorem end_no (rb ob cap n i : Nat) (x : Fg) (ka : Option Addr) (kn kc : Nat) (k1 n1 : Int) (s1 : ByteArray) (a1 m1 : Int) (W : World) (hrb : rb < W.heap.size) (hob : ob < W.heap.size) (hn : n + 1 ≤ 1048576)
    (h1 : W.cell? ⟨rb, 1, none⟩ = some (.int .i64 (i : Int))) (h3 : W.cell? ⟨rb, 3, none⟩ = some (.slice (some ⟨ob, 0, none⟩) (n + 1) cap))
    (hc : ∀ j u, (fgV x (.slice ka kn kc))[j]? = some u → W.cell? ⟨ob, n * 8 + j, none⟩ = some u) (hbad : x.opn = sNo ∨ closingM x.opn ≠ s1) :
    Calls Tryz.prog 69 #[.pointer (some ⟨rb, 0, none⟩), .agg #[.int .i64 k1, .int .i64 n1, .string s1, .int .i64 a1, .int .i64 m1]] W fun e w' => e = refEnd i 20 ∧ Below W.heap.size W w' := by
  have hcl : ∀ w', Calls Tryz.prog 97 #[.agg (fgV x (.slice ka kn kc)).toArray] w' fun e w'' => e = .returned (.agg (tkL (closeTok x)).toArray) ∧ Below w'.heap.size w' w'' := fun w' => closing_any x _ w'
  obtain ⟨⟨k0, n0, s0, a0, m0⟩, o, ks⟩ := x
  have hcl : ∀ w', Calls Tryz.prog 97 #[.agg #[.int .i64 k0, .int .i64 n0, .string s0, .int .i64 a0, .int .i64 m0, .string o, .slice ka kn kc]] w' fun e w'' => e = .returned (.agg #[.int .i64 (closeK o), .int .i64 0, .string (closingM o), .int .i64 a0, .int .i64 m0]) ∧ Below w'.heap.size w' w'' := hcl
  simp only [Fg.opn] at hbad
  have HI : Hid (∀ O, Calls Tryz.prog 71 #[.pointer (some ⟨rb, 0, none⟩)] (W.alloc O) fun e w' => e = .returned (.pointer (some ⟨ob, n * 8, none⟩)) ∧ ∃ q', w' = (W.alloc O).drewN q') := Lib.hid fun O => innermost_any rb ob n cap hn _ (box_cell W O h3 hrb)
  have hr : ∀ w', Below W.heap.size W w' → Calls Tryz.prog 66 #[.pointer (some ⟨rb, 0, none⟩), .int .i64 20] w' fun e w'' => e = refEnd i 20 ∧ w' = w'' := fun w' hb => frefuse_any rb i 20 w' ((hb.cell (p := ⟨rb, 1, none⟩) hrb).trans h1)
  simp only [refEnd] at hr
  have HR := Lib.hid hr
  have c0 : ∀ O, (W.alloc O).cell? ⟨ob, n * 8, none⟩ = some (.int .i64 k0) := fun O => box_cell W O (hc 0 _ rfl) hob
  have c1 : ∀ O, (W.alloc O).cell? ⟨ob, n * 8 + 1, none⟩ = some (.int .i64 n0) := fun O => box_cell W O (hc 1 _ rfl) hob
  have c2 : ∀ O, (W.alloc O).cell? ⟨ob, n * 8 + 2, none⟩ = some (.string s0) := fun O => box_cell W O (hc 2 _ rfl) hob
  have c3 : ∀ O, (W.alloc O).cell? ⟨ob, n * 8 + 3, none⟩ = some (.int .i64 a0) := fun O => box_cell W O (hc 3 _ rfl) hob
  have c4 : ∀ O, (W.alloc O).cell? ⟨ob, n * 8 + 4, none⟩ = some (.int .i64 m0) := fun O => box_cell W O (hc 4 _ rfl) hob
  have c5 : ∀ O, (W.alloc O).cell? ⟨ob, n * 8 + 5, none⟩ = some (.string o) := fun O => box_cell W O (hc 5 _ rfl) hob
  have c6 : ∀ O, (W.alloc O).cell? ⟨ob, n * 8 + 6, none⟩ = some (.slice ka kn kc) := fun O => box_cell W O (hc 6 _ rfl) hob
  have HW := Lib.hid (fun O => below_one W O)
  clear hc h1 h3 hr
  by_cases ho : o = sNo
  · obtain ⟨q1, q2⟩ := lit_eq [] ho
    clear ho hbad hcl
    go_enter Tryz.func69, Tryz.ntmps69
    go_wp2_with fail
    refine (HI.out _).mono ?_
    rintro e w1 ⟨rfl, qq, rfl⟩
    go_wp2_with fail
    go_quiet (fail)
    go_wp2_with fail
    refine (HR.out _ (below_drewN (HW.out _) _)).mono ?_
    rintro e w2 ⟨rfl, rfl⟩
    go_wp2_with fail
    exact ⟨rfl, rfl, below_drewN (HW.out _) _⟩
  · obtain ⟨q1, q2⟩ := lit_ne [] ho
    have hne : ¬ closingM o = s1 := by rcases hbad with h | h; exact absurd h ho; exact h
    have HCL := Lib.hid hcl
    generalize closingM o = cm at hne HCL
    obtain ⟨y1, y2⟩ := str_ne hne
    clear ho hbad hcl hne
    go_enter Tryz.func69, Tryz.ntmps69
    go_wp2_with fail
    refine (HI.out _).mono ?_
    rintro e w1 ⟨rfl, qq, rfl⟩
    go_wp2_with fail
    have t2 : ∀ (O : Array Value) (t : TypeId) (j : Nat) (v : Value), O[j]? = some v → ((W.alloc (.cells O t)).drewN qq).cell? ⟨W.heap.size, j, none⟩ = some v := fun O t j v hv => by rw [World.cell?_drewN, fcell_at (heap_alloc_new W _)]; exact hv
    have d0 := fun x : BW ((W.alloc (.cells #[.int .i64 k1, .int .i64 n1, .string s1, .int .i64 a1, .int .i64 m1] 50)).drewN qq) => x.cell (p := ⟨ob, n * 8, none⟩) (v := .int .i64 k0) (c0 _) (by simp; omega)
    have d1 := fun x : BW ((W.alloc (.cells #[.int .i64 k1, .int .i64 n1, .string s1, .int .i64 a1, .int .i64 m1] 50)).drewN qq) => x.cell (p := ⟨ob, n * 8 + 1, none⟩) (v := .int .i64 n0) (c1 _) (by simp; omega)
    have d2 := fun x : BW ((W.alloc (.cells #[.int .i64 k1, .int .i64 n1, .string s1, .int .i64 a1, .int .i64 m1] 50)).drewN qq) => x.cell (p := ⟨ob, n * 8 + 2, none⟩) (v := .string s0) (c2 _) (by simp; omega)
    have d3 := fun x : BW ((W.alloc (.cells #[.int .i64 k1, .int .i64 n1, .string s1, .int .i64 a1, .int .i64 m1] 50)).drewN qq) => x.cell (p := ⟨ob, n * 8 + 3, none⟩) (v := .int .i64 a0) (c3 _) (by simp; omega)
    have d4 := fun x : BW ((W.alloc (.cells #[.int .i64 k1, .int .i64 n1, .string s1, .int .i64 a1, .int .i64 m1] 50)).drewN qq) => x.cell (p := ⟨ob, n * 8 + 4, none⟩) (v := .int .i64 m0) (c4 _) (by simp; omega)
    have d5 := fun x : BW ((W.alloc (.cells #[.int .i64 k1, .int .i64 n1, .string s1, .int .i64 a1, .int .i64 m1] 50)).drewN qq) => x.cell (p := ⟨ob, n * 8 + 5, none⟩) (v := .string o) (c5 _) (by simp; omega)
    have d6 := fun x : BW ((W.alloc (.cells #[.int .i64 k1, .int .i64 n1, .string s1, .int .i64 a1, .int .i64 m1] 50)).drewN qq) => x.cell (p := ⟨ob, n * 8 + 6, none⟩) (v := .slice ka kn kc) (c6 _) (by simp; omega)
    have d7 := fun x : BW ((W.alloc (.cells #[.int .i64 k1, .int .i64 n1, .string s1, .int .i64 a1, .int .i64 m1] 50)).drewN qq) => x.cell (p := ⟨W.heap.size, 2, none⟩) (v := .string s1) (t2 _ _ 2 _ rfl) (by simp)
    clear c0 c1 c2 c3 c4 c5 c6 t2
    have hfd := fun w => field_text (.int .i64 (closeK o)) (.int .i64 0) (.int .i64 a0) (.int .i64 m0) cm w
    refine region_below (by kernel_rfl) (by kernel_rfl) ?_
    repeat (first | go_big_quiet_step ((go_at_call 97; exact calls_bw (HCL.out _))) | (refine wpQuiet_step (fun K hK => ?_); go_simp; refine hK _ ?_; clear hK K))
    refine wpQuiet_nil ?_
    rintro _ ⟨⟨w3, b3⟩, rfl⟩
    have B3 := Lib.hid ((below_drewN (HW.out (.cells #[.int .i64 k1, .int .i64 n1, .string s1, .int .i64 a1, .int .i64 m1] 50)) qq).trans (b3.mono (by simp)))
    clear d0 d1 d2 d3 d4 d5 d6 d7 b3
    go_wp2_with fail
    refine (HR.out _ B3.out).mono ?_
    rintro e w4 ⟨rfl, rfl⟩
    go_wp2_with fail
    exact ⟨rfl, rfl, B3.out⟩
end

section
open Go.RowKit

set_option maxRecDepth 100000 in
set_option maxHeartbeats 4000000 in
theorem end_close (rb ob cap n : Nat) (x : Fg) (ka : Option Addr) (kn kc : Nat) (k1 n1 : Int) (s1 : ByteArray) (a1 m1 : Int) (W : World) (hrb : rb < W.heap.size) (hob : ob < W.heap.size) (hn : n + 1 ≤ 1048576)
    (h3 : W.cell? ⟨rb, 3, none⟩ = some (.slice (some ⟨ob, 0, none⟩) (n + 1) cap))
    (hc : ∀ j u, (fgV x (.slice ka kn kc))[j]? = some u → W.cell? ⟨ob, n * 8 + j, none⟩ = some u) (hne : ¬ x.opn = sNo) (hcm : closingM x.opn = s1)
    (mb : Nat) (Q : World → Prop) (h4 : W.cell? ⟨rb, 4, none⟩ = some (.map (some mb)))
    (hlk : ∀ w', Below W.heap.size W w' → (Instr.lookup 93 (.map (some mb)) (.string x.opn) false).run Tryz.prog w' = .ok (.func (.func 63) #[.pointer (some ⟨rb, 0, none⟩)] #[]) w')
    (hfun : ∀ w', Below W.heap.size W w' → Calls Tryz.prog 63 #[.pointer (some ⟨rb, 0, none⟩)] w' fun e w'' => e = .returned (.tuple #[]) ∧ Q w'') :
    Calls Tryz.prog 69 #[.pointer (some ⟨rb, 0, none⟩), .agg #[.int .i64 k1, .int .i64 n1, .string s1, .int .i64 a1, .int .i64 m1]] W fun e w' => e = .returned (.tuple #[]) ∧ Q w' := by
  have hcl : ∀ w', Calls Tryz.prog 97 #[.agg (fgV x (.slice ka kn kc)).toArray] w' fun e w'' => e = .returned (.agg (tkL (closeTok x)).toArray) ∧ Below w'.heap.size w' w'' := fun w' => closing_any x _ w'
  obtain ⟨⟨k0, n0, s0, a0, m0⟩, o, ks⟩ := x
  have hcl : ∀ w', Calls Tryz.prog 97 #[.agg #[.int .i64 k0, .int .i64 n0, .string s0, .int .i64 a0, .int .i64 m0, .string o, .slice ka kn kc]] w' fun e w'' => e = .returned (.agg #[.int .i64 (closeK o), .int .i64 0, .string (closingM o), .int .i64 a0, .int .i64 m0]) ∧ Below w'.heap.size w' w'' := hcl
  simp only [Fg.opn] at hne hcm hlk
  have HI : Hid (∀ O, Calls Tryz.prog 71 #[.pointer (some ⟨rb, 0, none⟩)] (W.alloc O) fun e w' => e = .returned (.pointer (some ⟨ob, n * 8, none⟩)) ∧ ∃ q', w' = (W.alloc O).drewN q') := Lib.hid fun O => innermost_any rb ob n cap hn _ (box_cell W O h3 hrb)
  have HLK := Lib.hid hlk; have HFUN := Lib.hid hfun
  have h4' := fun O => box_cell W O h4 hrb
  have c0 : ∀ O, (W.alloc O).cell? ⟨ob, n * 8, none⟩ = some (.int .i64 k0) := fun O => box_cell W O (hc 0 _ rfl) hob
  have c1 : ∀ O, (W.alloc O).cell? ⟨ob, n * 8 + 1, none⟩ = some (.int .i64 n0) := fun O => box_cell W O (hc 1 _ rfl) hob
  have c2 : ∀ O, (W.alloc O).cell? ⟨ob, n * 8 + 2, none⟩ = some (.string s0) := fun O => box_cell W O (hc 2 _ rfl) hob
  have c3 : ∀ O, (W.alloc O).cell? ⟨ob, n * 8 + 3, none⟩ = some (.int .i64 a0) := fun O => box_cell W O (hc 3 _ rfl) hob
  have c4 : ∀ O, (W.alloc O).cell? ⟨ob, n * 8 + 4, none⟩ = some (.int .i64 m0) := fun O => box_cell W O (hc 4 _ rfl) hob
  have c5 : ∀ O, (W.alloc O).cell? ⟨ob, n * 8 + 5, none⟩ = some (.string o) := fun O => box_cell W O (hc 5 _ rfl) hob
  have c6 : ∀ O, (W.alloc O).cell? ⟨ob, n * 8 + 6, none⟩ = some (.slice ka kn kc) := fun O => box_cell W O (hc 6 _ rfl) hob
  have HW := Lib.hid (fun O => below_one W O)
  clear hc h3 hlk hfun
  obtain ⟨q1, q2⟩ := lit_ne [] hne
  have HCL := Lib.hid hcl
  generalize closingM o = cm at hcm HCL
  obtain ⟨y1, y2⟩ := str_eq hcm
  clear hcm hcl hne
  go_enter Tryz.func69, Tryz.ntmps69
  go_wp2_with fail
  refine (HI.out _).mono ?_
  rintro e w1 ⟨rfl, qq, rfl⟩
  go_wp2_with fail
  have t2 : ∀ (O : Array Value) (t : TypeId) (j : Nat) (v : Value), O[j]? = some v → ((W.alloc (.cells O t)).drewN qq).cell? ⟨W.heap.size, j, none⟩ = some v := fun O t j v hv => by rw [World.cell?_drewN, fcell_at (heap_alloc_new W _)]; exact hv
  have d0 := fun x : BW ((W.alloc (.cells #[.int .i64 k1, .int .i64 n1, .string s1, .int .i64 a1, .int .i64 m1] 50)).drewN qq) => x.cell (p := ⟨ob, n * 8, none⟩) (v := .int .i64 k0) (c0 _) (by simp; omega)
  have d1 := fun x : BW ((W.alloc (.cells #[.int .i64 k1, .int .i64 n1, .string s1, .int .i64 a1, .int .i64 m1] 50)).drewN qq) => x.cell (p := ⟨ob, n * 8 + 1, none⟩) (v := .int .i64 n0) (c1 _) (by simp; omega)
  have d2 := fun x : BW ((W.alloc (.cells #[.int .i64 k1, .int .i64 n1, .string s1, .int .i64 a1, .int .i64 m1] 50)).drewN qq) => x.cell (p := ⟨ob, n * 8 + 2, none⟩) (v := .string s0) (c2 _) (by simp; omega)
  have d3 := fun x : BW ((W.alloc (.cells #[.int .i64 k1, .int .i64 n1, .string s1, .int .i64 a1, .int .i64 m1] 50)).drewN qq) => x.cell (p := ⟨ob, n * 8 + 3, none⟩) (v := .int .i64 a0) (c3 _) (by simp; omega)
  have d4 := fun x : BW ((W.alloc (.cells #[.int .i64 k1, .int .i64 n1, .string s1, .int .i64 a1, .int .i64 m1] 50)).drewN qq) => x.cell (p := ⟨ob, n * 8 + 4, none⟩) (v := .int .i64 m0) (c4 _) (by simp; omega)
  have d5 := fun x : BW ((W.alloc (.cells #[.int .i64 k1, .int .i64 n1, .string s1, .int .i64 a1, .int .i64 m1] 50)).drewN qq) => x.cell (p := ⟨ob, n * 8 + 5, none⟩) (v := .string o) (c5 _) (by simp; omega)
  have d6 := fun x : BW ((W.alloc (.cells #[.int .i64 k1, .int .i64 n1, .string s1, .int .i64 a1, .int .i64 m1] 50)).drewN qq) => x.cell (p := ⟨ob, n * 8 + 6, none⟩) (v := .slice ka kn kc) (c6 _) (by simp; omega)
  have d7 := fun x : BW ((W.alloc (.cells #[.int .i64 k1, .int .i64 n1, .string s1, .int .i64 a1, .int .i64 m1] 50)).drewN qq) => x.cell (p := ⟨W.heap.size, 2, none⟩) (v := .string s1) (t2 _ _ 2 _ rfl) (by simp)
  clear c0 c1 c2 c3 c4 c5 c6 t2
  have hfd := fun w => field_text (.int .i64 (closeK o)) (.int .i64 0) (.int .i64 a0) (.int .i64 m0) cm w
  refine region_below (by kernel_rfl) (by kernel_rfl) ?_
  repeat (first | go_big_quiet_step ((go_at_call 97; exact calls_bw (HCL.out _))) | (refine wpQuiet_step (fun K hK => ?_); go_simp; refine hK _ ?_; clear hK K))
  refine wpQuiet_nil ?_
  rintro w3 ⟨⟨_, b3⟩, rfl⟩
  have B3 := Lib.hid ((below_drewN (HW.out (.cells #[.int .i64 k1, .int .i64 n1, .string s1, .int .i64 a1, .int .i64 m1] 50)) qq).trans (b3.mono (by simp)))
  have m4 : w3.cell? ⟨rb, 4, none⟩ = some (.map (some mb)) := (b3.cell (p := ⟨rb, 4, none⟩) (by simp; omega)).trans (h4' _)
  have m5 : w3.cell? ⟨ob, n * 8 + 5, none⟩ = some (.string o) := (b3.cell (p := ⟨ob, n * 8 + 5, none⟩) (by simp; omega)).trans (d5 ⟨_, Below.refl _ _⟩)
  have lk : (Instr.lookup 93 (.map (some mb)) (.string o) false).run Tryz.prog w3.drew = .ok (.func (.func 63) #[.pointer (some ⟨rb, 0, none⟩)] #[]) w3.drew := HLK.out _ B3.out.drew
  clear d0 d1 d2 d3 d4 d5 d6 d7 b3
  go_wp2_with fail
  refine Code.wp_mono (Q := fun e a w' => e = .normal ∧ a.defers = [] ∧ Q w') ?_ ?_
  · rintro e a w' ⟨rfl, hd, hq⟩
    exact bodyPost_end (results_none rfl _ _ _) hd ⟨rfl, hq⟩
  go_still_tail 10, (by kernel_rfl)
  clear hcl HI HCL hfd h4'
  have B4 := Lib.hid B3.out.drew
  have HF := Lib.hid (HFUN.out _ B4.out)
  clear lk m4 m5 B3 HFUN HLK
  change wpList _ _ _ _ _ w3.drew
  generalize w3.drew = w5 at HF B4 ⊢
  go_wp2_with fail
  refine HF.out.mono ?_
  rintro e w6 ⟨rfl, hq⟩
  have HQ := Lib.hid hq
  clear hq
  go_wp2_with fail
  exact HQ.out
set_option maxRecDepth 100000 in
set_option maxHeartbeats 4000000 in
theorem end_named (rb ob cap n : Nat) (x : Fg) (ka : Option Addr) (kn kc : Nat) (k1 n1 : Int) (s1 : ByteArray) (a1 m1 : Int) (W : World) (hrb : rb < W.heap.size) (hob : ob < W.heap.size) (hn : n + 1 ≤ 1048576)
    (h3 : W.cell? ⟨rb, 3, none⟩ = some (.slice (some ⟨ob, 0, none⟩) (n + 1) cap))
    (hc : ∀ j u, (fgV x (.slice ka kn kc))[j]? = some u → W.cell? ⟨ob, n * 8 + j, none⟩ = some u) (hne : ¬ x.opn = sNo) (hcm : closingM x.opn = s1)
    (mb : Nat) (Q : World → Prop) (h4 : W.cell? ⟨rb, 4, none⟩ = some (.map (some mb)))
    (hlk : ∀ w', Below W.heap.size W w' → (Instr.lookup 93 (.map (some mb)) (.string x.opn) false).run Tryz.prog w' = .ok (.func (.func 64) #[.pointer (some ⟨rb, 0, none⟩)] #[]) w')
    (hfun : ∀ w', Below W.heap.size W w' → Calls Tryz.prog 64 #[.pointer (some ⟨rb, 0, none⟩)] w' fun e w'' => e = .returned (.tuple #[]) ∧ Q w'') :
    Calls Tryz.prog 69 #[.pointer (some ⟨rb, 0, none⟩), .agg #[.int .i64 k1, .int .i64 n1, .string s1, .int .i64 a1, .int .i64 m1]] W fun e w' => e = .returned (.tuple #[]) ∧ Q w' := by
  have hcl : ∀ w', Calls Tryz.prog 97 #[.agg (fgV x (.slice ka kn kc)).toArray] w' fun e w'' => e = .returned (.agg (tkL (closeTok x)).toArray) ∧ Below w'.heap.size w' w'' := fun w' => closing_any x _ w'
  obtain ⟨⟨k0, n0, s0, a0, m0⟩, o, ks⟩ := x
  have hcl : ∀ w', Calls Tryz.prog 97 #[.agg #[.int .i64 k0, .int .i64 n0, .string s0, .int .i64 a0, .int .i64 m0, .string o, .slice ka kn kc]] w' fun e w'' => e = .returned (.agg #[.int .i64 (closeK o), .int .i64 0, .string (closingM o), .int .i64 a0, .int .i64 m0]) ∧ Below w'.heap.size w' w'' := hcl
  simp only [Fg.opn] at hne hcm hlk
  have HI : Hid (∀ O, Calls Tryz.prog 71 #[.pointer (some ⟨rb, 0, none⟩)] (W.alloc O) fun e w' => e = .returned (.pointer (some ⟨ob, n * 8, none⟩)) ∧ ∃ q', w' = (W.alloc O).drewN q') := Lib.hid fun O => innermost_any rb ob n cap hn _ (box_cell W O h3 hrb)
  have HLK := Lib.hid hlk; have HFUN := Lib.hid hfun
  have h4' := fun O => box_cell W O h4 hrb
  have c0 : ∀ O, (W.alloc O).cell? ⟨ob, n * 8, none⟩ = some (.int .i64 k0) := fun O => box_cell W O (hc 0 _ rfl) hob
  have c1 : ∀ O, (W.alloc O).cell? ⟨ob, n * 8 + 1, none⟩ = some (.int .i64 n0) := fun O => box_cell W O (hc 1 _ rfl) hob
  have c2 : ∀ O, (W.alloc O).cell? ⟨ob, n * 8 + 2, none⟩ = some (.string s0) := fun O => box_cell W O (hc 2 _ rfl) hob
  have c3 : ∀ O, (W.alloc O).cell? ⟨ob, n * 8 + 3, none⟩ = some (.int .i64 a0) := fun O => box_cell W O (hc 3 _ rfl) hob
  have c4 : ∀ O, (W.alloc O).cell? ⟨ob, n * 8 + 4, none⟩ = some (.int .i64 m0) := fun O => box_cell W O (hc 4 _ rfl) hob
  have c5 : ∀ O, (W.alloc O).cell? ⟨ob, n * 8 + 5, none⟩ = some (.string o) := fun O => box_cell W O (hc 5 _ rfl) hob
  have c6 : ∀ O, (W.alloc O).cell? ⟨ob, n * 8 + 6, none⟩ = some (.slice ka kn kc) := fun O => box_cell W O (hc 6 _ rfl) hob
  have HW := Lib.hid (fun O => below_one W O)
  clear hc h3 hlk hfun
  obtain ⟨q1, q2⟩ := lit_ne [] hne
  have HCL := Lib.hid hcl
  generalize closingM o = cm at hcm HCL
  obtain ⟨y1, y2⟩ := str_eq hcm
  clear hcm hcl hne
  go_enter Tryz.func69, Tryz.ntmps69
  go_wp2_with fail
  refine (HI.out _).mono ?_
  rintro e w1 ⟨rfl, qq, rfl⟩
  go_wp2_with fail
  have t2 : ∀ (O : Array Value) (t : TypeId) (j : Nat) (v : Value), O[j]? = some v → ((W.alloc (.cells O t)).drewN qq).cell? ⟨W.heap.size, j, none⟩ = some v := fun O t j v hv => by rw [World.cell?_drewN, fcell_at (heap_alloc_new W _)]; exact hv
  have d0 := fun x : BW ((W.alloc (.cells #[.int .i64 k1, .int .i64 n1, .string s1, .int .i64 a1, .int .i64 m1] 50)).drewN qq) => x.cell (p := ⟨ob, n * 8, none⟩) (v := .int .i64 k0) (c0 _) (by simp; omega)
  have d1 := fun x : BW ((W.alloc (.cells #[.int .i64 k1, .int .i64 n1, .string s1, .int .i64 a1, .int .i64 m1] 50)).drewN qq) => x.cell (p := ⟨ob, n * 8 + 1, none⟩) (v := .int .i64 n0) (c1 _) (by simp; omega)
  have d2 := fun x : BW ((W.alloc (.cells #[.int .i64 k1, .int .i64 n1, .string s1, .int .i64 a1, .int .i64 m1] 50)).drewN qq) => x.cell (p := ⟨ob, n * 8 + 2, none⟩) (v := .string s0) (c2 _) (by simp; omega)
  have d3 := fun x : BW ((W.alloc (.cells #[.int .i64 k1, .int .i64 n1, .string s1, .int .i64 a1, .int .i64 m1] 50)).drewN qq) => x.cell (p := ⟨ob, n * 8 + 3, none⟩) (v := .int .i64 a0) (c3 _) (by simp; omega)
  have d4 := fun x : BW ((W.alloc (.cells #[.int .i64 k1, .int .i64 n1, .string s1, .int .i64 a1, .int .i64 m1] 50)).drewN qq) => x.cell (p := ⟨ob, n * 8 + 4, none⟩) (v := .int .i64 m0) (c4 _) (by simp; omega)
  have d5 := fun x : BW ((W.alloc (.cells #[.int .i64 k1, .int .i64 n1, .string s1, .int .i64 a1, .int .i64 m1] 50)).drewN qq) => x.cell (p := ⟨ob, n * 8 + 5, none⟩) (v := .string o) (c5 _) (by simp; omega)
  have d6 := fun x : BW ((W.alloc (.cells #[.int .i64 k1, .int .i64 n1, .string s1, .int .i64 a1, .int .i64 m1] 50)).drewN qq) => x.cell (p := ⟨ob, n * 8 + 6, none⟩) (v := .slice ka kn kc) (c6 _) (by simp; omega)
  have d7 := fun x : BW ((W.alloc (.cells #[.int .i64 k1, .int .i64 n1, .string s1, .int .i64 a1, .int .i64 m1] 50)).drewN qq) => x.cell (p := ⟨W.heap.size, 2, none⟩) (v := .string s1) (t2 _ _ 2 _ rfl) (by simp)
  clear c0 c1 c2 c3 c4 c5 c6 t2
  have hfd := fun w => field_text (.int .i64 (closeK o)) (.int .i64 0) (.int .i64 a0) (.int .i64 m0) cm w
  refine region_below (by kernel_rfl) (by kernel_rfl) ?_
  repeat (first | go_big_quiet_step ((go_at_call 97; exact calls_bw (HCL.out _))) | (refine wpQuiet_step (fun K hK => ?_); go_simp; refine hK _ ?_; clear hK K))
  refine wpQuiet_nil ?_
  rintro w3 ⟨⟨_, b3⟩, rfl⟩
  have B3 := Lib.hid ((below_drewN (HW.out (.cells #[.int .i64 k1, .int .i64 n1, .string s1, .int .i64 a1, .int .i64 m1] 50)) qq).trans (b3.mono (by simp)))
  have m4 : w3.cell? ⟨rb, 4, none⟩ = some (.map (some mb)) := (b3.cell (p := ⟨rb, 4, none⟩) (by simp; omega)).trans (h4' _)
  have m5 : w3.cell? ⟨ob, n * 8 + 5, none⟩ = some (.string o) := (b3.cell (p := ⟨ob, n * 8 + 5, none⟩) (by simp; omega)).trans (d5 ⟨_, Below.refl _ _⟩)
  have lk : (Instr.lookup 93 (.map (some mb)) (.string o) false).run Tryz.prog w3.drew = .ok (.func (.func 64) #[.pointer (some ⟨rb, 0, none⟩)] #[]) w3.drew := HLK.out _ B3.out.drew
  clear d0 d1 d2 d3 d4 d5 d6 d7 b3
  go_wp2_with fail
  refine Code.wp_mono (Q := fun e a w' => e = .normal ∧ a.defers = [] ∧ Q w') ?_ ?_
  · rintro e a w' ⟨rfl, hd, hq⟩
    exact bodyPost_end (results_none rfl _ _ _) hd ⟨rfl, hq⟩
  go_still_tail 10, (by kernel_rfl)
  clear hcl HI HCL hfd h4'
  have B4 := Lib.hid B3.out.drew
  have HF := Lib.hid (HFUN.out _ B4.out)
  clear lk m4 m5 B3 HFUN HLK
  change wpList _ _ _ _ _ w3.drew
  generalize w3.drew = w5 at HF B4 ⊢
  go_wp2_with fail
  refine HF.out.mono ?_
  rintro e w6 ⟨rfl, hq⟩
  have HQ := Lib.hid hq
  clear hq
  go_wp2_with fail
  exact HQ.out
end

end Go.Proofs.YtafncodigpjkaaaGreatDoor
