/-
  The table of closings as it is made.
  A new reader.
  Are words right?
-/
import Derived.Test.YtafncodigpjkaaaGreatDoorFG6
import Derived.Laws.EntriesVeiled
namespace Go.Proofs.YtafncodigpjkaaaGreatDoor
section
open Go.RowKit

def entF (rb : Nat) (s : ByteArray) (k : Nat) : MapEntry := { key := .string s, val := clsF rb s, born := k }
/-- The entries of a list of words, from a stamp on. -/
def entsF (rb : Nat) : List ByteArray → Nat → List MapEntry
  | [], _ => []
  | s :: r, k => entF rb s k :: entsF rb r (k + 1)
theorem entsF_append (rb : Nat) : ∀ (a b : List ByteArray) (k : Nat), entsF rb (a ++ b) k = entsF rb a k ++ entsF rb b (k + a.length)
  | [], b, k => by simp [entsF]
  | s :: a, b, k => by
    simp only [List.cons_append, entsF, List.length_cons]
    rw [entsF_append rb a b (k + 1)]
    congr 3
    omega
theorem find_yes (rb : Nat) (s : ByteArray) : ∀ (l : List ByteArray) (k i : Nat), s ∈ l → ∃ j, Instr.findNow .string (.string s) (entsF rb l k) i = some (some (j, clsF rb s))
  | [], _, _, h => by cases h
  | x :: r, k, i, h => by
    by_cases e : s = x
    · subst e
      refine ⟨i, ?_⟩
      have he : (s == s) = true := (MapKept.bytes_beq _ _).2 rfl
      simp [entsF, entF, Instr.findNow, Instr.sameNow, he]
    · have hr : s ∈ r := by rcases List.mem_cons.1 h with h | h; exact absurd h e; exact h
      obtain ⟨j, hj⟩ := find_yes rb s r (k + 1) (i + 1) hr
      refine ⟨j, ?_⟩
      have hne : (s == x) = false := by
        cases hq : (s == x)
        · rfl
        · exact absurd ((MapKept.bytes_beq _ _).1 hq) e
      simp [entsF, entF, Instr.findNow, Instr.sameNow, hne, hj]
theorem find_no (rb : Nat) (s : ByteArray) : ∀ (l : List ByteArray) (k i : Nat), ¬ s ∈ l → Instr.findNow .string (.string s) (entsF rb l k) i = some none
  | [], _, _, _ => rfl
  | x :: r, k, i, h => by
    have e : ¬ s = x := fun e => h (by simp [e])
    have hne : (s == x) = false := by
      cases hq : (s == x)
      · rfl
      · exact absurd ((MapKept.bytes_beq _ _).1 hq) e
    simp [entsF, entF, Instr.findNow, Instr.sameNow, hne, find_no rb s r (k + 1) (i + 1) (fun h' => h (by simp [h']))]
theorem mapOk_of {W : World} {mb rb clk : Nat} {ws : List ByteArray} (h : W.heap[mb]? = some (.map (entsF rb (basics ++ ws) 0).toArray clk)) : MapOk W mb rb ws :=
  ⟨_, clk, h, by simp [entsF, basics], fun s hs => by simpa using find_yes rb s (basics ++ ws) 0 0 hs, fun s hs => by simpa using find_no rb s (basics ++ ws) 0 0 hs⟩
/-- A store at a key that is not there. -/
theorem update_new {mb clk rb : Nat} {l : List ByteArray} {s : ByteArray} {v : Value} {W : World} (hm : W.heap[mb]? = some (.map (entsF rb l 0).toArray clk)) (hs : ¬ s ∈ l) :
    (Instr.mapUpdate 93 (.map (some mb)) (.string s) v).run Tryz.prog W = .ok () (W.putObj mb (.map ((entsF rb l 0).toArray.push { key := .string s, val := v, born := clk }) (clk + 1))) := by
  have hc := MapKept.run_checkKey (P := Tryz.prog) (w := W) (k := .string s) Tryz.underlying9 (by simp [MapKept.IsKey]) false 9999
  have hk := MapKept.run_findKey (P := Tryz.prog) (w := W) (k := .string s) (l := entsF rb l 0) Tryz.underlying9 (find_no rb s l 0 0 hs)
  simp [Instr.mapUpdate, run_underlying Tryz.underlying93, MapKept.run_getObj_map hm, hc, hk, MapKept.run_setObj_map _ hm, Result.andThen, World.putObj]
end

section
open Go.RowKit

def zeroG : Array Value := #[.int .i64 0, .int .i64 0, .string ⟨#[]⟩, .int .i64 0, .int .i64 0, .string ⟨#[]⟩, .slice none 0 0, .int .i64 0]
theorem mk_group (W : World) : (Instr.makeSlice 92 (.int .i64 1) (.int .i64 1)).run Tryz.prog W = .ok (.slice (some ⟨W.heap.size, 0, none⟩) 1 1) (W.alloc (.cells zeroG 102)) := by kernel_rfl
def esN (rb j : Nat) : Array MapEntry := (entsF rb (basics.take j) 0).toArray
theorem putObj_putObj (W : World) (b : Nat) (o o' : Obj) : (W.putObj b o).putObj b o' = W.putObj b o' := by simp [World.putObj]
theorem ins_next {X : World} {mb rb j : Nat} {s : ByteArray} {v : Value} (hz : mb < X.heap.size) (hs : basics[j]? = some s) (hv : v = clsF rb s) :
    (Instr.mapUpdate 93 (.map (some mb)) (.string s) v).run Tryz.prog (X.putObj mb (.map (esN rb j) j)) = .ok () (X.putObj mb (.map (esN rb (j + 1)) (j + 1))) := by
  have hnd : ¬ s ∈ basics.take j := by
    have hn : basics.Nodup := by decide +kernel
    rw [← List.take_append_drop j basics] at hn
    have hd := (List.nodup_append.1 hn).2.2
    intro hm
    exact hd s hm s (List.mem_iff_getElem?.2 ⟨0, by rw [List.getElem?_drop]; exact hs⟩) rfl
  subst hv
  have h := update_new (rb := rb) (l := basics.take j) (s := s) (v := clsF rb s) (clk := j) (W := X.putObj mb (.map (esN rb j) j)) (World.putObj_heap_same hz) hnd
  rw [h, putObj_putObj]
  have e : (entsF rb (basics.take j) 0).toArray.push { key := .string s, val := clsF rb s, born := j } = esN rb (j + 1) := by
    unfold esN
    rw [List.take_add_one, hs, Option.toList_some, entsF_append, List.push_toArray]
    have hl : (basics.take j).length = j := by rw [List.length_take]; have := (List.getElem?_eq_some_iff.1 hs).1; omega
    rw [hl, Nat.zero_add]
    rfl
  rw [e]

/-- What a new reader is. -/
def NewR (ws : List ByteArray) (tv : Value) (W : World) (w' : World) : Prop :=
  KeepS (fun _ => False) W w' ∧ W.heap.size + 3 = w'.heap.size ∧ w'.heap[W.heap.size]? = some (.cells zeroG 102) ∧
    w'.heap[W.heap.size + 1]? = some (.cells #[tv, .int .i64 0, .int .i64 0, .slice (some ⟨W.heap.size, 0, none⟩) 1 1, .map (some (W.heap.size + 2))] 95) ∧ ∃ clk, w'.heap[W.heap.size + 2]? = some (.map (entsF (W.heap.size + 1) (basics ++ ws) 0).toArray clk)
/-- The loop over the words. -/
def NLoop (ws : List ByteArray) (rb mb : Nat) (Z : World) (k : Nat) (wr : World) : Prop :=
  k ≤ ws.length ∧ wr.heap[mb]? = some (.map (entsF rb (basics ++ ws.take k) 0).toArray (9 + k)) ∧ KeepS (fun b => b = mb) Z wr ∧ wr.heap.size = Z.heap.size
set_option maxRecDepth 100000 in
set_option maxHeartbeats 4000000 in
theorem newReader_run (tb : Option Addr) (tn tc : Nat) (wv : Value) (ws : List ByteArray) (W : World) (hws : SRow W wv ws) (hnd : (basics ++ ws).Nodup) (hpl : ∀ s ∈ ws, isNamed s = false) (hn : ws.length ≤ 1048576) : Calls Tryz.prog 41 #[.slice tb tn tc, wv] W fun e w' => e = .returned (.pointer (some ⟨W.heap.size + 1, 0, none⟩)) ∧ NewR ws (.slice tb tn tc) W w' := by
  obtain ⟨wb, wc, rfl, hrow⟩ := hws
  have hmk := mk_group
  obtain ⟨X, hX⟩ : ∃ X, X = ((W.alloc (.cells zeroG 102)).alloc (.cells #[.slice tb tn tc, .int .i64 0, .int .i64 0, .slice (some ⟨W.heap.size, 0, none⟩) 1 1, .map none] 95)).alloc (.map #[] 0) := ⟨_, rfl⟩
  have hz : X.heap.size = W.heap.size + 3 := by rw [hX]; simp
  have hm0 : X.heap[W.heap.size + 1 + 1]? = some (.map #[] 0) := by
    rw [hX]
    have := heap_alloc_new ((W.alloc (.cells zeroG 102)).alloc (.cells #[.slice tb tn tc, .int .i64 0, .int .i64 0, .slice (some ⟨W.heap.size, 0, none⟩) 1 1, .map none] 95)) (.map #[] 0)
    simpa using this
  have hmm : (Instr.makeMap 93 none).run Tryz.prog ((W.alloc (.cells zeroG 102)).alloc (.cells #[.slice tb tn tc, .int .i64 0, .int .i64 0, .slice (some ⟨W.heap.size, 0, none⟩) 1 1, .map none] 95)) = .ok (.map (some (W.heap.size + 1 + 1))) (X.putObj (W.heap.size + 1 + 1) (.map (esN (W.heap.size + 1) 0) 0)) := by
    have h := run_makeMap (P := Tryz.prog) 93 ((W.alloc (.cells zeroG 102)).alloc (.cells #[.slice tb tn tc, .int .i64 0, .int .i64 0, .slice (some ⟨W.heap.size, 0, none⟩) 1 1, .map none] 95))
    have hp : X.putObj (W.heap.size + 1 + 1) (.map (esN (W.heap.size + 1) 0) 0) = X := by
      have : X.heap.setIfInBounds (W.heap.size + 1 + 1) (.map #[] 0) = X.heap := by
        apply Array.ext_getElem?
        intro i
        rw [Array.getElem?_setIfInBounds]
        split
        · subst i; rw [hm0]; simp [hz]
        · rfl
      show (⟨_, _, _, _, _⟩ : World) = X
      show World.mk (X.heap.setIfInBounds (W.heap.size + 1 + 1) (.map (esN (W.heap.size + 1) 0) 0)) X.tape X.drawn X.os X.output = X
      rw [show (esN (W.heap.size + 1) 0) = #[] from rfl, this]
    rw [hp, hX, h]
    simp
  have hA : X.heap[W.heap.size]? = some (.cells zeroG 102) := by
    rw [hX]
    exact (Below.heap_alloc _ _ _ (by simp; omega)).trans ((Below.heap_alloc _ _ _ (by simp)).trans (heap_alloc_new W _))
  have hB : X.heap[W.heap.size + 1]? = some (.cells #[.slice tb tn tc, .int .i64 0, .int .i64 0, .slice (some ⟨W.heap.size, 0, none⟩) 1 1, .map none] 95) := by
    rw [hX]
    refine (Below.heap_alloc _ _ _ (by simp)).trans ?_
    have := heap_alloc_new (W.alloc (.cells zeroG 102)) (.cells #[.slice tb tn tc, .int .i64 0, .int .i64 0, .slice (some ⟨W.heap.size, 0, none⟩) 1 1, .map none] 95)
    simpa using this
  have hKX : KeepS (fun _ => False) W X := by rw [hX]; exact (((KeepS.refl _ W).alloc _).alloc _).alloc _
  have u0 : (Instr.mapUpdate 93 (.map (some (W.heap.size + 1 + 1))) (.string ⟨#[40]⟩) (.func (.func 63) #[.pointer (some ⟨W.heap.size + 1, 0, none⟩)] #[])).run Tryz.prog (X.putObj (W.heap.size + 1 + 1) (.map (esN (W.heap.size + 1) 0) 0)) = .ok () (X.putObj (W.heap.size + 1 + 1) (.map (esN (W.heap.size + 1) 1) 1)) := ins_next (by omega) rfl (by kernel_rfl)
  have u1 : (Instr.mapUpdate 93 (.map (some (W.heap.size + 1 + 1))) (.string ⟨#[91]⟩) (.func (.func 63) #[.pointer (some ⟨W.heap.size + 1, 0, none⟩)] #[])).run Tryz.prog (X.putObj (W.heap.size + 1 + 1) (.map (esN (W.heap.size + 1) 1) 1)) = .ok () (X.putObj (W.heap.size + 1 + 1) (.map (esN (W.heap.size + 1) 2) 2)) := ins_next (by omega) rfl (by kernel_rfl)
  have u2 : (Instr.mapUpdate 93 (.map (some (W.heap.size + 1 + 1))) (.string ⟨#[123]⟩) (.func (.func 63) #[.pointer (some ⟨W.heap.size + 1, 0, none⟩)] #[])).run Tryz.prog (X.putObj (W.heap.size + 1 + 1) (.map (esN (W.heap.size + 1) 2) 2)) = .ok () (X.putObj (W.heap.size + 1 + 1) (.map (esN (W.heap.size + 1) 3) 3)) := ins_next (by omega) rfl (by kernel_rfl)
  have u3 : (Instr.mapUpdate 93 (.map (some (W.heap.size + 1 + 1))) (.string ⟨#[98, 101, 103, 105, 110]⟩) (.func (.func 63) #[.pointer (some ⟨W.heap.size + 1, 0, none⟩)] #[])).run Tryz.prog (X.putObj (W.heap.size + 1 + 1) (.map (esN (W.heap.size + 1) 3) 3)) = .ok () (X.putObj (W.heap.size + 1 + 1) (.map (esN (W.heap.size + 1) 4) 4)) := ins_next (by omega) rfl (by kernel_rfl)
  have u4 : (Instr.mapUpdate 93 (.map (some (W.heap.size + 1 + 1))) (.string ⟨#[105, 102]⟩) (.func (.func 63) #[.pointer (some ⟨W.heap.size + 1, 0, none⟩)] #[])).run Tryz.prog (X.putObj (W.heap.size + 1 + 1) (.map (esN (W.heap.size + 1) 4) 4)) = .ok () (X.putObj (W.heap.size + 1 + 1) (.map (esN (W.heap.size + 1) 5) 5)) := ins_next (by omega) rfl (by kernel_rfl)
  have u5 : (Instr.mapUpdate 93 (.map (some (W.heap.size + 1 + 1))) (.string ⟨#[98, 108, 111, 99, 107]⟩) (.func (.func 63) #[.pointer (some ⟨W.heap.size + 1, 0, none⟩)] #[])).run Tryz.prog (X.putObj (W.heap.size + 1 + 1) (.map (esN (W.heap.size + 1) 5) 5)) = .ok () (X.putObj (W.heap.size + 1 + 1) (.map (esN (W.heap.size + 1) 6) 6)) := ins_next (by omega) rfl (by kernel_rfl)
  have u6 : (Instr.mapUpdate 93 (.map (some (W.heap.size + 1 + 1))) (.string ⟨#[109, 101, 116, 104, 111, 100]⟩) (.func (.func 64) #[.pointer (some ⟨W.heap.size + 1, 0, none⟩)] #[])).run Tryz.prog (X.putObj (W.heap.size + 1 + 1) (.map (esN (W.heap.size + 1) 6) 6)) = .ok () (X.putObj (W.heap.size + 1 + 1) (.map (esN (W.heap.size + 1) 7) 7)) := ins_next (by omega) rfl (by kernel_rfl)
  have u7 : (Instr.mapUpdate 93 (.map (some (W.heap.size + 1 + 1))) (.string ⟨#[99, 108, 97, 115, 115]⟩) (.func (.func 64) #[.pointer (some ⟨W.heap.size + 1, 0, none⟩)] #[])).run Tryz.prog (X.putObj (W.heap.size + 1 + 1) (.map (esN (W.heap.size + 1) 7) 7)) = .ok () (X.putObj (W.heap.size + 1 + 1) (.map (esN (W.heap.size + 1) 8) 8)) := ins_next (by omega) rfl (by kernel_rfl)
  have u8 : (Instr.mapUpdate 93 (.map (some (W.heap.size + 1 + 1))) (.string ⟨#[109, 97, 99, 114, 111]⟩) (.func (.func 64) #[.pointer (some ⟨W.heap.size + 1, 0, none⟩)] #[])).run Tryz.prog (X.putObj (W.heap.size + 1 + 1) (.map (esN (W.heap.size + 1) 8) 8)) = .ok () (X.putObj (W.heap.size + 1 + 1) (.map (esN (W.heap.size + 1) 9) 9)) := ins_next (by omega) rfl (by kernel_rfl)
  have p4 : ∀ o, (X.putObj (W.heap.size + 1 + 1) o).cell? ⟨W.heap.size + 1, 4, none⟩ = some (.map none) := fun o => by
    rw [fcell_at ((World.putObj_heap_other (by omega)).trans hB)]; rfl
  have pf : ∀ o, (X.putObj (W.heap.size + 1 + 1) o).frozen? ⟨W.heap.size + 1, 4, none⟩ = false := fun o => by
    have hb := (World.putObj_heap_other (w := X) (o := o) (show W.heap.size + 1 ≠ W.heap.size + 1 + 1 by omega)).trans hB
    simp [World.frozen?, hb]
  have hZ1 : ((X.putObj (W.heap.size + 1 + 1) (.map (esN (W.heap.size + 1) 9) 9)).setCell ⟨W.heap.size + 1, 4, none⟩ (.map (some (W.heap.size + 1 + 1)))).heap[W.heap.size + 1]? = some (.cells #[.slice tb tn tc, .int .i64 0, .int .i64 0, .slice (some ⟨W.heap.size, 0, none⟩) 1 1, .map (some (W.heap.size + 1 + 1))] 95) :=
    heap_setCell_same _ (W.heap.size + 1) 4 _ _ _ ((World.putObj_heap_other (by omega)).trans hB)
  have hZ2 : ((X.putObj (W.heap.size + 1 + 1) (.map (esN (W.heap.size + 1) 9) 9)).setCell ⟨W.heap.size + 1, 4, none⟩ (.map (some (W.heap.size + 1 + 1)))).heap[W.heap.size + 1 + 1]? = some (.map (entsF (W.heap.size + 1) (basics ++ ws.take 0) 0).toArray 9) := by
    refine (Below.heap_setCell _ _ _ _ (by simp)).trans ?_
    rw [World.putObj_heap_same (by omega), List.take_zero, List.append_nil]
    rfl
  have hZ0 : ((X.putObj (W.heap.size + 1 + 1) (.map (esN (W.heap.size + 1) 9) 9)).setCell ⟨W.heap.size + 1, 4, none⟩ (.map (some (W.heap.size + 1 + 1)))).heap[W.heap.size]? = some (.cells zeroG 102) :=
    (Below.heap_setCell _ _ _ _ (by simp)).trans ((World.putObj_heap_other (by omega)).trans hA)
  have hZs : ((X.putObj (W.heap.size + 1 + 1) (.map (esN (W.heap.size + 1) 9) 9)).setCell ⟨W.heap.size + 1, 4, none⟩ (.map (some (W.heap.size + 1 + 1)))).heap.size = W.heap.size + 3 := by simp [hz]
  have hZK : KeepS (fun _ => False) W ((X.putObj (W.heap.size + 1 + 1) (.map (esN (W.heap.size + 1) 9) 9)).setCell ⟨W.heap.size + 1, 4, none⟩ (.map (some (W.heap.size + 1 + 1)))) :=
    ⟨hKX.os, hKX.tape, hKX.output, by omega, fun b hb _ => (Below.heap_setCell _ _ _ _ (by simp; omega)).trans ((World.putObj_heap_other (by omega)).trans (hKX.block b hb (fun h => h)))⟩
  have H1 := Lib.hid hZ1; have H2 := Lib.hid hZ2; have H0 := Lib.hid hZ0; have HS := Lib.hid hZs; have HK := Lib.hid hZK
  clear hX hm0 hA hB hKX hZ1 hZ2 hZ0 hZs hZK
  go_enter Tryz.func41, Tryz.ntmps41
  go_wp2_with fail
  obtain ⟨Z, hZ⟩ : ∃ Z, Z = (X.putObj (W.heap.size + 1 + 1) (.map (esN (W.heap.size + 1) 9) 9)).setCell ⟨W.heap.size + 1, 4, none⟩ (.map (some (W.heap.size + 1 + 1))) := ⟨_, rfl⟩
  rw [← hZ] at H1 H2 H0 HS HK
  rw [← hZ]
  clear hZ u0 u1 u2 u3 u4 u5 u6 u7 u8 p4 pf hmm hmk hz X
  go_loopw [37] (fun iv wr => ∃ k : Nat, iv = .int .i64 (k : Int) ∧ Hid (NLoop ws (W.heap.size + 1) (W.heap.size + 1 + 1) Z k wr)) (fun iv _ => ws.length - (intOf iv).toNat)
  case atStart => exact ⟨0, rfl, Lib.hid ⟨by omega, H2.out, KeepS.refl _ _, rfl⟩⟩
  case round =>
    obtain ⟨k, rfl, hr⟩ := hrel
    obtain ⟨hk, hmp, hks, hsz⟩ := hr.out
    have w3' : IntKind.i64.wrap ((k : Int) + 1) = (k : Int) + 1 := IntWalk.i64_in _ (by omega)
    have hrbz : wr.heap[W.heap.size + 1]? = some (.cells #[.slice tb tn tc, .int .i64 0, .int .i64 0, .slice (some ⟨W.heap.size, 0, none⟩) 1 1, .map (some (W.heap.size + 1 + 1))] 95) := (hks.block _ (by have := HS.out; omega) (by omega)).trans H1.out
    by_cases hlt : k < ws.length
    · obtain ⟨x, hx⟩ : ∃ x, ws[k]? = some x := ⟨_, List.getElem?_eq_getElem hlt⟩
      obtain ⟨g, o, rfl, hg, hat⟩ := hrow (by rintro rfl; simp at hlt)
      have e0 : wr.cell? ⟨g, o + k, none⟩ = some (.string x) := (World.cell?_of_block (w := W) (a := ⟨g, o + k, none⟩) ((hks.block g (by have := HS.out; omega) (by omega)).trans (HK.out.block g hg (fun h => h)))).trans (hat k x hx)
      have e4 : wr.cell? ⟨W.heap.size + 1, 4, none⟩ = some (.map (some (W.heap.size + 1 + 1))) := by rw [fcell_at hrbz]; rfl
      have hxm : x ∈ ws := List.mem_iff_getElem?.2 ⟨k, hx⟩
      have hnm := hpl x hxm
      have hnot : ¬ x ∈ basics ++ ws.take k := by
        have hn2 := hnd
        rw [← List.take_append_drop k ws, ← List.append_assoc] at hn2
        have hd := (List.nodup_append.1 hn2).2.2
        intro hm
        exact hd x hm x (List.mem_iff_getElem?.2 ⟨0, by rw [List.getElem?_drop]; exact hx⟩) rfl
      have hcl : clsF (W.heap.size + 1) x = .func (.func 63) #[.pointer (some ⟨W.heap.size + 1, 0, none⟩)] #[] := by unfold clsF; rw [hnm]; rfl
      have hup := update_new (rb := W.heap.size + 1) (l := basics ++ ws.take k) (s := x) (v := clsF (W.heap.size + 1) x) (clk := 9 + k) (W := wr) hmp hnot
      rw [hcl] at hup
      have hnx : Hid (NLoop ws (W.heap.size + 1) (W.heap.size + 1 + 1) Z (k + 1) (wr.putObj (W.heap.size + 1 + 1) (.map (entsF (W.heap.size + 1) (basics ++ ws.take k) 0 ++ [({ key := .string x, val := .func (.func 63) #[.pointer (some ⟨W.heap.size + 1, 0, none⟩)] #[], born := 9 + k } : MapEntry)]).toArray (9 + k + 1)))) := Lib.hid (by
        refine ⟨by omega, ?_, hks.putObj rfl _, by simp [World.putObj, hsz]⟩
        rw [World.putObj_heap_same (by have := HS.out; omega), ← hcl, List.take_add_one, hx, Option.toList_some, ← List.append_assoc, entsF_append _ (basics ++ ws.take k)]
        have hl : (basics ++ ws.take k).length = 9 + k := by rw [List.length_append, List.length_take]; simp [basics]; omega
        rw [hl, Nat.zero_add]
        rfl)
      have hlt' : (k : Int) < (ws.length : Int) := by omega
      clear hr hks hat hx hxm hnm hnot hcl hmp hrbz
      go_wp2_with fail
      exact ⟨⟨k + 1, by simp, hnx⟩, by simp only [intOf]; omega⟩
    · have hkl : k = ws.length := by omega
      have hlt' : ((k : Int) < (ws.length : Int)) = False := by simp; omega
      have hfin : Hid (NewR ws (.slice tb tn tc) W wr) := Lib.hid (by
        subst hkl
        rw [List.take_length] at hmp
        refine ⟨⟨hks.os.trans HK.out.os, hks.tape.trans HK.out.tape, hks.output.trans HK.out.output, by have := HS.out; omega, fun b hb _ => (hks.block b (by have := HS.out; omega) (by omega)).trans (HK.out.block b hb (fun h => h))⟩, by have := HS.out; omega, (hks.block _ (by have := HS.out; omega) (by omega)).trans H0.out, hrbz, _, hmp⟩)
      clear hr hks hmp hrbz hrow hkl
      go_wp2_with fail
      exact bodyPost_ret (v := .pointer (some ⟨W.heap.size + 1, 0, none⟩)) (by simp [results, Tryz.results41, go_sem]) rfl ⟨rfl, hfin.out⟩
end

section
open Go.RowKit

def taken0 : List ByteArray := [sBegin, sIf, sBlock, sMethod, sClass, sMacro, sEnd, sSlot]
def scanR (plain : ByteArray → Bool) : List ByteArray → List ByteArray → Bool
  | _, [] => true
  | t, w :: r => if w ∈ t then false else if plain w then scanR plain (t ++ [w]) r else false
theorem scanR_iff (plain : ByteArray → Bool) : ∀ (ws t : List ByteArray), scanR plain t ws = true ↔ (∀ w ∈ ws, plain w = true) ∧ (∀ w ∈ ws, ¬ w ∈ t) ∧ ws.Nodup
  | [], t => by simp [scanR]
  | w :: r, t => by
    unfold scanR
    by_cases h1 : w ∈ t
    · rw [if_pos h1]
      exact ⟨(fun h => by cases h), fun h => absurd h1 (h.2.1 w (by simp))⟩
    · rw [if_neg h1]
      by_cases h2 : plain w = true
      · rw [if_pos h2, scanR_iff plain r (t ++ [w])]
        constructor
        · rintro ⟨a, b, c⟩
          refine ⟨fun x hx => ?_, fun x hx => ?_, List.nodup_cons.2 ⟨fun hw => b w hw (by simp), c⟩⟩
          · rcases List.mem_cons.1 hx with rfl | hx
            · exact h2
            · exact a x hx
          · rcases List.mem_cons.1 hx with rfl | hx
            · exact h1
            · exact fun ht => b x hx (List.mem_append_left _ ht)
        · rintro ⟨a, b, c⟩
          refine ⟨fun x hx => a x (by simp [hx]), fun x hx => ?_, (List.nodup_cons.1 c).2⟩
          intro ht
          rcases List.mem_append.1 ht with ht | ht
          · exact b x (by simp [hx]) ht
          · simp only [List.mem_singleton] at ht
            subst ht
            exact (List.nodup_cons.1 c).1 hx
      · rw [if_neg h2]
        exact ⟨(fun h => by cases h), fun h => absurd (h.1 w (by simp)) h2⟩
theorem rightM_scan (plain : ByteArray → Bool) (ws : List ByteArray) : rightM plain ws = (decide (ws.length ≤ 40) && scanR plain taken0 ws) := by
  rw [Bool.eq_iff_iff]
  unfold rightM
  rw [Bool.and_eq_true, Bool.and_eq_true, Bool.and_eq_true, Bool.and_eq_true, scanR_iff]
  simp only [decide_eq_true_eq, List.all_eq_true, Bool.not_eq_true', decide_eq_false_iff_not]
  rfl
theorem scanR_at {plain : ByteArray → Bool} {t ws : List ByteArray} {k : Nat} {x : ByteArray} (h : ws[k]? = some x) : scanR plain t (ws.drop k) = if x ∈ t then false else if plain x then scanR plain (t ++ [x]) (ws.drop (k + 1)) else false := by
  obtain ⟨hk, rfl⟩ := List.getElem?_eq_some_iff.1 h
  rw [List.drop_eq_getElem_cons hk]
  rfl
theorem infoS : (Tryz.prog.info? 9).map (fun i => (i.zero, i.size, i.bytes)) = some (some (.string ⟨#[]⟩), 1, 16) := by kernel_rfl
theorem words_any (W : World) : Calls Tryz.prog 12 #[] W fun e w' => e = .returned (.slice (some ⟨W.heap.size, 0, none⟩) 6 6) ∧ w' = W.alloc (.cells #[.string ⟨#[98, 101, 103, 105, 110]⟩, .string ⟨#[105, 102]⟩, .string ⟨#[98, 108, 111, 99, 107]⟩, .string ⟨#[109, 101, 116, 104, 111, 100]⟩, .string ⟨#[99, 108, 97, 115, 115]⟩, .string ⟨#[109, 97, 99, 114, 111]⟩] 9) := by
  go_enter Tryz.func12, Tryz.ntmps12
  go_wp2_with fail
  exact bodyPost_ret (v := .slice (some ⟨W.heap.size, 0, none⟩) 6 6) (by simp [results, Tryz.results12, go_sem]) rfl ⟨rfl, rfl⟩
theorem srow_of_owns {W : World} {base g n cap : Nat} {l : List ByteArray} (h : W.ownsRow base 9 1 (.slice (some ⟨g, 0, none⟩) n cap) n (l.map Value.string)) : SRow W (.slice (some ⟨g, 0, none⟩) n cap) l := by
  have hl : l.length = n := by have := h.1; simpa using this
  subst hl
  refine ⟨_, _, rfl, fun _ => ⟨g, 0, rfl, (h.lt g rfl).2, fun i x hx => ?_⟩⟩
  have hi := (List.getElem?_eq_some_iff.1 hx).1
  rw [Nat.zero_add, h.cellAt i (by omega), List.getElem?_map, hx]
  rfl
/-- The loop over the words. -/
def WLoop (ws : List ByteArray) (B : Nat) (W : World) (g cap k : Nat) (wr : World) : Prop :=
  k ≤ ws.length ∧ scanR isPlainB (taken0 ++ ws.take k) (ws.drop k) = scanR isPlainB taken0 ws ∧ wr.ownsRow B 9 1 (.slice (some ⟨g, 0, none⟩) (8 + k) cap) (8 + k) ((taken0 ++ ws.take k).map Value.string) ∧ Below B W wr
set_option maxRecDepth 100000 in
set_option maxHeartbeats 8000000 in
theorem right_any (wv : Value) (ws : List ByteArray) (W : World) (E : Env W) (hws : SRow W wv ws) (hz : ∀ x ∈ ws, x.size ≤ 140737488351232) :
    Calls Tryz.prog 39 #[wv] W fun e w' => e = .returned (.bool (rightM isPlainB ws)) ∧ Below W.heap.size W w' := by
  obtain ⟨wb, wc, rfl, hrow⟩ := hws
  rw [rightM_scan]
  by_cases h40 : ws.length ≤ 40
  · rw [decide_eq_true h40, Bool.true_and]
    have hgt : ¬ (40 : Int) < (ws.length : Int) := by omega
    obtain ⟨i0, hi, hz0, hz1, hz2⟩ := info_parts infoS
    have HE := Lib.hid (fun (w' : World) (h : Below W.heap.size W w') => E.below E.size h)
    have HW := Lib.hid (fun W => words_any W)
    clear E
    go_enter Tryz.func39, Tryz.ntmps39
    go_wp2_with fail
    refine (HW.out _).mono ?_
    rintro e w1 ⟨rfl, rfl⟩
    have HOWN := Lib.hid (((World.ownsRow_lit (base := W.heap.size) (e := 9) (size := 1) W #[.string ⟨#[98, 101, 103, 105, 110]⟩, .string ⟨#[105, 102]⟩, .string ⟨#[98, 108, 111, 99, 107]⟩, .string ⟨#[109, 101, 116, 104, 111, 100]⟩, .string ⟨#[99, 108, 97, 115, 115]⟩, .string ⟨#[109, 97, 99, 114, 111]⟩] 6 (Nat.le_refl _) (by unfold maxLen; omega) rfl)).alloc (.cells #[.string ⟨#[101, 110, 100]⟩, .string ⟨#[115, 108, 111, 116]⟩] 9))
    have hnew := World.news_of_block (cs := #[.string ⟨#[101, 110, 100]⟩, .string ⟨#[115, 108, 111, 116]⟩]) (t := 9) (fr := (0, 0)) (heap_alloc_new (W.alloc (.cells #[.string ⟨#[98, 101, 103, 105, 110]⟩, .string ⟨#[105, 102]⟩, .string ⟨#[98, 108, 111, 99, 107]⟩, .string ⟨#[109, 101, 116, 104, 111, 100]⟩, .string ⟨#[99, 108, 97, 115, 115]⟩, .string ⟨#[109, 97, 99, 114, 111]⟩] 9)) (.cells #[.string ⟨#[101, 110, 100]⟩, .string ⟨#[115, 108, 111, 116]⟩] 9))
    simp only [World.size_alloc] at hnew
    have HNEW := Lib.hid hnew
    have HB := Lib.hid (((Below.refl _ W).alloc (Nat.le_refl _) (.cells #[.string ⟨#[98, 101, 103, 105, 110]⟩, .string ⟨#[105, 102]⟩, .string ⟨#[98, 108, 111, 99, 107]⟩, .string ⟨#[109, 101, 116, 104, 111, 100]⟩, .string ⟨#[99, 108, 97, 115, 115]⟩, .string ⟨#[109, 97, 99, 114, 111]⟩] 9)).alloc (by simp) (.cells #[.string ⟨#[101, 110, 100]⟩, .string ⟨#[115, 108, 111, 116]⟩] 9))
    clear hnew HW
    go_wp2_with (at_builtin; (refine wpList_append_lies _ rfl _ _ 23 rfl W.heap.size 9 i0 _ 1 16 Tryz.underlying23 hi hz0 hz1 hz2 rfl (by omega) _ 6 _ rfl HOWN.out ⟨W.heap.size + 1, 0, none⟩ 2 2 [.string ⟨#[101, 110, 100]⟩, .string ⟨#[115, 108, 111, 116]⟩] rfl rfl HNEW.out (by simp [Value.oneCell']) (by omega) (by unfold maxLen; omega) (by omega) (by simp; omega) (W.heap.size + 1 + 1) (by simp) ?_); intro g cap w4 hown' hgrow hat hlt; have HO4 := Lib.hid hown'; have HB4 := Lib.hid (HB.out.grown hgrow (by first | (simp; done) | (simp; omega)) (fun k hk => (HOWN.out.lt k hk).1)); clear hown' hgrow hat hlt)
    go_loopw [3, 14] (fun tk iv wr => ∃ k g cap : Nat, iv = .int .i64 (k : Int) ∧ tk = .slice (some ⟨g, 0, none⟩) (8 + k) cap ∧ Hid (WLoop ws W.heap.size W g cap k wr)) (fun _ iv _ => ws.length - (intOf iv).toNat)
    case atStart => exact ⟨0, g, cap, rfl, rfl, Lib.hid ⟨by omega, by rw [List.take_zero, List.append_nil, List.drop_zero], by rw [List.take_zero, List.append_nil]; exact HO4.out, HB4.out⟩⟩
    case round =>
      obtain ⟨k, g, cap, rfl, rfl, hr⟩ := hrel
      obtain ⟨hk, hsc, hown, hbe⟩ := hr.out
      have w3' : IntKind.i64.wrap ((k : Int) + 1) = (k : Int) + 1 := IntWalk.i64_in _ (by omega)
      clear HO4 HB4 HB HOWN HNEW
      by_cases hlt : k < ws.length
      · obtain ⟨x, hx⟩ : ∃ x, ws[k]? = some x := ⟨_, List.getElem?_eq_getElem hlt⟩
        obtain ⟨gw, ow, rfl, hg, hat⟩ := hrow (by rintro rfl; simp at hlt)
        have e0 : wr.cell? ⟨gw, ow + k, none⟩ = some (.string x) := (hbe.cell (p := ⟨gw, ow + k, none⟩) hg).trans (hat k x hx)
        have hxz := hz x (List.mem_iff_getElem?.2 ⟨k, hx⟩)
        rw [scanR_at hx] at hsc
        have hlen : (taken0 ++ ws.take k).length ≤ 1048576 := by rw [List.length_append, List.length_take]; simp [taken0]; omega
        have HAM := Lib.hid (among_any x hlen wr (srow_of_owns hown))
        have HPL := Lib.hid (fun (w' : World) (h : Below W.heap.size W w') => isPlain_any x hxz w' (HE.out w' h))
        have hlt' : (k : Int) < (ws.length : Int) := by omega
        have HBE := Lib.hid hbe
        have HTK : Hid (ws.take (k + 1) = ws.take k ++ [x]) := Lib.hid (by rw [List.take_add_one, hx]; rfl)
        have HOW := Lib.hid hown
        have HKK : Hid (8 + k ≤ 1048576) := Lib.hid (by omega)
        clear hat hx hr hown hbe hlen hxz
        by_cases hin : x ∈ taken0 ++ ws.take k
        · rw [if_pos hin] at hsc
          rw [decide_eq_true hin] at HAM
          have HSC := Lib.hid hsc
          clear hin hsc
          go_wp2_with fail
          refine HAM.out.mono ?_
          rintro e w5 ⟨rfl, rfl⟩
          go_wp2_with fail
          exact bodyPost_ret (v := .bool false) (by simp [results, Tryz.results39, go_sem]) rfl ⟨by rw [← HSC.out], HBE.out⟩
        · rw [if_neg hin] at hsc
          rw [decide_eq_false hin] at HAM
          clear hin
          cases hp : isPlainB x
          · rw [hp] at hsc HPL
            have HSC := Lib.hid hsc
            clear hp hsc
            go_wp2_with fail
            refine HAM.out.mono ?_
            rintro e w5 ⟨rfl, rfl⟩
            go_wp2_with fail
            refine (HPL.out _ HBE.out).mono ?_
            rintro e w6 ⟨rfl, hb6⟩
            have HB6 := Lib.hid (HBE.out.trans (hb6.mono HBE.out.size))
            clear hb6
            go_wp2_with fail
            exact bodyPost_ret (v := .bool false) (by simp [results, Tryz.results39, go_sem]) rfl ⟨by rw [← HSC.out]; rfl, HB6.out⟩
          · rw [hp, if_pos rfl] at hsc
            rw [hp] at HPL
            have HSC := Lib.hid hsc
            clear hp hsc
            go_wp2_with fail
            refine HAM.out.mono ?_
            rintro e w5 ⟨rfl, rfl⟩
            go_wp2_with fail
            refine (HPL.out _ HBE.out).mono ?_
            rintro e w6 ⟨rfl, hb6⟩
            have HB6 := Lib.hid (HBE.out.trans (hb6.mono HBE.out.size))
            have HO6 := Lib.hid (row_same HOW.out fun k _ h2 => hb6.block k h2)
            have HN6 := Lib.hid (World.news_of_block (cs := #[.string x]) (t := 9) (fr := (0, 0)) (heap_alloc_new w6 (.cells #[.string x] 9)))
            have hW6 := HB6.out.size
            clear hb6 HOW HPL HAM
            go_wp2_with (at_builtin; (refine wpList_append_lies _ rfl _ _ 23 rfl W.heap.size 9 i0 _ 1 16 Tryz.underlying23 hi hz0 hz1 hz2 rfl (by omega) _ (8 + k) _ rfl (HO6.out.alloc _) ⟨w6.heap.size, 0, none⟩ 1 1 [.string x] rfl rfl HN6.out (by simp [Value.oneCell']) (by omega) (by have := HKK.out; unfold maxLen; omega) (by have := HKK.out; omega) (by simp; omega) (w6.heap.size + 1) (by simp) ?_); intro g7 cap7 w7 hown7 hgrow7 hat7 hlt7; have HO7 := Lib.hid hown7; have HB7 := Lib.hid ((HB6.out.alloc hW6 _).grown hgrow7 (by first | (simp; done) | (simp; omega)) (fun k hk => (HO6.out.lt k hk).1)); clear hown7 hgrow7 hat7 hlt7)
            refine ⟨⟨k + 1, g7, cap7, by simp, by rw [Nat.add_assoc], Lib.hid ⟨by omega, ?_, ?_, HB7.out⟩⟩, by simp only [intOf]; omega⟩
            · rw [HTK.out, ← List.append_assoc]; exact HSC.out
            · rw [HTK.out, ← List.append_assoc, List.map_append, ← Nat.add_assoc]; exact HO7.out
      · have hlt' : ((k : Int) < (ws.length : Int)) = False := by simp; omega
        have HSC : Hid (scanR isPlainB taken0 ws = true) := Lib.hid (by rw [← hsc, List.drop_eq_nil_of_le (by omega)]; rfl)
        have HBE := Lib.hid hbe
        clear hr hsc hown hbe hrow
        go_wp2_with fail
        exact bodyPost_ret (v := .bool true) (by simp [results, Tryz.results39, go_sem]) rfl ⟨by rw [HSC.out], HBE.out⟩
  · rw [decide_eq_false h40, Bool.false_and]
    have hgt : (40 : Int) < (ws.length : Int) := by omega
    clear hrow E
    go_enter Tryz.func39, Tryz.ntmps39
    go_wp2_with fail
    exact bodyPost_ret (v := .bool false) (by simp [results, Tryz.results39, go_sem]) rfl ⟨rfl, Below.refl _ _⟩
end

end Go.Proofs.YtafncodigpjkaaaGreatDoor
