/-
  The reference's smallest functions: the first index of a byte, classes of bytes, the window of the rules.
  The reference's patterns and signs; the window of the rules; a colon that joins.
  The reference's rules, as data.
  The reference's matcher: how many bytes a pattern takes at most.
  Whether a match of a rule counts.
-/
import Derived.Test.YtafncodigpjkaaaGreatDoorXC
import Derived.IntWalk
import Derived.LoopTactic
import Derived.Deep.QuietTactic
import Derived.BigQuiet
import Derived.Lib.Hide
import Derived.WalkSmall
import Derived.StillTailTactics
import Derived.Deep.RegionHeld3
import Derived.OwnWalk
import Derived.Deep.AppendLies
import Derived.Laws.MakeOwn
import Derived.Laws.OwnMore
import Derived.Deep.OwnRows
import Derived.Test.YtafncodigpjkaaaGreatDoorXA
namespace Go.Proofs.YtafncodigpjkaaaGreatDoor
section
open Go.RowKit

/-- The classes of the reference's patterns; any other byte is itself. -/
def memB (k c : UInt8) : Bool :=
  if k = 76 then bL c
  else if k = 68 then bD c
  else if k = 87 then (bL c || bD c) || decide (0 ≤ Lib.indexByte [33, 36, 38, 42, 60, 62, 124, 94, 37, 95, 126, 63, 43, 45, 47, 61] c)
  else if k = 70 then (bL c || bD c) || decide (0 ≤ Lib.indexByte [33, 36, 38, 42, 60, 62, 124, 94, 37, 95, 126, 63] c)
  else if k = 66 then decide (0 ≤ Lib.indexByte [60, 36, 37, 42, 95] c)
  else if k = 81 then (bL c || bD c) || ((c.toNat : Int) == 45)
  else if k = 65 then bL c || bD c
  else (c.toNat : Int) == (k.toNat : Int)

theorem idx_at (c : UInt8) : ∀ (l : List UInt8) (k : Nat), (∀ j, j < k → l[j]? ≠ some c) → l[k]? = some c → Lib.indexByte l c = (k : Int) := by
  intro l
  induction l with
  | nil => intro k _ h; simp at h
  | cons x l ih =>
    intro k hn h
    unfold Lib.indexByte
    cases k with
    | zero => simp at h; subst h; simp
    | succ k =>
      have hx : x ≠ c := by have := hn 0 (by omega); simpa using this
      have := ih k (fun j hj => by have := hn (j + 1) (by omega); simpa using this) (by simpa using h)
      rw [if_neg (by simpa using hx), this, if_neg (by simp)]
      omega
theorem idx_none (c : UInt8) : ∀ (l : List UInt8), (∀ j, j < l.length → l[j]? ≠ some c) → Lib.indexByte l c = -1 := by
  intro l
  induction l with
  | nil => intro _; rfl
  | cons x l ih =>
    intro hn
    unfold Lib.indexByte
    have hx : x ≠ c := by have := hn 0 (by simp); simpa using this
    have := ih (fun j hj => by have := hn (j + 1) (by simpa using hj); simpa using this)
    rw [if_neg (by simpa using hx), this]
    simp

theorem get_byte {s : ByteArray} {k : Nat} (h : k < s.size) : s.data.toList[k]? = some s[k] := by
  have : k < s.data.size := h
  rw [Array.getElem?_toList, Array.getElem?_eq_getElem this]; rfl

theorem find_any (s : ByteArray) (c : UInt8) (hs : s.size ≤ 4611686018427387904) (w : World) :
    Calls Tryz.prog 99 #[.string s, .int .u8 (c.toNat : Int)] w fun e w' => e = .returned (.int .i64 (Lib.indexByte s.data.toList c)) ∧ w = w' := by
  go_enter Tryz.func99, Tryz.ntmps99
  go_wp2_with fail
  go_loop [5] (fun i => ∃ k : Nat, k ≤ s.size ∧ i = .int .i64 (k : Int) ∧ Hid (∀ j, j < k → s.data.toList[j]? ≠ some c)) (fun i => s.size - (intOf i).toNat)
  case atStart => exact ⟨0, by omega, rfl, Lib.hid (fun j hj => by omega)⟩
  case round =>
    obtain ⟨k, hk, rfl, hn⟩ := hrel
    have w3' : IntKind.i64.wrap ((k : Int) + 1) = (k : Int) + 1 := IntWalk.i64_in _ (by omega)
    by_cases hlt : k < s.size
    · have hlt' : (k : Int) < (s.size : Int) := by omega
      have hg := get_byte hlt
      by_cases hc : s[k] = c
      · have hE : Hid (Lib.indexByte s.data.toList c = (k : Int)) := Lib.hid (idx_at c _ k hn.out (by rw [hg, hc]))
        have hb : ((s[k].toNat : Int) == (c.toNat : Int)) = true := by rw [hc]; simp
        clear hc hg
        go_wp2_with fail
        go_ret
        exact ⟨by rw [hE.out]; rfl, rfl⟩
      · have hb : ((s[k].toNat : Int) == (c.toNat : Int)) = false := by
          rw [beq_eq_false_iff_ne]; intro e; apply hc; apply UInt8.toNat_inj.1; exact Int.ofNat.inj e
        have hn' : Hid (∀ j, j < k + 1 → s.data.toList[j]? ≠ some c) := Lib.hid (fun j hj => by
          by_cases e : j = k
          · rw [e, hg]; simpa using hc
          · exact hn.out j (by omega))
        clear hc hg
        go_wp2_with fail
        exact ⟨⟨k + 1, by omega, by simp, hn'⟩, by simp only [intOf]; omega⟩
    · have hlt' : ((k : Int) < (s.size : Int)) = False := by simp; omega
      have hE : Hid (Lib.indexByte s.data.toList c = -1) := Lib.hid (idx_none c _ (fun j hj => hn.out j (by simp at hj; have : s.data.size = s.size := rfl; omega)))
      go_wp2_with fail
      go_ret
      exact ⟨by rw [hE.out]; rfl, rfl⟩

/-- MEMBER -/
theorem u8_ne {k : UInt8} {n : Nat} (hn : n < 256) (h : k ≠ UInt8.ofNat n) : ((k.toNat : Int) == (n : Int)) = false := by
  rw [beq_eq_false_iff_ne]; intro e; apply h; apply UInt8.toNat_inj.1; rw [UInt8.toNat_ofNat']; omega
set_option maxHeartbeats 1000000 in
theorem cls76 (c : UInt8) (w : World) : Calls Tryz.prog 111 #[.int .u8 76, .int .u8 (c.toNat : Int)] w fun e w' => e = .returned (.bool (memB (76 : UInt8) c)) ∧ w = w' := by
  have hc : (c.toNat < 48) ∨ (48 ≤ c.toNat ∧ c.toNat ≤ 57) ∨ (58 ≤ c.toNat ∧ c.toNat < 97) ∨ (97 ≤ c.toNat ∧ c.toNat ≤ 122) ∨ (122 < c.toNat) := by omega
  rcases hc with h | h | h | h | h
  · have r0 : ((97 : Int) ≤ (c.toNat : Int)) = False := by simp; omega
    have r1 : (c.toNat : Int) ≤ 122 := by omega
    have r2 : ((48 : Int) ≤ (c.toNat : Int)) = False := by simp; omega
    have r3 : (c.toNat : Int) ≤ 57 := by omega
    have q0 : bL c = false := by simp [bL]; omega
    have q1 : bD c = false := by simp [bD]; omega
    have hM : Hid (memB (76 : UInt8) c = false) := Lib.hid (by unfold memB; simp [*])
    clear h
    clear q0 q1
    go_enter Tryz.func111, Tryz.ntmps111
    go_wp2_with (go_at_call 99; refine (find_any _ c (by decide) _).mono ?_; rintro e w' ⟨rfl, rfl⟩)
    go_ret
    exact ⟨by rw [hM.out]; rfl, rfl⟩
  · have r0 : ((97 : Int) ≤ (c.toNat : Int)) = False := by simp; omega
    have r1 : (c.toNat : Int) ≤ 122 := by omega
    have r2 : (48 : Int) ≤ (c.toNat : Int) := by omega
    have r3 : (c.toNat : Int) ≤ 57 := by omega
    have q0 : bL c = false := by simp [bL]; omega
    have q1 : bD c = true := by simp [bD]; omega
    have hM : Hid (memB (76 : UInt8) c = false) := Lib.hid (by unfold memB; simp [*])
    clear h
    clear q0 q1
    go_enter Tryz.func111, Tryz.ntmps111
    go_wp2_with (go_at_call 99; refine (find_any _ c (by decide) _).mono ?_; rintro e w' ⟨rfl, rfl⟩)
    go_ret
    exact ⟨by rw [hM.out]; rfl, rfl⟩
  · have r0 : ((97 : Int) ≤ (c.toNat : Int)) = False := by simp; omega
    have r1 : (c.toNat : Int) ≤ 122 := by omega
    have r2 : (48 : Int) ≤ (c.toNat : Int) := by omega
    have r3 : ((c.toNat : Int) ≤ 57) = False := by simp; omega
    have q0 : bL c = false := by simp [bL]; omega
    have q1 : bD c = false := by simp [bD]; omega
    have hM : Hid (memB (76 : UInt8) c = false) := Lib.hid (by unfold memB; simp [*])
    clear h
    clear q0 q1
    go_enter Tryz.func111, Tryz.ntmps111
    go_wp2_with (go_at_call 99; refine (find_any _ c (by decide) _).mono ?_; rintro e w' ⟨rfl, rfl⟩)
    go_ret
    exact ⟨by rw [hM.out]; rfl, rfl⟩
  · have r0 : (97 : Int) ≤ (c.toNat : Int) := by omega
    have r1 : (c.toNat : Int) ≤ 122 := by omega
    have r2 : (48 : Int) ≤ (c.toNat : Int) := by omega
    have r3 : ((c.toNat : Int) ≤ 57) = False := by simp; omega
    have q0 : bL c = true := by simp [bL]; omega
    have q1 : bD c = false := by simp [bD]; omega
    have hM : Hid (memB (76 : UInt8) c = true) := Lib.hid (by unfold memB; simp [*])
    clear h
    clear q0 q1
    go_enter Tryz.func111, Tryz.ntmps111
    go_wp2_with (go_at_call 99; refine (find_any _ c (by decide) _).mono ?_; rintro e w' ⟨rfl, rfl⟩)
    go_ret
    exact ⟨by rw [hM.out]; rfl, rfl⟩
  · have r0 : (97 : Int) ≤ (c.toNat : Int) := by omega
    have r1 : ((c.toNat : Int) ≤ 122) = False := by simp; omega
    have r2 : (48 : Int) ≤ (c.toNat : Int) := by omega
    have r3 : ((c.toNat : Int) ≤ 57) = False := by simp; omega
    have q0 : bL c = false := by simp [bL]; omega
    have q1 : bD c = false := by simp [bD]; omega
    have hM : Hid (memB (76 : UInt8) c = false) := Lib.hid (by unfold memB; simp [*])
    clear h
    clear q0 q1
    go_enter Tryz.func111, Tryz.ntmps111
    go_wp2_with (go_at_call 99; refine (find_any _ c (by decide) _).mono ?_; rintro e w' ⟨rfl, rfl⟩)
    go_ret
    exact ⟨by rw [hM.out]; rfl, rfl⟩

set_option maxHeartbeats 1000000 in
theorem cls68 (c : UInt8) (w : World) : Calls Tryz.prog 111 #[.int .u8 68, .int .u8 (c.toNat : Int)] w fun e w' => e = .returned (.bool (memB (68 : UInt8) c)) ∧ w = w' := by
  have hc : (c.toNat < 48) ∨ (48 ≤ c.toNat ∧ c.toNat ≤ 57) ∨ (58 ≤ c.toNat ∧ c.toNat < 97) ∨ (97 ≤ c.toNat ∧ c.toNat ≤ 122) ∨ (122 < c.toNat) := by omega
  rcases hc with h | h | h | h | h
  · have r0 : ((97 : Int) ≤ (c.toNat : Int)) = False := by simp; omega
    have r1 : (c.toNat : Int) ≤ 122 := by omega
    have r2 : ((48 : Int) ≤ (c.toNat : Int)) = False := by simp; omega
    have r3 : (c.toNat : Int) ≤ 57 := by omega
    have q0 : bL c = false := by simp [bL]; omega
    have q1 : bD c = false := by simp [bD]; omega
    have hM : Hid (memB (68 : UInt8) c = false) := Lib.hid (by unfold memB; simp [*])
    clear h
    clear q0 q1
    go_enter Tryz.func111, Tryz.ntmps111
    go_wp2_with (go_at_call 99; refine (find_any _ c (by decide) _).mono ?_; rintro e w' ⟨rfl, rfl⟩)
    go_ret
    exact ⟨by rw [hM.out]; rfl, rfl⟩
  · have r0 : ((97 : Int) ≤ (c.toNat : Int)) = False := by simp; omega
    have r1 : (c.toNat : Int) ≤ 122 := by omega
    have r2 : (48 : Int) ≤ (c.toNat : Int) := by omega
    have r3 : (c.toNat : Int) ≤ 57 := by omega
    have q0 : bL c = false := by simp [bL]; omega
    have q1 : bD c = true := by simp [bD]; omega
    have hM : Hid (memB (68 : UInt8) c = true) := Lib.hid (by unfold memB; simp [*])
    clear h
    clear q0 q1
    go_enter Tryz.func111, Tryz.ntmps111
    go_wp2_with (go_at_call 99; refine (find_any _ c (by decide) _).mono ?_; rintro e w' ⟨rfl, rfl⟩)
    go_ret
    exact ⟨by rw [hM.out]; rfl, rfl⟩
  · have r0 : ((97 : Int) ≤ (c.toNat : Int)) = False := by simp; omega
    have r1 : (c.toNat : Int) ≤ 122 := by omega
    have r2 : (48 : Int) ≤ (c.toNat : Int) := by omega
    have r3 : ((c.toNat : Int) ≤ 57) = False := by simp; omega
    have q0 : bL c = false := by simp [bL]; omega
    have q1 : bD c = false := by simp [bD]; omega
    have hM : Hid (memB (68 : UInt8) c = false) := Lib.hid (by unfold memB; simp [*])
    clear h
    clear q0 q1
    go_enter Tryz.func111, Tryz.ntmps111
    go_wp2_with (go_at_call 99; refine (find_any _ c (by decide) _).mono ?_; rintro e w' ⟨rfl, rfl⟩)
    go_ret
    exact ⟨by rw [hM.out]; rfl, rfl⟩
  · have r0 : (97 : Int) ≤ (c.toNat : Int) := by omega
    have r1 : (c.toNat : Int) ≤ 122 := by omega
    have r2 : (48 : Int) ≤ (c.toNat : Int) := by omega
    have r3 : ((c.toNat : Int) ≤ 57) = False := by simp; omega
    have q0 : bL c = true := by simp [bL]; omega
    have q1 : bD c = false := by simp [bD]; omega
    have hM : Hid (memB (68 : UInt8) c = false) := Lib.hid (by unfold memB; simp [*])
    clear h
    clear q0 q1
    go_enter Tryz.func111, Tryz.ntmps111
    go_wp2_with (go_at_call 99; refine (find_any _ c (by decide) _).mono ?_; rintro e w' ⟨rfl, rfl⟩)
    go_ret
    exact ⟨by rw [hM.out]; rfl, rfl⟩
  · have r0 : (97 : Int) ≤ (c.toNat : Int) := by omega
    have r1 : ((c.toNat : Int) ≤ 122) = False := by simp; omega
    have r2 : (48 : Int) ≤ (c.toNat : Int) := by omega
    have r3 : ((c.toNat : Int) ≤ 57) = False := by simp; omega
    have q0 : bL c = false := by simp [bL]; omega
    have q1 : bD c = false := by simp [bD]; omega
    have hM : Hid (memB (68 : UInt8) c = false) := Lib.hid (by unfold memB; simp [*])
    clear h
    clear q0 q1
    go_enter Tryz.func111, Tryz.ntmps111
    go_wp2_with (go_at_call 99; refine (find_any _ c (by decide) _).mono ?_; rintro e w' ⟨rfl, rfl⟩)
    go_ret
    exact ⟨by rw [hM.out]; rfl, rfl⟩

set_option maxHeartbeats 1000000 in
theorem cls87 (c : UInt8) (w : World) : Calls Tryz.prog 111 #[.int .u8 87, .int .u8 (c.toNat : Int)] w fun e w' => e = .returned (.bool (memB (87 : UInt8) c)) ∧ w = w' := by
  have hc : (c.toNat < 48) ∨ (48 ≤ c.toNat ∧ c.toNat ≤ 57) ∨ (58 ≤ c.toNat ∧ c.toNat < 97) ∨ (97 ≤ c.toNat ∧ c.toNat ≤ 122) ∨ (122 < c.toNat) := by omega
  rcases hc with h | h | h | h | h
  · have r0 : ((97 : Int) ≤ (c.toNat : Int)) = False := by simp; omega
    have r1 : (c.toNat : Int) ≤ 122 := by omega
    have r2 : ((48 : Int) ≤ (c.toNat : Int)) = False := by simp; omega
    have r3 : (c.toNat : Int) ≤ 57 := by omega
    have q0 : bL c = false := by simp [bL]; omega
    have q1 : bD c = false := by simp [bD]; omega
    have hM : Hid (memB (87 : UInt8) c = decide (0 ≤ Lib.indexByte [33, 36, 38, 42, 60, 62, 124, 94, 37, 95, 126, 63, 43, 45, 47, 61] c)) := Lib.hid (by unfold memB; simp [*])
    clear h
    clear q0 q1
    go_enter Tryz.func111, Tryz.ntmps111
    go_wp2_with (go_at_call 99; refine (find_any _ c (by decide) _).mono ?_; rintro e w' ⟨rfl, rfl⟩)
    go_ret
    exact ⟨by rw [hM.out]; rfl, rfl⟩
  · have r0 : ((97 : Int) ≤ (c.toNat : Int)) = False := by simp; omega
    have r1 : (c.toNat : Int) ≤ 122 := by omega
    have r2 : (48 : Int) ≤ (c.toNat : Int) := by omega
    have r3 : (c.toNat : Int) ≤ 57 := by omega
    have q0 : bL c = false := by simp [bL]; omega
    have q1 : bD c = true := by simp [bD]; omega
    have hM : Hid (memB (87 : UInt8) c = true) := Lib.hid (by unfold memB; simp [*])
    clear h
    clear q0 q1
    go_enter Tryz.func111, Tryz.ntmps111
    go_wp2_with (go_at_call 99; refine (find_any _ c (by decide) _).mono ?_; rintro e w' ⟨rfl, rfl⟩)
    go_ret
    exact ⟨by rw [hM.out]; rfl, rfl⟩
  · have r0 : ((97 : Int) ≤ (c.toNat : Int)) = False := by simp; omega
    have r1 : (c.toNat : Int) ≤ 122 := by omega
    have r2 : (48 : Int) ≤ (c.toNat : Int) := by omega
    have r3 : ((c.toNat : Int) ≤ 57) = False := by simp; omega
    have q0 : bL c = false := by simp [bL]; omega
    have q1 : bD c = false := by simp [bD]; omega
    have hM : Hid (memB (87 : UInt8) c = decide (0 ≤ Lib.indexByte [33, 36, 38, 42, 60, 62, 124, 94, 37, 95, 126, 63, 43, 45, 47, 61] c)) := Lib.hid (by unfold memB; simp [*])
    clear h
    clear q0 q1
    go_enter Tryz.func111, Tryz.ntmps111
    go_wp2_with (go_at_call 99; refine (find_any _ c (by decide) _).mono ?_; rintro e w' ⟨rfl, rfl⟩)
    go_ret
    exact ⟨by rw [hM.out]; rfl, rfl⟩
  · have r0 : (97 : Int) ≤ (c.toNat : Int) := by omega
    have r1 : (c.toNat : Int) ≤ 122 := by omega
    have r2 : (48 : Int) ≤ (c.toNat : Int) := by omega
    have r3 : ((c.toNat : Int) ≤ 57) = False := by simp; omega
    have q0 : bL c = true := by simp [bL]; omega
    have q1 : bD c = false := by simp [bD]; omega
    have hM : Hid (memB (87 : UInt8) c = true) := Lib.hid (by unfold memB; simp [*])
    clear h
    clear q0 q1
    go_enter Tryz.func111, Tryz.ntmps111
    go_wp2_with (go_at_call 99; refine (find_any _ c (by decide) _).mono ?_; rintro e w' ⟨rfl, rfl⟩)
    go_ret
    exact ⟨by rw [hM.out]; rfl, rfl⟩
  · have r0 : (97 : Int) ≤ (c.toNat : Int) := by omega
    have r1 : ((c.toNat : Int) ≤ 122) = False := by simp; omega
    have r2 : (48 : Int) ≤ (c.toNat : Int) := by omega
    have r3 : ((c.toNat : Int) ≤ 57) = False := by simp; omega
    have q0 : bL c = false := by simp [bL]; omega
    have q1 : bD c = false := by simp [bD]; omega
    have hM : Hid (memB (87 : UInt8) c = decide (0 ≤ Lib.indexByte [33, 36, 38, 42, 60, 62, 124, 94, 37, 95, 126, 63, 43, 45, 47, 61] c)) := Lib.hid (by unfold memB; simp [*])
    clear h
    clear q0 q1
    go_enter Tryz.func111, Tryz.ntmps111
    go_wp2_with (go_at_call 99; refine (find_any _ c (by decide) _).mono ?_; rintro e w' ⟨rfl, rfl⟩)
    go_ret
    exact ⟨by rw [hM.out]; rfl, rfl⟩

set_option maxHeartbeats 1000000 in
theorem cls70 (c : UInt8) (w : World) : Calls Tryz.prog 111 #[.int .u8 70, .int .u8 (c.toNat : Int)] w fun e w' => e = .returned (.bool (memB (70 : UInt8) c)) ∧ w = w' := by
  have hc : (c.toNat < 48) ∨ (48 ≤ c.toNat ∧ c.toNat ≤ 57) ∨ (58 ≤ c.toNat ∧ c.toNat < 97) ∨ (97 ≤ c.toNat ∧ c.toNat ≤ 122) ∨ (122 < c.toNat) := by omega
  rcases hc with h | h | h | h | h
  · have r0 : ((97 : Int) ≤ (c.toNat : Int)) = False := by simp; omega
    have r1 : (c.toNat : Int) ≤ 122 := by omega
    have r2 : ((48 : Int) ≤ (c.toNat : Int)) = False := by simp; omega
    have r3 : (c.toNat : Int) ≤ 57 := by omega
    have q0 : bL c = false := by simp [bL]; omega
    have q1 : bD c = false := by simp [bD]; omega
    have hM : Hid (memB (70 : UInt8) c = decide (0 ≤ Lib.indexByte [33, 36, 38, 42, 60, 62, 124, 94, 37, 95, 126, 63] c)) := Lib.hid (by unfold memB; simp [*])
    clear h
    clear q0 q1
    go_enter Tryz.func111, Tryz.ntmps111
    go_wp2_with (go_at_call 99; refine (find_any _ c (by decide) _).mono ?_; rintro e w' ⟨rfl, rfl⟩)
    go_ret
    exact ⟨by rw [hM.out]; rfl, rfl⟩
  · have r0 : ((97 : Int) ≤ (c.toNat : Int)) = False := by simp; omega
    have r1 : (c.toNat : Int) ≤ 122 := by omega
    have r2 : (48 : Int) ≤ (c.toNat : Int) := by omega
    have r3 : (c.toNat : Int) ≤ 57 := by omega
    have q0 : bL c = false := by simp [bL]; omega
    have q1 : bD c = true := by simp [bD]; omega
    have hM : Hid (memB (70 : UInt8) c = true) := Lib.hid (by unfold memB; simp [*])
    clear h
    clear q0 q1
    go_enter Tryz.func111, Tryz.ntmps111
    go_wp2_with (go_at_call 99; refine (find_any _ c (by decide) _).mono ?_; rintro e w' ⟨rfl, rfl⟩)
    go_ret
    exact ⟨by rw [hM.out]; rfl, rfl⟩
  · have r0 : ((97 : Int) ≤ (c.toNat : Int)) = False := by simp; omega
    have r1 : (c.toNat : Int) ≤ 122 := by omega
    have r2 : (48 : Int) ≤ (c.toNat : Int) := by omega
    have r3 : ((c.toNat : Int) ≤ 57) = False := by simp; omega
    have q0 : bL c = false := by simp [bL]; omega
    have q1 : bD c = false := by simp [bD]; omega
    have hM : Hid (memB (70 : UInt8) c = decide (0 ≤ Lib.indexByte [33, 36, 38, 42, 60, 62, 124, 94, 37, 95, 126, 63] c)) := Lib.hid (by unfold memB; simp [*])
    clear h
    clear q0 q1
    go_enter Tryz.func111, Tryz.ntmps111
    go_wp2_with (go_at_call 99; refine (find_any _ c (by decide) _).mono ?_; rintro e w' ⟨rfl, rfl⟩)
    go_ret
    exact ⟨by rw [hM.out]; rfl, rfl⟩
  · have r0 : (97 : Int) ≤ (c.toNat : Int) := by omega
    have r1 : (c.toNat : Int) ≤ 122 := by omega
    have r2 : (48 : Int) ≤ (c.toNat : Int) := by omega
    have r3 : ((c.toNat : Int) ≤ 57) = False := by simp; omega
    have q0 : bL c = true := by simp [bL]; omega
    have q1 : bD c = false := by simp [bD]; omega
    have hM : Hid (memB (70 : UInt8) c = true) := Lib.hid (by unfold memB; simp [*])
    clear h
    clear q0 q1
    go_enter Tryz.func111, Tryz.ntmps111
    go_wp2_with (go_at_call 99; refine (find_any _ c (by decide) _).mono ?_; rintro e w' ⟨rfl, rfl⟩)
    go_ret
    exact ⟨by rw [hM.out]; rfl, rfl⟩
  · have r0 : (97 : Int) ≤ (c.toNat : Int) := by omega
    have r1 : ((c.toNat : Int) ≤ 122) = False := by simp; omega
    have r2 : (48 : Int) ≤ (c.toNat : Int) := by omega
    have r3 : ((c.toNat : Int) ≤ 57) = False := by simp; omega
    have q0 : bL c = false := by simp [bL]; omega
    have q1 : bD c = false := by simp [bD]; omega
    have hM : Hid (memB (70 : UInt8) c = decide (0 ≤ Lib.indexByte [33, 36, 38, 42, 60, 62, 124, 94, 37, 95, 126, 63] c)) := Lib.hid (by unfold memB; simp [*])
    clear h
    clear q0 q1
    go_enter Tryz.func111, Tryz.ntmps111
    go_wp2_with (go_at_call 99; refine (find_any _ c (by decide) _).mono ?_; rintro e w' ⟨rfl, rfl⟩)
    go_ret
    exact ⟨by rw [hM.out]; rfl, rfl⟩

set_option maxHeartbeats 1000000 in
theorem cls66 (c : UInt8) (w : World) : Calls Tryz.prog 111 #[.int .u8 66, .int .u8 (c.toNat : Int)] w fun e w' => e = .returned (.bool (memB (66 : UInt8) c)) ∧ w = w' := by
  have hc : (c.toNat < 48) ∨ (48 ≤ c.toNat ∧ c.toNat ≤ 57) ∨ (58 ≤ c.toNat ∧ c.toNat < 97) ∨ (97 ≤ c.toNat ∧ c.toNat ≤ 122) ∨ (122 < c.toNat) := by omega
  rcases hc with h | h | h | h | h
  · have r0 : ((97 : Int) ≤ (c.toNat : Int)) = False := by simp; omega
    have r1 : (c.toNat : Int) ≤ 122 := by omega
    have r2 : ((48 : Int) ≤ (c.toNat : Int)) = False := by simp; omega
    have r3 : (c.toNat : Int) ≤ 57 := by omega
    have q0 : bL c = false := by simp [bL]; omega
    have q1 : bD c = false := by simp [bD]; omega
    have hM : Hid (memB (66 : UInt8) c = decide (0 ≤ Lib.indexByte [60, 36, 37, 42, 95] c)) := Lib.hid (by unfold memB; simp [*])
    clear h
    clear q0 q1
    go_enter Tryz.func111, Tryz.ntmps111
    go_wp2_with (go_at_call 99; refine (find_any _ c (by decide) _).mono ?_; rintro e w' ⟨rfl, rfl⟩)
    go_ret
    exact ⟨by rw [hM.out]; rfl, rfl⟩
  · have r0 : ((97 : Int) ≤ (c.toNat : Int)) = False := by simp; omega
    have r1 : (c.toNat : Int) ≤ 122 := by omega
    have r2 : (48 : Int) ≤ (c.toNat : Int) := by omega
    have r3 : (c.toNat : Int) ≤ 57 := by omega
    have q0 : bL c = false := by simp [bL]; omega
    have q1 : bD c = true := by simp [bD]; omega
    have hM : Hid (memB (66 : UInt8) c = decide (0 ≤ Lib.indexByte [60, 36, 37, 42, 95] c)) := Lib.hid (by unfold memB; simp [*])
    clear h
    clear q0 q1
    go_enter Tryz.func111, Tryz.ntmps111
    go_wp2_with (go_at_call 99; refine (find_any _ c (by decide) _).mono ?_; rintro e w' ⟨rfl, rfl⟩)
    go_ret
    exact ⟨by rw [hM.out]; rfl, rfl⟩
  · have r0 : ((97 : Int) ≤ (c.toNat : Int)) = False := by simp; omega
    have r1 : (c.toNat : Int) ≤ 122 := by omega
    have r2 : (48 : Int) ≤ (c.toNat : Int) := by omega
    have r3 : ((c.toNat : Int) ≤ 57) = False := by simp; omega
    have q0 : bL c = false := by simp [bL]; omega
    have q1 : bD c = false := by simp [bD]; omega
    have hM : Hid (memB (66 : UInt8) c = decide (0 ≤ Lib.indexByte [60, 36, 37, 42, 95] c)) := Lib.hid (by unfold memB; simp [*])
    clear h
    clear q0 q1
    go_enter Tryz.func111, Tryz.ntmps111
    go_wp2_with (go_at_call 99; refine (find_any _ c (by decide) _).mono ?_; rintro e w' ⟨rfl, rfl⟩)
    go_ret
    exact ⟨by rw [hM.out]; rfl, rfl⟩
  · have r0 : (97 : Int) ≤ (c.toNat : Int) := by omega
    have r1 : (c.toNat : Int) ≤ 122 := by omega
    have r2 : (48 : Int) ≤ (c.toNat : Int) := by omega
    have r3 : ((c.toNat : Int) ≤ 57) = False := by simp; omega
    have q0 : bL c = true := by simp [bL]; omega
    have q1 : bD c = false := by simp [bD]; omega
    have hM : Hid (memB (66 : UInt8) c = decide (0 ≤ Lib.indexByte [60, 36, 37, 42, 95] c)) := Lib.hid (by unfold memB; simp [*])
    clear h
    clear q0 q1
    go_enter Tryz.func111, Tryz.ntmps111
    go_wp2_with (go_at_call 99; refine (find_any _ c (by decide) _).mono ?_; rintro e w' ⟨rfl, rfl⟩)
    go_ret
    exact ⟨by rw [hM.out]; rfl, rfl⟩
  · have r0 : (97 : Int) ≤ (c.toNat : Int) := by omega
    have r1 : ((c.toNat : Int) ≤ 122) = False := by simp; omega
    have r2 : (48 : Int) ≤ (c.toNat : Int) := by omega
    have r3 : ((c.toNat : Int) ≤ 57) = False := by simp; omega
    have q0 : bL c = false := by simp [bL]; omega
    have q1 : bD c = false := by simp [bD]; omega
    have hM : Hid (memB (66 : UInt8) c = decide (0 ≤ Lib.indexByte [60, 36, 37, 42, 95] c)) := Lib.hid (by unfold memB; simp [*])
    clear h
    clear q0 q1
    go_enter Tryz.func111, Tryz.ntmps111
    go_wp2_with (go_at_call 99; refine (find_any _ c (by decide) _).mono ?_; rintro e w' ⟨rfl, rfl⟩)
    go_ret
    exact ⟨by rw [hM.out]; rfl, rfl⟩

set_option maxHeartbeats 1000000 in
theorem cls81 (c : UInt8) (w : World) : Calls Tryz.prog 111 #[.int .u8 81, .int .u8 (c.toNat : Int)] w fun e w' => e = .returned (.bool (memB (81 : UInt8) c)) ∧ w = w' := by
  have hc : (c.toNat < 48) ∨ (48 ≤ c.toNat ∧ c.toNat ≤ 57) ∨ (58 ≤ c.toNat ∧ c.toNat < 97) ∨ (97 ≤ c.toNat ∧ c.toNat ≤ 122) ∨ (122 < c.toNat) := by omega
  rcases hc with h | h | h | h | h
  · have r0 : ((97 : Int) ≤ (c.toNat : Int)) = False := by simp; omega
    have r1 : (c.toNat : Int) ≤ 122 := by omega
    have r2 : ((48 : Int) ≤ (c.toNat : Int)) = False := by simp; omega
    have r3 : (c.toNat : Int) ≤ 57 := by omega
    have q0 : bL c = false := by simp [bL]; omega
    have q1 : bD c = false := by simp [bD]; omega
    have hM : Hid (memB (81 : UInt8) c = ((c.toNat : Int) == 45)) := Lib.hid (by unfold memB; simp [*])
    clear h
    clear q0 q1
    go_enter Tryz.func111, Tryz.ntmps111
    go_wp2_with (go_at_call 99; refine (find_any _ c (by decide) _).mono ?_; rintro e w' ⟨rfl, rfl⟩)
    go_ret
    exact ⟨by rw [hM.out]; rfl, rfl⟩
  · have r0 : ((97 : Int) ≤ (c.toNat : Int)) = False := by simp; omega
    have r1 : (c.toNat : Int) ≤ 122 := by omega
    have r2 : (48 : Int) ≤ (c.toNat : Int) := by omega
    have r3 : (c.toNat : Int) ≤ 57 := by omega
    have q0 : bL c = false := by simp [bL]; omega
    have q1 : bD c = true := by simp [bD]; omega
    have hM : Hid (memB (81 : UInt8) c = true) := Lib.hid (by unfold memB; simp [*])
    clear h
    clear q0 q1
    go_enter Tryz.func111, Tryz.ntmps111
    go_wp2_with (go_at_call 99; refine (find_any _ c (by decide) _).mono ?_; rintro e w' ⟨rfl, rfl⟩)
    go_ret
    exact ⟨by rw [hM.out]; rfl, rfl⟩
  · have r0 : ((97 : Int) ≤ (c.toNat : Int)) = False := by simp; omega
    have r1 : (c.toNat : Int) ≤ 122 := by omega
    have r2 : (48 : Int) ≤ (c.toNat : Int) := by omega
    have r3 : ((c.toNat : Int) ≤ 57) = False := by simp; omega
    have q0 : bL c = false := by simp [bL]; omega
    have q1 : bD c = false := by simp [bD]; omega
    have hM : Hid (memB (81 : UInt8) c = ((c.toNat : Int) == 45)) := Lib.hid (by unfold memB; simp [*])
    clear h
    clear q0 q1
    go_enter Tryz.func111, Tryz.ntmps111
    go_wp2_with (go_at_call 99; refine (find_any _ c (by decide) _).mono ?_; rintro e w' ⟨rfl, rfl⟩)
    go_ret
    exact ⟨by rw [hM.out]; rfl, rfl⟩
  · have r0 : (97 : Int) ≤ (c.toNat : Int) := by omega
    have r1 : (c.toNat : Int) ≤ 122 := by omega
    have r2 : (48 : Int) ≤ (c.toNat : Int) := by omega
    have r3 : ((c.toNat : Int) ≤ 57) = False := by simp; omega
    have q0 : bL c = true := by simp [bL]; omega
    have q1 : bD c = false := by simp [bD]; omega
    have hM : Hid (memB (81 : UInt8) c = true) := Lib.hid (by unfold memB; simp [*])
    clear h
    clear q0 q1
    go_enter Tryz.func111, Tryz.ntmps111
    go_wp2_with (go_at_call 99; refine (find_any _ c (by decide) _).mono ?_; rintro e w' ⟨rfl, rfl⟩)
    go_ret
    exact ⟨by rw [hM.out]; rfl, rfl⟩
  · have r0 : (97 : Int) ≤ (c.toNat : Int) := by omega
    have r1 : ((c.toNat : Int) ≤ 122) = False := by simp; omega
    have r2 : (48 : Int) ≤ (c.toNat : Int) := by omega
    have r3 : ((c.toNat : Int) ≤ 57) = False := by simp; omega
    have q0 : bL c = false := by simp [bL]; omega
    have q1 : bD c = false := by simp [bD]; omega
    have hM : Hid (memB (81 : UInt8) c = ((c.toNat : Int) == 45)) := Lib.hid (by unfold memB; simp [*])
    clear h
    clear q0 q1
    go_enter Tryz.func111, Tryz.ntmps111
    go_wp2_with (go_at_call 99; refine (find_any _ c (by decide) _).mono ?_; rintro e w' ⟨rfl, rfl⟩)
    go_ret
    exact ⟨by rw [hM.out]; rfl, rfl⟩

set_option maxHeartbeats 1000000 in
theorem cls65 (c : UInt8) (w : World) : Calls Tryz.prog 111 #[.int .u8 65, .int .u8 (c.toNat : Int)] w fun e w' => e = .returned (.bool (memB (65 : UInt8) c)) ∧ w = w' := by
  have hc : (c.toNat < 48) ∨ (48 ≤ c.toNat ∧ c.toNat ≤ 57) ∨ (58 ≤ c.toNat ∧ c.toNat < 97) ∨ (97 ≤ c.toNat ∧ c.toNat ≤ 122) ∨ (122 < c.toNat) := by omega
  rcases hc with h | h | h | h | h
  · have r0 : ((97 : Int) ≤ (c.toNat : Int)) = False := by simp; omega
    have r1 : (c.toNat : Int) ≤ 122 := by omega
    have r2 : ((48 : Int) ≤ (c.toNat : Int)) = False := by simp; omega
    have r3 : (c.toNat : Int) ≤ 57 := by omega
    have q0 : bL c = false := by simp [bL]; omega
    have q1 : bD c = false := by simp [bD]; omega
    have hM : Hid (memB (65 : UInt8) c = false) := Lib.hid (by unfold memB; simp [*])
    clear h
    clear q0 q1
    go_enter Tryz.func111, Tryz.ntmps111
    go_wp2_with (go_at_call 99; refine (find_any _ c (by decide) _).mono ?_; rintro e w' ⟨rfl, rfl⟩)
    go_ret
    exact ⟨by rw [hM.out]; rfl, rfl⟩
  · have r0 : ((97 : Int) ≤ (c.toNat : Int)) = False := by simp; omega
    have r1 : (c.toNat : Int) ≤ 122 := by omega
    have r2 : (48 : Int) ≤ (c.toNat : Int) := by omega
    have r3 : (c.toNat : Int) ≤ 57 := by omega
    have q0 : bL c = false := by simp [bL]; omega
    have q1 : bD c = true := by simp [bD]; omega
    have hM : Hid (memB (65 : UInt8) c = true) := Lib.hid (by unfold memB; simp [*])
    clear h
    clear q0 q1
    go_enter Tryz.func111, Tryz.ntmps111
    go_wp2_with (go_at_call 99; refine (find_any _ c (by decide) _).mono ?_; rintro e w' ⟨rfl, rfl⟩)
    go_ret
    exact ⟨by rw [hM.out]; rfl, rfl⟩
  · have r0 : ((97 : Int) ≤ (c.toNat : Int)) = False := by simp; omega
    have r1 : (c.toNat : Int) ≤ 122 := by omega
    have r2 : (48 : Int) ≤ (c.toNat : Int) := by omega
    have r3 : ((c.toNat : Int) ≤ 57) = False := by simp; omega
    have q0 : bL c = false := by simp [bL]; omega
    have q1 : bD c = false := by simp [bD]; omega
    have hM : Hid (memB (65 : UInt8) c = false) := Lib.hid (by unfold memB; simp [*])
    clear h
    clear q0 q1
    go_enter Tryz.func111, Tryz.ntmps111
    go_wp2_with (go_at_call 99; refine (find_any _ c (by decide) _).mono ?_; rintro e w' ⟨rfl, rfl⟩)
    go_ret
    exact ⟨by rw [hM.out]; rfl, rfl⟩
  · have r0 : (97 : Int) ≤ (c.toNat : Int) := by omega
    have r1 : (c.toNat : Int) ≤ 122 := by omega
    have r2 : (48 : Int) ≤ (c.toNat : Int) := by omega
    have r3 : ((c.toNat : Int) ≤ 57) = False := by simp; omega
    have q0 : bL c = true := by simp [bL]; omega
    have q1 : bD c = false := by simp [bD]; omega
    have hM : Hid (memB (65 : UInt8) c = true) := Lib.hid (by unfold memB; simp [*])
    clear h
    clear q0 q1
    go_enter Tryz.func111, Tryz.ntmps111
    go_wp2_with (go_at_call 99; refine (find_any _ c (by decide) _).mono ?_; rintro e w' ⟨rfl, rfl⟩)
    go_ret
    exact ⟨by rw [hM.out]; rfl, rfl⟩
  · have r0 : (97 : Int) ≤ (c.toNat : Int) := by omega
    have r1 : ((c.toNat : Int) ≤ 122) = False := by simp; omega
    have r2 : (48 : Int) ≤ (c.toNat : Int) := by omega
    have r3 : ((c.toNat : Int) ≤ 57) = False := by simp; omega
    have q0 : bL c = false := by simp [bL]; omega
    have q1 : bD c = false := by simp [bD]; omega
    have hM : Hid (memB (65 : UInt8) c = false) := Lib.hid (by unfold memB; simp [*])
    clear h
    clear q0 q1
    go_enter Tryz.func111, Tryz.ntmps111
    go_wp2_with (go_at_call 99; refine (find_any _ c (by decide) _).mono ?_; rintro e w' ⟨rfl, rfl⟩)
    go_ret
    exact ⟨by rw [hM.out]; rfl, rfl⟩

set_option maxHeartbeats 1000000 in
theorem clsAny (k : UInt8) (n76 : k ≠ 76) (n68 : k ≠ 68) (n87 : k ≠ 87) (n70 : k ≠ 70) (n66 : k ≠ 66) (n81 : k ≠ 81) (n65 : k ≠ 65) (c : UInt8) (w : World) : Calls Tryz.prog 111 #[.int .u8 (k.toNat : Int), .int .u8 (c.toNat : Int)] w fun e w' => e = .returned (.bool (memB k c)) ∧ w = w' := by
  have e76 : ((k.toNat : Int) == 76) = false := u8_ne (n := 76) (by omega) n76
  have e68 : ((k.toNat : Int) == 68) = false := u8_ne (n := 68) (by omega) n68
  have e87 : ((k.toNat : Int) == 87) = false := u8_ne (n := 87) (by omega) n87
  have e70 : ((k.toNat : Int) == 70) = false := u8_ne (n := 70) (by omega) n70
  have e66 : ((k.toNat : Int) == 66) = false := u8_ne (n := 66) (by omega) n66
  have e81 : ((k.toNat : Int) == 81) = false := u8_ne (n := 81) (by omega) n81
  have e65 : ((k.toNat : Int) == 65) = false := u8_ne (n := 65) (by omega) n65
  have hM : Hid (memB k c = ((c.toNat : Int) == (k.toNat : Int))) := Lib.hid (by unfold memB; rw [if_neg n76]; rw [if_neg n68]; rw [if_neg n87]; rw [if_neg n70]; rw [if_neg n66]; rw [if_neg n81]; rw [if_neg n65]; done)
  clear n76 n68 n87 n70 n66 n81 n65
  have hc : (c.toNat < 48) ∨ (48 ≤ c.toNat ∧ c.toNat ≤ 57) ∨ (58 ≤ c.toNat ∧ c.toNat < 97) ∨ (97 ≤ c.toNat ∧ c.toNat ≤ 122) ∨ (122 < c.toNat) := by omega
  rcases hc with h | h | h | h | h
  · have r0 : ((97 : Int) ≤ (c.toNat : Int)) = False := by simp; omega
    have r1 : (c.toNat : Int) ≤ 122 := by omega
    have r2 : ((48 : Int) ≤ (c.toNat : Int)) = False := by simp; omega
    have r3 : (c.toNat : Int) ≤ 57 := by omega
    have q0 : bL c = false := by simp [bL]; omega
    have q1 : bD c = false := by simp [bD]; omega
    clear h
    clear q0 q1
    go_enter Tryz.func111, Tryz.ntmps111
    go_wp2_with (go_at_call 99; refine (find_any _ c (by decide) _).mono ?_; rintro e w' ⟨rfl, rfl⟩)
    go_ret
    exact ⟨by rw [hM.out]; rfl, rfl⟩
  · have r0 : ((97 : Int) ≤ (c.toNat : Int)) = False := by simp; omega
    have r1 : (c.toNat : Int) ≤ 122 := by omega
    have r2 : (48 : Int) ≤ (c.toNat : Int) := by omega
    have r3 : (c.toNat : Int) ≤ 57 := by omega
    have q0 : bL c = false := by simp [bL]; omega
    have q1 : bD c = true := by simp [bD]; omega
    clear h
    clear q0 q1
    go_enter Tryz.func111, Tryz.ntmps111
    go_wp2_with (go_at_call 99; refine (find_any _ c (by decide) _).mono ?_; rintro e w' ⟨rfl, rfl⟩)
    go_ret
    exact ⟨by rw [hM.out]; rfl, rfl⟩
  · have r0 : ((97 : Int) ≤ (c.toNat : Int)) = False := by simp; omega
    have r1 : (c.toNat : Int) ≤ 122 := by omega
    have r2 : (48 : Int) ≤ (c.toNat : Int) := by omega
    have r3 : ((c.toNat : Int) ≤ 57) = False := by simp; omega
    have q0 : bL c = false := by simp [bL]; omega
    have q1 : bD c = false := by simp [bD]; omega
    clear h
    clear q0 q1
    go_enter Tryz.func111, Tryz.ntmps111
    go_wp2_with (go_at_call 99; refine (find_any _ c (by decide) _).mono ?_; rintro e w' ⟨rfl, rfl⟩)
    go_ret
    exact ⟨by rw [hM.out]; rfl, rfl⟩
  · have r0 : (97 : Int) ≤ (c.toNat : Int) := by omega
    have r1 : (c.toNat : Int) ≤ 122 := by omega
    have r2 : (48 : Int) ≤ (c.toNat : Int) := by omega
    have r3 : ((c.toNat : Int) ≤ 57) = False := by simp; omega
    have q0 : bL c = true := by simp [bL]; omega
    have q1 : bD c = false := by simp [bD]; omega
    clear h
    clear q0 q1
    go_enter Tryz.func111, Tryz.ntmps111
    go_wp2_with (go_at_call 99; refine (find_any _ c (by decide) _).mono ?_; rintro e w' ⟨rfl, rfl⟩)
    go_ret
    exact ⟨by rw [hM.out]; rfl, rfl⟩
  · have r0 : (97 : Int) ≤ (c.toNat : Int) := by omega
    have r1 : ((c.toNat : Int) ≤ 122) = False := by simp; omega
    have r2 : (48 : Int) ≤ (c.toNat : Int) := by omega
    have r3 : ((c.toNat : Int) ≤ 57) = False := by simp; omega
    have q0 : bL c = false := by simp [bL]; omega
    have q1 : bD c = false := by simp [bD]; omega
    clear h
    clear q0 q1
    go_enter Tryz.func111, Tryz.ntmps111
    go_wp2_with (go_at_call 99; refine (find_any _ c (by decide) _).mono ?_; rintro e w' ⟨rfl, rfl⟩)
    go_ret
    exact ⟨by rw [hM.out]; rfl, rfl⟩

theorem member_any (k c : UInt8) (w : World) : Calls Tryz.prog 111 #[.int .u8 (k.toNat : Int), .int .u8 (c.toNat : Int)] w fun e w' => e = .returned (.bool (memB k c)) ∧ w = w' := by
  by_cases n76 : k = 76
  · subst n76; exact cls76 c w
  by_cases n68 : k = 68
  · subst n68; exact cls68 c w
  by_cases n87 : k = 87
  · subst n87; exact cls87 c w
  by_cases n70 : k = 70
  · subst n70; exact cls70 c w
  by_cases n66 : k = 66
  · subst n66; exact cls66 c w
  by_cases n81 : k = 81
  · subst n81; exact cls81 c w
  by_cases n65 : k = 65
  · subst n65; exact cls65 c w
  exact clsAny k n76 n68 n87 n70 n66 n81 n65 c w
end

section
open Go.RowKit

theorem rBegins_any (t : ByteArray) (i : Nat) (hi : i ≤ t.size) (ht : t.size ≤ 140737488351232) (w : World) :
    Calls Tryz.prog 145 #[.string t, .int .i64 (i : Int)] w fun e w' => e = .returned (.string (winB t i)) ∧ w = w' := by
  have hi' : (i : Int) ≤ (t.size : Int) := by omega
  have hw : IntKind.i64.wrap ((i : Int) + 100) = (i : Int) + 100 := IntWalk.i64_in _ (by omega)
  by_cases hc : i + 100 ≤ t.size
  · have hm : min (t.size : Int) ((i : Int) + 100) = (i : Int) + 100 := by omega
    have hm2 : min (i + 100) t.size = i + 100 := by omega
    have h3 : (i : Int) ≤ (i : Int) + 100 := by omega
    have h4 : (i : Int) + 100 ≤ (t.size : Int) := by omega
    go_enter Tryz.func145, Tryz.ntmps145
    go_wp2
    go_ret
    exact ⟨by rw [winB, hm2]; rfl, rfl⟩
  · have hm : min (t.size : Int) ((i : Int) + 100) = (t.size : Int) := by omega
    have hm2 : min (i + 100) t.size = t.size := by omega
    go_enter Tryz.func145, Tryz.ntmps145
    go_wp2
    go_ret
    exact ⟨by rw [winB, hm2]; rfl, rfl⟩

theorem colon_any (t : ByteArray) (i : Nat) (hi : i ≤ 4611686018427387904) (w : World) :
    Calls Tryz.prog 160 #[.string t, .int .i64 (i : Int)] w fun e w' => e = .returned (.bool (joinsB (aheadB t (i + 1)))) ∧ w = w' := by
  have hw : IntKind.i64.wrap ((i : Int) + 1) = (i : Int) + 1 := IntWalk.i64_in _ (by omega)
  by_cases h : i + 1 < t.size
  · have hm : (i : Int) + 1 < (t.size : Int) := by omega
    have hn : ((i : Int) + 1).toNat = i + 1 := by omega
    have h0 : (0 : Int) ≤ (i : Int) + 1 := by omega
    have hE : Hid (joinsB (aheadB t (i + 1)) = (((t[i + 1].toNat : Int) == 58) || ((t[i + 1].toNat : Int) == 61))) := Lib.hid (by unfold joinsB; rw [aheadB_lt h])
    go_enter Tryz.func160, Tryz.ntmps160
    go_wp2_with fail
    · have e58 := ‹(t[i + 1].toNat : Int) = 58›
      go_ret
      exact ⟨by rw [hE.out, e58]; rfl, rfl⟩
    · go_ret
      exact ⟨by rw [hE.out]; rfl, rfl⟩
  · have hm : ((i : Int) + 1 < (t.size : Int)) = False := by simp; omega
    have hE : Hid (joinsB (aheadB t (i + 1)) = false) := Lib.hid (by rw [aheadB_ge (by omega)]; decide)
    go_enter Tryz.func160, Tryz.ntmps160
    go_wp2_with fail
    go_ret
    exact ⟨by rw [hE.out]; rfl, rfl⟩

/-- The patterns of plain names; the rules but for signs; the signs. -/
def nB : Nat → ByteArray
  | 0 => ⟨#[76]⟩
  | 1 => ⟨#[76, 87, 42, 70]⟩
  | 2 => ⟨#[66, 87, 42, 76]⟩
  | _ => ⟨#[66, 87, 42, 76, 87, 42, 70]⟩
theorem nB_size (i : Nat) : 1 ≤ (nB i).size ∧ (nB i).size ≤ 7 := by
  unfold nB
  split <;> decide
def plainL : List ByteArray := [nB 0, nB 1, nB 2, nB 3]
def patsB (i : Nat) : Nat → List (Nat × ByteArray)
  | 0 => []
  | k + 1 => patsB i k ++ [(6, (⟨#[63]⟩ ++ nB i ++ ⟨#[58]⟩) ++ nB k)]
def rulesB : Nat → List (Nat × ByteArray)
  | 0 => []
  | i + 1 => rulesB i ++ [(1, nB i), (1, nB i ++ ⟨#[64, 65, 81, 42]⟩), (3, nB i ++ ⟨#[58]⟩), (6, ⟨#[63]⟩ ++ nB i)] ++ patsB i 4
def rulesL : List (Nat × ByteArray) := rulesB 4 ++ [(2, ⟨#[68, 68, 42]⟩), (2, ⟨#[45, 68, 68, 42]⟩), (4, ⟨#[35, 116]⟩), (4, ⟨#[35, 102]⟩)]
def signL : List ByteArray := [⟨#[40]⟩, ⟨#[41]⟩, ⟨#[91]⟩, ⟨#[93]⟩, ⟨#[123]⟩, ⟨#[125]⟩, ⟨#[44]⟩, ⟨#[59]⟩, ⟨#[46]⟩, ⟨#[61]⟩, ⟨#[60]⟩, ⟨#[62]⟩, ⟨#[43]⟩, ⟨#[45]⟩, ⟨#[42]⟩, ⟨#[47]⟩, ⟨#[38]⟩, ⟨#[124]⟩, ⟨#[126]⟩, ⟨#[63]⟩, ⟨#[58, 61]⟩, ⟨#[58, 58]⟩, ⟨#[61, 62]⟩, ⟨#[61, 61]⟩, ⟨#[60, 61]⟩, ⟨#[62, 61]⟩]

/-- Strings that lie in a block from its beginning on. -/
def StrAt (w : World) (g : Nat) (l : List ByteArray) : Prop := g < w.heap.size ∧ ∀ k s, l[k]? = some s → w.cell? ⟨g, k, none⟩ = some (.string s)
theorem StrAt.below {w w' : World} {g : Nat} {l : List ByteArray} (h : StrAt w g l) (hb : Below w.heap.size w w') : StrAt w' g l :=
  ⟨Nat.lt_of_lt_of_le h.1 hb.size, fun k s hs => (hb.cell (p := ⟨g, k, none⟩) h.1).trans (h.2 k s hs)⟩

theorem rPlain_any (w : World) : Calls Tryz.prog 143 #[] w fun e w' => e = .returned (.slice (some ⟨w.heap.size, 0, none⟩) 4 4) ∧ StrAt w' w.heap.size plainL ∧ Below w.heap.size w w' := by
  go_enter Tryz.func143, Tryz.ntmps143
  go_wp2_with fail
  go_ret
  refine ⟨rfl, ⟨by simp, fun k s hs => ?_⟩, (Below.refl _ w).alloc (Nat.le_refl _) _⟩
  have hk : k < 4 := by
    have := (List.getElem?_eq_some_iff.1 hs).1; simpa [plainL] using this
  have hk' : k = 0 ∨ k = 1 ∨ k = 2 ∨ k = 3 := by omega
  rcases hk' with rfl | rfl | rfl | rfl <;> (simp [plainL] at hs; subst hs; simp [nB])

set_option maxRecDepth 10000 in
theorem signs_any (w : World) : Calls Tryz.prog 147 #[] w fun e w' => e = .returned (.slice (some ⟨w.heap.size, 0, none⟩) 26 26) ∧ StrAt w' w.heap.size signL ∧ Below w.heap.size w w' := by
  go_enter Tryz.func147, Tryz.ntmps147
  go_wp2_with fail
  go_ret
  refine ⟨rfl, ⟨by simp, fun k s hs => ?_⟩, (Below.refl _ w).alloc (Nat.le_refl _) _⟩
  have hv : ((signL.map Value.string).toArray)[k]? = some (.string s) := by simp [hs]
  rw [World.cell?_alloc_new]
  exact hv
end

section
open Go.RowKit

theorem infoR : (Tryz.prog.info? 181).map (fun i => (i.zero, i.size, i.bytes)) = some (some (.agg #[.int .i64 0, .string ⟨#[]⟩]), 2, 24) := by kernel_rfl
def cellsR (x : Nat × ByteArray) : List Value := [.int .i64 (x.1 : Int), .string x.2]
def flatR (l : List (Nat × ByteArray)) : List Value := l.flatMap cellsR
theorem flatR_append (l m : List (Nat × ByteArray)) : flatR (l ++ m) = flatR l ++ flatR m := by simp [flatR]
theorem patsB_len (i : Nat) : ∀ k, (patsB i k).length = k
  | 0 => rfl
  | k + 1 => by rw [patsB, List.length_append, patsB_len i k]; rfl
theorem rulesB_len : ∀ k, (rulesB k).length = 8 * k
  | 0 => rfl
  | k + 1 => by rw [rulesB, List.length_append, List.length_append, rulesB_len k, patsB_len]; simp; omega

theorem StrAt.grown {w w' : World} {g : Nat} {l : List ByteArray} {row : Option Nat} (h : StrAt w g l) (hg : w.grownBy w' row) (hne : row ≠ some g) : StrAt w' g l :=
  ⟨Nat.lt_of_lt_of_le h.1 hg.size, fun k s hs => hg.cell (h.2 k s hs) (Ne.symm hne)⟩

/-- What lies in the list while the rules are put together: not where the patterns lie. -/
def RuleRel (w : World) (gn : Nat) (R : List (Nat × ByteArray)) (o : Value) (wr : World) : Prop :=
  ∃ gg cap, o = .slice (some ⟨gg, 0, none⟩) R.length cap ∧ gg ≠ gn ∧ wr.ownsRow w.heap.size 181 2 o R.length (flatR R) ∧ Below w.heap.size w wr ∧ StrAt wr gn plainL

theorem RuleRel.nth {w wr : World} {gn : Nat} {R : List (Nat × ByteArray)} {o : Value} (h : RuleRel w gn R o wr) (k : Nat) (hk : k < 4) : wr.cell? ⟨gn, k, none⟩ = some (.string (nB k)) := by
  obtain ⟨gg, cap, _, _, _, _, hst⟩ := h
  exact hst.2 k (nB k) (by unfold plainL; match k, hk with | 0, _ => rfl | 1, _ => rfl | 2, _ => rfl | 3, _ => rfl)
/-- After an append: the list is longer, and all else lies as it lay. -/
theorem RuleRel.more {w wr w2 : World} {gn gg g2 cap2 n m : Nat} {R S : List (Nat × ByteArray)} {t : TypeId} {cs : Array Value} (hn : n = R.length) (hm : m = S.length) (hgg : gg ≠ gn) (hbe : Below w.heap.size w wr) (hst : StrAt wr gn plainL) (hgb : w.heap.size ≤ gg)
    (hown2 : w2.ownsRow w.heap.size 181 2 (.slice (some ⟨g2, 0, none⟩) (n + m) cap2) (n + m) (flatR R ++ flatR S)) (hgrow : (wr.alloc (.cells cs t)).drew.grownBy w2 (some gg)) (hat : some gg = some g2 ∨ g2 = wr.heap.size + 1) :
    RuleRel w gn (R ++ S) (.slice (some ⟨g2, 0, none⟩) (n + m) cap2) w2 := by
  subst hn hm
  have hl := hst.1
  have hs0 := hbe.size
  refine ⟨g2, cap2, by rw [List.length_append], ?_, by rw [List.length_append, flatR_append]; exact hown2, ?_, ?_⟩
  · rcases hat with e | e
    · injection e with e; omega
    · omega
  · exact Below.grown ((hbe.alloc hs0 _).drew) hgrow (by simp; omega) (fun j hj => by injection hj with hj; omega)
  · have h1 : StrAt (wr.alloc (.cells cs t)).drew gn plainL := hst.below (((Below.refl _ wr).alloc (Nat.le_refl _) _).drew)
    exact h1.grown hgrow (by intro e; injection e with e; omega)

def quadB (i : Nat) : List (Nat × ByteArray) := [(1, nB i), (1, nB i ++ ⟨#[64, 65, 81, 42]⟩), (3, nB i ++ ⟨#[58]⟩), (6, ⟨#[63]⟩ ++ nB i)]

set_option maxHeartbeats 4000000 in
set_option maxRecDepth 100000 in
theorem rRules_any (w : World) : Calls Tryz.prog 142 #[] w fun e w' => ∃ v, e = .returned v ∧ w'.ownsRow w.heap.size 181 2 v rulesL.length (flatR rulesL) ∧ Below w.heap.size w w' := by
  obtain ⟨i0, hi, hz0, hz1, hz2⟩ := info_parts infoR
  go_enter Tryz.func142, Tryz.ntmps142
  go_wp2_with fail
  have hA := (Below.refl _ w).alloc (Nat.le_refl _) (.cells #[] 181)
  refine (rPlain_any _).mono ?_
  rintro e w1 ⟨rfl, hs1, hb1⟩
  obtain ⟨gn, hgn⟩ : ∃ gn, gn = (w.alloc (.cells #[] 181)).heap.size := ⟨_, rfl⟩
  have hgn1 : gn = w.heap.size + 1 := by rw [hgn]; simp
  rw [show (w.alloc (.cells #[] 181)).heap.size = gn from hgn.symm] at hs1 ⊢
  have R1 : Hid (RuleRel w gn (rulesB 0) (.slice (some ⟨w.heap.size, 0, none⟩) 0 0) w1) := by
    have hl := hs1.1
    have hz := hb1.size
    simp only [World.size_alloc] at hz
    refine Lib.hid ⟨w.heap.size, 0, rfl, ?_, ?_, hA.trans (hb1.mono (by simp)), hs1⟩
    · omega
    · have h0 : (w.alloc (.cells #[] 181)).ownsRow w.heap.size 181 2 (.slice (some ⟨w.heap.size, 0, none⟩) 0 0) 0 [] := World.ownsRow_made w #[] 0 (Nat.le_refl _) (by unfold maxLen; omega) rfl
      refine ⟨rfl, ?_⟩
      rcases h0.2 with ⟨h, _⟩ | ⟨g, cap, cur, hv, hb, hg, r1, r2, r3, r4⟩
      · simp at h
      · injection hv with hv _ hcap
        injection hv with hv
        injection hv with hv
        subst hv hcap
        exact Or.inr ⟨w.heap.size, 0, cur, rfl, Nat.le_refl _, (hb1.block _ (by simp)).trans hg, r1, r2, r3, r4⟩
  clear hb1 hs1 hA hgn hgn1
  go_wp2_with fail
  go_loopw [1, 3] (fun o i wr => ∃ k : Nat, k ≤ 4 ∧ i = .int .i64 (k : Int) ∧ Hid (RuleRel w gn (rulesB k) o wr)) (fun _ i _ => 4 - (intOf i).toNat)
  case atStart => exact ⟨0, by omega, rfl, R1⟩
  case round =>
    obtain ⟨k, hk, rfl, hro⟩ := hrel
    obtain ⟨gg, cap, rfl, hgg, hown, hbe, hst⟩ := hro.out
    have HOWN := Lib.hid hown; have HBE := Lib.hid hbe; have HST := Lib.hid hst; have HGG := Lib.hid hgg
    have hgb : Hid (w.heap.size ≤ gg) := Lib.hid (hown.lt gg rfl).1
    have hlen : (rulesB k).length ≤ 32 := by rw [rulesB_len]; omega
    obtain ⟨n, hn8⟩ : ∃ n, n = (rulesB k).length := ⟨_, rfl⟩
    rw [← hn8] at HOWN hlen ⊢
    have HN := Lib.hid hn8
    clear hown hbe hst hgg hn8
    have w3' : IntKind.i64.wrap ((k : Int) + 1) = (k : Int) + 1 := IntWalk.i64_in _ (by omega)
    by_cases hlt : k < 4
    · have hlt' : (k : Int) < 4 := by omega
      have hn := nB_size k
      have hc := hro.out.nth k hlt
      obtain ⟨nk, hnk⟩ : ∃ nk, nk = nB k := ⟨_, rfl⟩
      rw [← hnk] at hn hc
      have z1 : (9223372036854775807 < nk.size + 4) = False := by simp; omega
      have z2 : (9223372036854775807 < nk.size + 1) = False := by simp; omega
      have z3 : (9223372036854775807 < 1 + nk.size) = False := by simp; omega
      have z4 : (9223372036854775807 < 1 + nk.size + 1) = False := by simp; omega
      have HNK := Lib.hid hnk
      have hgl := HST.out.1
      have hbs := HBE.out.size
      clear hnk hro
      go_wp2_with fail
      go_region_held3 (fun w' => w'.cell? ⟨gn, k, none⟩ = some (.string nk))
        (first
          | go_keep
          | (rw [hgrow.cell_far _ (by simp; omega) (by simp [Value.ownBlock]; intro e; exact HGG.out e.symm)]; assumption))
        ((refine step_append_lies _ (by rfl) _ _ _ (by rfl) w.heap.size 181 i0 _ 2 24 Tryz.underlying176 hi hz0 hz1 hz2 rfl (by omega) _ n (flatR (rulesB k)) (by rfl) ((HOWN.out.alloc _).drew)
              ⟨wr.heap.size, 0, none⟩ 4 4 [.int .i64 1, .string nk, .int .i64 1, .string (nk ++ ⟨#[64, 65, 81, 42]⟩), .int .i64 3, .string (nk ++ ⟨#[58]⟩), .int .i64 6, .string (⟨#[63]⟩ ++ nk)] (by rfl) (by rfl) (World.news_of_block (cs := #[.int .i64 1, .string nk, .int .i64 1, .string (nk ++ ⟨#[64, 65, 81, 42]⟩), .int .i64 3, .string (nk ++ ⟨#[58]⟩), .int .i64 6, .string (⟨#[63]⟩ ++ nk)]) (t := 181) (fr := (0, 0)) (heap_alloc_new wr _)) (by simp [Value.oneCell'])
              (by omega) (by unfold maxLen; omega) (by omega) (by simp; omega) (wr.heap.size + 1) (by simp) ?_; intro g2 cap2 w2 hown2 hgrow hat hlt2))
      have R2 : Hid (RuleRel w gn (rulesB k ++ quadB k) (.slice (some ⟨g2, 0, none⟩) (n + 4) cap2) w2) := Lib.hid (RuleRel.more HN.out rfl HGG.out HBE.out HST.out hgb.out (by
        have e : flatR (quadB k) = [.int .i64 1, .string nk, .int .i64 1, .string (nk ++ ⟨#[64, 65, 81, 42]⟩), .int .i64 3, .string (nk ++ ⟨#[58]⟩), .int .i64 6, .string (⟨#[63]⟩ ++ nk)] := by rw [HNK.out]; rfl
        rw [e]; exact hown2) hgrow hat)
      clear hown2 hgrow hat hlt2 z1 z2 hc
      go_wp2_with fail
      go_loopw [1, 4] (fun o i ws => ∃ j : Nat, j ≤ 4 ∧ i = .int .i64 (j : Int) ∧ Hid (RuleRel w gn (rulesB k ++ quadB k ++ patsB k j) o ws)) (fun _ i _ => 4 - (intOf i).toNat)
      case atStart => exact ⟨0, by omega, rfl, Lib.hid (by rw [patsB, List.append_nil]; exact R2.out)⟩
      case round =>
        obtain ⟨j, hj, rfl, hrj⟩ := hrel
        obtain ⟨hg, hcap, rfl, jgg, jown, jbe, jst⟩ := hrj.out
        have JOWN := Lib.hid jown; have JBE := Lib.hid jbe; have JST := Lib.hid jst; have JGG := Lib.hid jgg
        have jgb : Hid (w.heap.size ≤ hg) := Lib.hid (jown.lt hg rfl).1
        have jlen : (rulesB k ++ quadB k ++ patsB k j).length ≤ 44 := by rw [List.length_append, List.length_append, rulesB_len, patsB_len]; simp [quadB]; omega
        obtain ⟨q, hq8⟩ : ∃ q, q = (rulesB k ++ quadB k ++ patsB k j).length := ⟨_, rfl⟩
        rw [← hq8] at JOWN jlen ⊢
        have JN := Lib.hid hq8
        clear jown jbe jst jgg hq8
        have v3' : IntKind.i64.wrap ((j : Int) + 1) = (j : Int) + 1 := IntWalk.i64_in _ (by omega)
        by_cases hjt : j < 4
        · have hjt' : (j : Int) < 4 := by omega
          have hm := nB_size j
          have dc := hrj.out.nth k hlt
          have dj := hrj.out.nth j hjt
          obtain ⟨nj, hnj⟩ : ∃ nj, nj = nB j := ⟨_, rfl⟩
          rw [← HNK.out] at dc
          rw [← hnj] at hm dj
          have y4 : (9223372036854775807 < 1 + nk.size + 1 + nj.size) = False := by simp; omega
          have HNJ := Lib.hid hnj
          have jgl := JST.out.1
          have jbs := JBE.out.size
          clear hnj hrj
          go_wp2_with fail
          go_region_held3 (fun w' => w'.cell? ⟨gn, k, none⟩ = some (.string nk) ∧ w'.cell? ⟨gn, j, none⟩ = some (.string nj))
            (first
              | go_keep
              | (go_split_ands
                 refine ⟨?_, ?_⟩
                 · (rw [hgrow.cell_far _ (by simp; omega) (by simp [Value.ownBlock]; intro e; exact JGG.out e.symm)]; assumption)
                 · (rw [hgrow.cell_far _ (by simp; omega) (by simp [Value.ownBlock]; intro e; exact JGG.out e.symm)]; assumption)))
            ((refine step_append_lies _ (by rfl) _ _ _ (by rfl) w.heap.size 181 i0 _ 2 24 Tryz.underlying176 hi hz0 hz1 hz2 rfl (by omega) _ q (flatR (rulesB k ++ quadB k ++ patsB k j)) (by rfl) ((JOWN.out.alloc _).drew)
                  ⟨wr.heap.size, 0, none⟩ 1 1 [.int .i64 6, .string ((⟨#[63]⟩ ++ nk ++ ⟨#[58]⟩) ++ nj)] (by rfl) (by rfl) (World.news_of_block (cs := #[.int .i64 6, .string ((⟨#[63]⟩ ++ nk ++ ⟨#[58]⟩) ++ nj)]) (t := 181) (fr := (0, 0)) (heap_alloc_new wr _)) (by simp [Value.oneCell'])
                  (by omega) (by unfold maxLen; omega) (by omega) (by simp; omega) (wr.heap.size + 1) (by simp) ?_; intro g3 cap3 w3 hown3 hgrow hat hlt3))
          have R3 : Hid (RuleRel w gn (rulesB k ++ quadB k ++ patsB k (j + 1)) (.slice (some ⟨g3, 0, none⟩) (q + 1) cap3) w3) := Lib.hid (by
            have := RuleRel.more (S := [(6, (⟨#[63]⟩ ++ nB k ++ ⟨#[58]⟩) ++ nB j)]) JN.out rfl JGG.out JBE.out JST.out jgb.out (by rw [← HNK.out, ← HNJ.out]; exact hown3) hgrow hat
            rw [patsB, ← List.append_assoc]; exact this)
          clear hown3 hgrow hat hlt3 dc dj
          go_wp2_with fail
          exact ⟨⟨j + 1, by omega, by simp, R3⟩, by simp only [intOf]; omega⟩
        · have hjt' : ((j : Int) < 4) = False := by simp; omega
          have R4 : Hid (RuleRel w gn (rulesB (k + 1)) (.slice (some ⟨hg, 0, none⟩) q hcap) wr) := Lib.hid (by
            have e : j = 4 := by omega
            have h := hrj.out
            rw [← JN.out] at h
            rw [show rulesB (k + 1) = rulesB k ++ quadB k ++ patsB k j by rw [e]; rfl]
            exact h)
          clear hrj
          go_wp2_with fail
          exact ⟨⟨k + 1, by omega, by simp, R4⟩, by simp only [intOf]; omega⟩
    · have hlt' : ((k : Int) < 4) = False := by simp; omega
      have R5 : Hid (RuleRel w gn (rulesB 4) (.slice (some ⟨gg, 0, none⟩) n cap) wr) := Lib.hid (by
        have h := hro.out
        rw [← HN.out] at h
        rw [show (4 : Nat) = k by omega]
        exact h)
      have hgl := HST.out.1
      have hbs := HBE.out.size
      have HNEW : Hid (∀ j u, [Value.int .i64 2, .string ⟨#[68, 68, 42]⟩, .int .i64 2, .string ⟨#[45, 68, 68, 42]⟩, .int .i64 4, .string ⟨#[35, 116]⟩, .int .i64 4, .string ⟨#[35, 102]⟩][j]? = some u → (wr.alloc (.cells #[Value.int .i64 2, .string ⟨#[68, 68, 42]⟩, .int .i64 2, .string ⟨#[45, 68, 68, 42]⟩, .int .i64 4, .string ⟨#[35, 116]⟩, .int .i64 4, .string ⟨#[35, 102]⟩] 181)).cell? ((⟨wr.heap.size, 0, none⟩ : Addr).add j) = some u) := Lib.hid (World.news_of_block (cs := #[Value.int .i64 2, .string ⟨#[68, 68, 42]⟩, .int .i64 2, .string ⟨#[45, 68, 68, 42]⟩, .int .i64 4, .string ⟨#[35, 116]⟩, .int .i64 4, .string ⟨#[35, 102]⟩]) (t := 181) (fr := (0, 0)) (heap_alloc_new wr _))
      clear hro
      go_wp2_with (at_builtin; (refine wpList_append_own _ rfl _ _ 176 rfl w.heap.size 181 i0 (.agg #[.int .i64 0, .string ⟨#[]⟩]) 2 24 Tryz.underlying176 hi hz0 hz1 hz2 rfl (by decide) _ _ _ rfl (HOWN.out.alloc _) ⟨wr.heap.size, 0, none⟩ 4 4 [Value.int .i64 2, .string ⟨#[68, 68, 42]⟩, .int .i64 2, .string ⟨#[45, 68, 68, 42]⟩, .int .i64 4, .string ⟨#[35, 116]⟩, .int .i64 4, .string ⟨#[35, 102]⟩] rfl rfl HNEW.out (by simp [Value.oneCell']) (by unfold maxLen; omega) (by omega) (by simp; omega) ?_); intro v' w4 hown' hgrow _; have HOWN4 := Lib.hid hown'; have HG := Lib.hid hgrow; clear hown' hgrow)
      go_ret
      refine ⟨v', rfl, ?_, ?_⟩
      · have e4 : rulesB k = rulesB 4 := by rw [show k = 4 by omega]
        have e : rulesL.length = n + 4 := by rw [HN.out, e4, rulesL, List.length_append]; rfl
        have e2 : flatR rulesL = flatR (rulesB k) ++ [Value.int .i64 2, .string ⟨#[68, 68, 42]⟩, .int .i64 2, .string ⟨#[45, 68, 68, 42]⟩, .int .i64 4, .string ⟨#[35, 116]⟩, .int .i64 4, .string ⟨#[35, 102]⟩] := by
          rw [e4, rulesL, flatR_append]; rfl
        rw [e, e2]; exact HOWN4.out
      · exact Below.grown (HBE.out.alloc hbs _) HG.out (by simp; omega) (fun j hj => (HOWN.out.lt j hj).1)
end

section
open Go.RowKit

/-- What a class with a star, and one byte of a class, make of the places that a pattern may have come to. -/
def toStar (m : UInt8 → Bool) (s : ByteArray) (f : Nat → Bool) : Nat → Bool
  | 0 => f 0
  | i + 1 => f (i + 1) || (toStar m s f i && m (aheadB s i))
def toOne (m : UInt8 → Bool) (s : ByteArray) (f : Nat → Bool) : Nat → Bool
  | 0 => false
  | i + 1 => f i && m (aheadB s i)
def starAt (P : ByteArray) (k : Nat) : Bool := decide (k + 1 < P.size) && decide (aheadB P (k + 1) = 42)
def runP (P s : ByteArray) (k : Nat) (f : Nat → Bool) : Nat → Bool :=
  if h : k < P.size then (if starAt P k then runP P s (k + 2) (toStar (memB (aheadB P k)) s f) else runP P s (k + 1) (toOne (memB (aheadB P k)) s f)) else f
termination_by P.size - k
theorem runP_star {P s : ByteArray} {k : Nat} {f : Nat → Bool} (h : k < P.size) (hs : starAt P k = true) : runP P s k f = runP P s (k + 2) (toStar (memB (aheadB P k)) s f) := by rw [runP]; simp [h, hs]
theorem runP_one {P s : ByteArray} {k : Nat} {f : Nat → Bool} (h : k < P.size) (hs : starAt P k = false) : runP P s k f = runP P s (k + 1) (toOne (memB (aheadB P k)) s f) := by rw [runP]; simp [h, hs]
theorem runP_end {P s : ByteArray} {k : Nat} {f : Nat → Bool} (h : ¬ k < P.size) : runP P s k f = f := by rw [runP]; simp [h]
def lastT (f : Nat → Bool) : Nat → Nat
  | 0 => 0
  | i + 1 => if f (i + 1) then i + 1 else lastT f i
def initF (i : Nat) : Bool := i == 0
def longR (P s : ByteArray) : Nat := if s.size = 0 then 0 else if memB (aheadB P 0) (aheadB s 0) = false then 0 else lastT (runP P s 0 initF) s.size

theorem member_q {k c : UInt8} {b : Bool} (h : memB k c = b) (w : World) (n : Nat) : Calls Tryz.prog 111 #[.int .u8 (k.toNat : Int), .int .u8 (c.toNat : Int)] (w.drewN n) fun e w'' => e = .returned (.bool b) ∧ ∃ m, w'' = w.drewN m := by
  subst h
  refine (member_any k c _).mono ?_
  rintro e w' ⟨rfl, rfl⟩
  exact ⟨rfl, n, rfl⟩

set_option maxHeartbeats 4000000 in
set_option maxRecDepth 100000 in
theorem longest_none (P s : ByteArray) (hP : 1 ≤ P.size) (h : s.size = 0 ∨ memB (aheadB P 0) (aheadB s 0) = false) (w : World) :
    Calls Tryz.prog 144 #[.string P, .string s] w fun e w' => e = .returned (.int .i64 0) ∧ Below w.heap.size w w' := by
  by_cases h0 : s.size = 0
  · have h0' : ((s.size : Int) == 0) = true := by rw [h0]; rfl
    clear h h0
    go_enter Tryz.func144, Tryz.ntmps144
    go_wp2_with fail
    go_quiet (fail)
    go_wp2_with fail
    exact bodyPost_ret (v := .int .i64 0) (by simp [results, Tryz.results144, go_sem]) rfl ⟨rfl, below_drewN (Below.refl _ _) _⟩
  · have hm : memB P[0] s[0] = false := by
      rcases h with h | h
      · exact absurd h h0
      · rw [aheadB_lt (by omega), aheadB_lt (by omega)] at h; exact h
    have hmq := fun w n => member_q hm w n
    have HM := Lib.hid hmq
    have h0' : ((s.size : Int) == 0) = false := by rw [beq_eq_false_iff_ne]; omega
    have h1 : 0 < P.size := by omega
    have h2 : 0 < s.size := by omega
    clear h hm hmq
    go_enter Tryz.func144, Tryz.ntmps144
    go_wp2_with fail
    go_quiet ((go_at_call 111; exact HM.out _ _))
    go_wp2_with fail
    exact bodyPost_ret (v := .int .i64 0) (by simp [results, Tryz.results144, go_sem]) rfl ⟨rfl, below_drewN (Below.refl _ _) _⟩

theorem infoB : (Tryz.prog.info? 4).map (fun i => (i.zero, i.size, i.bytes)) = some (some (.bool false), 1, 1) := by kernel_rfl
/-- A new list of booleans: none is true. -/
theorem make_bools (n : Nat) (hn : n ≤ 140737488351232) : ∃ MC : Array Value, (∀ W : World, (W.alloc (.cells MC 4)).rowIs W.heap.size 4 (n + 1) (fun _ => .bool false)) ∧
    ∀ W : World, (Instr.makeSlice 199 (.int .i64 ((n : Int) + 1)) (.int .i64 ((n : Int) + 1))).run Tryz.prog W = .ok (.slice (some ⟨W.heap.size, 0, none⟩) (n + 1) (n + 1)) (W.alloc (.cells MC 4)) := by
  obtain ⟨i0, hi, hz0, hz1, hz2⟩ := info_parts infoB
  refine ⟨madeCells #[.bool false] (n + 1), fun W => World.rowIs_made W _ _ _, fun W => ?_⟩
  have := run_make (P := Tryz.prog) W 199 4 i0 (.bool false) Tryz.underlying199 hi hz0 .i64 .i64 ((n : Int) + 1) ((n : Int) + 1) (by omega) (Int.le_refl _) (by rw [hz2]; omega) (by omega)
  rw [show ((n : Int) + 1).toNat = n + 1 by omega, hz1, Nat.mul_one] at this
  exact this

/-- The places that a pattern may have come to, as they lie. -/
def LRel (w : World) (n : Nat) (f : Nat → Bool) (v : Value) (wr : World) : Prop :=
  ∃ g, v = .slice (some ⟨g, 0, none⟩) (n + 1) (n + 1) ∧ w.heap.size ≤ g ∧ wr.rowIs g 4 (n + 1) (fun i => .bool (f i)) ∧ Below w.heap.size w wr

theorem member_q2 {k c : UInt8} {b : Bool} (h : memB k c = b) (w : World) (a n : Nat) : Calls Tryz.prog 111 #[.int .u8 (k.toNat : Int), .int .u8 (c.toNat : Int)] (w.drewN (a + n)) fun e w'' => e = .returned (.bool b) ∧ ∃ m, w'' = w.drewN (a + m) := by
  subst h
  refine (member_any k c _).mono ?_
  rintro e w' ⟨rfl, rfl⟩
  exact ⟨rfl, n, rfl⟩
theorem step_yes {to : Nat → Bool} {i q : Nat} (h : to i = true) : (if q = i then Value.bool true else .bool (decide (q < i) && to q)) = .bool (decide (q < i + 1) && to q) := by
  by_cases e : q = i
  · subst e; simp [h]
  · rw [if_neg e, show decide (q < i + 1) = decide (q < i) by simp; omega]
theorem step_no {to : Nat → Bool} {i q : Nat} (h : to i = false) : Value.bool (decide (q < i) && to q) = .bool (decide (q < i + 1) && to q) := by
  by_cases e : q = i
  · subst e; simp [h]
  · rw [show decide (q < i + 1) = decide (q < i) by simp; omega]

set_option maxHeartbeats 8000000 in
set_option maxRecDepth 100000 in
theorem longest_some (P s : ByteArray) (hP : 1 ≤ P.size) (hP2 : P.size ≤ 140737488351232) (hs : 1 ≤ s.size) (hs2 : s.size ≤ 140737488351232) (h : memB P[0] s[0] = true) (w : World) :
    Calls Tryz.prog 144 #[.string P, .string s] w fun e w' => e = .returned (.int .i64 (lastT (runP P s 0 initF) s.size : Int)) ∧ Below w.heap.size w w' := by
  have h0' : ((s.size : Int) == 0) = false := by rw [beq_eq_false_iff_ne]; omega
  have h1 : 0 < P.size := by omega
  have h2 : 0 < s.size := by omega
  have w1 : IntKind.i64.wrap ((s.size : Int) + 1) = (s.size : Int) + 1 := IntWalk.i64_in _ (by omega)
  obtain ⟨MC, hrow, hmk⟩ := make_bools s.size hs2
  obtain ⟨R, hR⟩ : ∃ R, R = runP P s 0 initF := ⟨_, rfl⟩
  have hz0 : ∀ q, ((w.drewN q).alloc (.cells MC 4)).cell? ⟨w.heap.size, 0, none⟩ = some (.bool false) := fun q => by simpa using (hrow (w.drewN q)).cell (i := 0) (by omega)
  have hz1 : ∀ q, ((w.drewN q).alloc (.cells MC 4)).frozen? ⟨w.heap.size, 0, none⟩ = false := fun q => by simpa using (hrow (w.drewN q)).frozen 0
  rw [← hR]
  have HR := Lib.hid hR
  have HM := Lib.hid (fun w n => member_q h w n)
  have HROW := Lib.hid hrow
  clear hR h hrow
  go_enter Tryz.func144, Tryz.ntmps144
  go_wp2_with fail
  go_quiet ((go_at_call 111; exact HM.out _ _))
  go_wp2_with fail
  go_loopw [5, 6] (fun av kv wr => ∃ k : Nat, ∃ f : Nat → Bool, k ≤ P.size ∧ kv = .int .i64 (k : Int) ∧ Hid (runP P s k f = R) ∧ Hid (LRel w s.size f av wr)) (fun _ kv _ => P.size - (intOf kv).toNat)
  case atStart =>
    refine ⟨0, initF, by omega, rfl, Lib.hid HR.out.symm, Lib.hid ⟨w.heap.size, rfl, Nat.le_refl _, ?_, ?_⟩⟩
    · have h := ((HROW.out (w.drewN nq)).set 0 (.bool true)).congr (g := fun i => .bool (initF i)) (fun i hi => by
        by_cases e : i = 0
        · subst e; rfl
        · simp [e, initF])
      simpa using h
    · exact ((below_drewN (Below.refl _ _) nq).alloc (by simp) _).setCell (by simp) _
  clear hz0 hz1
  case round =>
    obtain ⟨k, f, hk, rfl, hrun, hl⟩ := hrel
    obtain ⟨g, rfl, hg, hrow, hbe⟩ := hl.out
    have HG := Lib.hid hrow; have HBE := Lib.hid hbe
    have hgl := hrow.lt
    have hbs := hbe.size
    clear hl hrow hbe
    have wk1 : IntKind.i64.wrap ((k : Int) + 1) = (k : Int) + 1 := IntWalk.i64_in _ (by omega)
    by_cases hlt : k < P.size
    · have hlt' : (k : Int) < (P.size : Int) := by omega
      by_cases hk1 : k + 1 < P.size
      · have hk1' : (k : Int) + 1 < (P.size : Int) := by omega
        have hk1n : ((k : Int) + 1).toNat = k + 1 := by omega
        have hk10 : (0 : Int) ≤ (k : Int) + 1 := by omega
        have wk2 : IntKind.i64.wrap ((k : Int) + 1 + 1) = (k : Int) + 1 + 1 := IntWalk.i64_in _ (by omega)
        by_cases h42 : P[k + 1] = 42
        · have hb42 : ((P[k + 1].toNat : Int) == 42) = true := by rw [h42]; rfl
          have HST : Hid (starAt P k = true) := Lib.hid (by unfold starAt; rw [aheadB_lt hk1, h42]; simp [hk1])
          clear h42
          obtain ⟨to, hto⟩ : ∃ to : Nat → Bool, to = toStar (memB P[k]) s f := ⟨_, rfl⟩
          have HTO := Lib.hid hto
          clear hto
          obtain ⟨wo, rfl⟩ : ∃ wo : World, wo = wr := ⟨_, rfl⟩
          go_wp2_with fail
          go_loopw [9] (fun iv ws => ∃ i : Nat, i ≤ s.size + 1 ∧ iv = .int .i64 (i : Int) ∧ Hid (ws.rowIs g 4 (s.size + 1) (fun q => .bool (f q))) ∧ Hid (ws.rowIs wo.heap.size 4 (s.size + 1) (fun q => .bool (decide (q < i) && to q))) ∧ Hid (Below w.heap.size w ws)) (fun iv _ => s.size + 1 - (intOf iv).toNat)
          case atStart => exact ⟨0, by omega, rfl, Lib.hid (HG.out.alloc _), Lib.hid ((HROW.out wo).congr (fun i hi => by simp)), Lib.hid (HBE.out.alloc hbs _)⟩
          case round =>
            obtain ⟨i, hi, rfl, r1, r2, b3⟩ := hrel
            have wi1 : IntKind.i64.wrap ((i : Int) + 1) = (i : Int) + 1 := IntWalk.i64_in _ (by omega)
            by_cases hin : i < s.size + 1
            · have hin1 : (i : Int) ≤ (s.size : Int) := by omega
              have hin2 : (i : Int) < (s.size : Int) + 1 := by omega
              have hin3 : i ≤ s.size := by omega
              have cz := r2.out.cell hin
              simp only [Nat.lt_irrefl, decide_false, Bool.false_and] at cz
              have cfz := r2.out.frozen i
              have cfi := r1.out.cell hin
              by_cases hf : f i = true
              · rw [hf] at cfi
                have HV : Hid (to i = true) := Lib.hid (by rw [HTO.out]; cases i with | zero => exact hf | succ j => rw [toStar, hf]; rfl)
                clear hf
                go_wp2_with fail
                go_quiet (fail)
                go_wp2_with fail
                go_quiet (fail)
                go_wp2_with fail
                refine ⟨⟨i + 1, by omega, by simp, Lib.hid (((r1.out.of_block rfl).setOther (by simp; omega) _).of_block rfl), Lib.hid ((((r2.out.of_block rfl).set i (.bool true)).of_block rfl).congr (fun q hq => ?_)), Lib.hid (below_drewN ((below_drewN b3.out _).setCell hbs _) _)⟩, by simp only [intOf]; omega⟩
                exact step_yes HV.out
              · have hff : f i = false := by simpa using hf
                rw [hff] at cfi
                by_cases hi0 : i = 0
                · have hi0' : ((0 : Int) < (i : Int)) = False := by simp; omega
                  have hi0'' : decide ((0 : Int) < (i : Int)) = false := by simp; omega
                  have hi0n : (0 < i) = False := by simp; omega
                  have hi0m : decide (0 < i) = false := by simp; omega
                  have HV : Hid (to i = false) := Lib.hid (by rw [HTO.out, hi0]; rw [hi0] at hff; exact hff)
                  clear hf hff hi0
                  go_wp2_with fail
                  go_quiet (fail)
                  go_wp2_with fail
                  go_quiet (fail)
                  go_wp2_with fail
                  exact ⟨⟨i + 1, by omega, by simp, Lib.hid (r1.out.of_block rfl), Lib.hid ((r2.out.of_block rfl).congr (fun q hq => step_no HV.out)), Lib.hid (by first | exact below_drewN b3.out _ | exact below_drewN (below_drewN b3.out _) _)⟩, by simp only [intOf]; omega⟩
                · skip
                  obtain ⟨j, hj⟩ : ∃ j, i = j + 1 := ⟨i - 1, by omega⟩
                  have hi0' : (0 : Int) < (i : Int) := by omega
                  have hi0n : 0 < i := by omega
                  have wij : IntKind.i64.wrap ((i : Int) - 1) = (j : Int) := by rw [IntWalk.i64_in _ (by omega)]; omega
                  have hjs : j < s.size := by omega
                  have hjs' : (j : Int) < (s.size : Int) := by omega
                  have hjs2 : (j : Int) < (s.size : Int) + 1 := by omega
                  have hjs3 : j < s.size + 1 := by omega
                  have ctj := r2.out.cell hjs3
                  rw [show decide (j < i) = true by simp; omega, Bool.true_and] at ctj
                  cases htj : to j with
                  | false =>
                    rw [htj] at ctj
                    have HV : Hid (to i = false) := Lib.hid (by rw [HTO.out, hj, toStar, ← HTO.out, htj]; rw [hj] at hff; rw [hff]; rfl)
                    clear hf hff hi0 htj hj
                    go_wp2_with fail
                    go_quiet (fail)
                    go_wp2_with fail
                    go_quiet (fail)
                    go_wp2_with fail
                    exact ⟨⟨i + 1, by omega, by simp, Lib.hid (r1.out.of_block rfl), Lib.hid ((r2.out.of_block rfl).congr (fun q hq => step_no HV.out)), Lib.hid (by first | exact below_drewN b3.out _ | exact below_drewN (below_drewN b3.out _) _)⟩, by simp only [intOf]; omega⟩
                  | true =>
                    rw [htj] at ctj
                    cases hmm : memB P[k] s[j] with
                    | false =>
                      have HMQ := Lib.hid (fun w n => member_q hmm w n)
                      have HV : Hid (to i = false) := Lib.hid (by rw [HTO.out, hj, toStar, ← HTO.out, htj, aheadB_lt hjs, hmm]; rw [hj] at hff; rw [hff]; rfl)
                      clear hf hff hi0 htj hj hmm
                      go_wp2_with fail
                      go_quiet (((go_at_call 111; exact HMQ.out _ _)))
                      go_wp2_with fail
                      go_quiet (fail)
                      go_wp2_with fail
                      exact ⟨⟨i + 1, by omega, by simp, Lib.hid (r1.out.of_block rfl), Lib.hid ((r2.out.of_block rfl).congr (fun q hq => step_no HV.out)), Lib.hid (by first | exact below_drewN b3.out _ | exact below_drewN (below_drewN b3.out _) _)⟩, by simp only [intOf]; omega⟩
                    | true =>
                      have HMQ := Lib.hid (fun w n => member_q hmm w n)
                      have HV : Hid (to i = true) := Lib.hid (by rw [HTO.out, hj, toStar, ← HTO.out, htj, aheadB_lt hjs, hmm]; rw [hj] at hff; rw [hff]; rfl)
                      clear hf hff hi0 htj hj hmm
                      go_wp2_with fail
                      go_quiet (((go_at_call 111; exact HMQ.out _ _)))
                      go_wp2_with fail
                      go_quiet (fail)
                      go_wp2_with fail
                      refine ⟨⟨i + 1, by omega, by simp, Lib.hid (((r1.out.of_block rfl).setOther (by simp; omega) _).of_block rfl), Lib.hid ((((r2.out.of_block rfl).set i (.bool true)).of_block rfl).congr (fun q hq => ?_)), Lib.hid (below_drewN ((below_drewN b3.out _).setCell hbs _) _)⟩, by simp only [intOf]; omega⟩
                      exact step_yes HV.out
            · have hin1 : ((i : Int) ≤ (s.size : Int)) = False := by simp; omega
              have hin2 : i = s.size + 1 := by omega
              have HRN : Hid (runP P s (k + 2) to = R) := Lib.hid (by rw [HTO.out, ← aheadB_lt hlt, ← runP_star hlt HST.out]; exact hrun.out)
              have HL : Hid (LRel w s.size to (.slice (some ⟨wo.heap.size, 0, none⟩) (s.size + 1) (s.size + 1)) wr) := Lib.hid ⟨wo.heap.size, rfl, hbs, r2.out.congr (fun q hq => by rw [hin2]; simp [hq]), b3.out⟩
              clear hin2
              go_wp2_with fail
              exact ⟨⟨k + 2, to, by omega, by simp; try omega, HRN, HL⟩, by simp only [intOf]; omega⟩
        · have hb42 : ((P[k + 1].toNat : Int) == 42) = false := by
            rw [beq_eq_false_iff_ne]; intro e; apply h42; apply UInt8.toNat_inj.1; exact Int.ofNat.inj e
          have HST : Hid (starAt P k = false) := Lib.hid (by unfold starAt; rw [aheadB_lt hk1]; simp [h42])
          clear h42
          obtain ⟨to, hto⟩ : ∃ to : Nat → Bool, to = toOne (memB P[k]) s f := ⟨_, rfl⟩
          have HTO := Lib.hid hto
          clear hto
          obtain ⟨wo, rfl⟩ : ∃ wo : World, wo = wr := ⟨_, rfl⟩
          go_wp2_with fail
          go_loopw [9] (fun iv ws => ∃ i : Nat, i ≤ s.size + 1 ∧ iv = .int .i64 (i : Int) ∧ Hid (ws.rowIs g 4 (s.size + 1) (fun q => .bool (f q))) ∧ Hid (ws.rowIs wo.heap.size 4 (s.size + 1) (fun q => .bool (decide (q < i) && to q))) ∧ Hid (Below w.heap.size w ws)) (fun iv _ => s.size + 1 - (intOf iv).toNat)
          case atStart => exact ⟨0, by omega, rfl, Lib.hid (HG.out.alloc _), Lib.hid ((HROW.out wo).congr (fun i hi => by simp)), Lib.hid (HBE.out.alloc hbs _)⟩
          case round =>
            obtain ⟨i, hi, rfl, r1, r2, b3⟩ := hrel
            have wi1 : IntKind.i64.wrap ((i : Int) + 1) = (i : Int) + 1 := IntWalk.i64_in _ (by omega)
            by_cases hin : i < s.size + 1
            · have hin1 : (i : Int) ≤ (s.size : Int) := by omega
              have hin2 : (i : Int) < (s.size : Int) + 1 := by omega
              have hin3 : i ≤ s.size := by omega
              have cz := r2.out.cell hin
              simp only [Nat.lt_irrefl, decide_false, Bool.false_and] at cz
              have cfz := r2.out.frozen i
              have cfi := r1.out.cell hin
              by_cases hi0 : i = 0
              · have hi0' : ((0 : Int) < (i : Int)) = False := by simp; omega
                have hi0'' : decide ((0 : Int) < (i : Int)) = false := by simp; omega
                have hi0n : (0 < i) = False := by simp; omega
                have hi0m : decide (0 < i) = false := by simp; omega
                have HV : Hid (to i = false) := Lib.hid (by rw [HTO.out, hi0]; rfl)
                clear hi0
                go_wp2_with fail
                go_quiet (fail)
                go_wp2_with fail
                go_quiet (fail)
                go_wp2_with fail
                exact ⟨⟨i + 1, by omega, by simp, Lib.hid (r1.out.of_block rfl), Lib.hid ((r2.out.of_block rfl).congr (fun q hq => step_no HV.out)), Lib.hid (by first | exact below_drewN b3.out _ | exact below_drewN (below_drewN b3.out _) _)⟩, by simp only [intOf]; omega⟩
              · skip
                obtain ⟨j, hj⟩ : ∃ j, i = j + 1 := ⟨i - 1, by omega⟩
                have hi0' : (0 : Int) < (i : Int) := by omega
                have hi0n : 0 < i := by omega
                have wij : IntKind.i64.wrap ((i : Int) - 1) = (j : Int) := by rw [IntWalk.i64_in _ (by omega)]; omega
                have hjs : j < s.size := by omega
                have hjs' : (j : Int) < (s.size : Int) := by omega
                have hjs2 : (j : Int) < (s.size : Int) + 1 := by omega
                have hjs3 : j < s.size + 1 := by omega
                have ctj := r1.out.cell hjs3
                cases htj : f j with
                | false =>
                  rw [htj] at ctj
                  have HV : Hid (to i = false) := Lib.hid (by rw [HTO.out, hj, toOne, htj]; rfl)
                  clear hi0 htj hj cfi
                  go_wp2_with fail
                  go_quiet (fail)
                  go_wp2_with fail
                  go_quiet (fail)
                  go_wp2_with fail
                  exact ⟨⟨i + 1, by omega, by simp, Lib.hid (r1.out.of_block rfl), Lib.hid ((r2.out.of_block rfl).congr (fun q hq => step_no HV.out)), Lib.hid (by first | exact below_drewN b3.out _ | exact below_drewN (below_drewN b3.out _) _)⟩, by simp only [intOf]; omega⟩
                | true =>
                  rw [htj] at ctj
                  cases hmm : memB P[k] s[j] with
                  | false =>
                    have HMQ := Lib.hid (fun w a n => member_q2 hmm w a n)
                    have HV : Hid (to i = false) := Lib.hid (by rw [HTO.out, hj, toOne, htj, aheadB_lt hjs, hmm]; rfl)
                    clear hi0 htj hj hmm cfi
                    go_wp2_with fail
                    go_quiet (fail)
                    go_wp2_with fail
                    go_quiet (((go_at_call 111; exact HMQ.out _ _ _)))
                    go_wp2_with fail
                    exact ⟨⟨i + 1, by omega, by simp, Lib.hid (r1.out.of_block rfl), Lib.hid ((r2.out.of_block rfl).congr (fun q hq => step_no HV.out)), Lib.hid (by first | exact below_drewN b3.out _ | exact below_drewN (below_drewN b3.out _) _)⟩, by simp only [intOf]; omega⟩
                  | true =>
                    have HMQ := Lib.hid (fun w a n => member_q2 hmm w a n)
                    have HV : Hid (to i = true) := Lib.hid (by rw [HTO.out, hj, toOne, htj, aheadB_lt hjs, hmm]; rfl)
                    clear hi0 htj hj hmm cfi
                    go_wp2_with fail
                    go_quiet (fail)
                    go_wp2_with fail
                    go_quiet (((go_at_call 111; exact HMQ.out _ _ _)))
                    go_wp2_with fail
                    refine ⟨⟨i + 1, by omega, by simp, Lib.hid ((r1.out.of_block rfl).setOther (by simp; omega) _), Lib.hid (((r2.out.of_block rfl).set i (.bool true)).congr (fun q hq => ?_)), Lib.hid (Below.setCell (by first | exact below_drewN b3.out _ | exact below_drewN (below_drewN b3.out _) _) hbs _)⟩, by simp only [intOf]; omega⟩
                    exact step_yes HV.out
            · have hin1 : ((i : Int) ≤ (s.size : Int)) = False := by simp; omega
              have hin2 : i = s.size + 1 := by omega
              have HRN : Hid (runP P s (k + 1) to = R) := Lib.hid (by rw [HTO.out, ← aheadB_lt hlt, ← runP_one hlt HST.out]; exact hrun.out)
              have HL : Hid (LRel w s.size to (.slice (some ⟨wo.heap.size, 0, none⟩) (s.size + 1) (s.size + 1)) wr) := Lib.hid ⟨wo.heap.size, rfl, hbs, r2.out.congr (fun q hq => by rw [hin2]; simp [hq]), b3.out⟩
              clear hin2
              go_wp2_with fail
              exact ⟨⟨k + 1, to, by omega, by simp; try omega, HRN, HL⟩, by simp only [intOf]; omega⟩
      · have hk1' : ((k : Int) + 1 < (P.size : Int)) = False := by simp; omega
        have HST : Hid (starAt P k = false) := Lib.hid (by unfold starAt; simp [hk1])
        obtain ⟨to, hto⟩ : ∃ to : Nat → Bool, to = toOne (memB P[k]) s f := ⟨_, rfl⟩
        have HTO := Lib.hid hto
        clear hto
        obtain ⟨wo, rfl⟩ : ∃ wo : World, wo = wr := ⟨_, rfl⟩
        go_wp2_with fail
        go_loopw [9] (fun iv ws => ∃ i : Nat, i ≤ s.size + 1 ∧ iv = .int .i64 (i : Int) ∧ Hid (ws.rowIs g 4 (s.size + 1) (fun q => .bool (f q))) ∧ Hid (ws.rowIs wo.heap.size 4 (s.size + 1) (fun q => .bool (decide (q < i) && to q))) ∧ Hid (Below w.heap.size w ws)) (fun iv _ => s.size + 1 - (intOf iv).toNat)
        case atStart => exact ⟨0, by omega, rfl, Lib.hid (HG.out.alloc _), Lib.hid ((HROW.out wo).congr (fun i hi => by simp)), Lib.hid (HBE.out.alloc hbs _)⟩
        case round =>
          obtain ⟨i, hi, rfl, r1, r2, b3⟩ := hrel
          have wi1 : IntKind.i64.wrap ((i : Int) + 1) = (i : Int) + 1 := IntWalk.i64_in _ (by omega)
          by_cases hin : i < s.size + 1
          · have hin1 : (i : Int) ≤ (s.size : Int) := by omega
            have hin2 : (i : Int) < (s.size : Int) + 1 := by omega
            have hin3 : i ≤ s.size := by omega
            have cz := r2.out.cell hin
            simp only [Nat.lt_irrefl, decide_false, Bool.false_and] at cz
            have cfz := r2.out.frozen i
            have cfi := r1.out.cell hin
            by_cases hi0 : i = 0
            · have hi0' : ((0 : Int) < (i : Int)) = False := by simp; omega
              have hi0'' : decide ((0 : Int) < (i : Int)) = false := by simp; omega
              have hi0n : (0 < i) = False := by simp; omega
              have hi0m : decide (0 < i) = false := by simp; omega
              have HV : Hid (to i = false) := Lib.hid (by rw [HTO.out, hi0]; rfl)
              clear hi0
              go_wp2_with fail
              go_quiet (fail)
              go_wp2_with fail
              go_quiet (fail)
              go_wp2_with fail
              exact ⟨⟨i + 1, by omega, by simp, Lib.hid (r1.out.of_block rfl), Lib.hid ((r2.out.of_block rfl).congr (fun q hq => step_no HV.out)), Lib.hid (by first | exact below_drewN b3.out _ | exact below_drewN (below_drewN b3.out _) _)⟩, by simp only [intOf]; omega⟩
            · skip
              obtain ⟨j, hj⟩ : ∃ j, i = j + 1 := ⟨i - 1, by omega⟩
              have hi0' : (0 : Int) < (i : Int) := by omega
              have hi0n : 0 < i := by omega
              have wij : IntKind.i64.wrap ((i : Int) - 1) = (j : Int) := by rw [IntWalk.i64_in _ (by omega)]; omega
              have hjs : j < s.size := by omega
              have hjs' : (j : Int) < (s.size : Int) := by omega
              have hjs2 : (j : Int) < (s.size : Int) + 1 := by omega
              have hjs3 : j < s.size + 1 := by omega
              have ctj := r1.out.cell hjs3
              cases htj : f j with
              | false =>
                rw [htj] at ctj
                have HV : Hid (to i = false) := Lib.hid (by rw [HTO.out, hj, toOne, htj]; rfl)
                clear hi0 htj hj cfi
                go_wp2_with fail
                go_quiet (fail)
                go_wp2_with fail
                go_quiet (fail)
                go_wp2_with fail
                exact ⟨⟨i + 1, by omega, by simp, Lib.hid (r1.out.of_block rfl), Lib.hid ((r2.out.of_block rfl).congr (fun q hq => step_no HV.out)), Lib.hid (by first | exact below_drewN b3.out _ | exact below_drewN (below_drewN b3.out _) _)⟩, by simp only [intOf]; omega⟩
              | true =>
                rw [htj] at ctj
                cases hmm : memB P[k] s[j] with
                | false =>
                  have HMQ := Lib.hid (fun w a n => member_q2 hmm w a n)
                  have HV : Hid (to i = false) := Lib.hid (by rw [HTO.out, hj, toOne, htj, aheadB_lt hjs, hmm]; rfl)
                  clear hi0 htj hj hmm cfi
                  go_wp2_with fail
                  go_quiet (fail)
                  go_wp2_with fail
                  go_quiet (((go_at_call 111; exact HMQ.out _ _ _)))
                  go_wp2_with fail
                  exact ⟨⟨i + 1, by omega, by simp, Lib.hid (r1.out.of_block rfl), Lib.hid ((r2.out.of_block rfl).congr (fun q hq => step_no HV.out)), Lib.hid (by first | exact below_drewN b3.out _ | exact below_drewN (below_drewN b3.out _) _)⟩, by simp only [intOf]; omega⟩
                | true =>
                  have HMQ := Lib.hid (fun w a n => member_q2 hmm w a n)
                  have HV : Hid (to i = true) := Lib.hid (by rw [HTO.out, hj, toOne, htj, aheadB_lt hjs, hmm]; rfl)
                  clear hi0 htj hj hmm cfi
                  go_wp2_with fail
                  go_quiet (fail)
                  go_wp2_with fail
                  go_quiet (((go_at_call 111; exact HMQ.out _ _ _)))
                  go_wp2_with fail
                  refine ⟨⟨i + 1, by omega, by simp, Lib.hid ((r1.out.of_block rfl).setOther (by simp; omega) _), Lib.hid (((r2.out.of_block rfl).set i (.bool true)).congr (fun q hq => ?_)), Lib.hid (Below.setCell (by first | exact below_drewN b3.out _ | exact below_drewN (below_drewN b3.out _) _) hbs _)⟩, by simp only [intOf]; omega⟩
                  exact step_yes HV.out
          · have hin1 : ((i : Int) ≤ (s.size : Int)) = False := by simp; omega
            have hin2 : i = s.size + 1 := by omega
            have HRN : Hid (runP P s (k + 1) to = R) := Lib.hid (by rw [HTO.out, ← aheadB_lt hlt, ← runP_one hlt HST.out]; exact hrun.out)
            have HL : Hid (LRel w s.size to (.slice (some ⟨wo.heap.size, 0, none⟩) (s.size + 1) (s.size + 1)) wr) := Lib.hid ⟨wo.heap.size, rfl, hbs, r2.out.congr (fun q hq => by rw [hin2]; simp [hq]), b3.out⟩
            clear hin2
            go_wp2_with fail
            exact ⟨⟨k + 1, to, by omega, by simp; try omega, HRN, HL⟩, by simp only [intOf]; omega⟩
    · have hlt' : ((k : Int) < (P.size : Int)) = False := by simp; omega
      have HF : Hid (R = f) := Lib.hid (by rw [← hrun.out, runP_end hlt])
      go_wp2_with fail
      go_loop [10] (fun iv => ∃ i : Nat, i ≤ s.size ∧ iv = .int .i64 (i : Int) ∧ Hid (lastT f s.size = lastT f i)) (fun iv => (intOf iv).toNat)
      case atStart => exact ⟨s.size, Nat.le_refl _, rfl, Lib.hid rfl⟩
      case round =>
        obtain ⟨i, hi, rfl, hlast⟩ := hrel
        cases i with
        | zero =>
          have HE : Hid (lastT R s.size = 0) := Lib.hid (by rw [HF.out, hlast.out]; rfl)
          clear hlast
          go_wp2_with fail
          exact bodyPost_ret (v := .int .i64 0) (by simp [results, Tryz.results144, go_sem]) rfl ⟨by rw [HE.out]; rfl, HBE.out⟩
        | succ j =>
          have c0 : (0 : Int) < ((j + 1 : Nat) : Int) := by omega
          have c1 : ((j + 1 : Nat) : Int) < (s.size : Int) + 1 := by omega
          have c2 : j + 1 < s.size + 1 := by omega
          have wj : IntKind.i64.wrap (((j + 1 : Nat) : Int) - 1) = (j : Int) := by rw [IntWalk.i64_in _ (by omega)]; omega
          have cf := HG.out.cell c2
          cases hf : f (j + 1) with
          | true =>
            rw [hf] at cf
            have HE : Hid (lastT R s.size = j + 1) := Lib.hid (by rw [HF.out, hlast.out, lastT, if_pos hf])
            clear hf hlast
            go_wp2_with fail
            exact bodyPost_ret (v := .int .i64 ((j + 1 : Nat) : Int)) (by simp [results, Tryz.results144, go_sem]) rfl ⟨by rw [HE.out], HBE.out⟩
          | false =>
            rw [hf] at cf
            have HE : Hid (lastT f s.size = lastT f j) := Lib.hid (by rw [hlast.out, lastT, if_neg (by rw [hf]; simp)])
            clear hf hlast
            go_wp2_with fail
            exact ⟨⟨j, by omega, by simp, HE⟩, by simp only [intOf]; omega⟩
end

section
open Go.RowKit

theorem lastT_le (f : Nat → Bool) : ∀ n, lastT f n ≤ n
  | 0 => Nat.le_refl _
  | n + 1 => by rw [lastT]; split; exact Nat.le_refl _; exact Nat.le_trans (lastT_le f n) (by omega)
theorem longR_le (P s : ByteArray) : longR P s ≤ s.size := by
  unfold longR
  split
  · omega
  · split
    · omega
    · exact lastT_le _ _
theorem rLongest_any (P s : ByteArray) (hP : 1 ≤ P.size) (hP2 : P.size ≤ 140737488351232) (hs2 : s.size ≤ 140737488351232) (w : World) :
    Calls Tryz.prog 144 #[.string P, .string s] w fun e w' => e = .returned (.int .i64 (longR P s : Int)) ∧ Below w.heap.size w w' := by
  by_cases h0 : s.size = 0
  · rw [show longR P s = 0 by unfold longR; rw [if_pos h0]]
    exact longest_none P s hP (Or.inl h0) w
  · by_cases hm : memB (aheadB P 0) (aheadB s 0) = false
    · rw [show longR P s = 0 by unfold longR; rw [if_neg h0, if_pos hm]]
      exact longest_none P s hP (Or.inr hm) w
    · rw [show longR P s = lastT (runP P s 0 initF) s.size by unfold longR; rw [if_neg h0, if_neg hm]]
      refine longest_some P s hP hP2 (by omega) hs2 ?_ w
      rw [aheadB_lt (by omega), aheadB_lt (by omega)] at hm
      simpa using hm

def allowB (kind : Nat) (P t : ByteArray) (i : Nat) : Bool :=
  if longR P (winB t i) = 0 then false
  else if kind = 3 then !joinsB (aheadB t (i + longR P (winB t i)))
  else if kind = 6 then (if Lib.indexByte (t.extract i (i + longR P (winB t i))).data.toList 58 < 0 then true else !joinsB (aheadB t (i + (Lib.indexByte (t.extract i (i + longR P (winB t i))).data.toList 58).toNat + 1)))
  else true

set_option maxHeartbeats 4000000 in
set_option maxRecDepth 100000 in
theorem allowed_any (kind : Nat) (P t : ByteArray) (i : Nat) (hP : 1 ≤ P.size) (hP2 : P.size ≤ 140737488351232) (hi : i ≤ t.size) (ht : t.size ≤ 140737488351232) (w : World) :
    Calls Tryz.prog 146 #[.agg #[.int .i64 (kind : Int), .string P], .string t, .int .i64 (i : Int)] w fun e w' => e = .returned (.bool (allowB kind P t i)) ∧ Below w.heap.size w w' := by
  have hwin := win_sz t i
  have hle := longR_le P (winB t i)
  have hlg := fun W => rLongest_any P (winB t i) hP hP2 (by omega) W
  obtain ⟨n, hn⟩ : ∃ n, n = longR P (winB t i) := ⟨_, rfl⟩
  obtain ⟨a, ha⟩ : ∃ a, a = allowB kind P t i := ⟨_, rfl⟩
  rw [← ha]
  rw [← hn] at hle hlg
  unfold allowB at ha
  rw [← hn] at ha
  have HL := Lib.hid hlg
  have HA := Lib.hid ha
  have hin : i + n ≤ t.size := by omega
  clear hlg hn ha
  go_enter Tryz.func146, Tryz.ntmps146
  go_wp2_with fail
  go_region_held3 (fun w' => w'.cell? ⟨w.heap.size, 0, none⟩ = some (.int .i64 (kind : Int)) ∧ w'.cell? ⟨w.heap.size, 1, none⟩ = some (.string P))
    (first
      | go_keep
      | (go_split_ands
         exact ⟨(hb3.cell (p := ⟨w.heap.size, 0, none⟩) (by simp)).trans (by assumption), (hb3.cell (p := ⟨w.heap.size, 1, none⟩) (by simp)).trans (by assumption)⟩))
    (first
      | (go_at_call 145; refine (rBegins_any t i hi ht _).mono ?_; rintro e w3 ⟨rfl, rfl⟩)
      | (go_at_call 144; refine (HL.out _).mono ?_; rintro e w3 ⟨rfl, hb3⟩))
  have HB3 := Lib.hid (((((Below.refl _ w).alloc (Nat.le_refl _) (.cells #[.int .i64 (kind : Int), .string P] 181))).drew).trans (hb3.mono (by simp)))
  clear hb3
  have wsum : IntKind.i64.wrap ((i : Int) + (n : Int)) = (i : Int) + (n : Int) := IntWalk.i64_in _ (by omega)
  by_cases hn0 : n = 0
  · have HV : Hid (a = false) := Lib.hid (by rw [HA.out, if_pos hn0])
    have hd : ((n : Int) == 0) = true := by rw [hn0]; rfl
    clear hn0 HA
    go_wp2_with fail
    exact bodyPost_ret (v := .bool false) (by simp [results, Tryz.results146, go_sem]) rfl ⟨by rw [HV.out], HB3.out⟩
  · have hd : ((n : Int) == 0) = false := by rw [beq_eq_false_iff_ne]; omega
    by_cases hk3 : kind = 3
    · have HV : Hid (a = !joinsB (aheadB t (i + n - 1 + 1))) := Lib.hid (by rw [HA.out, if_neg hn0, if_pos hk3, show i + n - 1 + 1 = i + n by omega])
      have hd3 : ((kind : Int) == 3) = true := by rw [hk3]; rfl
      have wsub : IntKind.i64.wrap ((i : Int) + (n : Int) - 1) = ((i + n - 1 : Nat) : Int) := by rw [IntWalk.i64_in _ (by omega)]; omega
      have HC := Lib.hid (fun W => colon_any t (i + n - 1) (by omega) W)
      clear hk3 hn0 HA
      go_wp2_with fail
      refine (HC.out _).mono ?_
      rintro e w4 ⟨rfl, rfl⟩
      go_wp2_with fail
      exact bodyPost_ret (v := .bool (!joinsB (aheadB t (i + n - 1 + 1)))) (by simp [results, Tryz.results146, go_sem]) rfl ⟨by rw [HV.out], HB3.out⟩
    · have hd3 : ((kind : Int) == 3) = false := by rw [beq_eq_false_iff_ne]; omega
      by_cases hk6 : kind = 6
      · have hd6 : ((kind : Int) == 6) = true := by rw [hk6]; rfl
        obtain ⟨x, hx⟩ : ∃ x, x = Lib.indexByte (t.extract i (i + n)).data.toList 58 := ⟨_, rfl⟩
        have HF := fun W => find_any (t.extract i (i + n)) 58 (by rw [ByteArray.size_extract]; omega) W
        rw [← hx] at HF
        have HFF := Lib.hid HF
        have s1 : (i : Int) ≤ (i : Int) + (n : Int) := by omega
        have s2 : (i : Int) + (n : Int) ≤ (t.size : Int) := by omega
        have s3 : ((i : Int) + (n : Int)).toNat = i + n := by omega
        by_cases hx0 : x < 0
        · have HV : Hid (a = true) := Lib.hid (by rw [HA.out, if_neg hn0, if_neg hk3, if_pos hk6, ← hx, if_pos hx0])
          clear hk3 hk6 hn0 HA hx HF
          go_wp2_with fail
          refine (HFF.out _).mono ?_
          rintro e w4 ⟨rfl, rfl⟩
          go_wp2_with fail
          exact bodyPost_ret (v := .bool true) (by simp [results, Tryz.results146, go_sem]) rfl ⟨by rw [HV.out], HB3.out⟩
        · obtain ⟨q, hq, hq2, _⟩ := idx_spec (c := 58) (l := (t.extract i (i + n)).data.toList) (by rw [← hx]; omega)
          have hql : q < n := by simp at hq2; omega
          have hxq : x = (q : Int) := by rw [hx]; exact hq
          have HV : Hid (a = !joinsB (aheadB t (i + q + 1))) := Lib.hid (by rw [HA.out, if_neg hn0, if_neg hk3, if_pos hk6, ← hx, if_neg hx0, hxq]; rfl)
          have HC := Lib.hid (fun W => colon_any t (i + q) (by omega) W)
          have wq : IntKind.i64.wrap ((i : Int) + (q : Int)) = ((i + q : Nat) : Int) := by rw [IntWalk.i64_in _ (by omega)]; omega
          subst hxq
          clear hk3 hk6 hn0 HA hx HF hq hx0
          go_wp2_with fail
          refine (HFF.out _).mono ?_
          rintro e w4 ⟨rfl, rfl⟩
          go_wp2_with fail
          refine (HC.out _).mono ?_
          rintro e w5 ⟨rfl, rfl⟩
          go_wp2_with fail
          exact bodyPost_ret (v := .bool (!joinsB (aheadB t (i + q + 1)))) (by simp [results, Tryz.results146, go_sem]; intro h; omega) rfl ⟨by rw [HV.out], HB3.out⟩
      · have hd6 : ((kind : Int) == 6) = false := by rw [beq_eq_false_iff_ne]; omega
        have HV : Hid (a = true) := Lib.hid (by rw [HA.out, if_neg hn0, if_neg hk3, if_neg hk6])
        clear hk3 hk6 hn0 HA
        go_wp2_with fail
        exact bodyPost_ret (v := .bool true) (by simp [results, Tryz.results146, go_sem]) rfl ⟨by rw [HV.out], HB3.out⟩
end

end Go.Proofs.YtafncodigpjkaaaGreatDoor
