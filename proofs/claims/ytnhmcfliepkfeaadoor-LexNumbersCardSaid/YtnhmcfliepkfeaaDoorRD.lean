/-
  The reference's Digits.
-/
import Derived.Test.YtnhmcfliepkfeaaDoorV
import Derived.Lib.ItoaNum
namespace Go.Proofs.YtnhmcfliepkfeaaDoor
open Go.RowKit

theorem enc_fin : ∀ d : Fin 10, Utf8.encode (48 + (d.val : Int)) = ⟨#[UInt8.ofNat (48 + d.val)]⟩ := by decide +kernel
theorem enc_dig (q : Nat) : Utf8.encode (48 + (q : Int) % 10) = ⟨#[UInt8.ofNat (48 + q % 10)]⟩ := by
  have h := enc_fin ⟨q % 10, by omega⟩
  rw [← h]; congr 2
theorem enc_size (q : Nat) : (Utf8.encode (48 + (q : Int) % 10)).size = 1 := by rw [enc_dig]; rfl
/-- The digits of a number; none of 0. -/
def decZ (q : Nat) : List UInt8 := if q = 0 then [] else Lib.decDigits q
theorem decZ_step (q : Nat) : decZ (q / 10) ++ [UInt8.ofNat (48 + q % 10)] = Lib.decDigits q := by
  unfold decZ
  by_cases h : q < 10
  · rw [if_pos (by omega)]
    conv => rhs; rw [Lib.decDigits, dif_pos h]
    simp [Nat.mod_eq_of_lt h]
  · rw [if_neg (by omega)]
    conv => rhs; rw [Lib.decDigits, dif_neg h]
def RdEnd (n : Nat) (w : World) (e : Ending) (w' : World) : Prop := ∃ b : ByteArray, e = .returned (.string b) ∧ b.data.toList = Lib.decDigits n ∧ w' = w
theorem nDigits_le : ∀ m, 1 ≤ m → Lib.nDigits m ≤ m := by
  intro m
  induction m using Nat.strongRecOn with
  | ind m ih =>
    intro hm
    by_cases h10 : m < 10
    · rw [Lib.nDigits_small h10]; omega
    · rw [Lib.nDigits_big h10]; have := ih (m / 10) (by omega) (by omega); omega
theorem nDigits_half : ∀ m, Lib.nDigits m ≤ m / 2 + 1 := by
  intro m
  induction m using Nat.strongRecOn with
  | ind m ih =>
    by_cases h10 : m < 10
    · rw [Lib.nDigits_small h10]; omega
    · rw [Lib.nDigits_big h10]; have := ih (m / 10) (by omega); omega
theorem decZ_size {q n : Nat} {b : ByteArray} (h : decZ q ++ b.data.toList = Lib.decDigits n) : b.size ≤ n / 2 + 1 := by
  have hl := congrArg List.length h
  rw [List.length_append, Lib.decDigits_length] at hl
  have h2 := nDigits_half n
  have h3 : b.data.toList.length = b.size := by simp
  omega
theorem decZ_room {q n : Nat} {b : ByteArray} (hq : q ≠ 0) (hqn : q ≤ n) (h : decZ q ++ b.data.toList = Lib.decDigits n) : b.size + 1 ≤ n := by
  have hl := congrArg List.length h
  rw [List.length_append, Lib.decDigits_length] at hl
  unfold decZ at hl
  rw [if_neg hq, Lib.decDigits_length] at hl
  have h1 := Lib.nDigits_pos q
  have h2 := nDigits_le n (by omega)
  have h3 : b.data.toList.length = b.size := by simp
  omega
set_option maxHeartbeats 4000000 in
set_option maxRecDepth 100000 in
theorem rdig_pos (n : Nat) (hn : n ≤ 9223372036854775807) (w : World) : Calls Tryd.prog 12 #[.int .i64 (n : Int)] w (RdEnd n w) := by
  have h0 : ((n : Int) < 0) = False := by simp
  go_enter Tryd.func12, Tryd.ntmps12
  go_wp2_with fail
  go_loopw [5, 6] (fun s m wr => ∃ (q : Nat) (b : ByteArray), s = .string b ∧ m = .int .i64 (q : Int) ∧ q ≤ n ∧ Hid (decZ q ++ b.data.toList = Lib.decDigits n) ∧ wr = w) (fun _ m _ => (intOf m).toNat)
  case atStart => exact ⟨n / 10, _, rfl, by simp, by omega, Lib.hid (by rw [enc_dig]; exact decZ_step n), rfl⟩
  case round =>
    obtain ⟨q, b, rfl, rfl, hq, hb, rfl⟩ := hrel
    by_cases hz : q = 0
    · subst hz
      go_wp2_with fail
      refine bodyPost_ret (v := .string b) (by simp [results, Tryd.results12, go_sem]) rfl ⟨b, rfl, ?_, rfl⟩
      have := hb.out
      simpa [decZ] using this
    · have hz' : ((q : Int) = 0) = False := by simp; omega
      have hqi : (q : Int) ≤ 9223372036854775807 := by omega
      go_wp2_with fail
      · rename_i hbig
        exfalso
        have h1 := decZ_room hz hq hb.out
        have hsz := enc_size q
        omega
      · refine ⟨⟨q / 10, Utf8.encode (48 + (q : Int) % 10) ++ b, rfl, by simp, by omega, Lib.hid ?_, by simp⟩, by simp only [intOf]; omega⟩
        have := decZ_step q
        rw [enc_dig, ← hb.out, show decZ q = Lib.decDigits q by unfold decZ; rw [if_neg hz], ← this]
        simp

set_option maxHeartbeats 4000000 in
set_option maxRecDepth 100000 in
theorem rdig_neg (p : Nat) (hp : 1 ≤ p) (hn : p ≤ 9223372036854775808) (w : World) : Calls Tryd.prog 12 #[.int .i64 (-(p : Int))] w fun e w' => ∃ b : ByteArray, e = .returned (.string b) ∧ b.data.toList = 45 :: Lib.decDigits p ∧ w' = w := by
  have h0 : (-(p : Int) < 0) = True := by simp; omega
  have h0' : (0 < p) = True := by simp; omega
  go_enter Tryd.func12, Tryd.ntmps12
  go_wp2_with fail
  go_loopw [3, 4] (fun s m wr => ∃ (q : Nat) (b : ByteArray), s = .string b ∧ m = .int .i64 (-(q : Int)) ∧ q ≤ p ∧ Hid (decZ q ++ b.data.toList = Lib.decDigits p) ∧ wr = w) (fun _ m _ => (-(intOf m)).toNat)
  case atStart => exact ⟨p / 10, _, rfl, by simp, by omega, Lib.hid (by rw [enc_dig]; exact decZ_step p), rfl⟩
  case round =>
    obtain ⟨q, b, rfl, rfl, hq, hb, rfl⟩ := hrel
    by_cases hz : q = 0
    · subst hz
      go_wp2_with fail
      · rename_i hbig
        exfalso
        have h1 := decZ_size hb.out
        omega
      · refine bodyPost_ret (v := .string (⟨#[45]⟩ ++ b)) (by simp [results, Tryd.results12, go_sem]) rfl ⟨_, rfl, ?_, rfl⟩
        have h1 := hb.out
        rw [show decZ 0 = [] by rfl, List.nil_append] at h1
        rw [← h1]; simp
    · have hz' : (-(q : Int) = 0) = False := by simp; omega
      have hqi : (q : Int) ≤ 9223372036854775808 := by omega
      go_wp2_with fail
      · rename_i hbig
        exfalso
        have h1 := decZ_size hb.out
        have hsz := enc_size q
        omega
      · refine ⟨⟨q / 10, Utf8.encode (48 + (q : Int) % 10) ++ b, rfl, by simp, by omega, Lib.hid ?_, by simp⟩, by simp only [intOf]; omega⟩
        have := decZ_step q
        rw [enc_dig, ← hb.out, show decZ q = Lib.decDigits q by unfold decZ; rw [if_neg hz], ← this]
        simp
      all_goals (exfalso; rename_i hq0; simp at hq0; omega)
end Go.Proofs.YtnhmcfliepkfeaaDoor
