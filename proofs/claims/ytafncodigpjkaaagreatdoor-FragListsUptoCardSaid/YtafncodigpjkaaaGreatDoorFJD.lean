/-
  The law: Same, Split and Join are the reference's: the walk.
-/
import Derived.Test.YtafncodigpjkaaaGreatDoorFJC
import Derived.Test.YtafncodigpjkaaaGreatDoorFJB
import Derived.Test.YtafncodigpjkaaaGreatDoorFGC
namespace Go.Proofs.YtafncodigpjkaaaGreatDoor
section
open Go.RowKit

theorem joinG_mem {s : ByteArray} : ∀ {ls : List (List Fg)} {x : Fg}, x ∈ joinG s ls → x = signF s ∨ ∃ p ∈ ls, x ∈ p
  | [], x, h => by cases h
  | p :: r, x, h => by
    unfold joinG at h
    rcases List.mem_cons.1 h with rfl | h
    · exact .inl rfl
    · rcases List.mem_append.1 h with h | h
      · exact .inr ⟨p, by simp, h⟩
      · rcases joinG_mem h with h | ⟨q, hq, hx⟩
        · exact .inl h
        · exact .inr ⟨q, by simp [hq], hx⟩
theorem joinM_fgs {B : Nat} {s : ByteArray} {ls : List (List Fg)} (h : ∀ p ∈ ls, FgsLe B p) : FgsLe B (joinM s ls) := FgsLe.of fun x hx => by
  have hs : (signF s).kids.length ≤ B ∧ FgsLe B (signF s).kids := ⟨Nat.zero_le _, by unfold signF Fg.kids FgsLe; trivial⟩
  cases ls with
  | nil => cases hx
  | cons p r =>
    unfold joinM at hx
    rcases List.mem_append.1 hx with h1 | h1
    · exact (h p (by simp)).mem h1
    · rcases joinG_mem h1 with rfl | ⟨q, hq, hxq⟩
      · exact hs
      · exact (h q (by simp [hq])).mem hxq
theorem spl_mem2 (s : ByteArray) : ∀ (l acc : List Fg) (p : List Fg), p ∈ splG s acc l → ∀ x ∈ p, x ∈ acc ∨ x ∈ l
  | [], acc, p, hp, x, hx => by
    unfold splG at hp
    rw [List.mem_singleton] at hp
    subst hp
    exact .inl hx
  | y :: r, acc, p, hp, x, hx => by
    unfold splG at hp
    split at hp
    · rcases List.mem_cons.1 hp with rfl | hp
      · exact .inl hx
      · rcases spl_mem2 s r [] p hp x hx with h | h
        · cases h
        · exact .inr (by simp [h])
    · rcases spl_mem2 s r (acc ++ [y]) p hp x hx with h | h
      · rcases List.mem_append.1 h with h | h
        · exact .inl h
        · exact .inr (by simp at h; simp [h])
      · exact .inr (by simp [h])
theorem spl_max2 (s : ByteArray) : ∀ (l acc : List Fg) (p : List Fg), p ∈ splG s acc l → p.length ≤ acc.length + l.length
  | [], acc, p, hp => by
    unfold splG at hp
    rw [List.mem_singleton] at hp
    subst hp; simp
  | y :: r, acc, p, hp => by
    unfold splG at hp
    split at hp
    · rcases List.mem_cons.1 hp with rfl | hp
      · simp
      · have := spl_max2 s r [] p hp; simp at this; simp; omega
    · have := spl_max2 s r (acc ++ [y]) p hp; simp at this; simp; omega
theorem split_parts2 {B : Nat} {s : ByteArray} {l : List Fg} (h1 : l.length ≤ B) (h2 : FgsLe B l) : ∀ p ∈ splitM s l, p.length ≤ B ∧ FgsLe B p := fun p hp => by
  have h := spl_max2 s l [] p hp
  refine ⟨by simp at h; omega, FgsLe.of fun x hx => ?_⟩
  rcases spl_mem2 s l [] p hp x hx with h | h
  · cases h
  · exact h2.mem h
/-- The four lists that are joined. -/
theorem quad_val {w : World} {P : Nat → Prop} {va vb : Value} {a b : List Fg} (hva : FVal w P va a) (hvb : FVal w P vb b) : PVal (w.alloc (.cells #[va, vb, .slice none 0 0, va] 25)) P (.slice (some ⟨w.heap.size, 0, none⟩) 4 4) [a, b, [], a] := by
  have hb := heap_alloc_new w (.cells #[va, vb, .slice none 0 0, va] 25)
  have hbe : Below w.heap.size w (w.alloc (.cells #[va, vb, .slice none 0 0, va] 25)) := (Below.refl _ _).alloc (Nat.le_refl _) _
  refine ⟨some ⟨w.heap.size, 0, none⟩, 4, rfl, fun _ => ⟨w.heap.size, 0, rfl, by simp, fun i l hl => ?_⟩⟩
  rcases i with _ | _ | _ | _ | i
  · cases hl; exact ⟨va, by rw [fcell_at hb]; rfl, hva.below hbe⟩
  · cases hl; exact ⟨vb, by rw [fcell_at hb]; rfl, hvb.below hbe⟩
  · cases hl; exact ⟨.slice none 0 0, by rw [fcell_at hb]; rfl, FVal.nil _ _ _ _⟩
  · cases hl; exact ⟨va, by rw [fcell_at hb]; rfl, hva.below hbe⟩
  · simp at hl
set_option maxRecDepth 100000 in
set_option maxHeartbeats 32000000 in
theorem listsLaw (a b : List Fg) (aa : Option Addr) (an ac : Nat) (ba : Option Addr) (bn bc : Nat) (s : ByteArray) (W : World) (E : Env W) (hva : FVal W (fun q => q < W.heap.size) (.slice aa an ac) a) (hca : an ≤ ac) (hvb : FVal W (fun q => q < W.heap.size) (.slice ba bn bc) b)
    (h1 : a.length ≤ 1048576) (h2 : FgsLe 1048576 a) (h3 : b.length ≤ 1048576) (h4 : FgsLe 1048576 b) : Calls Tryz.prog 5 #[.slice aa an ac, .slice ba bn bc, .string s] W fun e w' => e = .returned (.bool true) ∧ Below W.heap.size W w' := by
  have HSN := Lib.hid (sane_any W E)
  have HSM1 := Lib.hid (fun (w : World) (hb : Below W.heap.size W w) => Same_any _ _ a b (.slice aa an ac) (.slice ba bn bc) w (hva.below hb) (hvb.below hb) (by omega) (h2.mono (by omega)) (by omega) (h4.mono (by omega)))
  have HSM2 := Lib.hid (fun (w : World) (hb : Below W.heap.size W w) => RSame_any _ _ a b (.slice aa an ac) (.slice ba bn bc) w (hva.below hb) (hvb.below hb) (by omega) (h2.mono (by omega)) (by omega) (h4.mono (by omega)))
  have HSP1 := Lib.hid (fun (w : World) (hb : Below W.heap.size W w) => Split_any _ a aa an ac s w (hva.below hb) hca (by omega) (h2.mono (by omega)))
  have HSP2 := Lib.hid (fun (w : World) (hb : Below W.heap.size W w) => RSplit_any W.heap.size a (.slice aa an ac) s w hb.size (hva.below hb) (by omega))
  have HLL := Lib.hid (fun (w : World) (v1 v2 : Value) (g1 : PVal w (fun _ => True) v1 (splitM s a)) (g2 : PVal w (fun _ => True) v2 (splitM s a)) => alikeLL_any _ _ (splitM s a) v1 v2 w g1 g2 (by have := spl_len s a []; unfold splitM; omega) (fun p hp => ⟨by have := (split_parts2 h1 h2 p hp).1; omega, (split_parts2 h1 h2 p hp).2.mono (by omega)⟩))
  have hq : ∀ p ∈ [a, b, [], a], p.length ≤ 1048576 ∧ FgsLe 1048576 p := fun p hp => by
    simp only [List.mem_cons, List.not_mem_nil, or_false] at hp
    rcases hp with rfl | rfl | rfl | rfl
    · exact ⟨h1, h2⟩
    · exact ⟨h3, h4⟩
    · exact ⟨Nat.zero_le _, by unfold FgsLe; trivial⟩
    · exact ⟨h1, h2⟩
  have hjl : (joinM s [a, b, [], a]).length ≤ 3145800 := by simp [joinM, joinG]; omega
  have HJ1 := Lib.hid (fun (w : World) (v : Value) (g : PVal w (fun q => q < W.heap.size) v [a, b, [], a]) => Join_any _ s [a, b, [], a] v w g (by simp) (by omega) (fun p hp => ⟨by have := (hq p hp).1; omega, (hq p hp).2.mono (by omega)⟩))
  have HJ2 := Lib.hid (fun (w : World) (hb : W.heap.size ≤ w.heap.size) (v : Value) (g : PVal w (fun q => q < W.heap.size) v [a, b, [], a]) => RJoin_any W.heap.size s [a, b, [], a] v w hb g (by simp) (by omega))
  obtain ⟨J, hJ⟩ : ∃ J, J = joinM s [a, b, [], a] := ⟨_, rfl⟩
  have hjf : FgsLe 1048576 (joinM s [a, b, [], a]) := joinM_fgs (fun p hp => (hq p hp).2)
  have HQ := Lib.hid (fun (w : World) (hb : Below W.heap.size W w) => quad_val (hva.below hb) (hvb.below hb))
  unfold JoinPost at HJ1
  unfold RJoinPost at HJ2
  rw [← hJ] at HJ1 HJ2 hjl hjf
  have HAP := Lib.hid (fun (w : World) (v1 v2 : Value) (g1 : FVal w (fun _ => True) v1 J) (g2 : FVal w (fun _ => True) v2 J) => alike_any false (fun _ => True) (fun _ => True) J J v1 v2 w g1 g2 (by omega) (hjf.mono (by omega)))
  have HS1 : Hid (sameL false J J = true) := Lib.hid ((sameL_eq _ _).2 rfl)
  clear E hva hca hvb h1 h2 h3 h4 hq hjl hjf hJ
  generalize sameM a b = r at *
  go_enter Tryz.func5, Tryz.ntmps5
  go_wp2_with fail
  refine HSN.out.mono ?_
  rintro e w1 ⟨rfl, hb1⟩
  have HB1 := Lib.hid hb1
  have HBQ := Lib.hid (hb1.alloc hb1.size (.cells #[.slice aa an ac, .slice ba bn bc, .slice none 0 0, .slice aa an ac] 25))
  have HPQ := Lib.hid (HQ.out w1 hb1)
  clear hb1 HSN HQ
  go_wp2_with fail
  generalize w1.alloc (.cells #[.slice aa an ac, .slice ba bn bc, .slice none 0 0, .slice aa an ac] 25) = w2 at *
  refine (HSM1.out w2 HBQ.out).mono ?_
  rintro e w3 ⟨rfl, hb3⟩
  have HB3 := Lib.hid (HBQ.out.trans (hb3.mono HBQ.out.size))
  have HP3 := Lib.hid (HPQ.out.keep (fun _ p _ => p) hb3)
  clear hb3 HSM1 HPQ
  go_wp2_with fail
  refine (HSM2.out w3 HB3.out).mono ?_
  rintro e w4 ⟨rfl, hb4⟩
  have HB4 := Lib.hid (HB3.out.trans (hb4.mono HB3.out.size))
  have HP4 := Lib.hid (HP3.out.keep (fun _ p _ => p) hb4)
  clear hb4 HSM2 HP3
  go_wp2_with fail
  refine (HSP1.out w4 HB4.out).mono ?_
  rintro e w5 ⟨v5, rfl, hv5, hb5⟩
  have HB5 := Lib.hid (HB4.out.trans (hb5.mono HB4.out.size))
  have HP5 := Lib.hid (HP4.out.keep (fun _ p _ => p) hb5)
  have HV5 := Lib.hid hv5.val
  clear hb5 hv5 HSP1 HP4
  go_wp2_with fail
  refine (HSP2.out w5 HB5.out).mono ?_
  rintro e w6 ⟨v6, rfl, hv6, hb6⟩
  have HB6 := Lib.hid (HB5.out.trans (hb6.mono HB5.out.size))
  have HP6 := Lib.hid (HP5.out.keep (fun _ p _ => p) hb6)
  have HV56 := Lib.hid (HV5.out.keep (fun _ p _ => p) hb6)
  have HV6 := Lib.hid hv6
  clear hb6 hv6 HSP2 HP5 HV5
  go_wp2_with fail
  refine (HLL.out w6 v5 v6 HV56.out HV6.out).mono ?_
  rintro e w7 ⟨rfl, hb7⟩
  have HB7 := Lib.hid (HB6.out.trans (hb7.mono HB6.out.size))
  have HP7 := Lib.hid (HP6.out.keep (fun _ p _ => p) hb7)
  clear hb7 HLL HP6 HV56 HV6
  go_wp2_with fail
  refine (HJ1.out w7 _ HP7.out).mono ?_
  rintro e w8 ⟨v8, rfl, hv8, hb8⟩
  have HB8 := Lib.hid (HB7.out.trans (hb8.mono HB7.out.size))
  have HP8 := Lib.hid (HP7.out.keep (fun _ p _ => p) hb8)
  have HV8 := Lib.hid hv8.val
  clear hb8 hv8 HJ1 HP7
  go_wp2_with fail
  refine (HJ2.out w8 HB8.out.size _ HP8.out).mono ?_
  rintro e w9 ⟨v9, rfl, hv9, hb9⟩
  have HB9 := Lib.hid (HB8.out.trans (hb9.mono HB8.out.size))
  have HV89 := Lib.hid (HV8.out.below hb9)
  have HV9 : Hid (FVal w9 (fun _ => True) v9 J) := Lib.hid (FOwn.val hv9 (fun _ _ => trivial) (fun _ _ => trivial))
  clear hb9 hv9 HJ2 HP8 HV8
  go_wp2_with fail
  refine (HAP.out w9 v8 v9 HV89.out HV9.out).mono ?_
  rintro e wz ⟨rfl, hbz⟩
  have HBZ := Lib.hid (HB9.out.trans (hbz.mono HB9.out.size))
  rw [HS1.out]
  clear hbz
  go_wp2_with fail
  exact bodyPost_ret (v := .bool true) (by simp [results, Tryz.results5, go_sem]) rfl ⟨rfl, HBZ.out⟩
end

end Go.Proofs.YtafncodigpjkaaaGreatDoor
