/-
  The reference's kinds, names and their parts are the lexer's.
-/
import Derived.Test.YtcokdapnafgnpaaGreatDoorXN
import Derived.Test.YtcokdapnafgnpaaGreatDoorXM
import Derived.Test.YtcokdapnafgnpaaGreatDoorXH
import Derived.Test.YtcokdapnafgnpaaGreatDoorXA
namespace Go.Proofs.YtcokdapnafgnpaaGreatDoor
section
open Go.RowKit

/-! Numbers: what has a value is an integer as a whole. -/
theorem val_kind {s : ByteArray} (h : (valO s).isSome = true) : kindN s = 2 := by
  unfold valO at h
  split at h
  · rename_i v hv
    split at h
    · rename_i hi
      obtain ⟨v0, v1⟩ := atoi_bounds hv
      have := kind_itoa v v0 v1
      rw [hi] at this
      exact this
    · cases h
  · cases h
theorem kind_val {s : ByteArray} (h : kindN s = 2) : (valO s).isSome = true := by
  unfold kindN at h
  split at h
  · cases h
  · rename_i h0
    split at h
    · cases h
    · rename_i p hp
      split at h
      · rename_i hc
        obtain ⟨k, l⟩ := p
        simp only at h hc
        subst h
        unfold nextR at hp
        generalize bestTo (ruleN s 0 false) 6 = kl at hp
        split at hp
        · simp only [Except.ok.injEq, Prod.mk.injEq] at hp
          exact absurd hp.1 (by decide)
        · split at hp
          · split at hp
            · simp only [Except.ok.injEq, Prod.mk.injEq] at hp
              exact absurd hp.1 (by decide)
            · cases hp
          · split at hp
            · simp only [Except.ok.injEq, Prod.mk.injEq] at hp
              exact absurd hp.1 (by decide)
            · split at hp
              · rename_i hf
                simp only [Except.ok.injEq] at hp
                subst hp
                simp only at hf hc
                rw [hc.2] at hf
                unfold faultN at hf
                rw [if_pos rfl, cut_all] at hf
                cases hv : (valO s).isSome
                · rw [hv] at hf; simp at hf
                · rfl
              · cases hp
      · cases h
theorem number_same (s : ByteArray) : numberR s = ((valO s).getD 0, if (valO s).isSome then 0 else 11) := by
  unfold numberR
  cases hv : (valO s).isSome
  · rw [if_neg (fun e => by rw [kind_val e] at hv; cases hv)]
    have : valO s = none := by cases h : valO s with
      | none => rfl
      | some v => rw [h] at hv; cases hv
    simp [this]
  · rw [if_pos (val_kind hv)]; simp

/-! Kind. -/
theorem kind_long {s : ByteArray} (h : 20000 < s.size) : kindN s = 0 := by
  apply Classical.byContradiction; intro e
  have := kind_small e
  omega
theorem kind_at {s : ByteArray} {p : Nat × Nat} (h0 : 0 < s.size) (h : nextR s 0 false = .ok p) : kindN s = if p.1 ≤ 6 ∧ p.2 = s.size then p.1 else 0 := by
  have hb := next_bounds h0 h
  unfold kindN
  rw [if_neg (by omega), h]
  simp only
  have : (isTok p.1 = true) ↔ p.1 ≤ 6 := by
    simp only [isTok, Bool.and_eq_true, decide_eq_true_eq]
    omega
  simp only [this]
theorem kind_err {s : ByteArray} {c : Nat} (h : nextR s 0 false = .error c) : kindN s = 0 := by
  unfold kindN
  rw [h]; simp

set_option maxHeartbeats 4000000 in
set_option maxRecDepth 100000 in
theorem rKind_any (s : ByteArray) (w : World) :
    Calls Tryz.prog 114 #[.string s] w fun e w' => e = .returned (.int .i64 (kindN s : Int)) ∧ Below w.heap.size w w' := by
  by_cases h0 : s.size = 0
  · have hN : Hid (kindN s = 0) := Lib.hid (by simp [kindN, h0])
    have h0' : ((s.size : Int) == 0) = true := by rw [h0]; rfl
    clear h0
    go_enter Tryz.func114, Tryz.ntmps114
    go_wp2_with fail
    exact bodyPost_ret (v := .int .i64 0) (by simp [results, Tryz.results114, go_sem]) rfl ⟨by rw [hN.out]; rfl, Below.refl _ _⟩
  have h0' : ((s.size : Int) == 0) = false := by rw [beq_eq_false_iff_ne]; omega
  by_cases hl : 20000 < s.size
  · have hN : Hid (kindN s = 0) := Lib.hid (kind_long hl)
    have hl' : ((20000 : Int) < (s.size : Int)) := by omega
    clear h0
    go_enter Tryz.func114, Tryz.ntmps114
    go_wp2_with fail
    exact bodyPost_ret (v := .int .i64 0) (by simp [results, Tryz.results114, go_sem]) rfl ⟨by rw [hN.out]; rfl, Below.refl _ _⟩
  have hl' : ((20000 : Int) < (s.size : Int)) = False := by simp; omega
  have hP := fun W => rPiece_any s 0 false (by omega) (by omega) W
  cases hnx : nextR s 0 false with
  | error c =>
    have HP1 : Hid (∀ W, Calls Tryz.prog 117 #[.string s, .int .i64 0, .bool false] W fun e w' => e = .returned (.agg #[.int .i64 0, .int .i64 0, .int .i64 0, .int .i64 (c : Int)]) ∧ Below W.heap.size W w') := Lib.hid (fun W => by have := hP W; rw [hnx] at this; exact this)
    have hc := next_err hnx
    have hc2 : ((c : Int) != 0) = true := by rw [bne_iff_ne]; omega
    have hN := Lib.hid (kind_err hnx)
    clear hP hnx hc h0
    go_enter Tryz.func114, Tryz.ntmps114
    go_wp2_with fail
    refine (HP1.out _).mono ?_
    rintro e w2 ⟨rfl, hb2⟩
    have HB2 := Lib.hid hb2
    clear hb2 HP1
    go_wp2_with fail
    exact bodyPost_ret (v := .int .i64 0) (by simp [results, Tryz.results114, go_sem]) rfl ⟨by rw [hN.out]; rfl, HB2.out.alloc HB2.out.size _⟩
  | ok p =>
    obtain ⟨k, l⟩ := p
    have HP1 : Hid (∀ W, Calls Tryz.prog 117 #[.string s, .int .i64 0, .bool false] W fun e w' => e = .returned (.agg #[.int .i64 (k : Int), .int .i64 0, .int .i64 (l : Int), .int .i64 0]) ∧ Below W.heap.size W w') := Lib.hid (fun W => by have := hP W; rw [hnx] at this; exact this)
    have hN := kind_at (by omega) hnx
    simp only at hN
    clear hP hnx h0
    by_cases hls : l = s.size
    · have hls' : ((l : Int) != (s.size : Int)) = false := by rw [hls]; simp
      by_cases hk : k ≤ 6
      · have hN' : Hid (kindN s = k) := Lib.hid (by rw [hN, if_pos ⟨hk, hls⟩])
        have hk' : ((6 : Int) < (k : Int)) = False := by simp; omega
        clear hN hls hk
        go_enter Tryz.func114, Tryz.ntmps114
        go_wp2_with fail
        refine (HP1.out _).mono ?_
        rintro e w2 ⟨rfl, hb2⟩
        have HB2 := Lib.hid hb2
        clear hb2 HP1
        go_wp2_with fail
        exact bodyPost_ret (v := .int .i64 (k : Int)) (by simp [results, Tryz.results114, go_sem]) rfl ⟨by rw [hN'.out], HB2.out.alloc HB2.out.size _⟩
      · have hN' : Hid (kindN s = 0) := Lib.hid (by rw [hN, if_neg (fun h => hk h.1)])
        have hk' : ((6 : Int) < (k : Int)) := by omega
        clear hN hls hk
        go_enter Tryz.func114, Tryz.ntmps114
        go_wp2_with fail
        refine (HP1.out _).mono ?_
        rintro e w2 ⟨rfl, hb2⟩
        have HB2 := Lib.hid hb2
        clear hb2 HP1
        go_wp2_with fail
        exact bodyPost_ret (v := .int .i64 0) (by simp [results, Tryz.results114, go_sem]) rfl ⟨by rw [hN'.out]; rfl, HB2.out.alloc HB2.out.size _⟩
    · have hls' : ((l : Int) != (s.size : Int)) = true := by rw [bne_iff_ne]; omega
      have hN' : Hid (kindN s = 0) := Lib.hid (by rw [hN, if_neg (fun h => hls h.2)])
      clear hN hls
      go_enter Tryz.func114, Tryz.ntmps114
      go_wp2_with fail
      refine (HP1.out _).mono ?_
      rintro e w2 ⟨rfl, hb2⟩
      have HB2 := Lib.hid hb2
      clear hb2 HP1
      go_wp2_with fail
      exact bodyPost_ret (v := .int .i64 0) (by simp [results, Tryz.results114, go_sem]) rfl ⟨by rw [hN'.out]; rfl, HB2.out.alloc HB2.out.size _⟩

theorem rIsName_any (s : ByteArray) (w : World) :
    Calls Tryz.prog 106 #[.string s] w fun e w' => e = .returned (.bool (isNameB s)) ∧ Below w.heap.size w w' := by
  have HK := Lib.hid (rKind_any s w)
  go_enter Tryz.func106, Tryz.ntmps106
  go_wp2_with fail
  refine HK.out.mono ?_
  rintro e w1 ⟨rfl, hb⟩
  go_wp2_with fail
  go_ret
  exact ⟨rfl, hb⟩
theorem rIsPlain_any (s : ByteArray) (hs : s.size ≤ 140737488351232) (w : World) :
    Calls Tryz.prog 82 #[.string s] w fun e w' => e = .returned (.bool (isPlainB s)) ∧ Below w.heap.size w w' := by
  have hk := rIsName_any s w
  have hP : isPlainB s = (isNameB s && decide (Lib.indexByte s.data.toList 64 < 0)) := rfl
  have HP := Lib.hid hP
  have HF := Lib.hid (fun W => find_any s 64 (by omega) W)
  clear hP
  cases hn : isNameB s
  all_goals
    rw [hn] at hk HP
    have HK := Lib.hid hk
    clear hk
    go_enter Tryz.func82, Tryz.ntmps82
    go_wp2_with (first | (go_at_call 106; refine HK.out.mono ?_; rintro e w1 ⟨rfl, hb⟩) | (go_at_call 107; refine (HF.out _).mono ?_; rintro e w2 ⟨rfl, rfl⟩))
    go_ret
    exact ⟨by rw [HP.out]; rfl, hb⟩
end

end Go.Proofs.YtcokdapnafgnpaaGreatDoor
