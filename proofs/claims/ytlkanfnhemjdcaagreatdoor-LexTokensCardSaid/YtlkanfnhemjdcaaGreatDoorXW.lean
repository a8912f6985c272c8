/-
  The reference's kinds, names and their parts are the lexer's.
  The law: Kind, IsName, IsPlain, Split and Number are as specified.
-/
import Derived.Test.YtlkanfnhemjdcaaGreatDoorXN
import Derived.Test.YtlkanfnhemjdcaaGreatDoorXM
import Derived.Test.YtlkanfnhemjdcaaGreatDoorXH
import Derived.Test.YtlkanfnhemjdcaaGreatDoorXA
import Derived.Test.YtlkanfnhemjdcaaGreatDoorXI
import Derived.Lib.IndexBytes
import Derived.LoopTactic
namespace Go.Proofs.YtlkanfnhemjdcaaGreatDoor
section
open Go.RowKit

/-! Numbers: what has a value is an integer as a whole. -/
theorem val_kind {s : ByteArray} (h : (valO s).isSome = true) : kindN s = 2 := by
  unfold valO at h
  split at h
  · rename_i v hv
    split at h
    · rename_i hi
      obtain ⟨v0, v1⟩ := atoi_bounds hv
      have := kind_itoa v v0 v1
      rw [hi] at this
      exact this
    · cases h
  · cases h
theorem kind_val {s : ByteArray} (h : kindN s = 2) : (valO s).isSome = true := by
  unfold kindN at h
  split at h
  · cases h
  · rename_i h0
    split at h
    · cases h
    · rename_i p hp
      split at h
      · rename_i hc
        obtain ⟨k, l⟩ := p
        simp only at h hc
        subst h
        unfold nextR at hp
        generalize bestTo (ruleN s 0 false) 6 = kl at hp
        split at hp
        · simp only [Except.ok.injEq, Prod.mk.injEq] at hp
          exact absurd hp.1 (by decide)
        · split at hp
          · split at hp
            · simp only [Except.ok.injEq, Prod.mk.injEq] at hp
              exact absurd hp.1 (by decide)
            · cases hp
          · split at hp
            · simp only [Except.ok.injEq, Prod.mk.injEq] at hp
              exact absurd hp.1 (by decide)
            · split at hp
              · rename_i hf
                simp only [Except.ok.injEq] at hp
                subst hp
                simp only at hf hc
                rw [hc.2] at hf
                unfold faultN at hf
                rw [if_pos rfl, cut_all] at hf
                cases hv : (valO s).isSome
                · rw [hv] at hf; simp at hf
                · rfl
              · cases hp
      · cases h
theorem number_same (s : ByteArray) : numberR s = ((valO s).getD 0, if (valO s).isSome then 0 else 11) := by
  unfold numberR
  cases hv : (valO s).isSome
  · rw [if_neg (fun e => by rw [kind_val e] at hv; cases hv)]
    have : valO s = none := by cases h : valO s with
      | none => rfl
      | some v => rw [h] at hv; cases hv
    simp [this]
  · rw [if_pos (val_kind hv)]; simp

/-! Kind. -/
theorem kind_long {s : ByteArray} (h : 20000 < s.size) : kindN s = 0 := by
  apply Classical.byContradiction; intro e
  have := kind_small e
  omega
theorem kind_at {s : ByteArray} {p : Nat × Nat} (h0 : 0 < s.size) (h : nextR s 0 false = .ok p) : kindN s = if p.1 ≤ 6 ∧ p.2 = s.size then p.1 else 0 := by
  have hb := next_bounds h0 h
  unfold kindN
  rw [if_neg (by omega), h]
  simp only
  have : (isTok p.1 = true) ↔ p.1 ≤ 6 := by
    simp only [isTok, Bool.and_eq_true, decide_eq_true_eq]
    omega
  simp only [this]
theorem kind_err {s : ByteArray} {c : Nat} (h : nextR s 0 false = .error c) : kindN s = 0 := by
  unfold kindN
  rw [h]; simp

set_option maxHeartbeats 4000000 in
set_option maxRecDepth 100000 in
theorem rKind_any (s : ByteArray) (w : World) :
    Calls Tryz.prog 22 #[.string s] w fun e w' => e = .returned (.int .i64 (kindN s : Int)) ∧ Below w.heap.size w w' := by
  by_cases h0 : s.size = 0
  · have hN : Hid (kindN s = 0) := Lib.hid (by simp [kindN, h0])
    have h0' : ((s.size : Int) == 0) = true := by rw [h0]; rfl
    clear h0
    go_enter Tryz.func22, Tryz.ntmps22
    go_wp2_with fail
    exact bodyPost_ret (v := .int .i64 0) (by simp [results, Tryz.results22, go_sem]) rfl ⟨by rw [hN.out]; rfl, Below.refl _ _⟩
  have h0' : ((s.size : Int) == 0) = false := by rw [beq_eq_false_iff_ne]; omega
  by_cases hl : 20000 < s.size
  · have hN : Hid (kindN s = 0) := Lib.hid (kind_long hl)
    have hl' : ((20000 : Int) < (s.size : Int)) := by omega
    clear h0
    go_enter Tryz.func22, Tryz.ntmps22
    go_wp2_with fail
    exact bodyPost_ret (v := .int .i64 0) (by simp [results, Tryz.results22, go_sem]) rfl ⟨by rw [hN.out]; rfl, Below.refl _ _⟩
  have hl' : ((20000 : Int) < (s.size : Int)) = False := by simp; omega
  have hP := fun W => rPiece_any s 0 false (by omega) (by omega) W
  cases hnx : nextR s 0 false with
  | error c =>
    have HP1 : Hid (∀ W, Calls Tryz.prog 39 #[.string s, .int .i64 0, .bool false] W fun e w' => e = .returned (.agg #[.int .i64 0, .int .i64 0, .int .i64 0, .int .i64 (c : Int)]) ∧ Below W.heap.size W w') := Lib.hid (fun W => by have := hP W; rw [hnx] at this; exact this)
    have hc := next_err hnx
    have hc2 : ((c : Int) != 0) = true := by rw [bne_iff_ne]; omega
    have hN := Lib.hid (kind_err hnx)
    clear hP hnx hc h0
    go_enter Tryz.func22, Tryz.ntmps22
    go_wp2_with fail
    refine (HP1.out _).mono ?_
    rintro e w2 ⟨rfl, hb2⟩
    have HB2 := Lib.hid hb2
    clear hb2 HP1
    go_wp2_with fail
    exact bodyPost_ret (v := .int .i64 0) (by simp [results, Tryz.results22, go_sem]) rfl ⟨by rw [hN.out]; rfl, HB2.out.alloc HB2.out.size _⟩
  | ok p =>
    obtain ⟨k, l⟩ := p
    have HP1 : Hid (∀ W, Calls Tryz.prog 39 #[.string s, .int .i64 0, .bool false] W fun e w' => e = .returned (.agg #[.int .i64 (k : Int), .int .i64 0, .int .i64 (l : Int), .int .i64 0]) ∧ Below W.heap.size W w') := Lib.hid (fun W => by have := hP W; rw [hnx] at this; exact this)
    have hN := kind_at (by omega) hnx
    simp only at hN
    clear hP hnx h0
    by_cases hls : l = s.size
    · have hls' : ((l : Int) != (s.size : Int)) = false := by rw [hls]; simp
      by_cases hk : k ≤ 6
      · have hN' : Hid (kindN s = k) := Lib.hid (by rw [hN, if_pos ⟨hk, hls⟩])
        have hk' : ((6 : Int) < (k : Int)) = False := by simp; omega
        clear hN hls hk
        go_enter Tryz.func22, Tryz.ntmps22
        go_wp2_with fail
        refine (HP1.out _).mono ?_
        rintro e w2 ⟨rfl, hb2⟩
        have HB2 := Lib.hid hb2
        clear hb2 HP1
        go_wp2_with fail
        exact bodyPost_ret (v := .int .i64 (k : Int)) (by simp [results, Tryz.results22, go_sem]) rfl ⟨by rw [hN'.out], HB2.out.alloc HB2.out.size _⟩
      · have hN' : Hid (kindN s = 0) := Lib.hid (by rw [hN, if_neg (fun h => hk h.1)])
        have hk' : ((6 : Int) < (k : Int)) := by omega
        clear hN hls hk
        go_enter Tryz.func22, Tryz.ntmps22
        go_wp2_with fail
        refine (HP1.out _).mono ?_
        rintro e w2 ⟨rfl, hb2⟩
        have HB2 := Lib.hid hb2
        clear hb2 HP1
        go_wp2_with fail
        exact bodyPost_ret (v := .int .i64 0) (by simp [results, Tryz.results22, go_sem]) rfl ⟨by rw [hN'.out]; rfl, HB2.out.alloc HB2.out.size _⟩
    · have hls' : ((l : Int) != (s.size : Int)) = true := by rw [bne_iff_ne]; omega
      have hN' : Hid (kindN s = 0) := Lib.hid (by rw [hN, if_neg (fun h => hls h.2)])
      clear hN hls
      go_enter Tryz.func22, Tryz.ntmps22
      go_wp2_with fail
      refine (HP1.out _).mono ?_
      rintro e w2 ⟨rfl, hb2⟩
      have HB2 := Lib.hid hb2
      clear hb2 HP1
      go_wp2_with fail
      exact bodyPost_ret (v := .int .i64 0) (by simp [results, Tryz.results22, go_sem]) rfl ⟨by rw [hN'.out]; rfl, HB2.out.alloc HB2.out.size _⟩

theorem rIsName_any (s : ByteArray) (w : World) :
    Calls Tryz.prog 24 #[.string s] w fun e w' => e = .returned (.bool (isNameB s)) ∧ Below w.heap.size w w' := by
  have HK := Lib.hid (rKind_any s w)
  go_enter Tryz.func24, Tryz.ntmps24
  go_wp2_with fail
  refine HK.out.mono ?_
  rintro e w1 ⟨rfl, hb⟩
  go_wp2_with fail
  go_ret
  exact ⟨rfl, hb⟩
theorem rIsPlain_any (s : ByteArray) (hs : s.size ≤ 140737488351232) (w : World) :
    Calls Tryz.prog 26 #[.string s] w fun e w' => e = .returned (.bool (isPlainB s)) ∧ Below w.heap.size w w' := by
  have hk := rIsName_any s w
  have hP : isPlainB s = (isNameB s && decide (Lib.indexByte s.data.toList 64 < 0)) := rfl
  have HP := Lib.hid hP
  have HF := Lib.hid (fun W => find_any s 64 (by omega) W)
  clear hP
  cases hn : isNameB s
  all_goals
    rw [hn] at hk HP
    have HK := Lib.hid hk
    clear hk
    go_enter Tryz.func26, Tryz.ntmps26
    go_wp2_with (first | (go_at_call 24; refine HK.out.mono ?_; rintro e w1 ⟨rfl, hb⟩) | (go_at_call 45; refine (HF.out _).mono ?_; rintro e w2 ⟨rfl, rfl⟩))
    go_ret
    exact ⟨by rw [HP.out]; rfl, hb⟩
end

section
open Go.RowKit

theorem bytes_ext' {x y : ByteArray} (h : x.data.toList = y.data.toList) : x = y := ByteArray.ext (Array.toList_inj.1 h)
theorem split_no {s : ByteArray} (h : isNameB s = false) : splitB s = (s, ⟨#[]⟩) := by simp [splitB, h]
theorem split_plain {s : ByteArray} (h : Lib.indexByte s.data.toList 64 < 0) : splitB s = (s, ⟨#[]⟩) := by
  unfold splitB
  split
  · have : Lib.cut s.data.toList [64] = (s.data.toList, [], false) := by
      unfold Lib.cut
      rw [Lib.index_one, if_neg (by omega)]
    rw [this]
  · rfl
theorem split_at {s : ByteArray} {k : Nat} (h : isNameB s = true) (hk : Lib.indexByte s.data.toList 64 = (k : Int)) : splitB s = (s.extract 0 k, s.extract (k + 1) s.size) := by
  unfold splitB
  rw [if_pos h]
  have : Lib.cut s.data.toList [64] = (s.data.toList.take k, s.data.toList.drop (k + 1), true) := by
    unfold Lib.cut
    rw [Lib.index_one, hk, if_pos (by omega)]
    rfl
  rw [this]
  refine Prod.ext ?_ ?_
  · apply bytes_ext'
    simp
  · apply bytes_ext'
    simp
    rw [List.take_of_length_le (by simp)]

set_option maxHeartbeats 4000000 in
set_option maxRecDepth 100000 in
theorem rSplit_any (s : ByteArray) (hs : s.size ≤ 140737488351232) (w : World) :
    Calls Tryz.prog 18 #[.string s] w fun e w' => e = .returned (.tuple #[.string (splitB s).1, .string (splitB s).2]) ∧ Below w.heap.size w w' := by
  have hk := rIsName_any s w
  have hp := fun W => rIsPlain_any s hs W
  have HF := Lib.hid (fun W => find_any s 64 (by omega) W)
  cases hn : isNameB s
  · have HN := Lib.hid (split_no hn)
    rw [hn] at hk
    have HK := Lib.hid hk
    clear hk hp
    go_enter Tryz.func18, Tryz.ntmps18
    go_wp2_with fail
    refine HK.out.mono ?_
    rintro e w1 ⟨rfl, hb⟩
    go_wp2_with fail
    exact bodyPost_ret (v := .tuple #[.string s, .string ⟨#[]⟩]) (by simp [results, Tryz.results18, go_sem]) rfl ⟨by rw [HN.out], hb⟩
  · rw [hn] at hk
    have hpl : isPlainB s = decide (Lib.indexByte s.data.toList 64 < 0) := by simp [isPlainB, hn]
    by_cases hi : Lib.indexByte s.data.toList 64 < 0
    · have HN := Lib.hid (split_plain hi)
      rw [hpl, decide_eq_true hi] at hp
      have HK := Lib.hid hk; have HP := Lib.hid hp
      clear hk hp hi hpl
      go_enter Tryz.func18, Tryz.ntmps18
      go_wp2_with fail
      refine HK.out.mono ?_
      rintro e w1 ⟨rfl, hb⟩
      go_wp2_with fail
      refine (HP.out _).mono ?_
      rintro e w2 ⟨rfl, hb2⟩
      go_wp2_with fail
      exact bodyPost_ret (v := .tuple #[.string s, .string ⟨#[]⟩]) (by simp [results, Tryz.results18, go_sem]) rfl ⟨by rw [HN.out], hb.trans (hb2.mono hb.size)⟩
    · obtain ⟨k, hk1, hk2, _⟩ := idx_spec (c := 64) (l := s.data.toList) (by omega)
      have hk2' : k < s.size := by simpa using hk2
      have HN := Lib.hid (split_at hn hk1)
      rw [hpl, decide_eq_false hi] at hp
      rw [hk1] at HF
      have hw : IntKind.i64.wrap ((k : Int) + 1) = (k : Int) + 1 := IntWalk.i64_in _ (by omega)
      have hle : (k : Int) ≤ (s.size : Int) := by omega
      have hle2 : (k : Int) + 1 ≤ (s.size : Int) := by omega
      have ht2 : ((k : Int) + 1).toNat = k + 1 := by omega
      have HK := Lib.hid hk; have HP := Lib.hid hp
      clear hk hp hi hpl hk1 hk2
      go_enter Tryz.func18, Tryz.ntmps18
      go_wp2_with fail
      refine HK.out.mono ?_
      rintro e w1 ⟨rfl, hb⟩
      go_wp2_with fail
      refine (HP.out _).mono ?_
      rintro e w2 ⟨rfl, hb2⟩
      go_wp2_with fail
      refine (HF.out _).mono ?_
      rintro e w3 ⟨rfl, rfl⟩
      go_wp2_with fail
      go_quiet (fail)
      go_wp2_with fail
      exact bodyPost_ret (v := .tuple #[.string (s.extract 0 k), .string (s.extract (k + 1) s.size)]) (by simp [results, Tryz.results18, go_sem]) rfl ⟨by rw [HN.out], below_drewN (hb.trans (hb2.mono hb.size)) _⟩

set_option maxHeartbeats 4000000 in
set_option maxRecDepth 100000 in
theorem kinds_any (s : ByteArray) (hs : s.size ≤ 140737488351232) (w : World) (E : Env w) :
    Calls Tryz.prog 5 #[.string s] w fun e w' => e = .returned (.bool true) ∧ Below w.heap.size w w' := by
  have HS := Lib.hid (sane_any w E)
  have HE := Lib.hid (fun (W : World) (h : Below w.heap.size w W) => E.below E.size h)
  have hsp := fun W E => split_any s hs W E
  have hrs := fun W => rSplit_any s hs W
  have hnu := fun W E => number_any s hs W E
  have hrn := fun W => rNumber_any s W
  rw [number_same] at hnu
  unfold numV at hrn
  have hki := fun W E => kind_any s hs W E
  have hrk := fun W => rKind_any s W
  have hin := fun W E => isName_any s hs W E
  have hri := fun W => rIsName_any s W
  have hip := fun W E => isPlain_any s hs W E
  have hrp := fun W => rIsPlain_any s hs W
  generalize (splitB s).1 = p1 at hsp hrs
  generalize (splitB s).2 = p2 at hsp hrs
  generalize (valO s).getD 0 = nv at hnu hrn
  generalize (if (valO s).isSome = true then (0 : Int) else 11) = ne at hnu hrn
  generalize kindN s = kd at hki hrk
  generalize isNameB s = bn at hin hri
  generalize isPlainB s = bp at hip hrp
  have h1 := Lib.hid hsp; have h2 := Lib.hid hrs; have h3 := Lib.hid hnu; have h4 := Lib.hid hrn; have h5 := Lib.hid hki; have h6 := Lib.hid hrk
  have h7 := Lib.hid hin; have h8 := Lib.hid hri; have h9 := Lib.hid hip; have h10 := Lib.hid hrp
  clear hsp hrs hnu hrn hki hrk hin hri hip hrp E hs
  go_enter Tryz.func5, Tryz.ntmps5
  go_wp2_with (first
    | (go_at_call 7; refine HS.out.mono ?_; rintro e w1 ⟨rfl, b1⟩; have B1 := Lib.hid b1; clear b1)
    | (go_at_call 17; refine (h1.out _ (HE.out _ B1.out)).mono ?_; rintro e w2 ⟨rfl, b2⟩; have B2 := Lib.hid (B1.out.trans (b2.mono B1.out.size)); clear b2)
    | (go_at_call 18; refine (h2.out _).mono ?_; rintro e w3 ⟨rfl, b3⟩; have B3 := Lib.hid (B2.out.trans (b3.mono B2.out.size)); clear b3)
    | (go_at_call 19; refine (h3.out _ (HE.out _ B3.out)).mono ?_; rintro e w4 ⟨rfl, b4⟩; have B4 := Lib.hid (B3.out.trans (b4.mono B3.out.size)); clear b4)
    | (go_at_call 20; refine (h4.out _).mono ?_; rintro e w5 ⟨rfl, rfl⟩)
    | (go_at_call 21; refine (h5.out _ (HE.out _ B4.out)).mono ?_; rintro e w6 ⟨rfl, b6⟩; have B6 := Lib.hid (B4.out.trans (b6.mono B4.out.size)); clear b6)
    | (go_at_call 22; refine (h6.out _).mono ?_; rintro e w7 ⟨rfl, b7⟩; have B7 := Lib.hid (B6.out.trans (b7.mono B6.out.size)); clear b7)
    | (go_at_call 23; refine (h7.out _ (HE.out _ B7.out)).mono ?_; rintro e w8 ⟨rfl, b8⟩; have B8 := Lib.hid (B7.out.trans (b8.mono B7.out.size)); clear b8)
    | (go_at_call 24; refine (h8.out _).mono ?_; rintro e w9 ⟨rfl, b9⟩; have B9 := Lib.hid (B8.out.trans (b9.mono B8.out.size)); clear b9)
    | (go_at_call 25; refine (h9.out _ (HE.out _ B9.out)).mono ?_; rintro e w10 ⟨rfl, b10⟩; have B10 := Lib.hid (B9.out.trans (b10.mono B9.out.size)); clear b10)
    | (go_at_call 26; refine (h10.out _).mono ?_; rintro e w11 ⟨rfl, b11⟩; have B11 := Lib.hid (B10.out.trans (b11.mono B10.out.size)); clear b11))
  exact bodyPost_ret (v := .bool true) (by simp [results, Tryz.results5, go_sem]) rfl ⟨rfl, B11.out⟩
end

end Go.Proofs.YtlkanfnhemjdcaaGreatDoor
