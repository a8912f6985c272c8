/-
  find; the ancestors.
-/
import Derived.Test.YtolopideimnbgaaHE
namespace Go.Proofs.Ytolopideimnbgaa
open Go.RowKit

/-- What find leaves. -/
def FindPost (gv : Value) (g : List Hr) (nm : ByteArray) (W : World) (e : Ending) (w' : World) : Prop :=
  Below W.heap.size W w' ∧
  ((¬ checkM g = 0 ∧ e = .returned (.tuple #[.pointer none, .int .i64 0, .int .i64 (checkM g)])) ∨
   (checkM g = 0 ∧ posM g nm = none ∧ e = .returned (.tuple #[.pointer none, .int .i64 0, .int .i64 3])) ∨
   (checkM g = 0 ∧ ∃ (n hb ab kb : Nat), posM g nm = some n ∧ e = .returned (.tuple #[.pointer (some ⟨hb, 0, none⟩), .int .i64 (n : Int), .int .i64 0]) ∧ HierAt w' W.heap.size hb ab kb gv g ∧ MapF w' kb fun _ => none))
theorem zero_int (W : World) : (zeroValue 3).run Try.prog W = .ok (.int .i64 0) W := by kernel_rfl
theorem checkM_len {g : List Hr} (h : checkM g = 0) : g.length ≤ 120 := by
  unfold checkM at h
  by_cases h1 : 120 < g.length
  · rw [if_pos h1] at h; omega
  · omega
set_option maxRecDepth 100000 in
set_option maxHeartbeats 2000000 in
theorem find_any (g : List Hr) (nm : ByteArray) (v : Value) (W : World) (hr : HRow W (fun b => b < W.heap.size) v g) (hz : ∀ x ∈ g, x.2.length ≤ 8796093022207) :
    Calls Try.prog 45 #[v, .string nm] W (FindPost v g nm W) := by
  have hc := Check_any g _ v W hr hz
  have HRW := Lib.hid hr
  obtain ⟨b, c, rfl, hrow⟩ := hr
  clear hrow hz
  by_cases h0 : checkM g = 0
  · have HL : Hid (g.length ≤ 120) := Lib.hid (checkM_len h0)
    have H0 := Lib.hid h0
    rw [h0] at hc
    clear h0
    go_enter Try.func45, Try.ntmps45
    go_wp2_with fail
    refine hc.mono ?_
    rintro e w1 ⟨rfl, hb1⟩
    have HB1 := Lib.hid hb1
    have hh := hierarchyOf_any g (.slice b g.length c) w1 ((HRW.out.below hb1).mono fun k hk _ => hk) HL.out
    clear hb1 hc
    go_wp2_with fail
    refine hh.mono ?_
    rintro e w2 ⟨rfl, hb2, hier, hkn⟩
    have HB2 : Hid (Below W.heap.size W w2) := Lib.hid (HB1.out.trans (hb2.mono HB1.out.size))
    have e1 := hier.cell.2.1
    have hlk := hier.pos.lookOk Try.underlying96 Try.underlying9 (zero_int w2) nm
    have HI := Lib.hid hier
    have HK := Lib.hid hkn
    have HS1 := Lib.hid HB1.out.size
    clear hier hkn hb2 hh
    cases hp : posM g nm with
    | none =>
      have hf : posF g nm = none := by unfold posF; rw [hp]; rfl
      rw [hf] at hlk
      simp only [Option.getD_none, Option.isSome_none] at hlk
      have HP := Lib.hid hp
      clear hf hp
      go_wp2_with fail
      exact bodyPost_ret (v := .tuple #[.pointer none, .int .i64 0, .int .i64 3]) (by simp [results, Try.results45, go_sem]) rfl ⟨HB2.out, .inr (.inl ⟨H0.out, HP.out, rfl⟩)⟩
    | some n =>
      have hf : posF g nm = some (.int .i64 (n : Int)) := by unfold posF; rw [hp]; rfl
      rw [hf] at hlk
      simp only [Option.getD_some, Option.isSome_some] at hlk
      have HP := Lib.hid hp
      clear hf hp
      go_wp2_with fail
      refine bodyPost_ret (v := .tuple #[.pointer (some ⟨w1.heap.size + 2, 0, none⟩), .int .i64 (n : Int), .int .i64 0]) (by simp [results, Try.results45, go_sem]) rfl ⟨HB2.out, .inr (.inr ⟨H0.out, n, _, _, _, HP.out, rfl, ⟨?_, HI.out.blk, HI.out.pos, ?_, HI.out.ne⟩, HK.out⟩)⟩
      · exact HRW.out.below HB2.out
      · have := HI.out.le; have := HS1.out; omega
  · have hn : (checkM g == 0) = false := by simp [h0]
    have hn' : (checkM g != 0) = true := by simp [h0]
    have H0 := Lib.hid h0
    generalize hcm : checkM g = cm at *
    have HC := Lib.hid hcm
    clear h0 hcm
    go_enter Try.func45, Try.ntmps45
    go_wp2_with fail
    refine hc.mono ?_
    rintro e w1 ⟨rfl, hb1⟩
    have HB1 := Lib.hid hb1
    clear hb1 hc
    go_wp2_with fail
    exact bodyPost_ret (v := .tuple #[.pointer none, .int .i64 0, .int .i64 cm]) (by simp [results, Try.results45, go_sem]) rfl ⟨HB1.out, .inl ⟨by rw [HC.out]; exact H0.out, by rw [HC.out]⟩⟩

/-- The names above a class. -/
def ancG (g : List Hr) : Nat → List ByteArray → List ByteArray
  | 0, a => a
  | i + 1, a => ancG g i (match g[i]? with | some x => if x.1 ∈ a then a ++ x.2 else a | none => a)
def ancM (g : List Hr) (n : Nat) : List ByteArray := ancG g (n + 1) (match g[n]? with | some x => [x.1] | none => [])
theorem ancG_at {g : List Hr} {i : Nat} {x : Hr} {a : List ByteArray} (h : g[i]? = some x) : ancG g (i + 1) a = if x.1 ∈ a then ancG g i (a ++ x.2) else ancG g i a := by
  show ancG g i (match g[i]? with | some x => if x.1 ∈ a then a ++ x.2 else a | none => a) = _
  rw [h]
  by_cases hx : x.1 ∈ a
  · simp only [if_pos hx]
  · simp only [if_neg hx]
/-- The outer loop. -/
def ALoop (g : List Hr) (n : Nat) (W : World) (k : Nat) (wr : World) : Prop :=
  k ≤ n + 1 ∧ Below W.heap.size W wr ∧ ∃ a, MapF wr W.heap.size (setF a) ∧ ancG g k a = ancM g n
def BLoop (su a : List ByteArray) (W : World) (j : Nat) (wr : World) : Prop :=
  j ≤ su.length ∧ Below W.heap.size W wr ∧ MapF wr W.heap.size (setF (a ++ su.take j))
set_option maxRecDepth 100000 in
set_option maxHeartbeats 4000000 in
theorem ancestors_any (B hb ab kb : Nat) (gv : Value) (g : List Hr) (n : Nat) (W : World) (hh : HierAt W B hb ab kb gv g) (hn : n < g.length) (hg : g.length ≤ 120) (hz : ∀ x ∈ g, x.2.length ≤ 8796093022207) :
    Calls Try.prog 46 #[.pointer (some ⟨hb, 0, none⟩), .int .i64 (n : Int)] W fun e w' => e = .returned (.map (some W.heap.size)) ∧ Below W.heap.size W w' ∧ MapF w' W.heap.size (setF (ancM g n)) := by
  obtain ⟨x0, hx0⟩ : ∃ x, g[n]? = some x := ⟨_, List.getElem?_eq_getElem hn⟩
  have HH := Lib.hid hh
  have HZ := Lib.hid hz
  obtain ⟨b, c, rfl, hrow⟩ := hh.row
  obtain ⟨gb, o, rfl, hq, hgl, hat, _⟩ := hrow (by rintro rfl; simp at hn)
  have hmk := run_makeMap (P := Try.prog) 67 W
  have hba := (Below.refl W.heap.size W).alloc (Nat.le_refl _) (.map #[] 0)
  have f0 := (hba.cell (p := ⟨hb, 0, none⟩) hh.lt).trans hh.cell.1
  have e0 := (hba.cell (p := ⟨gb, o + n * 2, none⟩) hgl).trans (hat n x0 hx0).1
  have hn1 : (0 : Int) ≤ (n : Int) := by omega
  have hn2 : (n : Int) < (g.length : Int) := by omega
  obtain ⟨ob, hob⟩ := set_upd (set_new W W.heap.size rfl) x0.1
  have hu := (hob _ rfl).1
  have HA0 : Hid (ALoop g n W (n + 1) ((W.alloc (.map #[] 0)).putObj W.heap.size ob)) := Lib.hid ⟨Nat.le_refl _, ((Keep.of_below (S := fun _ => False) hba).putObj (.inr (Nat.le_refl _)) ob).below0, [x0.1], (hob _ rfl).2, by unfold ancM; rw [hx0]⟩
  have HAT := Lib.hid hat
  clear hh hz hat hrow hob hba
  go_enter Try.func46, Try.ntmps46
  go_wp2_with fail
  generalize (W.alloc (.map #[] 0)).putObj W.heap.size ob = W1 at HA0 ⊢
  clear hmk f0 e0 hu hn1 hn2
  go_loopw [6] (fun i wr => ∃ k : Nat, i = .int .i64 ((k : Int) - 1) ∧ Hid (ALoop g n W k wr)) (fun i _ => (intOf i + 1).toNat)
  case atStart => exact ⟨n + 1, by simp, HA0⟩
  case round =>
    obtain ⟨k, rfl, hst⟩ := hrel
    rcases Nat.eq_zero_or_pos k with rfl | hk0
    · have hc : ((0 : Int) ≤ ((0 : Nat) : Int) - 1) = False := by simp
      have HF : Hid (Below W.heap.size W wr ∧ MapF wr W.heap.size (setF (ancM g n))) := Lib.hid (by
        obtain ⟨_, hbe, a, hm, he⟩ := hst.out
        exact ⟨hbe, by rw [← he]; exact hm⟩)
      clear hst
      go_wp2_with fail
      exact bodyPost_ret (v := .map (some W.heap.size)) (by simp [results, Try.results46, go_sem]) rfl ⟨rfl, HF.out⟩
    · obtain ⟨i, rfl⟩ : ∃ i, k = i + 1 := ⟨k - 1, by omega⟩
      obtain ⟨hki, hbe, a, hm, he⟩ := hst.out
      have hs : (((i + 1 : Nat) : Int) - 1) = (i : Int) := by omega
      rw [hs]
      have hc : (0 : Int) ≤ (i : Int) := by omega
      have hl2 : (i : Int) < (g.length : Int) := by omega
      have w4 : IntKind.i64.wrap ((i : Int) - 1) = (i : Int) - 1 := IntWalk.i64_in _ (by omega)
      obtain ⟨⟨nm, su⟩, hx⟩ : ∃ x, g[i]? = some x := ⟨_, List.getElem?_eq_getElem (by omega)⟩
      obtain ⟨e0, sv, e1, hsv⟩ := HAT.out i _ hx
      have e0' := (hbe.cell (p := ⟨gb, o + i * 2, none⟩) hgl).trans e0
      have e1' := (hbe.cell (p := ⟨gb, o + i * 2 + 1, none⟩) hgl).trans e1
      have f0 := (hbe.cell (p := ⟨hb, 0, none⟩) HH.out.lt).trans HH.out.cell.1
      obtain ⟨sb, sc, rfl, hsr⟩ := hsv
      simp only at e0' e1' hsr
      have hbx := (Below.refl wr.heap.size wr).alloc (Nat.le_refl _) (.cells #[.string nm, .slice sb su.length sc] 57)
      have hm2 := hm.keep (hbx.block _ hm.lt)
      have HB2 := Lib.hid (hbe.trans (hbx.mono hbe.size))
      have hlk := set_look hm2 nm
      have HSU : Hid (su.length ≤ 8796093022207) := Lib.hid (HZ.out (nm, su) (List.mem_iff_getElem?.2 ⟨i, hx⟩))
      have HAG := Lib.hid (ancG_at (a := a) hx)
      have HE := Lib.hid he
      have HM2 := Lib.hid hm2
      have HSR := Lib.hid hsr
      clear hst hbe hm he e0 e1 hsr hx hbx hm2
      by_cases hin : nm ∈ a
      · rw [decide_eq_true hin] at hlk
        have HE2 : Hid (ancG g i (a ++ su) = ancM g n) := Lib.hid (by rw [← HE.out, HAG.out, if_pos hin])
        clear hin HE HAG
        obtain ⟨X2, hX2⟩ : ∃ X2, X2 = wr.alloc (.cells #[.string nm, .slice sb su.length sc] 57) := ⟨_, rfl⟩
        go_wp2_with fail
        rw [← hX2] at HB2 HM2 ⊢
        clear hlk hX2
        go_loopw [40] (fun iv wr => ∃ j : Nat, iv = .int .i64 (j : Int) ∧ Hid (BLoop su a W j wr)) (fun iv _ => su.length - (intOf iv).toNat)
        case atStart => exact ⟨0, rfl, Lib.hid ⟨by omega, HB2.out, by rw [List.take_zero, List.append_nil]; exact HM2.out⟩⟩
        case round =>
          obtain ⟨j, rfl, hst⟩ := hrel
          obtain ⟨hj, hbe, hm⟩ := hst.out
          by_cases hlt : j < su.length
          · obtain ⟨s, hs⟩ : ∃ s, su[j]? = some s := ⟨_, List.getElem?_eq_getElem hlt⟩
            obtain ⟨sg, so, rfl, _, hsg, hsat, _⟩ := HSR.out (by rintro rfl; simp at hlt)
            have e5 := (hbe.cell (p := ⟨sg, so + j, none⟩) hsg).trans (hsat j s hs)
            have hj2 : (j : Int) < (su.length : Int) := by omega
            have w5 : IntKind.i64.wrap ((j : Int) + 1) = (j : Int) + 1 := IntWalk.i64_in _ (by have := HSU.out; omega)
            obtain ⟨ob, hob⟩ := set_upd hm s
            have hu := (hob wr rfl).1
            have HNX : Hid (BLoop su a W (j + 1) (wr.putObj W.heap.size ob)) := Lib.hid ⟨hlt, ((Keep.of_below (S := fun _ => False) hbe).putObj (.inr (Nat.le_refl _)) ob).below0, by
              rw [List.take_add_one, hs, Option.toList_some, ← List.append_assoc]; exact (hob wr rfl).2⟩
            clear hst hbe hm hob hs hsat
            go_wp2_with fail
            exact ⟨⟨j + 1, by simp, HNX⟩, by simp only [intOf]; omega⟩
          · have hj2 : ((j : Int) < (su.length : Int)) = False := by simp; omega
            have HNX : Hid (ALoop g n W i wr) := Lib.hid ⟨by omega, hbe, a ++ su, by rw [List.take_of_length_le (by omega)] at hm; exact hm, HE2.out⟩
            clear hst hbe hm
            go_wp2_with fail
            exact ⟨⟨i, rfl, HNX⟩, by simp only [intOf]; omega⟩
      · rw [decide_eq_false hin] at hlk
        have HNX : Hid (ALoop g n W i (wr.alloc (.cells #[.string nm, .slice sb su.length sc] 57))) := Lib.hid ⟨by omega, HB2.out, a, HM2.out, by rw [← HE.out, HAG.out, if_neg hin]⟩
        clear hin HE HAG
        go_wp2_with fail
        exact ⟨⟨i, rfl, HNX⟩, by simp only [intOf]; omega⟩
end Go.Proofs.Ytolopideimnbgaa
