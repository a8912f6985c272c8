/-
  Contains, Index of the library over rows; Ancestors, Below.
-/
import Derived.Test.YtolopideimnbgaaHF
namespace Go.Proofs.Ytolopideimnbgaa
open Go.RowKit

theorem SRow.getD {w : World} {g o : Nat} {l : List ByteArray} (h : SAt w g o l) : ∀ j, j < l.length → w.cell? ⟨g, o + j, none⟩ = some (.string (l.getD j ByteArray.empty)) := fun j hj => by
  have := h j (l[j]) (List.getElem?_eq_getElem hj)
  rw [this, List.getD_eq_getElem?_getD, List.getElem?_eq_getElem hj]; rfl
theorem contains_any {w : World} {Q : Nat → Prop} {v : Value} {l : List ByteArray} (x : ByteArray) (h : SRow w Q v l) (hn : l.length ≤ 9223372036854775807) :
    Calls Try.prog 50 #[v, .string x] w fun e w' => e = .returned (.bool (decide (x ∈ l))) ∧ w = w' := by
  obtain ⟨b, c, rfl, hr⟩ := h
  by_cases hne : l = []
  · subst hne
    refine (Try.slices_Contains_string_empty b c x w).mono ?_
    rintro e w' ⟨rfl, rfl⟩
    exact ⟨by simp, rfl⟩
  · obtain ⟨g, o, rfl, _, _, hat, _⟩ := hr hne
    refine (Try.slices_Contains_string g o l.length c l x w (Nat.le_refl _) hn (SRow.getD hat)).mono ?_
    rintro e w' ⟨rfl, rfl⟩
    rw [List.take_length]
    refine ⟨?_, rfl⟩
    have := Lib.containsS_iff l x
    by_cases hx : x ∈ l
    · rw [this.2 hx, decide_eq_true hx]
    · rw [decide_eq_false hx, Bool.eq_false_iff.2 (fun e => hx (this.1 e))]
def ixM (l : List ByteArray) (x : ByteArray) : Int := Lib.idxOfS l x
theorem index_any {w : World} {Q : Nat → Prop} {v : Value} {l : List ByteArray} (x : ByteArray) (h : SRow w Q v l) (hn : l.length ≤ 9223372036854775807) :
    Calls Try.prog 75 #[v, .string x] w fun e w' => e = .returned (.int .i64 (ixM l x)) ∧ w = w' := by
  obtain ⟨b, c, rfl, hr⟩ := h
  by_cases hne : l = []
  · subst hne
    refine (Try.slices_Index_string_empty b c x w).mono ?_
    rintro e w' ⟨rfl, rfl⟩
    exact ⟨rfl, rfl⟩
  · obtain ⟨g, o, rfl, _, _, hat, _⟩ := hr hne
    refine (Try.slices_Index_string g o l.length c l x w (Nat.le_refl _) hn (SRow.getD hat)).mono ?_
    rintro e w' ⟨rfl, rfl⟩
    rw [List.take_length]
    exact ⟨rfl, rfl⟩

def ancestorsM (g : List Hr) (nm : ByteArray) : Except Int (List ByteArray) := if checkM g = 0 then
    match posM g nm with
    | none => .error 3
    | some n => .ok ((g.map (·.1)).filter fun s => decide (s ∈ ancM g n))
  else .error (checkM g)
/-- A list, or an error. -/
def LRes (r : Except Int (List ByteArray)) (W : World) (e : Ending) (w' : World) : Prop :=
  Below W.heap.size W w' ∧ match r with
  | .ok l => ∃ v, e = .returned (.tuple #[v, .int .i64 0]) ∧ SRow w' (fun b => W.heap.size ≤ b) v l
  | .error c => e = .returned (.tuple #[.slice none 0 0, .int .i64 c])
/-- The loop of Ancestors. -/
def NLoop (g : List Hr) (A : List ByteArray) (base mb : Nat) (W : World) (k : Nat) (v : Value) (wr : World) : Prop :=
  k ≤ g.length ∧ Below W.heap.size W wr ∧ base ≤ wr.heap.size ∧ SOwn wr base v (((g.take k).map (·.1)).filter fun s => decide (s ∈ A)) ∧ MapF wr mb (setF A)
set_option maxRecDepth 100000 in
set_option maxHeartbeats 4000000 in
theorem Ancestors_any (g : List Hr) (nm : ByteArray) (v : Value) (W : World) (hr : HRow W (fun b => b < W.heap.size) v g) (hz : ∀ x ∈ g, x.2.length ≤ 8796093022207) :
    Calls Try.prog 14 #[v, .string nm] W (LRes (ancestorsM g nm) W) := by
  have hf := find_any g nm v W hr hz
  have HZ := Lib.hid hz
  have HRW := Lib.hid hr
  obtain ⟨b, c, rfl, hrow⟩ := hr
  obtain ⟨R, hR⟩ : ∃ R, R = ancestorsM g nm := ⟨_, rfl⟩
  rw [← hR]
  have HR := Lib.hid hR
  clear hz hR
  go_enter Try.func14, Try.ntmps14
  go_wp2_with fail
  refine hf.mono ?_
  rintro e w1 ⟨hb1, hcase⟩
  have HB1 := Lib.hid hb1
  clear hf hb1
  rcases hcase with ⟨h0, rfl⟩ | ⟨h0, hp, rfl⟩ | ⟨h0, n, hb, ab, kb, hp, rfl, hier, hkn⟩
  · have HE : Hid (R = .error (checkM g)) := Lib.hid (by rw [HR.out]; unfold ancestorsM; rw [if_neg h0])
    have hn' : (checkM g != 0) = true := by simp [h0]
    generalize checkM g = cm at *
    clear h0 hrow
    go_wp2_with fail
    exact bodyPost_ret (v := .tuple #[.slice none 0 0, .int .i64 cm]) (by simp [results, Try.results14, go_sem]) rfl ⟨HB1.out, by rw [HE.out]⟩
  · have HE : Hid (R = .error 3) := Lib.hid (by rw [HR.out]; unfold ancestorsM; rw [if_pos h0, hp])
    clear h0 hp hrow
    go_wp2_with fail
    exact bodyPost_ret (v := .tuple #[.slice none 0 0, .int .i64 3]) (by simp [results, Try.results14, go_sem]) rfl ⟨HB1.out, by rw [HE.out]⟩
  · have HE : Hid (R = .ok ((g.map (·.1)).filter fun s => decide (s ∈ ancM g n))) := Lib.hid (by rw [HR.out]; unfold ancestorsM; rw [if_pos h0, hp])
    have HL : Hid (g.length ≤ 120) := Lib.hid (checkM_len h0)
    obtain ⟨x0, hx0, _⟩ := posM_some hp
    have ha := ancestors_any W.heap.size hb ab kb (.slice b g.length c) g n w1 hier (List.getElem?_eq_some_iff.1 hx0).1 HL.out HZ.out
    clear h0 hp hier hkn hx0
    generalize ancM g n = A at *
    go_wp2_with fail
    refine ha.mono ?_
    rintro e w2 ⟨rfl, hb2, hm2⟩
    have HB2 : Hid (Below W.heap.size W w2) := Lib.hid (HB1.out.trans (hb2.mono HB1.out.size))
    have HM2 := Lib.hid hm2
    have HMB : Hid (W.heap.size ≤ w1.heap.size ∧ w1.heap.size < w2.heap.size) := Lib.hid ⟨HB1.out.size, hm2.lt⟩
    clear ha hb2 hm2
    go_wp2_with fail
    go_loopw [10, 28] (fun v5 i wr => ∃ k : Nat, i = .int .i64 (k : Int) ∧ Hid (NLoop g A (w1.heap.size + 1) w1.heap.size W k v5 wr)) (fun _ i _ => g.length - (intOf i).toNat)
    case atStart => exact ⟨0, rfl, Lib.hid ⟨by omega, HB2.out, HMB.out.2, SOwn.nil _ _, HM2.out⟩⟩
    case round =>
      obtain ⟨k, rfl, hst⟩ := hrel
      obtain ⟨hk, hbe, hsz, hown, hm⟩ := hst.out
      have hbz := hbe.size
      by_cases hlt : k < g.length
      · obtain ⟨⟨x, su⟩, hx⟩ : ∃ x, g[k]? = some x := ⟨_, List.getElem?_eq_getElem hlt⟩
        obtain ⟨gb, o, rfl, _, hg, hat, _⟩ := hrow (by rintro rfl; simp at hlt)
        obtain ⟨e0, sv, e1, hsv⟩ := hat k _ hx
        have e0' := (hbe.cell (p := ⟨gb, o + k * 2, none⟩) hg).trans e0
        have e1' := (hbe.cell (p := ⟨gb, o + k * 2 + 1, none⟩) hg).trans e1
        obtain ⟨sb, sc, rfl, hsr⟩ := hsv
        simp only at e0' e1' hsr
        have hl2 : (k : Int) < (g.length : Int) := by omega
        have w3 : IntKind.i64.wrap ((k : Int) + 1) = (k : Int) + 1 := IntWalk.i64_in _ (by have := HL.out; omega)
        have hbx := (Below.refl wr.heap.size wr).alloc (Nat.le_refl _) (.cells #[.string x, .slice sb su.length sc] 57)
        have hm2 := hm.keep (hbx.block _ hm.lt)
        have hlk := set_look hm2 x
        have HT : Hid (((g.take (k + 1)).map (·.1)).filter (fun s => decide (s ∈ A)) = ((g.take k).map (·.1)).filter (fun s => decide (s ∈ A)) ++ if x ∈ A then [x] else []) := Lib.hid (by
          rw [List.take_add_one, hx]
          simp only [Option.toList_some, List.map_append, List.map_cons, List.map_nil, List.filter_append]
          by_cases hxa : x ∈ A <;> simp [hxa])
        have HBE := Lib.hid (hbe.trans (hbx.mono hbe.size))
        have HSZ := Lib.hid hsz
        have HM2' := Lib.hid hm2
        have HLE : Hid ((((g.take k).map (·.1)).filter fun s => decide (s ∈ A)).length ≤ k) := Lib.hid (by
          refine Nat.le_trans (List.length_filter_le _ _) ?_
          rw [List.length_map, List.length_take]; omega)
        have HK : Hid (k < 120) := Lib.hid (by have := HL.out; omega)
        have HOWN := Lib.hid (hown.below hbx)
        clear hst hat hx hbe hsz hm hsr e0 e1 hbx hm2 hown hbz
        by_cases hxa : x ∈ A
        · rw [decide_eq_true hxa] at hlk
          have HT2 := Lib.hid (HT.out.trans (by rw [if_pos hxa]))
          have HBX : Hid (((wr.alloc (.cells #[.string x, .slice sb su.length sc] 57)).alloc (.cells #[.string x] 9)).heap[wr.heap.size + 1]? = some (.cells #[.string x] 9)) := Lib.hid (by
            have := heap_alloc_new (wr.alloc (.cells #[.string x, .slice sb su.length sc] 57)) (.cells #[.string x] 9)
            simpa using this)
          have HO2 := Lib.hid (HOWN.out.below ((Below.refl _ (wr.alloc (.cells #[.string x, .slice sb su.length sc] 57))).alloc (Nat.le_refl _) (.cells #[.string x] 9)))
          have HB3 := Lib.hid (HBE.out.alloc HBE.out.size (.cells #[.string x] 9))
          have HM3 := Lib.hid (HM2'.out.keep (W' := (wr.alloc (.cells #[.string x, .slice sb su.length sc] 57)).alloc (.cells #[.string x] 9)) (Below.heap_alloc _ _ _ HM2'.out.lt))
          clear hxa HT
          generalize hfl : ((g.take k).map (·.1)).filter (fun s => decide (s ∈ A)) = fl at *
          go_wp2_with (at_builtin; go_loud (refine wpList_append_str rfl _ _ rfl (w1.heap.size + 1) _ fl rfl HO2.out _ _ x rfl HBX.out (by have := HLE.out; have := HK.out; omega) (by have := HSZ.out; simp; omega) _ rfl ?_); intro g6 cap6 w6 hown6 hgrow6 hat6; have HP6 := Lib.hid hown6; have HG6 := Lib.hid hgrow6; clear hown6 hgrow6 hat6)
          refine ⟨⟨k + 1, by simp, Lib.hid ⟨by omega, HB3.out.grown HG6.out (by have := HSZ.out; have := HMB.out; simp; omega) (fun q e => by have := (HO2.out.lt q e).1; have := HMB.out; omega), ?_, ?_, ?_⟩⟩, by simp only [intOf]; omega⟩
          · have z1 := HG6.out.size; have z2 := HSZ.out; simp at z1; omega
          · rw [HT2.out]; have := HP6.out; exact this
          · refine HM3.out.keep (HG6.out.block _ (by have := HSZ.out; simp; omega) ?_)
            intro e
            have := (HO2.out.lt _ e.symm).1
            omega
        · rw [decide_eq_false hxa] at hlk
          have HT2 := Lib.hid (HT.out.trans (by rw [if_neg hxa, List.append_nil]))
          clear hxa HT
          go_wp2_with fail
          exact ⟨⟨k + 1, by simp, Lib.hid ⟨by omega, HBE.out, by have := HSZ.out; simp; omega, by rw [HT2.out]; exact HOWN.out, HM2'.out⟩⟩, by simp only [intOf]; omega⟩
      · have hl2 : ((k : Int) < (g.length : Int)) = False := by simp; omega
        have HF : Hid (Below W.heap.size W wr ∧ ∃ a' c', u10 = .slice a' ((g.map (·.1)).filter fun s => decide (s ∈ A)).length c' ∧ SRow wr (fun b => W.heap.size ≤ b) u10 ((g.map (·.1)).filter fun s => decide (s ∈ A))) := Lib.hid (by
          rw [List.take_of_length_le (by omega)] at hown
          have := hown.srow
          obtain ⟨a', c', e⟩ := hown.len
          exact ⟨hbe, a', c', e, this.mono fun b _ hb => by have := HMB.out; omega⟩)
        clear hst hbe hsz hown hm
        obtain ⟨hbf, a', c', rfl, hrf⟩ := HF.out
        have HF2 := Lib.hid (And.intro hbf hrf)
        clear HF hbf hrf
        go_wp2_with fail
        refine bodyPost_ret (v := .tuple #[.slice a' ((g.map (·.1)).filter fun s => decide (s ∈ A)).length c', .int .i64 0]) (by simp [results, Try.results14, go_sem]) rfl ⟨HF2.out.1, ?_⟩
        rw [HE.out]
        exact ⟨_, rfl, HF2.out.2⟩
end Go.Proofs.Ytolopideimnbgaa
