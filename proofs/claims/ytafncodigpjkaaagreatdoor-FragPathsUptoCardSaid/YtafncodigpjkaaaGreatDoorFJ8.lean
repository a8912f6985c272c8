/-
  The reference's depth and size.
  The reference's size.
  The reference's At.
-/
import Derived.Test.YtafncodigpjkaaaGreatDoorFGB
import Derived.Test.YtafncodigpjkaaaGreatDoorFJ5
namespace Go.Proofs.YtafncodigpjkaaaGreatDoor
section
open Go.RowKit

def maxL (F : List Fg → Nat) : List Fg → Nat → Nat
  | [], d => d
  | x :: r, d => maxL F r (if x.opn = sNo then d else max d (1 + F x.kids))
theorem maxL_top {F : List Fg → Nat} {M : Nat} (hF : ∀ ks, F ks + 1 ≤ M) : ∀ (l : List Fg), maxL F l M = M
  | [] => rfl
  | x :: r => by
    unfold maxL
    have := hF x.kids
    have e : (if x.opn = sNo then M else max M (1 + F x.kids)) = M := by split <;> omega
    rw [e, maxL_top hF r]
theorem depL_max {F : List Fg → Nat} {M : Nat} (hF : ∀ ks, F ks + 1 ≤ M) : ∀ (l : List Fg) (d : Nat), depL F M l d = maxL F l d
  | [], d => rfl
  | x :: r, d => by
    unfold depL
    split
    · rename_i h
      subst h
      exact (maxL_top hF (x :: r)).symm
    · rw [depL_max hF r]
      rfl
def rF : Nat → List Fg → Nat
  | 0 => fun _ => 0
  | m + 1 => fun l => maxL (rF m) l 0
theorem rF_dep : ∀ (m : Nat), rF m = depM m
  | 0 => by
    funext l
    have h := depM_le 0 l
    show 0 = depM 0 l
    omega
  | m + 1 => by
    funext l
    show maxL (rF m) l 0 = depL (depM m) (m + 1) l 0
    rw [rF_dep m, depL_max (fun ks => by have := depM_le m ks; omega)]
theorem maxL_at {F : List Fg → Nat} {d k : Nat} {l : List Fg} {x : Fg} (h : l[k]? = some x) : maxL F (l.drop k) d = maxL F (l.drop (k + 1)) (if x.opn = sNo then d else max d (1 + F x.kids)) := by
  obtain ⟨hk, rfl⟩ := List.getElem?_eq_some_iff.1 h
  rw [List.drop_eq_getElem_cons hk]
  rfl
set_option maxRecDepth 100000 in
set_option maxHeartbeats 8000000 in
theorem rdepth_run (F : List Fg → Nat) (m : Nat) (hm : m ≤ 100) (hF : ∀ ks, F ks ≤ m) (hz : m = 0 → ∀ ks, F ks = 0) (P : Nat → Prop) (l : List Fg) (v : Value) (W : World) (hv : FVal W P v l) (hl : l.length ≤ 140737488351232) (hle : FgsLe 140737488351232 l)
    (HC : 0 < m → ∀ (ks : List Fg) (kv : Value) (w : World), FVal w P kv ks → ks.length ≤ 140737488351232 → FgsLe 140737488351232 ks → Calls Tryz.prog 48 #[kv, .int .i64 ((m : Int) - 1)] w (DepPost (F ks) w)) :
    Calls Tryz.prog 48 #[v, .int .i64 (m : Int)] W (DepPost (maxL F l 0) W) := by
  obtain ⟨b, c, rfl, hrow⟩ := hv
  have w4' : IntKind.i64.wrap ((m : Int) - 1) = (m : Int) - 1 := IntWalk.i64_in _ (by omega)
  have HCC := Lib.hid HC
  have HR := Lib.hid hrow
  have HLE := Lib.hid hle
  have HF := Lib.hid hF
  have HZ := Lib.hid hz
  clear HC hrow hle hF hz
  go_enter Tryz.func48, Tryz.ntmps48
  go_wp2_with fail
  go_loopw [5, 6] (fun dv iv wr => ∃ k d : Nat, dv = .int .i64 (d : Int) ∧ iv = .int .i64 (k : Int) ∧ Hid (k ≤ l.length ∧ d ≤ m + 1 ∧ maxL F (l.drop k) d = maxL F l 0 ∧ Below W.heap.size W wr)) (fun _ iv _ => l.length - (intOf iv).toNat)
  case atStart => exact ⟨0, 0, rfl, rfl, Lib.hid ⟨Nat.zero_le _, Nat.zero_le _, by rw [List.drop_zero], Below.refl _ _⟩⟩
  case round =>
    obtain ⟨k, d, rfl, rfl, hr⟩ := hrel
    obtain ⟨hk, hd, hres, hbe⟩ := hr.out
    have w3' : IntKind.i64.wrap ((k : Int) + 1) = (k : Int) + 1 := IntWalk.i64_in _ (by omega)
    by_cases hlt : k < l.length
    · obtain ⟨x, hx⟩ : ∃ x, l[k]? = some x := ⟨_, List.getElem?_eq_getElem hlt⟩
      obtain ⟨g, o, rfl, hp, hg, hrw⟩ := HR.out (by rintro rfl; simp at hlt)
      obtain ⟨kv, hcell, ka, kc, rfl, hkr⟩ := (hrw.get hx).parts
      rw [maxL_at hx] at hres
      have hcell' : ∀ j u, (fgV x (.slice ka x.kids.length kc))[j]? = some u → wr.cell? ⟨g, o + k * 7 + j, none⟩ = some u := fun j u hu => (hbe.cell (p := ⟨g, o + k * 7 + j, none⟩) hg).trans (hcell j u hu)
      have e5 : wr.cell? ⟨g, o + k * 7 + 5, none⟩ = some (.string x.opn) := hcell' 5 _ rfl
      have e6 : wr.cell? ⟨g, o + k * 7 + 6, none⟩ = some (.slice ka x.kids.length kc) := hcell' 6 _ rfl
      have hlt' : (k : Int) < (l.length : Int) := by omega
      have HKV : Hid (FVal W P (.slice ka x.kids.length kc) x.kids) := Lib.hid ⟨_, _, rfl, hkr⟩
      have HLX := Lib.hid (HLE.out.get hx)
      have HBE := Lib.hid hbe
      by_cases ho : x.opn = sNo
      · rw [if_pos ho] at hres
        have HRES := Lib.hid hres
        obtain ⟨o1, o2⟩ := lit_eq [] ho
        clear hr hcell hcell' hbe hrw hx hkr hres ho
        go_wp2_with fail
        exact ⟨⟨k + 1, d, rfl, by simp, Lib.hid ⟨by omega, hd, HRES.out, HBE.out⟩⟩, by simp only [intOf]; omega⟩
      rw [if_neg ho] at hres
      obtain ⟨o1, o2⟩ := lit_ne [] ho
      have hFk := HF.out x.kids
      by_cases hm0 : m = 0
      · subst hm0
        have hF0 := HZ.out rfl x.kids
        have HRES : Hid (maxL F (l.drop (k + 1)) (max d 1) = maxL F l 0) := Lib.hid (by rw [← hres, hF0])
        have HD : Hid (max d 1 ≤ 0 + 1) := Lib.hid (by omega)
        clear hr hcell hcell' hbe hrw hx hkr hres ho hFk hF0
        go_wp2_with fail
        exact ⟨⟨k + 1, max d 1, by simp; omega, by simp, Lib.hid ⟨by omega, HD.out, HRES.out, HBE.out⟩⟩, by simp only [intOf]; omega⟩
      · have hpos : (0 : Int) < (m : Int) := by omega
        have hne0 := (ne_int (show ¬ (m : Int) = 0 by omega)).1
        obtain ⟨f, hf⟩ : ∃ f, f = F x.kids := ⟨_, rfl⟩
        have HCK : Hid (∀ w', Below W.heap.size W w' → Calls Tryz.prog 48 #[.slice ka x.kids.length kc, .int .i64 ((m : Int) - 1)] w' (DepPost f w')) := Lib.hid (fun w' hb' => by rw [hf]; exact HCC.out (by omega) x.kids _ w' (HKV.out.below hb') HLX.out.1 HLX.out.2)
        have w5' : IntKind.i64.wrap (1 + (f : Int)) = 1 + (f : Int) := IntWalk.i64_in _ (by omega)
        have HRES : Hid (maxL F (l.drop (k + 1)) (max d (1 + f)) = maxL F l 0) := Lib.hid (by rw [← hres, hf])
        have HD : Hid (max d (1 + f) ≤ m + 1) := Lib.hid (by omega)
        clear hr hcell hcell' hbe hrw hx hkr hres ho hFk hf
        go_wp2_with fail
        refine (HCK.out _ HBE.out).mono ?_
        rintro e w5 ⟨rfl, hb5⟩
        have HB5 := Lib.hid (HBE.out.trans (hb5.mono HBE.out.size))
        have e5' : w5.cell? ⟨g, o + k * 7 + 5, none⟩ = some (.string x.opn) := (hb5.cell (p := ⟨g, o + k * 7 + 5, none⟩) (by have := HBE.out.size; show g < _; omega)).trans e5
        clear hb5
        go_wp2_with fail
        exact ⟨⟨k + 1, max d (1 + f), congrArg (Value.int .i64) (by omega), by simp, Lib.hid ⟨by omega, HD.out, HRES.out, HB5.out⟩⟩, by simp only [intOf]; omega⟩
    · have hlt' : ((k : Int) < (l.length : Int)) = False := by simp; omega
      have HRES : Hid (maxL F l 0 = d) := Lib.hid (by rw [← hres, List.drop_eq_nil_of_le (by omega)]; rfl)
      have HBE := Lib.hid hbe
      clear hr hres hbe
      go_wp2_with fail
      exact bodyPost_ret (v := .int .i64 (d : Int)) (by simp [results, Tryz.results48, go_sem]) rfl ⟨by rw [HRES.out], HBE.out⟩
theorem rdepth_any (P : Nat → Prop) : ∀ (m : Nat), m ≤ 100 → ∀ (l : List Fg) (v : Value) (W : World), FVal W P v l → l.length ≤ 140737488351232 → FgsLe 140737488351232 l → Calls Tryz.prog 48 #[v, .int .i64 (m : Int)] W (DepPost (rF (m + 1) l) W)
  | 0, hm, l, v, W, hv, h1, h2 => rdepth_run (rF 0) 0 hm (fun _ => Nat.le_refl _) (fun _ _ => rfl) P l v W hv h1 h2 (fun h => absurd h (by omega))
  | m + 1, hm, l, v, W, hv, h1, h2 => rdepth_run (rF (m + 1)) (m + 1) hm (fun ks => by rw [rF_dep]; exact depM_le _ _) (fun h => absurd h (by omega)) P l v W hv h1 h2 fun _ ks kv w hk a b => by
    have e : (((m + 1 : Nat) : Int) - 1) = (m : Int) := by omega
    rw [e]
    exact rdepth_any P m (by omega) ks kv w hk a b
theorem RDepth_any (P : Nat → Prop) (l : List Fg) (v : Value) (W : World) (hv : FVal W P v l) (h1 : l.length ≤ 140737488351232) (h2 : FgsLe 140737488351232 l) : Calls Tryz.prog 18 #[v] W (DepPost (depM 101 l) W) := by
  have H := Lib.hid (rdepth_any P 100 (Nat.le_refl _) l v W hv h1 h2)
  rw [rF_dep] at H
  clear hv h1 h2
  go_enter Tryz.func18, Tryz.ntmps18
  go_wp2_with fail
  refine (H.out).mono ?_
  rintro e w5 ⟨rfl, hb5⟩
  go_wp2_with fail
  exact bodyPost_ret (v := .int .i64 (depM 101 l : Nat)) (by simp [results, Tryz.results18, go_sem]) rfl ⟨rfl, hb5⟩
end

section
open Go.RowKit

def szT (m : Nat) (l : List Fg) : Nat := min 6001 (tokM m l).length
theorem tokM_take {m k : Nat} {l : List Fg} {x : Fg} (h : l[k]? = some x) : (tokM m (l.take (k + 1))).length = (tokM m (l.take k)).length + (if x.opn = sNo then 1 else if m = 0 then 0 else (tokM (m - 1) x.kids).length + 2) := by
  cases m with
  | zero =>
    show (tokL _ _ _).length = (tokL _ _ _).length + _
    rw [tokL_snoc h, List.length_append]
    congr 1
    split <;> rfl
  | succ m =>
    show (tokL _ _ _).length = (tokL _ _ _).length + _
    rw [tokL_snoc h, List.length_append]
    congr 1
    split
    · rfl
    · simp
theorem tokM_pre (m : Nat) (l : List Fg) (k : Nat) : (tokM m (l.take k)).length ≤ (tokM m l).length := by
  cases m with
  | zero => exact (tokL_take _ _ l k).length_le
  | succ m => exact (tokL_take _ _ l k).length_le
set_option maxRecDepth 100000 in
set_option maxHeartbeats 8000000 in
theorem rsize_run (m : Nat) (hm : m ≤ 100) (P : Nat → Prop) (l : List Fg) (v : Value) (W : World) (hv : FVal W P v l) (hl : l.length ≤ 140737488351232) (hle : FgsLe 140737488351232 l)
    (HC : 0 < m → ∀ (ks : List Fg) (kv : Value) (w : World), FVal w P kv ks → ks.length ≤ 140737488351232 → FgsLe 140737488351232 ks → Calls Tryz.prog 46 #[kv, .int .i64 6000, .int .i64 ((m : Int) - 1)] w (DepPost (szT (m - 1) ks) w)) :
    Calls Tryz.prog 46 #[v, .int .i64 6000, .int .i64 (m : Int)] W (DepPost (szT m l) W) := by
  obtain ⟨b, c, rfl, hrow⟩ := hv
  have w4' : IntKind.i64.wrap ((m : Int) - 1) = (m : Int) - 1 := IntWalk.i64_in _ (by omega)
  have HCC := Lib.hid HC
  have HR := Lib.hid hrow
  have HLE := Lib.hid hle
  clear HC hrow hle
  go_enter Tryz.func46, Tryz.ntmps46
  go_wp2_with fail
  go_loopw [7, 8] (fun dv iv wr => ∃ k n : Nat, dv = .int .i64 (n : Int) ∧ iv = .int .i64 (k : Int) ∧ Hid (k ≤ l.length ∧ n = szT m (l.take k) ∧ Below W.heap.size W wr)) (fun _ iv _ => l.length - (intOf iv).toNat)
  case atStart => exact ⟨0, 0, rfl, rfl, Lib.hid ⟨Nat.zero_le _, by rw [List.take_zero]; cases m <;> rfl, Below.refl _ _⟩⟩
  case round =>
    obtain ⟨k, n, rfl, rfl, hr⟩ := hrel
    obtain ⟨hk, hn, hbe⟩ := hr.out
    have w3' : IntKind.i64.wrap ((k : Int) + 1) = (k : Int) + 1 := IntWalk.i64_in _ (by omega)
    have hpre := tokM_pre m l k
    by_cases hlt : k < l.length
    · have hlt' : (k : Int) < (l.length : Int) := by omega
      by_cases hn6 : n = 6001
      · have HRES : Hid (szT m l = n) := Lib.hid (by unfold szT at hn ⊢; omega)
        have hnx : ((n : Int) ≤ 6000) = False := by simp; omega
        have HBE := Lib.hid hbe
        clear hr hn hbe hpre hn6
        go_wp2_with fail
        exact bodyPost_ret (v := .int .i64 (n : Int)) (by simp [results, Tryz.results46, go_sem]) rfl ⟨by rw [HRES.out], HBE.out⟩
      have hn1 : n = (tokM m (l.take k)).length ∧ n ≤ 6000 := by unfold szT at hn; omega
      have hnx : (n : Int) ≤ 6000 := by omega
      obtain ⟨x, hx⟩ : ∃ x, l[k]? = some x := ⟨_, List.getElem?_eq_getElem hlt⟩
      have htk := tokM_take (m := m) hx
      obtain ⟨g, o, rfl, hp, hg, hrw⟩ := HR.out (by rintro rfl; simp at hlt)
      obtain ⟨kv, hcell, ka, kc, rfl, hkr⟩ := (hrw.get hx).parts
      have hcell' : ∀ j u, (fgV x (.slice ka x.kids.length kc))[j]? = some u → wr.cell? ⟨g, o + k * 7 + j, none⟩ = some u := fun j u hu => (hbe.cell (p := ⟨g, o + k * 7 + j, none⟩) hg).trans (hcell j u hu)
      have e5 : wr.cell? ⟨g, o + k * 7 + 5, none⟩ = some (.string x.opn) := hcell' 5 _ rfl
      have e6 : wr.cell? ⟨g, o + k * 7 + 6, none⟩ = some (.slice ka x.kids.length kc) := hcell' 6 _ rfl
      have HKV : Hid (FVal W P (.slice ka x.kids.length kc) x.kids) := Lib.hid ⟨_, _, rfl, hkr⟩
      have HLX := Lib.hid (HLE.out.get hx)
      have HBE := Lib.hid hbe
      by_cases ho : x.opn = sNo
      · rw [if_pos ho] at htk
        have HN : Hid (n + 1 = szT m (l.take (k + 1))) := Lib.hid (by unfold szT; omega)
        have w6' : IntKind.i64.wrap ((n : Int) + 1) = (n : Int) + 1 := IntWalk.i64_in _ (by omega)
        obtain ⟨o1, o2⟩ := lit_eq [] ho
        clear hr hcell hcell' hbe hrw hx hkr ho htk hn hn1 hpre hn6
        go_wp2_with fail
        exact ⟨⟨k + 1, n + 1, by simp, by simp, Lib.hid ⟨by omega, HN.out, HBE.out⟩⟩, by simp only [intOf]; omega⟩
      rw [if_neg ho] at htk
      obtain ⟨o1, o2⟩ := lit_ne [] ho
      by_cases hm0 : m = 0
      · subst hm0
        rw [if_pos rfl] at htk
        have HN : Hid (n = szT 0 (l.take (k + 1))) := Lib.hid (by unfold szT; omega)
        clear hr hcell hcell' hbe hrw hx hkr ho htk hn hn1 hpre hn6
        go_wp2_with fail
        exact ⟨⟨k + 1, n, rfl, by simp, Lib.hid ⟨by omega, HN.out, HBE.out⟩⟩, by simp only [intOf]; omega⟩
      · rw [if_neg hm0] at htk
        have hpos : (0 : Int) < (m : Int) := by omega
        obtain ⟨f, hf⟩ : ∃ f, f = szT (m - 1) x.kids := ⟨_, rfl⟩
        have hf6 : f ≤ 6001 := by rw [hf]; unfold szT; omega
        have HCK : Hid (∀ w', Below W.heap.size W w' → Calls Tryz.prog 46 #[.slice ka x.kids.length kc, .int .i64 6000, .int .i64 ((m : Int) - 1)] w' (DepPost f w')) := Lib.hid (fun w' hb' => by rw [hf]; exact HCC.out (by omega) x.kids _ w' (HKV.out.below hb') HLX.out.1 HLX.out.2)
        have w5' : IntKind.i64.wrap ((n : Int) + 2) = (n : Int) + 2 := IntWalk.i64_in _ (by omega)
        have w7' : IntKind.i64.wrap ((n : Int) + 2 + (f : Int)) = (n : Int) + 2 + (f : Int) := IntWalk.i64_in _ (by omega)
        have HN : Hid (min 6001 (n + 2 + f) = szT m (l.take (k + 1))) := Lib.hid (by rw [hf]; unfold szT; omega)
        clear hr hcell hcell' hbe hrw hx hkr ho htk hn hn1 hpre hn6 hf hf6
        go_wp2_with fail
        refine (HCK.out _ HBE.out).mono ?_
        rintro e w5 ⟨rfl, hb5⟩
        have HB5 := Lib.hid (HBE.out.trans (hb5.mono HBE.out.size))
        clear hb5
        go_wp2_with fail
        exact ⟨⟨k + 1, min 6001 (n + 2 + f), congrArg (Value.int .i64) (by omega), by simp, Lib.hid ⟨by omega, HN.out, HB5.out⟩⟩, by simp only [intOf]; omega⟩
    · have hlt' : ((k : Int) < (l.length : Int)) = False := by simp; omega
      have HRES : Hid (szT m l = n) := Lib.hid (by rw [hn, List.take_of_length_le (by omega)])
      have HBE := Lib.hid hbe
      clear hr hn hbe hpre
      go_wp2_with fail
      exact bodyPost_ret (v := .int .i64 (n : Int)) (by simp [results, Tryz.results46, go_sem]) rfl ⟨by rw [HRES.out], HBE.out⟩
theorem rsize_any (P : Nat → Prop) : ∀ (m : Nat), m ≤ 100 → ∀ (l : List Fg) (v : Value) (W : World), FVal W P v l → l.length ≤ 140737488351232 → FgsLe 140737488351232 l → Calls Tryz.prog 46 #[v, .int .i64 6000, .int .i64 (m : Int)] W (DepPost (szT m l) W)
  | 0, hm, l, v, W, hv, h1, h2 => rsize_run 0 hm P l v W hv h1 h2 (fun h => absurd h (by omega))
  | m + 1, hm, l, v, W, hv, h1, h2 => rsize_run (m + 1) hm P l v W hv h1 h2 fun _ ks kv w hk a b => by
    have e : (((m + 1 : Nat) : Int) - 1) = (m : Int) := by omega
    rw [e]
    exact rsize_any P m (by omega) ks kv w hk a b
theorem RSize_any (P : Nat → Prop) (l : List Fg) (v : Value) (W : World) (hv : FVal W P v l) (h1 : l.length ≤ 140737488351232) (h2 : FgsLe 140737488351232 l) : Calls Tryz.prog 16 #[v] W (DepPost (sizeM l) W) := by
  have H := Lib.hid (rsize_any P 100 (Nat.le_refl _) l v W hv h1 h2)
  have e : szT 100 l = sizeM l := by unfold szT sizeM; omega
  rw [e] at H
  clear hv h1 h2 e
  go_enter Tryz.func16, Tryz.ntmps16
  go_wp2_with fail
  refine (H.out).mono ?_
  rintro e w5 ⟨rfl, hb5⟩
  go_wp2_with fail
  exact bodyPost_ret (v := .int .i64 (sizeM l : Nat)) (by simp [results, Tryz.results16, go_sem]) rfl ⟨rfl, hb5⟩
end

section
open Go.RowKit

theorem end_drop {l : List Fg} {p : List Int} {k : Nat} {i : Int} (hi : p[k]? = some i) : endP l (p.drop k) = match getI l i with
    | none => none
    | some x => if p.drop (k + 1) = [] then some x else endP x.kids (p.drop (k + 1)) := by
  obtain ⟨hk, rfl⟩ := List.getElem?_eq_some_iff.1 hi
  rw [List.drop_eq_getElem_cons hk, endP]
  rfl
def TLoop (P : Nat → Prop) (l : List Fg) (p : List Int) (W : World) (k : Nat) (lv : Value) (wr : World) : Prop :=
  k ≤ p.length ∧ Below W.heap.size W wr ∧ ∃ lk, FVal W P lv lk ∧ (walkP l p = none ↔ walkP lk (p.drop k) = none) ∧ (k < p.length → endP l p = endP lk (p.drop k)) ∧ wr.heap[W.heap.size]? = some (.cells #[.int .i64 0, .int .i64 0, .string ⟨#[]⟩, .int .i64 0, .int .i64 0, .string ⟨#[]⟩, .slice none 0 0] 52) ∧
    ∃ x0 x1 x2 x3 x4 x5 x6 : Value, wr.heap[W.heap.size + 1]? = some (.cells #[x0, x1, x2, x3, x4, x5, x6] 52) ∧ (0 < k → ∃ x, #[x0, x1, x2, x3, x4, x5, x6] = (fgV x lv).toArray ∧ lk = x.kids ∧ (k = p.length → endP l p = some x))
set_option maxRecDepth 100000 in
set_option maxHeartbeats 16000000 in
theorem RAt_any (P : Nat → Prop) (l : List Fg) (v0 : Value) (v : Value) (p : List Int) (W : World) (hv : FVal W P v0 l) (hp : IntRow W v p) (hpl : p.length ≤ 140737488351232) : Calls Tryz.prog 34 #[v0, v] W (AtPost l p W) := by
  obtain ⟨pb, pc, rfl, hrow⟩ := hp
  by_cases hne : p = []
  · subst hne
    have hA : alongM l [] = none := by unfold alongM; rw [if_pos rfl]
    have HA := Lib.hid hA
    obtain ⟨a0, c0, rfl, _⟩ := hv
    have hx : ((W.alloc (.cells #[.int .i64 0, .int .i64 0, .string ⟨#[]⟩, .int .i64 0, .int .i64 0, .string ⟨#[]⟩, .slice none 0 0] 52)).alloc (.cells #[.int .i64 0, .int .i64 0, .string ⟨#[]⟩, .int .i64 0, .int .i64 0, .string ⟨#[]⟩, .slice none 0 0] 52)).heap[W.heap.size]? = some (.cells #[.int .i64 0, .int .i64 0, .string ⟨#[]⟩, .int .i64 0, .int .i64 0, .string ⟨#[]⟩, .slice none 0 0] 52) := (Below.heap_alloc _ _ _ (by simp)).trans (heap_alloc_new W _)
    have HE := Lib.hid hx
    clear hA hx hrow hpl
    go_enter Tryz.func34, Tryz.ntmps34
    go_wp2_with fail
    obtain ⟨m0, m1, m2, m3, m4, m5, m6, _⟩ := seven_cells HE.out
    refine bodyPost_ret (v := .tuple #[.agg #[.int .i64 0, .int .i64 0, .string ⟨#[]⟩, .int .i64 0, .int .i64 0, .string ⟨#[]⟩, .slice none 0 0], .int .i64 3]) ?_ rfl ⟨((Below.refl _ W).alloc (Nat.le_refl _) _).alloc (by simp) _, .inl ⟨HA.out, rfl⟩⟩
    simp [results, Tryz.results34, go_sem]
  have hz : ((p.length : Int) == 0) = false := by rw [beq_eq_false_iff_ne]; have : p.length ≠ 0 := fun h => hne (List.length_eq_zero_iff.1 h); omega
  have hppos : 0 < p.length := Nat.pos_of_ne_zero fun h => hne (List.length_eq_zero_iff.1 h)
  obtain ⟨gp, op, rfl, hgp, hps⟩ := hrow hne
  have HPS := Lib.hid hps
  have HV := Lib.hid hv
  have HNE := Lib.hid hne
  clear hrow hps hne
  obtain ⟨a0, c0, rfl, _⟩ := hv
  go_enter Tryz.func34, Tryz.ntmps34
  go_wp2_with fail
  go_loopw [0, 7] (fun lv iv wr => ∃ k : Nat, iv = .int .i64 (k : Int) ∧ Hid (TLoop P l p W k lv wr)) (fun _ iv _ => p.length - (intOf iv).toNat)
  case atStart => exact ⟨0, rfl, Lib.hid ⟨Nat.zero_le _, ((Below.refl _ W).alloc (Nat.le_refl _) _).alloc (by simp) _, l, HV.out, by rw [List.drop_zero], fun _ => by rw [List.drop_zero], (Below.heap_alloc _ _ _ (by simp)).trans (heap_alloc_new W _), _, _, _, _, _, _, _, by have := heap_alloc_new (W.alloc (.cells #[.int .i64 0, .int .i64 0, .string ⟨#[]⟩, .int .i64 0, .int .i64 0, .string ⟨#[]⟩, .slice none 0 0] 52)) (.cells #[.int .i64 0, .int .i64 0, .string ⟨#[]⟩, .int .i64 0, .int .i64 0, .string ⟨#[]⟩, .slice none 0 0] 52); rwa [show (W.alloc (.cells #[.int .i64 0, .int .i64 0, .string ⟨#[]⟩, .int .i64 0, .int .i64 0, .string ⟨#[]⟩, .slice none 0 0] 52)).heap.size = W.heap.size + 1 by simp] at this, fun h => absurd h (Nat.lt_irrefl _)⟩⟩
  case round =>
    obtain ⟨k, rfl, hr⟩ := hrel
    obtain ⟨hk, hbe, lk, hlv, hwk, hen, hb0, x0, x1, x2, x3, x4, x5, x6, hb1, hfx⟩ := hr.out
    have w3' : IntKind.i64.wrap ((k : Int) + 1) = (k : Int) + 1 := IntWalk.i64_in _ (by omega)
    by_cases hlt : k < p.length
    · obtain ⟨i, hi⟩ : ∃ i, p[k]? = some i := ⟨_, List.getElem?_eq_getElem hlt⟩
      have e0 : wr.cell? ⟨gp, op + k, none⟩ = some (.int .i64 i) := (hbe.cell (p := ⟨gp, op + k, none⟩) hgp).trans (HPS.out k i hi)
      have hlt' : (k : Int) < (p.length : Int) := by omega
      rw [walk_at hi] at hwk
      have hen' := hen hlt
      rw [end_drop hi] at hen'
      obtain ⟨la, lc, rfl, hlr⟩ := hlv
      cases hgi : getI lk i with
      | none =>
        rw [hgi] at hwk
        have HN : Hid (alongM l p = none) := Lib.hid (by unfold alongM; rw [if_neg HNE.out]; exact hwk.2 rfl)
        have HE := Lib.hid (seven_end hb0 (.int .i64 0) (.int .i64 0) (.string ⟨#[]⟩) (.int .i64 0) (.int .i64 0) (.string ⟨#[]⟩) (.slice none 0 0))
        have HK := Lib.hid (seven_keep wr W.heap.size (.int .i64 0) (.int .i64 0) (.string ⟨#[]⟩) (.int .i64 0) (.int .i64 0) (.string ⟨#[]⟩) (.slice none 0 0))
        obtain ⟨d0, d1, d2, d3, d4, d5, d6, df⟩ := seven_cells hb0
        have HB := Lib.hid hbe
        have h2 := getI_none hgi
        by_cases hi0 : i < 0
        · clear hr hbe hwk hen hen' hb0 hb1 hfx hlr hi hgi h2
          go_wp2_with fail
          obtain ⟨m0, m1, m2, m3, m4, m5, m6, _⟩ := seven_cells HE.out
          refine bodyPost_ret (v := .tuple #[.agg #[.int .i64 0, .int .i64 0, .string ⟨#[]⟩, .int .i64 0, .int .i64 0, .string ⟨#[]⟩, .slice none 0 0], .int .i64 3]) ?_ rfl ⟨HB.out.trans (HK.out.below (fun k e => Nat.le_of_eq e.symm) HB.out.size), .inl ⟨HN.out, rfl⟩⟩
          simp [results, Tryz.results34, go_sem, m0, m1, m2, m3, m4, m5, m6]
        · have hi1 : (lk.length : Int) ≤ i := by omega
          have hi0' : (i < 0) = False := by simp; omega
          clear hr hbe hwk hen hen' hb0 hb1 hfx hlr hi hgi h2
          go_wp2_with fail
          obtain ⟨m0, m1, m2, m3, m4, m5, m6, _⟩ := seven_cells HE.out
          refine bodyPost_ret (v := .tuple #[.agg #[.int .i64 0, .int .i64 0, .string ⟨#[]⟩, .int .i64 0, .int .i64 0, .string ⟨#[]⟩, .slice none 0 0], .int .i64 3]) ?_ rfl ⟨HB.out.trans (HK.out.below (fun k e => Nat.le_of_eq e.symm) HB.out.size), .inl ⟨HN.out, rfl⟩⟩
          simp [results, Tryz.results34, go_sem, m0, m1, m2, m3, m4, m5, m6]
      | some x =>
        rw [hgi] at hwk hen'
        simp only at hen'
        obtain ⟨q, rfl, hq, hqx⟩ := getI_some hgi
        obtain ⟨g', o', rfl, hPg, hg', hrw'⟩ := hlr (by rintro rfl; simp at hq)
        obtain ⟨kv', hcell', ka', kc', rfl, hkr'⟩ := (hrw'.get hqx).parts
        have hcw : ∀ j u, (fgV x (.slice ka' x.kids.length kc'))[j]? = some u → wr.cell? ⟨g', o' + q * 7 + j, none⟩ = some u := fun j u hu => (hbe.cell (p := ⟨g', o' + q * 7 + j, none⟩) hg').trans (hcell' j u hu)
        have c0 : wr.cell? ⟨g', o' + q * 7, none⟩ = some (.int .i64 x.tok.1) := hcw 0 _ rfl
        have c1 : wr.cell? ⟨g', o' + q * 7 + 1, none⟩ = some (.int .i64 x.tok.2.1) := hcw 1 _ rfl
        have c2 : wr.cell? ⟨g', o' + q * 7 + 2, none⟩ = some (.string x.tok.2.2.1) := hcw 2 _ rfl
        have c3 : wr.cell? ⟨g', o' + q * 7 + 3, none⟩ = some (.int .i64 x.tok.2.2.2.1) := hcw 3 _ rfl
        have cc4 : wr.cell? ⟨g', o' + q * 7 + 4, none⟩ = some (.int .i64 x.tok.2.2.2.2) := hcw 4 _ rfl
        have c5 : wr.cell? ⟨g', o' + q * 7 + 5, none⟩ = some (.string x.opn) := hcw 5 _ rfl
        have c6 : wr.cell? ⟨g', o' + q * 7 + 6, none⟩ = some (.slice ka' x.kids.length kc') := hcw 6 _ rfl
        have hq0 : ((q : Int) < 0) = False := by simp
        have hq1 : ((lk.length : Int) ≤ (q : Int)) = False := by simp; omega
        have hq2 : (q : Int) < (lk.length : Int) := by omega
        obtain ⟨d0, d1, d2, d3, d4, d5, d6, df⟩ := seven_cells hb1
        have HE := seven_end hb1 (.int .i64 x.tok.1) (.int .i64 x.tok.2.1) (.string x.tok.2.2.1) (.int .i64 x.tok.2.2.2.1) (.int .i64 x.tok.2.2.2.2) (.string x.opn) (.slice ka' x.kids.length kc')
        obtain ⟨_, _, _, _, _, _, m6, _⟩ := seven_cells HE
        have HEE := Lib.hid HE
        have HK := Lib.hid (seven_keep wr (W.heap.size + 1) (.int .i64 x.tok.1) (.int .i64 x.tok.2.1) (.string x.tok.2.2.1) (.int .i64 x.tok.2.2.2.1) (.int .i64 x.tok.2.2.2.2) (.string x.opn) (.slice ka' x.kids.length kc'))
        have HB := Lib.hid hbe
        have HB0 := Lib.hid hb0
        have HKF : Hid (FVal W P (.slice ka' x.kids.length kc') x.kids) := Lib.hid ⟨_, _, rfl, hkr'⟩
        have HW : Hid (walkP l p = none ↔ walkP x.kids (p.drop (k + 1)) = none) := Lib.hid (by rw [hwk]; simp only; cases walkP x.kids (p.drop (k + 1)) <;> simp)
        have HEN : Hid (k + 1 < p.length → endP l p = endP x.kids (p.drop (k + 1))) := Lib.hid (fun h => by rw [hen', if_neg (fun e => by have := congrArg List.length e; rw [List.length_drop] at this; simp at this; omega)])
        have HEX : Hid (k + 1 = p.length → endP l p = some x) := Lib.hid (fun h => by rw [hen', if_pos (List.drop_eq_nil_of_le (by omega))])
        clear hr hbe hwk hen hen' hb0 hb1 hfx hlr hi hgi hcw hcell' hkr' hrw' hqx HE
        go_wp2_with fail
        exact ⟨⟨k + 1, by simp, Lib.hid ⟨by omega, HB.out.trans (HK.out.below (fun k e => by omega) HB.out.size), x.kids, HKF.out, HW.out, HEN.out, (HK.out.block _ (Array.getElem?_eq_some_iff.1 HB0.out).1 (by omega)).trans HB0.out, _, _, _, _, _, _, _, HEE.out, fun _ => ⟨x, rfl, rfl, HEX.out⟩⟩⟩, by simp only [intOf]; omega⟩
    · have hlt' : ((k : Int) < (p.length : Int)) = False := by simp; omega
      have hkl : k = p.length := by omega
      subst hkl
      obtain ⟨x, hxv, hlx, hend⟩ := hfx hppos
      obtain ⟨ka, kc, rfl, hkr⟩ := hlv
      have hx7 := congrArg Array.toList hxv
      simp only [fgV, List.cons.injEq, and_true] at hx7
      obtain ⟨rfl, rfl, rfl, rfl, rfl, rfl, rfl⟩ := hx7
      have hY : (∃ ls, alongM l p = some ls) := by
        unfold alongM
        rw [if_neg HNE.out]
        cases hw : walkP l p with
        | some ls => exact ⟨ls, rfl⟩
        | none => rw [List.drop_length] at hwk; have := hwk.1 hw; unfold walkP at this; cases this
      have HY := Lib.hid hY
      have HX := Lib.hid (hend rfl)
      have HB := Lib.hid hbe
      have HKF : Hid (FVal W P (.slice ka lk.length kc) x.kids) := Lib.hid (by rw [← hlx]; exact ⟨_, _, rfl, hkr⟩)
      obtain ⟨d0, d1, d2, d3, d4, d5, d6, _⟩ := seven_cells hb1
      obtain ⟨g0, g1, g2, g3, g4, g5, g6, gf⟩ := seven_cells hb0
      have HE := Lib.hid (seven_end hb0 (.int .i64 x.tok.1) (.int .i64 x.tok.2.1) (.string x.tok.2.2.1) (.int .i64 x.tok.2.2.2.1) (.int .i64 x.tok.2.2.2.2) (.string x.opn) (.slice ka lk.length kc))
      have HK := Lib.hid (seven_keep wr W.heap.size (.int .i64 x.tok.1) (.int .i64 x.tok.2.1) (.string x.tok.2.2.1) (.int .i64 x.tok.2.2.2.1) (.int .i64 x.tok.2.2.2.2) (.string x.opn) (.slice ka lk.length kc))
      have HV7 : Hid (FVal (((((((wr.setCell ⟨W.heap.size, 0, none⟩ (.int .i64 x.tok.1)).setCell ⟨W.heap.size, 1, none⟩ (.int .i64 x.tok.2.1)).setCell ⟨W.heap.size, 2, none⟩ (.string x.tok.2.2.1)).setCell ⟨W.heap.size, 3, none⟩ (.int .i64 x.tok.2.2.2.1)).setCell ⟨W.heap.size, 4, none⟩ (.int .i64 x.tok.2.2.2.2)).setCell ⟨W.heap.size, 5, none⟩ (.string x.opn)).setCell ⟨W.heap.size, 6, none⟩ (.slice ka lk.length kc)) (fun _ => True) (.slice ka lk.length kc) x.kids) := Lib.hid (HKF.out.keep (fun b _ z => ⟨trivial, (HK.out.block b (by have := HB.out.size; omega) (by omega)).trans (HB.out.block b z)⟩) (by have := HK.out.size; have := HB.out.size; omega))
      clear hr hbe hwk hen hb0 hb1 hfx hlx hend hxv hkr hY
      go_wp2_with fail
      obtain ⟨m0, m1, m2, m3, m4, m5, m6, _⟩ := seven_cells HE.out
      refine bodyPost_ret (v := .tuple #[.agg #[.int .i64 x.tok.1, .int .i64 x.tok.2.1, .string x.tok.2.2.1, .int .i64 x.tok.2.2.2.1, .int .i64 x.tok.2.2.2.2, .string x.opn, .slice ka lk.length kc], .int .i64 0]) ?_ rfl ⟨HB.out.trans (HK.out.below (fun k e => Nat.le_of_eq e.symm) HB.out.size), .inr ⟨HY.out, x, .slice ka lk.length kc, HX.out, rfl, HV7.out⟩⟩
      simp [results, Tryz.results34, go_sem, m0, m1, m2, m3, m4, m5, m6]
end

end Go.Proofs.YtafncodigpjkaaaGreatDoor
