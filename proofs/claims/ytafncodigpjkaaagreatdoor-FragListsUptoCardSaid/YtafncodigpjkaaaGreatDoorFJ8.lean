/-
  The reference's depth and size.
-/
import Derived.Test.YtafncodigpjkaaaGreatDoorFGB
namespace Go.Proofs.YtafncodigpjkaaaGreatDoor
section
open Go.RowKit

def maxL (F : List Fg → Nat) : List Fg → Nat → Nat
  | [], d => d
  | x :: r, d => maxL F r (if x.opn = sNo then d else max d (1 + F x.kids))
theorem maxL_top {F : List Fg → Nat} {M : Nat} (hF : ∀ ks, F ks + 1 ≤ M) : ∀ (l : List Fg), maxL F l M = M
  | [] => rfl
  | x :: r => by
    unfold maxL
    have := hF x.kids
    have e : (if x.opn = sNo then M else max M (1 + F x.kids)) = M := by split <;> omega
    rw [e, maxL_top hF r]
theorem depL_max {F : List Fg → Nat} {M : Nat} (hF : ∀ ks, F ks + 1 ≤ M) : ∀ (l : List Fg) (d : Nat), depL F M l d = maxL F l d
  | [], d => rfl
  | x :: r, d => by
    unfold depL
    split
    · rename_i h
      subst h
      exact (maxL_top hF (x :: r)).symm
    · rw [depL_max hF r]
      rfl
def rF : Nat → List Fg → Nat
  | 0 => fun _ => 0
  | m + 1 => fun l => maxL (rF m) l 0
theorem rF_dep : ∀ (m : Nat), rF m = depM m
  | 0 => by
    funext l
    have h := depM_le 0 l
    show 0 = depM 0 l
    omega
  | m + 1 => by
    funext l
    show maxL (rF m) l 0 = depL (depM m) (m + 1) l 0
    rw [rF_dep m, depL_max (fun ks => by have := depM_le m ks; omega)]
theorem maxL_at {F : List Fg → Nat} {d k : Nat} {l : List Fg} {x : Fg} (h : l[k]? = some x) : maxL F (l.drop k) d = maxL F (l.drop (k + 1)) (if x.opn = sNo then d else max d (1 + F x.kids)) := by
  obtain ⟨hk, rfl⟩ := List.getElem?_eq_some_iff.1 h
  rw [List.drop_eq_getElem_cons hk]
  rfl
set_option maxRecDepth 100000 in
set_option maxHeartbeats 8000000 in
theorem rdepth_run (F : List Fg → Nat) (m : Nat) (hm : m ≤ 100) (hF : ∀ ks, F ks ≤ m) (hz : m = 0 → ∀ ks, F ks = 0) (P : Nat → Prop) (l : List Fg) (v : Value) (W : World) (hv : FVal W P v l) (hl : l.length ≤ 140737488351232) (hle : FgsLe 140737488351232 l)
    (HC : 0 < m → ∀ (ks : List Fg) (kv : Value) (w : World), FVal w P kv ks → ks.length ≤ 140737488351232 → FgsLe 140737488351232 ks → Calls Tryz.prog 48 #[kv, .int .i64 ((m : Int) - 1)] w (DepPost (F ks) w)) :
    Calls Tryz.prog 48 #[v, .int .i64 (m : Int)] W (DepPost (maxL F l 0) W) := by
  obtain ⟨b, c, rfl, hrow⟩ := hv
  have w4' : IntKind.i64.wrap ((m : Int) - 1) = (m : Int) - 1 := IntWalk.i64_in _ (by omega)
  have HCC := Lib.hid HC
  have HR := Lib.hid hrow
  have HLE := Lib.hid hle
  have HF := Lib.hid hF
  have HZ := Lib.hid hz
  clear HC hrow hle hF hz
  go_enter Tryz.func48, Tryz.ntmps48
  go_wp2_with fail
  go_loopw [5, 6] (fun dv iv wr => ∃ k d : Nat, dv = .int .i64 (d : Int) ∧ iv = .int .i64 (k : Int) ∧ Hid (k ≤ l.length ∧ d ≤ m + 1 ∧ maxL F (l.drop k) d = maxL F l 0 ∧ Below W.heap.size W wr)) (fun _ iv _ => l.length - (intOf iv).toNat)
  case atStart => exact ⟨0, 0, rfl, rfl, Lib.hid ⟨Nat.zero_le _, Nat.zero_le _, by rw [List.drop_zero], Below.refl _ _⟩⟩
  case round =>
    obtain ⟨k, d, rfl, rfl, hr⟩ := hrel
    obtain ⟨hk, hd, hres, hbe⟩ := hr.out
    have w3' : IntKind.i64.wrap ((k : Int) + 1) = (k : Int) + 1 := IntWalk.i64_in _ (by omega)
    by_cases hlt : k < l.length
    · obtain ⟨x, hx⟩ : ∃ x, l[k]? = some x := ⟨_, List.getElem?_eq_getElem hlt⟩
      obtain ⟨g, o, rfl, hp, hg, hrw⟩ := HR.out (by rintro rfl; simp at hlt)
      obtain ⟨kv, hcell, ka, kc, rfl, hkr⟩ := (hrw.get hx).parts
      rw [maxL_at hx] at hres
      have hcell' : ∀ j u, (fgV x (.slice ka x.kids.length kc))[j]? = some u → wr.cell? ⟨g, o + k * 7 + j, none⟩ = some u := fun j u hu => (hbe.cell (p := ⟨g, o + k * 7 + j, none⟩) hg).trans (hcell j u hu)
      have e5 : wr.cell? ⟨g, o + k * 7 + 5, none⟩ = some (.string x.opn) := hcell' 5 _ rfl
      have e6 : wr.cell? ⟨g, o + k * 7 + 6, none⟩ = some (.slice ka x.kids.length kc) := hcell' 6 _ rfl
      have hlt' : (k : Int) < (l.length : Int) := by omega
      have HKV : Hid (FVal W P (.slice ka x.kids.length kc) x.kids) := Lib.hid ⟨_, _, rfl, hkr⟩
      have HLX := Lib.hid (HLE.out.get hx)
      have HBE := Lib.hid hbe
      by_cases ho : x.opn = sNo
      · rw [if_pos ho] at hres
        have HRES := Lib.hid hres
        obtain ⟨o1, o2⟩ := lit_eq [] ho
        clear hr hcell hcell' hbe hrw hx hkr hres ho
        go_wp2_with fail
        exact ⟨⟨k + 1, d, rfl, by simp, Lib.hid ⟨by omega, hd, HRES.out, HBE.out⟩⟩, by simp only [intOf]; omega⟩
      rw [if_neg ho] at hres
      obtain ⟨o1, o2⟩ := lit_ne [] ho
      have hFk := HF.out x.kids
      by_cases hm0 : m = 0
      · subst hm0
        have hF0 := HZ.out rfl x.kids
        have HRES : Hid (maxL F (l.drop (k + 1)) (max d 1) = maxL F l 0) := Lib.hid (by rw [← hres, hF0])
        have HD : Hid (max d 1 ≤ 0 + 1) := Lib.hid (by omega)
        clear hr hcell hcell' hbe hrw hx hkr hres ho hFk hF0
        go_wp2_with fail
        exact ⟨⟨k + 1, max d 1, by simp; omega, by simp, Lib.hid ⟨by omega, HD.out, HRES.out, HBE.out⟩⟩, by simp only [intOf]; omega⟩
      · have hpos : (0 : Int) < (m : Int) := by omega
        have hne0 := (ne_int (show ¬ (m : Int) = 0 by omega)).1
        obtain ⟨f, hf⟩ : ∃ f, f = F x.kids := ⟨_, rfl⟩
        have HCK : Hid (∀ w', Below W.heap.size W w' → Calls Tryz.prog 48 #[.slice ka x.kids.length kc, .int .i64 ((m : Int) - 1)] w' (DepPost f w')) := Lib.hid (fun w' hb' => by rw [hf]; exact HCC.out (by omega) x.kids _ w' (HKV.out.below hb') HLX.out.1 HLX.out.2)
        have w5' : IntKind.i64.wrap (1 + (f : Int)) = 1 + (f : Int) := IntWalk.i64_in _ (by omega)
        have HRES : Hid (maxL F (l.drop (k + 1)) (max d (1 + f)) = maxL F l 0) := Lib.hid (by rw [← hres, hf])
        have HD : Hid (max d (1 + f) ≤ m + 1) := Lib.hid (by omega)
        clear hr hcell hcell' hbe hrw hx hkr hres ho hFk hf
        go_wp2_with fail
        refine (HCK.out _ HBE.out).mono ?_
        rintro e w5 ⟨rfl, hb5⟩
        have HB5 := Lib.hid (HBE.out.trans (hb5.mono HBE.out.size))
        have e5' : w5.cell? ⟨g, o + k * 7 + 5, none⟩ = some (.string x.opn) := (hb5.cell (p := ⟨g, o + k * 7 + 5, none⟩) (by have := HBE.out.size; show g < _; omega)).trans e5
        clear hb5
        go_wp2_with fail
        exact ⟨⟨k + 1, max d (1 + f), congrArg (Value.int .i64) (by omega), by simp, Lib.hid ⟨by omega, HD.out, HRES.out, HB5.out⟩⟩, by simp only [intOf]; omega⟩
    · have hlt' : ((k : Int) < (l.length : Int)) = False := by simp; omega
      have HRES : Hid (maxL F l 0 = d) := Lib.hid (by rw [← hres, List.drop_eq_nil_of_le (by omega)]; rfl)
      have HBE := Lib.hid hbe
      clear hr hres hbe
      go_wp2_with fail
      exact bodyPost_ret (v := .int .i64 (d : Int)) (by simp [results, Tryz.results48, go_sem]) rfl ⟨by rw [HRES.out], HBE.out⟩
theorem rdepth_any (P : Nat → Prop) : ∀ (m : Nat), m ≤ 100 → ∀ (l : List Fg) (v : Value) (W : World), FVal W P v l → l.length ≤ 140737488351232 → FgsLe 140737488351232 l → Calls Tryz.prog 48 #[v, .int .i64 (m : Int)] W (DepPost (rF (m + 1) l) W)
  | 0, hm, l, v, W, hv, h1, h2 => rdepth_run (rF 0) 0 hm (fun _ => Nat.le_refl _) (fun _ _ => rfl) P l v W hv h1 h2 (fun h => absurd h (by omega))
  | m + 1, hm, l, v, W, hv, h1, h2 => rdepth_run (rF (m + 1)) (m + 1) hm (fun ks => by rw [rF_dep]; exact depM_le _ _) (fun h => absurd h (by omega)) P l v W hv h1 h2 fun _ ks kv w hk a b => by
    have e : (((m + 1 : Nat) : Int) - 1) = (m : Int) := by omega
    rw [e]
    exact rdepth_any P m (by omega) ks kv w hk a b
theorem RDepth_any (P : Nat → Prop) (l : List Fg) (v : Value) (W : World) (hv : FVal W P v l) (h1 : l.length ≤ 140737488351232) (h2 : FgsLe 140737488351232 l) : Calls Tryz.prog 18 #[v] W (DepPost (depM 101 l) W) := by
  have H := Lib.hid (rdepth_any P 100 (Nat.le_refl _) l v W hv h1 h2)
  rw [rF_dep] at H
  clear hv h1 h2
  go_enter Tryz.func18, Tryz.ntmps18
  go_wp2_with fail
  refine (H.out).mono ?_
  rintro e w5 ⟨rfl, hb5⟩
  go_wp2_with fail
  exact bodyPost_ret (v := .int .i64 (depM 101 l : Nat)) (by simp [results, Tryz.results18, go_sem]) rfl ⟨rfl, hb5⟩
end

end Go.Proofs.YtafncodigpjkaaaGreatDoor
