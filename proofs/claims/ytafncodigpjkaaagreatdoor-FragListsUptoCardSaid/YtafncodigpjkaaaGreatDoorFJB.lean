/-
  The reference's Join.
  Equality of fragments but for places and marks, by the program; Same, by both.
-/
import Derived.Test.YtafncodigpjkaaaGreatDoorFJ2
import Derived.Test.YtafncodigpjkaaaGreatDoorFJ9
import Derived.Test.YtafncodigpjkaaaGreatDoorFGJ
import Derived.Test.YtafncodigpjkaaaGreatDoorFJ8
namespace Go.Proofs.YtafncodigpjkaaaGreatDoor
section
open Go.RowKit

theorem JQ.form {Q : Nat → Prop} {w : World} {base : Nat} {v : Value} {l : List Fg} (h : JQ Q w base v l) : ∃ b c, v = .slice b l.length c ∧ l.length ≤ c := by
  obtain ⟨kvs, h1, h2, h3⟩ := h
  rcases h2.2 with ⟨rfl, hn⟩ | ⟨g, cap, cur, rfl, hb, hg, hc, _⟩
  · exact ⟨none, 0, by rw [hn], by omega⟩
  · exact ⟨_, cap, rfl, hc⟩
theorem JQ.nil {Q : Nat → Prop} (w : World) (base : Nat) : JQ Q w base (.slice none 0 0) [] := FOwn.nil _ _ _
theorem low_ne2 {S base b n c : Nat} {a : Option Addr} (h : b < S) (hg : S ≤ base) (hl : ∀ g, (Value.slice a n c).ownBlock = some g → base ≤ g) : (Value.slice a n c).ownBlock ≠ some b := fun e => by
  have := hl b e
  omega
theorem JQ.own_lt2 {Q : Nat → Prop} {w : World} {base : Nat} {v : Value} {l : List Fg} (h : JQ Q w base v l) : ∀ g, v.ownBlock = some g → g < w.heap.size := fun g e => by
  obtain ⟨_, _, h2, _⟩ := h
  exact (h2.lt g e).2
theorem AppD.low2 {Q : Nat → Prop} {base n jc m H : Nat} {jb b' : Option Addr} {c' : Nat} {L p : List Fg} {w w' : World} (h : AppD Q base jb n jc L p m w H b' c' w') (hb : base ≤ H) : ∀ g, (Value.slice b' (n + m) c').ownBlock = some g → base ≤ g := fun g e => by
  rcases h.2.2.2.1 g e with h1 | h1
  · exact h.2.2.2.2 g h1
  · omega
theorem sign_row (wr : World) (s : ByteArray) {S : Nat} : FVal (wr.alloc (.cells #[.int .i64 5, .int .i64 0, .string s, .int .i64 0, .int .i64 0, .string ⟨#[]⟩, .slice none 0 0] 52)) (fun b => b < S ∨ b = wr.heap.size) (.slice (some ⟨wr.heap.size, 0, none⟩) 1 1) [signF s] := by
  have hb := heap_alloc_new wr (.cells #[.int .i64 5, .int .i64 0, .string s, .int .i64 0, .int .i64 0, .string ⟨#[]⟩, .slice none 0 0] 52)
  refine ⟨some ⟨wr.heap.size, 0, none⟩, 1, rfl, fun _ => ⟨wr.heap.size, 0, rfl, .inr rfl, by simp, FRow.of fun i y hy => ?_⟩⟩
  rcases i with _ | i
  · cases hy
    refine FElt.of (kv := .slice none 0 0) (fun j u hu => ?_) (FVal.nil _ _ _ _)
    rw [Nat.zero_mul, Nat.zero_add]
    first | (rw [Nat.zero_add, fcell_at hb]; simpa [fgV, signF, Fg.tok, Fg.opn, sNo] using hu) | (rw [fcell_at hb]; simpa [fgV, signF, Fg.tok, Fg.opn, sNo] using hu)
  · simp at hy
def RJoinPost (s : ByteArray) (ls : List (List Fg)) (W : World) (e : Ending) (w' : World) : Prop := ∃ v, e = .returned v ∧ JQ (fun _ => True) w' W.heap.size v (joinM s ls) ∧ Below W.heap.size W w'
set_option maxRecDepth 100000 in
set_option maxHeartbeats 8000000 in
theorem RJoin_any (S : Nat) (s : ByteArray) (ls : List (List Fg)) (v : Value) (W : World) (hS : S ≤ W.heap.size) (hv : PVal W (fun b => b < S) v ls) (hn : ls.length ≤ 140737488351232) (hj : (joinM s ls).length * 88 ≤ 140737488355328) :
    Calls Tryz.prog 32 #[v, .string s] W (RJoinPost s ls W) := by
  obtain ⟨b, c, rfl, hrow⟩ := hv
  have HR := Lib.hid hrow
  have HL := Lib.hid hj
  have HS := Lib.hid hS
  clear hrow hj hS
  go_enter Tryz.func32, Tryz.ntmps32
  go_wp2_with fail
  go_loopw [5, 6] (fun jv iv wr => ∃ k : Nat, iv = .int .i64 (k : Int) ∧ Hid (k ≤ ls.length ∧ Below W.heap.size W wr ∧ JQ (fun _ => True) wr W.heap.size jv (joinM s (ls.take k)))) (fun _ iv _ => ls.length - (intOf iv).toNat)
  case atStart => exact ⟨0, rfl, Lib.hid ⟨Nat.zero_le _, Below.refl _ _, JQ.nil _ _⟩⟩
  case round =>
    obtain ⟨k, rfl, hr⟩ := hrel
    obtain ⟨hk, hbe, hj⟩ := hr.out
    have w3' : IntKind.i64.wrap ((k : Int) + 1) = (k : Int) + 1 := IntWalk.i64_in _ (by omega)
    by_cases hlt : k < ls.length
    · obtain ⟨p, hp⟩ : ∃ p, ls[k]? = some p := ⟨_, List.getElem?_eq_getElem hlt⟩
      obtain ⟨g, o, rfl, hg, hcs⟩ := HR.out (by rintro rfl; simp at hlt)
      obtain ⟨u, hu, pa, pc, rfl, hpr⟩ := hcs k p hp
      have hpv : FVal W (fun b => b < S) (.slice pa p.length pc) p := ⟨pa, pc, rfl, hpr⟩
      have hlt' : (k : Int) < (ls.length : Int) := by omega
      have hlj := joinM_le (s := s) (ls := ls) (k := k + 1)
      have HPV := Lib.hid (fun (w : World) (hb : Below W.heap.size W w) => hpv.below hb)
      have HE0 := Lib.hid (fun (w : World) (hb : Below W.heap.size W w) => (hb.cell (p := ⟨g, o + k, none⟩) hg).trans hu)
      have HBR := Lib.hid hbe
      have e0 : wr.cell? ⟨g, o + k, none⟩ = some (.slice pa p.length pc) := HE0.out wr hbe
      obtain ⟨jb, jc, rfl, hjc⟩ := hj.form
      have HLOW := Lib.hid (fun gg (e : (Value.slice jb (joinM s (ls.take k)).length jc).ownBlock = some gg) => show W.heap.size ≤ gg from by obtain ⟨_, _, h2, _⟩ := hj; exact (h2.lt gg e).1)
      by_cases hk0 : k = 0
      · subst hk0
        have e0' : wr.cell? ⟨g, o, none⟩ = some (.slice pa p.length pc) := e0
        have HTK := Lib.hid (joinM_first (s := s) hp)
        have hj0 : joinM s (ls.take 0) = [] := rfl
        rw [hj0] at hj HLOW hjc ⊢
        have HJ := Lib.hid hj
        have HJC := Lib.hid hjc
        have HMX : Hid (([] : List Fg).length + p.length ≤ 1599289640401) := Lib.hid (by have h1 := HL.out; have h2 := HTK.out; rw [h2] at hlj; rw [List.nil_append] at hlj; simp; omega)
        clear hr hbe hj hu hpr hcs hp hpv hlj hjc hj0
        go_wp2_with (at_builtin; go_loud (refine wpList_append_frags rfl _ _ rfl W.heap.size jb _ jc [] p rfl HJ.out rfl HJC.out _ pa p.length pc rfl (HPV.out wr HBR.out) (fun b hb _ => ⟨low_ne2 hb HS.out HLOW.out, trivial⟩) (by have := HMX.out; omega) HBR.out.size wr.heap.size rfl ?_); intro b6 c6 w6 h6; have HJ6 : Hid (JQ (fun _ => True) w6 W.heap.size (.slice b6 p.length c6) ([] ++ p)) := Lib.hid (by have := h6.1; rwa [show ([] : List Fg).length + p.length = p.length by simp] at this); have HB6 : Hid (Below W.heap.size W w6) := Lib.hid (HBR.out.grown h6.2.2.1 HBR.out.size (fun g e => h6.2.2.2.2 g e)); clear h6)
        exact ⟨⟨1, by simp, Lib.hid ⟨by omega, HB6.out, by rw [HTK.out]; exact HJ6.out⟩⟩, by simp only [intOf]; omega⟩
      · have HTK := Lib.hid (joinM_step (s := s) hp (by omega))
        obtain ⟨JL, hJL⟩ : ∃ JL, JL = joinM s (ls.take k) := ⟨_, rfl⟩
        rw [← hJL] at HTK hj HLOW hjc ⊢
        obtain ⟨m, hm⟩ : ∃ m, m = JL.length := ⟨_, rfl⟩
        have hM : m + 1 + p.length ≤ 1599289640401 := by
          have h1 := HL.out
          have h2 := HTK.out
          rw [h2, List.length_append, List.length_append, List.length_singleton, ← hm] at hlj
          omega
        have HM1 : Hid ((m + 1) * 88 ≤ 140737488355328) := Lib.hid (by omega)
        have HM2 : Hid ((m + 1 + p.length) * 88 ≤ 140737488355328) := Lib.hid (by omega)
        rw [← hm] at hj HLOW hjc ⊢
        have HJ := Lib.hid hj
        have HJC := Lib.hid hjc
        have HMJ := Lib.hid hm
        have hkpos : (0 : Int) < (k : Int) := by omega
        have HBX : Hid (Below wr.heap.size wr (wr.alloc (.cells #[.int .i64 5, .int .i64 0, .string s, .int .i64 0, .int .i64 0, .string ⟨#[]⟩, .slice none 0 0] 52))) := Lib.hid ((Below.refl _ _).alloc (Nat.le_refl _) _)
        have HSG : Hid (FVal (wr.alloc (.cells #[.int .i64 5, .int .i64 0, .string s, .int .i64 0, .int .i64 0, .string ⟨#[]⟩, .slice none 0 0] 52)) (fun b => b < S ∨ b = wr.heap.size) (.slice (some ⟨wr.heap.size, 0, none⟩) 1 1) [signF s]) := Lib.hid (sign_row wr s)
        have HUL := Lib.hid hj.own_lt2
        clear hr hbe hj hu hpr hcs hp hpv hlj hjc hJL hm hM
        go_wp2_with (first
          | (at_builtin; (refine wpList_append_frags rfl (.tmp 15) (.tmp 19) rfl W.heap.size jb m jc JL [signF s] rfl (HJ.out.below HBX.out) HMJ.out HJC.out _ (some ⟨wr.heap.size, 0, none⟩) 1 1 rfl HSG.out (fun b hb _ => ⟨hb.elim (fun h => low_ne2 h HS.out HLOW.out) (fun h e => by have := HUL.out b e; omega), trivial⟩) HM1.out (by have := HBR.out.size; simp; omega) (wr.heap.size + 1) (by simp) ?_); intro b3 c3 w3 h3; have HJ3 := Lib.hid h3.1; have HC3 := Lib.hid h3.2.1; have HLO3 := Lib.hid (h3.low2 (by have := HBR.out.size; omega)); have HB3 : Hid (Below W.heap.size W w3) := Lib.hid ((HBR.out.alloc HBR.out.size _).grown h3.2.2.1 (by have := HBR.out.size; simp; omega) (fun g e => h3.2.2.2.2 g e)); have HN3 : Hid (m + 1 = (JL ++ [signF s]).length) := Lib.hid (by rw [List.length_append, HMJ.out]; rfl); have e3 := HE0.out w3 HB3.out; clear h3)
          | (at_builtin; (refine wpList_append_frags rfl (.tmp 21) (.tmp 25) rfl W.heap.size b3 (m + 1) c3 (JL ++ [signF s]) p rfl HJ3.out HN3.out HC3.out _ pa p.length pc rfl (HPV.out w3 HB3.out) (fun b hb _ => ⟨low_ne2 hb HS.out HLO3.out, trivial⟩) HM2.out HB3.out.size w3.heap.size rfl ?_); intro b6 c6 w6 h6; have HJ6 := Lib.hid h6.1; have HB6 : Hid (Below W.heap.size W w6) := Lib.hid (HB3.out.grown h6.2.2.1 HB3.out.size (fun g e => h6.2.2.2.2 g e)); clear h6))
        exact ⟨⟨k + 1, by simp, Lib.hid ⟨by omega, HB6.out, by rw [HTK.out]; exact HJ6.out⟩⟩, by simp only [intOf]; omega⟩
    · have hlt' : ((k : Int) < (ls.length : Int)) = False := by simp; omega
      have hkl : k = ls.length := by omega
      subst hkl
      rw [List.take_length] at hj
      have HBE := Lib.hid hbe
      have HJ := Lib.hid hj
      clear hr hbe hj
      go_wp2_with fail
      exact bodyPost_ret (v := u5) (by simp [results, Tryz.results32, go_sem]) rfl ⟨_, rfl, HJ.out, HBE.out⟩
end

section
open Go.RowKit

theorem tkSame_true (k n : Int) (s : ByteArray) (a m k' n' : Int) (s' : ByteArray) (a' m' : Int) : tkSame true (k, n, s, a, m) (k', n', s', a', m') = (decide (k = k') && (decide (n = n') && decide (s = s'))) := by
  unfold tkSame
  simp
set_option maxRecDepth 100000 in
set_option maxHeartbeats 4000000 in
theorem likeT_any (x y : Tkn) (W : World) : Calls Tryz.prog 54 #[.agg (tkL x).toArray, .agg (tkL y).toArray] W (TkPost (tkSame true x y) W) := by
  obtain ⟨k, n, s, a, m⟩ := x
  obtain ⟨k', n', s', a', m'⟩ := y
  simp only [tkL]
  rw [tkSame_true]
  have HB : Hid (Below W.heap.size W ((W.alloc (.cells #[.int .i64 k, .int .i64 n, .string s, .int .i64 a, .int .i64 m] 50)).alloc (.cells #[.int .i64 k', .int .i64 n', .string s', .int .i64 a', .int .i64 m'] 50))) := Lib.hid (((Below.refl _ W).alloc (Nat.le_refl _) _).alloc (by simp) _)
  by_cases q1 : k = k'
  rotate_left
  · have z1 := (ne_int q1).1
    rw [decide_eq_false q1]
    clear q1
    go_enter Tryz.func54, Tryz.ntmps54
    go_wp2_with fail
    exact bodyPost_ret (v := .bool false) (by simp [results, Tryz.results54, go_sem]) rfl ⟨rfl, HB.out⟩
  subst q1
  by_cases q2 : n = n'
  rotate_left
  · have z1 := (ne_int q2).1
    rw [decide_eq_false q2]
    clear q2
    go_enter Tryz.func54, Tryz.ntmps54
    go_wp2_with fail
    exact bodyPost_ret (v := .bool false) (by simp [results, Tryz.results54, go_sem]) rfl ⟨by simp, HB.out⟩
  subst q2
  by_cases q3 : s = s'
  rotate_left
  · have z1 := (str_ne q3).1
    rw [decide_eq_false q3]
    clear q3
    go_enter Tryz.func54, Tryz.ntmps54
    go_wp2_with fail
    exact bodyPost_ret (v := .bool false) (by simp [results, Tryz.results54, go_sem]) rfl ⟨by simp, HB.out⟩
  subst q3
  go_enter Tryz.func54, Tryz.ntmps54
  go_wp2_with fail
  exact bodyPost_ret (v := .bool true) (by simp [results, Tryz.results54, go_sem]) rfl ⟨by simp, HB.out⟩
set_option maxRecDepth 100000 in
set_option maxHeartbeats 16000000 in
theorem equalA_run (P P' : Nat → Prop) (a b : List Fg) (va vb : Value) (W : World) (hva : FVal W P va a) (hvb : FVal W P' vb b) (hl : a.length ≤ 140737488351232)
    (HC : ∀ (x : Fg), x ∈ a → ∀ (ks' : List Fg) (kv kv' : Value) (w : World), FVal w P kv x.kids → FVal w P' kv' ks' → Calls Tryz.prog 52 #[kv, kv', .func (.func 54) #[] #[]] w (TkPost (sameL true x.kids ks') w)) :
    Calls Tryz.prog 52 #[va, vb, .func (.func 54) #[] #[]] W (TkPost (sameL true a b) W) := by
  obtain ⟨ba, ca, rfl, ha⟩ := hva
  obtain ⟨bb, cb, rfl, hb⟩ := hvb
  have HCC := Lib.hid HC
  have HA := Lib.hid ha
  have HB := Lib.hid hb
  clear HC ha hb
  by_cases hlen : a.length = b.length
  rotate_left
  · have hs : sameL true a b = false := by
      cases h : sameL true a b with
      | false => rfl
      | true => exact absurd (sameL_len h) hlen
    rw [hs]
    obtain ⟨q1, q2⟩ := ne_int (show ¬ (a.length : Int) = (b.length : Int) by omega)
    clear hs hlen
    go_enter Tryz.func52, Tryz.ntmps52
    go_wp2_with fail
    exact bodyPost_ret (v := .bool false) (by simp [results, Tryz.results52, go_sem]) rfl ⟨rfl, Below.refl _ _⟩
  · obtain ⟨q1, q2⟩ := eq_int (show (a.length : Int) = (b.length : Int) by omega)
    have HLEN := Lib.hid hlen
    clear hlen
    go_enter Tryz.func52, Tryz.ntmps52
    go_wp2_with fail
    clear q1 q2
    go_loopw [17] (fun iv wr => ∃ k : Nat, iv = .int .i64 (k : Int) ∧ Hid (EqLoop true a b W k wr)) (fun iv _ => a.length - (intOf iv).toNat)
    case atStart => exact ⟨0, rfl, Lib.hid ⟨by omega, by rw [List.drop_zero, List.drop_zero], Below.refl _ _⟩⟩
    case round =>
      obtain ⟨k, rfl, hr⟩ := hrel
      obtain ⟨hk, hres, hbe⟩ := hr.out
      have w3' : IntKind.i64.wrap ((k : Int) + 1) = (k : Int) + 1 := IntWalk.i64_in _ (by omega)
      by_cases hlt : k < a.length
      · obtain ⟨x, hx⟩ : ∃ x, a[k]? = some x := ⟨_, List.getElem?_eq_getElem hlt⟩
        obtain ⟨y, hy⟩ : ∃ y, b[k]? = some y := ⟨_, List.getElem?_eq_getElem (by have := HLEN.out; omega)⟩
        obtain ⟨g, o, rfl, hp, hg, hrw⟩ := HA.out (by rintro rfl; simp at hlt)
        obtain ⟨g', o', rfl, hp', hg', hrw'⟩ := HB.out (by rintro rfl; simp at hy)
        obtain ⟨kv, hcell, ka, kc, rfl, hkr⟩ := (hrw.get hx).parts
        obtain ⟨kv', hcell', ka', kc', rfl, hkr'⟩ := (hrw'.get hy).parts
        rw [sameL_at hx hy] at hres
        have hc : ∀ w', Below W.heap.size W w' → ∀ j u, (fgV x (.slice ka x.kids.length kc))[j]? = some u → w'.cell? ⟨g, o + k * 7 + j, none⟩ = some u := fun w' hb j u hu => (hb.cell (p := ⟨g, o + k * 7 + j, none⟩) hg).trans (hcell j u hu)
        have hc' : ∀ w', Below W.heap.size W w' → ∀ j u, (fgV y (.slice ka' y.kids.length kc'))[j]? = some u → w'.cell? ⟨g', o' + k * 7 + j, none⟩ = some u := fun w' hb j u hu => (hb.cell (p := ⟨g', o' + k * 7 + j, none⟩) hg').trans (hcell' j u hu)
        have hlt' : (k : Int) < (a.length : Int) := by omega
        have hlt2 : (k : Int) < (b.length : Int) := by have := HLEN.out; omega
        have HKV : Hid (FVal W P (.slice ka x.kids.length kc) x.kids) := Lib.hid ⟨_, _, rfl, hkr⟩
        have HKV' : Hid (FVal W P' (.slice ka' y.kids.length kc') y.kids) := Lib.hid ⟨_, _, rfl, hkr'⟩
        have HCK := Lib.hid (HCC.out x (List.mem_of_getElem? hx) y.kids (.slice ka x.kids.length kc) (.slice ka' y.kids.length kc'))
        clear hr hcell hcell' hrw hrw' hx hy hkr hkr'
        obtain ⟨⟨k0, n0, s0, a0, m0⟩, op, ks⟩ := x
        obtain ⟨⟨k1, n1, s1, a1, m1⟩, oq, kt⟩ := y
        have hsf : sameF true (Fg.mk (k0, n0, s0, a0, m0) op ks) (Fg.mk (k1, n1, s1, a1, m1) oq kt) = (tkSame true (k0, n0, s0, a0, m0) (k1, n1, s1, a1, m1) && (decide (op = oq) && sameL true ks kt)) := by
          unfold sameF; rfl
        rw [hsf] at hres
        simp only [Fg.kids] at HKV HKV' HCK
        have HID := Lib.hid (fun w => likeT_any (k0, n0, s0, a0, m0) (k1, n1, s1, a1, m1) w)
        simp only [tkL] at HID
        generalize tkSame true (k0, n0, s0, a0, m0) (k1, n1, s1, a1, m1) = tt at hres HID
        have HBE := Lib.hid hbe
        have hcl := hc _ hbe
        have e0 : wr.cell? ⟨g, o + k * 7, none⟩ = some (.int .i64 k0) := hcl 0 _ rfl
        have e1 : wr.cell? ⟨g, o + k * 7 + 1, none⟩ = some (.int .i64 n0) := hcl 1 _ rfl
        have e2 : wr.cell? ⟨g, o + k * 7 + 2, none⟩ = some (.string s0) := hcl 2 _ rfl
        have e3 : wr.cell? ⟨g, o + k * 7 + 3, none⟩ = some (.int .i64 a0) := hcl 3 _ rfl
        have e4 : wr.cell? ⟨g, o + k * 7 + 4, none⟩ = some (.int .i64 m0) := hcl 4 _ rfl
        have e5 : wr.cell? ⟨g, o + k * 7 + 5, none⟩ = some (.string op) := hcl 5 _ rfl
        have e6 : wr.cell? ⟨g, o + k * 7 + 6, none⟩ = some (.slice ka ks.length kc) := hcl 6 _ rfl
        obtain ⟨WA, hWA⟩ : ∃ WA, WA = wr.alloc (.cells #[.int .i64 k0, .int .i64 n0, .string s0, .int .i64 a0, .int .i64 m0, .string op, .slice ka ks.length kc] 52) := ⟨_, rfl⟩
        have hbA : Below W.heap.size W WA := by rw [hWA]; exact hbe.alloc hbe.size _
        have hcm := hc' _ hbA
        have f0 : WA.cell? ⟨g', o' + k * 7, none⟩ = some (.int .i64 k1) := hcm 0 _ rfl
        have f1 : WA.cell? ⟨g', o' + k * 7 + 1, none⟩ = some (.int .i64 n1) := hcm 1 _ rfl
        have f2 : WA.cell? ⟨g', o' + k * 7 + 2, none⟩ = some (.string s1) := hcm 2 _ rfl
        have f3 : WA.cell? ⟨g', o' + k * 7 + 3, none⟩ = some (.int .i64 a1) := hcm 3 _ rfl
        have f4 : WA.cell? ⟨g', o' + k * 7 + 4, none⟩ = some (.int .i64 m1) := hcm 4 _ rfl
        have f5 : WA.cell? ⟨g', o' + k * 7 + 5, none⟩ = some (.string oq) := hcm 5 _ rfl
        have f6 : WA.cell? ⟨g', o' + k * 7 + 6, none⟩ = some (.slice ka' kt.length kc') := hcm 6 _ rfl
        rw [hWA] at f0 f1 f2 f3 f4 f5 f6
        have HB2 : Hid (Below W.heap.size W ((wr.alloc (.cells #[.int .i64 k0, .int .i64 n0, .string s0, .int .i64 a0, .int .i64 m0, .string op, .slice ka ks.length kc] 52)).alloc (.cells #[.int .i64 k1, .int .i64 n1, .string s1, .int .i64 a1, .int .i64 m1, .string oq, .slice ka' kt.length kc'] 52))) := Lib.hid (by rw [← hWA]; exact hbA.alloc hbA.size _)
        clear hcl hcm hWA hbA hc hc' hbe WA
        by_cases h5 : op = oq
        rotate_left
        · obtain ⟨r1, r2⟩ := str_ne h5
          have HRES : Hid (sameL true a b = false) := Lib.hid (by rw [← hres]; simp [h5])
          clear hres hsf h5
          go_wp2_with fail
          exact bodyPost_ret (v := .bool false) (by simp [results, Tryz.results52, go_sem]) rfl ⟨by rw [HRES.out], HB2.out⟩
        obtain ⟨r1, r2⟩ := str_eq h5
        cases tt with
        | false =>
          have HRES : Hid (sameL true a b = false) := Lib.hid (by rw [← hres]; simp)
          clear hres hsf h5
          go_wp2_with fail
          refine (HID.out _).mono ?_
          rintro e w3 ⟨rfl, b3⟩
          have B3 := Lib.hid (HB2.out.trans (b3.mono HB2.out.size))
          clear b3
          go_wp2_with fail
          exact bodyPost_ret (v := .bool false) (by simp [results, Tryz.results52, go_sem]) rfl ⟨by rw [HRES.out], B3.out⟩
        | true =>
          have hre2 : (sameL true ks kt && sameL true (a.drop (k + 1)) (b.drop (k + 1))) = sameL true a b := by rw [← hres]; simp [h5]
          clear hres hsf h5
          generalize sameL true ks kt = rr at hre2 HCK
          have HRE := Lib.hid hre2
          clear hre2
          go_wp2_with fail
          refine (HID.out _).mono ?_
          rintro e w3 ⟨rfl, b3⟩
          have B3 := Lib.hid (HB2.out.trans (b3.mono HB2.out.size))
          have c0 : w3.cell? ⟨wr.heap.size, 6, none⟩ = some (.slice ka ks.length kc) := (b3.cell (p := ⟨wr.heap.size, 6, none⟩) (by simp <;> omega)).trans ((World.cell?_alloc_lt _ _ _ (by simp)).trans (by rw [fcell_at (heap_alloc_new wr _)]; rfl))
          have c1 : w3.cell? ⟨wr.heap.size + 1, 6, none⟩ = some (.slice ka' kt.length kc') := (b3.cell (p := ⟨wr.heap.size + 1, 6, none⟩) (by simp)).trans (by
            have hh := heap_alloc_new (wr.alloc (.cells #[.int .i64 k0, .int .i64 n0, .string s0, .int .i64 a0, .int .i64 m0, .string op, .slice ka ks.length kc] 52)) (.cells #[.int .i64 k1, .int .i64 n1, .string s1, .int .i64 a1, .int .i64 m1, .string oq, .slice ka' kt.length kc'] 52)
            rw [World.size_alloc] at hh
            rw [fcell_at hh]; rfl)
          have HCX := Lib.hid (HCK.out w3 (HKV.out.below B3.out) (HKV'.out.below B3.out))
          clear b3
          go_wp2_with fail
          refine HCX.out.mono ?_
          rintro e w4 ⟨rfl, b4⟩
          have B4 := Lib.hid (B3.out.trans (b4.mono B3.out.size))
          clear b4
          cases rr with
          | false =>
            have HRES : Hid (sameL true a b = false) := Lib.hid (by rw [← HRE.out]; rfl)
            go_wp2_with fail
            exact bodyPost_ret (v := .bool false) (by simp [results, Tryz.results52, go_sem]) rfl ⟨by rw [HRES.out], B4.out⟩
          | true =>
            go_wp2_with fail
            exact ⟨⟨k + 1, by simp, Lib.hid ⟨by omega, by rw [← HRE.out]; rfl, B4.out⟩⟩, by simp only [intOf]; omega⟩
      · have hlt' : ((k : Int) < (a.length : Int)) = False := by simp; omega
        have HRES : Hid (sameL true a b = true) := Lib.hid (by rw [← hres, List.drop_eq_nil_of_le (by omega), List.drop_eq_nil_of_le (by have := HLEN.out; omega)]; unfold sameL; rfl)
        have HBE := Lib.hid hbe
        clear hr hres hbe
        go_wp2_with fail
        exact bodyPost_ret (v := .bool true) (by simp [results, Tryz.results52, go_sem]) rfl ⟨by rw [HRES.out], HBE.out⟩
theorem equalA_any (P P' : Nat → Prop) : ∀ (a b : List Fg) (va vb : Value) (W : World), FVal W P va a → FVal W P' vb b → a.length ≤ 140737488351232 → FgsLe 140737488351232 a → Calls Tryz.prog 52 #[va, vb, .func (.func 54) #[] #[]] W (TkPost (sameL true a b) W)
  | a, b, va, vb, W, h1, h2, h3, h4 => equalA_run P P' a b va vb W h1 h2 h3 fun x hx ks' kv kv' w k1 k2 =>
    have := kids_lt hx
    equalA_any P P' x.kids ks' kv kv' w k1 k2 (h4.mem hx).1 (h4.mem hx).2
termination_by a => SizeOf.sizeOf a
/-- Equal but for places and marks, and not too deep. -/
def sameM (a b : List Fg) : Bool := decide (depM 101 a ≤ 100) && (decide (depM 101 b ≤ 100) && sameL true a b)
set_option maxRecDepth 100000 in
set_option maxHeartbeats 4000000 in
theorem Same_any (P P' : Nat → Prop) (a b : List Fg) (va vb : Value) (W : World) (hva : FVal W P va a) (hvb : FVal W P' vb b) (h1 : a.length ≤ 140737488351232) (h2 : FgsLe 140737488351232 a) (h3 : b.length ≤ 140737488351232) (h4 : FgsLe 140737488351232 b) :
    Calls Tryz.prog 26 #[va, vb] W fun e w' => e = .returned (.bool (sameM a b)) ∧ Below W.heap.size W w' := by
  have HD1 := Lib.hid (fun w (hb : Below W.heap.size W w) => Depth_any P a va w (hva.below hb) h1 h2)
  have HD2 := Lib.hid (fun w (hb : Below W.heap.size W w) => Depth_any P' b vb w (hvb.below hb) h3 h4)
  have HEQ := Lib.hid (fun w (hb : Below W.heap.size W w) => equalA_any P P' a b va vb w (hva.below hb) (hvb.below hb) h1 h2)
  clear hva hvb h1 h2 h3 h4
  go_enter Tryz.func26, Tryz.ntmps26
  go_wp2_with fail
  refine (HD1.out W (Below.refl _ _)).mono ?_
  rintro e w1 ⟨rfl, hb1⟩
  have HB1 := Lib.hid hb1
  clear hb1
  by_cases q1 : depM 101 a ≤ 100
  rotate_left
  · have z1 : (((depM 101 a : Nat) : Int) ≤ 100) = False := by simp; omega
    have HF : Hid (sameM a b = false) := Lib.hid (by unfold sameM; rw [decide_eq_false q1]; rfl)
    clear q1
    go_wp2_with fail
    exact bodyPost_ret (v := .bool false) (by simp [results, Tryz.results26, go_sem]) rfl ⟨by rw [HF.out], HB1.out⟩
  have z1 : ((depM 101 a : Nat) : Int) ≤ 100 := by omega
  have HQ1 := Lib.hid q1
  clear q1
  go_wp2_with fail
  refine (HD2.out w1 HB1.out).mono ?_
  rintro e w2 ⟨rfl, hb2⟩
  have HB2 := Lib.hid (HB1.out.trans (hb2.mono HB1.out.size))
  clear hb2
  by_cases q2 : depM 101 b ≤ 100
  rotate_left
  · have z2 : (((depM 101 b : Nat) : Int) ≤ 100) = False := by simp; omega
    have HF : Hid (sameM a b = false) := Lib.hid (by unfold sameM; rw [decide_eq_false q2]; simp)
    clear q2
    go_wp2_with fail
    exact bodyPost_ret (v := .bool false) (by simp [results, Tryz.results26, go_sem]) rfl ⟨by rw [HF.out], HB2.out⟩
  have z2 : ((depM 101 b : Nat) : Int) ≤ 100 := by omega
  have HF : Hid (sameM a b = sameL true a b) := Lib.hid (by unfold sameM; rw [decide_eq_true HQ1.out, decide_eq_true q2]; rfl)
  clear q2
  generalize sameL true a b = r at *
  go_wp2_with fail
  refine (HEQ.out w2 HB2.out).mono ?_
  rintro e w3 ⟨rfl, hb3⟩
  have HB3 := Lib.hid (HB2.out.trans (hb3.mono HB2.out.size))
  clear hb3
  go_wp2_with fail
  exact bodyPost_ret (v := .bool r) (by simp [results, Tryz.results26, go_sem]) rfl ⟨by rw [HF.out], HB3.out⟩
set_option maxRecDepth 100000 in
set_option maxHeartbeats 4000000 in
theorem RSame_any (P P' : Nat → Prop) (a b : List Fg) (va vb : Value) (W : World) (hva : FVal W P va a) (hvb : FVal W P' vb b) (h1 : a.length ≤ 140737488351232) (h2 : FgsLe 140737488351232 a) (h3 : b.length ≤ 140737488351232) (h4 : FgsLe 140737488351232 b) :
    Calls Tryz.prog 27 #[va, vb] W fun e w' => e = .returned (.bool (sameM a b)) ∧ Below W.heap.size W w' := by
  have HD1 := Lib.hid (fun w (hb : Below W.heap.size W w) => RDepth_any P a va w (hva.below hb) h1 h2)
  have HD2 := Lib.hid (fun w (hb : Below W.heap.size W w) => RDepth_any P' b vb w (hvb.below hb) h3 h4)
  have HEQ := Lib.hid (fun w (hb : Below W.heap.size W w) => alike_any true P P' a b va vb w (hva.below hb) (hvb.below hb) h1 h2)
  clear hva hvb h1 h2 h3 h4
  go_enter Tryz.func27, Tryz.ntmps27
  go_wp2_with fail
  refine (HD1.out W (Below.refl _ _)).mono ?_
  rintro e w1 ⟨rfl, hb1⟩
  have HB1 := Lib.hid hb1
  clear hb1
  by_cases q1 : depM 101 a ≤ 100
  rotate_left
  · have z1 : (((depM 101 a : Nat) : Int) ≤ 100) = False := by simp; omega
    have HF : Hid (sameM a b = false) := Lib.hid (by unfold sameM; rw [decide_eq_false q1]; rfl)
    clear q1
    go_wp2_with fail
    exact bodyPost_ret (v := .bool false) (by simp [results, Tryz.results27, go_sem]) rfl ⟨by rw [HF.out], HB1.out⟩
  have z1 : ((depM 101 a : Nat) : Int) ≤ 100 := by omega
  have HQ1 := Lib.hid q1
  clear q1
  go_wp2_with fail
  refine (HD2.out w1 HB1.out).mono ?_
  rintro e w2 ⟨rfl, hb2⟩
  have HB2 := Lib.hid (HB1.out.trans (hb2.mono HB1.out.size))
  clear hb2
  by_cases q2 : depM 101 b ≤ 100
  rotate_left
  · have z2 : (((depM 101 b : Nat) : Int) ≤ 100) = False := by simp; omega
    have HF : Hid (sameM a b = false) := Lib.hid (by unfold sameM; rw [decide_eq_false q2]; simp)
    clear q2
    go_wp2_with fail
    exact bodyPost_ret (v := .bool false) (by simp [results, Tryz.results27, go_sem]) rfl ⟨by rw [HF.out], HB2.out⟩
  have z2 : ((depM 101 b : Nat) : Int) ≤ 100 := by omega
  have HF : Hid (sameM a b = sameL true a b) := Lib.hid (by unfold sameM; rw [decide_eq_true HQ1.out, decide_eq_true q2]; rfl)
  clear q2
  generalize sameL true a b = r at *
  go_wp2_with fail
  refine (HEQ.out w2 HB2.out).mono ?_
  rintro e w3 ⟨rfl, hb3⟩
  have HB3 := Lib.hid (HB2.out.trans (hb3.mono HB2.out.size))
  clear hb3
  go_wp2_with fail
  exact bodyPost_ret (v := .bool r) (by simp [results, Tryz.results27, go_sem]) rfl ⟨by rw [HF.out], HB3.out⟩
end

end Go.Proofs.YtafncodigpjkaaaGreatDoor
