/-
  The law: Join of Split, and At of Put: the walk.
-/
import Derived.Test.YtafncodigpjkaaaGreatDoorFJ2
import Derived.Test.YtafncodigpjkaaaGreatDoorFJ5
import Derived.Test.YtafncodigpjkaaaGreatDoorFJ4
import Derived.Test.YtafncodigpjkaaaGreatDoorFGC
namespace Go.Proofs.YtafncodigpjkaaaGreatDoor
section
open Go.RowKit

def oneF : Fg := .mk (1, 0, ⟨#[120]⟩, 0, 0) sNo []
theorem mapS_le {B : Nat} {s : ByteArray} {l : List Fg} (h : FgsLe B l) : FgsLe B (mapS s l) := FgsLe.of fun x hx => by
  unfold mapS at hx
  obtain ⟨y, hy, rfl⟩ := List.mem_map.1 hx
  split
  · exact ⟨Nat.zero_le _, by unfold signF Fg.kids FgsLe; trivial⟩
  · exact h.mem hy
theorem spl_mem (s : ByteArray) : ∀ (l acc : List Fg) (p : List Fg), p ∈ splG s acc l → ∀ x ∈ p, x ∈ acc ∨ x ∈ l
  | [], acc, p, hp, x, hx => by
    unfold splG at hp
    rw [List.mem_singleton] at hp
    subst hp
    exact .inl hx
  | y :: r, acc, p, hp, x, hx => by
    unfold splG at hp
    split at hp
    · rcases List.mem_cons.1 hp with rfl | hp
      · exact .inl hx
      · rcases spl_mem s r [] p hp x hx with h | h
        · cases h
        · exact .inr (by simp [h])
    · rcases spl_mem s r (acc ++ [y]) p hp x hx with h | h
      · rcases List.mem_append.1 h with h | h
        · exact .inl h
        · exact .inr (by simp at h; simp [h])
      · exact .inr (by simp [h])
theorem spl_max (s : ByteArray) : ∀ (l acc : List Fg) (p : List Fg), p ∈ splG s acc l → p.length ≤ acc.length + l.length
  | [], acc, p, hp => by
    unfold splG at hp
    rw [List.mem_singleton] at hp
    subst hp; simp
  | y :: r, acc, p, hp => by
    unfold splG at hp
    split at hp
    · rcases List.mem_cons.1 hp with rfl | hp
      · simp
      · have := spl_max s r [] p hp; simp at this; simp; omega
    · have := spl_max s r (acc ++ [y]) p hp; simp at this; simp; omega
theorem split_parts {B : Nat} {s : ByteArray} {l : List Fg} (h1 : l.length ≤ B) (h2 : FgsLe B l) : ∀ p ∈ splitM s l, p.length ≤ B ∧ FgsLe B p := fun p hp => by
  have h := spl_max s l [] p hp
  refine ⟨by simp at h; omega, FgsLe.of fun x hx => ?_⟩
  rcases spl_mem s l [] p hp x hx with h | h
  · cases h
  · exact h2.mem h
theorem put_found {l : List Fg} {p : List Int} {ls : List (List Fg)} (h : alongM l p = some ls) : endP (putM [oneF] l p) p = some oneF ∧ ¬ alongM (putM [oneF] l p) p = none := by
  have hne : p ≠ [] := by rintro rfl; unfold alongM at h; rw [if_pos rfl] at h; cases h
  have hw : walkP l p = some ls := by unfold alongM at h; rwa [if_neg hne] at h
  have he : (endP l p).isSome = true := (walk_end hne).1 (by rw [hw]; rfl)
  have hp := put_end oneF he
  refine ⟨hp, fun hn => ?_⟩
  have hw2 : (walkP (putM [oneF] l p) p).isSome = true := (walk_end hne).2 (by rw [hp]; rfl)
  unfold alongM at hn
  rw [if_neg hne] at hn
  rw [hn] at hw2
  cases hw2
theorem three_one (w : World) (O1 O2 O3 : Obj) : (((w.alloc O1).alloc O2).alloc O3).heap[w.heap.size + 1]? = some O2 := by
  have h := heap_alloc_new (w.alloc O1) O2
  rw [show (w.alloc O1).heap.size = w.heap.size + 1 by simp] at h
  exact (Below.heap_alloc _ _ _ (by simp)).trans h
theorem three_two (w : World) (O1 O2 O3 : Obj) : (((w.alloc O1).alloc O2).alloc O3).heap[w.heap.size + 1 + 1]? = some O3 := by
  have h := heap_alloc_new ((w.alloc O1).alloc O2) O3
  rwa [show ((w.alloc O1).alloc O2).heap.size = w.heap.size + 1 + 1 by simp] at h
set_option maxRecDepth 100000 in
set_option maxHeartbeats 32000000 in
theorem piecesLaw (P : Nat → Prop) (l : List Fg) (a : Option Addr) (n c : Nat) (s : ByteArray) (v : Value) (p : List Int) (W : World) (E : Env W) (hv : FVal W P (.slice a n c) l) (hc : ValC W (.slice a n c) l) (hp : IntRow W v p) (h1 : l.length ≤ 1048576) (h2 : FgsLe 1048576 l) (hpl : p.length ≤ 1048576) :
    Calls Tryz.prog 7 #[.slice a n c, .string s, v] W fun e w' => e = .returned (.bool true) ∧ Below W.heap.size W w' := by
  have HSN := Lib.hid (sane_any W E)
  have hcap := hc.cap
  have hnl : n = l.length := by obtain ⟨_, _, e, _⟩ := hv; cases e; rfl
  have HSP := Lib.hid (fun (w : World) (hb : Below W.heap.size W w) => Split_any P l a n c s w (hv.below hb) hcap (by omega) (h2.mono (by omega)))
  have HJN := Lib.hid (fun (w : World) (jv : Value) (hj : PVal w (fun _ => True) jv (splitM s l)) => Join_any (fun _ => True) s (splitM s l) jv w hj (by have := spl_len s l []; unfold splitM; omega) (by rw [join_len]; omega) (fun q hq => ⟨by have := (split_parts h1 h2 q hq).1; omega, (split_parts h1 h2 q hq).2.mono (by omega)⟩))
  have HALK := Lib.hid (fun (w : World) (hb : Below W.heap.size W w) (xv : Value) (hx : FVal w (fun _ => True) xv (joinM s (splitM s l))) => alike_any true (fun _ => True) P (joinM s (splitM s l)) l xv (.slice a n c) w hx (hv.below hb) (by rw [join_len]; omega) (by rw [join_split]; exact mapS_le (h2.mono (by omega))))
  have HSGN := Lib.hid (fun (w : World) (hb : Below W.heap.size W w) => signed_any P l (.slice a n c) s w (hv.below hb) (by omega))
  have HPUT := Lib.hid (fun (w : World) (hb : Below W.heap.size W w) (bv : Value) (hbv : FVal w (fun _ => True) bv [oneF]) => Put_any P (fun _ => True) l [oneF] a n c v bv p w (hv.below hb) (hc.keep hv (fun b _ z => hb.block b z)) (hp.below hb) hpl hbv h1 h2 (by simp) (FgsLe.of fun x hx => by rw [List.mem_singleton] at hx; subst hx; exact ⟨Nat.zero_le _, by unfold oneF Fg.kids FgsLe; trivial⟩))
  have HLE := Lib.hid (put_le (B := 1048576) (by' := [oneF]) (by simp) (FgsLe.of fun x hx => by rw [List.mem_singleton] at hx; subst hx; exact ⟨Nat.zero_le _, by unfold oneF Fg.kids FgsLe; trivial⟩) (p := p) h1 h2)
  have HAT := Lib.hid (fun (w : World) (hb : Below W.heap.size W w) (Q : Nat → Prop) (a' : Option Addr) (n' c' : Nat) (hy : FVal w Q (.slice a' n' c') (putM [oneF] l p)) (hyc : ValC w (.slice a' n' c') (putM [oneF] l p)) => At_any Q (putM [oneF] l p) a' n' c' v p w hy hyc (hp.below hb) hpl (by have := HLE.out.1; omega) (HLE.out.2.mono (by omega)))
  have HSL : Hid (signedM s l = false → sameL true (joinM s (splitM s l)) l = true) := Lib.hid pieces_ok
  have HA1 := Lib.hid (fun (w : World) (v1 v2 : Value) (g1 : FVal w (fun _ => True) v1 [oneF]) (g2 : FVal w (fun _ => True) v2 [oneF]) => alike_any false (fun _ => True) (fun _ => True) [oneF] [oneF] v1 v2 w g1 g2 (by simp) (FgsLe.of fun x hx => by rw [List.mem_singleton] at hx; subst hx; exact ⟨Nat.zero_le _, by unfold oneF Fg.kids FgsLe; trivial⟩))
  have HS1 : Hid (sameL false [oneF] [oneF] = true) := Lib.hid ((sameL_eq _ _).2 rfl)
  obtain ⟨vb, vc, rfl, _⟩ := hp
  clear E hv hc h1 h2 hpl hcap hnl HLE
  go_enter Tryz.func7, Tryz.ntmps7
  go_wp2_with fail
  refine HSN.out.mono ?_
  rintro e w1 ⟨rfl, hb1⟩
  have HB1 := Lib.hid hb1
  clear hb1 HSN
  go_wp2_with fail
  refine (HSP.out w1 HB1.out).mono ?_
  rintro e w2 ⟨v2, rfl, hv2, hb2⟩
  have HB2 := Lib.hid (HB1.out.trans (hb2.mono HB1.out.size))
  have HV2 := Lib.hid hv2.val
  clear hb2 hv2 HSP
  go_wp2_with fail
  refine (HJN.out w2 v2 HV2.out).mono ?_
  rintro e w3 ⟨v3, rfl, hv3, hb3⟩
  have HB3 := Lib.hid (HB2.out.trans (hb3.mono HB2.out.size))
  have HV3 := Lib.hid hv3.val
  clear hb3 hv3 HJN HV2
  go_wp2_with fail
  refine (HALK.out w3 HB3.out v3 HV3.out).mono ?_
  rintro e w4 ⟨rfl, hb4⟩
  have HB4 := Lib.hid (HB3.out.trans (hb4.mono HB3.out.size))
  clear hb4 HALK HV3
  cases hsg : sameL true (joinM s (splitM s l)) l with
  | true =>
    clear hsg HSL HSGN
    have HBA : Hid (Below W.heap.size W ((w4.alloc (.cells #[.int .i64 1, .int .i64 0, .string ⟨#[120]⟩, .int .i64 0, .int .i64 0, .string ⟨#[]⟩, .slice none 0 0] 52)).alloc (.cells #[.int .i64 1, .int .i64 0, .string ⟨#[120]⟩, .int .i64 0, .int .i64 0, .string ⟨#[]⟩, .slice none 0 0] 52))) := Lib.hid ((HB4.out.alloc HB4.out.size _).alloc (by have := HB4.out.size; simp; omega) _)
    have HO1 : Hid (FVal ((w4.alloc (.cells #[.int .i64 1, .int .i64 0, .string ⟨#[120]⟩, .int .i64 0, .int .i64 0, .string ⟨#[]⟩, .slice none 0 0] 52)).alloc (.cells #[.int .i64 1, .int .i64 0, .string ⟨#[120]⟩, .int .i64 0, .int .i64 0, .string ⟨#[]⟩, .slice none 0 0] 52)) (fun _ => True) (.slice (some ⟨w4.heap.size + 1, 0, none⟩) 1 1) [oneF]) := Lib.hid (one_val (x := oneF) (ks := []) (kv := .slice none 0 0) (t := 52) (by have := heap_alloc_new (w4.alloc (.cells #[.int .i64 1, .int .i64 0, .string ⟨#[120]⟩, .int .i64 0, .int .i64 0, .string ⟨#[]⟩, .slice none 0 0] 52)) (.cells #[.int .i64 1, .int .i64 0, .string ⟨#[120]⟩, .int .i64 0, .int .i64 0, .string ⟨#[]⟩, .slice none 0 0] 52); rwa [show (w4.alloc (.cells #[.int .i64 1, .int .i64 0, .string ⟨#[120]⟩, .int .i64 0, .int .i64 0, .string ⟨#[]⟩, .slice none 0 0] 52)).heap.size = w4.heap.size + 1 by simp] at this) (FVal.nil _ _ _ _))
    have HO9 : Hid (((w4.alloc (.cells #[.int .i64 1, .int .i64 0, .string ⟨#[120]⟩, .int .i64 0, .int .i64 0, .string ⟨#[]⟩, .slice none 0 0] 52)).alloc (.cells #[.int .i64 1, .int .i64 0, .string ⟨#[120]⟩, .int .i64 0, .int .i64 0, .string ⟨#[]⟩, .slice none 0 0] 52)).heap[w4.heap.size]? = some (.cells #[.int .i64 1, .int .i64 0, .string ⟨#[120]⟩, .int .i64 0, .int .i64 0, .string ⟨#[]⟩, .slice none 0 0] 52)) := Lib.hid ((Below.heap_alloc _ _ _ (by simp)).trans (heap_alloc_new w4 _))
    go_wp2_with fail
    generalize (w4.alloc (.cells #[.int .i64 1, .int .i64 0, .string ⟨#[120]⟩, .int .i64 0, .int .i64 0, .string ⟨#[]⟩, .slice none 0 0] 52)).alloc (.cells #[.int .i64 1, .int .i64 0, .string ⟨#[120]⟩, .int .i64 0, .int .i64 0, .string ⟨#[]⟩, .slice none 0 0] 52) = wp at *
    refine (HPUT.out wp HBA.out _ HO1.out).mono ?_
    rintro e w7 ⟨hb7, ⟨hno, rfl⟩ | ⟨⟨ls, hyes⟩, ⟨_, rfl⟩ | ⟨_, v7, rfl, hv7, hc7⟩⟩⟩
    · have HB7 := Lib.hid (HBA.out.trans (hb7.mono HBA.out.size))
      clear hb7 hno
      go_wp2_with fail
      exact bodyPost_ret (v := .bool true) (by simp [results, Tryz.results7, go_sem]) rfl ⟨rfl, HB7.out⟩
    · have HB7 := Lib.hid (HBA.out.trans (hb7.mono HBA.out.size))
      clear hb7 hyes
      go_wp2_with fail
      exact bodyPost_ret (v := .bool true) (by simp [results, Tryz.results7, go_sem]) rfl ⟨rfl, HB7.out⟩
    have HB7 := Lib.hid (HBA.out.trans (hb7.mono HBA.out.size))
    obtain ⟨a7, c7, rfl, hcc7, hrr7⟩ := hc7
    have HC7 : Hid (ValC w7 (.slice a7 (putM [oneF] l p).length c7) (putM [oneF] l p)) := Lib.hid ⟨a7, c7, rfl, hcc7, hrr7⟩
    have HV7 := Lib.hid hv7
    have HFO := Lib.hid (put_found hyes)
    have HO97 := Lib.hid ((hb7.block _ (Array.getElem?_eq_some_iff.1 HO9.out).1).trans HO9.out)
    obtain ⟨n7, hn7⟩ : ∃ n7, n7 = (putM [oneF] l p).length := ⟨_, rfl⟩
    rw [← hn7] at HC7 HV7 ⊢
    clear hb7 hyes hcc7 hrr7 hv7 hn7 HO9 HBA HO1 HPUT
    go_wp2_with fail
    refine (HAT.out w7 HB7.out _ a7 n7 c7 HV7.out HC7.out).mono ?_
    rintro e w8 ⟨hb8, ⟨hno, _⟩ | ⟨_, x, kv, hx, rfl, hk⟩⟩
    · exact absurd hno HFO.out.2
    rw [HFO.out.1] at hx
    cases hx
    obtain ⟨ka, kc, rfl, _⟩ := hk
    have HB8 := Lib.hid (HB7.out.trans (hb8.mono HB7.out.size))
    have HO98 := Lib.hid ((hb8.block _ (Array.getElem?_eq_some_iff.1 HO97.out).1).trans HO97.out)
    have hcells : (fgV oneF (.slice ka oneF.kids.length kc)).toArray = #[.int .i64 1, .int .i64 0, .string ⟨#[120]⟩, .int .i64 0, .int .i64 0, .string ⟨#[]⟩, .slice ka 0 kc] := rfl
    rw [hcells]
    obtain ⟨ob, hob⟩ : ∃ ob, ob = w4.heap.size := ⟨_, rfl⟩
    rw [← hob] at HO98 ⊢
    have hobz : ob < w8.heap.size := (Array.getElem?_eq_some_iff.1 HO98.out).1
    clear hb8 hcells HAT HC7 HV7 HFO HO97 HB7 hob
    obtain ⟨d0, d1, d2, d3, d4, d5, d6, _⟩ := seven_cells HO98.out
    go_wp2_with fail
    refine (HA1.out _ _ _ (one_val (x := oneF) (ks := []) (kv := .slice ka 0 kc) (t := 52) (three_one w8 _ _ _) (FVal.nil _ _ _ _)) (one_val (x := oneF) (ks := []) (kv := .slice none 0 0) (t := 52) (three_two w8 _ _ _) (FVal.nil _ _ _ _))).mono ?_
    rintro e wz ⟨rfl, hbz⟩
    have HBZ := Lib.hid ((((HB8.out.alloc HB8.out.size _).alloc (by have := HB8.out.size; simp; omega) _).alloc (by have := HB8.out.size; simp; omega) _).trans (hbz.mono (by have := HB8.out.size; simp; omega)))
    clear hbz
    rw [HS1.out]
    go_wp2_with fail
    exact bodyPost_ret (v := .bool true) (by simp [results, Tryz.results7, go_sem]) rfl ⟨rfl, HBZ.out⟩
  | false =>
    have hsn : signedM s l = true := by
      cases h : signedM s l with
      | true => rfl
      | false => rw [HSL.out h] at hsg; cases hsg
    have HSN := Lib.hid hsn
    clear hsg hsn HSL
    go_wp2_with fail
    refine (HSGN.out w4 HB4.out).mono ?_
    rintro e w5 ⟨rfl, hb5⟩
    have HB5 := Lib.hid (HB4.out.trans (hb5.mono HB4.out.size))
    rw [HSN.out]
    clear hb5 HSGN HB4
    have HBA : Hid (Below W.heap.size W ((w5.alloc (.cells #[.int .i64 1, .int .i64 0, .string ⟨#[120]⟩, .int .i64 0, .int .i64 0, .string ⟨#[]⟩, .slice none 0 0] 52)).alloc (.cells #[.int .i64 1, .int .i64 0, .string ⟨#[120]⟩, .int .i64 0, .int .i64 0, .string ⟨#[]⟩, .slice none 0 0] 52))) := Lib.hid ((HB5.out.alloc HB5.out.size _).alloc (by have := HB5.out.size; simp; omega) _)
    have HO1 : Hid (FVal ((w5.alloc (.cells #[.int .i64 1, .int .i64 0, .string ⟨#[120]⟩, .int .i64 0, .int .i64 0, .string ⟨#[]⟩, .slice none 0 0] 52)).alloc (.cells #[.int .i64 1, .int .i64 0, .string ⟨#[120]⟩, .int .i64 0, .int .i64 0, .string ⟨#[]⟩, .slice none 0 0] 52)) (fun _ => True) (.slice (some ⟨w5.heap.size + 1, 0, none⟩) 1 1) [oneF]) := Lib.hid (one_val (x := oneF) (ks := []) (kv := .slice none 0 0) (t := 52) (by have := heap_alloc_new (w5.alloc (.cells #[.int .i64 1, .int .i64 0, .string ⟨#[120]⟩, .int .i64 0, .int .i64 0, .string ⟨#[]⟩, .slice none 0 0] 52)) (.cells #[.int .i64 1, .int .i64 0, .string ⟨#[120]⟩, .int .i64 0, .int .i64 0, .string ⟨#[]⟩, .slice none 0 0] 52); rwa [show (w5.alloc (.cells #[.int .i64 1, .int .i64 0, .string ⟨#[120]⟩, .int .i64 0, .int .i64 0, .string ⟨#[]⟩, .slice none 0 0] 52)).heap.size = w5.heap.size + 1 by simp] at this) (FVal.nil _ _ _ _))
    have HO9 : Hid (((w5.alloc (.cells #[.int .i64 1, .int .i64 0, .string ⟨#[120]⟩, .int .i64 0, .int .i64 0, .string ⟨#[]⟩, .slice none 0 0] 52)).alloc (.cells #[.int .i64 1, .int .i64 0, .string ⟨#[120]⟩, .int .i64 0, .int .i64 0, .string ⟨#[]⟩, .slice none 0 0] 52)).heap[w5.heap.size]? = some (.cells #[.int .i64 1, .int .i64 0, .string ⟨#[120]⟩, .int .i64 0, .int .i64 0, .string ⟨#[]⟩, .slice none 0 0] 52)) := Lib.hid ((Below.heap_alloc _ _ _ (by simp)).trans (heap_alloc_new w5 _))
    go_wp2_with fail
    generalize (w5.alloc (.cells #[.int .i64 1, .int .i64 0, .string ⟨#[120]⟩, .int .i64 0, .int .i64 0, .string ⟨#[]⟩, .slice none 0 0] 52)).alloc (.cells #[.int .i64 1, .int .i64 0, .string ⟨#[120]⟩, .int .i64 0, .int .i64 0, .string ⟨#[]⟩, .slice none 0 0] 52) = wp at *
    refine (HPUT.out wp HBA.out _ HO1.out).mono ?_
    rintro e w7 ⟨hb7, ⟨hno, rfl⟩ | ⟨⟨ls, hyes⟩, ⟨_, rfl⟩ | ⟨_, v7, rfl, hv7, hc7⟩⟩⟩
    · have HB7 := Lib.hid (HBA.out.trans (hb7.mono HBA.out.size))
      clear hb7 hno
      go_wp2_with fail
      exact bodyPost_ret (v := .bool true) (by simp [results, Tryz.results7, go_sem]) rfl ⟨rfl, HB7.out⟩
    · have HB7 := Lib.hid (HBA.out.trans (hb7.mono HBA.out.size))
      clear hb7 hyes
      go_wp2_with fail
      exact bodyPost_ret (v := .bool true) (by simp [results, Tryz.results7, go_sem]) rfl ⟨rfl, HB7.out⟩
    have HB7 := Lib.hid (HBA.out.trans (hb7.mono HBA.out.size))
    obtain ⟨a7, c7, rfl, hcc7, hrr7⟩ := hc7
    have HC7 : Hid (ValC w7 (.slice a7 (putM [oneF] l p).length c7) (putM [oneF] l p)) := Lib.hid ⟨a7, c7, rfl, hcc7, hrr7⟩
    have HV7 := Lib.hid hv7
    have HFO := Lib.hid (put_found hyes)
    have HO97 := Lib.hid ((hb7.block _ (Array.getElem?_eq_some_iff.1 HO9.out).1).trans HO9.out)
    obtain ⟨n7, hn7⟩ : ∃ n7, n7 = (putM [oneF] l p).length := ⟨_, rfl⟩
    rw [← hn7] at HC7 HV7 ⊢
    clear hb7 hyes hcc7 hrr7 hv7 hn7 HO9 HBA HO1 HPUT
    go_wp2_with fail
    refine (HAT.out w7 HB7.out _ a7 n7 c7 HV7.out HC7.out).mono ?_
    rintro e w8 ⟨hb8, ⟨hno, _⟩ | ⟨_, x, kv, hx, rfl, hk⟩⟩
    · exact absurd hno HFO.out.2
    rw [HFO.out.1] at hx
    cases hx
    obtain ⟨ka, kc, rfl, _⟩ := hk
    have HB8 := Lib.hid (HB7.out.trans (hb8.mono HB7.out.size))
    have HO98 := Lib.hid ((hb8.block _ (Array.getElem?_eq_some_iff.1 HO97.out).1).trans HO97.out)
    have hcells : (fgV oneF (.slice ka oneF.kids.length kc)).toArray = #[.int .i64 1, .int .i64 0, .string ⟨#[120]⟩, .int .i64 0, .int .i64 0, .string ⟨#[]⟩, .slice ka 0 kc] := rfl
    rw [hcells]
    obtain ⟨ob, hob⟩ : ∃ ob, ob = w5.heap.size := ⟨_, rfl⟩
    rw [← hob] at HO98 ⊢
    have hobz : ob < w8.heap.size := (Array.getElem?_eq_some_iff.1 HO98.out).1
    clear hb8 hcells HAT HC7 HV7 HFO HO97 HB7 hob
    obtain ⟨d0, d1, d2, d3, d4, d5, d6, _⟩ := seven_cells HO98.out
    go_wp2_with fail
    refine (HA1.out _ _ _ (one_val (x := oneF) (ks := []) (kv := .slice ka 0 kc) (t := 52) (three_one w8 _ _ _) (FVal.nil _ _ _ _)) (one_val (x := oneF) (ks := []) (kv := .slice none 0 0) (t := 52) (three_two w8 _ _ _) (FVal.nil _ _ _ _))).mono ?_
    rintro e wz ⟨rfl, hbz⟩
    have HBZ := Lib.hid ((((HB8.out.alloc HB8.out.size _).alloc (by have := HB8.out.size; simp; omega) _).alloc (by have := HB8.out.size; simp; omega) _).trans (hbz.mono (by have := HB8.out.size; simp; omega)))
    clear hbz
    rw [HS1.out]
    go_wp2_with fail
    exact bodyPost_ret (v := .bool true) (by simp [results, Tryz.results7, go_sem]) rfl ⟨rfl, HBZ.out⟩
end

end Go.Proofs.YtafncodigpjkaaaGreatDoor
