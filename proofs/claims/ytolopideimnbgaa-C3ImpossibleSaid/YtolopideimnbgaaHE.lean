/-
  hierarchyOf and find.
-/
import Derived.Test.YtolopideimnbgaaHD
import Derived.StillTailTactics
namespace Go.Proofs.Ytolopideimnbgaa
open Go.RowKit

def posG (s : ByteArray) : List Hr → Nat → Option Nat → Option Nat
  | [], _, a => a
  | x :: r, k, a => posG s r (k + 1) (if x.1 = s then some k else a)
def posM (g : List Hr) (s : ByteArray) : Option Nat := posG s g 0 none
theorem posG_snoc (s : ByteArray) (x : Hr) : ∀ (l : List Hr) (k : Nat) (a : Option Nat), posG s (l ++ [x]) k a = if x.1 = s then some (k + l.length) else posG s l k a
  | [], k, a => rfl
  | y :: l, k, a => by
    show posG s (l ++ [x]) (k + 1) _ = _
    rw [posG_snoc s x l, List.length_cons, show k + 1 + l.length = k + (l.length + 1) by omega]
    rfl
theorem posG_some (s : ByteArray) : ∀ (l : List Hr) (k : Nat) (a : Option Nat) (n : Nat), posG s l k a = some n → a = some n ∨ ∃ j x, n = k + j ∧ l[j]? = some x ∧ x.1 = s
  | [], k, a, n, h => .inl h
  | y :: l, k, a, n, h => by
    rcases posG_some s l (k + 1) _ n h with h1 | ⟨j, x, h1, h2, h3⟩
    · by_cases e : y.1 = s
      · rw [if_pos e] at h1
        cases h1
        exact .inr ⟨0, y, rfl, rfl, e⟩
      · rw [if_neg e] at h1; exact .inl h1
    · exact .inr ⟨j + 1, x, by omega, by simpa using h2, h3⟩
theorem posG_none (s : ByteArray) : ∀ (l : List Hr) (k : Nat) (a : Option Nat), posG s l k a = none ↔ a = none ∧ ¬ s ∈ l.map (·.1)
  | [], k, a => by simp [posG]
  | y :: l, k, a => by
    show posG s l (k + 1) _ = none ↔ _
    rw [posG_none s l]
    by_cases e : y.1 = s
    · rw [if_pos e]; simp [e]
    · have e' : ¬ s = y.1 := fun h => e h.symm
      rw [if_neg e]; simp [e']
theorem posM_some {g : List Hr} {s : ByteArray} {n : Nat} (h : posM g s = some n) : ∃ x, g[n]? = some x ∧ x.1 = s := by
  rcases posG_some s g 0 none n h with h | ⟨j, x, h1, h2, h3⟩
  · cases h
  · rw [Nat.zero_add] at h1; subst h1; exact ⟨x, h2, h3⟩
theorem posM_none {g : List Hr} {s : ByteArray} : posM g s = none ↔ ¬ s ∈ g.map (·.1) := by
  have := posG_none s g 0 none
  simpa [posM] using this
def posF (g : List Hr) (s : ByteArray) : Option Value := (posM g s).map fun n => .int .i64 (n : Int)
theorem posF_next {g : List Hr} {k : Nat} {x : Hr} (h : g[k]? = some x) (s : ByteArray) : posF (g.take (k + 1)) s = if x.1 = s then some (.int .i64 (k : Int)) else posF (g.take k) s := by
  have hk := (List.getElem?_eq_some_iff.1 h).1
  unfold posF posM
  rw [List.take_add_one, h, Option.toList_some, posG_snoc]
  by_cases e : x.1 = s
  · rw [if_pos e, if_pos e, List.length_take, Nat.min_eq_left (by omega)]; simp
  · rw [if_neg e, if_neg e]

/-- A hierarchy in memory. -/
structure HierAt (W : World) (B hb ab kb : Nat) (gv : Value) (g : List Hr) : Prop where
  row : HRow W (fun b => b < B) gv g
  blk : W.heap[hb]? = some (.cells #[gv, .map (some ab), .map (some kb)] 99)
  pos : MapF W ab (posF g)
  le : B ≤ hb ∧ B ≤ ab ∧ B ≤ kb
  ne : hb ≠ ab ∧ hb ≠ kb ∧ ab ≠ kb
theorem HierAt.keep {W W' : World} {B hb ab kb : Nat} {gv : Value} {g : List Hr} {S : Nat → Prop} (h : HierAt W B hb ab kb gv g) (hk : Keep S W W') (hS : ∀ b, S b → B ≤ b ∧ b ≠ hb ∧ b ≠ ab) : HierAt W' B hb ab kb gv g :=
  ⟨h.row.keepS hk fun b hb _ hs => by have := (hS b hs).1; omega, (hk.block hb (Array.getElem?_eq_some_iff.1 h.blk).1 fun hs => (hS hb hs).2.1 rfl).trans h.blk, h.pos.keep (hk.block ab h.pos.lt fun hs => (hS ab hs).2.2 rfl), h.le, h.ne⟩
theorem HierAt.below {W W' : World} {B hb ab kb : Nat} {gv : Value} {g : List Hr} (h : HierAt W B hb ab kb gv g) (hk : Below W.heap.size W W') : HierAt W' B hb ab kb gv g :=
  h.keep (S := fun _ => False) (.of_below hk) fun _ h => h.elim
theorem HierAt.cell {W : World} {B hb ab kb : Nat} {gv : Value} {g : List Hr} (h : HierAt W B hb ab kb gv g) : W.cell? ⟨hb, 0, none⟩ = some gv ∧ W.cell? ⟨hb, 1, none⟩ = some (.map (some ab)) ∧ W.cell? ⟨hb, 2, none⟩ = some (.map (some kb)) :=
  ⟨by rw [cellOf h.blk]; rfl, by rw [cellOf h.blk]; rfl, by rw [cellOf h.blk]; rfl⟩
theorem HierAt.lt {W : World} {B hb ab kb : Nat} {gv : Value} {g : List Hr} (h : HierAt W B hb ab kb gv g) : hb < W.heap.size := (Array.getElem?_eq_some_iff.1 h.blk).1
/-- What hierarchyOf leaves. -/
def NewH (gv : Value) (g : List Hr) (W : World) (w' : World) : Prop :=
  Below W.heap.size W w' ∧ HierAt w' W.heap.size (W.heap.size + 2) W.heap.size (W.heap.size + 1) gv g ∧ MapF w' (W.heap.size + 1) fun _ => none
def OLoop (gv : Value) (g : List Hr) (W : World) (k : Nat) (wr : World) : Prop :=
  k ≤ g.length ∧ Below W.heap.size W wr ∧ wr.heap[W.heap.size + 2]? = some (.cells #[gv, .map (some W.heap.size), .map (some (W.heap.size + 1))] 99) ∧ MapF wr W.heap.size (posF (g.take k)) ∧ MapF wr (W.heap.size + 1) fun _ => none
theorem pos_upd {W : World} {mb k : Nat} {g : List Hr} {x : Hr} (h : MapF W mb (posF (g.take k))) (hx : g[k]? = some x) :
    ∃ o, ∀ W' : World, W'.heap[mb]? = W.heap[mb]? → (Instr.mapUpdate 96 (.map (some mb)) (.string x.1) (.int .i64 (k : Int))).run Try.prog W' = .ok () (W'.putObj mb o) ∧ MapF (W'.putObj mb o) mb (posF (g.take (k + 1))) := by
  obtain ⟨o, ho⟩ := h.upd Try.underlying96 Try.underlying9 x.1 (.int .i64 (k : Int))
  refine ⟨o, fun W' hb => ⟨(ho W' hb).1, (ho W' hb).2.ext fun t => ?_⟩⟩
  rw [posF_next hx]
set_option maxRecDepth 100000 in
set_option maxHeartbeats 2000000 in
theorem hierarchyOf_any (g : List Hr) (v : Value) (W : World) (hr : HRow W (fun b => b < W.heap.size) v g) (hn : g.length ≤ 120) :
    Calls Try.prog 61 #[v] W fun e w' => e = .returned (.pointer (some ⟨W.heap.size + 2, 0, none⟩)) ∧ NewH v g W w' := by
  have HRW := Lib.hid hr
  obtain ⟨b, c, rfl, hrow⟩ := hr
  have hm1 := run_makeMap (P := Try.prog) 96 W
  have hm2 := run_makeMap (P := Try.prog) 97 (W.alloc (.map #[] 0))
  simp only [World.size_alloc] at hm2
  have HP1 := Lib.hid (MapF.new W W.heap.size rfl)
  have HP2 := Lib.hid (MapF.new (W.alloc (.map #[] 0)) (W.heap.size + 1) (by simp))
  obtain ⟨X, hX⟩ : ∃ X, X = ((W.alloc (.map #[] 0)).alloc (.map #[] 0)).alloc (.cells #[.slice b g.length c, .map (some W.heap.size), .map (some (W.heap.size + 1))] 99) := ⟨_, rfl⟩
  have HXB : Hid (OLoop (.slice b g.length c) g W 0 X) := Lib.hid (by
    rw [hX]
    refine ⟨by omega, (((Below.refl _ W).alloc (Nat.le_refl _) _).alloc (by simp) _).alloc (by simp; omega) _, ?_, ?_, ?_⟩
    · have := heap_alloc_new ((W.alloc (.map #[] 0)).alloc (.map #[] 0)) (.cells #[.slice b g.length c, .map (some W.heap.size), .map (some (W.heap.size + 1))] 99)
      simpa using this
    · exact (HP1.out.keep ((Below.heap_alloc _ _ _ (by simp; omega)).trans (Below.heap_alloc _ _ _ (by simp)))).ext fun s => rfl
    · exact HP2.out.keep (Below.heap_alloc _ _ _ (by simp)))
  clear HP1 HP2
  go_enter Try.func61, Try.ntmps61
  go_wp2_with fail
  rw [← hX]
  clear hX hm1 hm2
  go_loopw [13] (fun i wr => ∃ k : Nat, i = .int .i64 (k : Int) ∧ Hid (OLoop (.slice b g.length c) g W k wr)) (fun i _ => g.length - (intOf i).toNat)
  case atStart => exact ⟨0, rfl, HXB⟩
  case round =>
    obtain ⟨k, rfl, hst⟩ := hrel
    have hk := hst.out.1
    by_cases hlt : k < g.length
    · obtain ⟨⟨nm, su⟩, hx⟩ : ∃ x, g[k]? = some x := ⟨_, List.getElem?_eq_getElem hlt⟩
      obtain ⟨gb, o, rfl, _, hg, hat, _⟩ := hrow (by rintro rfl; simp at hlt)
      obtain ⟨_, hbe, hhb, hpos, hkn⟩ := hst.out
      obtain ⟨e0, sv, e1, hsv⟩ := hat k _ hx
      have e0' := (hbe.cell (p := ⟨gb, o + k * 2, none⟩) hg).trans e0
      have e1' := (hbe.cell (p := ⟨gb, o + k * 2 + 1, none⟩) hg).trans e1
      obtain ⟨sb, sc, rfl, hsr⟩ := id hsv
      simp only at e0' e1' hsv
      have hl2 : (k : Int) < (g.length : Int) := by omega
      have w3 : IntKind.i64.wrap ((k : Int) + 1) = (k : Int) + 1 := IntWalk.i64_in _ (by omega)
      have hzz : W.heap.size + 2 < wr.heap.size := (Array.getElem?_eq_some_iff.1 hhb).1
      have hbx := (Below.refl wr.heap.size wr).alloc (Nat.le_refl _) (.cells #[.string nm, .slice sb su.length sc] 57)
      have e2 : (wr.alloc (.cells #[.string nm, .slice sb su.length sc] 57)).cell? ⟨W.heap.size + 2, 1, none⟩ = some (.map (some W.heap.size)) := (hbx.cell (p := ⟨W.heap.size + 2, 1, none⟩) hzz).trans (by rw [cellOf hhb]; rfl)
      obtain ⟨ob, hob⟩ := pos_upd hpos hx
      have hup := hob (wr.alloc (.cells #[.string nm, .slice sb su.length sc] 57)).drew (hbx.block _ hpos.lt)
      have hu1 := hup.1
      simp only at hu1
      have HNX : Hid (OLoop (.slice (some ⟨gb, o, none⟩) g.length c) g W (k + 1) ((wr.alloc (.cells #[.string nm, .slice sb su.length sc] 57)).drew.putObj W.heap.size ob)) := Lib.hid
        ⟨hlt, ((Keep.of_below (S := fun _ => False) (hbe.trans (hbx.mono hbe.size)).drew).putObj (.inr (Nat.le_refl _)) ob).below0,
          (World.putObj_heap_other (by omega)).trans ((hbx.block _ hzz).trans hhb), hup.2, hkn.keep ((World.putObj_heap_other (by omega)).trans (hbx.block _ hkn.lt))⟩
      clear hst hat hx hbe hsv e0 e1 hsr hbx hup hob hpos hkn hhb hzz
      have e3 : (wr.alloc (.cells #[.string nm, .slice sb su.length sc] 57)).cell? ⟨wr.heap.size, 0, none⟩ = some (.string nm) := by rw [cellOf (heap_alloc_new wr _)]; rfl
      go_wp2_with fail
      generalize wr.alloc (.cells #[.string nm, .slice sb su.length sc] 57) = X2 at e2 e3 hu1 HNX ⊢
      go_still_tail 7, (by kernel_rfl)
      change wpList _ _ _ _ _ X2.drew
      go_wp2_with fail
      exact ⟨⟨k + 1, by simp, HNX⟩, by simp only [intOf]; omega⟩
    · have hl2 : ((k : Int) < (g.length : Int)) = False := by simp; omega
      have hkl : g.take k = g := List.take_of_length_le (by omega)
      have HF : Hid (NewH (.slice b g.length c) g W wr) := Lib.hid (by
        obtain ⟨_, hbe, hhb, hpos, hkn⟩ := hst.out
        rw [hkl] at hpos
        exact ⟨hbe, ⟨HRW.out.keep (fun b hb _ => hbe.block b hb) hbe.size, hhb, hpos, by omega, by omega⟩, hkn⟩)
      clear hst hkl
      go_wp2_with fail
      exact bodyPost_ret (v := .pointer (some ⟨W.heap.size + 2, 0, none⟩)) (by simp [results, Try.results61, go_sem]) rfl ⟨rfl, HF.out⟩
end Go.Proofs.Ytolopideimnbgaa
