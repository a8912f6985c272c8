/-
  The tokens of a text: the loop.
-/
import Derived.Test.YtledmagigkpbeaaDoorSC
namespace Go.Proofs.YtledmagigkpbeaaDoor
open Go.RowKit

theorem infoT : (Tryd.prog.info? 52).map (fun i => (i.zero, i.size, i.bytes)) = some (some (.agg #[.int .i64 0, .int .i64 0, .string ⟨#[]⟩, .int .i64 0, .int .i64 0]), 5, 48) := by kernel_rfl

theorem pieces_all (t : ByteArray) (w : World) (E : Env w) : Calls Tryd.prog 14 #[.string t] w (PiecesEnd t w) := by
  by_cases ht : t.size ≤ 20000
  · exact callsIn_wide.1 (pieces_run t ht w E)
  · have hlen : (20000 : Int) < (t.size : Int) := by omega
    have hr : piecesR t = ([], 0, 2) := by simp [piecesR, show 20000 < t.size by omega]
    have HR := Lib.hid hr
    clear hr ht E
    go_enter_defers Tryd.func14, Tryd.ntmps14
    go_wp2_with fail
    simp [bodyPostD, Leaves, results, Tryd.results14, go_sem]
    exact ⟨_, by rw [HR.out]; rfl, by rw [HR.out]; exact World.ownsRow_nil _ _ _ _, (((Below.refl _ w).alloc (Nat.le_refl _) _).alloc (by simp) _).alloc (by simp <;> omega) _⟩

theorem Addr.add_zero_off (g j : Nat) : (⟨g, 0, none⟩ : Addr).add j = ⟨g, j, none⟩ := by unfold Addr.add; split <;> simp_all
theorem row_down {w : World} {base base' : Nat} {e : TypeId} {size : Nat} {v : Value} {n : Nat} {xs : List Value} (h : w.ownsRow base e size v n xs) (hb : base' ≤ base) : w.ownsRow base' e size v n xs := by
  refine ⟨h.1, ?_⟩
  rcases h.2 with hn | ⟨g, cap, cur, hv, hg, rest⟩
  · exact .inl hn
  · exact .inr ⟨g, cap, cur, hv, Nat.le_trans hb hg, rest⟩
theorem flatP_get (l : List (Nat × Nat × Nat)) (k j : Nat) (x : Nat × Nat × Nat) (hk : l[k]? = some x) (hj : j < 3) : (flatP l)[k * 3 + j]? = (cellsP x)[j]? := by
  induction l generalizing k with
  | nil => simp at hk
  | cons y l ih =>
    have hc : flatP (y :: l) = cellsP y ++ flatP l := rfl
    have h3 : (cellsP y).length = 3 := rfl
    rw [hc]
    cases k with
    | zero =>
      simp at hk
      subst hk
      rw [List.getElem?_append_left (by omega)]
      simp
    | succ k =>
      rw [List.getElem?_append_right (by omega), h3, show (k + 1) * 3 + j - 3 = k * 3 + j by omega]
      exact ih k (by simpa using hk)

/-- The pieces that are tokens. -/
def toksR (t : ByteArray) : List (Nat × Nat × Nat) := (piecesR t).1.filter fun x => isTok x.1
theorem flatT_snoc (t : ByteArray) (l : List (Nat × Nat × Nat)) (x : Nat × Nat × Nat) : flatT t (l ++ [x]) = flatT t l ++ cellsT t x := by simp [flatT]
def ScanEnd (t : ByteArray) (w : World) (e : Ending) (w' : World) : Prop :=
  ∃ v, e = .returned (.tuple #[v, .int .i64 ((piecesR t).2.1 : Int), .int .i64 ((piecesR t).2.2 : Int)]) ∧ w'.ownsRow w.heap.size 52 5 v (toksR t).length (flatT t (toksR t)) ∧ Below w.heap.size w w'

theorem take_filter_succ (l : List (Nat × Nat × Nat)) (k : Nat) (x : Nat × Nat × Nat) (hk : l[k]? = some x) :
    (l.take (k + 1)).filter (fun x => isTok x.1) = (l.take k).filter (fun x => isTok x.1) ++ (if isTok x.1 then [x] else []) := by
  have hlt : k < l.length := by
    apply Classical.byContradiction; intro h
    rw [List.getElem?_eq_none (by omega)] at hk; cases hk
  rw [List.take_succ_eq_append_getElem hlt, List.filter_append]
  have : l[k] = x := by rw [List.getElem?_eq_getElem hlt] at hk; injection hk
  rw [this]
  cases h : isTok x.1 <;> simp [h]

set_option maxHeartbeats 4000000 in
set_option maxRecDepth 100000 in
theorem scan_any (t : ByteArray) (w : World) (E : Env w) : Calls Tryd.prog 15 #[.string t] w (ScanEnd t w) := by
  have hp := pieces_all t w E
  have HP := Lib.hid hp
  clear hp
  by_cases he : (piecesR t).2.2 = 0
  · have he' : (((piecesR t).2.2 : Int) != 0) = false := by rw [he]; rfl
    go_enter Tryd.func15, Tryd.ntmps15
    go_wp2_with fail
    refine HP.out.mono ?_
    rintro e w1 ⟨v, rfl, hrow, hb⟩
    obtain ⟨b0, n0, c0, rfl⟩ : ∃ a n c, v = .slice a n c := by
      rcases hrow.2 with ⟨rfl, _⟩ | ⟨g, cap, cur, rfl, _⟩
      · exact ⟨_, _, _, rfl⟩
      · exact ⟨_, _, _, rfl⟩
    have hn0 : n0 = (piecesR t).1.length := by
      rcases hrow.2 with ⟨h1, h2⟩ | ⟨g, cap, cur, h1, _⟩
      · injection h1 with _ h3 _; omega
      · injection h1
    go_wp2_with fail
    obtain ⟨hat0, hl, hc2, ht⟩ := piecesR_ok he
    have hmem := cutF_in t (t.size + 1) 0 false 0
    have hll := cutAll_len t
    have HAT := Lib.hid hat0
    have HEZ := Lib.hid he
    have HL := Lib.hid hl
    have HIN : Hid (∀ x, x ∈ (piecesR t).1 → 1 ≤ x.1 ∧ x.1 ≤ 8 ∧ 1 ≤ x.2.2 ∧ x.2.1 + x.2.2 ≤ t.size) := Lib.hid (by rw [hl]; exact hmem)
    have HLEN : (piecesR t).1.length ≤ 20000 := by rw [hl]; omega
    have HTK : Hid (toksR t = (piecesR t).1.filter fun x => isTok x.1) := Lib.hid rfl
    have HE := Lib.hid (fun (W : World) (h : Below w.heap.size w W) => E.below E.size h)
    clear hat0 hl hc2 hmem hll he he' HP E
    subst hn0
    have HR := Lib.hid hrow; have HB := Lib.hid hb
    clear hrow hb
    generalize (piecesR t).1 = l at *
    obtain ⟨i0, hi, hz0, hz1, hz2⟩ := info_parts infoT
    go_loopw [8, 23] (fun tv iv wr => ∃ k : Nat, k ≤ l.length ∧ iv = .int .i64 k ∧ wr.ownsRow w1.heap.size 52 5 tv ((l.take k).filter fun x => isTok x.1).length (flatT t ((l.take k).filter fun x => isTok x.1)) ∧ Below w1.heap.size w1 wr) (fun _ iv _ => l.length - (intOf iv).toNat)
    case atStart => exact ⟨0, by omega, rfl, World.ownsRow_nil _ _ _ _, Below.refl _ _⟩
    case round =>
      obtain ⟨k, hk, rfl, hro, hbe⟩ := hrel
      have HRO := Lib.hid hro; have HBE := Lib.hid hbe
      clear hro hbe
      by_cases hlt : k < l.length
      · obtain ⟨x, hx⟩ : ∃ x, l[k]? = some x := ⟨_, List.getElem?_eq_getElem hlt⟩
        obtain ⟨g, rfl⟩ : ∃ g, b0 = some ⟨g, 0, none⟩ := by
          rcases HR.out.2 with ⟨h1, h2⟩ | ⟨g, cap, cur, h1, _⟩
          · omega
          · injection h1 with h1 _ _; exact ⟨g, h1⟩
        have hgl := HR.out.lt g rfl
        have hcell := HR.out.cells (g := g) rfl
        have e0 : wr.cell? ⟨g, k * 3, none⟩ = some (.int .i64 (x.1 : Int)) := (HBE.out.cell (p := ⟨g, k * 3, none⟩) hgl.2).trans (by have := hcell (k * 3 + 0) _ (by rw [flatP_get l k 0 x hx (by omega)]; rfl); rw [Addr.add_zero_off] at this; exact this)
        have e1 : wr.cell? ⟨g, k * 3 + 1, none⟩ = some (.int .i64 (x.2.1 : Int)) := (HBE.out.cell (p := ⟨g, k * 3 + 1, none⟩) hgl.2).trans (by have := hcell (k * 3 + 1) _ (by rw [flatP_get l k 1 x hx (by omega)]; rfl); rw [Addr.add_zero_off] at this; exact this)
        have e2 : wr.cell? ⟨g, k * 3 + 2, none⟩ = some (.int .i64 (x.2.2 : Int)) := (HBE.out.cell (p := ⟨g, k * 3 + 2, none⟩) hgl.2).trans (by have := hcell (k * 3 + 2) _ (by rw [flatP_get l k 2 x hx (by omega)]; rfl); rw [Addr.add_zero_off] at this; exact this)
        clear hcell
        have hxin := HIN.out x (List.mem_iff_getElem?.2 ⟨k, hx⟩)
        go_wp2_with fail
        refine (isToken_any (x.1 : Int) _).mono ?_
        rintro e w2 ⟨rfl, rfl⟩
        cases hb : isTok x.1
        · have hb' : (decide (1 ≤ (x.1 : Int)) && decide ((x.1 : Int) ≤ 6)) = false := hb
          simp only [hb']
          go_wp2_with fail
          have hf := take_filter_succ l k x hx
          rw [hb] at hf
          simp only [Bool.false_eq_true, if_false, List.append_nil] at hf
          refine ⟨⟨k + 1, hlt, by simp, by rw [hf]; exact HRO.out.alloc _, HBE.out.alloc HBE.out.size _⟩, by simp only [intOf]; omega⟩
        · have hb' : (decide (1 ≤ (x.1 : Int)) && decide ((x.1 : Int) ≤ 6)) = true := hb
          simp only [hb']
          have hB2 : Below w1.heap.size w1 (wr.alloc (.cells #[.int .i64 (x.1 : Int), .int .i64 (x.2.1 : Int), .int .i64 (x.2.2 : Int)] 33)) := HBE.out.alloc HBE.out.size _
          have HB2 := Lib.hid hB2
          clear hB2
          go_wp2_with fail
          refine (token_any t x.1 x.2.1 x.2.2 hxin.2.2.2 (by omega) _ (HE.out _ (HB.out.trans (HB2.out.mono HB.out.size)))).mono ?_
          rintro e w3 ⟨rfl, hb3⟩
          have H3 := Lib.hid (HB2.out.trans (hb3.mono HB2.out.size))
          have R3 := Lib.hid (row_same (HRO.out.alloc (.cells #[.int .i64 (x.1 : Int), .int .i64 (x.2.1 : Int), .int .i64 (x.2.2 : Int)] 33)) (fun j _ h2 => hb3.block j h2))
          have hfl : ((l.take k).filter fun x => isTok x.1).length ≤ 20000 := Nat.le_trans (List.length_filter_le _ _) (by rw [List.length_take]; omega)
          have HNEW : Hid (∀ j u, (cellsT t x)[j]? = some u → (w3.alloc (.cells #[.int .i64 (x.1 : Int), .int .i64 (numT t (x.1, x.2.1, x.2.2)), .string (cutB t x.2.1 x.2.2), .int .i64 (x.2.1 : Int), .int .i64 0] 52)).cell? ((⟨w3.heap.size, 0, none⟩ : Addr).add j) = some u) := Lib.hid (by
            intro j u hj
            match j, hj with
            | 0, hj => simp [cellsT] at hj; subst hj; simp [Addr.add]
            | 1, hj => simp [cellsT] at hj; subst hj; simp [Addr.add]
            | 2, hj => simp [cellsT] at hj; subst hj; simp [Addr.add]
            | 3, hj => simp [cellsT] at hj; subst hj; simp [Addr.add]
            | 4, hj => simp [cellsT] at hj; subst hj; simp [Addr.add]
            | j + 5, hj => simp [cellsT] at hj)
          have hs3 : w1.heap.size ≤ w3.heap.size := H3.out.size
          clear hb3
          go_wp2_with (at_builtin; (refine wpList_append_own _ rfl _ _ 35 rfl w1.heap.size 52 i0 (.agg #[.int .i64 0, .int .i64 0, .string ⟨#[]⟩, .int .i64 0, .int .i64 0]) 5 48 Tryd.underlying35 hi hz0 hz1 hz2 rfl (by decide) _ _ _ rfl (R3.out.alloc _) ⟨w3.heap.size, 0, none⟩ 1 1 (cellsT t x) rfl rfl HNEW.out (by simp [cellsT, Value.oneCell']) (by unfold maxLen; omega) (by omega) (by simp; omega) ?_); intro v' w4 hown' hgrow _; have HOWN := Lib.hid hown'; have HG := Lib.hid hgrow; clear hown' hgrow)
          have hf := take_filter_succ l k x hx
          rw [hb] at hf
          simp only [if_true] at hf
          refine ⟨⟨k + 1, hlt, by simp, ?_, ?_⟩, by simp only [intOf]; omega⟩
          · rw [hf, flatT_snoc, List.length_append]; exact HOWN.out
          · exact Below.grown (H3.out.alloc H3.out.size _) HG.out (by simp; omega) (fun j hj => (HRO.out.lt j hj).1)
      · have hkl : k = l.length := by omega
        subst hkl
        go_wp2_with fail
        refine bodyPost_ret (v := .tuple #[u8, .int .i64 0, .int .i64 0]) ?_ rfl ⟨u8, by rw [HAT.out, HEZ.out]; rfl, ?_, HB.out.trans (HBE.out.mono HB.out.size)⟩
        · simp [results, Tryd.results15, go_sem]
        · have := HRO.out
          rw [List.take_length] at this
          rw [HTK.out]
          exact row_down this HB.out.size
  · have he' : (((piecesR t).2.2 : Int) != 0) = true := by rw [bne_iff_ne]; omega
    have hbad := piecesR_bad he
    go_enter Tryd.func15, Tryd.ntmps15
    go_wp2_with fail
    refine HP.out.mono ?_
    rintro e w1 ⟨v, rfl, hrow, hb⟩
    have HB := Lib.hid hb
    clear hrow hb HP E
    go_wp2_with fail
    refine bodyPost_ret (v := .tuple #[.slice none 0 0, .int .i64 ((piecesR t).2.1 : Int), .int .i64 ((piecesR t).2.2 : Int)]) ?_ rfl ⟨_, rfl, ?_, HB.out⟩
    · simp [results, Tryd.results15, go_sem]
    · rw [show toksR t = [] by simp [toksR, hbad]]; exact World.ownsRow_nil _ _ _ _
end Go.Proofs.YtledmagigkpbeaaDoor
