/-
  What is opened is closed in order: the models.
  What is open behind each token: the law's list.
  The law: what is opened is closed in order.
-/
import Derived.Test.YtcokdapnafgnpaaGreatDoorFGM
import Derived.Deep.AppendLies
import Derived.Deep.RegionLaw
import Derived.Test.YtcokdapnafgnpaaGreatDoorFGJ
import Derived.WalkSmall
namespace Go.Proofs.YtcokdapnafgnpaaGreatDoor
section

mutual
/-- How many groups are open behind each token. -/
def opdF : Fg → Nat → List Nat
  | .mk _ o ks, d => if o = sNo then [d] else (d + 1) :: (opdL ks (d + 1) ++ [d])
def opdL : List Fg → Nat → List Nat
  | [], _ => []
  | x :: r, d => opdF x d ++ opdL r d
end
mutual
/-- Each group's token has the opening as its text. -/
def TagF (ws : List ByteArray) : Fg → Prop
  | .mk t o ks => o = sNo ∨ (t.2.2.1 = o ∧ o ∈ basics ++ ws ∧ TagL ws ks)
def TagL (ws : List ByteArray) : List Fg → Prop
  | [] => True
  | x :: r => TagF ws x ∧ TagL ws r
end
theorem opdL_nil (d : Nat) : opdL [] d = [] := by rw [opdL]
theorem opdL_cons (x : Fg) (r : List Fg) (d : Nat) : opdL (x :: r) d = opdF x d ++ opdL r d := by rw [opdL]
theorem opdF_leaf {x : Fg} (h : x.opn = sNo) (d : Nat) : opdF x d = [d] := by
  obtain ⟨t, o, ks⟩ := x
  rw [opdF]; exact if_pos h
theorem opdF_group {x : Fg} (h : ¬ x.opn = sNo) (d : Nat) : opdF x d = (d + 1) :: (opdL x.kids (d + 1) ++ [d]) := by
  obtain ⟨t, o, ks⟩ := x
  rw [opdF]; exact if_neg h
mutual
theorem opdF_len : ∀ (x : Fg) (d : Nat), (opdF x d).length = (tkF x).length
  | .mk t o ks, d => by
    have ih := opdL_len ks (d + 1)
    by_cases h : o = sNo
    · rw [opdF_leaf (x := .mk t o ks) h, tkF_leaf (x := .mk t o ks) h]; rfl
    · rw [opdF_group (x := .mk t o ks) h, tkF_group (x := .mk t o ks) h]
      simp [Fg.kids, ih]
theorem opdL_len : ∀ (l : List Fg) (d : Nat), (opdL l d).length = (tkA l).length
  | [], d => by rw [opdL_nil, tkA_nil]; rfl
  | x :: r, d => by
    have h1 := opdF_len x d
    have h2 := opdL_len r d
    rw [opdL_cons, tkA_cons, List.length_append, List.length_append, h1, h2]
end
theorem TagL.append {ws : List ByteArray} : ∀ {a b : List Fg}, TagL ws a → TagL ws b → TagL ws (a ++ b)
  | [], b, _, hb => hb
  | x :: r, b, ha, hb => by
    rw [List.cons_append]
    unfold TagL at ha ⊢
    exact ⟨ha.1, ha.2.append hb⟩
theorem TagL.one {ws : List ByteArray} {x : Fg} (h : TagF ws x) : TagL ws [x] := by
  unfold TagL
  exact ⟨h, by unfold TagL; trivial⟩
theorem TagL.nil (ws : List ByteArray) : TagL ws [] := by unfold TagL; trivial
def GpTag (ws : List ByteArray) (g : Gp) : Prop := (g.opn = sNo ∨ (g.tok.2.2.1 = g.opn ∧ g.opn ∈ basics ++ ws)) ∧ TagL ws g.kids
def StTag (ws : List ByteArray) (s : RS) : Prop := (∀ g ∈ s.pre, GpTag ws g) ∧ GpTag ws s.top
theorem step_tag {ok : Tkn → Bool} {ws : List ByteArray} {l : List Tkn} {i : Nat} {t : Tkn} {s s' : RS} (hd : StTag ws s) (h : stepM ok ws l i t s = .ok s') : StTag ws s' := by
  obtain ⟨_, ⟨_, rfl⟩ | ⟨ha, hn, rfl⟩ | ⟨_, ho, _, rfl⟩ | ⟨_, rfl⟩⟩ := step_cases h
  · exact hd
  · refine ⟨fun g hg => ?_, .inr ⟨rfl, act_opn ha⟩, .nil _⟩
    rcases List.mem_append.1 hg with hg | hg
    · exact hd.1 g hg
    · rw [List.mem_singleton.1 hg]; exact hd.2
  · unfold clsM
    cases hp : s.pre.getLast? with
    | none => exact hd
    | some g =>
      have hgm := hd.1 g (List.mem_of_getLast? hp)
      refine ⟨fun x hx => hd.1 x ((List.dropLast_sublist _).subset hx), hgm.1, hgm.2.append (.one ?_)⟩
      unfold Gp.fg TagF
      rcases hd.2.1 with e | ⟨e1, e2⟩
      · exact .inl e
      · exact .inr ⟨e1, e2, hd.2.2⟩
  · refine ⟨hd.1, hd.2.1, hd.2.2.append (.one ?_)⟩
    unfold TagF
    exact .inl rfl
theorem run_tag {ok : Tkn → Bool} {ws : List ByteArray} {l : List Tkn} : ∀ (r : List Tkn) (i : Nat) (s : RS) (L : List Fg), StTag ws s → runM ok ws l r i s = .ok L → TagL ws L
  | [], i, s, L, hd, h => by
    unfold runM at h
    split at h
    · cases h; exact hd.2.2
    · cases h
  | t :: r, i, s, L, hd, h => by
    obtain ⟨s', hs, hr⟩ := run_cons h
    exact run_tag r (i + 1) s' L (step_tag hd hs) hr
theorem read_tag {ok : Tkn → Bool} {plain : ByteArray → Bool} {l : List Tkn} {ws : List ByteArray} {L : List Fg} (h : readM ok plain l ws = .ok L) : TagL ws L :=
  run_tag l 0 rs0 L ⟨(fun g hg => by cases hg), .inl rfl, .nil _⟩ (readM_run h).2.2
/-- The law's look at the tokens, one behind the other: what is open, and the greatest depth. -/
def mtM : List (ByteArray × Nat) → Nat → List ByteArray → Nat → Option (List ByteArray × Nat)
  | [], _, st, mo => some (st, mo)
  | (x, d) :: r, b, st, mo =>
    if b < d then mtM r d (st ++ [x]) (max mo d)
    else if d < b then match st.getLast? with
      | none => none
      | some y => if closingM y = x then mtM r d st.dropLast (max mo d) else none
    else mtM r d st (max mo d)
def txOf (l : List Tkn) : List ByteArray := l.map fun t => t.2.2.1
theorem txOf_append (a b : List Tkn) : txOf (a ++ b) = txOf a ++ txOf b := List.map_append
mutual
theorem mt_F (ws : List ByteArray) : ∀ (x : Fg) (d : Nat) (st : List ByteArray) (mo : Nat) (rest : List (ByteArray × Nat)), TagF ws x → d ≤ mo → mtM ((txOf (tkF x)).zip (opdF x d) ++ rest) d st mo = mtM rest d st (max mo (d + dpF x))
  | .mk t o ks, d, st, mo, rest, ht, hm => by
    by_cases h : o = sNo
    · rw [opdF_leaf (x := .mk t o ks) h, tkF_leaf (x := .mk t o ks) h, dpF_leaf (x := .mk t o ks) h]
      show mtM ((t.2.2.1, d) :: rest) d st mo = _
      conv => lhs; unfold mtM
      rw [if_neg (Nat.lt_irrefl _), if_neg (Nat.lt_irrefl _)]
      rfl
    · have ht2 : t.2.2.1 = o ∧ o ∈ basics ++ ws ∧ TagL ws ks := by
        unfold TagF at ht
        exact ht.resolve_left h
      obtain ⟨e1, _, e3⟩ := ht2
      have ih := mt_L ws ks (d + 1) (st ++ [o]) (max mo (d + 1)) ((closingM o, d) :: rest) e3 (by omega)
      rw [opdF_group (x := .mk t o ks) h, tkF_group (x := .mk t o ks) h, dpF_group (x := .mk t o ks) h]
      have hz : (txOf (t :: (tkA ks ++ [closeTok (.mk t o ks)]))).zip ((d + 1) :: (opdL ks (d + 1) ++ [d])) ++ rest = (o, d + 1) :: ((txOf (tkA ks)).zip (opdL ks (d + 1)) ++ (closingM o, d) :: rest) := by
        have hl : (txOf (tkA ks)).length = (opdL ks (d + 1)).length := by rw [opdL_len]; simp [txOf]
        show ((t.2.2.1, d + 1) :: ((txOf (tkA ks ++ [closeTok (.mk t o ks)])).zip (opdL ks (d + 1) ++ [d]))) ++ rest = _
        rw [txOf_append, List.zip_append hl, e1]
        simp only [List.cons_append, List.append_assoc]
        rfl
      show mtM ((txOf (t :: (tkA ks ++ [closeTok (.mk t o ks)]))).zip ((d + 1) :: (opdL ks (d + 1) ++ [d])) ++ rest) d st mo = _
      rw [hz]
      conv => lhs; unfold mtM
      rw [if_pos (Nat.lt_succ_self _), ih]
      conv => lhs; unfold mtM
      rw [if_neg (by omega), if_pos (Nat.lt_succ_self _), List.getLast?_concat, List.dropLast_concat]
      simp only [if_true]
      show mtM rest d st (max (max (max mo (d + 1)) (d + 1 + dpA ks)) d) = mtM rest d st (max mo (d + (1 + dpA ks)))
      congr 1
      omega
theorem mt_L (ws : List ByteArray) : ∀ (l : List Fg) (d : Nat) (st : List ByteArray) (mo : Nat) (rest : List (ByteArray × Nat)), TagL ws l → d ≤ mo → mtM ((txOf (tkA l)).zip (opdL l d) ++ rest) d st mo = mtM rest d st (max mo (d + dpA l))
  | [], d, st, mo, rest, ht, hm => by
    rw [tkA_nil, opdL_nil, dpA_nil]
    have : max mo (d + 0) = mo := by omega
    rw [this]
    rfl
  | x :: r, d, st, mo, rest, ht, hm => by
    unfold TagL at ht
    have h1 := mt_F ws x d st mo ((txOf (tkA r)).zip (opdL r d) ++ rest) ht.1 hm
    have h2 := mt_L ws r d st (max mo (d + dpF x)) rest ht.2 (by omega)
    have hl : (txOf (tkF x)).length = (opdF x d).length := by rw [opdF_len]; simp [txOf]
    rw [tkA_cons, opdL_cons, txOf_append, List.zip_append hl, List.append_assoc, h1, h2, dpA_cons]
    congr 1
    omega
end
/-- MATCHED, of the models. -/
theorem mt_all {ws : List ByteArray} {l : List Fg} (h : checkM l ws = 0) : mtM ((txOf (tkA l)).zip (opdL l 0)) 0 [] 0 = some ([], dpA l) := by
  have ht := read_tag (checkM_ok h).2.2.2
  have := mt_L ws l 0 [] 0 [] ht (Nat.le_refl _)
  rw [List.append_nil] at this
  rw [this]
  unfold mtM
  simp
end

section
open Go.RowKit

def intsL (l : List Nat) : List Value := l.map fun (n : Nat) => .int .i64 (n : Int)
theorem intsL_append (a b : List Nat) : intsL (a ++ b) = intsL a ++ intsL b := List.map_append
theorem intsL_length (a : List Nat) : (intsL a).length = a.length := List.length_map ..
theorem opdF_pos (x : Fg) (d : Nat) : 0 < (opdF x d).length := by
  by_cases h : x.opn = sNo
  · rw [opdF_leaf h]; exact Nat.one_pos
  · rw [opdF_group h]; exact Nat.succ_pos _
theorem opdL_append : ∀ (a b : List Fg) (d : Nat), opdL (a ++ b) d = opdL a d ++ opdL b d
  | [], b, d => by rw [opdL_nil]; rfl
  | x :: r, b, d => by rw [List.cons_append, opdL_cons, opdL_cons, opdL_append r b d, List.append_assoc]
theorem opdL_take {l : List Fg} {k : Nat} {x : Fg} (h : l[k]? = some x) (d : Nat) : opdL (l.take (k + 1)) d = opdL (l.take k) d ++ opdF x d := by
  rw [List.take_add_one, h, opdL_append, Option.toList_some, opdL_cons, opdL_nil, List.append_nil]
theorem opdL_take_le {l : List Fg} {k : Nat} {x : Fg} (h : l[k]? = some x) (d : Nat) : (opdL (l.take k) d).length + (opdF x d).length ≤ (opdL l d).length := by
  have h1 := opdL_take h d
  have h2 := opdL_append (l.take (k + 1)) (l.drop (k + 1)) d
  rw [List.take_append_drop] at h2
  rw [h2, h1, List.length_append, List.length_append]
  omega
theorem FVal.low {w w' : World} {P : Nat → Prop} {B : Nat} {v : Value} {l : List Fg} (h : FVal w P v l) (hP : ∀ b, P b → b < B) (hb : Below B w w') : FVal w' P v l := h.keep (fun b p _ => ⟨p, hb.block b (hP b p)⟩) hb.size
theorem infoI : (Tryz.prog.info? 3).map (fun i => (i.zero, i.size, i.bytes)) = some (some (.int .i64 0), 1, 8) := by kernel_rfl
/-- The cell of a block that is made, also where another is made after it. -/
theorem new_int {w : World} {B : Nat} {u : Value} {t : TypeId} {fr : Nat × Nat} (h : w.heap[B]? = some (.cells #[u] t fr)) : ∀ j x, [u][j]? = some x → w.cell? ((⟨B, 0, none⟩ : Addr).add j) = some x := World.news_of_block (cs := #[u]) h

/-- What lay lies as it lay, but for the row; the row's new block is the old one, or new. -/
def Gr (w : World) (r : Option Nat) (w' : World) (r' : Option Nat) : Prop := w.grownBy w' r ∧ ∀ b, r' = some b → r = some b ∨ w.heap.size ≤ b
theorem Gr.refl (w : World) (r : Option Nat) : Gr w r w r := ⟨⟨rfl, rfl, rfl, Nat.le_refl _, fun _ _ _ => rfl⟩, fun _ h => .inl h⟩
theorem Gr.trans {a b c : World} {r r' r'' : Option Nat} (h : Gr a r b r') (k : Gr b r' c r'') : Gr a r c r'' :=
  ⟨h.1.andThen k.1 (fun j hj => (h.2 j hj).symm), fun j hj => by
    rcases k.2 j hj with e | e
    · exact h.2 j e
    · exact .inr (Nat.le_trans h.1.size e)⟩
theorem Gr.drew {a b : World} {r r' : Option Nat} (h : Gr a r b r') : Gr a r b.drew r' := ⟨⟨h.1.os, h.1.tape, h.1.output, h.1.size, h.1.block⟩, h.2⟩
theorem Gr.alloc {a b : World} {r r' : Option Nat} (h : Gr a r b r') (O : Obj) : Gr a r (b.alloc O) r' := h.trans ⟨World.grownBy_alloc b O r', fun _ h => .inl h⟩
theorem Gr.app {a b c : World} {r r' : Option Nat} {g H : Nat} (h : Gr a r b r') (k : b.grownBy c r') (hat : r' = some g ∨ g = H) (hH : b.heap.size = H) : Gr a r c (some g) :=
  h.trans ⟨k, fun j hj => by
    cases hj
    exact hat.imp id fun e => by omega⟩
theorem lt_of_some {a : World} {B : Nat} {C : Obj} (hb : a.heap[B]? = some C) : B < a.heap.size := by
  rcases Nat.lt_or_ge B a.heap.size with e | e
  · exact e
  · rw [Array.getElem?_eq_none e] at hb; cases hb
theorem Gr.keep {a b : World} {r r' : Option Nat} (h : Gr a r b r') {B : Nat} {C : Obj} (hb : a.heap[B]? = some C) (hne : r ≠ some B) : b.heap[B]? = some C :=
  (h.1.block B (by exact lt_of_some hb) (fun e => hne e.symm)).trans hb
theorem Gr.below {a b : World} {r r' : Option Nat} (h : Gr a r b r') {base : Nat} (hr : ∀ j, r = some j → base ≤ j) (hb : base ≤ a.heap.size) : Below base a b :=
  (Below.refl _ _).grown h.1 hb hr
theorem app_keep {a c : World} {r : Option Nat} {g H n : Nat} (k : a.grownBy c r) (hat : r = some g ∨ g = H) (hH : a.heap.size = H) (hr : ∀ j, r = some j → j < n) : ∀ (B : Nat) (C : Obj), n ≤ B → a.heap[B]? = some C → c.heap[B]? = some C ∧ g ≠ B := fun B C hB hb => by
  have hlt : B < a.heap.size := by
    rcases Nat.lt_or_ge B a.heap.size with e | e
    · exact e
    · rw [Array.getElem?_eq_none e] at hb; cases hb
  refine ⟨(k.block B hlt fun e => by have := hr B e.symm; omega).trans hb, fun e => ?_⟩
  subst e
  rcases hat with e | e
  · have := hr _ e; omega
  · omega
theorem keep2 {a w3 w4 : World} {g3 n : Nat} {B : Nat} {C : Obj} (h3 : ∀ (B : Nat) (C : Obj), n ≤ B → a.heap[B]? = some C → w3.heap[B]? = some C ∧ g3 ≠ B) (h4 : ∀ (B : Nat) (C : Obj), g3 ≠ B → w3.heap[B]? = some C → w4.heap[B]? = some C) (hB : n ≤ B) (hb : a.heap[B]? = some C) : w4.heap[B]? = some C :=
  h4 B C (h3 B C hB hb).2 (h3 B C hB hb).1
theorem heap_new' {w : World} {O : Obj} {B : Nat} (h : B = w.heap.size) : (w.alloc O).heap[B]? = some O := by subst h; exact heap_alloc_new w O
/-- The loop over the fragments. -/
def OLoop (iv : Option Nat) (base : Nat) (xs : List Value) (l : List Fg) (d : Nat) (W : World) (k : Nat) (ov : Value) (wr : World) : Prop :=
  k ≤ l.length ∧ wr.ownsRow base 3 1 ov (xs.length + (opdL (l.take k) d).length) (xs ++ intsL (opdL (l.take k) d)) ∧ Gr W iv wr ov.ownBlock
def OpdPost (r : Option Nat) (base : Nat) (xs : List Value) (m : List Nat) (W : World) (e : Ending) (w' : World) : Prop :=
  ∃ v, e = .returned v ∧ w'.ownsRow base 3 1 v (xs.length + m.length) (xs ++ intsL m) ∧ Gr W r w' v.ownBlock
theorem opd_row {w : World} {base : Nat} {v : Value} {xs : List Value} {done M T : List Nat} {d : Nat} (e : T = done ++ (d + 1) :: (M ++ [d]))
    (h : w.ownsRow base 3 1 v (xs.length + done.length + 1 + M.length + 1) (xs ++ intsL done ++ [.int .i64 ((d : Int) + 1)] ++ intsL M ++ [.int .i64 (d : Int)])) : w.ownsRow base 3 1 v (xs.length + T.length) (xs ++ intsL T) := by
  have e1 : xs.length + T.length = xs.length + done.length + 1 + M.length + 1 := by rw [e]; simp; omega
  have e2 : xs ++ intsL T = xs ++ intsL done ++ [.int .i64 ((d : Int) + 1)] ++ intsL M ++ [.int .i64 (d : Int)] := by rw [e]; simp [intsL]
  rw [e1, e2]; exact h
set_option maxRecDepth 100000 in
set_option maxHeartbeats 8000000 in
theorem opened_run (base : Nat) (P : Nat → Prop) (hP : ∀ b, P b → b < base) (l : List Fg) (lv ov : Value) (xs : List Value) (d : Nat) (W : World) (hv : FVal W P lv l) (hbase : base ≤ W.heap.size) (ho : W.ownsRow base 3 1 ov xs.length xs)
    (hl : l.length ≤ 140737488351232) (hle : FgsLe 140737488351232 l) (hN : xs.length + (opdL l d).length ≤ 100000) (hd : d + (opdL l d).length ≤ 100000)
    (HC : ∀ (ks : List Fg) (kv ov' : Value) (xs' : List Value) (w : World), FVal w P kv ks → base ≤ w.heap.size → w.ownsRow base 3 1 ov' xs'.length xs' → ks.length ≤ 140737488351232 → FgsLe 140737488351232 ks →
      (opdL ks (d + 1)).length < (opdL l d).length → xs'.length + (opdL ks (d + 1)).length ≤ 100000 → d + 1 + (opdL ks (d + 1)).length ≤ 100000 → Calls Tryz.prog 43 #[ov', kv, .int .i64 ((d : Int) + 1)] w (OpdPost ov'.ownBlock base xs' (opdL ks (d + 1)) w)) :
    Calls Tryz.prog 43 #[ov, lv, .int .i64 (d : Int)] W (OpdPost ov.ownBlock base xs (opdL l d) W) := by
  have hv0 := hv
  have HOL := Lib.hid ho.lt
  obtain ⟨b, c, rfl, hrow⟩ := hv
  have w4' : IntKind.i64.wrap ((d : Int) + 1) = (d : Int) + 1 := IntWalk.i64_in _ (by omega)
  have HCC := Lib.hid HC
  have HR := Lib.hid hrow
  have HLE := Lib.hid hle
  have HOV := Lib.hid ho
  obtain ⟨i0, hi, hz0, hz1, hz2⟩ := info_parts infoI
  generalize how0 : ov.ownBlock = ow at HOL
  have HOB : Hid (ov.ownBlock = ow) := Lib.hid how0
  clear HC hrow hle ho hv0 how0
  go_enter Tryz.func43, Tryz.ntmps43
  go_wp2_with fail
  go_loopw [0, 7] (fun ov iv wr => ∃ k : Nat, iv = .int .i64 (k : Int) ∧ Hid (OLoop ow base xs l d W k ov wr)) (fun _ iv _ => l.length - (intOf iv).toNat)
  case atStart => exact ⟨0, rfl, Lib.hid ⟨by omega, by simpa [opdL_nil, intsL] using HOV.out, by rw [← HOB.out]; exact Gr.refl _ _⟩⟩
  case round =>
    obtain ⟨k, rfl, hr⟩ := hrel
    obtain ⟨hk, how, hgr⟩ := hr.out
    have hbe := hgr.below (fun j hj => (HOL.out j hj).1) hbase
    have w3' : IntKind.i64.wrap ((k : Int) + 1) = (k : Int) + 1 := IntWalk.i64_in _ (by omega)
    by_cases hlt : k < l.length
    · obtain ⟨x, hx⟩ : ∃ x, l[k]? = some x := ⟨_, List.getElem?_eq_getElem hlt⟩
      obtain ⟨g, o, rfl, hp, hg, hrw⟩ := HR.out (by rintro rfl; simp at hlt)
      obtain ⟨kv, hcell, hkv⟩ := (hrw.get hx).parts
      have hgb : g < base := hP g hp
      have hcell' : ∀ j u, (fgV x kv)[j]? = some u → wr.cell? ⟨g, o + k * 7 + j, none⟩ = some u := fun j u hu => (hbe.cell (p := ⟨g, o + k * 7 + j, none⟩) hgb).trans (hcell j u hu)
      have e5 : wr.cell? ⟨g, o + k * 7 + 5, none⟩ = some (.string x.opn) := hcell' 5 _ rfl
      have e6 : wr.cell? ⟨g, o + k * 7 + 6, none⟩ = some kv := hcell' 6 _ rfl
      have hlt' : (k : Int) < (l.length : Int) := by omega
      have HLX := Lib.hid (HLE.out.get hx)
      have HBE := Lib.hid hbe
      have HKV := Lib.hid (hkv.low hP hbe)
      have HBS : Hid (base ≤ wr.heap.size) := Lib.hid (by have := hbe.size; omega)
      have hle2 := opdL_take_le hx d
      have htk := opdL_take hx d
      have hgw : g < wr.heap.size := by have := HBS.out; omega
      generalize opdL (l.take k) d = done at how hle2 htk
      have HOW := Lib.hid how
      have HGR := Lib.hid hgr
      have HUL := Lib.hid fun j hj => (how.lt j hj).2
      have hpos := opdF_pos x d
      have HM0 : Hid (xs.length + done.length + 1 ≤ maxLen) := Lib.hid (by unfold maxLen; omega)
      have HM1 : Hid ((xs.length + done.length + 1) * 8 ≤ 140737488355328) := Lib.hid (by omega)
      clear hr hcell hcell' hbe hrw hx hkv how hgr
      by_cases ho : x.opn = sNo
      · rw [opdF_leaf ho] at htk
        have o1 := (lit_eq [] ho).1
        have o2 := (lit_eq [] ho).2
        have HTK := Lib.hid htk
        clear htk hpos hle2 ho
        go_wp2_with (at_builtin; go_loud (refine wpList_append_lies _ rfl _ _ 48 rfl base 3 i0 _ 1 8 Tryz.underlying48 hi hz0 hz1 hz2 rfl (by omega) _ (xs.length + done.length) _ rfl (HOW.out.alloc _) ⟨wr.heap.size, 0, none⟩ 1 1 [.int .i64 (d : Int)] rfl rfl (new_int (heap_alloc_new _ _)) (by simp [Value.oneCell']) (by omega) HM0.out HM1.out (by have := HBS.out; simp; omega) (wr.heap.size + 1) (by simp) ?_); intro g3 cap3 w3 hown3 hgrow3 hat3 hlt3; have HO3 := Lib.hid hown3; have HB3 := Lib.hid (Gr.app (HGR.out.alloc _) hgrow3 hat3 (by simp)); clear hown3 hgrow3 hat3 hlt3)
        refine ⟨⟨k + 1, by simp, Lib.hid ⟨by omega, ?_, HB3.out⟩⟩, by simp only [intOf]; omega⟩
        rw [HTK.out, intsL_append, List.length_append, List.length_singleton, ← Nat.add_assoc, ← List.append_assoc]
        exact HO3.out
      · rw [opdF_group ho] at htk hle2
        have o1 := (lit_ne [] ho).1
        have o2 := (lit_ne [] ho).2
        have HTK := Lib.hid htk
        have hlk : (opdL x.kids (d + 1)).length + 2 + done.length ≤ (opdL l d).length := by
          rw [List.length_cons, List.length_append, List.length_singleton] at hle2
          omega
        have HXS : Hid ((xs ++ intsL done ++ [Value.int .i64 ((d : Int) + 1)]).length = xs.length + done.length + 1) := Lib.hid (by simp [intsL_length]; omega)
        have HCK := Lib.hid fun (g3 cap3 : Nat) (w : World) (h1 : Gr wr u0.ownBlock w (some g3)) (h2 : w.ownsRow base 3 1 (.slice (some ⟨g3, 0, none⟩) (xs.length + done.length + 1) cap3) (xs.length + done.length + 1) (xs ++ intsL done ++ [Value.int .i64 ((d : Int) + 1)])) =>
          HCC.out x.kids kv (.slice (some ⟨g3, 0, none⟩) (xs.length + done.length + 1) cap3) _ w (HKV.out.low hP (h1.below (fun j hj => (HOW.out.lt j hj).1) HBS.out)) (by have := h1.1.size; have := HBS.out; omega) (by rw [HXS.out]; exact h2) HLX.out.1 HLX.out.2 (by omega) (by rw [HXS.out]; omega) (by omega)
        have HE6 := Lib.hid fun (g3 : Option Nat) (w : World) (h1 : Gr wr u0.ownBlock w g3) => show w.cell? ⟨g, o + k * 7 + 6, none⟩ = some kv ∧ g < w.heap.size from
          ⟨((h1.below (fun j hj => (HOW.out.lt j hj).1) HBS.out).cell (p := ⟨g, o + k * 7 + 6, none⟩) hgb).trans e6, by have := h1.1.size; omega⟩
        have HM2 : Hid (xs.length + done.length + 1 + (opdL x.kids (d + 1)).length + 1 ≤ maxLen) := Lib.hid (by unfold maxLen; omega)
        have HM3 : Hid ((xs.length + done.length + 1 + (opdL x.kids (d + 1)).length + 1) * 8 ≤ 140737488355328) := Lib.hid (by omega)
        generalize opdL x.kids (d + 1) = M at *
        clear htk hpos hle2 ho HCC HR HKV HLX HLE
        go_wp2_with fail
        go_region_law (first
         | (refine step_append_lies _ rfl (.tmp 24) (.tmp 27) 48 rfl base 3 i0 _ 1 8 Tryz.underlying48 hi hz0 hz1 hz2 rfl (by omega) _ (xs.length + done.length) (xs ++ intsL done) rfl (by first | exact HOW.out.drew.alloc _ | exact (HOW.out.drew.alloc _).alloc _) ⟨_, 0, none⟩ 1 1 [.int .i64 ((d : Int) + 1)] rfl rfl (new_int (by first | exact heap_new' (by simp) | exact (Below.heap_alloc _ _ _ (by simp)).trans (heap_new' (by simp)))) (by simp [Value.oneCell']) (by omega) HM0.out HM1.out (by have := HBS.out; simp; omega) _ rfl ?_; intro g3 cap3 w3 hown3 hgrow3 hat3 hlt3; have HG3 := Lib.hid (Gr.app (by first | exact (Gr.refl wr u0.ownBlock).drew.alloc _ | exact ((Gr.refl wr u0.ownBlock).drew.alloc _).alloc _) hgrow3 hat3 rfl); have HK3 := Lib.hid (app_keep hgrow3 hat3 rfl HUL.out); have HO3 := Lib.hid hown3; have HL3 := Lib.hid hlt3; have e63 := (HE6.out _ _ HG3.out).1; have hg3 := (HE6.out _ _ HG3.out).2; clear hown3 hgrow3 hat3 hlt3)
         | (go_simp; go_at_call 43; refine (HCK.out g3 cap3 _ (by first | exact HG3.out | exact HG3.out.alloc _) (by first | exact HO3.out | exact HO3.out.alloc _)).mono ?_; rintro e w4 ⟨v4, rfl, hown4, hg4⟩; have HG4 := Lib.hid (Gr.trans (by first | exact HG3.out | exact HG3.out.alloc _) hg4); have HK4 := Lib.hid (fun (B : Nat) (C : Obj) (hne : g3 ≠ B) hb => hg4.keep (B := B) (C := C) hb (by simpa [Value.ownBlock] using hne)); have HO4 : Hid (w4.ownsRow base 3 1 v4 (xs.length + done.length + 1 + M.length) (xs ++ intsL done ++ [Value.int .i64 ((d : Int) + 1)] ++ intsL M)) := Lib.hid (by rw [← HXS.out]; exact hown4); clear hown4 hg4)
         | (refine step_append_lies _ rfl (.tmp 36) (.tmp 38) 48 rfl base 3 i0 _ 1 8 Tryz.underlying48 hi hz0 hz1 hz2 rfl (by omega) _ (xs.length + done.length + 1 + M.length) (xs ++ intsL done ++ [Value.int .i64 ((d : Int) + 1)] ++ intsL M) rfl (by first | exact HO4.out | exact HO4.out.alloc _) ⟨_, 0, none⟩ 1 1 [.int .i64 (d : Int)] rfl rfl (new_int (by first | exact heap_new' (by simp) | exact HK4.out _ _ (by have := HL3.out; omega) (heap_new' (by simp)) | exact keep2 HK3.out HK4.out (by simp) (by first | exact heap_new' (by simp) | exact (Below.heap_alloc _ _ _ (by simp)).trans (heap_new' (by simp))))) (by simp [Value.oneCell']) (by omega) HM2.out HM3.out (by have := HBS.out; have := HG4.out.1.size; simp; omega) _ rfl ?_; intro g5 cap5 w5 hown5 hgrow5 hat5 hlt5; have HG5 := Lib.hid (Gr.app (by first | exact HG4.out | exact HG4.out.alloc _) hgrow5 hat5 rfl); have HO5 := Lib.hid hown5; clear hown5 hgrow5 hat5 hlt5))
        all_goals go_wp2_with fail
        all_goals exact ⟨⟨k + 1, by simp, Lib.hid ⟨by omega, opd_row HTK.out HO5.out, HGR.out.trans HG5.out⟩⟩, by simp only [intOf]; omega⟩
    · have hlt' : ((k : Int) < (l.length : Int)) = False := by simp; omega
      have hkl : l.take k = l := List.take_of_length_le (by omega)
      rw [hkl] at how
      have HOW := Lib.hid how
      have HGR := Lib.hid hgr
      clear hr how hbe hgr
      go_wp2_with fail
      exact bodyPost_ret (v := u0) (by simp [results, Tryz.results43, go_sem]) rfl ⟨_, rfl, HOW.out, HGR.out⟩
theorem opened_any (base : Nat) (P : Nat → Prop) (hP : ∀ b, P b → b < base) : ∀ (n : Nat) (l : List Fg) (lv ov : Value) (xs : List Value) (d : Nat) (W : World), (opdL l d).length < n → FVal W P lv l → base ≤ W.heap.size → W.ownsRow base 3 1 ov xs.length xs →
    l.length ≤ 140737488351232 → FgsLe 140737488351232 l → xs.length + (opdL l d).length ≤ 100000 → d + (opdL l d).length ≤ 100000 → Calls Tryz.prog 43 #[ov, lv, .int .i64 (d : Int)] W (OpdPost ov.ownBlock base xs (opdL l d) W)
  | 0, _, _, _, _, _, _, h, _, _, _, _, _, _, _ => absurd h (Nat.not_lt_zero _)
  | n + 1, l, lv, ov, xs, d, W, h, hv, hb, ho, hl, hle, hN, hd =>
    opened_run base P hP l lv ov xs d W hv hb ho hl hle hN hd fun ks kv ov' xs' w a1 a2 a3 a4 a5 a6 a7 a8 =>
      opened_any base P hP n ks kv ov' xs' (d + 1) w (by omega) a1 a2 a3 a4 a5 a7 a8
end

section
open Go.RowKit

def prevD (tx : List (ByteArray × Nat)) : Nat → Nat
  | 0 => 0
  | k + 1 => match tx[k]? with
    | some p => p.2
    | none => 0
theorem mt_step {tx : List (ByteArray × Nat)} {k b mo : Nat} {x : ByteArray} {d : Nat} {st : List ByteArray} {R : Option (List ByteArray × Nat)} (h : tx[k]? = some (x, d)) (hm : mtM (tx.drop k) b st mo = R) (hR : ∃ r, R = some r) :
    (b < d ∧ mtM (tx.drop (k + 1)) d (st ++ [x]) (max mo d) = R) ∨ (d < b ∧ ∃ st' y, st = st' ++ [y] ∧ closingM y = x ∧ mtM (tx.drop (k + 1)) d st' (max mo d) = R) ∨ (d = b ∧ mtM (tx.drop (k + 1)) d st (max mo d) = R) := by
  obtain ⟨r, rfl⟩ := hR
  obtain ⟨hk, he⟩ := List.getElem?_eq_some_iff.1 h
  rw [List.drop_eq_getElem_cons hk, he] at hm
  unfold mtM at hm
  by_cases h1 : b < d
  · rw [if_pos h1] at hm; exact .inl ⟨h1, hm⟩
  · rw [if_neg h1] at hm
    by_cases h2 : d < b
    · rw [if_pos h2] at hm
      refine .inr (.inl ⟨h2, ?_⟩)
      cases hl : st.getLast? with
      | none => rw [hl] at hm; cases hm
      | some y =>
        rw [hl] at hm
        simp only at hm
        by_cases h3 : closingM y = x
        · rw [if_pos h3] at hm
          have hne : st ≠ [] := by rintro rfl; cases hl
          have e := List.dropLast_concat_getLast hne
          rw [List.getLast?_eq_some_getLast hne] at hl
          cases hl
          exact ⟨st.dropLast, _, e.symm, h3, hm⟩
        · rw [if_neg h3] at hm; cases hm
    · rw [if_neg h2] at hm
      exact .inr (.inr ⟨by omega, hm⟩)
theorem irow_cell {w : World} {base n : Nat} {v : Value} {l : List Nat} (h : w.ownsRow base 3 1 v n (intsL l)) {k d : Nat} (hk : l[k]? = some d) : ∃ g cap, v = .slice (some ⟨g, 0, none⟩) n cap ∧ g < w.heap.size ∧ ∀ (j u : Nat), l[j]? = some u → w.cell? ⟨g, j, none⟩ = some (.int .i64 (u : Int)) := by
  have hn : 0 < n := by
    have h1 := h.1
    rw [intsL_length] at h1
    have := (List.getElem?_eq_some_iff.1 hk).1
    omega
  obtain ⟨g, cap, rfl, _, hg⟩ := h.form hn
  refine ⟨g, cap, rfl, hg, fun j u hj => ?_⟩
  have := h.cells (g := g) rfl j (.int .i64 (u : Int)) (by unfold intsL; rw [List.getElem?_map, hj]; rfl)
  rwa [Addr.add_zero_off] at this
theorem srow_last {w : World} {base : Nat} {v : Value} {st : List ByteArray} {y : ByteArray} (h : w.ownsRow base 9 1 v (st ++ [y]).length ((st ++ [y]).map .string)) :
    ∃ g cap, v = .slice (some ⟨g, 0, none⟩) (st.length + 1) cap ∧ w.cell? ⟨g, st.length, none⟩ = some (.string y) ∧ w.ownsRow base 9 1 (.slice (some ⟨g, 0, none⟩) st.length cap) st.length (st.map .string) ∧ st.length + 1 ≤ cap := by
  rw [List.length_append, List.length_singleton, List.map_append] at h
  obtain ⟨g, cap, rfl, _, _⟩ := h.form (Nat.succ_pos _)
  refine ⟨g, cap, rfl, ?_, ownsRow_pop (by simp) h, ?_⟩
  rotate_left
  · rcases h.2 with ⟨e, _⟩ | ⟨_, _, _, e, _, _, hc, _⟩
    · cases e
    · cases e; exact hc
  have := h.cells (g := g) rfl st.length (.string y) (by simp)
  rwa [Addr.add_zero_off] at this
theorem prevD_succ {tx : List (ByteArray × Nat)} {k : Nat} {x : ByteArray} {d : Nat} (h : tx[k]? = some (x, d)) : prevD tx (k + 1) = d := by
  show (match tx[k]? with | some p => p.2 | none => 0) = d
  rw [h]
/-- The loop over the tokens. -/
def MtLoop (tx : List (ByteArray × Nat)) (D : Nat) (W : World) (k : Nat) (st : List ByteArray) (mo : Nat) (ov : Value) (wr : World) : Prop :=
  k ≤ tx.length ∧ wr.ownsRow W.heap.size 9 1 ov st.length (st.map .string) ∧ mtM (tx.drop k) (prevD tx k) st mo = some ([], D) ∧ st.length ≤ k ∧ Below W.heap.size W wr
set_option maxRecDepth 100000 in
set_option maxHeartbeats 16000000 in
theorem matched_any (v0 v1 : Value) (l : List Fg) (ws : List ByteArray) (W : World) (E : Env W) (h0 : FVal W (fun b => b < W.heap.size) v0 l) (h1 : SRow W v1 ws)
    (hl : l.length ≤ 140737488351232) (hle : FgsLe 140737488351232 l) (hsz : FgsSz 140737488351232 l) (hwz : ∀ x ∈ ws, x.size ≤ 140737488351232) :
    Calls Tryz.prog 8 #[v0, v1] W fun e w' => e = .returned (.bool true) ∧ Below W.heap.size W w' := by
  have HSN := Lib.hid (sane_any W E)
  have HCK : Hid (∀ w', Below W.heap.size W w' → Calls Tryz.prog 30 #[v0, v1] w' (ErPost (checkM l ws) w')) := Lib.hid fun w' hb => Check_any _ l v0 ws v1 w' (E.below E.size hb) (h0.below hb) hl hle hsz (srow_below h1 hb) hwz
  have HFL : Hid (∀ w', Below W.heap.size W w' → Calls Tryz.prog 28 #[v0] w' (FlatPost (flatM l) w')) := Lib.hid fun w' hb => Flat_any _ l v0 w' (h0.below hb) hl hle
  have HSS : Hid (∀ w', Below W.heap.size W w' → Calls Tryz.prog 21 #[v0] w' (DepPost (sizeM l) w')) := Lib.hid fun w' hb => Size_any _ l v0 w' (h0.below hb) hl hle
  have HDD : Hid (∀ w', Below W.heap.size W w' → Calls Tryz.prog 23 #[v0] w' (DepPost (depM 101 l) w')) := Lib.hid fun w' hb => Depth_any _ l v0 w' (h0.below hb) hl hle
  have HOP : Hid (∀ w', Below W.heap.size W w' → (opdL l 0).length ≤ 100000 → Calls Tryz.prog 43 #[.slice none 0 0, v0, .int .i64 0] w' (OpdPost none w'.heap.size [] (opdL l 0) w')) := Lib.hid fun w' hb hn =>
    opened_any w'.heap.size (fun b => b < W.heap.size) (fun b h => by have := hb.size; omega) _ l v0 (.slice none 0 0) [] 0 w' (Nat.lt_succ_self _) (h0.below hb) (Nat.le_refl _) (World.ownsRow_nil _ _ _ _) hl hle (by simpa using hn) (by simpa using hn)
  obtain ⟨va, vc, rfl, _⟩ := h0
  obtain ⟨wa, wc, rfl, _⟩ := h1
  clear E hl hle hsz hwz
  go_enter Tryz.func8, Tryz.ntmps8
  go_wp2_with fail
  refine HSN.out.mono ?_
  rintro e w1 ⟨rfl, hb1⟩
  have HB1 := Lib.hid hb1
  clear hb1 HSN
  go_wp2_with fail
  refine (HCK.out w1 HB1.out).mono ?_
  rintro e w2 ⟨rfl, hb2⟩
  have HB2 := Lib.hid (HB1.out.trans (hb2.mono HB1.out.size))
  clear hb2 HCK
  by_cases hck : checkM l ws = 0
  rotate_left
  · obtain ⟨q1, q2⟩ := ne_int (show ¬ ((checkM l ws : Nat) : Int) = 0 by omega)
    clear hck
    go_wp2_with fail
    exact bodyPost_ret (v := .bool true) (by simp [results, Tryz.results8, go_sem]) rfl ⟨rfl, HB2.out⟩
  · have hmt := mt_all hck
    obtain ⟨hrd, hdp, hsz⟩ := check_parts hck
    obtain ⟨_, hd1, hs6, _⟩ := checkM_ok hck
    have hfl : flatM l = tkA l := by unfold flatM; rw [if_neg (by omega), tokM_full 100 l hdp]
    have hdl : depM 101 l = dpA l := by rw [depM_full]; omega
    have hln : (opdL l 0).length = (tkA l).length := opdL_len l 0
    have HO2 := Lib.hid fun w' hb => HOP.out w' hb (by omega)
    rw [hck]
    rw [hfl] at HFL
    rw [hdl] at HDD
    rw [hsz] at HSS hs6
    have HMT := Lib.hid hmt
    clear HOP hmt hrd hdp hsz hd1 hfl hdl hck
    generalize tkA l = m at *
    generalize opdL l 0 = dp at *
    generalize dpA l = D at *
    go_wp2_with fail
    refine (HFL.out w2 HB2.out).mono ?_
    rintro e w3 ⟨fv, rfl, hown, hb3⟩
    have HB3 := Lib.hid (HB2.out.trans (hb3.mono HB2.out.size))
    have HTR := Lib.hid (trow_owned rfl hown)
    obtain ⟨fa, fc, rfl⟩ := own_slc hown
    clear hown hb3 HFL
    go_wp2_with fail
    refine (HO2.out w3 HB3.out).mono ?_
    rintro e w4 ⟨dv, rfl, hown, hgr⟩
    have hb4 := hgr.below (base := w3.heap.size) (fun j hj => by cases hj) (Nat.le_refl _)
    have HB4 := Lib.hid (HB3.out.trans (hb4.mono HB3.out.size))
    have HB34 := Lib.hid hb4
    simp only [List.length_nil, Nat.zero_add, List.nil_append] at hown
    have HDR := Lib.hid hown
    obtain ⟨da, dc, rfl⟩ := own_slc hown
    clear hown hgr hb4 HO2
    obtain ⟨n1, n2⟩ := eq_int (show ((dp.length : Nat) : Int) = (m.length : Int) by omega)
    go_wp2_with fail
    refine (HSS.out w4 HB4.out).mono ?_
    rintro e w5 ⟨rfl, hb5⟩
    have HB5 := Lib.hid (HB4.out.trans (hb5.mono HB4.out.size))
    have HB45 := Lib.hid hb5
    clear hb5 HSS
    go_wp2_with fail
    have HTL : Hid (((txOf m).zip dp).length = m.length) := Lib.hid (by rw [List.length_zip]; simp [txOf]; omega)
    have HMC : Hid (∀ w', Below w5.heap.size w5 w' → m ≠ [] → ∃ g o, fa = some ⟨g, o, none⟩ ∧ g < w'.heap.size ∧ ∀ (k : Nat) (t : Tkn), m[k]? = some t → w'.cell? ⟨g, o + k * 5 + 2, none⟩ = some (.string t.2.2.1)) := Lib.hid fun w' hb hne => by
      obtain ⟨_, _, e, hat⟩ := HTR.out
      cases e
      obtain ⟨g, o, e, _, hg, hat⟩ := hat hne
      have hb3 : Below w3.heap.size w3 w' := HB34.out.trans ((HB45.out.mono HB34.out.size).trans (hb.mono (Nat.le_trans HB34.out.size HB45.out.size)))
      refine ⟨g, o, e, by have := hb3.size; omega, fun k t ht => ?_⟩
      obtain ⟨_, _, d2, _, _⟩ := hat k t ht
      exact (hb3.cell (p := ⟨g, o + k * 5 + 2, none⟩) hg).trans d2
    have HDC : Hid (∀ w', Below w5.heap.size w5 w' → m ≠ [] → ∃ g, da = some ⟨g, 0, none⟩ ∧ g < w'.heap.size ∧ ∀ (j u : Nat), dp[j]? = some u → w'.cell? ⟨g, j, none⟩ = some (.int .i64 (u : Int))) := Lib.hid fun w' hb hne => by
      have hp : 0 < dp.length := by rw [hln]; exact List.length_pos_iff.2 hne
      obtain ⟨g, cap, e, hg, hc⟩ := irow_cell HDR.out (List.getElem?_eq_getElem hp)
      cases e
      have hb4 : Below w4.heap.size w4 w' := HB45.out.trans (hb.mono HB45.out.size)
      exact ⟨g, rfl, by have := hb4.size; omega, fun j u hu => (hb4.cell (p := ⟨g, j, none⟩) hg).trans (hc j u hu)⟩
    have HD5 : Hid (∀ w', Below w5.heap.size w5 w' → Calls Tryz.prog 23 #[.slice va l.length vc] w' (DepPost D w')) := Lib.hid fun w' hb => HDD.out w' (HB5.out.trans (hb.mono HB5.out.size))
    obtain ⟨i0, hi, hz0, hz1, hz2⟩ := info_parts infoS
    clear HTR HDR HB34 HB45 HDD n1 n2
    go_loopw [8, 9, 10] (fun ov mv iv wr => ∃ (k mo : Nat) (st : List ByteArray), mv = .int .i64 (mo : Int) ∧ iv = .int .i64 (k : Int) ∧ Hid (MtLoop ((txOf m).zip dp) D w5 k st mo ov wr)) (fun _ _ iv _ => m.length - (intOf iv).toNat)
    case atStart => exact ⟨0, 0, [], rfl, rfl, Lib.hid ⟨Nat.zero_le _, World.ownsRow_nil _ _ _ _, HMT.out, Nat.le_refl _, Below.refl _ _⟩⟩
    case round =>
      obtain ⟨k, mo, st, rfl, rfl, hr⟩ := hrel
      obtain ⟨hk, how, hmt, hst, hbe⟩ := hr.out
      rw [HTL.out] at hk
      have w3' : IntKind.i64.wrap ((k : Int) + 1) = (k : Int) + 1 := IntWalk.i64_in _ (by omega)
      by_cases hlt : k < m.length
      · obtain ⟨t, ht⟩ : ∃ t, m[k]? = some t := ⟨_, List.getElem?_eq_getElem hlt⟩
        obtain ⟨d, hd⟩ : ∃ d, dp[k]? = some d := ⟨_, List.getElem?_eq_getElem (by omega)⟩
        have htx : ((txOf m).zip dp)[k]? = some (t.2.2.1, d) := List.getElem?_zip_eq_some.2 ⟨by unfold txOf; rw [List.getElem?_map, ht]; rfl, hd⟩
        have hlt' : (k : Int) < (m.length : Int) := by omega
        have hld' : (k : Int) < (dp.length : Int) := by omega
        have hne : m ≠ [] := by rintro rfl; simp at hlt
        have hpv := prevD_succ htx
        obtain ⟨g2, o2, rfl, hg2, m2⟩ := HMC.out wr hbe hne
        obtain ⟨g3, rfl, hg3, c3⟩ := HDC.out wr hbe hne
        have m2' := m2 k t ht
        have c3' := c3 k d hd
        have HDE : Hid (∀ w', Below w5.heap.size w5 w' → w'.cell? ⟨g3, k, none⟩ = some (.int .i64 (d : Int))) := Lib.hid fun w' hb => by
          obtain ⟨g, e, _, hc⟩ := HDC.out w' hb hne
          cases e
          exact hc k d hd
        have HBE := Lib.hid hbe
        have HOW := Lib.hid how
        have HSL := Lib.hid hst
        have HM0 : Hid (st.length + 1 ≤ maxLen) := Lib.hid (by unfold maxLen; omega)
        have HM1 : Hid ((st.length + 1) * 16 ≤ 140737488355328) := Lib.hid (by omega)
        have hcs := mt_step htx hmt ⟨_, rfl⟩
        have hcl : True := trivial
        obtain ⟨tk, tn, x, ta, tm⟩ := t
        simp only at m2' htx hcs
        by_cases hk0 : k = 0
        · have hpos : (0 < k) = False := eq_false (by omega)
          have hbd : prevD ((txOf m).zip dp) k = 0 := by rw [hk0]; rfl
          rw [hbd] at hcs
          rcases hcs with ⟨hbd, hn⟩ | ⟨hbd, _⟩ | ⟨hbd, hn⟩
          · have HNX : Hid (mtM (((txOf m).zip dp).drop (k + 1)) (prevD ((txOf m).zip dp) (k + 1)) (st ++ [x]) (max mo d) = some ([], D)) := Lib.hid (by rw [hpv]; exact hn)
            have q1 : 0 < d := by omega
            have q2 : ((d : Int) < (0 : Int)) = False := eq_false (by omega)
            clear hr how hmt hst hbe hpv hn htx ht hd hbd c3 m2 hk0 hcl
            go_wp2_with (at_builtin; go_loud (refine wpList_append_lies _ rfl _ _ 23 rfl w5.heap.size 9 i0 _ 1 16 Tryz.underlying23 hi hz0 hz1 hz2 rfl (by omega) _ st.length _ rfl (HOW.out.alloc _) ⟨wr.heap.size, 0, none⟩ 1 1 [.string x] rfl rfl (new_int (heap_alloc_new _ _)) (by simp [Value.oneCell']) (by omega) HM0.out HM1.out (by have := HBE.out.size; simp; omega) (wr.heap.size + 1) (by simp) ?_); intro g6 cap6 w6 hown6 hgrow6 hat6 hlt6; have HO6 := Lib.hid hown6; have HB6 := Lib.hid ((HBE.out.alloc HBE.out.size _).grown hgrow6 (by have := HBE.out.size; simp; omega) (fun k hk => (HOW.out.lt k hk).1)); have c6 := HDE.out w6 HB6.out; clear hown6 hgrow6 hat6 hlt6)
            exact ⟨⟨k + 1, max mo d, st ++ [x], congrArg (Value.int .i64) (by omega), by simp, Lib.hid ⟨by rw [HTL.out]; omega, by rw [List.length_append, List.length_singleton, List.map_append]; exact HO6.out, HNX.out, by have := HSL.out; rw [List.length_append, List.length_singleton]; omega, HB6.out⟩⟩, by simp only [intOf]; omega⟩
          · omega
          · have HNX : Hid (mtM (((txOf m).zip dp).drop (k + 1)) (prevD ((txOf m).zip dp) (k + 1)) st (max mo d) = some ([], D)) := Lib.hid (by rw [hpv]; exact hn)
            have q1 : (0 < d) = False := eq_false (by omega)
            have q2 : ((d : Int) < (0 : Int)) = False := eq_false (by omega)
            clear hr how hmt hst hbe hpv hn htx ht hd hbd c3 m2 hk0 hcl
            go_wp2_with fail
            exact ⟨⟨k + 1, max mo d, st, congrArg (Value.int .i64) (by omega), by simp, Lib.hid ⟨by rw [HTL.out]; omega, HOW.out, HNX.out, by have := HSL.out; omega, HBE.out⟩⟩, by simp only [intOf]; omega⟩
        · have hpos : 0 < (k : Int) := by omega
          have w6' : IntKind.i64.wrap ((k : Int) - 1) = (k : Int) - 1 := IntWalk.i64_in _ (by omega)
          have hb1' : 0 ≤ (k : Int) - 1 := by omega
          have hb2' : (k : Int) - 1 < (dp.length : Int) := by omega
          have hb3' : ((k : Int) - 1).toNat = k - 1 := by omega
          obtain ⟨b, hb⟩ : ∃ b, dp[k - 1]? = some b := ⟨_, List.getElem?_eq_getElem (by omega)⟩
          have c3b := c3 (k - 1) b hb
          have hbd : prevD ((txOf m).zip dp) k = b := by
            obtain ⟨j, rfl⟩ : ∃ j, k = j + 1 := ⟨k - 1, by omega⟩
            obtain ⟨t', ht'⟩ : ∃ t, m[j]? = some t := ⟨_, List.getElem?_eq_getElem (by omega)⟩
            exact prevD_succ (x := t'.2.2.1) (List.getElem?_zip_eq_some.2 ⟨by unfold txOf; rw [List.getElem?_map, ht']; rfl, hb⟩)
          rw [hbd] at hcs
          clear hbd hb
          rcases hcs with ⟨hbd, hn⟩ | ⟨hbd, st', y, hst1, hcl, hn⟩ | ⟨hbd, hn⟩
          · have HNX : Hid (mtM (((txOf m).zip dp).drop (k + 1)) (prevD ((txOf m).zip dp) (k + 1)) (st ++ [x]) (max mo d) = some ([], D)) := Lib.hid (by rw [hpv]; exact hn)
            have q1 : (b : Int) < (d : Int) := by omega
            have q2 : ((d : Int) < (b : Int)) = False := eq_false (by omega)
            clear hr how hmt hst hbe hpv hn htx ht hd hbd c3 m2 hk0 hcl
            go_wp2_with (at_builtin; go_loud (refine wpList_append_lies _ rfl _ _ 23 rfl w5.heap.size 9 i0 _ 1 16 Tryz.underlying23 hi hz0 hz1 hz2 rfl (by omega) _ st.length _ rfl (HOW.out.alloc _) ⟨wr.heap.size, 0, none⟩ 1 1 [.string x] rfl rfl (new_int (heap_alloc_new _ _)) (by simp [Value.oneCell']) (by omega) HM0.out HM1.out (by have := HBE.out.size; simp; omega) (wr.heap.size + 1) (by simp) ?_); intro g6 cap6 w6 hown6 hgrow6 hat6 hlt6; have HO6 := Lib.hid hown6; have HB6 := Lib.hid ((HBE.out.alloc HBE.out.size _).grown hgrow6 (by have := HBE.out.size; simp; omega) (fun k hk => (HOW.out.lt k hk).1)); have c6 := HDE.out w6 HB6.out; clear hown6 hgrow6 hat6 hlt6)
            exact ⟨⟨k + 1, max mo d, st ++ [x], congrArg (Value.int .i64) (by omega), by simp, Lib.hid ⟨by rw [HTL.out]; omega, by rw [List.length_append, List.length_singleton, List.map_append]; exact HO6.out, HNX.out, by have := HSL.out; rw [List.length_append, List.length_singleton]; omega, HB6.out⟩⟩, by simp only [intOf]; omega⟩
          · have HNX : Hid (mtM (((txOf m).zip dp).drop (k + 1)) (prevD ((txOf m).zip dp) (k + 1)) st' (max mo d) = some ([], D)) := Lib.hid (by rw [hpv]; exact hn)
            have q1 : ((b : Int) < (d : Int)) = False := eq_false (by omega)
            have q2 : (d : Int) < (b : Int) := by omega
            subst hst1
            obtain ⟨g6, cap6, e, c6, how', hcap6⟩ := srow_last how
            subst e
            have HO6 := Lib.hid how'
            have hs6' := HSL.out
            rw [List.length_append, List.length_singleton] at hs6'
            have hg6 := (how'.lt g6 rfl).2
            have wn1 : IntKind.i64.wrap ((st'.length : Int) + 1 - 1) = (st'.length : Int) := by rw [Int.add_sub_cancel]; exact IntWalk.i64_in _ (by omega)
            have wn2 : IntKind.i64.wrap (st'.length : Int) = (st'.length : Int) := IntWalk.i64_in _ (by omega)
            have wl1 : (st'.length : Int) < (st'.length : Int) + 1 := by omega
            have hcap7 : st'.length ≤ cap6 := by omega
            clear hr how hmt hst hbe hpv hn htx ht hd hbd c3 m2 hk0 HOW HSL how' HM0 HM1
            rcases closing_cases y with ⟨y1, _, y2⟩ | ⟨y0, y1, _, y2⟩ | ⟨y0, y01, y1, _, y2⟩ | ⟨y0, y01, y02, _, y2⟩
            · rw [y2] at hcl
              have hx' := hcl.symm
              have ya0 := (lit_eq [40] y1).1
              have yb0 := (lit_eq [40] y1).2
              have xa := (lit_eq [41] hx').1
              have xb := (lit_eq [41] hx').2
              have xe := (lit_ne [101, 110, 100] (show ¬ x = ⟨#[101, 110, 100]⟩ by rw [hx']; decide)).1
              have xf := (lit_ne [101, 110, 100] (show ¬ x = ⟨#[101, 110, 100]⟩ by rw [hx']; decide)).2
              have yn1 := (lit_ne [91] (show ¬ y = ⟨#[91]⟩ by rw [y1]; decide)).1
              have ym1 := (lit_ne [91] (show ¬ y = ⟨#[91]⟩ by rw [y1]; decide)).2
              have yn2 := (lit_ne [123] (show ¬ y = ⟨#[123]⟩ by rw [y1]; decide)).1
              have ym2 := (lit_ne [123] (show ¬ y = ⟨#[123]⟩ by rw [y1]; decide)).2
              clear hcl hx' y2 y1
              go_wp2_with fail
              exact ⟨⟨k + 1, max mo d, st', congrArg (Value.int .i64) (by omega), by simp, Lib.hid ⟨by rw [HTL.out]; omega, HO6.out, HNX.out, by omega, HBE.out⟩⟩, by simp only [intOf]; omega⟩
            · rw [y2] at hcl
              have hx' := hcl.symm
              have ya0 := (lit_ne [40] y0).1
              have yb0 := (lit_ne [40] y0).2
              have ya1 := (lit_eq [91] y1).1
              have yb1 := (lit_eq [91] y1).2
              have xa := (lit_eq [93] hx').1
              have xb := (lit_eq [93] hx').2
              have xe := (lit_ne [101, 110, 100] (show ¬ x = ⟨#[101, 110, 100]⟩ by rw [hx']; decide)).1
              have xf := (lit_ne [101, 110, 100] (show ¬ x = ⟨#[101, 110, 100]⟩ by rw [hx']; decide)).2
              have yn2 := (lit_ne [123] (show ¬ y = ⟨#[123]⟩ by rw [y1]; decide)).1
              have ym2 := (lit_ne [123] (show ¬ y = ⟨#[123]⟩ by rw [y1]; decide)).2
              clear hcl hx' y2 y1 y0
              go_wp2_with fail
              exact ⟨⟨k + 1, max mo d, st', congrArg (Value.int .i64) (by omega), by simp, Lib.hid ⟨by rw [HTL.out]; omega, HO6.out, HNX.out, by omega, HBE.out⟩⟩, by simp only [intOf]; omega⟩
            · rw [y2] at hcl
              have hx' := hcl.symm
              have ya0 := (lit_ne [40] y0).1
              have yb0 := (lit_ne [40] y0).2
              have ya1 := (lit_ne [91] y01).1
              have yb1 := (lit_ne [91] y01).2
              have ya2 := (lit_eq [123] y1).1
              have yb2 := (lit_eq [123] y1).2
              have xa := (lit_eq [125] hx').1
              have xb := (lit_eq [125] hx').2
              have xe := (lit_ne [101, 110, 100] (show ¬ x = ⟨#[101, 110, 100]⟩ by rw [hx']; decide)).1
              have xf := (lit_ne [101, 110, 100] (show ¬ x = ⟨#[101, 110, 100]⟩ by rw [hx']; decide)).2
              clear hcl hx' y2 y1 y0 y01
              go_wp2_with fail
              exact ⟨⟨k + 1, max mo d, st', congrArg (Value.int .i64) (by omega), by simp, Lib.hid ⟨by rw [HTL.out]; omega, HO6.out, HNX.out, by omega, HBE.out⟩⟩, by simp only [intOf]; omega⟩
            · rw [y2] at hcl
              have hx' := hcl.symm
              have ya0 := (lit_ne [40] y0).1
              have yb0 := (lit_ne [40] y0).2
              have ya1 := (lit_ne [91] y01).1
              have yb1 := (lit_ne [91] y01).2
              have ya2 := (lit_ne [123] y02).1
              have yb2 := (lit_ne [123] y02).2
              have xa := (lit_eq [101, 110, 100] hx').1
              have xb := (lit_eq [101, 110, 100] hx').2
              clear hcl hx' y2 y0 y01 y02
              go_wp2_with fail
              exact ⟨⟨k + 1, max mo d, st', congrArg (Value.int .i64) (by omega), by simp, Lib.hid ⟨by rw [HTL.out]; omega, HO6.out, HNX.out, by omega, HBE.out⟩⟩, by simp only [intOf]; omega⟩
          · have HNX : Hid (mtM (((txOf m).zip dp).drop (k + 1)) (prevD ((txOf m).zip dp) (k + 1)) st (max mo d) = some ([], D)) := Lib.hid (by rw [hpv]; exact hn)
            have q1 : ((b : Int) < (d : Int)) = False := eq_false (by omega)
            have q2 : ((d : Int) < (b : Int)) = False := eq_false (by omega)
            clear hr how hmt hst hbe hpv hn htx ht hd hbd c3 m2 hk0 hcl
            go_wp2_with fail
            exact ⟨⟨k + 1, max mo d, st, congrArg (Value.int .i64) (by omega), by simp, Lib.hid ⟨by rw [HTL.out]; omega, HOW.out, HNX.out, by have := HSL.out; omega, HBE.out⟩⟩, by simp only [intOf]; omega⟩
      · have hlt' : ((k : Int) < (m.length : Int)) = False := eq_false (by omega)
        have hkn : k = m.length := by omega
        rw [List.drop_eq_nil_of_le (by rw [HTL.out]; omega)] at hmt
        unfold mtM at hmt
        cases hmt
        have HBE := Lib.hid hbe
        obtain ⟨oa, oc, e⟩ := own_slc how
        subst e
        clear hr how hbe hst hkn
        go_wp2_with fail
        refine (HD5.out _ HBE.out).mono ?_
        rintro e w9 ⟨rfl, hb9⟩
        have HB9 := Lib.hid (HB5.out.trans ((HBE.out.trans (hb9.mono HBE.out.size)).mono HB5.out.size))
        clear hb9
        go_wp2_with fail
        exact bodyPost_ret (v := .bool true) (by simp [results, Tryz.results8, go_sem]) rfl ⟨rfl, HB9.out⟩
end

end Go.Proofs.YtcokdapnafgnpaaGreatDoor
