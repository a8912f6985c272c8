/-
  linearization.
-/
import Derived.Test.YtolopideimnbgaaHP
import Derived.Deep.Upon
namespace Go.Proofs.Ytolopideimnbgaa
open Go.RowKit

/-- A list behind one's own. -/
theorem wpList_append_strs {ops : Array Oper} {rest : List Oper} {o : Oper} {a : Act} {w : World} {Q : Exit → Act → World → Prop} (hgd : o.guard = none) (s x : Operand)
    (ho : o.op = .call { callee := .builtin .append, args := #[s, x], argTypes := #[24, 24] }) (base : Nat) (v : Value) (l : Nms) (hs : a.eval s = v) (hown : SOwn w base v l)
    (vx : Value) (ys : Nms) (hx : a.eval x = vx) (hc : SRow w (fun _ => True) vx ys) (hl : l.length + ys.length ≤ 8796093022208) (hbase : base ≤ w.heap.size)
    (h : ∀ b c w', SOwn w' base (.slice b (l.length + ys.length) c) (l ++ ys) → Keep (fun k => v.ownBlock = some k) w w' → wpList Try.prog ops Q rest (a.put o.dst (.slice b (l.length + ys.length) c)) w') : wpList Try.prog ops Q (o :: rest) a w := by
  obtain ⟨i, hi, hz0, hz1, hz2⟩ := info_parts infoStr
  obtain ⟨xb, xc, rfl, hr⟩ := hc
  cases ys with
  | nil =>
    obtain ⟨b, c, rfl⟩ := hown.len
    have hle : l.length ≤ c := by
      rcases hown.2 with ⟨e, hn⟩ | ⟨g, cap, cur, e, _, _, h1, _⟩
      · omega
      · cases e; exact h1
    refine wpList_plain hgd fun K hK => ?_
    have hrr : (Builtin.append_ #[24, 24] o.type #[.slice b l.length c, .slice xb 0 xc]).run Try.prog w = .ok (.slice b l.length c) w := by
      cases xb with
      | none => exact Go.run_append_nothing w _ _ o.type _ i Try.underlying24 hi b _ c hle _ (Go.Src.ofNil w Try.underlying24 xc)
      | some ad => exact Go.run_append_nothing w _ _ o.type _ i Try.underlying24 hi b _ c hle _ (Go.Src.ofSlice w Try.underlying24 ad 0 xc [] (by simp) (fun j u hu => by simp at hu) (fun u hu => by cases hu))
    unfold Oper.wp execOp
    rw [show ([] : Nms).length = 0 from rfl] at hx
    simp only [ho, resolve, invoke, builtin, Sem.run_bind, Sem.run_pure, Result.andThen_ok, List.map_toArray, List.map_cons, List.map_nil, hs, hx, hrr]
    refine hK _ _ (h b c w ?_ (Keep.refl _ _))
    rw [List.append_nil]; exact hown
  | cons y t =>
    obtain ⟨g, off, rfl, _, hg, hat, _⟩ := hr (by simp)
    refine wpList_append_own w hgd s x 24 ho base 9 i _ 1 16 Try.underlying24 hi hz0 hz1 hz2 rfl (by omega) v l.length (l.map Value.string) hs hown ⟨g, off, none⟩ (y :: t).length xc ((y :: t).map Value.string) hx (by simp) ?_ (by intro u hu; obtain ⟨z, _, rfl⟩ := List.mem_map.1 hu; simp [Value.oneCell']) (by unfold maxLen; omega) (by omega) hbase ?_
    · intro j u hj
      rw [List.getElem?_map] at hj
      obtain ⟨z, hz, rfl⟩ := Option.map_eq_some_iff.1 hj
      have := hat j z hz
      by_cases h0 : j = 0
      · subst h0; simpa [Addr.add] using this
      · simpa [Addr.add, h0] using this
    · intro v' w' h1 h2 _
      have h3 : SOwn w' base v' (l ++ (y :: t)) := by
        show World.ownsRow _ _ _ _ _ _ _
        rw [List.map_append, List.length_append]; exact h1
      obtain ⟨b, c, e⟩ := h3.len
      rw [List.length_append] at e
      subst e
      exact h b c w' h3 (Keep.of_grown h2 fun k e => e)
theorem zero_strs (W : World) : (zeroValue 24).run Try.prog W = .ok (.slice none 0 0) W := by kernel_rfl
theorem enters_prec : ∀ args w, (callFunc 80 args).run Try.prog w = .ok (.enter 80 args) w := enters_of Try.func80 (by kernel_rfl) rfl
theorem prec_any (hb : Nat) (n : Int) (W : World) : Calls Try.prog 64 #[.pointer (some ⟨hb, 0, none⟩), .int .i64 n] W fun e w' =>
    e = .returned (.func (.func 80) #[] #[.pointer (some ⟨W.heap.size, 0, none⟩), .pointer (some ⟨W.heap.size + 1, 0, none⟩)]) ∧ w' = (W.alloc (.cells #[.pointer (some ⟨hb, 0, none⟩)] 64)).alloc (.cells #[.int .i64 n] 3) := by
  go_enter Try.func64, Try.ntmps64
  go_wp2_with fail
  exact bodyPost_ret (v := .func (.func 80) #[] #[.pointer (some ⟨W.heap.size, 0, none⟩), .pointer (some ⟨W.heap.size + 1, 0, none⟩)]) (by simp [results, Try.results64, go_sem]) rfl ⟨rfl, rfl⟩
theorem KnownAt.upd {W : World} {kb : Nat} {g : List Hr} {S S' : Nat → Prop} {s : ByteArray} {u : Value} {n : Nat} {l : Nms} (h : KnownAt W kb g S) (hS : ∀ b, b < W.heap.size → S b → S' b) (hp : posM g s = some n) (hl : linM g n = .ok l) (hu : SRow W (fun b => S' b ∧ b ≠ kb) u l) :
    ∃ o, ∀ W' : World, W'.heap[kb]? = W.heap[kb]? → (∀ b, S' b → b ≠ kb → b < W.heap.size → W'.heap[b]? = W.heap[b]?) → W.heap.size ≤ W'.heap.size →
      (Instr.mapUpdate 97 (.map (some kb)) (.string s) u).run Try.prog W' = .ok () (W'.putObj kb o) ∧ KnownAt (W'.putObj kb o) kb g S' := by
  obtain ⟨f, h1, h2⟩ := h
  obtain ⟨o, ho⟩ := h1.upd Try.underlying97 Try.underlying9 s u
  refine ⟨o, fun W' hb hk hz => ⟨(ho W' hb).1, _, (ho W' hb).2, fun t v e => ?_⟩⟩
  have hkk : ∀ b, (S' b ∧ b ≠ kb) → b < W.heap.size → (W'.putObj kb o).heap[b]? = W.heap[b]? := fun b hb' hz' => (World.putObj_heap_other hb'.2).trans (hk b hb'.1 hb'.2 hz')
  have hzz : W.heap.size ≤ (W'.putObj kb o).heap.size := by simpa using hz
  by_cases e1 : s = t
  · rw [if_pos e1] at e
    cases e
    exact ⟨n, l, e1 ▸ hp, hl, hu.keep hkk hzz⟩
  · rw [if_neg e1] at e
    obtain ⟨n', l', h3, h4, h5⟩ := h2 t v e
    exact ⟨n', l', h3, h4, (h5.mono fun b hb hs => ⟨hS b hb hs.1, hs.2⟩).keep hkk hzz⟩
def linFin (nm : ByteArray) (n : Nat) : Except (List Nms) Nms → Except Nat Nms
  | .ok m => .ok (nm :: m)
  | .error _ => .error n
set_option maxRecDepth 100000 in
set_option maxHeartbeats 8000000 in
theorem lin_step (g : List Hr) (hg : checkM g = 0) (B hb ab kb : Nat) (gv : Value) (n : Nat) (hn : n < g.length)
    (HL : ∀ j, j < n → ∀ S W, HierAt W B hb ab kb gv g → KnownAt W kb g S → Calls Try.prog 58 #[.pointer (some ⟨hb, 0, none⟩), .int .i64 (j : Int)] W (LinPost g kb j S W))
    (S : Nat → Prop) (W : World) (hH : HierAt W B hb ab kb gv g) (hK : KnownAt W kb g S) :
    Calls Try.prog 58 #[.pointer (some ⟨hb, 0, none⟩), .int .i64 (n : Int)] W (LinPost g kb n S W) := by
  obtain ⟨⟨nm, su⟩, hx⟩ : ∃ x, g[n]? = some x := ⟨_, List.getElem?_eq_getElem hn⟩
  have HH := Lib.hid hH
  have HK := Lib.hid hK
  obtain ⟨gb', gc, rfl, hrow⟩ := hH.row
  obtain ⟨gb, go, rfl, hgB, hgl, hat, _⟩ := hrow (by rintro rfl; simp at hn)
  obtain ⟨e0, sv, e1, hsv⟩ := hat n _ hx
  simp only at e0
  have d0 := hH.cell.1
  have d2 := hH.cell.2.2
  have hi0 : (0 : Int) ≤ (n : Int) := by omega
  have hi1 : (n : Int) < (g.length : Int) := by omega
  obtain ⟨f, hf, hfa⟩ := id hK
  have hlk := hf.lookOk Try.underlying97 Try.underlying9 (zero_strs W) nm
  have HPOS : Hid (posM g nm = some n) := Lib.hid (pos_at hg hx)
  have HLE := Lib.hid (lin_eq hg hx)
  have HSM := Lib.hid (lists_small hg hx)
  have HX := Lib.hid hx
  have HLL := Lib.hid HL
  have HG := Lib.hid hg
  have HKBZ : Hid (kb < W.heap.size) := Lib.hid hf.lt
  have HLN := Lib.hid fun l (h : linM g n = .ok l) => lin_len hg h
  cases hfn : f nm with
  | some u =>
    obtain ⟨n', l, h3, h4, h5⟩ := hfa nm u hfn
    rw [HPOS.out] at h3
    cases h3
    rw [hfn] at hlk
    simp only [Option.getD_some, Option.isSome_some] at hlk
    obtain ⟨ub, uc, rfl, hur⟩ := id h5
    have HFIN : Hid (LinPost g kb n S W (.returned (.slice ub l.length uc)) W) := Lib.hid ⟨Keep.refl _ _, hK.mono fun b _ h => .inl h, by rw [h4]; exact ⟨_, rfl, h5.mono fun b _ h => ⟨.inl h.1, h.2⟩⟩⟩
    clear hH hK hrow hat e1 hsv hf hfa hfn h4 h5 hur hx hg HL
    go_enter Try.func58, Try.ntmps58
    go_wp2_with fail
    exact bodyPost_ret (v := .slice ub l.length uc) (by simp [results, Try.results58, go_sem]) rfl HFIN.out
  | none =>
    rw [hfn] at hlk
    simp only [Option.getD_none, Option.isSome_none] at hlk
    obtain ⟨W2, hW2⟩ : ∃ W2, W2 = (W.alloc (.cells #[.pointer (some ⟨hb, 0, none⟩)] 64)).alloc (.cells #[.int .i64 (n : Int)] 3) := ⟨_, rfl⟩
    have hb2 : Below W.heap.size W W2 := by rw [hW2]; exact ((Below.refl _ W).alloc (Nat.le_refl _) _).alloc (by simp) _
    have hz2 : W2.heap.size = W.heap.size + 2 := by rw [hW2]; simp
    have b1 : W2.cell? ⟨W.heap.size, 0, none⟩ = some (.pointer (some ⟨hb, 0, none⟩)) := by
      rw [cellOf (show W2.heap[W.heap.size]? = some (.cells #[.pointer (some ⟨hb, 0, none⟩)] 64) from by rw [hW2]; exact (Below.heap_alloc _ _ _ (by simp)).trans (heap_alloc_new W _))]; rfl
    have b2 : W2.cell? ⟨W.heap.size + 1, 0, none⟩ = some (.int .i64 (n : Int)) := by
      rw [cellOf (show W2.heap[W.heap.size + 1]? = some (.cells #[.int .i64 (n : Int)] 3) from by rw [hW2]; have := heap_alloc_new (W.alloc (.cells #[.pointer (some ⟨hb, 0, none⟩)] 64)) (.cells #[.int .i64 (n : Int)] 3); simpa using this)]; rfl
    have hH2 := hH.below hb2
    have hK2 := hK.below hb2
    have hnm := newMerger_run 80 #[.pointer (some ⟨W.heap.size, 0, none⟩), .pointer (some ⟨W.heap.size + 1, 0, none⟩)] kb (preM (supsM g (nm, su)) ++ [su]) W2 (PEd g kb (nm, su) S (fun _ => False) W2) (PDi g kb (nm, su) S (fun _ => False) W2) enters_prec (by have := HKBZ.out; omega) (by have := HSM.out.1; simp only at this; omega) (by have := HSM.out.2; simp only at this; omega)
      (fun m lp J Q W1 hJ hY hJ0 hB hQ => prec_it g hg n (nm, su) hx B hb ab kb W.heap.size (W.heap.size + 1) _ S (fun _ => False) W2 hH2 hK2 (fun _ h => h.elim) b1 b2 ⟨by omega, by have := HKBZ.out; omega⟩ ⟨by omega, by have := HKBZ.out; omega⟩ HL m lp J Q W1 hJ hY hJ0 hB fun b hb => .inr (hQ b hb))
      (fun Q w w' h hk => ⟨h.1, h.2.1.keep (hk.block _ h.2.1.choose_spec.1.lt fun hq => (h.1 _ hq).elim (fun h => h) (by have := HKBZ.out; omega)) (fun b hb _ hz => hk.block b hz hb.2) hk.size, h.2.2⟩)
      (fun ch Q w w' h hk => ⟨h.1, h.2.1.keep (hk.block _ h.2.1.choose_spec.1.lt fun hq => (h.1 _ hq).elim (fun h => h) (by have := HKBZ.out; omega)) (fun b hb _ hz => hk.block b hz hb.2) hk.size, h.2.2⟩)
    have hpr := prec_any hb (n : Int) W
    rw [← hW2] at hpr
    have HNM := Lib.hid (callsIn_wide.1 hnm)
    have HB2 := Lib.hid hb2
    have HZ2 := Lib.hid hz2
    clear hH hK hrow hat e1 hsv hf hfa hfn hx hg HL hH2 hK2 b1 b2 hb2 hz2 hW2 hnm
    go_enter Try.func58, Try.ntmps58
    go_wp2_with fail
    refine hpr.mono ?_
    rintro e w2 ⟨rfl, rfl⟩
    go_wp2_with fail
    refine HNM.out.mono ?_
    rintro e w3 ⟨hk3, ⟨rfl, hmg, Q', hq1, hq2, hq3, hed⟩ | ⟨ch, Q', rfl, hq3, hdi⟩⟩
    · have HKEEP3 : Hid (Keep (fun b => b = kb) W w3) := Lib.hid ((Keep.of_below HB2.out).trans' hk3 fun b hb => .inl hb)
      obtain ⟨hed1, hed2, ls, hls⟩ := hed
      have hpm := (seq_mem _ _ hls).1
      rw [hpm] at hmg
      rw [hls] at HLE
      have hsm := HSM.out
      rw [hpm] at hsm
      have hmr := merge_any (w2.heap.size + 1) w2.heap.size _ (nonE (ls ++ [su])) w3 hmg (by rw [totM_nonE]; have := hsm.1; omega)
      have HKN3 : Hid (∀ w4, Keep (fun b => b = w2.heap.size + 1 ∨ b = w2.heap.size) w3 w4 → KnownAt w4 kb g (fun b => S b ∨ W.heap.size ≤ b)) := Lib.hid fun w4 hk => by
        refine (hed2.keep (hk.block _ hed2.choose_spec.1.lt fun e => by have := HKBZ.out; have := HZ2.out; omega) (fun b hb _ hz => hk.block b hz fun e => hb.2 ?_) hk.size).mono fun b _ hs => hs.1.imp id fun h => by have := HZ2.out; omega
        rcases e with e | e
        · rw [e]; exact hq1
        · rw [e]; exact hq2
      have HSZ3 : Hid (w2.heap.size + 1 < w3.heap.size) := Lib.hid hmg.lt
      obtain ⟨M, hM⟩ : ∃ M, M = mergeM (totM (nonE (ls ++ [su]))) (nonE (ls ++ [su])) := ⟨_, rfl⟩
      rw [← hM] at hmr
      have HLM : Hid (linM g n = linFin nm n M) := Lib.hid (by rw [HLE.out, hM]; rfl)
      clear hmg hed1 hed2 hls hpm hsm hk3 hM hq1 hq2 hq3
      go_wp2_with fail
      refine hmr.mono ?_
      rintro e w4 ⟨hk4, hres⟩
      have HK4 := Lib.hid hk4
      have HKN4 := Lib.hid (HKN3.out w4 hk4)
      have HKEEP4 : Hid (Keep (fun b => b = kb) W w4) := Lib.hid (HKEEP3.out.trans' hk4 fun b hb => .inr (by have := HZ2.out; omega))
      clear hk4 hmr
      cases M with
      | error ls' =>
        obtain ⟨rfl, _⟩ := hres
        have HF : Hid (LinPost g kb n S W (.panicked (impCh n)) w4) := Lib.hid ⟨HKEEP4.out, HKN4.out, by rw [HLM.out]; rfl⟩
        go_wp2_with fail
        exact ⟨rfl, HF.out⟩
      | ok m =>
        obtain ⟨v, rfl, hown⟩ := hres
        obtain ⟨mb', mc, rfl⟩ := hown.len
        have HO1 : Hid (SOwn (w4.alloc (.cells #[.string nm] 9)) w4.heap.size (.slice (some ⟨w4.heap.size, 0, none⟩) 1 1) [nm]) := Lib.hid ⟨rfl, .inr ⟨w4.heap.size, 1, #[.string nm], rfl, Nat.le_refl _, heap_alloc_new w4 _, Nat.le_refl _, by unfold maxLen; omega, rfl, rfl⟩⟩
        have HO2 : Hid (SRow (w4.alloc (.cells #[.string nm] 9)) (fun _ => True) (.slice mb' m.length mc) m) := Lib.hid ((hown.srow.mono fun _ _ _ => trivial).below ((Below.refl _ w4).alloc (Nat.le_refl _) _))
        have HML : Hid (m.length ≤ 120) := Lib.hid (by have := HLN.out (nm :: m) HLM.out; simp at this; omega)
        clear hown
        go_wp2_with (at_builtin; go_loud (refine wpList_append_strs rfl _ _ rfl w4.heap.size (.slice (some ⟨w4.heap.size, 0, none⟩) 1 1) [nm] (by rfl) HO1.out (.slice mb' m.length mc) m (by rfl) HO2.out (by have := HML.out; simp; omega) (by simp) ?_); intro b6 c6 w6 hown6 hk6; have hk46 : Keep (fun _ => False) w4 w6 := ((Keep.refl _ w4).alloc _).trans' hk6 (fun b hb => .inr (by cases hb; exact Nat.le_refl _)); have d6 : w6.cell? ⟨hb, 2, none⟩ = some (.map (some kb)) := (hk46.cell (o := 2) (by have := HKEEP4.out.size; have := HH.out.lt; omega) (fun h => h)).trans ((HKEEP4.out.cell (o := 2) HH.out.lt HH.out.ne.2.1).trans HH.out.cell.2.2); have hsr6 : SRow w6 (fun b => (S b ∨ W.heap.size ≤ b) ∧ b ≠ kb) (.slice b6 ([nm].length + m.length) c6) ([nm] ++ m) := hown6.srow.mono (fun b _ hb => ⟨.inr (by have := HKEEP4.out.size; omega), by have := HKEEP4.out.size; have := HKBZ.out; omega⟩); have hkn6 : KnownAt w6 kb g (fun b => S b ∨ W.heap.size ≤ b) := HKN4.out.below hk46.below0; have hupd := hkn6.upd (S' := fun b => S b ∨ W.heap.size ≤ b) (fun _ _ h => h) HPOS.out HLM.out hsr6; have HUP := Lib.hid hupd; have HSR6 := Lib.hid hsr6; have HK46 := Lib.hid hk46; clear hown6 hk6 hk46 hsr6 hkn6 hupd; obtain ⟨ob, hob⟩ := HUP.out; have hup := (hob w6 rfl (fun _ _ _ _ => rfl) (Nat.le_refl _)).1; have HKNF := Lib.hid (hob w6 rfl (fun _ _ _ _ => rfl) (Nat.le_refl _)).2; clear hob HUP; have h1m : [nm].length + m.length = 1 + m.length := rfl; rw [h1m] at hup HSR6)
        have HF : Hid (LinPost g kb n S W (.returned (.slice b6 (1 + m.length) c6)) (w6.putObj kb ob)) := Lib.hid (by
          refine ⟨(HKEEP4.out.trans' HK46.out fun _ h => h.elim).putObj (.inl rfl) _, HKNF.out, ?_⟩
          rw [show linM g n = .ok (nm :: m) from HLM.out]
          exact ⟨_, rfl, HSR6.out.keep (fun b hb _ => World.putObj_heap_other hb.2) (by simp)⟩)
        exact bodyPost_ret (v := .slice b6 (1 + m.length) c6) (by simp [results, Try.results58, go_sem]) rfl HF.out
    · have HF : Hid (LinPost g kb n S W (.panicked ch) w3) := Lib.hid (by
        obtain ⟨h1, h2, e, h3, rfl⟩ := hdi
        refine ⟨(Keep.of_below HB2.out).trans' hk3 fun b hb => .inl hb, h2.mono fun b _ hs => hs.1.imp id fun h => by have := HZ2.out; omega, ?_⟩
        rw [HLE.out, h3]; rfl)
      clear hk3 hq3 hdi
      first
        | exact ⟨rfl, HF.out⟩
        | (go_wp2_with fail; exact ⟨rfl, HF.out⟩)
theorem lin_any (g : List Hr) (hg : checkM g = 0) (B hb ab kb : Nat) (gv : Value) : ∀ n, n < g.length → ∀ S W, HierAt W B hb ab kb gv g → KnownAt W kb g S → Calls Try.prog 58 #[.pointer (some ⟨hb, 0, none⟩), .int .i64 (n : Int)] W (LinPost g kb n S W) := by
  intro n
  induction n using Nat.strongRecOn with
  | ind n ih => exact fun hn S W hH hK => lin_step g hg B hb ab kb gv n hn (fun j hj S W hH hK => ih j hj (by omega) S W hH hK) S W hH hK
end Go.Proofs.Ytolopideimnbgaa
