/-
  One token, as the reader takes it.
  The reader's walk over all tokens.
-/
import Derived.Test.YtafncodigpjkaaaGreatDoorFG6
namespace Go.Proofs.YtafncodigpjkaaaGreatDoor
section
open Go.RowKit

/-- The reader between two tokens. -/
structure Rdr (l : List Tkn) (tv : Value) (ws : List ByteArray) (base rb mb : Nat) (i : Nat) (s : RS) (W : World) : Prop where
  st : RdrS l tv ws base rb mb i W
  c2 : W.cell? ⟨rb, 2, none⟩ = some (.int .i64 (s.beh : Int))
  op : ∃ ob cap kp kt, W.cell? ⟨rb, 3, none⟩ = some (.slice (some ⟨ob, 0, none⟩) (s.pre.length + 1) cap) ∧ Opq W base (s.pre ++ [s.top]) ob cap (kp ++ [kt])
theorem Rdr.below {l : List Tkn} {tv : Value} {ws : List ByteArray} {base rb mb i : Nat} {s : RS} {W W' : World} (h : Rdr l tv ws base rb mb i s W) (hb : Below W.heap.size W W') : Rdr l tv ws base rb mb i s W' := by
  have hr : rb < W.heap.size := by have := h.st.rlt; have := h.st.bz; omega
  obtain ⟨ob, cap, kp, kt, h3, ho⟩ := h.op
  exact ⟨h.st.below hb, (hb.cell (p := ⟨rb, 2, none⟩) hr).trans h.c2, ob, cap, kp, kt, (hb.cell (p := ⟨rb, 3, none⟩) hr).trans h3, ho.keep (fun b _ hz => hb.block b hz) hb.size⟩
section
variable {l : List Tkn} {tv : Value} {ws : List ByteArray} {base rb mb i : Nat} {s : RS} {W : World}
theorem Rdr.rz (h : Rdr l tv ws base rb mb i s W) : rb < W.heap.size := by have := h.st.rlt; have := h.st.bz; omega
/-- A token is put. -/
theorem put_any (h : Rdr l tv ws base rb mb i s W) (t : Tkn) (hn : s.pre.length + 1 ≤ 1048576) (hk : s.top.kids.length + 1 ≤ 1048576) :
    Calls Tryz.prog 70 #[.pointer (some ⟨rb, 0, none⟩), .agg (fgV (.mk t sNo []) (.slice none 0 0)).toArray] W fun e w' => e = .returned (.tuple #[]) ∧ KeepS (fun b => b = rb ∨ Bs base b) W w' ∧ Rdr l tv ws base rb mb i ⟨s.pre, s.top.add (.mk t sNo []), s.beh⟩ w' := by
  obtain ⟨ob, cap, kp, kt, h3, ho⟩ := h.op
  refine (add_any rb base ob cap s.pre s.top kp kt (.mk t sNo []) (.slice none 0 0) W h.st.rlt h.st.bz hn hk h3 ho (FVal.nil _ _ _ _)).mono ?_
  rintro e w' ⟨rfl, hks, _, v', hv⟩
  have hk : KeepS (fun b => b = rb ∨ Bs base b) W w' := hks.mono fun b e => .inr e
  have hrb : ¬ Bs base rb := by have := h.st.rlt; omega
  have hR : KeptR rb base (fun _ => False) W w' := ⟨hk, fun j _ => hks.cell h.rz hrb, fun j => hks.frozen h.rz hrb⟩
  exact ⟨rfl, hk, h.st.keep hR (fun h => h) (fun h => h) (fun h => h), (hks.cell h.rz hrb).trans h.c2, ob, cap, kp, v', (hks.cell h.rz hrb).trans h3, hv⟩
/-- A group begins. -/
theorem begin_any (h : Rdr l tv ws base rb mb i s W) (t : Tkn) (hn : ¬ 100 < s.pre.length + 1) :
    Calls Tryz.prog 68 #[.pointer (some ⟨rb, 0, none⟩), .agg (tkL t).toArray] W fun e w' => e = .returned (.tuple #[]) ∧ KeepS (fun b => b = rb ∨ Bs base b) W w' ∧ Rdr l tv ws base rb mb i ⟨s.pre ++ [s.top], ⟨t, t.2.2.1, [], i⟩, s.beh⟩ w' := by
  obtain ⟨ob, cap, kp, kt, h3, ho⟩ := h.op
  have hob := ho.oblt
  have hrl := h.st.rlt
  have hrow := ho.row
  rw [List.length_append, List.length_singleton] at hrow
  refine (begin_run rb 0 ob cap s.pre.length i t (flatG (s.pre ++ [s.top]) (kp ++ [kt])) W h.rz hn (by omega) (Nat.zero_le _) h3 h.st.c1 (h.st.fr 3) hrow).mono ?_
  rintro e w' ⟨rfl, g, c', w3, rfl, hk, hg, hown⟩
  have hgb : Bs base g := by rcases hg with e | e; exact e ▸ hob.1; exact .inl (by have := h.st.bz; omega)
  have hks : KeepS (fun b => b = rb ∨ Bs base b) W (w3.setCell ⟨rb, 3, none⟩ (.slice (some ⟨g, 0, none⟩) (s.pre.length + 1 + 1) c')) := (hk.mono (T := fun b => b = rb ∨ Bs base b) fun b (e : b = ob) => .inr (e ▸ hob.1)).setCell (.inl rfl) _ _
  have hrc : ∀ j, w3.cell? ⟨rb, j, none⟩ = W.cell? ⟨rb, j, none⟩ := fun j => hk.cell h.rz (by omega)
  have hR : KeptR rb base (fun j => j = 3) W (w3.setCell ⟨rb, 3, none⟩ (.slice (some ⟨g, 0, none⟩) (s.pre.length + 1 + 1) c')) :=
    KeptR.set (K := fun j => j = 3) (y := w3) ⟨hk.mono (T := fun b => b = rb ∨ Bs base b) fun b (e : b = ob) => .inr (by omega), fun j _ => hrc j, fun j => hk.frozen h.rz (by omega)⟩ rfl _
  refine ⟨rfl, hks, h.st.keep hR (by omega) (by omega) (by omega), (hR.cells 2 (by omega)).trans h.c2, g, c', kp ++ [kt], .slice none 0 0, ?_, ?_⟩
  · rw [List.length_append, List.length_singleton]
    exact World.cell?_setCell_same' _ _ _ (by rw [hrc 3, h3]; rfl)
  · refine ho.push (W' := w3.setCell ⟨rb, 3, none⟩ (.slice (some ⟨g, 0, none⟩) (s.pre.length + 1 + 1) c')) rfl h.st.bz (fun b hb hz hne => ?_) hks.size (by rcases hg with e | e; exact .inl e; exact .inr e) ?_
    · exact (Below.heap_setCell w3 ⟨rb, 3, none⟩ _ b (by simp; omega)).trans (hk.block b hz hne)
    · rw [List.length_append, List.length_singleton]
      exact ownsRow_setCell_other hown (a := ⟨rb, 3, none⟩) (by simp only [Value.ownBlock, ne_eq, Option.some.injEq]; omega) _
/-- The innermost group is closed by its token. -/
theorem end_any (h : Rdr l tv ws base rb mb i s W) (hR : RsOk ws i s) (t : Tkn) (hi : i < l.length) (hz : l.length ≤ 1048576) (hk : ∀ g ∈ s.pre, g.kids.length + 1 ≤ 1048576) (hne : ¬ s.top.opn = sNo) (hcm : closingM s.top.opn = t.2.2.1) :
    Calls Tryz.prog 69 #[.pointer (some ⟨rb, 0, none⟩), .agg (tkL t).toArray] W fun e w' => e = .returned (.tuple #[]) ∧ KeepS (fun b => b = rb ∨ Bs base b) W w' ∧ Rdr l tv ws base rb mb i (clsM l i s) w' := by
  obtain ⟨ob, cap, kp, kt, h3, ho⟩ := h.op
  have hpre : s.pre ≠ [] := fun e => hne (hR.root e)
  obtain ⟨pre, g, hpg⟩ : ∃ pre g, s.pre = pre ++ [g] := ⟨s.pre.dropLast, s.pre.getLast hpre, (List.dropLast_concat_getLast hpre).symm⟩
  have hlast : s.pre.getLast? = some g := by rw [hpg]; simp
  have hdrop : s.pre.dropLast = pre := by rw [hpg]; simp
  have hcl : clsM l i s = ⟨pre, g.add s.top.fg, if isNamed s.top.opn then behindM l i s.top s.beh else s.beh⟩ := by unfold clsM; rw [hlast, hdrop]
  rw [hcl]
  have hmem := hR.top hpre
  have hob := ho.oblt
  have hgk := hk g (by rw [hpg]; simp)
  have hdeep := hR.deep
  rw [hpg] at h3 ho
  simp only [List.length_append, List.length_singleton] at h3
  have hpl : pre.length + 1 ≤ 100 := by rw [hpg] at hdeep; simpa using hdeep
  obtain ⟨kp', kg, rfl⟩ : ∃ kp' kg, kp = kp' ++ [kg] := by
    have hl := ho.len
    have hkp : kp ≠ [] := by rintro rfl; simp at hl
    exact ⟨kp.dropLast, kp.getLast hkp, (List.dropLast_concat_getLast hkp).symm⟩
  obtain ⟨ka, kc, rfl, _⟩ := id ho.pop.2
  have hcg : ∀ j u, (fgV s.top.fg (.slice ka s.top.kids.length kc))[j]? = some u → W.cell? ⟨ob, (pre.length + 1) * 8 + j, none⟩ = some u := fun j u hu => by
    have := ho.cellG (j := j) (u := u) (by
      have hj : j < 7 := by have := (List.getElem?_eq_some_iff.1 hu).1; simpa [fgV] using this
      unfold gpV
      rw [List.getElem?_append_left (by simpa [fgV] using hj)]
      exact hu)
    rw [List.length_append, List.length_singleton] at this
    exact this
  have hfin : ∀ w' w'', Below W.heap.size W w' → Closed l i rb base ob cap pre g s.top kp' s.beh w' w'' → KeepS (fun b => b = rb ∨ Bs base b) W w'' ∧ Rdr l tv ws base rb mb i ⟨pre, g.add s.top.fg, if isNamed s.top.opn then behindM l i s.top s.beh else s.beh⟩ w'' := by
    rintro w' w'' hb ⟨hkr, hc2, hc3, v', hv⟩
    exact ⟨(KeepS.of_below hb).trans hkr.keep, (h.st.below hb).keep hkr (by omega) (by omega) (by omega), hc2, ob, cap, kp', v', hc3, hv⟩
  have hlk : ∀ w', Below W.heap.size W w' → (Instr.lookup 93 (.map (some mb)) (.string s.top.fg.opn) false).run Tryz.prog w' = .ok (clsF rb s.top.opn) w' := fun w' hb => by
    have := (h.st.below hb).mp.look s.top.opn
    rw [if_pos hmem] at this
    exact this
  have h2' : ∀ w', Below W.heap.size W w' → w'.cell? ⟨rb, 2, none⟩ = some (.int .i64 (s.beh : Int)) := fun w' hb => (hb.cell (p := ⟨rb, 2, none⟩) h.rz).trans h.c2
  have h3' : ∀ w', Below W.heap.size W w' → w'.cell? ⟨rb, 3, none⟩ = some (.slice (some ⟨ob, 0, none⟩) (pre.length + 1 + 1) cap) := fun w' hb => (hb.cell (p := ⟨rb, 3, none⟩) h.rz).trans h3
  have ho' : ∀ w', Below W.heap.size W w' → Opq w' base ((pre ++ [g]) ++ [s.top]) ob cap ((kp' ++ [kg]) ++ [.slice ka s.top.kids.length kc]) := fun w' hb => ho.keep (fun b _ hz => hb.block b hz) hb.size
  cases hnm : isNamed s.top.opn
  · have hlk' : ∀ w', Below W.heap.size W w' → (Instr.lookup 93 (.map (some mb)) (.string s.top.fg.opn) false).run Tryz.prog w' = .ok (.func (.func 63) #[.pointer (some ⟨rb, 0, none⟩)] #[]) w' := fun w' hb => by
      have := hlk w' hb
      unfold clsF at this
      rw [hnm] at this
      exact this
    refine (end_close rb ob cap (pre.length + 1) s.top.fg ka s.top.kids.length kc t.1 t.2.1 t.2.2.1 t.2.2.2.1 t.2.2.2.2 W h.rz hob.2 (by omega) h3 hcg hne hcm mb (fun w'' => KeepS (fun b => b = rb ∨ Bs base b) W w'' ∧ Rdr l tv ws base rb mb i ⟨pre, g.add s.top.fg, if isNamed s.top.opn then behindM l i s.top s.beh else s.beh⟩ w'') h.st.c4 hlk' fun w' hb => ?_).mono ?_
    · refine (closeP_any (h.st.below hb) hnm (by omega) hgk (h2' w' hb) (h3' w' hb) (ho' w' hb)).mono ?_
      rintro e w'' ⟨rfl, hc⟩
      exact ⟨rfl, hfin w' w'' hb hc⟩
    · rintro e w'' ⟨rfl, hq⟩
      rw [hnm] at hq
      exact ⟨rfl, hq⟩
  · have hlk' : ∀ w', Below W.heap.size W w' → (Instr.lookup 93 (.map (some mb)) (.string s.top.fg.opn) false).run Tryz.prog w' = .ok (.func (.func 64) #[.pointer (some ⟨rb, 0, none⟩)] #[]) w' := fun w' hb => by
      have := hlk w' hb
      unfold clsF at this
      rw [hnm] at this
      exact this
    refine (end_named rb ob cap (pre.length + 1) s.top.fg ka s.top.kids.length kc t.1 t.2.1 t.2.2.1 t.2.2.2.1 t.2.2.2.2 W h.rz hob.2 (by omega) h3 hcg hne hcm mb (fun w'' => KeepS (fun b => b = rb ∨ Bs base b) W w'' ∧ Rdr l tv ws base rb mb i ⟨pre, g.add s.top.fg, if isNamed s.top.opn then behindM l i s.top s.beh else s.beh⟩ w'') h.st.c4 hlk' fun w' hb => ?_).mono ?_
    · refine (closeNamed_any (h.st.below hb) hnm (by omega) hgk hi hz (h2' w' hb) (h3' w' hb) (ho' w' hb)).mono ?_
      rintro e w'' ⟨rfl, hc⟩
      exact ⟨rfl, hfin w' w'' hb hc⟩
    · rintro e w'' ⟨rfl, hq⟩
      rw [hnm] at hq
      exact ⟨rfl, hq⟩
end
end

section
open Go.RowKit

theorem Rdr.setAt {l : List Tkn} {tv : Value} {ws : List ByteArray} {base rb mb i : Nat} {s : RS} {W : World} (h : Rdr l tv ws base rb mb i s W) (j : Nat) : Rdr l tv ws base rb mb j s (W.setCell ⟨rb, 1, none⟩ (.int .i64 (j : Int))) := by
  have hk : KeptR rb base (fun j => j = 1) W (W.setCell ⟨rb, 1, none⟩ (.int .i64 (j : Int))) := KeptR.set (K := fun j => j = 1) (y := W) ⟨KeepS.refl _ _, fun _ _ => rfl, fun _ => rfl⟩ rfl _
  have hz := hk.keep.size; have hb := h.st.bz; have hl := h.st.mlt; have hr := h.st.rlt
  obtain ⟨ob, cap, kp, kt, h3, ho⟩ := h.op
  refine ⟨⟨h.st.rlt, h.st.mlt, h.st.rm, by omega, (hk.cells 0 (by omega)).trans h.st.c0, World.cell?_setCell_same' _ _ _ (by rw [h.st.c1]; rfl), (hk.cells 4 (by omega)).trans h.st.c4, fun j => (hk.fr j).trans (h.st.fr j), h.st.tk.keep (fun b hb hz => hk.keep.block b hz (by omega)) hz, ?_⟩, (hk.cells 2 (by omega)).trans h.c2, ob, cap, kp, kt, (hk.cells 3 (by omega)).trans h3, ho.keep (fun b h1 _ => Below.heap_setCell _ _ _ _ (by simp; omega)) hz⟩
  obtain ⟨es, clk, hm, rest⟩ := h.st.mp
  exact ⟨es, clk, (hk.keep.block mb (by omega) (by have := h.st.rm; omega)).trans hm, rest⟩
theorem opens_any {l : List Tkn} {tv : Value} {ws : List ByteArray} {base rb mb i : Nat} {s : RS} {W : World} (h : Rdr l tv ws base rb mb i s W) (t : Tkn) (hn : s.pre.length + 1 ≤ 1048576) (hi : i ≤ 1048575) :
    Calls Tryz.prog 67 #[.pointer (some ⟨rb, 0, none⟩), .agg (tkL t).toArray] W fun e w' => e = .returned (.bool (opensM ws l i t s.top)) ∧ Below W.heap.size W w' := by
  obtain ⟨ob, cap, kp, kt, h3, ho⟩ := h.op
  refine opens_run rb mb ob cap s.pre.length i s.top.pl t.1 t.2.1 t.2.2.1 t.2.2.2.1 t.2.2.2.2 s.top.opn ws (isNameM l (i + 1) sSlot) W h.rz ho.oblt.2 hn (by omega) h.st.c1 h3 h.st.c4 (ho.cellG (j := 5) rfl) (ho.cellG (j := 7) rfl) (fun w' hb => (h.st.below hb).mp.look t.2.2.1) (fun w' hb => ?_) (opensM ws l i t s.top) (opens_cases ws l i t s.top)
  have := fisName_any rb (i + 1) sSlot w' (h.st.below hb).c0 (h.st.below hb).tk
  exact this
theorem run_step {ok : Tkn → Bool} {ws : List ByteArray} {l : List Tkn} {k : Nat} {t : Tkn} {s : RS} (h : l[k]? = some t) : runM ok ws l (l.drop k) k s = match stepM ok ws l k t s with
    | .error p => .error p
    | .ok s' => runM ok ws l (l.drop (k + 1)) (k + 1) s' := by
  obtain ⟨hk, rfl⟩ := List.getElem?_eq_some_iff.1 h
  rw [drop_cons hk]
  rfl
theorem run_done {ok : Tkn → Bool} {ws : List ByteArray} {l : List Tkn} {k : Nat} {s : RS} (h : ¬ k < l.length) : runM ok ws l (l.drop k) k s = if s.pre = [] then .ok s.top.kids else .error (s.top.pl, 21) := by
  rw [List.drop_eq_nil_of_le (by omega)]
  rfl
/-- Lists of fragments are no longer than tokens were read. -/
def KLen (k : Nat) (s : RS) : Prop := s.top.kids.length ≤ k ∧ ∀ g ∈ s.pre, g.kids.length ≤ k
theorem KLen.step {ok : Tkn → Bool} {ws : List ByteArray} {l : List Tkn} {k : Nat} {t : Tkn} {s s' : RS} (h : KLen k s) (hs : stepM ok ws l k t s = .ok s') : KLen (k + 1) s' := by
  unfold stepM at hs
  split at hs
  · split at hs
    · cases hs; exact ⟨by have := h.1; omega, fun g hg => by have := h.2 g hg; omega⟩
    · split at hs
      · cases hs
      · cases hs
        refine ⟨by simp, fun g hg => ?_⟩
        rcases List.mem_append.1 hg with hg | hg
        · have := h.2 g hg; omega
        · simp only [List.mem_singleton] at hg; subst hg; have := h.1; omega
    · split at hs
      · cases hs
      · cases hs
        unfold clsM
        rcases hp : s.pre.getLast? with _ | g
        · exact ⟨by have := h.1; simp; omega, fun g hg => by have := h.2 g hg; omega⟩
        · have hg : g ∈ s.pre := List.mem_of_getLast? hp
          exact ⟨by have := h.2 g hg; simp [Gp.add]; omega, fun x hx => by have := h.2 x ((List.dropLast_sublist _).subset hx); omega⟩
    · cases hs
      exact ⟨by have := h.1; simp [Gp.add]; omega, fun g hg => by have := h.2 g hg; omega⟩
  · cases hs
/-- How the reader ends. -/
def ReadEnd (base rb : Nat) (R : Except (Nat × Nat) (List Fg)) (W : World) (e : Ending) (w' : World) : Prop :=
  KeepS (fun b => b = rb ∨ Bs base b) W w' ∧ ((∃ a c, R = .error (a, c) ∧ e = refEnd (a : Int) (c : Int)) ∨ ∃ L kv, R = .ok L ∧ e = .returned kv ∧ FVal w' (fun b => base ≤ b) kv L)
theorem ReadEnd.bad {base rb a c : Nat} {R : Except (Nat × Nat) (List Fg)} {W w' : World} (h : R = .error (a, c)) (hk : KeepS (fun b => b = rb ∨ Bs base b) W w') : ReadEnd base rb R W (refEnd (a : Int) (c : Int)) w' := ⟨hk, .inl ⟨a, c, h, rfl⟩⟩
end

end Go.Proofs.YtafncodigpjkaaaGreatDoor
