/-
  Rows of strings of one's own; Firsts, Distinct; areSupers.
-/
import Derived.Test.YtolopideimnbgaaHB
namespace Go.Proofs.Ytolopideimnbgaa
open Go.RowKit

theorem info_parts {t : TypeId} {z : Value} {s n : Nat} (h : (Try.prog.info? t).map (fun i => (i.zero, i.size, i.bytes)) = some (some z, s, n)) : ∃ i, Try.prog.info? t = some i ∧ i.zero = some z ∧ i.size = s ∧ i.bytes = n := by
  obtain ⟨i, hi, he⟩ := Option.map_eq_some_iff.1 h
  simp only [Prod.mk.injEq] at he
  exact ⟨i, hi, he.1, he.2.1, he.2.2⟩
theorem infoStr : (Try.prog.info? 9).map (fun i => (i.zero, i.size, i.bytes)) = some (some (.string ⟨#[]⟩), 1, 16) := by kernel_rfl
theorem infoStrs : (Try.prog.info? 24).map (fun i => (i.zero, i.size, i.bytes)) = some (some (.slice none 0 0), 1, 24) := by kernel_rfl

def SOwn (W : World) (base : Nat) (v : Value) (l : List ByteArray) : Prop := W.ownsRow base 9 1 v l.length (l.map Value.string)
theorem SOwn.nil (W : World) (base : Nat) : SOwn W base (.slice none 0 0) [] := ⟨rfl, .inl ⟨rfl, rfl⟩⟩
theorem SOwn.keep {W W' : World} {base : Nat} {v : Value} {l : List ByteArray} (h : SOwn W base v l) (hb : ∀ k, v.ownBlock = some k → W'.heap[k]? = W.heap[k]?) : SOwn W' base v l := by
  obtain ⟨h1, h2⟩ := h
  refine ⟨h1, ?_⟩
  rcases h2 with h2 | ⟨g, cap, cur, e, h3, h4, h5⟩
  · exact .inl h2
  · exact .inr ⟨g, cap, cur, e, h3, (hb g (by rw [e]; rfl)).trans h4, h5⟩
theorem SOwn.below {W W' : World} {base : Nat} {v : Value} {l : List ByteArray} (h : SOwn W base v l) (hb : Below W.heap.size W W') : SOwn W' base v l := h.keep fun k hk => hb.block k (World.ownsRow.lt h k hk).2
theorem SOwn.lt {W : World} {base : Nat} {v : Value} {l : List ByteArray} (h : SOwn W base v l) : ∀ k, v.ownBlock = some k → base ≤ k ∧ k < W.heap.size := World.ownsRow.lt h
theorem SOwn.srow {W : World} {base : Nat} {v : Value} {l : List ByteArray} (h : SOwn W base v l) : SRow W (fun b => base ≤ b) v l := by
  have h0 := h
  obtain ⟨h1, h2⟩ := h
  rcases h2 with ⟨e, h3⟩ | ⟨g, cap, cur, e, h3, h4, h5⟩
  · exact ⟨none, 0, by rw [e, h3], fun hne => absurd (List.length_eq_zero_iff.1 h3) hne⟩
  · refine ⟨some ⟨g, 0, none⟩, cap, e, fun _ => ⟨g, 0, rfl, h3, (Array.getElem?_eq_some_iff.1 h4).1, fun i x hi => ?_, h5.1⟩⟩
    have := World.ownsRow.cells h0 (g := g) (by rw [e]; rfl) i (.string x) (by rw [List.getElem?_map, hi]; rfl)
    by_cases hz : i = 0
    · subst hz; simpa [Addr.add] using this
    · simpa [Addr.add, hz] using this
theorem SOwn.len {W : World} {base : Nat} {v : Value} {l : List ByteArray} (h : SOwn W base v l) : ∃ b c, v = .slice b l.length c := by
  obtain ⟨b, c, e, _⟩ := h.srow
  exact ⟨b, c, e⟩
theorem new_one {W : World} {b : Nat} {v : Value} {tt : TypeId} (h : W.heap[b]? = some (.cells #[v] tt)) : ∀ j u, [v][j]? = some u → W.cell? ((⟨b, 0, none⟩ : Addr).add j) = some u := by
  intro j u hj
  cases j with
  | zero => simp at hj; subst hj; simp [Addr.add, World.cell?, h]
  | succ j => simp at hj
theorem wpList_append_str {ops : Array Oper} {rest : List Oper} {o : Oper} {a : Act} {w : World} {Q : Exit → Act → World → Prop} (hgd : o.guard = none) (s x : Operand)
    (ho : o.op = .call { callee := .builtin .append, args := #[s, x], argTypes := #[24, 24] }) (base : Nat) (v : Value) (l : List ByteArray) (hs : a.eval s = v) (hown : SOwn w base v l)
    (b c : Nat) (y : ByteArray) (hx : a.eval x = .slice (some ⟨b, 0, none⟩) 1 c) (hc : w.heap[b]? = some (.cells #[.string y] 9)) (hl : l.length + 1 ≤ 8796093022208) (hbase : base ≤ w.heap.size) (H : Nat) (hH : w.heap.size = H)
    (h : ∀ g cap w', SOwn w' base (.slice (some ⟨g, 0, none⟩) (l.length + 1) cap) (l ++ [y]) → w.grownBy w' v.ownBlock → (v.ownBlock = some g ∨ g = H) → wpList Try.prog ops Q rest (a.put o.dst (.slice (some ⟨g, 0, none⟩) (l.length + 1) cap)) w') : wpList Try.prog ops Q (o :: rest) a w := by
  obtain ⟨i, hi, hz0, hz1, hz2⟩ := info_parts infoStr
  refine wpList_append_lies w hgd s x 24 ho base 9 i _ 1 16 Try.underlying24 hi hz0 hz1 hz2 rfl (by omega) v l.length (l.map Value.string) hs hown ⟨b, 0, none⟩ 1 c [.string y] hx rfl (new_one hc) (by simp [Value.oneCell']) (by omega) (by unfold maxLen; omega) (by omega) hbase H hH ?_
  intro g cap w' h1 h2 h3 _
  refine h g cap w' ?_ h2 h3
  show World.ownsRow _ _ _ _ _ _ _
  rw [List.map_append, List.length_append]
  exact h1

def fstG (m : List ByteArray) : List ByteArray → List ByteArray
  | [] => m
  | x :: l => fstG (if x ∈ m then m else m ++ [x]) l
theorem fstG_le : ∀ (l m : List ByteArray), (fstG m l).length ≤ m.length + l.length ∧ ((fstG m l).length = m.length + l.length ↔ l.Nodup ∧ ∀ x ∈ l, ¬ x ∈ m)
  | [], m => by simp [fstG]
  | x :: l, m => by
    unfold fstG
    by_cases h : x ∈ m
    · rw [if_pos h]
      obtain ⟨h1, h2⟩ := fstG_le l m
      refine ⟨by simp; omega, ?_⟩
      constructor
      · intro e; simp at e; omega
      · rintro ⟨_, h3⟩; exact absurd h (h3 x (.head _))
    · rw [if_neg h]
      obtain ⟨h1, h2⟩ := fstG_le l (m ++ [x])
      simp only [List.length_append, List.length_cons, List.length_nil] at *
      refine ⟨by omega, ?_⟩
      rw [show m.length + (l.length + 1) = m.length + (0 + 1) + l.length by omega, h2, List.nodup_cons]
      constructor
      · rintro ⟨h3, h4⟩
        exact ⟨⟨fun hx => h4 x hx (by simp), h3⟩, fun y hy => by
          cases hy with
          | head => exact h
          | tail _ hy => exact fun hm => h4 y hy (by simp [hm])⟩
      · rintro ⟨⟨h3, h4⟩, h5⟩
        refine ⟨h4, fun y hy hm => ?_⟩
        rcases List.mem_append.1 hm with hm | hm
        · exact h5 y (.tail _ hy) hm
        · simp at hm; subst hm; exact h3 hy
theorem fstG_snoc (x : ByteArray) : ∀ (l m : List ByteArray), fstG m (l ++ [x]) = if x ∈ fstG m l then fstG m l else fstG m l ++ [x]
  | [], _ => rfl
  | _ :: l, _ => fstG_snoc x l _
theorem fstG_mem (x : ByteArray) : ∀ (l m : List ByteArray), x ∈ fstG m l ↔ x ∈ m ∨ x ∈ l
  | [], m => by simp [fstG]
  | y :: l, m => by
    unfold fstG
    rw [fstG_mem x l]
    by_cases h : y ∈ m
    · rw [if_pos h]
      simp only [List.mem_cons]
      constructor
      · rintro (h1 | h1); exact .inl h1; exact .inr (.inr h1)
      · rintro (h1 | h1 | h1); exact .inl h1; exact .inl (h1 ▸ h); exact .inr h1
    · rw [if_neg h]; simp [or_assoc]
theorem fst_next {l : List ByteArray} {k : Nat} {x : ByteArray} (h : l[k]? = some x) : fstG [] (l.take (k + 1)) = if x ∈ l.take k then fstG [] (l.take k) else fstG [] (l.take k) ++ [x] := by
  rw [List.take_add_one, h, Option.toList_some, fstG_snoc]
  by_cases hx : x ∈ l.take k
  · rw [if_pos hx, if_pos ((fstG_mem x _ _).2 (.inr hx))]
  · rw [if_neg hx, if_neg (fun e => hx (((fstG_mem x _ _).1 e).resolve_left (by simp)))]
theorem fst_len (l : List ByteArray) : ((fstG [] l).length = l.length) ↔ l.Nodup := by
  have := (fstG_le l []).2
  simpa using this
theorem itself_any (s : ByteArray) (W : World) : Calls Try.prog 74 #[.string s] W fun e w' => e = .returned (.string s) ∧ W = w' := by
  go_enter Try.func74, Try.ntmps74
  go_wp2_with fail
  exact bodyPost_ret (v := .string s) (by simp [results, Try.results74, go_sem]) rfl ⟨rfl, rfl⟩
/-- The loop of Firsts. -/
def FLoop (l : List ByteArray) (W : World) (k : Nat) (v : Value) (wr : World) : Prop :=
  k ≤ l.length ∧ Below W.heap.size W wr ∧ W.heap.size < wr.heap.size ∧ SOwn wr (W.heap.size + 1) v (fstG [] (l.take k)) ∧ MapF wr W.heap.size (setF (l.take k))
set_option maxRecDepth 100000 in
set_option maxHeartbeats 2000000 in
theorem firsts_any (l : List ByteArray) (Q : Nat → Prop) (v : Value) (W : World) (hr : SRow W Q v l) (hn : l.length ≤ 8796093022207) :
    Calls Try.prog 86 #[v, .func (.func 74) #[] #[]] W fun e w' => ∃ b c, e = .returned (.slice b (fstG [] l).length c) ∧ Below W.heap.size W w' := by
  obtain ⟨b, c, rfl, hrow⟩ := hr
  have hmk := run_makeMap (P := Try.prog) 67 W
  have HNEW := Lib.hid (set_new W W.heap.size rfl)
  have HB0 : Hid (Below W.heap.size W (W.alloc (.map #[] 0))) := Lib.hid ((Below.refl _ W).alloc (Nat.le_refl _) _)
  go_enter Try.func86, Try.ntmps86
  go_wp2_with fail
  go_loopw [5, 13] (fun v5 i wr => ∃ k : Nat, i = .int .i64 (k : Int) ∧ Hid (FLoop l W k v5 wr)) (fun _ i _ => l.length - (intOf i).toNat)
  case atStart => exact ⟨0, rfl, Lib.hid ⟨by omega, HB0.out, by simp, SOwn.nil _ _, HNEW.out⟩⟩
  case round =>
    obtain ⟨k, rfl, hst⟩ := hrel
    have hk := hst.out.1
    by_cases hlt : k < l.length
    · obtain ⟨x, hx⟩ : ∃ x, l[k]? = some x := ⟨_, List.getElem?_eq_getElem hlt⟩
      obtain ⟨g, o, rfl, _, hg, hat, _⟩ := hrow (by rintro rfl; simp at hlt)
      have e0 : wr.cell? ⟨g, o + k, none⟩ = some (.string x) := (hst.out.2.1.cell (p := ⟨g, o + k, none⟩) hg).trans (hat k x hx)
      have hl : (k : Int) < (l.length : Int) := by omega
      have w3 : IntKind.i64.wrap ((k : Int) + 1) = (k : Int) + 1 := IntWalk.i64_in _ (by omega)
      obtain ⟨_, hbe, hsz, hown, hmap⟩ := hst.out
      have hlook := set_look hmap x
      have HN := Lib.hid (fst_next hx)
      have HT : Hid (l.take (k + 1) = l.take k ++ [x]) := Lib.hid (by rw [List.take_add_one, hx]; rfl)
      have hi := itself_any x
      by_cases hm : x ∈ l.take k
      · rw [decide_eq_true hm] at hlook
        have HR : Hid (FLoop l W (k + 1) u5 wr) := Lib.hid ⟨by omega, hbe, hsz, by rw [HN.out, if_pos hm]; exact hown, hmap.ext fun s => by unfold setF; rw [HT.out]; by_cases hs : s ∈ l.take k <;> simp [hs]; intro e; subst e; exact absurd hm hs⟩
        clear hm hst hat hx hbe hsz hown hmap
        go_wp2_with fail
        refine (hi wr).mono ?_
        rintro e w' ⟨rfl, rfl⟩
        go_wp2_with fail
        exact ⟨⟨k + 1, by simp, HR⟩, by simp only [intOf]; omega⟩
      · rw [decide_eq_false hm] at hlook
        obtain ⟨ob, hob⟩ := set_upd hmap x
        have hup := (hob wr rfl).1
        have HM1 := Lib.hid ((hob wr rfl).2)
        have HF : Hid (fstG [] (l.take (k + 1)) = fstG [] (l.take k) ++ [x]) := Lib.hid (by rw [HN.out, if_neg hm])
        have HLE : Hid ((fstG [] (l.take k)).length ≤ k) := Lib.hid (by have := (fstG_le (l.take k) []).1; rw [List.length_take] at this; simp at this; omega)
        have HSZ := Lib.hid hsz
        have HOWN : Hid (SOwn ((wr.putObj W.heap.size ob).alloc (.cells #[.string x] 9)) (W.heap.size + 1) u5 (fstG [] (l.take k))) := Lib.hid (SOwn.keep hown fun b hb => by
          have := hown.lt b hb
          exact (Below.heap_alloc _ _ _ (by simp; omega)).trans (World.putObj_heap_other (by omega)))
        have HB1 : Hid (Below W.heap.size W ((wr.putObj W.heap.size ob).alloc (.cells #[.string x] 9))) := Lib.hid (((Keep.of_below (S := fun _ => False) hbe).putObj (.inr (Nat.le_refl _)) ob).alloc _).below0
        have HBX : Hid (((wr.putObj W.heap.size ob).alloc (.cells #[.string x] 9)).heap[wr.heap.size]? = some (.cells #[.string x] 9)) := Lib.hid (by have := heap_alloc_new (wr.putObj W.heap.size ob) (.cells #[.string x] 9); rwa [World.putObj_size] at this)
        have HM2 := Lib.hid (HM1.out.keep (W' := (wr.putObj W.heap.size ob).alloc (.cells #[.string x] 9)) (Below.heap_alloc _ _ _ (by simp; omega)))
        clear hm hst hat hx hbe hsz hown hmap hob HM1 HN
        generalize hfl : fstG [] (l.take k) = fl at *
        go_wp2_with fail
        refine (hi wr).mono ?_
        rintro e w' ⟨rfl, rfl⟩
        go_wp2_with (at_builtin; go_loud (refine wpList_append_str rfl _ _ rfl (W.heap.size + 1) _ fl rfl HOWN.out _ _ x rfl HBX.out (by have := HLE.out; omega) (by have := HSZ.out; simp; omega) _ rfl ?_); intro g6 cap6 w6 hown6 hgrow6 hat6; have HP6 := Lib.hid hown6; have HG6 := Lib.hid hgrow6; clear hown6 hgrow6 hat6)
        refine ⟨⟨k + 1, by simp, Lib.hid ⟨by omega, HB1.out.grown HG6.out (by have := HSZ.out; simp; omega) (fun q e => by have := (HOWN.out.lt q e).1; omega), ?_, ?_, ?_⟩⟩, by simp only [intOf]; omega⟩
        · have z1 := HG6.out.size; have z2 := HSZ.out; simp at z1; omega
        · rw [HF.out]; have := HP6.out; exact this
        · refine (HM2.out.keep (HG6.out.block _ (by have := HSZ.out; simp; omega) ?_)).ext fun s => by rw [HT.out]
          intro e
          have := (HOWN.out.lt _ e.symm).1
          omega
    · have hl : ((k : Int) < (l.length : Int)) = False := by simp; omega
      have hkl : l.take k = l := List.take_of_length_le (by omega)
      obtain ⟨_, hbe, _, hown, _⟩ := hst.out
      rw [hkl] at hown
      obtain ⟨b', c', rfl⟩ := hown.len
      have HB := Lib.hid hbe
      clear hst hbe hown hkl
      go_wp2_with fail
      exact bodyPost_ret (v := .slice b' (fstG [] l).length c') (by simp [results, Try.results86, go_sem]) rfl ⟨_, _, rfl, HB.out⟩
end Go.Proofs.Ytolopideimnbgaa
