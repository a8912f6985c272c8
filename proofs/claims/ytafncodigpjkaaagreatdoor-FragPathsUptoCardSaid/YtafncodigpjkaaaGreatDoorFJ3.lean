/-
  slices.Grow and slices.Concat for fragments.
  slices.Concat for fragments.
  A way into fragments: follow and along.
  A fragment replaced by others in a list.
-/
import Derived.Test.YtafncodigpjkaaaGreatDoorFJ2
namespace Go.Proofs.YtafncodigpjkaaaGreatDoor
section
open Go.RowKit

theorem run_append_make {P : Program} (w : World) (t k ty e : TypeId) (i : TypeInfo) (z : Value) (ht : P.underlying t = some (.slice e)) (hk : P.underlying k = some (.int .i64)) (hi : P.info? e = some i) (hz : i.zero = some z)
    (n : Nat) (h0 : 0 < n) (h63 : (n : Int) ≤ 9223372036854775807) (h48 : n * i.bytes ≤ 281474976710656) (hs : 0 < i.size) :
    (Builtin.append_ #[t, k] ty #[.slice none 0 0, .int .i64 (n : Int)]).run P w =
      .ok (.slice (some ⟨w.heap.size, 0, none⟩) n (grownCap w n 0 e)) (w.drew.alloc (.cells (Builtin.zeroCells z.cells n ++ Builtin.zeroCells z.cells (grownCap w n 0 e - n)) e)) := by
  have wn : IntKind.i64.wrap (n : Int) = (n : Int) := by rw [IntKind.wrap_i64]; omega
  have hn : n ≠ 0 := by omega
  have hn0 : ¬ ((n : Int) < 0) := by omega
  have h63' : ¬ (9223372036854775807 < (n : Int)) := by omega
  have h48' : ¬ (281474976710656 < Builtin.nextslicecap n 0 * i.bytes) := by rw [nextslicecap_zero h0]; omega
  have h48'' : ¬ (281474976710656 < (n : Int) * (i.bytes : Int)) := by
    have h : ((n * i.bytes : Nat) : Int) ≤ 281474976710656 := by omega
    rw [Int.natCast_mul] at h
    omega
  have hns : ¬ (n * i.size = 0) := Nat.ne_of_gt (Nat.mul_pos h0 hs)
  simp [Builtin.append_, run_underlying ht, run_underlying hk, sizeOf, typeInfo, zeroValue, hi, hz, asInt, asIntOf, wn, hn, hn0, h63', h48', h48'', hns, Question.forced, run_firstCells_none, newRow, grownCap]
theorem wpList_append_make {P : Program} {w : World} {ops : Array Oper} {rest : List Oper} {o : Oper} {a : Act} {Q : Exit → Act → World → Prop} (hgd : o.guard = none) (s x : Operand) (t k : TypeId)
    (ho : o.op = .call { callee := .builtin .append, args := #[s, x], argTypes := #[t, k] }) (e : TypeId) (i : TypeInfo) (z : Value) (ht : P.underlying t = some (.slice e)) (hk : P.underlying k = some (.int .i64)) (hi : P.info? e = some i) (hz : i.zero = some z)
    (hs : a.eval s = .slice none 0 0) (n : Nat) (hx : a.eval x = .int .i64 (n : Int)) (h0 : 0 < n) (h63 : (n : Int) ≤ 9223372036854775807) (h48 : n * i.bytes ≤ 281474976710656) (hsz : 0 < i.size)
    (h : ∀ cap w', n ≤ cap → w'.ownsRow w.heap.size e i.size (.slice (some ⟨w.heap.size, 0, none⟩) 0 cap) 0 [] → Below w.heap.size w w' → wpList P ops Q rest (a.put o.dst (.slice (some ⟨w.heap.size, 0, none⟩) n cap)) w') (hzs : z.cells.size = i.size) (hm : n ≤ maxLen) : wpList P ops Q (o :: rest) a w :=
  wpList_plain hgd fun _ hK => by
    have hr := run_append_make w t k o.type e i z ht hk hi hz n h0 h63 h48 hsz
    unfold Oper.wp execOp
    simp only [ho, resolve, invoke, builtin, Sem.run_bind, Sem.run_pure, Result.andThen_ok, List.map_toArray, List.map_cons, List.map_nil, hs, hx, hr]
    refine hK _ _ (h _ _ (grownCap_ge _ _ _ _) ?_ (((Below.refl _ w).drew).alloc (Nat.le_refl _) _))
    have hge := grownCap_ge w n 0 e
    exact World.ownsRow_made w.drew _ _ (Nat.le_refl _) (grownCap_le_maxLen w n 0 e hm) (by rw [Array.size_append, size_zeroCells, size_zeroCells, hzs, ← Nat.add_mul]; congr 1; omega)
def GrowPost (W : World) (e : Ending) (w' : World) : Prop := ∃ v, e = .returned v ∧ w'.ownsRow W.heap.size 52 7 v 0 [] ∧ Below W.heap.size W w'
set_option maxRecDepth 100000 in
set_option maxHeartbeats 4000000 in
theorem Grow_any (n : Nat) (hn : n * 88 ≤ 140737488355328) (W : World) : Calls Tryz.prog 108 #[.slice none 0 0, .int .i64 (n : Int)] W (GrowPost W) := by
  obtain ⟨i0, hi, hz0, hz1, hz2⟩ := info_parts infoFrag
  have wn : IntKind.i64.wrap (n : Int) = (n : Int) := IntWalk.i64_in _ (by omega)
  have hn0 : ((n : Int) < 0) = False := by simp
  have hs1 : ∀ w, (Instr.sliceAt 25 (.slice none 0 0) none (some (.int .i64 0)) none).run Tryz.prog w = .ok (.slice none 0 0) w := fun w => slice_h none 0 0 0 (Nat.le_refl _) w
  by_cases h0 : n = 0
  · subst h0
    go_enter Tryz.func108, Tryz.ntmps108
    go_wp2_with fail
    exact bodyPost_ret (v := .slice none 0 0) (by simp [results, Tryz.results108, go_sem]) rfl ⟨_, rfl, World.ownsRow_nil _ _ _ _, Below.refl _ _⟩
  · have hs2 : ∀ (g m cap : Nat), 0 < cap → ∀ w, (Instr.sliceAt 25 (.slice (some ⟨g, 0, none⟩) m cap) none (some (.int .i64 0)) none).run Tryz.prog w = .ok (.slice (some ⟨g, 0, none⟩) 0 cap) w := fun g m cap hc w => by
      have h := slice_h (some ⟨g, 0, none⟩) m cap 0 (Nat.zero_le _) w
      unfold subV at h
      rw [if_neg (by omega)] at h
      simp only [Option.map_some, add_off, Nat.zero_mul, Nat.sub_zero] at h
      exact h
    have hpos : 0 < (n : Int) := by omega
    go_enter Tryz.func108, Tryz.ntmps108
    go_wp2_with (at_builtin; (refine wpList_append_make rfl _ _ 25 3 rfl 52 i0 _ Tryz.underlying25 Tryz.underlying3 hi hz0 rfl n rfl (by omega) (by omega) (by rw [hz2]; omega) (by rw [hz1]; omega) ?_ (by rw [hz1]; rfl) (by unfold maxLen; omega)); intro cap3 w3 hcap3 hown3 hb3; rw [hz1] at hown3; have HOW := Lib.hid hown3; have HB := Lib.hid hb3; have hs3 := hs2 W.heap.size n cap3 (by omega); clear hown3 hb3 hs2)
    exact bodyPost_ret (v := .slice (some ⟨W.heap.size, 0, none⟩) 0 cap3) (by simp [results, Tryz.results108, go_sem]) rfl ⟨_, rfl, HOW.out, HB.out⟩
end

section
open Go.RowKit

theorem take_flat {ls : List (List Fg)} {k : Nat} {p : List Fg} (h : ls[k]? = some p) : (ls.take (k + 1)).flatten = (ls.take k).flatten ++ p := by
  rw [List.take_add_one, h, Option.toList_some, List.flatten_append]
  simp
theorem take_flat_le {ls : List (List Fg)} {k : Nat} {p : List Fg} (h : ls[k]? = some p) : (ls.take k).flatten.length + p.length ≤ ls.flatten.length := by
  have h1 := take_flat h
  have h2 : ls.flatten = (ls.take (k + 1)).flatten ++ (ls.drop (k + 1)).flatten := by rw [← List.flatten_append, List.take_append_drop]
  rw [h2, h1, List.length_append, List.length_append]
  omega
def flenK (ls : List (List Fg)) (k : Nat) : Nat := (ls.take k).flatten.length
theorem flenK_succ {ls : List (List Fg)} {k : Nat} {p : List Fg} (h : ls[k]? = some p) : flenK ls (k + 1) = flenK ls k + p.length := by
  unfold flenK
  rw [take_flat h, List.length_append]
theorem flenK_le {ls : List (List Fg)} {k : Nat} {p : List Fg} (h : ls[k]? = some p) : flenK ls k + p.length ≤ ls.flatten.length := take_flat_le h
theorem flenK_all (ls : List (List Fg)) : flenK ls ls.length = ls.flatten.length := by unfold flenK; rw [List.take_length]
def CatPost (ls : List (List Fg)) (W : World) (e : Ending) (w' : World) : Prop := ∃ v, e = .returned v ∧ JOwn w' W.heap.size v ls.flatten ∧ Below W.heap.size W w'
set_option maxRecDepth 100000 in
set_option maxHeartbeats 8000000 in
theorem Concat_any (P : Nat → Prop) (ls : List (List Fg)) (v : Value) (W : World) (hv : PVal W P v ls) (hl : ls.flatten.length * 88 ≤ 140737488355328) (hn : ls.length ≤ 140737488351232) :
    Calls Tryz.prog 87 #[v] W (CatPost ls W) := by
  obtain ⟨i0, hi, hz0, hz1, hz2⟩ := info_parts infoFrag
  obtain ⟨b, c, rfl, hrow⟩ := hv
  have HR := Lib.hid hrow
  have HGR := Lib.hid (fun w => Grow_any (flenK ls ls.length) (by rw [flenK_all]; omega) w)
  have HL := Lib.hid hl
  clear hrow hl
  go_enter Tryz.func87, Tryz.ntmps87
  go_wp2_with fail
  go_loopw [3, 11] (fun sv iv wr => ∃ k : Nat, iv = .int .i64 (k : Int) ∧ sv = .int .i64 ((flenK ls k : Nat) : Int) ∧ Hid (k ≤ ls.length ∧ Below W.heap.size W wr)) (fun _ iv _ => ls.length - (intOf iv).toNat)
  case atStart => exact ⟨0, rfl, by rfl, Lib.hid ⟨Nat.zero_le _, Below.refl _ _⟩⟩
  case round =>
    obtain ⟨k, rfl, rfl, hr⟩ := hrel
    obtain ⟨hk, hbe⟩ := hr.out
    have w3' : IntKind.i64.wrap ((k : Int) + 1) = (k : Int) + 1 := IntWalk.i64_in _ (by omega)
    by_cases hlt : k < ls.length
    · obtain ⟨p, hp⟩ : ∃ p, ls[k]? = some p := ⟨_, List.getElem?_eq_getElem hlt⟩
      obtain ⟨g, o, rfl, hg, hcs⟩ := HR.out (by rintro rfl; simp at hlt)
      obtain ⟨u, hu, pa, pc, rfl, hpr⟩ := hcs k p hp
      have e0 : wr.cell? ⟨g, o + k, none⟩ = some (.slice pa p.length pc) := (hbe.cell (p := ⟨g, o + k, none⟩) hg).trans hu
      have hlt' : (k : Int) < (ls.length : Int) := by omega
      have hle := flenK_le hp
      have hl := HL.out
      have HTK := Lib.hid (flenK_succ hp)
      have HBE := Lib.hid hbe
      generalize flenK ls k = m at *
      have w4' : IntKind.i64.wrap ((m : Int) + (p.length : Int)) = (m : Int) + (p.length : Int) := IntWalk.i64_in _ (by omega)
      have hneg : ((m : Int) + (p.length : Int) < 0) = False := by simp; omega
      clear hr hbe hu hpr hcs hp hle hl
      go_wp2_with fail
      exact ⟨⟨k + 1, by simp, by rw [HTK.out]; simp, Lib.hid ⟨by omega, HBE.out⟩⟩, by simp only [intOf]; omega⟩
    · have hlt' : ((k : Int) < (ls.length : Int)) = False := by simp; omega
      have hkl : k = ls.length := by omega
      subst hkl
      have HBE := Lib.hid hbe
      clear hr hbe
      go_wp2_with fail
      refine (HGR.out _).mono ?_
      rintro e w4 ⟨v4, rfl, hown4, hb4⟩
      have HB4 := Lib.hid (HBE.out.trans (hb4.mono HBE.out.size))
      have HJ4 : Hid (JOwn w4 W.heap.size v4 []) := Lib.hid ⟨[], rfl, hown4.mono HBE.out.size, fun i x u h => by cases h⟩
      clear hown4 hb4 HGR
      go_wp2_with fail
      go_loopw [6, 27] (fun jv iv wx => ∃ k : Nat, iv = .int .i64 (k : Int) ∧ Hid (k ≤ ls.length ∧ Below W.heap.size W wx ∧ JOwn wx W.heap.size jv (ls.take k).flatten)) (fun _ iv _ => ls.length - (intOf iv).toNat)
      case atStart => exact ⟨0, rfl, Lib.hid ⟨Nat.zero_le _, HB4.out, HJ4.out⟩⟩
      case round =>
        clear HB4 HJ4
        obtain ⟨w4, rfl⟩ : ∃ w, w = wr := ⟨_, rfl⟩
        obtain ⟨k, rfl, hr⟩ := hrel
        obtain ⟨hk, hbe, hj⟩ := hr.out
        have w3' : IntKind.i64.wrap ((k : Int) + 1) = (k : Int) + 1 := IntWalk.i64_in _ (by omega)
        by_cases hlt : k < ls.length
        · obtain ⟨p, hp⟩ : ∃ p, ls[k]? = some p := ⟨_, List.getElem?_eq_getElem hlt⟩
          obtain ⟨g, o, rfl, hg, hcs⟩ := HR.out (by rintro rfl; simp at hlt)
          obtain ⟨u, hu, hpv⟩ := hcs k p hp
          have hpv2 : FVal w4 (fun b => b < W.heap.size) u p := FVal.keep hpv (fun b _ z => ⟨z, hbe.block b z⟩) hbe.size
          obtain ⟨a4, c4, rfl, hpr⟩ := hpv2
          have e0 : w4.cell? ⟨g, o + k, none⟩ = some (.slice a4 p.length c4) := (hbe.cell (p := ⟨g, o + k, none⟩) hg).trans hu
          have hv4 : FVal w4 (fun b => b < W.heap.size) (.slice a4 p.length c4) p := ⟨a4, c4, rfl, hpr⟩
          have hlt' : (k : Int) < (ls.length : Int) := by omega
          have hle := take_flat_le hp
          have HTK : Hid ((ls.take (k + 1)).flatten = (ls.take k).flatten ++ p) := Lib.hid (take_flat hp)
          have HB4 := Lib.hid hbe
          generalize (ls.take k).flatten = LX at *
          obtain ⟨jb, jc, rfl, hjc⟩ := hj.form
          obtain ⟨n, hn⟩ : ∃ n, n = LX.length := ⟨_, rfl⟩
          have HN := Lib.hid hn
          rw [← hn] at hj hjc hr ⊢
          have HJ4 := Lib.hid hj
          have HJC := Lib.hid hjc
          have HMX : Hid ((n + p.length) * 88 ≤ 140737488355328) := Lib.hid (by have := HL.out; omega)
          have HNE : Hid (∀ b, b < W.heap.size → (Value.slice jb n jc).ownBlock ≠ some b) := Lib.hid (fun b hb e => by
            obtain ⟨_, _, h2, _⟩ := hj
            have := (h2.lt b e).1
            omega)
          clear hr hbe hj hu hpr hcs hp hle hpv hjc hn
          by_cases hp0 : p = []
          · subst hp0
            have HJN : Hid (JOwn w4 W.heap.size (.slice jb n jc) (LX ++ [])) := Lib.hid (by rw [List.append_nil]; exact HJ4.out)
            clear hv4
            go_wp2_with (at_builtin; (refine wpList_append_zero rfl _ _ 25 rfl 52 i0 Tryz.underlying25 hi jb n jc rfl HJC.out a4 c4 rfl ?_))
            exact ⟨⟨k + 1, by simp, Lib.hid ⟨by omega, HB4.out, by rw [HTK.out]; exact HJN.out⟩⟩, by simp only [intOf]; omega⟩
          · obtain ⟨kvs', hk1', hk2', hk3', hk4'⟩ := frag_cells hv4
            obtain ⟨g', o', rfl, hcells⟩ := hk2' hp0
            have HNW := Lib.hid (hcells w4 (Below.refl _ _))
            obtain ⟨kvs, hk1, hk2, hk3⟩ := HJ4.out
            rw [← HN.out] at hk2
            have HK1 := Lib.hid hk1
            have HKR := Lib.hid hk2
            have HKV := Lib.hid hk3
            have HK1' := Lib.hid hk1'
            have HKV' : Hid (∀ (i : Nat) (x : Fg) (u : Value), p[i]? = some x → kvs'[i]? = some u → FVal w4 (fun b => (Value.slice jb n jc).ownBlock ≠ some b) u x.kids) := Lib.hid (fun i x u hx hu => (hk3' i x u hx hu).keep (fun q pq _ => ⟨HNE.out q pq, rfl⟩) (Nat.le_refl _))
            have HONE := Lib.hid hk4'
            have HFL : Hid ((flatF p kvs').length = p.length * 7) := Lib.hid (flatF_length hk1')
            have HP : Hid (0 < p.length) := Lib.hid (Nat.pos_of_ne_zero fun h => hp0 (List.length_eq_zero_iff.1 h))
            have HM0 : Hid (n + p.length ≤ maxLen) := Lib.hid (by have := HMX.out; unfold maxLen; omega)
            have HBS : Hid (W.heap.size ≤ w4.heap.size) := Lib.hid HB4.out.size
            have HNN : Hid (n + p.length = (LX).length + p.length) := Lib.hid (by rw [HN.out])
            clear hk1 hk2 hk3 hk1' hk2' hk3' hk4' hcells hv4 hp0
            go_wp2_with (at_builtin; go_loud (refine wpList_append_lies _ rfl _ _ 25 rfl W.heap.size 52 i0 _ 7 88 Tryz.underlying25 hi hz0 hz1 hz2 rfl (by omega) _ n (flatF LX kvs) rfl HKR.out ⟨g', o', none⟩ p.length c4 (flatF p kvs') rfl HFL.out HNW.out HONE.out HP.out HM0.out HMX.out HBS.out w4.heap.size rfl ?_); intro g6 cap6 w6 hown6 hgrow6 hat6 hlt6; have HJ6 : Hid (JOwn w6 W.heap.size (.slice (some ⟨g6, 0, none⟩) (n + p.length) cap6) (LX ++ p)) := Lib.hid (JOwn.app HK1.out HK1'.out HKV.out HKV'.out hgrow6 hat6 HNN.out hown6); have HB6 : Hid (Below W.heap.size W w6) := Lib.hid (HB4.out.grown hgrow6 HBS.out (fun q e => (HKR.out.lt q e).1)); clear hown6 hgrow6 hat6 hlt6)
            exact ⟨⟨k + 1, by simp, Lib.hid ⟨by omega, HB6.out, by rw [HTK.out]; exact HJ6.out⟩⟩, by simp only [intOf]; omega⟩
        · have hlt' : ((k : Int) < (ls.length : Int)) = False := by simp; omega
          have hkl : k = ls.length := by omega
          subst hkl
          rw [List.take_length] at hj
          have HBE := Lib.hid hbe
          have HJ := Lib.hid hj
          clear hr hbe hj
          go_wp2_with fail
          exact bodyPost_ret (v := u6) (by simp [results, Tryz.results87, go_sem]) rfl ⟨_, rfl, HJ.out, HBE.out⟩
end

section
open Go.RowKit

/-- A list of integers in memory. -/
def IntRow (w : World) (v : Value) (p : List Int) : Prop :=
  ∃ b c, v = .slice b p.length c ∧ (p ≠ [] → ∃ g o, b = some ⟨g, o, none⟩ ∧ g < w.heap.size ∧ ∀ k i, p[k]? = some i → w.cell? ⟨g, o + k, none⟩ = some (.int .i64 i))
theorem follow_any (a : Option Addr) (n c : Nat) (W : World) : Calls Tryz.prog 86 #[.slice a n c] W fun e w' => e = .returned (.func (.func 107) #[] #[.pointer (some ⟨W.heap.size, 0, none⟩)]) ∧ w' = W.alloc (.cells #[.slice a n c] 25) := by
  have hmf : ∀ (fn : Fn) (first cap : Array Value) (w : World), (Instr.makeFunc fn first cap).run Tryz.prog w = .ok (.func fn first cap) w := fun _ _ _ _ => rfl
  go_enter Tryz.func86, Tryz.ntmps86
  go_wp2_with fail
  exact bodyPost_ret (v := .func (.func 107) #[] #[.pointer (some ⟨W.heap.size, 0, none⟩)]) (by simp [results, Tryz.results86, go_sem]) rfl ⟨rfl, rfl⟩
set_option maxRecDepth 100000 in
theorem next_none (bx : Nat) (a : Option Addr) (n c : Nat) (l : List Fg) (i : Int) (W : World) (hc : W.cell? ⟨bx, 0, none⟩ = some (.slice a n c)) (hn : n = l.length) (h : getI l i = none) :
    Calls Tryz.prog 107 #[.int .i64 i, .pointer (some ⟨bx, 0, none⟩)] W fun e w' => e = .returned (.tuple #[.slice none 0 0, .bool false]) ∧ w' = W := by
  have h2 := getI_none h
  rw [← hn] at h2
  by_cases h0 : i < 0
  · clear h h2 hn
    go_enter Tryz.func107, Tryz.ntmps107
    go_wp2_with fail
    exact bodyPost_ret (v := .tuple #[.slice none 0 0, .bool false]) (by simp [results, Tryz.results107, go_sem]) rfl ⟨rfl, rfl⟩
  · have h3 : (n : Int) ≤ i := by omega
    have h0' : (i < 0) = False := by simp; omega
    clear h h2 hn
    go_enter Tryz.func107, Tryz.ntmps107
    go_wp2_with fail
    exact bodyPost_ret (v := .tuple #[.slice none 0 0, .bool false]) (by simp [results, Tryz.results107, go_sem]) rfl ⟨rfl, rfl⟩
set_option maxRecDepth 100000 in
theorem next_some (bx g o k : Nat) (n c : Nat) (kv : Value) (W : World) (hc : W.cell? ⟨bx, 0, none⟩ = some (.slice (some ⟨g, o, none⟩) n c)) (hf : W.frozen? ⟨bx, 0, none⟩ = false) (h : k < n) (hk : W.cell? ⟨g, o + k * 7 + 6, none⟩ = some kv) (hone : ∃ ka kn kc, kv = .slice ka kn kc) :
    Calls Tryz.prog 107 #[.int .i64 (k : Int), .pointer (some ⟨bx, 0, none⟩)] W fun e w' => e = .returned (.tuple #[.slice (some ⟨g, o, none⟩) n c, .bool true]) ∧ w' = W.setCell ⟨bx, 0, none⟩ kv := by
  obtain ⟨ka, kn, kc, rfl⟩ := hone
  have h0' : ((k : Int) < 0) = False := by simp
  have h1' : ((n : Int) ≤ (k : Int)) = False := by simp; omega
  have h2' : (k : Int) < (n : Int) := by omega
  go_enter Tryz.func107, Tryz.ntmps107
  go_wp2_with fail
  exact bodyPost_ret (v := .tuple #[.slice (some ⟨g, o, none⟩) n c, .bool true]) (by simp [results, Tryz.results107, go_sem]) rfl ⟨rfl, rfl⟩
theorem box_set {w : World} {b : Nat} {u v : Value} {t : TypeId} (h : w.heap[b]? = some (.cells #[u] t)) : (w.setCell ⟨b, 0, none⟩ v).heap[b]? = some (.cells #[v] t) := by
  unfold World.setCell
  simp [Array.getElem?_modify, h]
theorem box_cell1 {w : World} {b : Nat} {u : Value} {t : TypeId} (h : w.heap[b]? = some (.cells #[u] t)) : w.cell? ⟨b, 0, none⟩ = some u ∧ w.frozen? ⟨b, 0, none⟩ = false := by
  refine ⟨by rw [fcell_at h]; rfl, by simp [World.frozen?, h]⟩
/-- Lists of fragments of the world W, in a row. -/
def LVal (W : World) (P : Nat → Prop) (w : World) (v : Value) (ls : List (List Fg)) : Prop :=
  ∃ a c, v = .slice a ls.length c ∧ (ls ≠ [] → ∃ g o, a = some ⟨g, o, none⟩ ∧ g < w.heap.size ∧ ∀ i l, ls[i]? = some l → ∃ u, w.cell? ⟨g, o + i, none⟩ = some u ∧ FVal W P u l ∧ ValC W u l)
def AOwn (W : World) (P : Nat → Prop) (w : World) (base : Nat) (v : Value) (ls : List (List Fg)) : Prop :=
  ∃ kvs : List Value, kvs.length = ls.length ∧ w.ownsRow base 25 1 v ls.length kvs ∧ ∀ (i : Nat) (l : List Fg) (u : Value), ls[i]? = some l → kvs[i]? = some u → FVal W P u l ∧ ValC W u l
theorem AOwn.val {W w : World} {P : Nat → Prop} {base : Nat} {v : Value} {ls : List (List Fg)} (h : AOwn W P w base v ls) : LVal W P w v ls := by
  obtain ⟨kvs, h1, h2, h3⟩ := h
  rcases h2.2 with ⟨rfl, hn⟩ | ⟨g, cap, cur, rfl, hbg, hg, _⟩
  · rw [List.length_eq_zero_iff.1 hn]
    exact ⟨none, 0, rfl, fun h => absurd rfl h⟩
  · refine ⟨some ⟨g, 0, none⟩, cap, rfl, fun _ => ⟨g, 0, rfl, (Array.getElem?_eq_some_iff.1 hg).1, fun i l hl => ?_⟩⟩
    have hil := (List.getElem?_eq_some_iff.1 hl).1
    obtain ⟨u, hu⟩ : ∃ u, kvs[i]? = some u := ⟨_, List.getElem?_eq_getElem (by omega)⟩
    refine ⟨u, ?_, h3 i l u hl hu⟩
    rw [Nat.zero_add, h2.cellAt i (by omega)]
    exact hu
theorem grownBy_setCell (w : World) (b o : Nat) (v : Value) : w.grownBy (w.setCell ⟨b, o, none⟩ v) (some b) :=
  ⟨rfl, rfl, rfl, by simp [World.setCell], fun k _ hk => Below.heap_setCell _ _ _ _ (fun e => hk (by rw [e]))⟩
/-- The loop along the way: the lists so far, and the list that is next. -/
def ALoop (P : Nat → Prop) (l : List Fg) (p : List Int) (W : World) (k : Nat) (jv : Value) (wr : World) : Prop :=
  k ≤ p.length ∧ Below W.heap.size W wr ∧ ∃ ls lk kv, ls.length = k ∧ walkP l p = (walkP lk (p.drop k)).map (ls ++ ·) ∧ AOwn W P wr (W.heap.size + 1) jv ls ∧ wr.heap[W.heap.size]? = some (.cells #[kv] 25) ∧ FVal W P kv lk ∧ ValC W kv lk
def alongM (l : List Fg) (p : List Int) : Option (List (List Fg)) := if p = [] then none else walkP l p
def AlongPost (P : Nat → Prop) (l : List Fg) (p : List Int) (W : World) (e : Ending) (w' : World) : Prop :=
  Below W.heap.size W w' ∧ ((alongM l p = none ∧ e = .returned (.tuple #[.slice none 0 0, .int .i64 3])) ∨ ∃ ls v, alongM l p = some ls ∧ e = .returned (.tuple #[v, .int .i64 0]) ∧ LVal W P w' v ls)
theorem walk_at {l : List Fg} {p : List Int} {k : Nat} {i : Int} (hi : p[k]? = some i) : walkP l (p.drop k) = match getI l i with
    | none => none
    | some x => match walkP x.kids (p.drop (k + 1)) with
      | none => none
      | some ls => some (l :: ls) := by
  obtain ⟨hk, rfl⟩ := List.getElem?_eq_some_iff.1 hi
  rw [List.drop_eq_getElem_cons hk, walkP]
  rfl
set_option maxRecDepth 100000 in
set_option maxHeartbeats 8000000 in
theorem along_run (P : Nat → Prop) (l : List Fg) (a : Option Addr) (n c : Nat) (v : Value) (p : List Int) (W : World) (hv : FVal W P (.slice a n c) l) (hc : ValC W (.slice a n c) l) (hp : IntRow W v p) (hpl : p.length ≤ 5864062014805) (hne : p ≠ []) :
    Calls Tryz.prog 57 #[.slice a n c, v] W (AlongPost P l p W) := by
  obtain ⟨i0, hi, hz0, hz1, hz2⟩ := info_parts infoFrags
  obtain ⟨pb, pc, rfl, hrow⟩ := hp
  have hz : ((p.length : Int) == 0) = false := by rw [beq_eq_false_iff_ne]; have : p.length ≠ 0 := fun h => hne (List.length_eq_zero_iff.1 h); omega
  have HF := Lib.hid (fun W => follow_any a n c W)
  obtain ⟨g, o, rfl, hg, hcs⟩ := hrow hne
  have HCS := Lib.hid hcs
  have HV := Lib.hid hv
  have HVC := Lib.hid hc
  have HNE : Hid (alongM l p = walkP l p) := Lib.hid (by unfold alongM; rw [if_neg hne])
  clear hrow hcs hv hc hne
  go_enter Tryz.func57, Tryz.ntmps57
  go_wp2_with fail
  refine (HF.out _).mono ?_
  rintro e w1 ⟨rfl, rfl⟩
  go_wp2_with fail
  go_loopw [7, 19] (fun jv iv wr => ∃ k : Nat, iv = .int .i64 (k : Int) ∧ Hid (ALoop P l p W k jv wr)) (fun _ iv _ => p.length - (intOf iv).toNat)
  case atStart => exact ⟨0, rfl, Lib.hid ⟨Nat.zero_le _, (Below.refl _ _).alloc (Nat.le_refl _) _, [], l, .slice a n c, rfl, by rw [List.drop_zero]; cases walkP l p <;> rfl, ⟨[], rfl, World.ownsRow_nil _ _ _ _, fun i l u h => by cases h⟩, heap_alloc_new W _, HV.out, HVC.out⟩⟩
  case round =>
    obtain ⟨k, rfl, hr⟩ := hrel
    obtain ⟨hk, hbe, ls, lk, kv, hls, hw, hps, hbx, hkv, hkc⟩ := hr.out
    have w3' : IntKind.i64.wrap ((k : Int) + 1) = (k : Int) + 1 := IntWalk.i64_in _ (by omega)
    obtain ⟨hbc, hbf⟩ := box_cell1 hbx
    by_cases hlt : k < p.length
    · obtain ⟨i, hpi⟩ : ∃ i, p[k]? = some i := ⟨_, List.getElem?_eq_getElem hlt⟩
      have e0 : wr.cell? ⟨g, o + k, none⟩ = some (.int .i64 i) := (hbe.cell (p := ⟨g, o + k, none⟩) hg).trans (HCS.out k i hpi)
      have hlt' : (k : Int) < (p.length : Int) := by omega
      rw [walk_at hpi] at hw
      obtain ⟨ka, kc, rfl, hkr⟩ := hkv
      cases hgi : getI lk i with
      | none =>
        rw [hgi] at hw
        have HN := Lib.hid (next_none W.heap.size ka lk.length kc lk i wr hbc rfl hgi)
        have HW : Hid (walkP l p = none) := Lib.hid hw
        have HB := Lib.hid hbe
        clear hr hbe hls hw hps hbx hkr hkc hbc hbf hpi hgi
        go_wp2_with fail
        refine HN.out.mono ?_
        rintro e w4 ⟨rfl, rfl⟩
        go_wp2_with fail
        exact bodyPost_ret (v := .tuple #[.slice none 0 0, .int .i64 3]) (by simp [results, Tryz.results57, go_sem]) rfl ⟨HB.out, .inl ⟨by rw [HNE.out, HW.out], rfl⟩⟩
      | some x =>
        rw [hgi] at hw
        obtain ⟨j, rfl, hj, hjx⟩ := getI_some hgi
        obtain ⟨g1, o1, rfl, hP1, hg1, hrw⟩ := hkr (by rintro rfl; simp at hj)
        obtain ⟨kv', hcell, ka', kc', rfl, hkr'⟩ := (hrw.get hjx).parts
        have e6 : wr.cell? ⟨g1, o1 + j * 7 + 6, none⟩ = some (.slice ka' x.kids.length kc') := (hbe.cell (p := ⟨g1, o1 + j * 7 + 6, none⟩) hg1).trans (hcell 6 _ rfl)
        have HN := Lib.hid (next_some W.heap.size g1 o1 j lk.length kc _ wr hbc hbf hj e6 ⟨_, _, _, rfl⟩)
        have HKV : Hid (FVal W P (.slice ka' x.kids.length kc') x.kids) := Lib.hid ⟨_, _, rfl, hkr'⟩
        have HKC := Lib.hid (hkc.kid hjx (hcell 6 _ rfl))
        have HLC := Lib.hid hkc
        have HLK : Hid (FVal W P (.slice (some ⟨g1, o1, none⟩) lk.length kc) lk) := Lib.hid ⟨_, _, rfl, fun _ => ⟨g1, o1, rfl, hP1, hg1, hrw⟩⟩
        have hbx5 := box_set (v := .slice ka' x.kids.length kc') hbx
        have hb5 : Below W.heap.size W (wr.setCell ⟨W.heap.size, 0, none⟩ (.slice ka' x.kids.length kc')) := hbe.setCell (p := ⟨W.heap.size, 0, none⟩) (Nat.le_refl _) _
        obtain ⟨kvs, hk1, hk2, hk3⟩ := hps
        have hk5 := (hk2.kept (grownBy_setCell wr W.heap.size 0 (.slice ka' x.kids.length kc')) (.inr fun e => by have := (hk2.lt _ e).1; omega)).alloc (.cells #[.slice (some ⟨g1, o1, none⟩) lk.length kc] 25)
        obtain ⟨m, hm⟩ : ∃ m, m = ls.length := ⟨_, rfl⟩
        rw [← hm] at hk5
        have HKR := Lib.hid hk5
        have HM0 : Hid (m + 1 ≤ maxLen) := Lib.hid (by unfold maxLen; omega)
        have HM1 : Hid ((m + 1) * 24 ≤ 140737488355328) := Lib.hid (by omega)
        have hsz : (wr.setCell ⟨W.heap.size, 0, none⟩ (.slice ka' x.kids.length kc')).heap.size = wr.heap.size := by simp [World.setCell]
        have HBS : Hid (W.heap.size + 1 ≤ wr.heap.size) := Lib.hid (by have := (Array.getElem?_eq_some_iff.1 hbx).1; omega)
        have HB5 := Lib.hid hb5
        have HX5 := Lib.hid hbx5
        have HK1 := Lib.hid hk1
        have HK3 := Lib.hid hk3
        have HLS := Lib.hid hls
        have HM := Lib.hid hm
        have HW := Lib.hid hw
        have HHK := Lib.hid hk2
        clear hr hbe hls hw hbx hkr hkc hbc hbf hpi hgi hcell hkr' hk1 hk2 hk3 hk5 hm hbx5 hb5 hrw hjx
        go_wp2_with fail
        refine HN.out.mono ?_
        rintro e w4 ⟨rfl, hw4⟩
        rw [← hw4] at HKR HB5 HX5 hsz
        have HSZ := Lib.hid hsz
        clear hw4 hsz
        go_wp2_with (at_builtin; go_loud (refine wpList_append_lies _ rfl _ _ 42 rfl (W.heap.size + 1) 25 i0 _ 1 24 Tryz.underlying42 hi hz0 hz1 hz2 rfl (by omega) _ m kvs rfl HKR.out ⟨w4.heap.size, 0, none⟩ 1 1 [.slice (some ⟨g1, o1, none⟩) lk.length kc] rfl rfl (new_one (heap_alloc_new _ _)) (by simp [Value.oneCell']) (by omega) HM0.out HM1.out (by have := HBS.out; have := HSZ.out; simp; omega) (w4.heap.size + 1) (by simp) ?_); intro g6 cap6 w6 hown6 hgrow6 hat6 hlt6; have HO6 := Lib.hid hown6; have HB6 : Hid (Below W.heap.size W w6) := Lib.hid ((HB5.out.alloc HB5.out.size _).grown hgrow6 (by have := HB5.out.size; simp; omega) (fun q e => by have := (HKR.out.lt q e).1; omega)); have HX6 : Hid (w6.heap[W.heap.size]? = some (.cells #[.slice ka' x.kids.length kc'] 25)) := Lib.hid ((hgrow6.block _ (by have := HBS.out; have := HSZ.out; simp; omega) (fun e => by have := (HKR.out.lt _ e.symm).1; omega)).trans ((Below.heap_alloc _ _ _ (by have := HBS.out; have := HSZ.out; omega)).trans HX5.out)); clear hown6 hgrow6 hat6 hlt6)
        refine ⟨⟨k + 1, by simp, Lib.hid ⟨by omega, HB6.out, ls ++ [lk], x.kids, _, by rw [List.length_append, HLS.out]; rfl, ?_, ⟨kvs ++ [.slice (some ⟨g1, o1, none⟩) lk.length kc], by simp [HK1.out], by rw [List.length_append, ← HM.out]; exact HO6.out, ?_⟩, HX6.out, HKV.out, HKC.out⟩⟩, by simp only [intOf]; omega⟩
        · have hw := HW.out
          rw [hw]
          cases walkP x.kids (p.drop (k + 1)) <;> simp
        · intro q m' y hq hy
          by_cases hi' : q < ls.length
          · rw [List.getElem?_append_left hi'] at hq
            rw [List.getElem?_append_left (by rw [HK1.out]; exact hi')] at hy
            exact HK3.out q m' y hq hy
          · rw [List.getElem?_append_right (by omega)] at hq
            rw [List.getElem?_append_right (by rw [HK1.out]; omega), HK1.out] at hy
            have hi0 : q - ls.length = 0 := by have := (List.getElem?_eq_some_iff.1 hq).1; simp at this; omega
            rw [hi0] at hq hy
            cases hq; cases hy
            exact ⟨HLK.out, HLC.out⟩
    · have hlt' : ((k : Int) < (p.length : Int)) = False := by simp; omega
      have hkl : k = p.length := by omega
      subst hkl
      rw [List.drop_length] at hw
      have HB := Lib.hid hbe
      have HP := Lib.hid hps.val
      have HW : Hid (alongM l p = some ls) := Lib.hid (by rw [HNE.out, hw]; simp [walkP])
      clear hr hbe hls hw hps hbx hkv hkc hbc hbf
      go_wp2_with fail
      exact bodyPost_ret (v := .tuple #[u7, .int .i64 0]) (by simp [results, Tryz.results57, go_sem]) rfl ⟨HB.out, .inr ⟨ls, _, HW.out, rfl, HP.out⟩⟩
set_option maxRecDepth 100000 in
theorem along_any (P : Nat → Prop) (l : List Fg) (a : Option Addr) (n c : Nat) (v : Value) (p : List Int) (W : World) (hv : FVal W P (.slice a n c) l) (hc : ValC W (.slice a n c) l) (hp : IntRow W v p) (hpl : p.length ≤ 5864062014805) : Calls Tryz.prog 57 #[.slice a n c, v] W (AlongPost P l p W) := by
  by_cases hne : p = []
  · obtain ⟨pb, pc, rfl, _⟩ := hp
    subst hne
    clear hv hc hpl
    go_enter Tryz.func57, Tryz.ntmps57
    go_wp2_with fail
    exact bodyPost_ret (v := .tuple #[.slice none 0 0, .int .i64 3]) (by simp [results, Tryz.results57, go_sem]) rfl ⟨Below.refl _ _, .inl ⟨by unfold alongM; rw [if_pos rfl], rfl⟩⟩
  · exact along_run P l a n c v p W hv hc hp hpl hne
end

section
open Go.RowKit

def RepPost (m : List Fg) (W : World) (e : Ending) (w' : World) : Prop := ∃ v, e = .returned v ∧ FVal w' (fun _ => True) v m ∧ Below W.heap.size W w'
theorem up_flat (l by' : List Fg) (k : Nat) : [l.take k, by', l.drop (k + 1)].flatten = upM l (k : Int) by' := by
  unfold upM
  simp
theorem FVal.take {w : World} {P : Nat → Prop} {a : Option Addr} {n c : Nat} {l : List Fg} (h : FVal w P (.slice a n c) l) {k : Nat} (hk : k ≤ l.length) : FVal w P (.slice a k c) (l.take k) := by
  obtain ⟨a', c', e, hr⟩ := h
  cases e
  refine ⟨a, c, by rw [List.length_take, Nat.min_eq_left hk], fun hne => ?_⟩
  obtain ⟨g, o, rfl, p, z, hrw⟩ := hr (by rintro rfl; simp at hne)
  exact ⟨g, o, rfl, p, z, FRow.of fun i x hx => hrw.get (by rw [List.getElem?_take] at hx; split at hx; exact hx; cases hx)⟩
set_option maxRecDepth 100000 in
set_option maxHeartbeats 4000000 in
theorem replaced_any (P P' : Nat → Prop) (l by' : List Fg) (a : Option Addr) (n c k : Nat) (bv : Value) (W : World) (hv : FVal W P (.slice a n c) l) (hc : n ≤ c) (hk : k < l.length) (hb : FVal W P' bv by') (hsz : (l.length + by'.length) * 88 ≤ 140737488355328) :
    Calls Tryz.prog 58 #[.slice a n c, .int .i64 (k : Int), bv] W (RepPost (upM l (k : Int) by') W) := by
  have hnl : n = l.length := by obtain ⟨_, _, e, _⟩ := hv; cases e; rfl
  have f1 := hv.take (k := k) (by omega)
  have f2 := hv.sub hc (b := k + 1) (i := l.length) (by omega) (Nat.le_refl _)
  rw [List.take_length] at f2
  have hkc : k ≤ c := by omega
  have hkn : (k : Int) + 1 ≤ (n : Int) := by omega
  have hk0 : (0 : Int) ≤ (k : Int) + 1 := by omega
  have w3' : IntKind.i64.wrap ((k : Int) + 1) = (k : Int) + 1 := IntWalk.i64_in _ (by omega)
  obtain ⟨ba, bc, rfl, hbr⟩ := hb
  have hb : FVal W P' (.slice ba by'.length bc) by' := ⟨ba, bc, rfl, hbr⟩
  obtain ⟨m, hm⟩ : ∃ m, m = by'.length := ⟨_, rfl⟩
  rw [← hm] at hb ⊢
  have HCAT : Hid (∀ (w' : World) (v1 v3 : Value), FVal W P v1 (l.take k) → FVal W P v3 (l.drop (k + 1)) → Below W.heap.size W w' → W.heap.size < w'.heap.size → (∀ j, w'.cell? ⟨W.heap.size, j, none⟩ = (#[v1, .slice ba m bc, v3] : Array Value)[j]?) → Calls Tryz.prog 87 #[.slice (some ⟨W.heap.size, 0, none⟩) 3 3]
      w' (CatPost [l.take k, by', l.drop (k + 1)] w')) := Lib.hid fun w' v1 v3 g1 g3 hba hz hcell => by
    refine Concat_any (fun _ => True) _ _ _ ⟨some ⟨W.heap.size, 0, none⟩, 3, rfl, fun _ => ⟨W.heap.size, 0, rfl, hz, fun i l' hl' => ?_⟩⟩ (by rw [up_flat]; unfold upM; rw [List.length_append, List.length_append, List.length_take, List.length_drop]; omega) (by simp)
    have hk : ∀ {Q : Nat → Prop} {v : Value} {x : List Fg}, FVal W Q v x → FVal w' (fun _ => True) v x := fun h => h.keep (fun b _ z => ⟨trivial, hba.block b z⟩) hba.size
    rcases i with _ | _ | _ | i
    · cases hl'; exact ⟨_, by rw [hcell]; rfl, hk g1⟩
    · cases hl'; exact ⟨_, by rw [hcell]; rfl, hk hb⟩
    · cases hl'; exact ⟨_, by rw [hcell]; rfl, hk g3⟩
    · simp at hl'
  rw [← hnl] at f2
  have HF1 := Lib.hid f1
  have HF2 := Lib.hid f2
  clear f1 f2 hb hbr hv hm hk hnl hc
  go_enter Tryz.func58, Tryz.ntmps58
  go_wp2_with fail
  go_region_law (go_simp; go_at_call 87; refine (HCAT.out _ _ _ HF1.out HF2.out (by first | exact ((Below.refl _ W).alloc (Nat.le_refl _) _).drew | exact (Below.refl _ W).drew.alloc (Nat.le_refl _) _ | exact (Below.refl _ W).alloc (Nat.le_refl _) _) (by simp) (fun j => by first | exact fcell_at (heap_alloc_new W _) | exact fcell_at (heap_alloc_new W.drew _))).mono ?_; rintro e w4 ⟨v4, rfl, hj4, hb4⟩; have HJ := Lib.hid hj4; have HB4 : Hid (Below W.heap.size W w4) := Lib.hid (Below.trans (by first | exact ((Below.refl _ W).alloc (Nat.le_refl _) _).drew | exact (Below.refl _ W).drew.alloc (Nat.le_refl _) _ | exact (Below.refl _ W).alloc (Nat.le_refl _) _) (hb4.mono (by simp))); clear hj4 hb4)
  all_goals go_wp2_with fail
  all_goals exact bodyPost_ret (v := v4) (by simp [results, Tryz.results58, go_sem]) rfl ⟨_, rfl, by rw [← up_flat]; exact HJ.out.val, HB4.out⟩
end

end Go.Proofs.YtafncodigpjkaaaGreatDoor
