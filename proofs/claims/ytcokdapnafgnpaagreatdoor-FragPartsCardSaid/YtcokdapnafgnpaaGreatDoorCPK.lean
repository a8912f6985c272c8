/-
  For every two lists of fragments and words the law FragParts returns true (two readable lists, one behind the other, are readable, unless names behind the end of the first one could be dropped, and so are the fragments of each group but of macro), and the arguments read as before. Conditions: those of the card: the package-level variables that its row lists are as the program's own start lays them.
-/
import Derived.Test.YtcokdapnafgnpaaGreatDoorFGD
import Derived.Test.YtcokdapnafgnpaaGreatDoorFGM
import Derived.Test.YtcokdapnafgnpaaGreatDoorFGJ
import Derived.Test.YtcokdapnafgnpaaGreatDoorXU
import Derived.ShutString
import Derived.ChangeMaps5
import Derived.SevenTiedAt
import Derived.WideKeyArgs
namespace Go.Proofs.YtcokdapnafgnpaaGreatDoor.fragParts
open Go.ChangeShapes Go.WideShapes Go.ChangeAt Go.RowKit Go.WideMaps Go.ChangeMaps

set_option maxRecDepth 100000 in
/-- A list that came in has no more bytes than can be reached. -/
theorem frags_bytes {H : Type} {enc : TypeId × Value → H} {W : World} {base : Nat} {P : Nat → Prop} {v : Value} {d : DataW H} {p : List MemPlace} {l : List Fg} (hv : Value.okWide Tryz.prog W .any base 25 v) (h : DataW.Trod enc Tryz.prog W 0 (fun _ => true) true 25 v d p)
    (hw : (d.weights Tryz.prog 25).all (· ≤ reachBytes) = true) (hl : FVal W P v l) : l.length * 88 ≤ reachBytes := by
  obtain ⟨b, c, rfl, _⟩ := hl
  obtain ⟨fuel, h⟩ := h
  have h' : DataW.trod enc Tryz.prog W 0 (fun _ => true) true fuel 25 [.slice b l.length c] = some (d, p) := by simpa [Value.cells] using h
  rcases DataW.trod_slice Tryz.underlying25 h' with ⟨hc, hx⟩ | ⟨a, len, cap, elems, rest, m, hm, hc, hx, _, hle, _, hlen, _, _, _⟩
  · simp only [List.cons.injEq, Value.slice.injEq, and_true] at hc
    rw [hc.2.1]; simp
  · simp only [List.cons.injEq, Value.slice.injEq, and_true] at hc
    have hd : d = .slice (elems.map (·.1)) (rest.map (·.1)) := congrArg Prod.fst hx
    rw [hd] at hw
    unfold DataW.weights at hw
    rw [Tryz.underlying25] at hw
    simp only [List.all_cons, List.all_append, Bool.and_eq_true, decide_eq_true_eq, List.length_map, bytesFrag] at hw
    have := hw.1
    rw [hc.2.1, ← hlen]
    omega

set_option maxRecDepth 100000 in
theorem contract (H : Type) (enc : TypeId × Value → H) (W : World) (base : Nat) (args : Array Value) (ds gs : List (DataW H)) (before : List MemPlace)
    (hval : ∀ (j : Nat) t v, Tryz.f10.params[j]? = some t → args[j]? = some v → Value.okWide Tryz.prog W .any base t v)
    (hW : DataW.Whole enc Tryz.prog Tryz.f10.params.toList Rows.fragPartsSpec.vars false W args.toList ds gs before) (hwt : (DataW.weightsEach Tryz.prog (Tryz.f10.params.toList ++ (OpenSpec.ofChange Rows.fragPartsSpec).bare.plain.varTypes Tryz.prog) (ds ++ gs)).all (· ≤ reachBytes) = true) (hL : laidMetH Tryz.prog Rows.fragPartsRow.laid W) (hS : W.ShapedOpen Tryz.prog) :
    Calls Tryz.prog 10 args W fun e W' => ∃ v, e = .returned v ∧ Rows.fragPartsSpec.post enc Tryz.prog Tryz.f10 false true false false W args v W' := by
  have hW' := hW
  obtain ⟨p, q, hA0, hV, rfl, hfz, hnd⟩ := hW
  have hA : DataW.TrodAll enc Tryz.prog W 0 (fun _ => true) true Tryz.f10.params.toList args.toList ds p := hA0
  rw [Tryz.params10] at hA hval
  obtain ⟨v0, v1, v2, d0, d1, d2, p0, p1, p2, rfl, rfl, rfl, h0, h1, h2⟩ := trodAll_three hA
  obtain ⟨rfl, rfl⟩ := trodVars_none hV
  have hwe : (d0.weights Tryz.prog 25).all (· ≤ reachBytes) = true ∧ (d1.weights Tryz.prog 25).all (· ≤ reachBytes) = true ∧ (d2.weights Tryz.prog 23).all (· ≤ reachBytes) = true := by
    have h := hwt
    rw [Tryz.params10] at h
    have e : DataW.weightsEach Tryz.prog ((#[25, 25, 23] : Array TypeId).toList ++ (OpenSpec.ofChange Rows.fragPartsSpec).bare.plain.varTypes Tryz.prog) ([d0, d1, d2] ++ []) = d0.weights Tryz.prog 25 ++ (d1.weights Tryz.prog 25 ++ (d2.weights Tryz.prog 23 ++ [])) := rfl
    rw [e, List.all_append, List.all_append, List.all_append, Bool.and_eq_true, Bool.and_eq_true, Bool.and_eq_true] at h
    exact ⟨h.1, h.2.1, h.2.2.1⟩
  obtain ⟨a, k0, _, b0, le0, sz0⟩ := frags_open (hval 0 25 v0 rfl rfl) h0 hwe.1
  obtain ⟨b, k1, _, b1, le1, sz1⟩ := frags_open (hval 1 25 v1 rfl rfl) h1 hwe.2.1
  obtain ⟨ws, k2, s2⟩ := strs_open (hval 2 23 v2 rfl rfl) h2 hwe.2.2
  have w0 := frags_bytes (hval 0 25 v0 rfl rfl) h0 hwe.1 k0
  have w1 := frags_bytes (hval 1 25 v1 rfl rfl) h1 hwe.2.1 k1
  have hrb : reachBytes = 140737488351232 := by decide
  have hlt : ∀ x ∈ p0 ++ (p1 ++ p2), x.block < W.heap.size := fun x hx => by
    have := hW'.lt x (by simpa using hx)
    simpa using this
  rw [hrb] at le0 sz0 le1 sz1 w0 w1
  refine (parts_any _ _ a b v0 v1 ws v2 W (env_of hL hS) k0 k1 w0 le0 sz0 w1 le1 sz1 k2 (fun x hx => by have := s2 x hx; omega)).mono fun e W' ⟨he, hb⟩ => ?_
  subst he
  refine ⟨_, rfl, post_plain (pa := p0 ++ (p1 ++ p2)) (pv := []) hW' (fun _ _ _ => trodAll_mk1 (shut_bool Tryz.underlying4 _)) (fun sp hsp => trodAll_mk3 (WideElems.Trod_stays laidOut (by kernel_rfl) (of_decide_eq_true (by kernel_rfl)) h0 (fun x hx => hb.same (hlt x (by simp [hx]))) (fun x hx => hsp x (by simp [hx]))) (WideElems.Trod_stays laidOut (by kernel_rfl) (of_decide_eq_true (by kernel_rfl)) h1 (fun x hx => hb.same (hlt x (by simp [hx]))) (fun x hx => hsp x (by simp [hx]))) (WideElems.Trod_stays laidOut (by kernel_rfl) (of_decide_eq_true (by kernel_rfl)) h2 (fun x hx => hb.same (hlt x (by simp [hx]))) (fun x hx => hsp x (by simp [hx])))) (fun _ _ => rfl) (by simp) (hb.frame _)⟩

theorem reads (os : Os) {H : Type} (enc : TypeId × Value → H) : ∃ places, DataW.whole enc Tryz.prog ((World.doorLaid Tryz.prog 400 os).forCall (fun _ _ => 0) ⟨#[], #[.slice none 0 0, .slice none 0 0, .slice none 0 0], []⟩).memory Tryz.f10.params.toList Rows.fragPartsSpec.vars false #[Value.slice none 0 0, Value.slice none 0 0, Value.slice none 0 0].toList 8 = some ([.nil, .nil, .nil], [], places) :=
  ⟨[], by kernel_rfl⟩

set_option maxRecDepth 100000 in
theorem lifted (os : Os) (started : os.Started) (H : Type) (enc : TypeId × Value → H) (F : Stop.Interp) :
    ReturnsInHanded {} Tryz.checked os 10 .any ((OpenSpec.ofChange Rows.fragPartsSpec).preRow enc Tryz.prog Tryz.f10 Rows.fragPartsRow.domain false Rows.fragPartsRow.laid) (((OpenSpec.ofChange Rows.fragPartsSpec).at F).post enc Tryz.prog Tryz.f10 false true false false) := by
  obtain ⟨places, hx⟩ := reads os enc
  refine returnsInHanded_of_row (C := Tryz.checked) (s := OpenSpec.ofChange Rows.fragPartsSpec) own started (by kernel_rfl) Tryz.func10
    (witness_row_at (enc := enc) (C := Tryz.checked) false (World.doorLaid Tryz.prog 400 os) #[.slice none 0 0, .slice none 0 0, .slice none 0 0] rfl (by kernel_rfl) (by kernel_rfl) (by kernel_rfl)
      (OpenSpec.preRow_of_cond 8 hx (by kernel_rfl) (fun k hk => by cases hk) (by kernel_rfl) (door_met os _))) ?_
  intro W base args ds gs before hval hW _ _ hwt hL hS _
  exact contract H enc W base args ds gs before hval hW hwt hL hS

theorem said : Rows.FragPartsSaid :=
  OpenClaim.holds_of_cond 10 Tryz.f10 rfl rfl rfl rfl rfl rfl rfl ⟨rfl, rfl, rfl, rfl, rfl⟩ rfl rfl rfl rfl rfl (by kernel_rfl) Tryz.func10 (by kernel_rfl)
    (of_decide_eq_true (by kernel_rfl)) (by unfold Func.isWrapper; first | (rw [if_pos (by decide +kernel)]; kernel_rfl) | (rw [if_neg (by decide +kernel)]; exact ⟨rfl, rfl⟩))
    (fun os started H enc _ F => by rw [OpenClaim.pre_eq_preRow]; exact lifted os started H enc F)

theorem plain (f : FuncId) (fn : Func) (hf : Tryz.pinned.checked.prog.funcNamed "skerry/skerrylaw02.FragParts" = some f) (hfn : Tryz.pinned.checked.prog.funcs[f]? = some fn) :
    true = Tryz.pinned.checked.prog.looks [] ∧ ∀ (j : Nat) t, fn.params[j]? = some t → Tryz.pinned.checked.prog.wantsStandIn t = false := by
  obtain rfl : f = 10 := Option.some.inj ((show Tryz.prog.funcNamed "skerry/skerrylaw02.FragParts" = some 10 by kernel_rfl).symm.trans hf) |>.symm
  obtain rfl : fn = Tryz.f10 := (Option.some.inj (Tryz.func10.symm.trans hfn)).symm
  refine ⟨by kernel_rfl, fun j t ht => ?_⟩
  rw [Tryz.params10] at ht
  have hm := Array.mem_of_getElem? ht
  simp only [List.mem_toArray, List.mem_cons, List.not_mem_nil, or_false] at hm
  rcases hm with rfl | rfl | rfl
  · exact (show Tryz.prog.wantsStandIn 25 = false by kernel_rfl)
  · exact (show Tryz.prog.wantsStandIn 25 = false by kernel_rfl)
  · exact (show Tryz.prog.wantsStandIn 23 = false by kernel_rfl)

/-- THE CARD. -/
theorem card : Rows.FragPartsCardSaid :=
  Claim7.holds_tied_plain_at .later [] _ _ _ _ said (fun _ h => by cases h) (by kernel_rfl) (fun _ h => by cases h) fragParts_row_tie rfl ⟨rfl, rfl⟩ (by kernel_rfl) rfl plain (by kernel_rfl)
#print axioms card
end Go.Proofs.YtcokdapnafgnpaaGreatDoor.fragParts
