/-
  For every text and splice the law LexUndone returns true (a splice and the one that undoes it lead to the same text and pieces), and both read as before. Conditions: those of the card: the package-level variables that its row lists are as the program's own start lays them.
-/
import Derived.Test.YtnhmcfliepkfeaaDoorLX
import Derived.Test.YtnhmcfliepkfeaaDoorCE
import Derived.ShutString
import Derived.ChangeMaps5
import Derived.Lib.SmallJoins
import Derived.SevenTiedAt
namespace Go.Proofs.YtnhmcfliepkfeaaDoor.lexUndone
open Go.ChangeShapes Go.WideShapes Go.ChangeAt Go.RowKit Go.WideMaps Go.ChangeMaps Go.Joins

theorem cellsS : Tryd.prog.cellsOf 41 = 3 := by kernel_rfl

set_option maxRecDepth 100000 in
theorem contract (H : Type) (enc : TypeId × Value → H) (W : World) (base : Nat) (args : Array Value) (ds gs : List (DataW H)) (before : List MemPlace)
    (hval : ∀ (j : Nat) t v, Tryd.f8.params[j]? = some t → args[j]? = some v → Value.okWide Tryd.prog W .any base t v)
    (hW : DataW.Whole enc Tryd.prog Tryd.f8.params.toList Rows.lexUndoneSpec.vars false W args.toList ds gs before) (hwt : (DataW.weightsEach Tryd.prog (Tryd.f8.params.toList ++ (OpenSpec.ofChange Rows.lexUndoneSpec).bare.plain.varTypes Tryd.prog) (ds ++ gs)).all (· ≤ reachBytes) = true) (hL : laidMetH Tryd.prog Rows.lexUndoneRow.laid W) (hS : W.ShapedOpen Tryd.prog) :
    Calls Tryd.prog 8 args W fun e W' => ∃ v, e = .returned v ∧ Rows.lexUndoneSpec.post enc Tryd.prog Tryd.f8 false true false false W args v W' := by
  have hW' := hW
  obtain ⟨p, q, hA0, hV, rfl, hfz, hnd⟩ := hW
  have hA : DataW.TrodAll enc Tryd.prog W 0 (fun _ => true) true Tryd.f8.params.toList args.toList ds p := hA0
  rw [Tryd.params8] at hA hval
  obtain ⟨v0, v1, d0, d1, p0, p1, rfl, rfl, rfl, h0, h1⟩ := trodAll_two hA
  obtain ⟨rfl, rfl⟩ := trodVars_none hV
  obtain ⟨s, rfl, rfl, rfl, hs⟩ := open_string Tryd.underlying9 (hval 0 9 v0 rfl rfl) h0
  obtain ⟨c0, c1, c2, y0, y1, y2, m, rfl, rfl, rfl, k0, k1, k2⟩ := open_agg3 Tryd.underlying41 (by kernel_rfl) cellsS (hval 1 41 v1 rfl rfl) h1
  obtain ⟨a, ha, rfl, hwa⟩ := DataW.trod_int Tryd.underlying3 k0
  obtain ⟨d, hd, rfl, hwd⟩ := DataW.trod_int Tryd.underlying3 k1
  obtain ⟨ins, hi, rfl, hiz⟩ := DataW.trod_string Tryd.underlying9 k2
  obtain rfl : c0 = .int .i64 a := by simpa using ha
  obtain rfl : c1 = .int .i64 d := by simpa using hd
  obtain rfl : c2 = .string ins := by simpa using hi
  clear hA0
  have hwe : s.size ≤ reachBytes ∧ ins.size ≤ reachBytes := by
    have h := hwt
    rw [Tryd.params8] at h
    simp [DataW.weightsEach, DataW.weights, Tryd.underlying41] at h
    exact h
  have hrb : reachBytes = 140737488351232 := by decide
  simp only [List.append_nil] at hW'
  refine (undone_any s ins a d (by omega) (by omega) W (env_of hL hS)).mono fun e W' ⟨he, hb⟩ => ?_
  subst he
  have hsh : ∀ (sp : Nat → Bool), DataW.TrodAll enc Tryd.prog W' 0 sp true [9, 41] [.string s, .agg #[.int .i64 a, .int .i64 d, .string ins]] [.lit (.string s.data.toList), .agg [.lit (.int .i64 a), .lit (.int .i64 d), .lit (.string ins.data.toList)]] ([] ++ ([] ++ ([] ++ []))) := fun sp =>
    trodAll_mk2 (shut_string Tryd.underlying9 hs) (shut_agg3 (y0 := (.lit (.int .i64 a), [])) (y1 := (.lit (.int .i64 d), [])) (y2 := (.lit (.string ins.data.toList), [])) Tryd.underlying41 (by kernel_rfl) cellsS ⟨1, trod_int_mk 0 Tryd.underlying3 hwa⟩ ⟨1, trod_int_mk 0 Tryd.underlying3 hwd⟩ ⟨1, by simp [DataW.trod, Tryd.underlying9, hiz]⟩)
  exact ⟨_, rfl, post_plain (pa := []) (pv := []) hW' (fun _ _ _ => trodAll_mk1 (shut_bool Tryd.underlying4 _)) (fun sp _ => hsh sp) (fun _ _ => rfl) rfl (hb.frame _)⟩

theorem reads (os : Os) {H : Type} (enc : TypeId × Value → H) : ∃ places, DataW.whole enc Tryd.prog ((World.doorLaid Tryd.prog 400 os).forCall (fun _ _ => 0) ⟨#[], #[.string ⟨#[]⟩, .agg #[.int .i64 0, .int .i64 0, .string ⟨#[]⟩]], []⟩).memory Tryd.f8.params.toList Rows.lexUndoneSpec.vars false #[Value.string ⟨#[]⟩, Value.agg #[.int .i64 0, .int .i64 0, .string ⟨#[]⟩]].toList 8 = some ([.lit (.string []), .agg [.lit (.int .i64 0), .lit (.int .i64 0), .lit (.string [])]], [], places) :=
  ⟨[], by kernel_rfl⟩

set_option maxRecDepth 100000 in
theorem lifted (os : Os) (started : os.Started) (H : Type) (enc : TypeId × Value → H) (F : Stop.Interp) :
    ReturnsInHanded {} Tryd.checked os 8 .any ((OpenSpec.ofChange Rows.lexUndoneSpec).preRow enc Tryd.prog Tryd.f8 Rows.lexUndoneRow.domain false Rows.lexUndoneRow.laid) (((OpenSpec.ofChange Rows.lexUndoneSpec).at F).post enc Tryd.prog Tryd.f8 false true false false) := by
  obtain ⟨places, hx⟩ := reads os enc
  refine returnsInHanded_of_row (C := Tryd.checked) (s := OpenSpec.ofChange Rows.lexUndoneSpec) own started (by kernel_rfl) Tryd.func8
    (witness_row_at (enc := enc) (C := Tryd.checked) false (World.doorLaid Tryd.prog 400 os) #[.string ⟨#[]⟩, .agg #[.int .i64 0, .int .i64 0, .string ⟨#[]⟩]] rfl (by kernel_rfl) (by kernel_rfl) (by kernel_rfl)
      (OpenSpec.preRow_of_cond 8 hx (by kernel_rfl) (fun k hk => by cases hk) (by kernel_rfl) (door_met os _))) ?_
  intro W base args ds gs before hval hW _ _ hwt hL hS _
  exact contract H enc W base args ds gs before hval hW hwt hL hS

theorem said : Rows.LexUndoneSaid :=
  OpenClaim.holds_of_cond 8 Tryd.f8 rfl rfl rfl rfl rfl rfl rfl ⟨rfl, rfl, rfl, rfl, rfl⟩ rfl rfl rfl rfl rfl (by kernel_rfl) Tryd.func8 (by kernel_rfl)
    (of_decide_eq_true (by kernel_rfl)) (by unfold Func.isWrapper; first | (rw [if_pos (by decide +kernel)]; kernel_rfl) | (rw [if_neg (by decide +kernel)]; exact ⟨rfl, rfl⟩))
    (fun os started H enc _ F => by rw [OpenClaim.pre_eq_preRow]; exact lifted os started H enc F)

theorem plain (f : FuncId) (fn : Func) (hf : Tryd.pinned.checked.prog.funcNamed "skerry/skerrylaw01.LexUndone" = some f) (hfn : Tryd.pinned.checked.prog.funcs[f]? = some fn) :
    true = Tryd.pinned.checked.prog.looks [] ∧ ∀ (j : Nat) t, fn.params[j]? = some t → Tryd.pinned.checked.prog.wantsStandIn t = false := by
  obtain rfl : f = 8 := Option.some.inj ((show Tryd.prog.funcNamed "skerry/skerrylaw01.LexUndone" = some 8 by kernel_rfl).symm.trans hf) |>.symm
  obtain rfl : fn = Tryd.f8 := (Option.some.inj (Tryd.func8.symm.trans hfn)).symm
  refine ⟨by kernel_rfl, fun j t ht => ?_⟩
  rw [Tryd.params8] at ht
  have ht2 : t = 9 ∨ t = 41 := by simpa using Array.mem_of_getElem? ht
  rcases ht2 with rfl | rfl
  · exact (show Tryd.prog.wantsStandIn 9 = false by kernel_rfl)
  · exact (show Tryd.prog.wantsStandIn 41 = false by kernel_rfl)

/-- THE CARD. -/
theorem card : Rows.LexUndoneCardSaid :=
  Claim7.holds_tied_plain_at .later [] _ _ _ _ said (fun _ h => by cases h) (by kernel_rfl) (fun _ h => by cases h) lexUndone_row_tie rfl ⟨rfl, rfl⟩ (by kernel_rfl) rfl plain (by kernel_rfl)
#print axioms card
end Go.Proofs.YtnhmcfliepkfeaaDoor.lexUndone
