/- PROVED: the tied card of the law WashText: the law returns true for all its arguments, and they read as before. Condition: the listed package-level variables read as the program's text lays them; the card ties that to the text of the pruned copy of the repository. -/
import Derived.Test.YtmgpmdfmkdhfgaaGreatDoorCards
import Derived.Test.YtmgpmdfmkdhfgaaGreatDoorTie
import Derived.Test.YtmgpmdfmkdhfgaaGreatDoorWashTextLaw
import Derived.Test.YtmgpmdfmkdhfgaaGreatDoorWashRow
import Derived.Deep.DeepHandedRow
namespace Go.Proofs.YtmgpmdfmkdhfgaaGreatDoor
open Go.ChangeShapes Go.WideShapes Go.ChangeAt Go.RowKit
open Go.ChangeMaps (open_string shut_string)
set_option linter.unusedVariables false
set_option linter.unusedSimpArgs false
set_option maxRecDepth 100000

theorem ownWashText : ownKnob Tryz.prog.godebug = none := by kernel_rfl

theorem contractWashText (H : Type) (enc : TypeId × Value → H) (W : World) (base : Nat) (args : Array Value) (ds gs : List (DataW H)) (before : List MemPlace)
    (hval0 : ∀ (j : Nat) t v, Tryz.f4.params[j]? = some t → args[j]? = some v → Value.okWide Tryz.prog W .any base t v)
    (hW : DataW.Whole enc Tryz.prog Tryz.f4.params.toList Rows.washTextSpec.vars false W args.toList ds gs before) (hL : laidMetH Tryz.prog Rows.washTextRow.laid W) (hS : W.ShapedOpen Tryz.prog) :
    Calls Tryz.prog 4 args W fun e W' => ∃ v, e = .returned v ∧ Rows.washTextSpec.post enc Tryz.prog Tryz.f4 false true false false W args v W' := by
  have hval : ∀ (j : Nat) t v, Tryz.f4.params[j]? = some t → args[j]? = some v → Value.okWide Tryz.prog W .any base t v := hval0
  have hW' := hW
  obtain ⟨p, q, hA0, hV, rfl, hfz, hnd⟩ := hW
  have hA : DataW.TrodAll enc Tryz.prog W 0 (fun _ => true) true Tryz.f4.params.toList args.toList ds p := hA0
  rw [Tryz.params4] at hA hval
  obtain ⟨v0, vs0, d0, ds0, p0, q0, hg0, rfl, rfl, h0, r0⟩ := trodAll_cons hA
  obtain ⟨v1, vs1, d1, ds1, p1, q1, hg1, rfl, rfl, h1, r1⟩ := trodAll_cons r0
  obtain ⟨rfl, rfl, rfl⟩ := trodAll_nil r1
  obtain rfl : args = #[v0, v1] := by cases args; simp_all
  obtain ⟨rfl, rfl⟩ := trodVars_none hV
  simp only [List.append_nil] at hW'
  have hlt0 : ∀ x ∈ p0, x.block < W.heap.size := fun x hx => hW'.lt x (by simp [hx])
  have hlt1 : ∀ x ∈ p1, x.block < W.heap.size := fun x hx => hW'.lt x (by simp [hx])
  have g0 := h0
  obtain ⟨pr0, ps0, pq0, rfl⟩ := policyIn_of_trod (hval 0 23 v0 rfl rfl) h0
  have g1 := h1
  obtain ⟨l1, k1, z1⟩ := strsIn_of_trod (hval 1 33 v1 rfl rfl) h1 hlt1
  clear hA0 hval0
  have hT := (envH_of_laid hL hS)
  refine (law_WashText pr0 ps0 pq0 v1 l1 k1 hT).mono fun e W' ⟨he, hb⟩ => ?_
  subst he
  refine ⟨_, rfl, _, _, _, [], _, [], hW', trodAll_mk1 (shut_bool Tryz.underlying4 _), (trodAll_cons_mk (Below.trod laidOutSeat (by kernel_rfl) (of_decide_eq_true (by kernel_rfl)) g0 hb hlt0) (trodAll_cons_mk (Below.trod laidOutSeat (by kernel_rfl) (of_decide_eq_true (by kernel_rfl)) g1 hb hlt1) trodAll_mk0)), ?_, hb.frame _, fun h => by cases h⟩
  all_goals first | rfl | (simp only [List.append_nil])

theorem laid_metWashText (os : Os) : laidMet Tryz.prog Rows.washTextRow.laid ((laidWorld os).forCall (fun _ _ => 0) ⟨#[], #[.agg #[.bool false, .bool false, .bool false], .slice none 0 0], []⟩).memory :=
  laidMet_of_run' 8 (by kernel_rfl) (by kernel_rfl)
theorem readsWashText (os : Os) {H : Type} (enc : TypeId × Value → H) : ∃ places, DataW.whole enc Tryz.prog ((laidWorld os).forCall (fun _ _ => 0) ⟨#[], #[.agg #[.bool false, .bool false, .bool false], .slice none 0 0], []⟩).memory Tryz.f4.params.toList Rows.washTextSpec.vars false #[Value.agg #[Value.bool false, Value.bool false, Value.bool false], Value.slice none 0 0].toList 8 = some ([.agg [.lit (.bool false), .lit (.bool false), .lit (.bool false)], .nil], [], places) :=
  ⟨[], by kernel_rfl⟩

set_option maxRecDepth 100000 in
theorem liftedWashText (os : Os) (started : os.Started) (H : Type) (enc : TypeId × Value → H) (F : Stop.Interp) :
    ReturnsInHanded {} Tryz.checked os 4 .any ((OpenSpec.ofChange Rows.washTextSpec).preRow enc Tryz.prog Tryz.f4 Rows.washTextRow.domain false Rows.washTextRow.laid) (((OpenSpec.ofChange Rows.washTextSpec).at F).post enc Tryz.prog Tryz.f4 false true false false) := by
  obtain ⟨places, hx⟩ := readsWashText os enc
  refine returnsInHanded_of_row (C := Tryz.checked) (s := (OpenSpec.ofChange Rows.washTextSpec)) ownWashText started (by kernel_rfl) Tryz.func4
    (witness_row_at (enc := enc) (C := Tryz.checked) false (laidWorld os) #[.agg #[.bool false, .bool false, .bool false], .slice none 0 0] rfl (by kernel_rfl) (by kernel_rfl) (by kernel_rfl)
      (OpenSpec.preRow_of_cond 8 hx (by kernel_rfl) (fun k hk => by cases hk) (by kernel_rfl) (laid_metWashText os))) ?_
  intro W base args ds gs before hval hW _ _ _ hL hS _
  exact contractWashText H enc W base args ds gs before hval hW hL hS

theorem andTrueWashText {a b : Bool} (h : a = true) (k : b = true) : (a && b) = true := by rw [h, k]; rfl
set_option maxHeartbeats 8000000 in
theorem closedWashText : joinedFacts Tryz.prog 4 Tryz.f4 Rows.washTextSpec Rows.washTextRow = true := by
  unfold joinedFacts
  repeat' (with_reducible refine andTrueWashText ?_ ?_)
  all_goals as_aux_lemma => kernel_rfl
theorem WashText_said : Rows.WashTextSaid :=
  OpenClaim.holds_of_cond 4 Tryz.f4 rfl rfl rfl rfl rfl rfl rfl ⟨rfl, rfl, rfl, rfl, rfl⟩ rfl rfl rfl rfl rfl (by kernel_rfl) Tryz.func4 closedWashText
    (of_decide_eq_true (by kernel_rfl)) (by unfold Func.isWrapper; first | (rw [if_pos (by decide +kernel)]; kernel_rfl) | (rw [if_neg (by decide +kernel)]; exact ⟨rfl, rfl⟩))
    (fun os started H enc _ F => by rw [OpenClaim.pre_eq_preRow]; exact liftedWashText os started H enc F)

theorem plainWashText (f : FuncId) (fn : Func) (hf : Tryz.pinned.checked.prog.funcNamed "muslin/muslinlaw19.WashText" = some f) (hfn : Tryz.pinned.checked.prog.funcs[f]? = some fn) :
    true = Tryz.pinned.checked.prog.looks [] ∧ ∀ (j : Nat) t, fn.params[j]? = some t → Tryz.pinned.checked.prog.wantsStandIn t = false := by
  obtain rfl : f = 4 := Option.some.inj ((show Tryz.prog.funcNamed "muslin/muslinlaw19.WashText" = some 4 by kernel_rfl).symm.trans hf) |>.symm
  obtain rfl : fn = Tryz.f4 := (Option.some.inj (Tryz.func4.symm.trans hfn)).symm
  refine ⟨by kernel_rfl, fun j t ht => ?_⟩
  rw [Tryz.params4] at ht
  have hm := Array.mem_of_getElem? ht
  simp only [List.mem_toArray, List.mem_cons, List.not_mem_nil, or_false] at hm
  rcases hm with rfl | rfl
  · exact (show Tryz.prog.wantsStandIn 23 = false by kernel_rfl)
  · exact (show Tryz.prog.wantsStandIn 33 = false by kernel_rfl)

theorem WashText_card : Rows.WashTextCardSaid :=
  Claim7.holds_tied_plain_at .later [] _ _ _ _ WashText_said (fun _ h => by cases h) (by kernel_rfl) (fun _ h => by cases h) washText_row_tie rfl ⟨rfl, rfl⟩ (by kernel_rfl) rfl plainWashText (by kernel_rfl)
#print axioms WashText_card
end Go.Proofs.YtmgpmdfmkdhfgaaGreatDoor
