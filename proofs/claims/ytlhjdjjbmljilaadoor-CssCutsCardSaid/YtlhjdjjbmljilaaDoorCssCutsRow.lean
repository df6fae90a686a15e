/- PROVED: the tied card of the law CssCuts: the law returns true for all its arguments, and they read as before. Condition: the listed package-level variables read as the program's text lays them; the card ties that to the text of the pruned copy of the repository. -/
import Derived.Test.YtlhjdjjbmljilaaDoorCards
import Derived.Test.YtlhjdjjbmljilaaDoorTie
import Derived.Test.YtlhjdjjbmljilaaDoorCssCutsLaw
import Derived.Test.YtlhjdjjbmljilaaDoorCssRow
import Derived.Deep.DeepHandedRow
namespace Go.Proofs.YtlhjdjjbmljilaaDoor
open Go.ChangeShapes Go.WideShapes Go.ChangeAt Go.RowKit
open Go.ChangeMaps (open_string shut_string)
set_option linter.unusedVariables false
set_option linter.unusedSimpArgs false
set_option maxRecDepth 100000

theorem ownCssCuts : ownKnob Tryd.prog.godebug = none := by kernel_rfl

theorem contractCssCuts (H : Type) (enc : TypeId × Value → H) (W : World) (base : Nat) (args : Array Value) (ds gs : List (DataW H)) (before : List MemPlace)
    (hval0 : ∀ (j : Nat) t v, Tryd.f7.params[j]? = some t → args[j]? = some v → Value.okWide Tryd.prog W .any base t v)
    (hW : DataW.Whole enc Tryd.prog Tryd.f7.params.toList Rows.cssCutsSpec.vars false W args.toList ds gs before) (hL : laidMetH Tryd.prog Rows.cssCutsRow.laid W) (hS : W.ShapedOpen Tryd.prog) :
    Calls Tryd.prog 7 args W fun e W' => ∃ v, e = .returned v ∧ Rows.cssCutsSpec.post enc Tryd.prog Tryd.f7 false true false false W args v W' := by
  have hval : ∀ (j : Nat) t v, Tryd.f7.params[j]? = some t → args[j]? = some v → Value.okWide Tryd.prog W .any base t v := hval0
  have hW' := hW
  obtain ⟨p, q, hA0, hV, rfl, hfz, hnd⟩ := hW
  have hA : DataW.TrodAll enc Tryd.prog W 0 (fun _ => true) true Tryd.f7.params.toList args.toList ds p := hA0
  rw [Tryd.params7] at hA hval
  obtain ⟨v0, vs0, d0, ds0, p0, q0, hg0, rfl, rfl, h0, r0⟩ := trodAll_cons hA
  obtain ⟨rfl, rfl, rfl⟩ := trodAll_nil r0
  obtain rfl : args = #[v0] := by cases args; simp_all
  obtain ⟨rfl, rfl⟩ := trodVars_none hV
  simp only [List.append_nil] at hW'
  have hlt0 : ∀ x ∈ p0, x.block < W.heap.size := fun x hx => hW'.lt x (by simp [hx])
  have g0 := h0
  obtain ⟨a0, rfl, rfl, rfl, k0⟩ := open_string Tryd.underlying9 (hval 0 9 v0 rfl rfl) h0
  clear hA0 hval0
  have hT := (envC_of_laid hL)
  refine (law_CssCuts a0 k0 W hT).mono fun e W' ⟨he, hb⟩ => ?_
  subst he
  refine ⟨_, rfl, _, _, _, [], _, [], hW', trodAll_mk1 (shut_bool Tryd.underlying4 _), (trodAll_cons_mk (Below.trod laidOutSeat (by kernel_rfl) (of_decide_eq_true (by kernel_rfl)) g0 hb hlt0) trodAll_mk0), ?_, hb.frame _, fun h => by cases h⟩
  all_goals first | rfl | (simp only [List.append_nil])

theorem laid_metCssCuts (os : Os) : laidMet Tryd.prog Rows.cssCutsRow.laid ((laidWorld os).forCall (fun _ _ => 0) ⟨#[], #[.string .empty], []⟩).memory :=
  laidMet_of_run' 8 (by kernel_rfl) (by kernel_rfl)
theorem readsCssCuts (os : Os) {H : Type} (enc : TypeId × Value → H) : ∃ places, DataW.whole enc Tryd.prog ((laidWorld os).forCall (fun _ _ => 0) ⟨#[], #[.string .empty], []⟩).memory Tryd.f7.params.toList Rows.cssCutsSpec.vars false #[Value.string .empty].toList 8 = some ([.lit (.string [])], [], places) :=
  ⟨[], by kernel_rfl⟩

set_option maxRecDepth 100000 in
theorem liftedCssCuts (os : Os) (started : os.Started) (H : Type) (enc : TypeId × Value → H) (F : Stop.Interp) :
    ReturnsInHanded {} Tryd.checked os 7 .any ((OpenSpec.ofChange Rows.cssCutsSpec).preRow enc Tryd.prog Tryd.f7 Rows.cssCutsRow.domain false Rows.cssCutsRow.laid) (((OpenSpec.ofChange Rows.cssCutsSpec).at F).post enc Tryd.prog Tryd.f7 false true false false) := by
  obtain ⟨places, hx⟩ := readsCssCuts os enc
  refine returnsInHanded_of_row (C := Tryd.checked) (s := (OpenSpec.ofChange Rows.cssCutsSpec)) ownCssCuts started (by kernel_rfl) Tryd.func7
    (witness_row_at (enc := enc) (C := Tryd.checked) false (laidWorld os) #[.string .empty] rfl (by kernel_rfl) (by kernel_rfl) (by kernel_rfl)
      (OpenSpec.preRow_of_cond 8 hx (by kernel_rfl) (fun k hk => by cases hk) (by kernel_rfl) (laid_metCssCuts os))) ?_
  intro W base args ds gs before hval hW _ _ _ hL hS _
  exact contractCssCuts H enc W base args ds gs before hval hW hL hS

theorem andTrueCssCuts {a b : Bool} (h : a = true) (k : b = true) : (a && b) = true := by rw [h, k]; rfl
set_option maxHeartbeats 8000000 in
theorem closedCssCuts : joinedFacts Tryd.prog 7 Tryd.f7 Rows.cssCutsSpec Rows.cssCutsRow = true := by
  unfold joinedFacts
  repeat' (with_reducible refine andTrueCssCuts ?_ ?_)
  all_goals as_aux_lemma => kernel_rfl
theorem CssCuts_said : Rows.CssCutsSaid :=
  OpenClaim.holds_of_cond 7 Tryd.f7 rfl rfl rfl rfl rfl rfl rfl ⟨rfl, rfl, rfl, rfl, rfl⟩ rfl rfl rfl rfl rfl (by kernel_rfl) Tryd.func7 closedCssCuts
    (of_decide_eq_true (by kernel_rfl)) (by unfold Func.isWrapper; first | (rw [if_pos (by decide +kernel)]; kernel_rfl) | (rw [if_neg (by decide +kernel)]; exact ⟨rfl, rfl⟩))
    (fun os started H enc _ F => by rw [OpenClaim.pre_eq_preRow]; exact liftedCssCuts os started H enc F)

theorem plainCssCuts (f : FuncId) (fn : Func) (hf : Tryd.pinned.checked.prog.funcNamed "muslin/muslinlaw17.CssCuts" = some f) (hfn : Tryd.pinned.checked.prog.funcs[f]? = some fn) :
    true = Tryd.pinned.checked.prog.looks [] ∧ ∀ (j : Nat) t, fn.params[j]? = some t → Tryd.pinned.checked.prog.wantsStandIn t = false := by
  obtain rfl : f = 7 := Option.some.inj ((show Tryd.prog.funcNamed "muslin/muslinlaw17.CssCuts" = some 7 by kernel_rfl).symm.trans hf) |>.symm
  obtain rfl : fn = Tryd.f7 := (Option.some.inj (Tryd.func7.symm.trans hfn)).symm
  refine ⟨by kernel_rfl, fun j t ht => ?_⟩
  rw [Tryd.params7] at ht
  have hm := Array.mem_of_getElem? ht
  simp only [List.mem_toArray, List.mem_cons, List.not_mem_nil, or_false] at hm
  rcases hm with rfl
  · exact (show Tryd.prog.wantsStandIn 9 = false by kernel_rfl)

theorem CssCuts_card : Rows.CssCutsCardSaid :=
  Claim7.holds_tied_plain_at .later [] _ _ _ _ CssCuts_said (fun _ h => by cases h) (by kernel_rfl) (fun _ h => by cases h) cssCuts_row_tie rfl ⟨rfl, rfl⟩ (by kernel_rfl) rfl plainCssCuts (by kernel_rfl)
#print axioms CssCuts_card
end Go.Proofs.YtlhjdjjbmljilaaDoor
