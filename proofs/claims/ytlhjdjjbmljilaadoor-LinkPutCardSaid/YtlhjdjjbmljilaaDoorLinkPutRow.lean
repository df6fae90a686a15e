/- PROVED: the tied card of the law LinkPut: the law returns true for all its arguments, and they read as before. Condition: the listed package-level variables read as the program's text lays them; the card ties that to the text of the pruned copy of the repository. -/
import Derived.Test.YtlhjdjjbmljilaaDoorCards
import Derived.Test.YtlhjdjjbmljilaaDoorTie
import Derived.Test.YtlhjdjjbmljilaaDoorLinkPutLaw
import Derived.Test.YtlhjdjjbmljilaaDoorLinkRow
import Derived.Deep.DeepHandedRow
namespace Go.Proofs.YtlhjdjjbmljilaaDoor
open Go.ChangeShapes Go.WideShapes Go.ChangeAt Go.RowKit
open Go.ChangeMaps (open_string shut_string)
set_option linter.unusedVariables false
set_option linter.unusedSimpArgs false
set_option maxRecDepth 100000

theorem cellsPut : Tryd.prog.cellsOf 27 = 4 := by kernel_rfl
theorem cellsStrP : Tryd.prog.cellsOf 9 = 1 := by kernel_rfl
theorem cellsIntP : Tryd.prog.cellsOf 3 = 1 := by kernel_rfl
theorem cellsU8P : Tryd.prog.cellsOf 5 = 1 := by kernel_rfl
theorem putIn_of_trod {H : Type} {enc : TypeId × Value → H} {W : World} {base : Nat} {v : Value} {d : DataW H} {p : List MemPlace} (hv : Value.okWide Tryd.prog W .any base 27 v)
    (h : DataW.Trod enc Tryd.prog W 0 (fun _ => true) true 27 v d p) : ∃ (a : ByteArray) (z x y : Int), v = .agg #[.string a, .int .i64 z, .int .u8 x, .int .u8 y] ∧ PutOk a z x y := by
  obtain ⟨cs, rfl, hcs⟩ := okWide_struct Tryd.underlying27 hv
  obtain ⟨fuel, hf⟩ := h
  rw [cellsPut] at hcs
  obtain ⟨xs, n, _, _, hlen, hxl, hfs⟩ := DataW.trod_struct Tryd.underlying27 hf
  obtain ⟨v0, v1, v2, v3, rfl⟩ : ∃ v0 v1 v2 v3, cs = #[v0, v1, v2, v3] := by
    obtain ⟨l⟩ := cs
    match l, hcs with
    | [v0, v1, v2, v3], _ => exact ⟨v0, v1, v2, v3, rfl⟩
  have g0 : DataW.trod enc Tryd.prog W 0 (fun _ => true) true n 9 [v0] = xs[0]? := by simpa [Value.cells, cellsStrP] using hfs 0 _ rfl
  have g1 : DataW.trod enc Tryd.prog W 0 (fun _ => true) true n 3 [v1] = xs[1]? := by simpa [Value.cells, cellsIntP] using hfs 1 _ rfl
  have g2 : DataW.trod enc Tryd.prog W 0 (fun _ => true) true n 5 [v2] = xs[2]? := by simpa [Value.cells, cellsU8P] using hfs 2 _ rfl
  have g3 : DataW.trod enc Tryd.prog W 0 (fun _ => true) true n 5 [v3] = xs[3]? := by simpa [Value.cells, cellsU8P] using hfs 3 _ rfl
  match xs, hxl with
  | [y0, y1, y2, y3], _ =>
    obtain ⟨a, ea, _, ka⟩ := DataW.trod_string Tryd.underlying9 g0
    obtain ⟨z, ez, _, kz⟩ := DataW.trod_int Tryd.underlying3 g1
    obtain ⟨x, ex, _, kx⟩ := DataW.trod_int Tryd.underlying5 g2
    obtain ⟨y, ey, _, ky⟩ := DataW.trod_int Tryd.underlying5 g3
    refine ⟨a, z, x, y, ?_, ka, kz, kx, ky⟩
    have ea' : v0 = .string a := by simpa using ea
    have ez' : v1 = .int .i64 z := by simpa using ez
    have ex' : v2 = .int .u8 x := by simpa using ex
    have ey' : v3 = .int .u8 y := by simpa using ey
    rw [ea', ez', ex', ey']
theorem ownLinkPut : ownKnob Tryd.prog.godebug = none := by kernel_rfl

theorem contractLinkPut (H : Type) (enc : TypeId × Value → H) (W : World) (base : Nat) (args : Array Value) (ds gs : List (DataW H)) (before : List MemPlace)
    (hval0 : ∀ (j : Nat) t v, Tryd.f4.params[j]? = some t → args[j]? = some v → Value.okWide Tryd.prog W .any base t v)
    (hW : DataW.Whole enc Tryd.prog Tryd.f4.params.toList Rows.linkPutSpec.vars false W args.toList ds gs before) (hL : laidMetH Tryd.prog Rows.linkPutRow.laid W) (hS : W.ShapedOpen Tryd.prog) :
    Calls Tryd.prog 4 args W fun e W' => ∃ v, e = .returned v ∧ Rows.linkPutSpec.post enc Tryd.prog Tryd.f4 false true false false W args v W' := by
  have hval : ∀ (j : Nat) t v, Tryd.f4.params[j]? = some t → args[j]? = some v → Value.okWide Tryd.prog W .any base t v := hval0
  have hW' := hW
  obtain ⟨p, q, hA0, hV, rfl, hfz, hnd⟩ := hW
  have hA : DataW.TrodAll enc Tryd.prog W 0 (fun _ => true) true Tryd.f4.params.toList args.toList ds p := hA0
  rw [Tryd.params4] at hA hval
  obtain ⟨v0, vs0, d0, ds0, p0, q0, hg0, rfl, rfl, h0, r0⟩ := trodAll_cons hA
  obtain ⟨rfl, rfl, rfl⟩ := trodAll_nil r0
  obtain rfl : args = #[v0] := by cases args; simp_all
  obtain ⟨rfl, rfl⟩ := trodVars_none hV
  simp only [List.append_nil] at hW'
  have hlt0 : ∀ x ∈ p0, x.block < W.heap.size := fun x hx => hW'.lt x (by simp [hx])
  have g0 := h0
  obtain ⟨a0, z0, x0, y0, rfl, k0⟩ := putIn_of_trod (hval 0 27 v0 rfl rfl) h0
  clear hA0 hval0
  have hT := (envU_of_laid hL)
  refine (law_LinkPut a0 z0 x0 y0 k0 W hT).mono fun e W' ⟨he, hb⟩ => ?_
  subst he
  refine ⟨_, rfl, _, _, _, [], _, [], hW', trodAll_mk1 (shut_bool Tryd.underlying4 _), (trodAll_cons_mk (Below.trod laidOutSeat (by kernel_rfl) (of_decide_eq_true (by kernel_rfl)) g0 hb hlt0) trodAll_mk0), ?_, hb.frame _, fun h => by cases h⟩
  all_goals first | rfl | (simp only [List.append_nil])

theorem laid_metLinkPut (os : Os) : laidMet Tryd.prog Rows.linkPutRow.laid ((laidWorld os).forCall (fun _ _ => 0) ⟨#[], #[.agg #[.string .empty, .int .i64 0, .int .u8 0, .int .u8 0]], []⟩).memory :=
  laidMet_of_run' 8 (by kernel_rfl) (by kernel_rfl)
theorem readsLinkPut (os : Os) {H : Type} (enc : TypeId × Value → H) : ∃ places, DataW.whole enc Tryd.prog ((laidWorld os).forCall (fun _ _ => 0) ⟨#[], #[.agg #[.string .empty, .int .i64 0, .int .u8 0, .int .u8 0]], []⟩).memory Tryd.f4.params.toList Rows.linkPutSpec.vars false #[Value.agg #[Value.string .empty, Value.int .i64 0, Value.int .u8 0, Value.int .u8 0]].toList 8 = some ([.agg [.lit (.string []), .lit (.int .i64 0), .lit (.int .u8 0), .lit (.int .u8 0)]], [], places) :=
  ⟨[], by kernel_rfl⟩

set_option maxRecDepth 100000 in
theorem liftedLinkPut (os : Os) (started : os.Started) (H : Type) (enc : TypeId × Value → H) (F : Stop.Interp) :
    ReturnsInHanded {} Tryd.checked os 4 .any ((OpenSpec.ofChange Rows.linkPutSpec).preRow enc Tryd.prog Tryd.f4 Rows.linkPutRow.domain false Rows.linkPutRow.laid) (((OpenSpec.ofChange Rows.linkPutSpec).at F).post enc Tryd.prog Tryd.f4 false true false false) := by
  obtain ⟨places, hx⟩ := readsLinkPut os enc
  refine returnsInHanded_of_row (C := Tryd.checked) (s := (OpenSpec.ofChange Rows.linkPutSpec)) ownLinkPut started (by kernel_rfl) Tryd.func4
    (witness_row_at (enc := enc) (C := Tryd.checked) false (laidWorld os) #[.agg #[.string .empty, .int .i64 0, .int .u8 0, .int .u8 0]] rfl (by kernel_rfl) (by kernel_rfl) (by kernel_rfl)
      (OpenSpec.preRow_of_cond 8 hx (by kernel_rfl) (fun k hk => by cases hk) (by kernel_rfl) (laid_metLinkPut os))) ?_
  intro W base args ds gs before hval hW _ _ _ hL hS _
  exact contractLinkPut H enc W base args ds gs before hval hW hL hS

theorem andTrueLinkPut {a b : Bool} (h : a = true) (k : b = true) : (a && b) = true := by rw [h, k]; rfl
set_option maxHeartbeats 8000000 in
theorem closedLinkPut : joinedFacts Tryd.prog 4 Tryd.f4 Rows.linkPutSpec Rows.linkPutRow = true := by
  unfold joinedFacts
  repeat' (with_reducible refine andTrueLinkPut ?_ ?_)
  all_goals as_aux_lemma => kernel_rfl
theorem LinkPut_said : Rows.LinkPutSaid :=
  OpenClaim.holds_of_cond 4 Tryd.f4 rfl rfl rfl rfl rfl rfl rfl ⟨rfl, rfl, rfl, rfl, rfl⟩ rfl rfl rfl rfl rfl (by kernel_rfl) Tryd.func4 closedLinkPut
    (of_decide_eq_true (by kernel_rfl)) (by unfold Func.isWrapper; first | (rw [if_pos (by decide +kernel)]; kernel_rfl) | (rw [if_neg (by decide +kernel)]; exact ⟨rfl, rfl⟩))
    (fun os started H enc _ F => by rw [OpenClaim.pre_eq_preRow]; exact liftedLinkPut os started H enc F)

theorem plainLinkPut (f : FuncId) (fn : Func) (hf : Tryd.pinned.checked.prog.funcNamed "muslin/muslinlaw16.LinkPut" = some f) (hfn : Tryd.pinned.checked.prog.funcs[f]? = some fn) :
    true = Tryd.pinned.checked.prog.looks [] ∧ ∀ (j : Nat) t, fn.params[j]? = some t → Tryd.pinned.checked.prog.wantsStandIn t = false := by
  obtain rfl : f = 4 := Option.some.inj ((show Tryd.prog.funcNamed "muslin/muslinlaw16.LinkPut" = some 4 by kernel_rfl).symm.trans hf) |>.symm
  obtain rfl : fn = Tryd.f4 := (Option.some.inj (Tryd.func4.symm.trans hfn)).symm
  refine ⟨by kernel_rfl, fun j t ht => ?_⟩
  rw [Tryd.params4] at ht
  have hm := Array.mem_of_getElem? ht
  simp only [List.mem_toArray, List.mem_cons, List.not_mem_nil, or_false] at hm
  rcases hm with rfl
  · exact (show Tryd.prog.wantsStandIn 27 = false by kernel_rfl)

theorem LinkPut_card : Rows.LinkPutCardSaid :=
  Claim7.holds_tied_plain_at .later [] _ _ _ _ LinkPut_said (fun _ h => by cases h) (by kernel_rfl) (fun _ h => by cases h) linkPut_row_tie rfl ⟨rfl, rfl⟩ (by kernel_rfl) rfl plainLinkPut (by kernel_rfl)
#print axioms LinkPut_card
end Go.Proofs.YtlhjdjjbmljilaaDoor
