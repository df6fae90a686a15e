/- What css's rows ask of the first world: the names that are let through, laid. No statement is proved here. -/
import Derived.Test.YtlhjdjjbmljilaaDoorRows
import Derived.Test.YtlhjdjjbmljilaaDoorCssL0
import Derived.Lib.LaidTab
import Derived.Lib.LaidU8
import Derived.LaidSub
import Derived.Shelf.Vars
import Derived.Deep.Strs
import Derived.Deep.SlicePairs
import Derived.Carry
namespace Go.Proofs.YtlhjdjjbmljilaaDoor
open Go.RowKit Go.WideShapes Go.ChangeShapes
set_option linter.unusedVariables false
set_option maxRecDepth 100000

def relay (cs : Array Value) : Obj → Obj
  | .cells _ t frozen => .cells cs t frozen
  | o => o
def firstCells8 : Array Value := #[.int .u8 240, .int .u8 240, .int .u8 240, .int .u8 240, .int .u8 240, .int .u8 240, .int .u8 240, .int .u8 240, .int .u8 240, .int .u8 240, .int .u8 240, .int .u8 240, .int .u8 240, .int .u8 240, .int .u8 240, .int .u8 240, .int .u8 240, .int .u8 240, .int .u8 240, .int .u8 240, .int .u8 240, .int .u8 240, .int .u8 240, .int .u8 240, .int .u8 240, .int .u8 240, .int .u8 240, .int .u8 240, .int .u8 240, .int .u8 240, .int .u8 240, .int .u8 240, .int .u8 240, .int .u8 240, .int .u8 240, .int .u8 240, .int .u8 240, .int .u8 240, .int .u8 240, .int .u8 240, .int .u8 240, .int .u8 240, .int .u8 240, .int .u8 240, .int .u8 240, .int .u8 240, .int .u8 240, .int .u8 240, .int .u8 240, .int .u8 240, .int .u8 240, .int .u8 240, .int .u8 240, .int .u8 240, .int .u8 240, .int .u8 240, .int .u8 240, .int .u8 240, .int .u8 240, .int .u8 240, .int .u8 240, .int .u8 240, .int .u8 240, .int .u8 240, .int .u8 240, .int .u8 240, .int .u8 240, .int .u8 240, .int .u8 240, .int .u8 240, .int .u8 240, .int .u8 240, .int .u8 240, .int .u8 240, .int .u8 240, .int .u8 240, .int .u8 240, .int .u8 240, .int .u8 240, .int .u8 240, .int .u8 240, .int .u8 240, .int .u8 240, .int .u8 240, .int .u8 240, .int .u8 240, .int .u8 240, .int .u8 240, .int .u8 240, .int .u8 240, .int .u8 240, .int .u8 240, .int .u8 240, .int .u8 240, .int .u8 240, .int .u8 240, .int .u8 240, .int .u8 240, .int .u8 240, .int .u8 240, .int .u8 240, .int .u8 240, .int .u8 240, .int .u8 240, .int .u8 240, .int .u8 240, .int .u8 240, .int .u8 240, .int .u8 240, .int .u8 240, .int .u8 240, .int .u8 240, .int .u8 240, .int .u8 240, .int .u8 240, .int .u8 240, .int .u8 240, .int .u8 240, .int .u8 240, .int .u8 240, .int .u8 240, .int .u8 240, .int .u8 240, .int .u8 240, .int .u8 240, .int .u8 240, .int .u8 240, .int .u8 240, .int .u8 241, .int .u8 241, .int .u8 241, .int .u8 241, .int .u8 241, .int .u8 241, .int .u8 241, .int .u8 241, .int .u8 241, .int .u8 241, .int .u8 241, .int .u8 241, .int .u8 241, .int .u8 241, .int .u8 241, .int .u8 241, .int .u8 241, .int .u8 241, .int .u8 241, .int .u8 241, .int .u8 241, .int .u8 241, .int .u8 241, .int .u8 241, .int .u8 241, .int .u8 241, .int .u8 241, .int .u8 241, .int .u8 241, .int .u8 241, .int .u8 241, .int .u8 241, .int .u8 241, .int .u8 241, .int .u8 241, .int .u8 241, .int .u8 241, .int .u8 241, .int .u8 241, .int .u8 241, .int .u8 241, .int .u8 241, .int .u8 241, .int .u8 241, .int .u8 241, .int .u8 241, .int .u8 241, .int .u8 241, .int .u8 241, .int .u8 241, .int .u8 241, .int .u8 241, .int .u8 241, .int .u8 241, .int .u8 241, .int .u8 241, .int .u8 241, .int .u8 241, .int .u8 241, .int .u8 241, .int .u8 241, .int .u8 241, .int .u8 241, .int .u8 241, .int .u8 241, .int .u8 241, .int .u8 2, .int .u8 2, .int .u8 2, .int .u8 2, .int .u8 2, .int .u8 2, .int .u8 2, .int .u8 2, .int .u8 2, .int .u8 2, .int .u8 2, .int .u8 2, .int .u8 2, .int .u8 2, .int .u8 2, .int .u8 2, .int .u8 2, .int .u8 2, .int .u8 2, .int .u8 2, .int .u8 2, .int .u8 2, .int .u8 2, .int .u8 2, .int .u8 2, .int .u8 2, .int .u8 2, .int .u8 2, .int .u8 2, .int .u8 2, .int .u8 19, .int .u8 3, .int .u8 3, .int .u8 3, .int .u8 3, .int .u8 3, .int .u8 3, .int .u8 3, .int .u8 3, .int .u8 3, .int .u8 3, .int .u8 3, .int .u8 3, .int .u8 35, .int .u8 3, .int .u8 3, .int .u8 52, .int .u8 4, .int .u8 4, .int .u8 4, .int .u8 68, .int .u8 241, .int .u8 241, .int .u8 241, .int .u8 241, .int .u8 241, .int .u8 241, .int .u8 241, .int .u8 241, .int .u8 241, .int .u8 241, .int .u8 241]
def acceptCells : Array Value := #[.int .u8 128, .int .u8 191, .int .u8 160, .int .u8 191, .int .u8 128, .int .u8 159, .int .u8 144, .int .u8 191, .int .u8 128, .int .u8 143, .int .u8 0, .int .u8 0, .int .u8 0, .int .u8 0, .int .u8 0, .int .u8 0, .int .u8 0, .int .u8 0, .int .u8 0, .int .u8 0, .int .u8 0, .int .u8 0, .int .u8 0, .int .u8 0, .int .u8 0, .int .u8 0, .int .u8 0, .int .u8 0, .int .u8 0, .int .u8 0, .int .u8 0, .int .u8 0]
def nameCells : Array Value := #[.string ⟨#[98, 97, 99, 107, 103, 114, 111, 117, 110, 100, 45, 99, 111, 108, 111, 114]⟩, .string ⟨#[98, 111, 114, 100, 101, 114]⟩, .string ⟨#[98, 111, 114, 100, 101, 114, 45, 98, 111, 116, 116, 111, 109]⟩, .string ⟨#[98, 111, 114, 100, 101, 114, 45, 99, 111, 108, 108, 97, 112, 115, 101]⟩, .string ⟨#[98, 111, 114, 100, 101, 114, 45, 99, 111, 108, 111, 114]⟩, .string ⟨#[98, 111, 114, 100, 101, 114, 45, 108, 101, 102, 116]⟩, .string ⟨#[98, 111, 114, 100, 101, 114, 45, 114, 105, 103, 104, 116]⟩, .string ⟨#[98, 111, 114, 100, 101, 114, 45, 115, 112, 97, 99, 105, 110, 103]⟩, .string ⟨#[98, 111, 114, 100, 101, 114, 45, 115, 116, 121, 108, 101]⟩, .string ⟨#[98, 111, 114, 100, 101, 114, 45, 116, 111, 112]⟩, .string ⟨#[98, 111, 114, 100, 101, 114, 45, 119, 105, 100, 116, 104]⟩, .string ⟨#[99, 111, 108, 111, 114]⟩, .string ⟨#[100, 105, 114, 101, 99, 116, 105, 111, 110]⟩, .string ⟨#[102, 111, 110, 116, 45, 115, 105, 122, 101]⟩, .string ⟨#[102, 111, 110, 116, 45, 115, 116, 121, 108, 101]⟩, .string ⟨#[102, 111, 110, 116, 45, 119, 101, 105, 103, 104, 116]⟩, .string ⟨#[104, 101, 105, 103, 104, 116]⟩, .string ⟨#[108, 101, 116, 116, 101, 114, 45, 115, 112, 97, 99, 105, 110, 103]⟩, .string ⟨#[108, 105, 110, 101, 45, 104, 101, 105, 103, 104, 116]⟩, .string ⟨#[108, 105, 115, 116, 45, 115, 116, 121, 108, 101, 45, 116, 121, 112, 101]⟩, .string ⟨#[109, 97, 114, 103, 105, 110]⟩, .string ⟨#[109, 97, 114, 103, 105, 110, 45, 98, 111, 116, 116, 111, 109]⟩, .string ⟨#[109, 97, 114, 103, 105, 110, 45, 108, 101, 102, 116]⟩, .string ⟨#[109, 97, 114, 103, 105, 110, 45, 114, 105, 103, 104, 116]⟩, .string ⟨#[109, 97, 114, 103, 105, 110, 45, 116, 111, 112]⟩, .string ⟨#[109, 97, 120, 45, 119, 105, 100, 116, 104]⟩, .string ⟨#[112, 97, 100, 100, 105, 110, 103]⟩, .string ⟨#[112, 97, 100, 100, 105, 110, 103, 45, 98, 111, 116, 116, 111, 109]⟩, .string ⟨#[112, 97, 100, 100, 105, 110, 103, 45, 108, 101, 102, 116]⟩, .string ⟨#[112, 97, 100, 100, 105, 110, 103, 45, 114, 105, 103, 104, 116]⟩, .string ⟨#[112, 97, 100, 100, 105, 110, 103, 45, 116, 111, 112]⟩, .string ⟨#[116, 101, 120, 116, 45, 97, 108, 105, 103, 110]⟩, .string ⟨#[116, 101, 120, 116, 45, 100, 101, 99, 111, 114, 97, 116, 105, 111, 110]⟩, .string ⟨#[116, 101, 120, 116, 45, 105, 110, 100, 101, 110, 116]⟩, .string ⟨#[116, 101, 120, 116, 45, 116, 114, 97, 110, 115, 102, 111, 114, 109]⟩, .string ⟨#[118, 101, 114, 116, 105, 99, 97, 108, 45, 97, 108, 105, 103, 110]⟩, .string ⟨#[119, 104, 105, 116, 101, 45, 115, 112, 97, 99, 101]⟩, .string ⟨#[119, 105, 100, 116, 104]⟩]
noncomputable def laidWorld (os : Os) : World :=
  { World.holding Tryd.prog os ⟨#[], #[], []⟩ with heap := (((World.holding Tryd.prog os ⟨#[], #[], []⟩).heap.modify 2 (relay firstCells8)).modify 3 (relay acceptCells)).modify 0 (relay nameCells) }
theorem laidOutSeat : laidOutB Tryd.prog = true := by kernel_rfl
theorem cellsStr : Tryd.prog.cellsOf 9 = 1 := by kernel_rfl
theorem names_data : (Rows.laid_muslin_css_names : DataW Unit) = .agg ((List.range 38).map fun i => .lit (.string (cssNames.getD i []))) := by kernel_rfl
theorem names_of_reads {W : World} (h : Lib.VarReads Tryd.prog W "muslin/css.names" Rows.laid_muslin_css_names) : EnvC W := by
  intro i hi
  obtain ⟨g, t, cs, fuel, p, hg, hty, hvar, hd⟩ := h
  obtain rfl := Option.some.inj ((show Tryd.prog.globalNamed "muslin/css.names" = some 0 by kernel_rfl).symm.trans hg)
  obtain rfl := Option.some.inj ((show (Tryd.prog.globals[0]?).map (·.type) = some 95 by kernel_rfl).symm.trans hty)
  rw [names_data] at hd
  obtain ⟨fuel', d, q, hdi, he⟩ := Lib.array_elem Tryd.underlying95 hd i hi
  simp only [List.getElem?_map, List.getElem?_range hi, Option.map_some, Option.some.injEq] at hdi
  subst hdi
  rw [cellsStr] at he
  have hcs : (cs.toList.drop (i * 1)).take 1 = [.string (str (cssNames.getD i []))] := by
    generalize (cs.toList.drop (i * 1)).take 1 = L at he
    cases fuel' with
    | zero => simp [DataW.trod] at he
    | succ n =>
      match L, he with
      | [], he => simp [DataW.trod, Tryd.underlying9] at he
      | [v], he =>
        cases v with
        | string x =>
          have e2 : x.size ≤ maxLen ∧ x.data.toList = cssNames.getD i [] ∧ q = [] := by simpa [DataW.trod, Tryd.underlying9] using he
          have e := e2.2.1
          rw [← e]
          exact congrArg (fun y => [Value.string y]) (str_of x).symm
        | _ => simp [DataW.trod, Tryd.underlying9] at he
      | a :: b :: r, he => simp [DataW.trod, Tryd.underlying9] at he
  have e0 := congrArg (·[0]?) hcs
  simp [List.getElem?_take, List.getElem?_drop] at e0
  have c0 := World.var?_cell hg hvar i
  rw [c0]
  simpa using e0
theorem envC_of_laid {W : World} (h : laidMetH Tryd.prog [("unicode/utf8.acceptRanges", Rows.laid_unicode_utf8_acceptRanges), ("muslin/css.names", Rows.laid_muslin_css_names), ("unicode/utf8.first", Rows.laid_unicode_utf8_first)] W) : EnvC W := by
  rw [MakeChecks.laidMetH_plain _ _ _ (by kernel_rfl)] at h
  exact names_of_reads (Lib.laidMet.reads h (n := "muslin/css.names") (d := Rows.laid_muslin_css_names) (by simp))
end Go.Proofs.YtlhjdjjbmljilaaDoor
