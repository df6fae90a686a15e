/- What stamp's rows ask of the first world: nine laid tables, a number of the library's own; a world that holds them. No statement is proved here. -/
import Derived.Test.YtiojfknphpnlhaaDoorRows
import Derived.Test.YtiojfknphpnlhaaDoorStampW
import Derived.Lib.LaidTab
import Derived.LaidSub
import Derived.Shelf.Vars
import Derived.Deep.Strs
import Derived.Carry
import Derived.ChangeSame
namespace Go.Proofs.YtiojfknphpnlhaaDoor
open Go.RowKit Go.WideShapes
set_option linter.unusedVariables false
set_option maxRecDepth 100000

theorem laidOutSeat : laidOutB Tryd.prog = true := by kernel_rfl
theorem max_of_shaped {W : World} (h : W.ShapedOpen Tryd.prog) : ∃ m : Int, W.cell? ⟨4, 0, none⟩ = some (.int .i64 m) :=
  cell_of_shapedOpen_int (P := Tryd.prog) (g := 4) (t := 3) (zero := #[.int .i64 0]) h (of_decide_eq_true (by kernel_rfl)) (by kernel_rfl) rfl (by kernel_rfl) (by kernel_rfl) Tryd.underlying3
/-- an array's elements, one by one -/
theorem arr_at {H : Type} {enc : TypeId × Value → H} {P : Program} {w : World} {base : Nat} {sp : Nat → Bool} {held : Bool} {fuel : Nat} {t e : TypeId} {n c : Nat} {cs : List Value} {ds : List (DataW H)} {p : List MemPlace}
    (ht : P.underlying t = some (.array n e)) (hce : P.cellsOf e = c) (hct : P.cellsOf t = n * c)
    (h : DataW.trod enc P w base sp held fuel t cs = some (.agg ds, p)) : ∃ f', ∀ i, i < n → ∃ x, DataW.trod enc P w base sp held f' e ((cs.drop (i * c)).take c) = some x ∧ ds[i]? = some x.1 := by
  cases fuel with
  | zero => simp [DataW.trod] at h
  | succ fuel =>
    simp only [DataW.trod, ht, hce, hct] at h
    split at h
    · obtain ⟨xs, hm, hx⟩ := Option.map_eq_some_iff.1 h
      refine ⟨fuel, fun i hi => ?_⟩
      obtain ⟨b, hb, hf⟩ := Lib.mapM_at hm i i (by simp [hi])
      refine ⟨b, hf, ?_⟩
      have := congrArg Prod.fst hx
      simp at this
      rw [← this]
      simp [hb]
    · cases h
/-- the first of what is laid: its cells -/
theorem laid_first {P : Program} {W : World} {name : String} {d : DataW Unit} {rest : List (String × DataW Unit)} {g : Nat} {t : TypeId} (hg : P.globalNamed name = some g) (hty : (P.globals[g]?).map (·.type) = some t)
    (h : laidMet P ((name, d) :: rest) W) : ∃ (cs : Array Value) (enc : TypeId × Value → Unit) (w : World) (base : Nat) (sp : Nat → Bool) (held : Bool) (fuel : Nat) (p : List MemPlace), W.var? P name = some cs ∧ DataW.trod enc P w base sp held fuel t cs.toList = some (d, p) := by
  obtain ⟨ps, ⟨g', t', cs, fuel, p, q, hg', ht', hvar, hd, _, _⟩, _⟩ := h
  obtain rfl := Option.some.inj (hg.symm.trans hg')
  obtain rfl := Option.some.inj (hty.symm.trans ht')
  exact ⟨cs, _, _, _, _, _, _, _, hvar, hd⟩
theorem strs_laid {P : Program} {W : World} {name : String} {ls : List (List UInt8)} {rest : List (String × DataW Unit)} {g : Nat} {t e : TypeId} {n : Nat} (hg : P.globalNamed name = some g) (hty : (P.globals[g]?).map (·.type) = some t)
    (ht : P.underlying t = some (.array n e)) (he : P.underlying e = some .string) (hce : P.cellsOf e = 1) (hct : P.cellsOf t = n) (hn : ls.length = n)
    (h : laidMet P ((name, .agg (ls.map fun l => .lit (.string l))) :: rest) W) : ∀ j : Nat, j < n → W.cell? ⟨g, j, none⟩ = some (.string (str (ls.getD j []))) := by
  obtain ⟨cs, enc, w, base, sp, held, fuel, p, hvar, hd⟩ := laid_first hg hty h
  obtain ⟨f', hf⟩ := arr_at ht hce (by rw [hct, Nat.mul_one]) hd
  intro j hj
  obtain ⟨x, h1, h2⟩ := hf j hj
  obtain ⟨s, h3, h4, _⟩ := DataW.trod_string he h1
  rw [World.var?_cell hg hvar j]
  have h5 : cs[j]? = some (.string s) := by
    have := congrArg (·[0]?) h3
    simpa [List.getElem?_take, List.getElem?_drop] using this
  rw [h5]
  rw [h4, List.getElem?_map, List.getElem?_eq_getElem (by omega)] at h2
  have h6 : ls[j] = s.data.toList := by simpa using h2
  rw [List.getD_eq_getElem?_getD, List.getElem?_eq_getElem (by omega), Option.getD_some, h6, str_of]
theorem zones_laid {W : World} {zs : List (List UInt8 × Int)} {rest : List (String × DataW Unit)} (hn : zs.length = 12)
    (h : laidMet Tryd.prog (("muslin/stamp.zones", .agg (zs.map fun z => .agg [.lit (.string z.1), .lit (.int .i64 z.2)])) :: rest) W) :
    ∀ j : Nat, j < 12 → W.cell? ⟨1, j * 2, none⟩ = some (.string (str (zs.getD j ([], 0)).1)) ∧ W.cell? ⟨1, j * 2 + 1, none⟩ = some (.int .i64 (zs.getD j ([], 0)).2) := by
  have hg : Tryd.prog.globalNamed "muslin/stamp.zones" = some 1 := by kernel_rfl
  obtain ⟨cs, enc, w, base, sp, held, fuel, p, hvar, hd⟩ := laid_first hg (t := 57) (by kernel_rfl) h
  obtain ⟨f', hf⟩ := arr_at (c := 2) Tryd.underlying57 (by kernel_rfl) (by kernel_rfl) hd
  intro j hj
  obtain ⟨x, h1, h2⟩ := hf j hj
  obtain ⟨xs, n, _, hx, hlen, hxl, hfs⟩ := DataW.trod_struct Tryd.underlying56 h1
  have hl2 : Tryd.prog.cellsOf 56 = 2 := by kernel_rfl
  have hc1 : Tryd.prog.cellsOf 9 = 1 := by kernel_rfl
  have hc2 : Tryd.prog.cellsOf 3 = 1 := by kernel_rfl
  rw [hl2] at hlen
  obtain ⟨v0, v1, hv⟩ : ∃ v0 v1, (cs.toList.drop (j * 2)).take 2 = [v0, v1] := by
    match (cs.toList.drop (j * 2)).take 2, hlen with
    | [v0, v1], _ => exact ⟨v0, v1, rfl⟩
  rw [hv] at hfs
  match xs, hxl with
  | [y0, y1], _ =>
    have g0 : DataW.trod enc Tryd.prog w base sp held n 9 [v0] = some y0 := by simpa [hc1] using hfs 0 _ rfl
    have g1 : DataW.trod enc Tryd.prog w base sp held n 3 [v1] = some y1 := by simpa [hc2] using hfs 1 _ rfl
    obtain ⟨s, e0, e0', _⟩ := DataW.trod_string Tryd.underlying9 g0
    obtain ⟨k, e1, e1', _⟩ := DataW.trod_int Tryd.underlying3 g1
    have e0 : v0 = .string s := by simpa using e0
    have e1 : v1 = .int .i64 k := by simpa using e1
    have p0 : cs[j * 2]? = some v0 := by
      have := congrArg (·[0]?) hv
      simpa [List.getElem?_take, List.getElem?_drop] using this
    have p1 : cs[j * 2 + 1]? = some v1 := by
      have := congrArg (·[1]?) hv
      simpa [List.getElem?_take, List.getElem?_drop] using this
    rw [hx, e0', e1', List.getElem?_map, List.getElem?_eq_getElem (by omega)] at h2
    have h6 : zs[j] = (s.data.toList, k) := by
      have h7 : zs[j].1 = s.data.toList ∧ zs[j].2 = k := by simpa using h2
      exact Prod.ext h7.1 h7.2
    rw [World.var?_cell hg hvar (j * 2), World.var?_cell hg hvar (j * 2 + 1), p0, p1, e0, e1, List.getD_eq_getElem?_getD, List.getElem?_eq_getElem (by omega), Option.getD_some, h6]
    exact ⟨by rw [str_of], rfl⟩
def laidS : List (String × DataW Unit) := [("math/bits.deBruijn32tab", Rows.laid_math_bits_deBruijn32tab), ("math/bits.deBruijn64tab", Rows.laid_math_bits_deBruijn64tab), ("internal/strconv.uint64pow10", Rows.laid_internal_strconv_uint64pow10), ("unicode/utf8.acceptRanges", Rows.laid_unicode_utf8_acceptRanges), ("muslin/stamp.zones", Rows.laid_muslin_stamp_zones), ("muslin/stamp.monthLengths", Rows.laid_muslin_stamp_monthLengths), ("muslin/stamp.monthNames", Rows.laid_muslin_stamp_monthNames), ("muslin/stamp.dayNames", Rows.laid_muslin_stamp_dayNames), ("unicode/utf8.first", Rows.laid_unicode_utf8_first)]
theorem envS_of_laid {W : World} (h : laidMetH Tryd.prog laidS W) (hS : W.ShapedOpen Tryd.prog) : EnvS W := by
  have h1 := (laidMetH_iff.1 h).1
  have f_len := h1.filter (fun x => x.1 == "muslin/stamp.monthLengths")
  have e_len : (laidS.filter (fun x => x.2.handleName?.isNone)).filter (fun x => x.1 == "muslin/stamp.monthLengths") = [("muslin/stamp.monthLengths", Lib.tabData .i64 lenTab)] := by kernel_rfl
  rw [e_len] at f_len
  have f_mon := h1.filter (fun x => x.1 == "muslin/stamp.monthNames")
  have e_mon : (laidS.filter (fun x => x.2.handleName?.isNone)).filter (fun x => x.1 == "muslin/stamp.monthNames") = [("muslin/stamp.monthNames", .agg (monTab.map fun l => .lit (.string l)))] := by kernel_rfl
  rw [e_mon] at f_mon
  have f_day := h1.filter (fun x => x.1 == "muslin/stamp.dayNames")
  have e_day : (laidS.filter (fun x => x.2.handleName?.isNone)).filter (fun x => x.1 == "muslin/stamp.dayNames") = [("muslin/stamp.dayNames", .agg (dayTab.map fun l => .lit (.string l)))] := by kernel_rfl
  rw [e_day] at f_day
  have f_zon := h1.filter (fun x => x.1 == "muslin/stamp.zones")
  have e_zon : (laidS.filter (fun x => x.2.handleName?.isNone)).filter (fun x => x.1 == "muslin/stamp.zones") = [("muslin/stamp.zones", .agg (zonNam.map fun z => .agg [.lit (.string z.1), .lit (.int .i64 z.2)]))] := by kernel_rfl
  rw [e_zon] at f_zon
  have f_pow := h1.filter (fun x => x.1 == "internal/strconv.uint64pow10")
  have e_pow : (laidS.filter (fun x => x.2.handleName?.isNone)).filter (fun x => x.1 == "internal/strconv.uint64pow10") = [("internal/strconv.uint64pow10", Lib.tabData .u64 Lib.pow10Tab)] := by kernel_rfl
  rw [e_pow] at f_pow
  have hgl : Tryd.prog.globalNamed "muslin/stamp.monthLengths" = some 3 := by kernel_rfl
  have hlen := Lib.tabIs_of_head (rest := []) hgl (t := 62) (by kernel_rfl) Tryd.underlying62 Tryd.underlying3 (by kernel_rfl) (by kernel_rfl) f_len
  have hpow := Lib.tabIs_of_head (rest := []) (show Tryd.prog.globalNamed "internal/strconv.uint64pow10" = some 5 by kernel_rfl) (t := 84) (by kernel_rfl) Tryd.underlying84 Tryd.underlying78 (by kernel_rfl) (by kernel_rfl) f_pow
  refine ⟨fun j hj => hlen.cell hgl j hj, ?_, ?_, zones_laid rfl f_zon, hpow, max_of_shaped hS⟩
  · exact strs_laid (show Tryd.prog.globalNamed "muslin/stamp.monthNames" = some 2 by kernel_rfl) (t := 61) (by kernel_rfl) Tryd.underlying61 Tryd.underlying9 (by kernel_rfl) (by kernel_rfl) rfl f_mon
  · exact strs_laid (show Tryd.prog.globalNamed "muslin/stamp.dayNames" = some 0 by kernel_rfl) (t := 53) (by kernel_rfl) Tryd.underlying53 Tryd.underlying9 (by kernel_rfl) (by kernel_rfl) rfl f_day

def relayS (cs : Array Value) : Obj → Obj
  | .cells _ t frozen => .cells cs t frozen
  | o => o
def cellsB32 : Array Value := #[.int .u8 0, .int .u8 1, .int .u8 28, .int .u8 2, .int .u8 29, .int .u8 14, .int .u8 24, .int .u8 3, .int .u8 30, .int .u8 22, .int .u8 20, .int .u8 15, .int .u8 25, .int .u8 17, .int .u8 4, .int .u8 8, .int .u8 31, .int .u8 27, .int .u8 13, .int .u8 23, .int .u8 21, .int .u8 19, .int .u8 16, .int .u8 7, .int .u8 26, .int .u8 12, .int .u8 18, .int .u8 6, .int .u8 11, .int .u8 5, .int .u8 10, .int .u8 9]
def cellsB64 : Array Value := #[.int .u8 0, .int .u8 1, .int .u8 56, .int .u8 2, .int .u8 57, .int .u8 49, .int .u8 28, .int .u8 3, .int .u8 61, .int .u8 58, .int .u8 42, .int .u8 50, .int .u8 38, .int .u8 29, .int .u8 17, .int .u8 4, .int .u8 62, .int .u8 47, .int .u8 59, .int .u8 36, .int .u8 45, .int .u8 43, .int .u8 51, .int .u8 22, .int .u8 53, .int .u8 39, .int .u8 33, .int .u8 30, .int .u8 24, .int .u8 18, .int .u8 12, .int .u8 5, .int .u8 63, .int .u8 55, .int .u8 48, .int .u8 27, .int .u8 60, .int .u8 41, .int .u8 37, .int .u8 16, .int .u8 46, .int .u8 35, .int .u8 44, .int .u8 21, .int .u8 52, .int .u8 32, .int .u8 23, .int .u8 11, .int .u8 54, .int .u8 26, .int .u8 40, .int .u8 15, .int .u8 34, .int .u8 20, .int .u8 31, .int .u8 10, .int .u8 25, .int .u8 14, .int .u8 19, .int .u8 9, .int .u8 13, .int .u8 8, .int .u8 7, .int .u8 6]
def cellsPow : Array Value := #[.int .u64 1, .int .u64 10, .int .u64 100, .int .u64 1000, .int .u64 10000, .int .u64 100000, .int .u64 1000000, .int .u64 10000000, .int .u64 100000000, .int .u64 1000000000, .int .u64 10000000000, .int .u64 100000000000, .int .u64 1000000000000, .int .u64 10000000000000, .int .u64 100000000000000, .int .u64 1000000000000000, .int .u64 10000000000000000, .int .u64 100000000000000000, .int .u64 1000000000000000000, .int .u64 10000000000000000000]
def cellsAcc : Array Value := #[.int .u8 128, .int .u8 191, .int .u8 160, .int .u8 191, .int .u8 128, .int .u8 159, .int .u8 144, .int .u8 191, .int .u8 128, .int .u8 143, .int .u8 0, .int .u8 0, .int .u8 0, .int .u8 0, .int .u8 0, .int .u8 0, .int .u8 0, .int .u8 0, .int .u8 0, .int .u8 0, .int .u8 0, .int .u8 0, .int .u8 0, .int .u8 0, .int .u8 0, .int .u8 0, .int .u8 0, .int .u8 0, .int .u8 0, .int .u8 0, .int .u8 0, .int .u8 0]
def cellsZon : Array Value := #[.string ⟨#[117, 116]⟩, .int .i64 0, .string ⟨#[117, 116, 99]⟩, .int .i64 0, .string ⟨#[103, 109, 116]⟩, .int .i64 0, .string ⟨#[122]⟩, .int .i64 0, .string ⟨#[101, 115, 116]⟩, .int .i64 (-5), .string ⟨#[101, 100, 116]⟩, .int .i64 (-4), .string ⟨#[99, 115, 116]⟩, .int .i64 (-6), .string ⟨#[99, 100, 116]⟩, .int .i64 (-5), .string ⟨#[109, 115, 116]⟩, .int .i64 (-7), .string ⟨#[109, 100, 116]⟩, .int .i64 (-6), .string ⟨#[112, 115, 116]⟩, .int .i64 (-8), .string ⟨#[112, 100, 116]⟩, .int .i64 (-7)]
def cellsLen : Array Value := #[.int .i64 31, .int .i64 28, .int .i64 31, .int .i64 30, .int .i64 31, .int .i64 30, .int .i64 31, .int .i64 31, .int .i64 30, .int .i64 31, .int .i64 30, .int .i64 31]
def cellsMon : Array Value := #[.string ⟨#[74, 97, 110]⟩, .string ⟨#[70, 101, 98]⟩, .string ⟨#[77, 97, 114]⟩, .string ⟨#[65, 112, 114]⟩, .string ⟨#[77, 97, 121]⟩, .string ⟨#[74, 117, 110]⟩, .string ⟨#[74, 117, 108]⟩, .string ⟨#[65, 117, 103]⟩, .string ⟨#[83, 101, 112]⟩, .string ⟨#[79, 99, 116]⟩, .string ⟨#[78, 111, 118]⟩, .string ⟨#[68, 101, 99]⟩]
def cellsDay : Array Value := #[.string ⟨#[84, 104, 117]⟩, .string ⟨#[70, 114, 105]⟩, .string ⟨#[83, 97, 116]⟩, .string ⟨#[83, 117, 110]⟩, .string ⟨#[77, 111, 110]⟩, .string ⟨#[84, 117, 101]⟩, .string ⟨#[87, 101, 100]⟩]
def cellsFst : Array Value := #[.int .u8 240, .int .u8 240, .int .u8 240, .int .u8 240, .int .u8 240, .int .u8 240, .int .u8 240, .int .u8 240, .int .u8 240, .int .u8 240, .int .u8 240, .int .u8 240, .int .u8 240, .int .u8 240, .int .u8 240, .int .u8 240, .int .u8 240, .int .u8 240, .int .u8 240, .int .u8 240, .int .u8 240, .int .u8 240, .int .u8 240, .int .u8 240, .int .u8 240, .int .u8 240, .int .u8 240, .int .u8 240, .int .u8 240, .int .u8 240, .int .u8 240, .int .u8 240, .int .u8 240, .int .u8 240, .int .u8 240, .int .u8 240, .int .u8 240, .int .u8 240, .int .u8 240, .int .u8 240, .int .u8 240, .int .u8 240, .int .u8 240, .int .u8 240, .int .u8 240, .int .u8 240, .int .u8 240, .int .u8 240, .int .u8 240, .int .u8 240, .int .u8 240, .int .u8 240, .int .u8 240, .int .u8 240, .int .u8 240, .int .u8 240, .int .u8 240, .int .u8 240, .int .u8 240, .int .u8 240, .int .u8 240, .int .u8 240, .int .u8 240, .int .u8 240, .int .u8 240, .int .u8 240, .int .u8 240, .int .u8 240, .int .u8 240, .int .u8 240, .int .u8 240, .int .u8 240, .int .u8 240, .int .u8 240, .int .u8 240, .int .u8 240, .int .u8 240, .int .u8 240, .int .u8 240, .int .u8 240, .int .u8 240, .int .u8 240, .int .u8 240, .int .u8 240, .int .u8 240, .int .u8 240, .int .u8 240, .int .u8 240, .int .u8 240, .int .u8 240, .int .u8 240, .int .u8 240, .int .u8 240, .int .u8 240, .int .u8 240, .int .u8 240, .int .u8 240, .int .u8 240, .int .u8 240, .int .u8 240, .int .u8 240, .int .u8 240, .int .u8 240, .int .u8 240, .int .u8 240, .int .u8 240, .int .u8 240, .int .u8 240, .int .u8 240, .int .u8 240, .int .u8 240, .int .u8 240, .int .u8 240, .int .u8 240, .int .u8 240, .int .u8 240, .int .u8 240, .int .u8 240, .int .u8 240, .int .u8 240, .int .u8 240, .int .u8 240, .int .u8 240, .int .u8 240, .int .u8 240, .int .u8 240, .int .u8 240, .int .u8 240, .int .u8 241, .int .u8 241, .int .u8 241, .int .u8 241, .int .u8 241, .int .u8 241, .int .u8 241, .int .u8 241, .int .u8 241, .int .u8 241, .int .u8 241, .int .u8 241, .int .u8 241, .int .u8 241, .int .u8 241, .int .u8 241, .int .u8 241, .int .u8 241, .int .u8 241, .int .u8 241, .int .u8 241, .int .u8 241, .int .u8 241, .int .u8 241, .int .u8 241, .int .u8 241, .int .u8 241, .int .u8 241, .int .u8 241, .int .u8 241, .int .u8 241, .int .u8 241, .int .u8 241, .int .u8 241, .int .u8 241, .int .u8 241, .int .u8 241, .int .u8 241, .int .u8 241, .int .u8 241, .int .u8 241, .int .u8 241, .int .u8 241, .int .u8 241, .int .u8 241, .int .u8 241, .int .u8 241, .int .u8 241, .int .u8 241, .int .u8 241, .int .u8 241, .int .u8 241, .int .u8 241, .int .u8 241, .int .u8 241, .int .u8 241, .int .u8 241, .int .u8 241, .int .u8 241, .int .u8 241, .int .u8 241, .int .u8 241, .int .u8 241, .int .u8 241, .int .u8 241, .int .u8 241, .int .u8 2, .int .u8 2, .int .u8 2, .int .u8 2, .int .u8 2, .int .u8 2, .int .u8 2, .int .u8 2, .int .u8 2, .int .u8 2, .int .u8 2, .int .u8 2, .int .u8 2, .int .u8 2, .int .u8 2, .int .u8 2, .int .u8 2, .int .u8 2, .int .u8 2, .int .u8 2, .int .u8 2, .int .u8 2, .int .u8 2, .int .u8 2, .int .u8 2, .int .u8 2, .int .u8 2, .int .u8 2, .int .u8 2, .int .u8 2, .int .u8 19, .int .u8 3, .int .u8 3, .int .u8 3, .int .u8 3, .int .u8 3, .int .u8 3, .int .u8 3, .int .u8 3, .int .u8 3, .int .u8 3, .int .u8 3, .int .u8 3, .int .u8 35, .int .u8 3, .int .u8 3, .int .u8 52, .int .u8 4, .int .u8 4, .int .u8 4, .int .u8 68, .int .u8 241, .int .u8 241, .int .u8 241, .int .u8 241, .int .u8 241, .int .u8 241, .int .u8 241, .int .u8 241, .int .u8 241, .int .u8 241, .int .u8 241]
noncomputable def laidWorld (os : Os) : World :=
  { World.holding Tryd.prog os ⟨#[], #[], []⟩ with heap := (((((((((((((((((((World.holding Tryd.prog os ⟨#[], #[], []⟩).heap).modify 8 (relayS cellsB32))).modify 9 (relayS cellsB64))).modify 5 (relayS cellsPow))).modify 7 (relayS cellsAcc))).modify 1 (relayS cellsZon))).modify 3 (relayS cellsLen))).modify 2 (relayS cellsMon))).modify 0 (relayS cellsDay))).modify 6 (relayS cellsFst)) }
theorem zonedIn_of_trod {H : Type} {enc : TypeId × Value → H} {W : World} {base : Nat} {v : Value} {d : DataW H} {p : List MemPlace} (hv : Value.okWide Tryd.prog W .any base 33 v)
    (h : DataW.Trod enc Tryd.prog W 0 (fun _ => true) true 33 v d p) : ∃ (n a b : Int) (c : Bool), v = .agg #[.int .i64 n, .int .i64 a, .int .i64 b, .bool c] := by
  obtain ⟨cs, rfl, hcs⟩ := okWide_struct Tryd.underlying33 hv
  obtain ⟨fuel, hf⟩ := h
  rw [show Tryd.prog.cellsOf 33 = 4 by kernel_rfl] at hcs
  obtain ⟨xs, n, _, _, hlen, hxl, hfs⟩ := DataW.trod_struct Tryd.underlying33 hf
  have hc2 : Tryd.prog.cellsOf 3 = 1 := by kernel_rfl
  have hc3 : Tryd.prog.cellsOf 4 = 1 := by kernel_rfl
  obtain ⟨v0, v1, v2, v3, rfl⟩ : ∃ v0 v1 v2 v3, cs = #[v0, v1, v2, v3] := by
    obtain ⟨l⟩ := cs
    match l, hcs with
    | [v0, v1, v2, v3], _ => exact ⟨v0, v1, v2, v3, rfl⟩
  have g0 : DataW.trod enc Tryd.prog W 0 (fun _ => true) true n 3 [v0] = xs[0]? := by simpa [Value.cells, hc2] using hfs 0 _ rfl
  have g1 : DataW.trod enc Tryd.prog W 0 (fun _ => true) true n 3 [v1] = xs[1]? := by simpa [Value.cells, hc2] using hfs 1 _ rfl
  have g2 : DataW.trod enc Tryd.prog W 0 (fun _ => true) true n 3 [v2] = xs[2]? := by simpa [Value.cells, hc2] using hfs 2 _ rfl
  have g3 : DataW.trod enc Tryd.prog W 0 (fun _ => true) true n 4 [v3] = xs[3]? := by simpa [Value.cells, hc3] using hfs 3 _ rfl
  match xs, hxl with
  | [y0, y1, y2, y3], _ =>
    obtain ⟨a, ea, _⟩ := DataW.trod_int Tryd.underlying3 g0
    obtain ⟨b, eb, _⟩ := DataW.trod_int Tryd.underlying3 g1
    obtain ⟨c, ec, _⟩ := DataW.trod_int Tryd.underlying3 g2
    obtain ⟨d, ed, _⟩ := DataW.trod_bool Tryd.underlying4 g3
    refine ⟨a, b, c, d, ?_⟩
    rw [show v0 = .int .i64 a by simpa using ea, show v1 = .int .i64 b by simpa using eb, show v2 = .int .i64 c by simpa using ec, show v3 = .bool d by simpa using ed]
end Go.Proofs.YtiojfknphpnlhaaDoor
