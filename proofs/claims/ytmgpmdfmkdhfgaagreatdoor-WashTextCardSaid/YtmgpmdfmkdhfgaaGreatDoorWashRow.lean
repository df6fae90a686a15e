import Derived.Test.YtmgpmdfmkdhfgaaGreatDoorRows
import Derived.Test.YtmgpmdfmkdhfgaaGreatDoorRef19L
import Derived.Test.YtmgpmdfmkdhfgaaGreatDoorNodesRow
import Derived.Test.YtmgpmdfmkdhfgaaGreatDoorBaseM
import Derived.Lib.LaidTab
import Derived.Lib.LaidU8
import Derived.LaidSub
import Derived.Lay
import Derived.Shelf.Vars
import Derived.Deep.Strs
import Derived.Deep.SlicePairs
import Derived.Carry
namespace Go.Proofs.YtmgpmdfmkdhfgaaGreatDoor
open Go.RowKit Go.WideShapes Go.ChangeShapes
set_option linter.unusedVariables false
set_option maxRecDepth 100000
theorem laidOutSeat : laidOutB Tryz.prog = true := by kernel_rfl
theorem max_of_shaped {W : World} (h : W.ShapedOpen Tryz.prog) : ∃ m : Int, W.cell? ⟨0, 0, none⟩ = some (.int .i64 m) :=
  cell_of_shapedOpen_int (P := Tryz.prog) (g := 0) (t := 3) (zero := #[.int .i64 0]) h (of_decide_eq_true (by kernel_rfl)) (by kernel_rfl) rfl (by kernel_rfl) (by kernel_rfl) Tryz.underlying3
theorem cellsWin : Tryz.prog.cellsOf 251 = 32 := by kernel_rfl
theorem cellsRune : Tryz.prog.cellsOf 21 = 1 := by kernel_rfl
theorem cellsU8 : Tryz.prog.cellsOf 5 = 1 := by kernel_rfl
theorem cellsFirst : Tryz.prog.cellsOf 201 = 256 := by kernel_rfl
theorem cellsAcc : Tryz.prog.cellsOf 231 = 2 := by kernel_rfl
theorem win_of_reads {W : World} (h : Lib.VarReads Tryz.prog W "muslin/chars.windowsRow" (Lib.tabData .i32 winTab)) : Tab W := by
  obtain ⟨g, t, cs, fuel, p, hg, hty, hvar, hd⟩ := h
  obtain rfl := Option.some.inj ((show Tryz.prog.globalNamed "muslin/chars.windowsRow" = some 5 by kernel_rfl).symm.trans hg)
  obtain rfl := Option.some.inj ((show (Tryz.prog.globals[5]?).map (·.type) = some 251 by kernel_rfl).symm.trans hty)
  have hcs := Lib.cells_of_tab Tryz.underlying251 Tryz.underlying21 cellsRune cellsWin hd
  intro j hj
  have := World.var?_cell hg hvar j
  rw [this, ← Array.getElem?_toList, hcs]
  have hl : winTab.length = 32 := rfl
  simp [List.getD, hl, hj]
theorem first_of_reads {W : World} (h : Lib.VarReads Tryz.prog W "unicode/utf8.first" Lib.firstData) : ∀ c, c < 256 → W.cell? ⟨1, c, none⟩ = some (.int .u8 (Lib.firstT c)) := by
  intro c hc
  obtain ⟨g, t, cs, fuel, p, hg, hty, hvar, hd⟩ := h
  obtain rfl := Option.some.inj ((show Tryz.prog.globalNamed "unicode/utf8.first" = some 1 by kernel_rfl).symm.trans hg)
  obtain rfl := Option.some.inj ((show (Tryz.prog.globals[1]?).map (·.type) = some 201 by kernel_rfl).symm.trans hty)
  have hcs := Lib.cells_of_tab Tryz.underlying201 Tryz.underlying5 cellsU8 cellsFirst hd
  have := World.var?_cell hg hvar c
  rw [this, ← Array.getElem?_toList, hcs]
  simp [Lib.firstTab, hc]
theorem acc_of_reads {W : World} (h : Lib.VarReads Tryz.prog W "unicode/utf8.acceptRanges" Lib.acceptData) : ∀ i, i < 16 → W.cell? ⟨2, 2 * i, none⟩ = some (.int .u8 (Lib.accLo i)) ∧ W.cell? ⟨2, 2 * i + 1, none⟩ = some (.int .u8 (Lib.accHi i)) := by
  intro i hi
  obtain ⟨g, t, cs, fuel, p, hg, hty, hvar, hd⟩ := h
  obtain rfl := Option.some.inj ((show Tryz.prog.globalNamed "unicode/utf8.acceptRanges" = some 2 by kernel_rfl).symm.trans hg)
  obtain rfl := Option.some.inj ((show (Tryz.prog.globals[2]?).map (·.type) = some 232 by kernel_rfl).symm.trans hty)
  obtain ⟨fuel', d, q, hdi, he⟩ := Lib.array_elem Tryz.underlying232 hd i hi
  simp only [List.getElem?_map, List.getElem?_range hi, Option.map_some, Option.some.injEq] at hdi
  subst hdi
  rw [cellsAcc] at he
  have hcs := Lib.ints_of_struct Tryz.underlying231 (fun j f hj => by
    match j, hj with
    | 0, hj => simp at hj; subst hj; exact ⟨Tryz.underlying5, rfl, cellsU8⟩
    | 1, hj => simp at hj; subst hj; exact ⟨Tryz.underlying5, rfl, cellsU8⟩
    | j + 2, hj => simp at hj) (by rw [cellsAcc]; rfl) he
  have e0 := congrArg (·[0]?) hcs
  have e1 := congrArg (·[1]?) hcs
  simp [List.getElem?_take, List.getElem?_drop] at e0 e1
  have c0 := World.var?_cell hg hvar (2 * i)
  have c1 := World.var?_cell hg hvar (2 * i + 1)
  rw [Nat.mul_comm i 2] at e0 e1
  rw [c0, c1]
  exact ⟨e0, e1⟩
theorem err_of_reads {W : World} {d : DataW Unit} (h : Lib.VarReads Tryz.prog W "strconv.ErrSyntax" d) : ∃ ev, W.cell? ⟨3, 0, none⟩ = some ev ∧ (ev = .nilIface ∨ ∃ te pe, ev = .iface te pe) := by
  obtain ⟨g, t, cs, fuel, p, hg, hty, hvar, hd⟩ := h
  obtain rfl := Option.some.inj ((show Tryz.prog.globalNamed "strconv.ErrSyntax" = some 3 by kernel_rfl).symm.trans hg)
  obtain rfl := Option.some.inj ((show (Tryz.prog.globals[3]?).map (·.type) = some 103 by kernel_rfl).symm.trans hty)
  have hc := World.var?_cell hg hvar 0
  have key : ∃ ev, cs.toList[0]? = some ev ∧ (ev = .nilIface ∨ ∃ te pe, ev = .iface te pe) := by
    cases fuel with
    | zero => simp [DataW.trod] at hd
    | succ n =>
      match hl : cs.toList, hd with
      | [], hd => simp [DataW.trod, Tryz.underlying103] at hd
      | [v], hd =>
        cases v with
        | nilIface => exact ⟨_, rfl, .inl rfl⟩
        | iface u x => exact ⟨_, rfl, .inr ⟨u, x, rfl⟩⟩
        | _ => simp [DataW.trod, Tryz.underlying103] at hd
      | a :: b :: r, hd => simp [DataW.trod, Tryz.underlying103] at hd
  obtain ⟨ev, h1, h2⟩ := key
  exact ⟨ev, by rw [hc, ← Array.getElem?_toList, h1], h2⟩
theorem errR_of_reads {W : World} {d : DataW Unit} (h : Lib.VarReads Tryz.prog W "strconv.ErrRange" d) : ∃ ev, W.cell? ⟨4, 0, none⟩ = some ev ∧ (ev = .nilIface ∨ ∃ te pe, ev = .iface te pe) := by
  obtain ⟨g, t, cs, fuel, p, hg, hty, hvar, hd⟩ := h
  obtain rfl := Option.some.inj ((show Tryz.prog.globalNamed "strconv.ErrRange" = some 4 by kernel_rfl).symm.trans hg)
  obtain rfl := Option.some.inj ((show (Tryz.prog.globals[4]?).map (·.type) = some 103 by kernel_rfl).symm.trans hty)
  have hc := World.var?_cell hg hvar 0
  have key : ∃ ev, cs.toList[0]? = some ev ∧ (ev = .nilIface ∨ ∃ te pe, ev = .iface te pe) := by
    cases fuel with
    | zero => simp [DataW.trod] at hd
    | succ n =>
      match hl : cs.toList, hd with
      | [], hd => simp [DataW.trod, Tryz.underlying103] at hd
      | [v], hd =>
        cases v with
        | nilIface => exact ⟨_, rfl, .inl rfl⟩
        | iface u x => exact ⟨_, rfl, .inr ⟨u, x, rfl⟩⟩
        | _ => simp [DataW.trod, Tryz.underlying103] at hd
      | a :: b :: r, hd => simp [DataW.trod, Tryz.underlying103] at hd
  obtain ⟨ev, h1, h2⟩ := key
  exact ⟨ev, by rw [hc, ← Array.getElem?_toList, h1], h2⟩
theorem cellsStr : Tryz.prog.cellsOf 9 = 1 := by kernel_rfl
theorem names_data : (Rows.laid_muslin_css_names : DataW Unit) = .agg ((List.range 38).map fun i => .lit (.string (cssNames.getD i []))) := by kernel_rfl
theorem names_of_reads {W : World} (h : Lib.VarReads Tryz.prog W "muslin/css.names" Rows.laid_muslin_css_names) : EnvC W := by
  intro i hi
  obtain ⟨g, t, cs, fuel, p, hg, hty, hvar, hd⟩ := h
  obtain rfl := Option.some.inj ((show Tryz.prog.globalNamed "muslin/css.names" = some 6 by kernel_rfl).symm.trans hg)
  obtain rfl := Option.some.inj ((show (Tryz.prog.globals[6]?).map (·.type) = some 271 by kernel_rfl).symm.trans hty)
  rw [names_data] at hd
  obtain ⟨fuel', d, q, hdi, he⟩ := Lib.array_elem Tryz.underlying271 hd i hi
  simp only [List.getElem?_map, List.getElem?_range hi, Option.map_some, Option.some.injEq] at hdi
  subst hdi
  rw [cellsStr] at he
  have hcs : (cs.toList.drop (i * 1)).take 1 = [.string (str (cssNames.getD i []))] := by
    generalize (cs.toList.drop (i * 1)).take 1 = L at he
    cases fuel' with
    | zero => simp [DataW.trod] at he
    | succ n =>
      match L, he with
      | [], he => simp [DataW.trod, Tryz.underlying9] at he
      | [v], he =>
        cases v with
        | string x =>
          have e2 : x.size ≤ maxLen ∧ x.data.toList = cssNames.getD i [] ∧ q = [] := by simpa [DataW.trod, Tryz.underlying9] using he
          have e := e2.2.1
          rw [← e]
          exact congrArg (fun y => [Value.string y]) (str_of x).symm
        | _ => simp [DataW.trod, Tryz.underlying9] at he
      | a :: b :: r, he => simp [DataW.trod, Tryz.underlying9] at he
  have e0 := congrArg (·[0]?) hcs
  simp [List.getElem?_take, List.getElem?_drop] at e0
  have c0 := World.var?_cell hg hvar i
  rw [c0]
  simpa using e0
theorem envH_of_laid {W : World} (h : laidMetH Tryz.prog Rows.washDropsRow.laid W) (hS : W.ShapedOpen Tryz.prog) : EnvH W := by
  rw [MakeChecks.laidMetH_plain _ _ _ (by kernel_rfl)] at h
  have hf : ∀ c, c < 256 → W.cell? ⟨1, c, none⟩ = some (.int .u8 (Lib.firstT c)) := first_of_reads (by
    have := Lib.laidMet.reads h (n := "unicode/utf8.first") (d := Rows.laid_unicode_utf8_first) (by simp [Rows.washDropsRow])
    rw [show (Rows.laid_unicode_utf8_first : DataW Unit) = Lib.firstData by kernel_rfl] at this
    exact this)
  have ha := acc_of_reads (by
    have := Lib.laidMet.reads h (n := "unicode/utf8.acceptRanges") (d := Rows.laid_unicode_utf8_acceptRanges) (by simp [Rows.washDropsRow])
    rw [show (Rows.laid_unicode_utf8_acceptRanges : DataW Unit) = Lib.acceptData by kernel_rfl] at this
    exact this)
  have hs := err_of_reads (d := Rows.laid_strconv_ErrSyntax) (Lib.laidMet.reads h (n := "strconv.ErrSyntax") (by simp [Rows.washDropsRow]))
  refine ⟨⟨⟨win_of_reads ?_, ⟨hf, ha⟩, hs⟩, max_of_shaped hS⟩, ⟨hf, ha⟩, names_of_reads ?_, hs, errR_of_reads (d := Rows.laid_strconv_ErrRange) ?_⟩
  · have := Lib.laidMet.reads h (n := "muslin/chars.windowsRow") (d := Rows.laid_muslin_chars_windowsRow) (by simp [Rows.washDropsRow])
    rw [show (Rows.laid_muslin_chars_windowsRow : DataW Unit) = Lib.tabData .i32 winTab by kernel_rfl] at this
    exact this
  · exact Lib.laidMet.reads h (n := "muslin/css.names") (d := Rows.laid_muslin_css_names) (by simp [Rows.washDropsRow])
  · exact Lib.laidMet.reads h (n := "strconv.ErrRange") (by simp [Rows.washDropsRow])
theorem cellsAtt : Tryz.prog.cellsOf 44 = 4 := by kernel_rfl
theorem cellsAttS : Tryz.prog.cellsOf 24 = 1 := by kernel_rfl
theorem cellsBool : Tryz.prog.cellsOf 4 = 1 := by kernel_rfl
theorem cellsPol : Tryz.prog.cellsOf 23 = 3 := by kernel_rfl
theorem filesIn_of_cells {H : Type} {enc : TypeId × Value → H} {W : World} {n : Nat} {v : Value} {y : DataW H × List MemPlace} (h : DataW.trod enc Tryz.prog W 0 (fun _ => true) true n 24 [v] = some y) :
    ∃ (A : Option Addr) (cap : Nat) (F : List FileL), v = .slice A F.length cap ∧ FilesIn W v F ∧ F.length ≤ maxLen := by
  rcases Deep.open_slice Tryz.underlying24 h with ⟨hcs, _⟩ | ⟨a, len, cap, m, k, D, Pl, hcs, _, hl, hm, hmm, _, hx⟩
  · obtain rfl : v = .slice none 0 0 := by simpa using hcs
    exact ⟨none, 0, [], rfl, .inl ⟨rfl, rfl⟩, by simp⟩
  · obtain rfl : v = .slice (some a) len cap := by simpa using hcs
    have hmc : m = cap := by rw [hmm]; simp
    subst hmc
    have each : ∀ i, i < m → ∃ s : ByteArray × ByteArray × ByteArray × ByteArray, W.cell? (a.add (i * 4)) = some (.string s.1) ∧ W.cell? (a.add (i * 4 + 1)) = some (.string s.2.1) ∧ W.cell? (a.add (i * 4 + 2)) = some (.string s.2.2.1) ∧ W.cell? (a.add (i * 4 + 3)) = some (.string s.2.2.2) := by
      intro i hi
      obtain ⟨cs', h1, h2⟩ := hx i hi
      rw [cellsAtt] at h1
      obtain ⟨_, hlen, hcell⟩ := World.cells?_some h1
      obtain ⟨xs, k', _, _, _, hxl, hf⟩ := DataW.trod_struct Tryz.underlying44 h2
      match xs, hxl, cs', hlen with
      | [y0, y1, y2, y3], _, [v0, v1, v2, v3], _ =>
        have g0 : DataW.trod enc Tryz.prog W 0 (fun _ => true) true k' 9 [v0] = some y0 := by simpa [cellsStr] using hf 0 _ rfl
        have g1 : DataW.trod enc Tryz.prog W 0 (fun _ => true) true k' 9 [v1] = some y1 := by simpa [cellsStr] using hf 1 _ rfl
        have g2 : DataW.trod enc Tryz.prog W 0 (fun _ => true) true k' 9 [v2] = some y2 := by simpa [cellsStr] using hf 2 _ rfl
        have g3 : DataW.trod enc Tryz.prog W 0 (fun _ => true) true k' 9 [v3] = some y3 := by simpa [cellsStr] using hf 3 _ rfl
        obtain ⟨s0, q0, _⟩ := DataW.trod_string Tryz.underlying9 g0
        obtain ⟨s1, q1, _⟩ := DataW.trod_string Tryz.underlying9 g1
        obtain ⟨s2, q2, _⟩ := DataW.trod_string Tryz.underlying9 g2
        obtain ⟨s3, q3, _⟩ := DataW.trod_string Tryz.underlying9 g3
        obtain rfl : v0 = .string s0 := by simpa using q0
        obtain rfl : v1 = .string s1 := by simpa using q1
        obtain rfl : v2 = .string s2 := by simpa using q2
        obtain rfl : v3 = .string s3 := by simpa using q3
        have e0 := hcell 0 (by omega)
        have e1 := hcell 1 (by omega)
        have e2 := hcell 2 (by omega)
        have e3 := hcell 3 (by omega)
        rw [Addr.add_add] at e0 e1 e2 e3
        exact ⟨(s0, s1, s2, s3), by simpa using e0, by simpa using e1, by simpa using e2, by simpa using e3⟩
    obtain ⟨Sx, hS⟩ := Deep.choose_lt each
    refine ⟨some a, m, (List.range len).map fun i => ⟨(Sx i).1.data.toList, (Sx i).2.1.data.toList, (Sx i).2.2.1.data.toList, (Sx i).2.2.2.data.toList⟩, by simp, .inr ⟨a, m, by simp, by simpa using hl, hm, fun j hj => ?_⟩, by simpa using Nat.le_trans hl hm⟩
    have hj' : j < len := by simpa using hj
    obtain ⟨c0, c1, c2, c3⟩ := hS j (by omega)
    simp only [List.getElem_map, List.getElem_range, str_of]
    exact ⟨c0, c1, c2, c3⟩
theorem cellsCase19 : Tryz.prog.cellsOf 27 = 5 := by kernel_rfl
theorem caseIn19_of_trod {H : Type} {enc : TypeId × Value → H} {W : World} {base : Nat} {V : Value} {d : DataW H} {p : List MemPlace} (hv : Value.okWide Tryz.prog W .any base 27 V)
    (h : DataW.Trod enc Tryz.prog W 0 (fun _ => true) true 27 V d p) : ∃ (r s q : Bool) (A : Option Addr) (F : List FileL) (cap : Nat) (TA : Option Addr) (TC : Nat) (T : Tr),
      V = caseV r s q A F.length cap TA T.len TC ∧ FilesIn W (.slice A F.length cap) F ∧ F.length ≤ maxLen ∧ NodesIn W (.slice TA T.len TC) T := by
  obtain ⟨cs, rfl, hcs⟩ := okWide_struct Tryz.underlying27 hv
  obtain ⟨fuel, hf⟩ := h
  rw [cellsCase19] at hcs
  obtain ⟨xs, k, _, _, hlen, hxl, hfs⟩ := DataW.trod_struct Tryz.underlying27 hf
  obtain ⟨v0, v1, v2, v3, v4, rfl⟩ : ∃ v0 v1 v2 v3 v4, cs = #[v0, v1, v2, v3, v4] := by
    obtain ⟨l⟩ := cs
    match l, hcs with
    | [v0, v1, v2, v3, v4], _ => exact ⟨v0, v1, v2, v3, v4, rfl⟩
  have g0 : DataW.trod enc Tryz.prog W 0 (fun _ => true) true k 23 [v0, v1, v2] = xs[0]? := by simpa [Value.cells, cellsPol] using hfs 0 _ rfl
  have g1 : DataW.trod enc Tryz.prog W 0 (fun _ => true) true k 24 [v3] = xs[1]? := by simpa [Value.cells, cellsAttS] using hfs 1 _ rfl
  have g2 : DataW.trod enc Tryz.prog W 0 (fun _ => true) true k 25 [v4] = xs[2]? := by simpa [Value.cells, cellsNodesT] using hfs 2 _ rfl
  match xs, hxl with
  | [y0, y1, y2], _ =>
    obtain ⟨ps, k0, _, _, _, hp, hpf⟩ := DataW.trod_struct Tryz.underlying23 g0
    obtain ⟨A, cap, F, rfl, k1, k2⟩ := filesIn_of_cells (show _ = some y1 from g1)
    obtain ⟨T, hT⟩ := nodesIn_of_cells (k + 1) k (Nat.lt_succ_self _) v4 y2 (show _ = some y2 from g2)
    obtain ⟨TA, TC, rfl⟩ := NodesC.form hT
    match ps, hp with
    | [p0, p1, p2], _ =>
      have b0 : DataW.trod enc Tryz.prog W 0 (fun _ => true) true k0 4 [v0] = some p0 := by simpa [cellsBool] using hpf 0 _ rfl
      have b1 : DataW.trod enc Tryz.prog W 0 (fun _ => true) true k0 4 [v1] = some p1 := by simpa [cellsBool] using hpf 1 _ rfl
      have b2 : DataW.trod enc Tryz.prog W 0 (fun _ => true) true k0 4 [v2] = some p2 := by simpa [cellsBool] using hpf 2 _ rfl
      obtain ⟨r, r0, _⟩ := DataW.trod_bool Tryz.underlying4 b0
      obtain ⟨s, s0, _⟩ := DataW.trod_bool Tryz.underlying4 b1
      obtain ⟨q, q0, _⟩ := DataW.trod_bool Tryz.underlying4 b2
      obtain rfl : v0 = .bool r := by simpa using r0
      obtain rfl : v1 = .bool s := by simpa using s0
      obtain rfl : v2 = .bool q := by simpa using q0
      exact ⟨r, s, q, A, F, cap, TA, TC, T, rfl, k1, k2, hT⟩
theorem policyIn_of_trod {H : Type} {enc : TypeId × Value → H} {W : World} {base : Nat} {V : Value} {d : DataW H} {p : List MemPlace} (hv : Value.okWide Tryz.prog W .any base 23 V)
    (h : DataW.Trod enc Tryz.prog W 0 (fun _ => true) true 23 V d p) : ∃ (r s q : Bool), V = .agg #[.bool r, .bool s, .bool q] := by
  obtain ⟨cs, rfl, hcs⟩ := okWide_struct Tryz.underlying23 hv
  obtain ⟨fuel, hf⟩ := h
  rw [cellsPol] at hcs
  obtain ⟨v0, v1, v2, rfl⟩ : ∃ v0 v1 v2, cs = #[v0, v1, v2] := by
    obtain ⟨l⟩ := cs
    match l, hcs with
    | [v0, v1, v2], _ => exact ⟨v0, v1, v2, rfl⟩
  obtain ⟨ps, k0, _, _, _, hp, hpf⟩ := DataW.trod_struct Tryz.underlying23 hf
  match ps, hp with
  | [p0, p1, p2], _ =>
    have b0 : DataW.trod enc Tryz.prog W 0 (fun _ => true) true k0 4 [v0] = some p0 := by simpa [Value.cells, cellsBool] using hpf 0 _ rfl
    have b1 : DataW.trod enc Tryz.prog W 0 (fun _ => true) true k0 4 [v1] = some p1 := by simpa [Value.cells, cellsBool] using hpf 1 _ rfl
    have b2 : DataW.trod enc Tryz.prog W 0 (fun _ => true) true k0 4 [v2] = some p2 := by simpa [Value.cells, cellsBool] using hpf 2 _ rfl
    obtain ⟨r, r0, _⟩ := DataW.trod_bool Tryz.underlying4 b0
    obtain ⟨s, s0, _⟩ := DataW.trod_bool Tryz.underlying4 b1
    obtain ⟨q, q0, _⟩ := DataW.trod_bool Tryz.underlying4 b2
    obtain rfl : v0 = .bool r := by simpa using r0
    obtain rfl : v1 = .bool s := by simpa using s0
    obtain rfl : v2 = .bool q := by simpa using q0
    exact ⟨r, s, q, rfl⟩
theorem strsIn_of_trod {H : Type} {enc : TypeId × Value → H} {W : World} {base : Nat} {v : Value} {d : DataW H} {p : List MemPlace} (hv : Value.okWide Tryz.prog W .any base 33 v)
    (h : DataW.Trod enc Tryz.prog W 0 (fun _ => true) true 33 v d p) (hlt : ∀ x ∈ p, x.block < W.heap.size) : ∃ l, StrsIn W v l ∧ True := by
  obtain ⟨a0, len, cap, rfl⟩ := okWide_slice Tryz.underlying33 hv
  obtain ⟨fuel, hf⟩ := h
  rcases Deep.open_strs Tryz.underlying33 Tryz.underlying9 cellsStr hf with ⟨hcs, _⟩ | ⟨a, len', cap', m, Sx, hcs, _, hl, hm, hmm, hx0, hcell⟩
  · simp [Value.cells] at hcs
    obtain ⟨rfl, rfl, rfl⟩ := hcs
    exact ⟨[], .inl ⟨rfl, rfl⟩, trivial⟩
  · simp [Value.cells] at hcs
    obtain ⟨rfl, rfl, rfl⟩ := hcs
    have hmc : m = cap := by rw [hmm]; simp
    subst hmc
    refine ⟨(List.range len).map Sx, .inr ⟨a, m, by simp, by simpa using hl, hm, fun j hj => ?_, fun j hj => ?_⟩, trivial⟩
    · have hj' : j < len := by simpa using hj
      have := (hcell j (by omega)).1
      simpa using this
    · have hj' : j < len := by simpa using hj
      have := (hcell j (by omega)).2
      simpa using this
def relayE (cs : Array Value) : Obj → Obj
  | .cells _ t frozen => .cells cs t frozen
  | o => o
def cellsE_deb32 : Array Value := #[.int .u8 0, .int .u8 1, .int .u8 28, .int .u8 2, .int .u8 29, .int .u8 14, .int .u8 24, .int .u8 3, .int .u8 30, .int .u8 22, .int .u8 20, .int .u8 15, .int .u8 25, .int .u8 17, .int .u8 4, .int .u8 8, .int .u8 31, .int .u8 27, .int .u8 13, .int .u8 23, .int .u8 21, .int .u8 19, .int .u8 16, .int .u8 7, .int .u8 26, .int .u8 12, .int .u8 18, .int .u8 6, .int .u8 11, .int .u8 5, .int .u8 10, .int .u8 9]
def cellsE_deb64 : Array Value := #[.int .u8 0, .int .u8 1, .int .u8 56, .int .u8 2, .int .u8 57, .int .u8 49, .int .u8 28, .int .u8 3, .int .u8 61, .int .u8 58, .int .u8 42, .int .u8 50, .int .u8 38, .int .u8 29, .int .u8 17, .int .u8 4, .int .u8 62, .int .u8 47, .int .u8 59, .int .u8 36, .int .u8 45, .int .u8 43, .int .u8 51, .int .u8 22, .int .u8 53, .int .u8 39, .int .u8 33, .int .u8 30, .int .u8 24, .int .u8 18, .int .u8 12, .int .u8 5, .int .u8 63, .int .u8 55, .int .u8 48, .int .u8 27, .int .u8 60, .int .u8 41, .int .u8 37, .int .u8 16, .int .u8 46, .int .u8 35, .int .u8 44, .int .u8 21, .int .u8 52, .int .u8 32, .int .u8 23, .int .u8 11, .int .u8 54, .int .u8 26, .int .u8 40, .int .u8 15, .int .u8 34, .int .u8 20, .int .u8 31, .int .u8 10, .int .u8 25, .int .u8 14, .int .u8 19, .int .u8 9, .int .u8 13, .int .u8 8, .int .u8 7, .int .u8 6]
def cellsE_pow10 : Array Value := #[.int .u64 1, .int .u64 10, .int .u64 100, .int .u64 1000, .int .u64 10000, .int .u64 100000, .int .u64 1000000, .int .u64 10000000, .int .u64 100000000, .int .u64 1000000000, .int .u64 10000000000, .int .u64 100000000000, .int .u64 1000000000000, .int .u64 10000000000000, .int .u64 100000000000000, .int .u64 1000000000000000, .int .u64 10000000000000000, .int .u64 100000000000000000, .int .u64 1000000000000000000, .int .u64 10000000000000000000]
def cellsE_acc : Array Value := #[.int .u8 128, .int .u8 191, .int .u8 160, .int .u8 191, .int .u8 128, .int .u8 159, .int .u8 144, .int .u8 191, .int .u8 128, .int .u8 143, .int .u8 0, .int .u8 0, .int .u8 0, .int .u8 0, .int .u8 0, .int .u8 0, .int .u8 0, .int .u8 0, .int .u8 0, .int .u8 0, .int .u8 0, .int .u8 0, .int .u8 0, .int .u8 0, .int .u8 0, .int .u8 0, .int .u8 0, .int .u8 0, .int .u8 0, .int .u8 0, .int .u8 0, .int .u8 0]
def cellsE_win : Array Value := #[.int .i32 8364, .int .i32 129, .int .i32 8218, .int .i32 402, .int .i32 8222, .int .i32 8230, .int .i32 8224, .int .i32 8225, .int .i32 710, .int .i32 8240, .int .i32 352, .int .i32 8249, .int .i32 338, .int .i32 141, .int .i32 381, .int .i32 143, .int .i32 144, .int .i32 8216, .int .i32 8217, .int .i32 8220, .int .i32 8221, .int .i32 8226, .int .i32 8211, .int .i32 8212, .int .i32 732, .int .i32 8482, .int .i32 353, .int .i32 8250, .int .i32 339, .int .i32 157, .int .i32 382, .int .i32 376]
def cellsE_first : Array Value := #[.int .u8 240, .int .u8 240, .int .u8 240, .int .u8 240, .int .u8 240, .int .u8 240, .int .u8 240, .int .u8 240, .int .u8 240, .int .u8 240, .int .u8 240, .int .u8 240, .int .u8 240, .int .u8 240, .int .u8 240, .int .u8 240, .int .u8 240, .int .u8 240, .int .u8 240, .int .u8 240, .int .u8 240, .int .u8 240, .int .u8 240, .int .u8 240, .int .u8 240, .int .u8 240, .int .u8 240, .int .u8 240, .int .u8 240, .int .u8 240, .int .u8 240, .int .u8 240, .int .u8 240, .int .u8 240, .int .u8 240, .int .u8 240, .int .u8 240, .int .u8 240, .int .u8 240, .int .u8 240, .int .u8 240, .int .u8 240, .int .u8 240, .int .u8 240, .int .u8 240, .int .u8 240, .int .u8 240, .int .u8 240, .int .u8 240, .int .u8 240, .int .u8 240, .int .u8 240, .int .u8 240, .int .u8 240, .int .u8 240, .int .u8 240, .int .u8 240, .int .u8 240, .int .u8 240, .int .u8 240, .int .u8 240, .int .u8 240, .int .u8 240, .int .u8 240, .int .u8 240, .int .u8 240, .int .u8 240, .int .u8 240, .int .u8 240, .int .u8 240, .int .u8 240, .int .u8 240, .int .u8 240, .int .u8 240, .int .u8 240, .int .u8 240, .int .u8 240, .int .u8 240, .int .u8 240, .int .u8 240, .int .u8 240, .int .u8 240, .int .u8 240, .int .u8 240, .int .u8 240, .int .u8 240, .int .u8 240, .int .u8 240, .int .u8 240, .int .u8 240, .int .u8 240, .int .u8 240, .int .u8 240, .int .u8 240, .int .u8 240, .int .u8 240, .int .u8 240, .int .u8 240, .int .u8 240, .int .u8 240, .int .u8 240, .int .u8 240, .int .u8 240, .int .u8 240, .int .u8 240, .int .u8 240, .int .u8 240, .int .u8 240, .int .u8 240, .int .u8 240, .int .u8 240, .int .u8 240, .int .u8 240, .int .u8 240, .int .u8 240, .int .u8 240, .int .u8 240, .int .u8 240, .int .u8 240, .int .u8 240, .int .u8 240, .int .u8 240, .int .u8 240, .int .u8 240, .int .u8 240, .int .u8 240, .int .u8 240, .int .u8 240, .int .u8 241, .int .u8 241, .int .u8 241, .int .u8 241, .int .u8 241, .int .u8 241, .int .u8 241, .int .u8 241, .int .u8 241, .int .u8 241, .int .u8 241, .int .u8 241, .int .u8 241, .int .u8 241, .int .u8 241, .int .u8 241, .int .u8 241, .int .u8 241, .int .u8 241, .int .u8 241, .int .u8 241, .int .u8 241, .int .u8 241, .int .u8 241, .int .u8 241, .int .u8 241, .int .u8 241, .int .u8 241, .int .u8 241, .int .u8 241, .int .u8 241, .int .u8 241, .int .u8 241, .int .u8 241, .int .u8 241, .int .u8 241, .int .u8 241, .int .u8 241, .int .u8 241, .int .u8 241, .int .u8 241, .int .u8 241, .int .u8 241, .int .u8 241, .int .u8 241, .int .u8 241, .int .u8 241, .int .u8 241, .int .u8 241, .int .u8 241, .int .u8 241, .int .u8 241, .int .u8 241, .int .u8 241, .int .u8 241, .int .u8 241, .int .u8 241, .int .u8 241, .int .u8 241, .int .u8 241, .int .u8 241, .int .u8 241, .int .u8 241, .int .u8 241, .int .u8 241, .int .u8 241, .int .u8 2, .int .u8 2, .int .u8 2, .int .u8 2, .int .u8 2, .int .u8 2, .int .u8 2, .int .u8 2, .int .u8 2, .int .u8 2, .int .u8 2, .int .u8 2, .int .u8 2, .int .u8 2, .int .u8 2, .int .u8 2, .int .u8 2, .int .u8 2, .int .u8 2, .int .u8 2, .int .u8 2, .int .u8 2, .int .u8 2, .int .u8 2, .int .u8 2, .int .u8 2, .int .u8 2, .int .u8 2, .int .u8 2, .int .u8 2, .int .u8 19, .int .u8 3, .int .u8 3, .int .u8 3, .int .u8 3, .int .u8 3, .int .u8 3, .int .u8 3, .int .u8 3, .int .u8 3, .int .u8 3, .int .u8 3, .int .u8 3, .int .u8 35, .int .u8 3, .int .u8 3, .int .u8 52, .int .u8 4, .int .u8 4, .int .u8 4, .int .u8 68, .int .u8 241, .int .u8 241, .int .u8 241, .int .u8 241, .int .u8 241, .int .u8 241, .int .u8 241, .int .u8 241, .int .u8 241, .int .u8 241, .int .u8 241]
def cellsE_names : Array Value := #[.string ⟨#[98, 97, 99, 107, 103, 114, 111, 117, 110, 100, 45, 99, 111, 108, 111, 114]⟩, .string ⟨#[98, 111, 114, 100, 101, 114]⟩, .string ⟨#[98, 111, 114, 100, 101, 114, 45, 98, 111, 116, 116, 111, 109]⟩, .string ⟨#[98, 111, 114, 100, 101, 114, 45, 99, 111, 108, 108, 97, 112, 115, 101]⟩, .string ⟨#[98, 111, 114, 100, 101, 114, 45, 99, 111, 108, 111, 114]⟩, .string ⟨#[98, 111, 114, 100, 101, 114, 45, 108, 101, 102, 116]⟩, .string ⟨#[98, 111, 114, 100, 101, 114, 45, 114, 105, 103, 104, 116]⟩, .string ⟨#[98, 111, 114, 100, 101, 114, 45, 115, 112, 97, 99, 105, 110, 103]⟩, .string ⟨#[98, 111, 114, 100, 101, 114, 45, 115, 116, 121, 108, 101]⟩, .string ⟨#[98, 111, 114, 100, 101, 114, 45, 116, 111, 112]⟩, .string ⟨#[98, 111, 114, 100, 101, 114, 45, 119, 105, 100, 116, 104]⟩, .string ⟨#[99, 111, 108, 111, 114]⟩, .string ⟨#[100, 105, 114, 101, 99, 116, 105, 111, 110]⟩, .string ⟨#[102, 111, 110, 116, 45, 115, 105, 122, 101]⟩, .string ⟨#[102, 111, 110, 116, 45, 115, 116, 121, 108, 101]⟩, .string ⟨#[102, 111, 110, 116, 45, 119, 101, 105, 103, 104, 116]⟩, .string ⟨#[104, 101, 105, 103, 104, 116]⟩, .string ⟨#[108, 101, 116, 116, 101, 114, 45, 115, 112, 97, 99, 105, 110, 103]⟩, .string ⟨#[108, 105, 110, 101, 45, 104, 101, 105, 103, 104, 116]⟩, .string ⟨#[108, 105, 115, 116, 45, 115, 116, 121, 108, 101, 45, 116, 121, 112, 101]⟩, .string ⟨#[109, 97, 114, 103, 105, 110]⟩, .string ⟨#[109, 97, 114, 103, 105, 110, 45, 98, 111, 116, 116, 111, 109]⟩, .string ⟨#[109, 97, 114, 103, 105, 110, 45, 108, 101, 102, 116]⟩, .string ⟨#[109, 97, 114, 103, 105, 110, 45, 114, 105, 103, 104, 116]⟩, .string ⟨#[109, 97, 114, 103, 105, 110, 45, 116, 111, 112]⟩, .string ⟨#[109, 97, 120, 45, 119, 105, 100, 116, 104]⟩, .string ⟨#[112, 97, 100, 100, 105, 110, 103]⟩, .string ⟨#[112, 97, 100, 100, 105, 110, 103, 45, 98, 111, 116, 116, 111, 109]⟩, .string ⟨#[112, 97, 100, 100, 105, 110, 103, 45, 108, 101, 102, 116]⟩, .string ⟨#[112, 97, 100, 100, 105, 110, 103, 45, 114, 105, 103, 104, 116]⟩, .string ⟨#[112, 97, 100, 100, 105, 110, 103, 45, 116, 111, 112]⟩, .string ⟨#[116, 101, 120, 116, 45, 97, 108, 105, 103, 110]⟩, .string ⟨#[116, 101, 120, 116, 45, 100, 101, 99, 111, 114, 97, 116, 105, 111, 110]⟩, .string ⟨#[116, 101, 120, 116, 45, 105, 110, 100, 101, 110, 116]⟩, .string ⟨#[116, 101, 120, 116, 45, 116, 114, 97, 110, 115, 102, 111, 114, 109]⟩, .string ⟨#[118, 101, 114, 116, 105, 99, 97, 108, 45, 97, 108, 105, 103, 110]⟩, .string ⟨#[119, 104, 105, 116, 101, 45, 115, 112, 97, 99, 101]⟩, .string ⟨#[119, 105, 100, 116, 104]⟩]
noncomputable def laidWorld (os : Os) : World :=
  { World.holding Tryz.prog os ⟨#[], #[], []⟩ with heap := ((((((((((((World.holding Tryz.prog os ⟨#[], #[], []⟩).heap.modify 8 (relayE cellsE_deb32)).modify 9 (relayE cellsE_deb64)).modify 7 (relayE cellsE_pow10)).modify 2 (relayE cellsE_acc)).modify 5 (relayE cellsE_win)).modify 1 (relayE cellsE_first)).modify 6 (relayE cellsE_names)).modify 4 (relayE #[.iface 266 (.pointer (some ⟨(World.holding Tryz.prog os ⟨#[], #[], []⟩).heap.size, 0, none⟩))])).modify 3 (relayE #[.iface 266 (.pointer (some ⟨(World.holding Tryz.prog os ⟨#[], #[], []⟩).heap.size + 1, 0, none⟩))])).push (.cells #[.string ⟨#[118, 97, 108, 117, 101, 32, 111, 117, 116, 32, 111, 102, 32, 114, 97, 110, 103, 101]⟩] 268)).push (.cells #[.string ⟨#[105, 110, 118, 97, 108, 105, 100, 32, 115, 121, 110, 116, 97, 120]⟩] 268)) }
end Go.Proofs.YtmgpmdfmkdhfgaaGreatDoor
