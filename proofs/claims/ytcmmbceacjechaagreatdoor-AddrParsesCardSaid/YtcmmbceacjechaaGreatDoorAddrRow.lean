/- What addr's rows ask of the first world: the table of chars, a number of the library's own; a []api.Box that came in. No statement is proved here. -/
import Derived.Test.YtcmmbceacjechaaGreatDoorTabRow
import Derived.Test.YtcmmbceacjechaaGreatDoorAddrL0
import Derived.Shelf.Vars
import Derived.Deep.Strs
import Derived.Deep.SlicePairs
import Derived.Carry
namespace Go.Proofs.YtcmmbceacjechaaGreatDoor
open Go.RowKit Go.WideShapes
set_option linter.unusedVariables false
set_option maxRecDepth 100000

theorem laidOutSeat : laidOutB Tryz.prog = true := by kernel_rfl
theorem max_of_shaped {W : World} (h : W.ShapedOpen Tryz.prog) : ∃ m : Int, W.cell? ⟨0, 0, none⟩ = some (.int .i64 m) :=
  cell_of_shapedOpen_int (P := Tryz.prog) (g := 0) (t := 3) (zero := #[.int .i64 0]) h (of_decide_eq_true (by kernel_rfl)) (by kernel_rfl) rfl (by kernel_rfl) (by kernel_rfl) Tryz.underlying3
theorem env_of_laid {W : World} (h : laidMetH Tryz.prog [("unicode/utf8.acceptRanges", Rows.laid_unicode_utf8_acceptRanges), ("muslin/chars.windowsRow", Rows.laid_muslin_chars_windowsRow), ("unicode/utf8.first", Rows.laid_unicode_utf8_first)] W) (hS : W.ShapedOpen Tryz.prog) : Env W :=
  ⟨tab_of_laid h, max_of_shaped hS⟩
theorem cellsBox : Tryz.prog.cellsOf 79 = 2 := by kernel_rfl
theorem cellsStr : Tryz.prog.cellsOf 9 = 1 := by kernel_rfl
theorem boxesIn_of_trod {H : Type} {enc : TypeId × Value → H} {W : World} {base : Nat} {v : Value} {d : DataW H} {p : List MemPlace} (hv : Value.okWide Tryz.prog W .any base 40 v)
    (h : DataW.Trod enc Tryz.prog W 0 (fun _ => true) true 40 v d p) (hlt : ∀ x ∈ p, x.block < W.heap.size) : ∃ l, BoxesIn W v l := by
  obtain ⟨a0, len, cap, rfl⟩ := okWide_slice Tryz.underlying40 hv
  obtain ⟨fuel, hf⟩ := h
  rcases Deep.open_slice_pairs Tryz.underlying40 Tryz.underlying79 cellsBox rfl rfl cellsStr cellsStr hf with ⟨hcs, _⟩ | ⟨a, len', cap', m, n, V0, V1, D0, D1, P0, P1, hcs, _, hl, hm, hmm, hx, hcell⟩
  · simp [Value.cells] at hcs
    obtain ⟨rfl, rfl, rfl⟩ := hcs
    exact ⟨[], .inl ⟨rfl, rfl⟩⟩
  · simp [Value.cells] at hcs
    obtain ⟨rfl, rfl, rfl⟩ := hcs
    have hmc : m = cap := by rw [hmm]; simp
    subst hmc
    have hstr : ∀ i, i < m → ∃ s : ByteArray × ByteArray, V0 i = .string s.1 ∧ V1 i = .string s.2 := by
      intro i hi
      obtain ⟨_, _, h1, h2⟩ := hcell i hi
      obtain ⟨s1, e1, _⟩ := DataW.trod_string Tryz.underlying9 h1
      obtain ⟨s2, e2, _⟩ := DataW.trod_string Tryz.underlying9 h2
      exact ⟨(s1, s2), by simpa using e1, by simpa using e2⟩
    obtain ⟨S, hS⟩ := Deep.choose_lt hstr
    refine ⟨(List.range len).map fun i => ((S i).1.data.toList, (S i).2.data.toList), .inr ⟨a, m, by simp, by simpa using hl, hm, fun j hj => ?_⟩⟩
    have hj' : j < len := by simpa using hj
    obtain ⟨c1, c2, _, _⟩ := hcell j (by omega)
    obtain ⟨e1, e2⟩ := hS j (by omega)
    rw [e1] at c1
    rw [e2] at c2
    simp only [List.getElem_map, List.getElem_range]
    rw [str_of, str_of]
    exact ⟨c1, c2⟩
end Go.Proofs.YtcmmbceacjechaaGreatDoor
