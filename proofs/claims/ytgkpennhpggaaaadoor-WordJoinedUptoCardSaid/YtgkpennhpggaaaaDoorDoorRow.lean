/- What a door's rows ask of the first world: the table of chars, a number of the library's own; a []string that came in. No statement is proved here. -/
import Derived.Test.YtgkpennhpggaaaaDoorTabRow
import Derived.Test.YtgkpennhpggaaaaDoorStrsIn
import Derived.Test.YtgkpennhpggaaaaDoorWordLaw0

import Derived.Shelf.Vars
import Derived.Deep.Strs
import Derived.Carry
namespace Go.Proofs.YtgkpennhpggaaaaDoor
open Go.RowKit Go.WideShapes
set_option linter.unusedVariables false
set_option maxRecDepth 100000

theorem laidOutSeat : laidOutB Tryd.prog = true := by kernel_rfl
theorem max_of_shaped {W : World} (h : W.ShapedOpen Tryd.prog) : ∃ m : Int, W.cell? ⟨1, 0, none⟩ = some (.int .i64 m) :=
  cell_of_shapedOpen_int (P := Tryd.prog) (g := 1) (t := 3) (zero := #[.int .i64 0]) h (of_decide_eq_true (by kernel_rfl)) (by kernel_rfl) rfl (by kernel_rfl) (by kernel_rfl) Tryd.underlying3
theorem env_of_laid {W : World} (h : laidMetH Tryd.prog [("unicode/utf8.acceptRanges", Rows.laid_unicode_utf8_acceptRanges), ("muslin/chars.windowsRow", Rows.laid_muslin_chars_windowsRow), ("unicode/utf8.first", Rows.laid_unicode_utf8_first)] W) (hS : W.ShapedOpen Tryd.prog) : Env W :=
  ⟨tab_of_laid h, max_of_shaped hS⟩
theorem bulk_mem {H : Type} : ∀ (ds : List (DataW H)) (d : DataW H), d ∈ ds → Rows.uptoBulk d ≤ Rows.uptoBulkAll ds
  | [], d, h => by cases h
  | x :: r, d, h => by
    rw [Rows.uptoBulkAll]
    rcases List.mem_cons.1 h with rfl | h
    · omega
    · have := bulk_mem r d h; omega
theorem cellsStr : Tryd.prog.cellsOf 9 = 1 := by kernel_rfl
theorem strsIn_of_trod {H : Type} {enc : TypeId × Value → H} {W : World} {base : Nat} {v : Value} {d : DataW H} {p : List MemPlace} (hv : Value.okWide Tryd.prog W .any base 27 v)
    (h : DataW.Trod enc Tryd.prog W 0 (fun _ => true) true 27 v d p) (hlt : ∀ x ∈ p, x.block < W.heap.size) : ∃ l, StrsIn W v l ∧ ∀ x ∈ l, x.size ≤ Rows.uptoBulk d := by
  obtain ⟨a0, len, cap, rfl⟩ := okWide_slice Tryd.underlying27 hv
  obtain ⟨fuel, hf⟩ := h
  rcases Deep.open_strs Tryd.underlying27 Tryd.underlying9 cellsStr hf with ⟨hcs, _⟩ | ⟨a, len', cap', m, Sx, hcs, _, hl, hm, hmm, hx0, hcell⟩
  · simp [Value.cells] at hcs
    obtain ⟨rfl, rfl, rfl⟩ := hcs
    exact ⟨[], .inl ⟨rfl, rfl⟩, fun x hx => by cases hx⟩
  · simp [Value.cells] at hcs
    obtain ⟨rfl, rfl, rfl⟩ := hcs
    have hmc : m = cap := by rw [hmm]; simp
    subst hmc
    refine ⟨(List.range len).map Sx, .inr ⟨a, m, by simp, by simpa using hl, hm, fun j hj => ?_, fun j hj => ?_⟩, fun x hx => ?_⟩
    · have hj' : j < len := by simpa using hj
      have := (hcell j (by omega)).1
      simpa using this
    · have hj' : j < len := by simpa using hj
      have := (hcell j (by omega)).2
      simpa using this
    · obtain ⟨j, hj, rfl⟩ := List.mem_map.1 hx
      have hd : d = .slice ((List.range len).map fun i => .lit (.string (Sx i).data.toList)) ((List.range (m - len)).map fun j => .lit (.string (Sx (len + j)).data.toList)) := (Prod.mk.injEq _ _ _ _ ▸ hx0).1
      rw [hd]
      have := bulk_mem (H := H) ((List.range len).map fun i => DataW.lit (.string (Sx i).data.toList)) (.lit (.string (Sx j).data.toList)) (List.mem_map.2 ⟨j, hj, rfl⟩)
      simp only [Rows.uptoBulk] at this ⊢
      rw [toList_length] at this
      omega
end Go.Proofs.YtgkpennhpggaaaaDoor
