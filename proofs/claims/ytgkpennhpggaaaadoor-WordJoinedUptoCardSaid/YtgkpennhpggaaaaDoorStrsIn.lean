/- A []string that came in, read by its cells. No statement is proved here. -/
import Derived.Test.YtgkpennhpggaaaaDoorKit
namespace Go.Proofs.YtgkpennhpggaaaaDoor
open Go.RowKit
set_option linter.unusedVariables false
/-- in w the []string value v reads as the strings l -/
def StrsIn (w : World) (v : Value) (l : List ByteArray) : Prop :=
  (v = .slice none 0 0 ∧ l = []) ∨ ∃ a cap, v = .slice (some a) l.length cap ∧ l.length ≤ cap ∧ cap ≤ maxLen ∧ (∀ j (h : j < l.length), w.cell? (a.add j) = some (.string (l[j]'h))) ∧ ∀ j (h : j < l.length), (l[j]'h).size ≤ maxLen
theorem StrsIn.kept {w w' : World} {v : Value} {l : List ByteArray} (h : StrsIn w v l) (hb : Below w.heap.size w w') : StrsIn w' v l := by
  rcases h with h | ⟨a, cap, h1, h2, h3, h4, h5⟩
  · exact .inl h
  · refine .inr ⟨a, cap, h1, h2, h3, fun j hj => ?_, h5⟩
    have hc := h4 j hj
    exact (hb.cell (World.block_lt_of_cell? _ _ hc)).trans hc
theorem StrsIn.form {w : World} {v : Value} {l : List ByteArray} (h : StrsIn w v l) : ∃ a cap, v = .slice a l.length cap := by
  rcases h with ⟨rfl, rfl⟩ | ⟨a, cap, rfl, _⟩
  · exact ⟨_, _, rfl⟩
  · exact ⟨_, _, rfl⟩
end Go.Proofs.YtgkpennhpggaaaaDoor
