/- A [][2]string that came in; == of two [2]string. No statement is proved here. Own work of the verifier. -/
import Derived.Test.YtklbdobofclofaaGreatDoorCssK
import Derived.Test.YtklbdobofclofaaGreatDoorCssS
import Derived.BigQuiet
import Derived.Deep.QuietTactic
namespace Go.Proofs.YtklbdobofclofaaGreatDoor
open Go.RowKit
set_option linter.unusedVariables false
set_option linter.unusedSimpArgs false
set_option maxRecDepth 100000
/-- in w the [][2]string value v reads as l -/
def DeclsIn (w : World) (v : Value) (l : List DeclL) : Prop :=
  (v = .slice none 0 0 ∧ l = []) ∨ ∃ a cap, v = .slice (some a) l.length cap ∧ ∀ (j : Nat) d, l[j]? = some d → w.cell? (a.add (j * 2)) = some (.string (str d.1)) ∧ w.cell? (a.add (j * 2 + 1)) = some (.string (str d.2))
theorem DeclsIn.kept {w w' : World} {v : Value} {l : List DeclL} (h : DeclsIn w v l) (hb : Below w.heap.size w w') : DeclsIn w' v l := by
  rcases h with h | ⟨a, cap, h1, h4⟩
  · exact .inl h
  · refine .inr ⟨a, cap, h1, fun j d hj => ?_⟩
    obtain ⟨c1, c2⟩ := h4 j d hj
    exact ⟨(hb.cell (World.block_lt_of_cell? _ _ c1)).trans c1, (hb.cell (World.block_lt_of_cell? _ _ c2)).trans c2⟩
theorem DeclsIn.form {w : World} {v : Value} {l : List DeclL} (h : DeclsIn w v l) : ∃ a cap, v = .slice a l.length cap := by
  rcases h with ⟨rfl, rfl⟩ | ⟨a, cap, rfl, _⟩
  · exact ⟨_, _, rfl⟩
  · exact ⟨_, _, rfl⟩
theorem DeclsIn.at {w : World} {A : Option Addr} {n cap : Nat} {l : List DeclL} (h : DeclsIn w (.slice A n cap) l) (k : Nat) (f : DeclL) (hk : l[k]? = some f) :
    ∃ a, A = some a ∧ w.cell? (a.add (k * 2)) = some (.string (str f.1)) ∧ w.cell? { block := (a.add (k * 2)).block, off := (a.add (k * 2)).off + 1 } = some (.string (str f.2)) := by
  rcases h with ⟨_, rfl⟩ | ⟨a, cap', h1, h2⟩
  · simp at hk
  · injection h1 with h1 _ _
    subst h1
    obtain ⟨c1, c2⟩ := h2 k f hk
    refine ⟨a, rfl, c1, ?_⟩
    have e3 : ({ block := (a.add (k * 2)).block, off := (a.add (k * 2)).off + 1 } : Addr) = a.add (k * 2 + 1) := by rw [← Addr.add_add]; rfl
    rw [e3]; exact c2
theorem DBuf.in {B : Nat} {v : Value} {l : List DeclL} {W0 w : World} (h : DBuf B v l W0 w) : DeclsIn w v l := by
  rcases h.1.2 with ⟨rfl, h0⟩ | ⟨g, cap, cur, rfl, _⟩
  · exact .inl ⟨rfl, List.eq_nil_of_length_eq_zero h0⟩
  · refine .inr ⟨_, cap, rfl, fun j d hj => ?_⟩
    obtain ⟨a1, a2⟩ := declVals_at hj
    exact ⟨h.1.cells (g := g) rfl _ _ a1, h.1.cells (g := g) rfl _ _ a2⟩
theorem eqTwo (a b c d : ByteArray) (w : World) : (Op.equalIn 10000 55 (.agg #[.string a, .string b]) (.agg #[.string c, .string d])).run Tryz.prog w = .ok (a.toList == c.toList && b.toList == d.toList) w := by
  have u3 := Tryz.underlying9
  have a3 := Tryz.isAgg9
  have z3 := Tryz.sizeOf9
  rw [show (10000 : Nat) = 9999 + 1 from rfl, Op.equalIn]
  simp only [Sem.run_bind, run_underlying Tryz.underlying55, Result.andThen_ok]
  simp only [Std.Legacy.Range.forIn_eq_forIn_range', Std.Legacy.Range.size, Nat.sub_zero, Nat.add_sub_cancel, Nat.div_one, List.range'_succ, List.range'_zero, List.forIn_cons, List.forIn_nil]
  go_simp
  by_cases h1 : a.toList = c.toList <;> by_cases h2 : b.toList = d.toList <;> simp [h1, h2]
attribute [local go_sem] eqTwo
theorem below_drewN17 (w : World) (n : Nat) : Below w.heap.size w (w.drewN n) := ⟨rfl, rfl, rfl, Nat.le_refl _, fun _ _ => rfl⟩
end Go.Proofs.YtklbdobofclofaaGreatDoor
