/- A map with texts as keys and runes as elements that the call makes: said by what it holds at each text. No statement is proved here. -/
import Derived.Test.YtnnlhcjcdpdfcaaGreatDoorBaseM
import Derived.Maps.Own
import Derived.Maps.OwnSet
import Derived.Maps.Views
namespace Go.Proofs.YtnnlhcjcdpdfcaaGreatDoor
open Go.RowKit Go.Maps Go.WideShapes Go.WideMaps
set_option linter.unusedVariables false
set_option linter.unusedSimpArgs false
set_option maxRecDepth 100000
theorem keyedS : Keyed Tryz.prog 9 := string_keyed Tryz.underlying9
theorem zeroR (w : World) : (zeroValue 21).run Tryz.prog w = .ok (.int .i32 0) w := by kernel_rfl
/-- block b is a map of at most n entries, that holds f -/
def SMapN (w : World) (b n : Nat) (f : List UInt8 → Option Int) : Prop :=
  ∃ D : DataW Unit, w.ownsMap Tryz.prog 9 (plainElem Tryz.prog 21) b n D ∧ IsMap D ∧
    ∀ s : List UInt8, Maps.has D (.string s) = (f s).isSome ∧ D.atKey (.string s) (.lit (.int .i32 0)) = .lit (.int .i32 ((f s).getD 0))
theorem SMapN.made (w : World) : SMapN (w.alloc (.map #[] 0)) w.heap.size 0 (fun _ => none) :=
  ⟨_, World.ownsMap_made w Tryz.prog _ _, isMap_empty, fun s => ⟨rfl, rfl⟩⟩
theorem SMapN.kept {w w' : World} {b n : Nat} {f : List UInt8 → Option Int} (h : SMapN w b n f) (hb : Below w.heap.size w w') : SMapN w' b n f := by
  obtain ⟨D, h1, h2, h3⟩ := h
  exact ⟨D, h1.kept (row := none) ⟨hb.os, hb.tape, hb.output, hb.size, fun k hk _ => hb.block k hk⟩ (by simp), h2, h3⟩
theorem SMapN.drew {w : World} {b n : Nat} {f : List UInt8 → Option Int} (h : SMapN w b n f) : SMapN w.drew b n f := h
theorem SMapN.lt {w : World} {b n : Nat} {f : List UInt8 → Option Int} (h : SMapN w b n f) : b < w.heap.size := by
  obtain ⟨D, h1, _⟩ := h; exact h1.lt
/-- m[s] = c, of a literal -/
theorem wpList_sm_insert {ops : Array Oper} {rest : List Oper} {o : Oper} {a : Act} {Q : Exit → Act → World → Prop} {w : World} (hg : o.guard = none) (m x v : Operand) (hop : o.op = Op.insert 62 m x v)
    (w0 : World) (n : Nat) (f : List UInt8 → Option Int) (hm : a.eval m = .map (some w0.heap.size)) (h : SMapN w w0.heap.size n f ∧ Below w0.heap.size w0 w) (hn : n < maxLen) (s : ByteArray) (hs : s.size ≤ maxLen) (c : Int) (hc : (Lit.int .i32 c).wf = true)
    (hx : a.eval x = .string s) (hv : a.eval v = .int .i32 c)
    (hK : ∀ w', (SMapN w' w0.heap.size (n + 1) (fun y => if y = s.data.toList then some c else f y) ∧ Below w0.heap.size w0 w') → wpList Tryz.prog ops Q rest (a.put o.dst undef) w') : wpList Tryz.prog ops Q (o :: rest) a w := by
  obtain ⟨⟨D, h1, h2, h3⟩, hB⟩ := h
  obtain ⟨w', hrun, r1, r2⟩ := h1.update keyedS Tryz.underlying62 hn (keyOf_string_mk Tryz.underlying9 hs) (plainElem_int Tryz.underlying21 hc)
  refine wpList_plain hg fun K' hK' => ?_
  unfold Oper.wp
  simp [execOp, hop, hm, hx, hv, hrun, Result.andThen]
  refine hK' _ _ (hK w' ⟨⟨_, r1, h2.put _ _, fun y => ?_⟩, hB.grown r2 (Nat.le_of_lt h1.lt) (fun k hk => by cases hk; exact Nat.le_refl _)⟩)
  by_cases e : y = s.data.toList
  · subst e
    exact ⟨(has_put_same h2 (show WideAt.IsKeyLit (.string s.data.toList) from trivial) _).trans (by simp), (atKey_put_same h2 (show WideAt.IsKeyLit (.string s.data.toList) from trivial) _ _).trans (by simp)⟩
  · have hne : (Lit.string y) ≠ (Lit.string s.data.toList) := fun h => e (by injection h)
    obtain ⟨g1, g2⟩ := h3 y
    exact ⟨(has_put_other hne _).trans (by simp [g1, e]), (atKey_put_other hne _ _).trans (by simp [g2, e])⟩
/-- v, ok := m[s] -/
theorem wpList_sm_look {ops : Array Oper} {rest : List Oper} {o : Oper} {a : Act} {Q : Exit → Act → World → Prop} {w : World} (hg : o.guard = none) (m x : Operand) (hop : o.op = Op.lookup 62 m x true)
    (b n : Nat) (f : List UInt8 → Option Int) (hm : a.eval m = .map (some b)) (h : SMapN w b n f) (s : ByteArray) (hs : s.size ≤ maxLen) (hx : a.eval x = .string s)
    (hK : wpList Tryz.prog ops Q rest (a.put o.dst (.tuple #[.int .i32 ((f s.data.toList).getD 0), .bool (f s.data.toList).isSome])) w) : wpList Tryz.prog ops Q (o :: rest) a w := by
  obtain ⟨D, h1, h2, h3⟩ := h
  refine wpList_lookup_own_ok_int w hg m x 62 hop 9 21 .i32 keyedS Tryz.underlying62 Tryz.underlying21 (zeroR w) b n D hm h1 _ (.string s.data.toList) hx (keyOf_string_mk Tryz.underlying9 hs) (fun c hc _ => ?_)
  obtain ⟨g1, g2⟩ := h3 s.data.toList
  rw [g2] at hc
  injection hc with hc
  injection hc with _ hc
  rw [g1, ← hc]
  exact hK
end Go.Proofs.YtnnlhcjcdpdfcaaGreatDoor
