/- Maps with texts as keys, and function values as elements, said by what they hold at each text. No statement is proved here. Own work of the verifier. -/
import Derived.Test.YtklbdobofclofaaGreatDoorMapB
namespace Go.Proofs.YtklbdobofclofaaGreatDoor
open Go.RowKit Go.Maps Go.WideShapes Go.WideMaps
open Go.ChangeMaps (setBlock heap_setBlock_other)
set_option linter.unusedVariables false
set_option linter.unusedSimpArgs false
set_option maxRecDepth 100000
/-- a function value reads as itself -/
def heldElem (v : Value) : Option (DataW Value × List MemPlace) := some (.held v, [])
/-- block b is a map of at most n entries, that holds the values f -/
def FMap (w : World) (b n : Nat) (f : List UInt8 → Option Value) : Prop :=
  ∃ D : DataW Value, w.ownsMap Tryz.prog 9 heldElem b n D ∧ IsMap D ∧
    ∀ s : List UInt8, ∀ v, f s = some v → D.atKey (.string s) .nil = .held v
theorem FMap.made (w : World) : FMap (w.alloc (.map #[] 0)) w.heap.size 0 (fun _ => none) := ⟨_, World.ownsMap_made w Tryz.prog _ _, isMap_empty, fun s v h => by cases h⟩
theorem FMap.same {w w' : World} {b n : Nat} {f : List UInt8 → Option Value} (h : FMap w b n f) (e : w'.heap[b]? = w.heap[b]?) : FMap w' b n f := by
  obtain ⟨D, ⟨es, clock, hb, r⟩, h2⟩ := h
  exact ⟨D, ⟨es, clock, e.trans hb, r⟩, h2⟩
theorem FMap.lt {w : World} {b n : Nat} {f : List UInt8 → Option Value} (h : FMap w b n f) : b < w.heap.size := by obtain ⟨D, h1, _⟩ := h; exact h1.lt
theorem FMap.kept {w w' : World} {b n : Nat} {f : List UInt8 → Option Value} (h : FMap w b n f) (hb : Below w.heap.size w w') : FMap w' b n f := h.same (hb.block b h.lt)
theorem FMap.look {t e : TypeId} {w : World} {b n : Nat} {f : List UInt8 → Option Value} (h : FMap w b n f) (ht : Tryz.prog.underlying t = some (.map 9 e)) {z : Value} (hz : (zeroValue e).run Tryz.prog w = .ok z w)
    (s : ByteArray) (hs : s.size ≤ maxLen) (v : Value) (hv : f s.data.toList = some v) :
    (Instr.lookup t (.map (some b)) (.string s) false).run Tryz.prog w = .ok v w := by
  obtain ⟨D, ⟨es, clock, hb, F, _, rfl⟩, h2, h3⟩ := h
  have g := h3 s.data.toList v hv
  rcases Maps.fit_look false keyedT ht hz hb F (keyOf_string_mk Tryz.underlying9 hs) with ⟨hrun, _, hat⟩ | ⟨e0, y, _, _, hrun, hRv, hat, _⟩
  · rw [hat] at g
    cases g
  · have hy : y.1 = .held e0.val := by
      unfold heldElem at hRv
      injection hRv with hRv
      rw [← hRv]
    rw [hat, hy] at g
    injection g with g
    rw [hrun, ← g]; rfl
theorem FMap.put {t e : TypeId} {w : World} {b n : Nat} {f : List UInt8 → Option Value} (h : FMap w b n f) (ht : Tryz.prog.underlying t = some (.map 9 e)) (hn : n < maxLen) (s : ByteArray) (v : Value) (hs : s.size ≤ maxLen) :
    ∃ w', (Instr.mapUpdate t (.map (some b)) (.string s) v).run Tryz.prog w = .ok () w' ∧ FMap w' b (n + 1) (putF f s.data.toList v) ∧ Turned b w w' := by
  obtain ⟨D, h1, h2, h3⟩ := h
  obtain ⟨w', hrun, r1, r2⟩ := h1.store keyedT ht hn (keyOf_string_mk Tryz.underlying9 hs) (show heldElem v = some (.held v, []) from rfl)
  refine ⟨w', hrun, ⟨_, r1, h2.put _ _, fun y u hu => ?_⟩, turned_of r2⟩
  unfold putF at hu
  by_cases e : y = s.data.toList
  · subst e
    rw [if_pos rfl] at hu
    injection hu with hu
    rw [← hu]
    exact atKey_put_same h2 (show WideAt.IsKeyLit (.string s.data.toList) from trivial) _ _
  · have hne : (Lit.string y) ≠ (Lit.string s.data.toList) := fun h => e (by injection h)
    rw [if_neg e] at hu
    rw [atKey_put_other hne _ _]
    exact h3 y u hu
end Go.Proofs.YtklbdobofclofaaGreatDoor
