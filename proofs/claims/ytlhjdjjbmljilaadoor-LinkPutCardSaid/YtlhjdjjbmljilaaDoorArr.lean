/- A row of bytes that []byte(s) has made, read and written place by place; small letters. No statement is proved here. -/
import Derived.Test.YtlhjdjjbmljilaaDoorKit
import Derived.Laws.IdiomStrings
namespace Go.Proofs.YtlhjdjjbmljilaaDoor
open Go.RowKit
set_option linter.unusedVariables false
set_option linter.unusedSimpArgs false

/-- the bytes l lie at the head of block g, which is the call's own and may be written -/
def Arr (B g : Nat) (l : List UInt8) (W0 w : World) : Prop :=
  (∀ j (h : j < l.length), w.cell? ⟨g, j, none⟩ = some (.int .u8 (l[j]'h).toNat) ∧ w.frozen? ⟨g, j, none⟩ = false) ∧ Below B W0 w ∧ B ≤ g ∧ g < w.heap.size

theorem Arr.below {B g : Nat} {l : List UInt8} {W0 w : World} (h : Arr B g l W0 w) : Below B W0 w := h.2.1
theorem Arr.cell {B g : Nat} {l : List UInt8} {W0 w : World} (h : Arr B g l W0 w) (j : Nat) (hj : j < l.length) : w.cell? ⟨g, j, none⟩ = some (.int .u8 (l[j]'hj).toNat) := (h.1 j hj).1
theorem Arr.free {B g : Nat} {l : List UInt8} {W0 w : World} (h : Arr B g l W0 w) (j : Nat) (hj : j < l.length) : w.frozen? ⟨g, j, none⟩ = false := (h.1 j hj).2
theorem Arr.drew {B g : Nat} {l : List UInt8} {W0 w : World} (h : Arr B g l W0 w) : Arr B g l W0 w.drew := ⟨h.1, h.2.1.drew, h.2.2⟩

theorem Arr.kept {B g : Nat} {l : List UInt8} {W0 w w' : World} (h : Arr B g l W0 w) (hb : Below w.heap.size w w') : Arr B g l W0 w' :=
  ⟨fun j hj => ⟨(hb.cell (by exact h.2.2.2)).trans (h.cell j hj), (hb.frozen (by exact h.2.2.2)).trans (h.free j hj)⟩, h.2.1.trans (hb.mono (Nat.le_trans h.2.2.1 (Nat.le_of_lt h.2.2.2))), h.2.2.1, Nat.lt_of_lt_of_le h.2.2.2 hb.size⟩
theorem Arr.new (w : World) (s : ByteArray) (cap : Nat) :
    Arr w.heap.size w.heap.size s.data.toList w (w.drew.alloc (.cells (bytesRow s cap) 5 ((bytesRow s cap).size, (bytesRow s cap).size + 1))) := by
  have hh : (w.drew.alloc (.cells (bytesRow s cap) 5 ((bytesRow s cap).size, (bytesRow s cap).size + 1))).heap[w.heap.size]? = some (.cells (bytesRow s cap) 5 ((bytesRow s cap).size, (bytesRow s cap).size + 1)) := heap_alloc_new w.drew _
  have hz : s.data.toList.length ≤ (bytesRow s cap).size := by simp [bytesRow]
  refine ⟨fun j hj => ⟨?_, ?_⟩, ((Below.refl _ w).drew).alloc (Nat.le_refl _) _, Nat.le_refl _, ?_⟩
  · rw [cell_of_row _ _ j _ _ _ hh]
    have hj' : j < s.data.size := by simpa using hj
    simp only [bytesRow]
    rw [Array.getElem?_append_left (by simpa using hj')]
    simp only [Array.getElem?_map]
    rw [Array.getElem?_eq_getElem hj']
    simp
  · unfold World.frozen?
    rw [hh]
    have : ¬ (bytesRow s cap).size ≤ j := by omega
    simp [this]
  · exact ((Array.getElem?_eq_some_iff.1 hh).1)

theorem Arr.set {B g : Nat} {l : List UInt8} {W0 w : World} (h : Arr B g l W0 w) (j : Nat) (hj : j < l.length) (c : UInt8) (n : Int) (hn : n = c.toNat) : Arr B g (l.set j c) W0 (w.setCell ⟨g, j, none⟩ (.int .u8 n)) := by
  subst hn
  refine ⟨fun i hi => ?_, h.2.1.setCell h.2.2.1 _, h.2.2.1, by simpa [World.setCell] using h.2.2.2⟩
  have hi' : i < l.length := by simpa using hi
  rw [World.frozen?_setCell]
  refine ⟨?_, h.free i hi'⟩
  by_cases e : i = j
  · subst e
    rw [World.cell?_setCell_same _ _ _ (h.cell i hi')]
    simp
  · rw [World.cell?_setCell_other _ _ _ _ (by intro e'; injection e' with _ e2; exact e e2.symm), h.cell i hi']
    rw [List.getElem_set_ne (Ne.symm e)]

theorem Arr.convert {B g : Nat} {l : List UInt8} {W0 w : World} (h : Arr B g l W0 w) (cap : Nat) : (convert 28 9 (.slice (some ⟨g, 0, none⟩) l.length cap)).run Tryd.prog w = .ok (.string (str l)) w := by
  have hr := run_convert_bytes_arg (P := Tryd.prog) w 28 5 Tryd.underlying28 Tryd.underlying5 g 0 l.length cap (l.map fun b => (b.toNat : Int)) (by simp) (fun i hi => by
    have h1 := h.cell i hi
    show w.cell? ⟨g, 0 + i, none⟩ = _
    rw [Nat.zero_add, h1]
    simp [List.getD, hi]) 9 Tryd.underlying9
  rw [hr]
  refine congrArg (fun x => Result.ok (Value.string x) w) ?_
  apply ext_list
  rw [strOfNums_data, str_toList, List.map_map]
  conv => rhs; rw [← List.map_id l]
  apply List.map_congr_left
  intro b _
  simp

theorem conv_bytes (w : World) (s : ByteArray) : (convert 9 28 (.string s)).run Tryd.prog w = .ok (.slice (some ⟨w.heap.size, 0, none⟩) s.size (grownCap w s.size 0 5))
      (w.drew.alloc (.cells (bytesRow s (grownCap w s.size 0 5)) 5 ((bytesRow s (grownCap w s.size 0 5)).size, (bytesRow s (grownCap w s.size 0 5)).size + 1))) :=
  run_bytes_of_string w 9 28 5 s Tryd.underlying9 Tryd.underlying28 Tryd.underlying5

/-- []byte(s), as a step of the walk: what has been made has no name but g -/
theorem wpList_bytes {ops : Array Oper} {rest : List Oper} {o : Oper} {a : Act} {Q : Exit → Act → World → Prop} {w : World} (hgd : o.guard = none) (x : Operand) (ho : o.op = .convert 9 28 x) (s : ByteArray) (hx : a.eval x = .string s)
    (h : ∀ (cap : Nat) (w' : World), Arr w.heap.size w.heap.size s.data.toList w w' → wpList Tryd.prog ops Q rest (a.put o.dst (.slice (some ⟨w.heap.size, 0, none⟩) s.size cap)) w') : wpList Tryd.prog ops Q (o :: rest) a w := by
  refine wpList_plain hgd fun K hK' => ?_
  unfold Oper.wp
  simp [execOp, ho, hx, conv_bytes, Result.andThen]
  exact hK' _ _ (h _ _ (Arr.new w s _))
end Go.Proofs.YtlhjdjjbmljilaaDoor
