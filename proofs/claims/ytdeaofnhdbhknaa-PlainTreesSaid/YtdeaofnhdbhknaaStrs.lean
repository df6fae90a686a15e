/- A row of strings that the call owns: append of one, its cells, kept by calls. No statement is proved here. -/
import Derived.Test.YtdeaofnhdbhknaaKit
namespace Go.Proofs.Ytdeaofnhdbhknaa
open Go.RowKit
set_option linter.unusedVariables false
set_option linter.unusedSimpArgs false

def strVals (l : List ByteArray) : List Value := l.map fun s => Value.string s
theorem strVals_length (l : List ByteArray) : (strVals l).length = l.length := by simp [strVals]
/-- in w the []string value v owns the strings l, in a block from B on; below B all is as in W0 -/
def SBuf (B : Nat) (v : Value) (l : List ByteArray) (W0 w : World) : Prop :=
  w.ownsRow B 9 1 v l.length (strVals l) ∧ Below B W0 w ∧ B ≤ w.heap.size
theorem info_str : (Try.prog.info? 9).map (fun i => (i.zero, i.size, i.bytes)) = some (some (.string ByteArray.empty), 1, 16) := by kernel_rfl
theorem SBuf.nil {B : Nat} {W0 w : World} (hb : Below B W0 w) (hB : B ≤ w.heap.size) : SBuf B (.slice none 0 0) [] W0 w := ⟨World.ownsRow_nil w B _ 1, hb, hB⟩
theorem SBuf.below {B : Nat} {v : Value} {l : List ByteArray} {W0 w : World} (h : SBuf B v l W0 w) : Below B W0 w := h.2.1
theorem SBuf.grown {B : Nat} {v v' : Value} {l l' : List ByteArray} {W0 w w' : World} (h : SBuf B v l W0 w) (ho : w'.ownsRow B 9 1 v' l'.length (strVals l')) (hg : w.grownBy w' v.ownBlock) : SBuf B v' l' W0 w' :=
  ⟨ho, h.2.1.grown hg h.2.2 (fun k hk => (h.1.lt k hk).1), Nat.le_trans h.2.2 hg.size⟩
theorem SBuf.alloc {B : Nat} {v : Value} {l : List ByteArray} {W0 w : World} (h : SBuf B v l W0 w) (o : Obj) : SBuf B v l W0 (w.alloc o) :=
  ⟨h.1.alloc o, h.2.1.alloc h.2.2 o, Nat.le_trans h.2.2 ((Below.refl 0 w).alloc (Nat.zero_le _) o).size⟩
theorem SBuf.drew {B : Nat} {v : Value} {l : List ByteArray} {W0 w : World} (h : SBuf B v l W0 w) : SBuf B v l W0 w.drew := ⟨h.1, h.2.1.drew, h.2.2⟩
theorem SBuf.kept {B : Nat} {v : Value} {l : List ByteArray} {W0 w w' : World} (h : SBuf B v l W0 w) (hb : Below w.heap.size w w') : SBuf B v l W0 w' :=
  ⟨h.1.kept (row := none) ⟨hb.os, hb.tape, hb.output, hb.size, fun k hk _ => hb.block k hk⟩ (by cases hv : v.ownBlock <;> simp), h.2.1.trans (hb.mono h.2.2), Nat.le_trans h.2.2 hb.size⟩
theorem SBuf.slice_len {B : Nat} {v : Value} {l : List ByteArray} {W0 w : World} (h : SBuf B v l W0 w) : ∃ A c, v = .slice A l.length c := by
  rcases h.1.2 with ⟨rfl, h0⟩ | ⟨g, cap, cur, rfl, _⟩
  · rw [h0]; exact ⟨_, _, rfl⟩
  · exact ⟨_, _, rfl⟩
theorem SBuf.form {B : Nat} {v : Value} {l : List ByteArray} {W0 w : World} (h : SBuf B v l W0 w) : (v = .slice none 0 0 ∧ l = []) ∨ ∃ g cap, v = .slice (some ⟨g, 0, none⟩) l.length cap ∧ l.length ≤ cap ∧ cap ≤ maxLen ∧ B ≤ g ∧ g < w.heap.size ∧ ∀ (j : Nat) x, l[j]? = some x → w.cell? ⟨g, 0 + j, none⟩ = some (.string x) := by
  have h1 := h.1
  rcases h.1.2 with ⟨rfl, h0⟩ | ⟨g, cap, cur, rfl, hg, hh, hc, hm, _⟩
  · exact .inl ⟨rfl, List.eq_nil_of_length_eq_zero h0⟩
  · refine .inr ⟨g, cap, rfl, hc, hm, hg, ?_, fun j x hj => ?_⟩
    · rcases Nat.lt_or_ge g w.heap.size with h2 | h2
      · exact h2
      · rw [Array.getElem?_eq_none h2] at hh; cases hh
    · have hlt := (List.getElem?_eq_some_iff.1 hj).1
      rw [Nat.zero_add, h1.cellAt j (by omega)]
      simp [strVals, hj]
/-- append(l, s): the one string lies in the block that has just been laid -/
theorem wpList_strs {ops : Array Oper} {rest : List Oper} {o : Oper} {a : Act} {Q : Exit → Act → World → Prop} (hgd : o.guard = none) (s x : Operand)
    (ho : o.op = .call { callee := .builtin .append, args := #[s, x], argTypes := #[32, 32] })
    (B : Nat) (v : Value) (l : List ByteArray) (hs : a.eval s = v) (W0 w0 : World) (c : ByteArray) (hb : SBuf B v l W0 w0)
    (hx : a.eval x = .slice (some ⟨w0.heap.size, 0, none⟩) 1 1) (hlen : l.length + 1 ≤ 8796093022208)
    (h : ∀ v' w', SBuf B v' (l ++ [c]) W0 w' → wpList Try.prog ops Q rest (a.put o.dst v') w') : wpList Try.prog ops Q (o :: rest) a (w0.alloc (.cells #[.string c] 9)) := by
  obtain ⟨i0, hi, hz0, hz1, hz2⟩ := info_parts info_str
  have hb' := hb.alloc (.cells #[.string c] 9)
  refine wpList_append_own _ hgd s x 32 ho B 9 i0 (.string ByteArray.empty) 1 16 Try.underlying32 hi hz0 hz1 hz2 rfl (by decide) v l.length (strVals l) hs hb'.1 ⟨w0.heap.size, 0, none⟩ 1 1 [.string c] hx rfl ?_ ?_ (by unfold maxLen; omega) (by omega) hb'.2.2 ?_
  · intro j u hj
    match j, hj with
    | 0, hj => simp at hj; subst hj; simp [Addr.add]
    | (j + 1), hj => simp at hj
  · intro u hu; simp at hu; subst hu; rfl
  · intro v' w' ho' hg _
    exact h v' w' (hb'.grown (l' := l ++ [c]) (by simpa [strVals] using ho') hg)
def lineVals (L : List (List UInt8)) : List Value := strVals (L.map str)
theorem lineVals_length (L : List (List UInt8)) : (lineVals L).length = L.length := by unfold lineVals; rw [strVals_length, List.length_map]
theorem lineVals_snoc (L : List (List UInt8)) (x : List UInt8) : lineVals (L ++ [x]) = lineVals L ++ [.string (str x)] := by simp [lineVals, strVals]
end Go.Proofs.Ytdeaofnhdbhknaa
