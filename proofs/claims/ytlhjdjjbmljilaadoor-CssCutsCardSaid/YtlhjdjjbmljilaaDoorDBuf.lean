/- Rows of [2]string that the call owns: append of one, its cells, kept by calls. No statement is proved here. -/
import Derived.Test.YtlhjdjjbmljilaaDoorStrs
import Derived.Test.YtlhjdjjbmljilaaDoorCssP
import Derived.Laws.AppendOwnNone
namespace Go.Proofs.YtlhjdjjbmljilaaDoor
open Go.RowKit
set_option linter.unusedVariables false
set_option linter.unusedSimpArgs false
def declVals (l : List DeclL) : List Value := l.flatMap fun f => [Value.string (str f.1), Value.string (str f.2)]
theorem declVals_length (l : List DeclL) : (declVals l).length = l.length * 2 := by
  induction l with
  | nil => rfl
  | cons f r ih => unfold declVals at *; rw [List.flatMap_cons, List.length_append, ih]; simp; omega
theorem declVals_at {l : List DeclL} {j : Nat} {f : DeclL} (h : l[j]? = some f) : (declVals l)[j * 2]? = some (.string (str f.1)) ∧ (declVals l)[j * 2 + 1]? = some (.string (str f.2)) := by
  induction l generalizing j with
  | nil => simp at h
  | cons g r ih =>
    cases j with
    | zero => simp at h; subst h; exact ⟨rfl, rfl⟩
    | succ j =>
      have := ih (j := j) (by simpa using h)
      have e : declVals (g :: r) = Value.string (str g.1) :: Value.string (str g.2) :: declVals r := rfl
      rw [e, show (j + 1) * 2 = j * 2 + 1 + 1 by omega]
      simpa using this
theorem declVals_append (a b : List DeclL) : declVals (a ++ b) = declVals a ++ declVals b := by unfold declVals; rw [List.flatMap_append]
/-- in w the [][2]string value v owns the fields l, in a block from B on; below B all is as in W0 -/
def DBuf (B : Nat) (v : Value) (l : List DeclL) (W0 w : World) : Prop :=
  w.ownsRow B 36 2 v l.length (declVals l) ∧ Below B W0 w ∧ B ≤ w.heap.size
theorem info_decl : (Tryd.prog.info? 36).map (fun i => (i.zero, i.size, i.bytes)) = some (some (.agg #[.string ByteArray.empty, .string ByteArray.empty]), 2, 32) := by kernel_rfl
theorem DBuf.nil {B : Nat} {W0 w : World} (hb : Below B W0 w) (hB : B ≤ w.heap.size) : DBuf B (.slice none 0 0) [] W0 w := ⟨World.ownsRow_nil w B _ 2, hb, hB⟩
theorem DBuf.below {B : Nat} {v : Value} {l : List DeclL} {W0 w : World} (h : DBuf B v l W0 w) : Below B W0 w := h.2.1
theorem DBuf.grown {B : Nat} {v v' : Value} {l l' : List DeclL} {W0 w w' : World} (h : DBuf B v l W0 w) (ho : w'.ownsRow B 36 2 v' l'.length (declVals l')) (hg : w.grownBy w' v.ownBlock) : DBuf B v' l' W0 w' :=
  ⟨ho, h.2.1.grown hg h.2.2 (fun k hk => (h.1.lt k hk).1), Nat.le_trans h.2.2 hg.size⟩
theorem DBuf.alloc {B : Nat} {v : Value} {l : List DeclL} {W0 w : World} (h : DBuf B v l W0 w) (o : Obj) : DBuf B v l W0 (w.alloc o) :=
  ⟨h.1.alloc o, h.2.1.alloc h.2.2 o, Nat.le_trans h.2.2 ((Below.refl 0 w).alloc (Nat.zero_le _) o).size⟩
theorem DBuf.drew {B : Nat} {v : Value} {l : List DeclL} {W0 w : World} (h : DBuf B v l W0 w) : DBuf B v l W0 w.drew := ⟨h.1, h.2.1.drew, h.2.2⟩
theorem DBuf.kept {B : Nat} {v : Value} {l : List DeclL} {W0 w w' : World} (h : DBuf B v l W0 w) (hb : Below w.heap.size w w') : DBuf B v l W0 w' :=
  ⟨h.1.kept (row := none) ⟨hb.os, hb.tape, hb.output, hb.size, fun k hk _ => hb.block k hk⟩ (by cases hv : v.ownBlock <;> simp), h.2.1.trans (hb.mono h.2.2), Nat.le_trans h.2.2 hb.size⟩
theorem DBuf.slice_len {B : Nat} {v : Value} {l : List DeclL} {W0 w : World} (h : DBuf B v l W0 w) : ∃ A c, v = .slice A l.length c := by
  rcases h.1.2 with ⟨rfl, h0⟩ | ⟨g, cap, cur, rfl, _⟩
  · rw [h0]; exact ⟨_, _, rfl⟩
  · exact ⟨_, _, rfl⟩
theorem DBuf.form {B : Nat} {v : Value} {l : List DeclL} {W0 w : World} (h : DBuf B v l W0 w) (hl : l ≠ []) : ∃ g cap, v = .slice (some ⟨g, 0, none⟩) l.length cap ∧ B ≤ g := by
  rcases h.1.2 with ⟨rfl, h0⟩ | ⟨g, cap, cur, rfl, hg, _⟩
  · exact absurd (List.eq_nil_of_length_eq_zero h0) hl
  · exact ⟨g, cap, rfl, hg⟩
/-- append(l, f): the one field lies at ad -/
theorem wpList_decls {ops : Array Oper} {rest : List Oper} {o : Oper} {a : Act} {Q : Exit → Act → World → Prop} {w : World} (hgd : o.guard = none) (s x : Operand)
    (ho : o.op = .call { callee := .builtin .append, args := #[s, x], argTypes := #[33, 33] })
    (B : Nat) (v : Value) (l : List DeclL) (hs : a.eval s = v) (W0 : World) (f : DeclL) (hb : DBuf B v l W0 w) (ad : Addr)
    (hx : a.eval x = .slice (some ad) 1 1) (h0 : w.cell? (ad.add 0) = some (.string (str f.1))) (h1 : w.cell? (ad.add 1) = some (.string (str f.2))) (hlen : l.length + 1 ≤ 4398046511104)
    (h : ∀ v' w', DBuf B v' (l ++ [f]) W0 w' → wpList Tryd.prog ops Q rest (a.put o.dst v') w') : wpList Tryd.prog ops Q (o :: rest) a w := by
  obtain ⟨i0, hi, hz0, hz1, hz2⟩ := info_parts info_decl
  refine wpList_append_own _ hgd s x 33 ho B 36 i0 (.agg #[.string ByteArray.empty, .string ByteArray.empty]) 2 32 Tryd.underlying33 hi hz0 hz1 hz2 rfl (by decide) v l.length (declVals l) hs hb.1 ad 1 1 [.string (str f.1), .string (str f.2)] hx rfl ?_ ?_ (by unfold maxLen; omega) (by omega) hb.2.2 ?_
  · intro j u hj
    match j, hj with
    | 0, hj => simp at hj; subst hj; exact h0
    | 1, hj => simp at hj; subst hj; exact h1
    | (j + 2), hj => simp at hj
  · intro u hu
    simp at hu
    rcases hu with rfl | rfl
    · rfl
    · rfl
  · intro v' w' ho' hg _
    exact h v' w' (hb.grown (l' := l ++ [f]) (by rw [declVals_append, List.length_append]; exact ho') hg)
/-- the same row, seen from an elder world -/
theorem DBuf.elder {B B' : Nat} {v : Value} {l : List DeclL} {W0 W' w : World} (h : DBuf B v l W0 w) (hB : B' ≤ B) (hb : Below B' W' w) : DBuf B' v l W' w := by
  refine ⟨⟨h.1.1, ?_⟩, hb, Nat.le_trans hB h.2.2⟩
  rcases h.1.2 with ⟨rfl, h0⟩ | ⟨g, cap, cur, rfl, h1, h2⟩
  · exact .inl ⟨rfl, h0⟩
  · exact .inr ⟨g, cap, cur, rfl, Nat.le_trans hB h1, h2⟩
end Go.Proofs.YtlhjdjjbmljilaaDoor
