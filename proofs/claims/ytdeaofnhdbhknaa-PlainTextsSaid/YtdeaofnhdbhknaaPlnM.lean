/- (By plnm.py.) Trees in memory, for a seat without tokens. Written by wip/tools/foldm.py. No statement is proved here. Own work of the verifier. -/
import Derived.Test.YtdeaofnhdbhknaaTrP
import Derived.Test.YtdeaofnhdbhknaaBaseM
import Derived.Test.YtdeaofnhdbhknaaTreeG
import Derived.Laws.AppendOwnNone
import Derived.Laws.OwnMore
import Derived.Laws.Externs
import Derived.DataElems
namespace Go.Proofs.Ytdeaofnhdbhknaa
open Go.RowKit
set_option linter.unusedVariables false
set_option linter.unusedSimpArgs false
set_option maxRecDepth 100000
def atVals (l : List AtL) : List Value := l.flatMap fun f => [Value.string (str f.1), Value.string (str f.2)]
theorem atVals_length (l : List AtL) : (atVals l).length = l.length * 2 := by
  induction l with
  | nil => rfl
  | cons f r ih => unfold atVals at *; rw [List.flatMap_cons, List.length_append, ih]; simp; omega
theorem atVals_at {l : List AtL} {j : Nat} {f : AtL} (h : l[j]? = some f) : (atVals l)[j * 2]? = some (.string (str f.1)) ∧ (atVals l)[j * 2 + 1]? = some (.string (str f.2)) := by
  induction l generalizing j with
  | nil => simp at h
  | cons g r ih =>
    cases j with
    | zero => simp at h; subst h; exact ⟨rfl, rfl⟩
    | succ j =>
      have := ih (j := j) (by simpa using h)
      have e : atVals (g :: r) = Value.string (str g.1) :: Value.string (str g.2) :: atVals r := rfl
      rw [e, show (j + 1) * 2 = j * 2 + 1 + 1 by omega]
      simpa using this
theorem atVals_append (a b : List AtL) : atVals (a ++ b) = atVals a ++ atVals b := by unfold atVals; rw [List.flatMap_append]
theorem info_at : (Try.prog.info? 59).map (fun i => (i.zero, i.size, i.bytes)) = some (some (.agg #[.string ByteArray.empty, .string ByteArray.empty]), 2, 32) := by kernel_rfl
theorem ownsRow_other {w : World} {B : Nat} {e : TypeId} {sz n : Nat} {v : Value} {xs : List Value} (h : w.ownsRow B e sz v n xs) {r : Nat} (hr : ∀ cur, w.heap[r]? ≠ some (.cells cur e (0, 0))) : v.ownBlock ≠ some r := by
  rcases h.2 with ⟨rfl, _⟩ | ⟨g, cap, cur, rfl, hg, hh, _⟩
  · simp [Value.ownBlock]
  · intro e2
    simp [Value.ownBlock] at e2
    subst e2
    exact hr cur hh
theorem ownsRow_diff {w : World} {B B' : Nat} {e e' : TypeId} (he : e ≠ e') {sz sz' n n' : Nat} {v v' : Value} {xs xs' : List Value} (h : w.ownsRow B e sz v n xs) (h' : w.ownsRow B' e' sz' v' n' xs') : v.ownBlock = none ∨ v.ownBlock ≠ v'.ownBlock := by
  rcases h'.2 with ⟨rfl, _⟩ | ⟨g, cap, cur, rfl, hg, hh, _⟩
  · cases hv : v.ownBlock
    · exact .inl rfl
    · exact .inr (by simp [Value.ownBlock])
  · refine .inr ?_
    have := ownsRow_other h (r := g) (fun cur' e2 => by
      rw [hh] at e2
      injection e2 with e2
      injection e2 with _ e2
      exact he e2.symm)
    simpa [Value.ownBlock] using this
theorem ownsRow_down {w : World} {B B' : Nat} {e : TypeId} {sz n : Nat} {v : Value} {xs : List Value} (h : w.ownsRow B e sz v n xs) (hB : B' ≤ B) : w.ownsRow B' e sz v n xs := by
  refine ⟨h.1, ?_⟩
  rcases h.2 with h2 | ⟨g, cap, cur, h1, hg, h3⟩
  · exact .inl h2
  · exact .inr ⟨g, cap, cur, h1, Nat.le_trans hB hg, h3⟩
/-- a []api.Attr that is given -/
def AttrsIn (w : World) (v : Value) (l : List AtL) : Prop :=
  (v = .slice none 0 0 ∧ l = []) ∨ ∃ a cap, v = .slice (some a) l.length cap ∧ l.length ≤ cap ∧ cap ≤ maxLen ∧
    ∀ j (f : AtL), l[j]? = some f → w.cell? (a.add (j * 2)) = some (.string (str f.1)) ∧ w.cell? (a.add (j * 2 + 1)) = some (.string (str f.2))
theorem AttrsIn.kept {w w' : World} {v : Value} {l : List AtL} (h : AttrsIn w v l) (hb : Below w.heap.size w w') : AttrsIn w' v l := by
  rcases h with h | ⟨a, cap, h1, h2, h3, h4⟩
  · exact .inl h
  · refine .inr ⟨a, cap, h1, h2, h3, fun j f hj => ?_⟩
    obtain ⟨c1, c2⟩ := h4 j f hj
    exact ⟨(hb.cell (World.block_lt_of_cell? _ _ c1)).trans c1, (hb.cell (World.block_lt_of_cell? _ _ c2)).trans c2⟩
theorem AttrsIn.form {w : World} {v : Value} {l : List AtL} (h : AttrsIn w v l) : ∃ a cap, v = .slice a l.length cap := by
  rcases h with ⟨rfl, rfl⟩ | ⟨a, cap, rfl, _⟩
  · exact ⟨_, _, rfl⟩
  · exact ⟨_, _, rfl⟩
theorem AttrsIn.at {w : World} {A : Option Addr} {n cap : Nat} {l : List AtL} (h : AttrsIn w (.slice A n cap) l) (k : Nat) (f : AtL) (hk : l[k]? = some f) :
    ∃ a, A = some a ∧ w.cell? (a.add (k * 2)) = some (.string (str f.1)) ∧ w.cell? { block := (a.add (k * 2)).block, off := (a.add (k * 2)).off + 1 } = some (.string (str f.2)) := by
  rcases h with ⟨_, rfl⟩ | ⟨a, cap', h1, _, _, h4⟩
  · cases hk
  · injection h1 with h1 _ _
    have e3 : ({ block := (a.add (k * 2)).block, off := (a.add (k * 2)).off + 1 } : Addr) = a.add (k * 2 + 1) := by rw [← Addr.add_add]; rfl
    obtain ⟨c1, c2⟩ := h4 k f hk
    exact ⟨a, h1, c1, by rw [e3]; exact c2⟩
theorem attrs_of_row {B : Nat} {w : World} {v : Value} {l : List AtL} (h : w.ownsRow B 59 2 v l.length (atVals l)) : AttrsIn w v l := by
  rcases h.2 with ⟨rfl, h0⟩ | ⟨g, cap, cur, rfl, hg, hh, h1, h2, h3, h4⟩
  · exact .inl ⟨rfl, List.eq_nil_of_length_eq_zero h0⟩
  · refine .inr ⟨⟨g, 0, none⟩, cap, rfl, h1, h2, fun j f hj => ?_⟩
    obtain ⟨c1, c2⟩ := atVals_at hj
    exact ⟨h.cells (g := g) rfl _ _ c1, h.cells (g := g) rfl _ _ c2⟩
/-- rows that lie whole in a block -/
theorem attrs_lit {w : World} {g : Nat} {T : TypeId} {fz : Nat × Nat} (l : List AtL) (h : w.heap[g]? = some (.cells (atVals l).toArray T fz)) (hl : l.length ≤ maxLen) : AttrsIn w (.slice (some ⟨g, 0, none⟩) l.length l.length) l := by
  refine .inr ⟨⟨g, 0, none⟩, l.length, rfl, Nat.le_refl _, hl, fun j f hj => ?_⟩
  obtain ⟨c1, c2⟩ := atVals_at hj
  have hc : ∀ (i : Nat) (x : Value), (atVals l)[i]? = some x → w.cell? ((⟨g, 0, none⟩ : Addr).add i) = some x := fun i x hx => by
    rw [Addr.add_lit, Lib.cell_of_heap h, List.getElem?_toArray]; simpa using hx
  exact ⟨hc _ _ c1, hc _ _ c2⟩
/-! ### trees in memory -/
/-- a []api.Attr that is given, in one of the blocks C -/
def AttrsC (C : Nat → Prop) (w : World) (v : Value) (l : List AtL) : Prop :=
  AttrsIn w v l ∧ ∀ a n c, v = .slice (some a) n c → l ≠ [] → C a.block
/-- from address a on lie the nodes t, in blocks of C -/
def NodesAt (C : Nat → Prop) (w : World) : Tr → Addr → Prop
  | .nil, _ => True
  | .cons h k r, a =>
    C a.block ∧ w.cell? a = some (.string (str h.name)) ∧ w.cell? (a.add 2) = some (.string (str h.text)) ∧
    (∃ u, w.cell? (a.add 1) = some u ∧ AttrsC C w u h.attrs) ∧
    (∃ v, w.cell? (a.add 3) = some v ∧ ((v = .slice none 0 0 ∧ k = .nil) ∨ ∃ a' cap, v = .slice (some a') k.len cap ∧ k.len ≤ cap ∧ cap ≤ maxLen ∧ NodesAt C w k a')) ∧
    NodesAt C w r (a.add 4)
/-- the []api.Node v holds t -/
def NodesC (C : Nat → Prop) (w : World) (v : Value) (t : Tr) : Prop :=
  (v = .slice none 0 0 ∧ t = .nil) ∨ ∃ a cap, v = .slice (some a) t.len cap ∧ t.len ≤ cap ∧ cap ≤ maxLen ∧ NodesAt C w t a
/-- in any block that is there -/
def NodesIn (w : World) (v : Value) (t : Tr) : Prop := NodesC (fun b => b < w.heap.size) w v t
theorem cell_same {w w' : World} {C : Nat → Prop} (hk : ∀ b, C b → w'.heap[b]? = w.heap[b]?) {a : Addr} (h : C a.block) : w'.cell? a = w.cell? a := World.cell?_of_block (hk _ h)
theorem addr_add_block (a : Addr) (n : Nat) : (a.add n).block = a.block := by unfold Addr.add; split <;> rfl
theorem AttrsC.mono {C C' : Nat → Prop} {w w' : World} {v : Value} {l : List AtL} (h : AttrsC C w v l) (hk : ∀ b, C b → w'.heap[b]? = w.heap[b]?) (hC : ∀ b, C b → C' b) : AttrsC C' w' v l := by
  refine ⟨?_, fun a n c e hl => hC _ (h.2 a n c e hl)⟩
  rcases h.1 with ⟨h1, h2⟩ | ⟨a, cap, rfl, h2, h3, h4⟩
  · exact .inl ⟨h1, h2⟩
  · refine .inr ⟨a, cap, rfl, h2, h3, fun j f hj => ?_⟩
    have hc := h.2 a _ _ rfl (fun e => by rw [e] at hj; cases hj)
    obtain ⟨c1, c2⟩ := h4 j f hj
    exact ⟨(cell_same hk (by rw [addr_add_block]; exact hc)).trans c1, (cell_same hk (by rw [addr_add_block]; exact hc)).trans c2⟩
theorem NodesAt.mono {C C' : Nat → Prop} {w w' : World} (hk : ∀ b, C b → w'.heap[b]? = w.heap[b]?) (hC : ∀ b, C b → C' b) {t : Tr} {a : Addr} (h : NodesAt C w t a) : NodesAt C' w' t a := by
  induction t generalizing a with
  | nil => trivial
  | cons p k r ihk ihr =>
    obtain ⟨h0, h1, h2, ⟨u, h3, h4⟩, ⟨v, h5, h6⟩, h7⟩ := h
    refine ⟨hC _ h0, (cell_same hk h0).trans h1, (cell_same hk (by rw [addr_add_block]; exact h0)).trans h2, ⟨u, (cell_same hk (by rw [addr_add_block]; exact h0)).trans h3, h4.mono hk hC⟩, ⟨v, (cell_same hk (by rw [addr_add_block]; exact h0)).trans h5, ?_⟩, ihr h7⟩
    rcases h6 with h6 | ⟨a', cap, e1, e2, e3, e4⟩
    · exact .inl h6
    · exact .inr ⟨a', cap, e1, e2, e3, ihk e4⟩
theorem NodesC.mono {C C' : Nat → Prop} {w w' : World} {v : Value} {t : Tr} (h : NodesC C w v t) (hk : ∀ b, C b → w'.heap[b]? = w.heap[b]?) (hC : ∀ b, C b → C' b) : NodesC C' w' v t := by
  rcases h with h | ⟨a, cap, h1, h2, h3, h4⟩
  · exact .inl h
  · exact .inr ⟨a, cap, h1, h2, h3, h4.mono hk hC⟩
theorem NodesIn.kept {w w' : World} {v : Value} {t : Tr} (h : NodesIn w v t) (hb : Below w.heap.size w w') : NodesIn w' v t :=
  NodesC.mono h (fun b hlt => hb.block b hlt) (fun b hlt => Nat.lt_of_lt_of_le hlt hb.size)
theorem NodesC.form {C : Nat → Prop} {w : World} {v : Value} {t : Tr} (h : NodesC C w v t) : ∃ a cap, v = .slice a t.len cap := by
  rcases h with ⟨rfl, rfl⟩ | ⟨a, cap, rfl, _⟩
  · exact ⟨_, _, rfl⟩
  · exact ⟨_, _, rfl⟩
theorem NodesC.cap {C : Nat → Prop} {w : World} {A : Option Addr} {n c : Nat} {t : Tr} (h : NodesC C w (.slice A n c) t) : n = t.len ∧ n ≤ c ∧ c ≤ maxLen := by
  rcases h with ⟨h1, rfl⟩ | ⟨a, cap, h1, h2, h3, h4⟩
  · injection h1 with _ h2 h3; subst h2 h3; exact ⟨rfl, Nat.le_refl _, Nat.zero_le _⟩
  · injection h1 with _ e2 e3; subst e2 e3; exact ⟨rfl, h2, h3⟩
theorem NodesC.ofAt {C : Nat → Prop} {w : World} {a : Addr} {c : Nat} {t : Tr} (h : NodesAt C w t a) (h1 : t.len ≤ c) (h2 : c ≤ maxLen) : NodesC C w (.slice (some a) t.len c) t := .inr ⟨a, c, rfl, h1, h2, h⟩
theorem NodesAt.drop {C : Nat → Prop} {w : World} {t : Tr} {a : Addr} (h : NodesAt C w t a) (n : Nat) (hn : n ≤ t.len) : NodesAt C w (Tr.drop n t) (a.add (n * 4)) := by
  induction n generalizing t a with
  | zero => rw [Nat.zero_mul, Addr.add_zero']; exact h
  | succ n ih => cases t with
    | nil => exact absurd hn (Nat.not_succ_le_zero _)
    | cons p k r =>
      have := ih (t := r) h.2.2.2.2.2 (by simp only [Tr.len] at hn; omega)
      rw [Addr.add_add] at this
      rw [show (n + 1) * 4 = 4 + n * 4 by omega]
      exact this
/-- the k-th node's cells -/
theorem NodesC.at {C : Nat → Prop} {w : World} {A : Option Addr} {n cap : Nat} {t : Tr} (h : NodesC C w (.slice A n cap) t) (k : Nat) (p : NdH) (K : Tr) (hk : t.list[k]? = some (p, K)) :
    ∃ a d x y z m, A = some a ∧ C a.block ∧ w.cell? (a.add (k * 4)) = some (.string (str p.name)) ∧ w.cell? { block := (a.add (k * 4)).block, off := (a.add (k * 4)).off + 1 } = some (.slice d p.attrs.length y) ∧ AttrsC C w (.slice d p.attrs.length y) p.attrs ∧
      w.cell? { block := (a.add (k * 4)).block, off := (a.add (k * 4)).off + 2 } = some (.string (str p.text)) ∧ w.cell? { block := (a.add (k * 4)).block, off := (a.add (k * 4)).off + 3 } = some (.slice x m z) ∧ m = K.len ∧ NodesC C w (.slice x m z) K := by
  have hlt : k < t.len := by
    rw [← Tr.len_list]
    rcases Nat.lt_or_ge k t.list.length with h1 | h1
    · exact h1
    · rw [List.getElem?_eq_none h1] at hk; cases hk
  rcases h with ⟨_, rfl⟩ | ⟨a, cap', h1, _, _, h4⟩
  · cases hk
  · injection h1 with h1 _ _
    have hd := h4.drop k (Nat.le_of_lt hlt)
    obtain ⟨p', K', he, hp⟩ := Tr.drop_cons k t hlt
    rw [hk] at hp
    injection hp with hp
    obtain ⟨rfl, rfl⟩ : p = p' ∧ K = K' := by injection hp with e1 e2; exact ⟨e1, e2⟩
    rw [he] at hd
    obtain ⟨g0, g1, g2, ⟨u, g3, g4⟩, ⟨v, g5, g6⟩, _⟩ := hd
    have e1 : ({ block := (a.add (k * 4)).block, off := (a.add (k * 4)).off + 1 } : Addr) = (a.add (k * 4)).add 1 := by rfl
    have e2 : ({ block := (a.add (k * 4)).block, off := (a.add (k * 4)).off + 2 } : Addr) = (a.add (k * 4)).add 2 := by rfl
    have e3 : ({ block := (a.add (k * 4)).block, off := (a.add (k * 4)).off + 3 } : Addr) = (a.add (k * 4)).add 3 := by rfl
    obtain ⟨d, y, rfl⟩ := g4.1.form
    have hN : NodesC C w v K := g6
    obtain ⟨x, z, rfl⟩ := hN.form
    exact ⟨a, d, x, y, z, _, h1, by rw [addr_add_block] at g0; exact g0, g1, by rw [e1]; exact g3, g4, by rw [e2]; exact g2, by rw [e3]; exact g5, rfl, hN⟩
abbrev KidV := (NdH × Tr) × (Value × Value)
def nodeVals (ks : List KidV) : List Value := ks.flatMap fun p => [.string (str p.1.1.name), p.2.1, .string (str p.1.1.text), p.2.2]
theorem nodeVals_length (ls : List KidV) : (nodeVals ls).length = ls.length * 4 := by
  induction ls with
  | nil => rfl
  | cons f r ih => unfold nodeVals at *; rw [List.flatMap_cons, List.length_append, ih]; simp; omega
theorem nodeVals_append (a b : List KidV) : nodeVals (a ++ b) = nodeVals a ++ nodeVals b := by unfold nodeVals; rw [List.flatMap_append]
/-- the kids of one: a row of its own, no block of C; what they hold lies in C -/
structure KRow (C : Nat → Prop) (B : Nat) (v : Value) (ks : List KidV) (w : World) : Prop where
  row : w.ownsRow B 36 4 v ks.length (nodeVals ks)
  each : ∀ q ∈ ks, AttrsC C w q.2.1 q.1.1.attrs ∧ NodesC C w q.2.2 q.1.2
  out : ∀ g, v.ownBlock = some g → ¬ C g
theorem grown_none {w w' : World} (hb : Below w.heap.size w w') : w.grownBy w' none := ⟨hb.os, hb.tape, hb.output, hb.size, fun k hk _ => hb.block k hk⟩
theorem KRow.turned {C : Nat → Prop} {B : Nat} {v : Value} {ks : List KidV} {w w' : World} {row : Option Nat} (h : KRow C B v ks w) (hg : w.grownBy w' row) (hC : ∀ k, C k → k < w.heap.size) (hr : ∀ k, row = some k → ¬ C k) (hne : v.ownBlock = none ∨ v.ownBlock ≠ row) : KRow C B v ks w' := by
  have hk : ∀ b, C b → w'.heap[b]? = w.heap[b]? := fun b hb => hg.block b (hC b hb) (fun e => hr b e.symm hb)
  exact ⟨h.row.kept hg hne, fun q hq => ⟨(h.each q hq).1.mono hk (fun _ x => x), (h.each q hq).2.mono hk (fun _ x => x)⟩, h.out⟩
/-- the kids' row as a row of nodes -/
theorem KRow.nodes {C C' : Nat → Prop} {B : Nat} {v : Value} {ks : List KidV} {w : World} (h : KRow C B v ks w) (hC : ∀ b, C b → C' b) (hv : ∀ k, v.ownBlock = some k → C' k) : NodesC C' w v (Tr.of (ks.map Prod.fst)) := by
  rcases h.row.2 with ⟨rfl, h0⟩ | ⟨g, cap, cur, rfl, hg, hh, h1, h2, h3, h4⟩
  · have := List.eq_nil_of_length_eq_zero h0
    subst this
    exact .inl ⟨rfl, rfl⟩
  · have hl : (Tr.of (ks.map Prod.fst)).len = ks.length := by rw [Tr.len_of, List.length_map]
    refine .inr ⟨⟨g, 0, none⟩, cap, by rw [hl], by rw [hl]; exact h1, h2, ?_⟩
    have hcell : ∀ j u, (nodeVals ks)[j]? = some u → w.cell? ((⟨g, 0, none⟩ : Addr).add j) = some u := h.row.cells (g := g) rfl
    have hCg : C' g := hv g rfl
    have main : ∀ (l pre : List KidV), ks = pre ++ l → NodesAt C' w (Tr.of (l.map Prod.fst)) ((⟨g, 0, none⟩ : Addr).add (pre.length * 4)) := by
      intro l
      induction l with
      | nil => intro pre _; exact trivial
      | cons q l ih =>
        intro pre hpre
        obtain ⟨⟨hd, T⟩, va, vk⟩ := q
        have hat : ∀ j, j < 4 → (nodeVals ks)[pre.length * 4 + j]? = [Value.string (str hd.name), va, .string (str hd.text), vk][j]? := fun j hj => by
          rw [hpre, nodeVals_append, List.getElem?_append_right (by rw [nodeVals_length]; omega), nodeVals_length, show pre.length * 4 + j - pre.length * 4 = j by omega]
          unfold nodeVals
          rw [List.flatMap_cons, List.getElem?_append_left (by simpa using hj)]
        have hm := h.each ((hd, T), (va, vk)) (by rw [hpre]; exact List.mem_append.2 (.inr (List.mem_cons_self ..)))
        have c0 := hcell _ _ (hat 0 (by decide))
        have c1 := hcell _ _ (hat 1 (by decide))
        have c2 := hcell _ _ (hat 2 (by decide))
        have c3 := hcell _ _ (hat 3 (by decide))
        rw [← Addr.add_add] at c1 c2 c3
        refine ⟨by rw [addr_add_block]; exact hCg, c0, c2, ⟨va, c1, hm.1.mono (fun _ _ => rfl) hC⟩, ⟨vk, c3, hm.2.mono (fun _ _ => rfl) hC⟩, ?_⟩
        have := ih (pre ++ [((hd, T), (va, vk))]) (by rw [hpre]; simp)
        rw [List.length_append, Nat.add_mul] at this
        rw [Addr.add_add]
        exact this
    have := main ks [] rfl
    rw [List.length_nil, Nat.zero_mul, Addr.add_zero'] at this
    exact this
theorem info_nd14 : (Try.prog.info? 36).map (fun i => (i.zero, i.size, i.bytes)) = some (some (.agg #[.string ByteArray.empty, .slice none 0 0, .string ByteArray.empty, .slice none 0 0]), 4, 80) := by kernel_rfl
theorem node_row (W : World) (c0 c1 c2 c3 : Value) : (W.alloc (.cells #[c0, c1, c2, c3] 36)).cell? ((⟨W.heap.size, 0, none⟩ : Addr).add 0) = some c0 ∧ (W.alloc (.cells #[c0, c1, c2, c3] 36)).cell? ((⟨W.heap.size, 0, none⟩ : Addr).add 1) = some c1 ∧ (W.alloc (.cells #[c0, c1, c2, c3] 36)).cell? ((⟨W.heap.size, 0, none⟩ : Addr).add 2) = some c2 ∧ (W.alloc (.cells #[c0, c1, c2, c3] 36)).cell? ((⟨W.heap.size, 0, none⟩ : Addr).add 3) = some c3 := by
  have h : (W.alloc (.cells #[c0, c1, c2, c3] 36)).heap[W.heap.size]? = some (.cells #[c0, c1, c2, c3] 36 (0, 0)) := by
    show (W.heap.push _)[W.heap.size]? = _
    exact Array.getElem?_push_size
  exact ⟨by rw [Addr.add_lit, Lib.cell_of_heap h]; rfl, by rw [Addr.add_lit, Lib.cell_of_heap h]; rfl, by rw [Addr.add_lit, Lib.cell_of_heap h]; rfl, by rw [Addr.add_lit, Lib.cell_of_heap h]; rfl⟩
theorem below_one (w : World) (o : Obj) : Below w.heap.size w (w.alloc o) := (Below.refl _ _).alloc (Nat.le_refl _) _
theorem bl_two {w w1 w2 : World} (h : Below w.heap.size w w1) (h2 : Below w1.heap.size w1 w2) : Below w.heap.size w w2 := h.trans (h2.mono h.size)
/-- the nodes of a tree in memory, with the values by which their rows are held -/
theorem nodesAt_vals {C : Nat → Prop} {w : World} {T : Tr} {a : Addr} (h : NodesAt C w T a) : ∃ qs : List KidV, qs.map Prod.fst = T.list ∧ (∀ (j : Nat) u, (nodeVals qs)[j]? = some u → w.cell? (a.add j) = some u) ∧ ∀ q ∈ qs, AttrsC C w q.2.1 q.1.1.attrs ∧ NodesC C w q.2.2 q.1.2 := by
  induction T generalizing a with
  | nil => exact ⟨[], rfl, fun j u hj => (by simp [nodeVals] at hj), fun q hq => (by cases hq)⟩
  | cons f K R ihk ihr =>
    obtain ⟨h0, h1, h2, ⟨u, h3, h4⟩, ⟨v, h5, h6⟩, h7⟩ := h
    obtain ⟨qs, e1, e2, e3⟩ := ihr h7
    refine ⟨((f, K), (u, v)) :: qs, by rw [List.map_cons, e1]; rfl, fun j x hj => ?_, fun q hq => ?_⟩
    · have e : nodeVals (((f, K), (u, v)) :: qs) = .string (str f.name) :: u :: .string (str f.text) :: v :: nodeVals qs := rfl
      rw [e] at hj
      match j, hj with
      | 0, hj => rw [List.getElem?_cons_zero, Option.some.injEq] at hj; subst hj; rw [Addr.add_zero']; exact h1
      | 1, hj => simp only [List.getElem?_cons_succ, List.getElem?_cons_zero, Option.some.injEq] at hj; subst hj; exact h3
      | 2, hj => simp only [List.getElem?_cons_succ, List.getElem?_cons_zero, Option.some.injEq] at hj; subst hj; exact h2
      | 3, hj => simp only [List.getElem?_cons_succ, List.getElem?_cons_zero, Option.some.injEq] at hj; subst hj; exact h5
      | (j + 4), hj =>
        simp only [List.getElem?_cons_succ] at hj
        have := e2 j x hj
        rw [Addr.add_add] at this
        rw [Nat.add_comm j 4]; exact this
    · rcases List.mem_cons.1 hq with rfl | hq
      · exact ⟨h4, h6⟩
      · exact e3 q hq
theorem nodeVals_one (qs : List KidV) (h : ∀ q ∈ qs, q.2.1.oneCell' = true ∧ q.2.2.oneCell' = true) : ∀ u ∈ nodeVals qs, u.oneCell' = true := by
  intro u hu
  unfold nodeVals at hu
  obtain ⟨q, hq, hu⟩ := List.mem_flatMap.1 hu
  obtain ⟨h1, h2⟩ := h q hq
  simp only [List.mem_cons, List.not_mem_nil, or_false] at hu
  rcases hu with rfl | rfl | rfl | rfl
  · rfl
  · exact h1
  · rfl
  · exact h2
theorem KRow.nil (C : Nat → Prop) (B : Nat) (w : World) : KRow C B (.slice none 0 0) [] w := ⟨World.ownsRow_nil w B _ 4, fun q h => (by cases h), fun g e => (by cases e)⟩
theorem KRow.kept {C : Nat → Prop} {B : Nat} {v : Value} {ks : List KidV} {w w' : World} (h : KRow C B v ks w) (hC : ∀ k, C k → k < w.heap.size) (hb : Below w.heap.size w w') : KRow C B v ks w' :=
  h.turned (row := none) (grown_none hb) hC (fun k e => by cases e) (by cases hv : v.ownBlock <;> simp)
theorem KRow.widen {C C' : Nat → Prop} {B : Nat} {v : Value} {ks : List KidV} {w : World} (h : KRow C B v ks w) (hC : ∀ b, C b → C' b) (ho : ∀ g, v.ownBlock = some g → ¬ C' g) : KRow C' B v ks w :=
  ⟨h.row, fun q hq => ⟨(h.each q hq).1.mono (fun _ _ => rfl) hC, (h.each q hq).2.mono (fun _ _ => rfl) hC⟩, ho⟩
theorem KRow.slice {C : Nat → Prop} {B : Nat} {v : Value} {ks : List KidV} {w : World} (h : KRow C B v ks w) : ∃ A c, v = .slice A ks.length c ∧ ks.length ≤ c := by
  rcases h.row.2 with ⟨rfl, h0⟩ | ⟨g, cap, cur, rfl, _, _, h1, _⟩
  · rw [h0]; exact ⟨_, _, rfl, Nat.zero_le _⟩
  · exact ⟨_, _, rfl, h1⟩
theorem attrsC_one {C : Nat → Prop} {w : World} {v : Value} {l : List AtL} (h : AttrsC C w v l) : v.oneCell' = true := by
  obtain ⟨A, c, rfl⟩ := h.1.form; rfl
theorem nodesC_one {C : Nat → Prop} {w : World} {v : Value} {T : Tr} (h : NodesC C w v T) : v.oneCell' = true := by
  obtain ⟨A, c, rfl⟩ := h.form; rfl
theorem run_append_none (w : World) (ty : TypeId) (A : Option Addr) (n c : Nat) (hn : n ≤ c) :
    (Builtin.append_ #[26, 26] ty #[.slice A n c, .slice none 0 0]).run Try.prog w = .ok (.slice A n c) w := by
  obtain ⟨i0, hi, hz0, hz1, hz2⟩ := info_parts info_nd14
  cases A with
  | none => simp [Builtin.append_, run_underlying Try.underlying26, sizeOf, typeInfo, hi, Builtin.lenOf, Builtin.firstCells, hn]
  | some a => simp [Builtin.append_, run_underlying Try.underlying26, sizeOf, typeInfo, hi, Builtin.lenOf, Builtin.firstCells, hn, storeCells]
/-- append(l, t...) where t is given -/
theorem wpList_nodes {ops : Array Oper} {rest : List Oper} {o : Oper} {a : Act} {Q : Exit → Act → World → Prop} {w : World} (hgd : o.guard = none) (s x : Operand)
    (ho : o.op = .call { callee := .builtin .append, args := #[s, x], argTypes := #[26, 26] })
    (C : Nat → Prop) (B : Nat) (v : Value) (ks : List KidV) (hs : a.eval s = v) (hk : KRow C B v ks w) (hC : ∀ k, C k → k < w.heap.size) (hB : B ≤ w.heap.size)
    (u : Value) (hx : a.eval x = u) (T : Tr) (hu : NodesC C w u T) (hlen : ks.length + T.len ≤ 1073741824)
    (h : ∀ v' qs w', KRow C B v' (ks ++ qs) w' → qs.map Prod.fst = T.list → w.grownBy w' v.ownBlock → (v'.ownBlock = v.ownBlock ∨ v'.ownBlock = some w.heap.size) → wpList Try.prog ops Q rest (a.put o.dst v') w') : wpList Try.prog ops Q (o :: rest) a w := by
  obtain ⟨i0, hi, hz0, hz1, hz2⟩ := info_parts info_nd14
  rcases hu with ⟨rfl, rfl⟩ | ⟨ad, cap, rfl, hl1, hl2, hat⟩
  · refine wpList_plain hgd fun K hK => ?_
    obtain ⟨A, c, hv, hnc⟩ := hk.slice
    have hr := run_append_none w o.type A ks.length c hnc
    rw [← hv] at hr
    unfold Oper.wp execOp
    simp only [ho, resolve, invoke, builtin, Sem.run_bind, Sem.run_pure, Result.andThen_ok, List.map_toArray, List.map_cons, List.map_nil, hs, hx, hr]
    exact hK _ _ (h v [] w (by rw [List.append_nil]; exact hk) rfl ⟨rfl, rfl, rfl, Nat.le_refl _, fun _ _ _ => rfl⟩ (.inl rfl))
  · obtain ⟨qs, e1, e2, e3⟩ := nodesAt_vals hat
    have hql : qs.length = T.len := by rw [← Tr.len_list, ← e1, List.length_map]
    refine wpList_append_own2 _ hgd s x 26 ho B 36 i0 (.agg #[.string ByteArray.empty, .slice none 0 0, .string ByteArray.empty, .slice none 0 0]) 4 80 Try.underlying26 hi hz0 hz1 hz2 rfl (by decide) v ks.length (nodeVals ks) hs hk.row ad T.len cap (nodeVals qs) hx (by rw [nodeVals_length, hql]) e2 (nodeVals_one qs fun q hq => ⟨attrsC_one (e3 q hq).1, nodesC_one (e3 q hq).2⟩) (by unfold maxLen; omega) (by omega) hB ?_
    intro v' w' ho' hg hor
    refine h v' qs w' ⟨by rw [nodeVals_append, List.length_append, hql]; exact ho', fun q hq => ?_, fun g hg2 hCg => ?_⟩ e1 hg hor
    · have hkk : ∀ b, C b → w'.heap[b]? = w.heap[b]? := fun b hb => hg.block b (hC b hb) (fun e => hk.out b e.symm hb)
      rcases List.mem_append.1 hq with hq | hq
      · exact ⟨(hk.each q hq).1.mono hkk (fun _ x => x), (hk.each q hq).2.mono hkk (fun _ x => x)⟩
      · exact ⟨(e3 q hq).1.mono hkk (fun _ x => x), (e3 q hq).2.mono hkk (fun _ x => x)⟩
    · rcases hor with e | e
      · exact hk.out g (by rw [← e]; exact hg2) hCg
      · rw [e] at hg2
        injection hg2 with hg2
        exact absurd (hC g hCg) (by omega)
theorem Tr.of_app (a b : List (NdH × Tr)) : Tr.of (a ++ b) = (Tr.of a).app (Tr.of b) := by
  apply Tr.list_inj
  rw [Tr.list_app, Tr.list_of, Tr.list_of, Tr.list_of]
end Go.Proofs.Ytdeaofnhdbhknaa
