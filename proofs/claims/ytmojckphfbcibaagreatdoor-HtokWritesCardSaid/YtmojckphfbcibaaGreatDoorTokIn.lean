/- Rows of api.Token that are given, each with a row of its attributes. No statement is proved here. Own work of the verifier. -/
import Derived.Test.YtmojckphfbcibaaGreatDoorBaseN
namespace Go.Proofs.YtmojckphfbcibaaGreatDoor
open Go.RowKit
set_option linter.unusedVariables false
set_option linter.unusedSimpArgs false
set_option maxRecDepth 100000
/-- a []api.Attr that is given -/
def AttrsIn (w : World) (v : Value) (l : List AtL) : Prop :=
  (v = .slice none 0 0 ∧ l = []) ∨ ∃ a cap, v = .slice (some a) l.length cap ∧ l.length ≤ cap ∧ cap ≤ maxLen ∧
    ∀ j (f : AtL), l[j]? = some f → w.cell? (a.add (j * 2)) = some (.string (str f.1)) ∧ w.cell? (a.add (j * 2 + 1)) = some (.string (str f.2))
theorem AttrsIn.kept {w w' : World} {v : Value} {l : List AtL} (h : AttrsIn w v l) (hb : Below w.heap.size w w') : AttrsIn w' v l := by
  rcases h with h | ⟨a, cap, h1, h2, h3, h4⟩
  · exact .inl h
  · refine .inr ⟨a, cap, h1, h2, h3, fun j f hj => ?_⟩
    obtain ⟨c1, c2⟩ := h4 j f hj
    exact ⟨(hb.cell (World.block_lt_of_cell? _ _ c1)).trans c1, (hb.cell (World.block_lt_of_cell? _ _ c2)).trans c2⟩
theorem AttrsIn.form {w : World} {v : Value} {l : List AtL} (h : AttrsIn w v l) : ∃ a cap, v = .slice a l.length cap := by
  rcases h with ⟨rfl, rfl⟩ | ⟨a, cap, rfl, _⟩
  · exact ⟨_, _, rfl⟩
  · exact ⟨_, _, rfl⟩
theorem AttrsIn.at {w : World} {A : Option Addr} {n cap : Nat} {l : List AtL} (h : AttrsIn w (.slice A n cap) l) (k : Nat) (f : AtL) (hk : l[k]? = some f) :
    ∃ a, A = some a ∧ w.cell? (a.add (k * 2)) = some (.string (str f.1)) ∧ w.cell? { block := (a.add (k * 2)).block, off := (a.add (k * 2)).off + 1 } = some (.string (str f.2)) := by
  rcases h with ⟨_, rfl⟩ | ⟨a, cap', h1, _, _, h4⟩
  · cases hk
  · injection h1 with h1 _ _
    have e3 : ({ block := (a.add (k * 2)).block, off := (a.add (k * 2)).off + 1 } : Addr) = a.add (k * 2 + 1) := by rw [← Addr.add_add]; rfl
    obtain ⟨c1, c2⟩ := h4 k f hk
    exact ⟨a, h1, c1, by rw [e3]; exact c2⟩
theorem attrs_of_row {B : Nat} {w : World} {v : Value} {l : List AtL} (h : w.ownsRow B 35 2 v l.length (atVals l)) : AttrsIn w v l := by
  rcases h.2 with ⟨rfl, h0⟩ | ⟨g, cap, cur, rfl, hg, hh, h1, h2, h3, h4⟩
  · exact .inl ⟨rfl, List.eq_nil_of_length_eq_zero h0⟩
  · refine .inr ⟨⟨g, 0, none⟩, cap, rfl, h1, h2, fun j f hj => ?_⟩
    obtain ⟨c1, c2⟩ := atVals_at hj
    exact ⟨h.cells (g := g) rfl _ _ c1, h.cells (g := g) rfl _ _ c2⟩
/-- a token, of any kind -/
abbrev TokG := Int × TokL
/-- a []api.Token that is given -/
def ToksIn (w : World) (v : Value) (l : List TokG) : Prop :=
  (v = .slice none 0 0 ∧ l = []) ∨ ∃ a cap, v = .slice (some a) l.length cap ∧ l.length ≤ cap ∧ cap ≤ maxLen ∧
    ∀ j (f : TokG), l[j]? = some f → w.cell? (a.add (j * 4)) = some (.int .i64 f.1) ∧ w.cell? (a.add (j * 4 + 1)) = some (.string (str f.2.name)) ∧ w.cell? (a.add (j * 4 + 3)) = some (.string (str f.2.text)) ∧
      ∃ u, w.cell? (a.add (j * 4 + 2)) = some u ∧ AttrsIn w u f.2.attrs
theorem ToksIn.kept {w w' : World} {v : Value} {l : List TokG} (h : ToksIn w v l) (hb : Below w.heap.size w w') : ToksIn w' v l := by
  rcases h with h | ⟨a, cap, h1, h2, h3, h4⟩
  · exact .inl h
  · refine .inr ⟨a, cap, h1, h2, h3, fun j f hj => ?_⟩
    obtain ⟨c1, c2, c3, u, c4, hu⟩ := h4 j f hj
    exact ⟨(hb.cell (World.block_lt_of_cell? _ _ c1)).trans c1, (hb.cell (World.block_lt_of_cell? _ _ c2)).trans c2, (hb.cell (World.block_lt_of_cell? _ _ c3)).trans c3, u, (hb.cell (World.block_lt_of_cell? _ _ c4)).trans c4, hu.kept hb⟩
theorem ToksIn.form {w : World} {v : Value} {l : List TokG} (h : ToksIn w v l) : ∃ a cap, v = .slice a l.length cap := by
  rcases h with ⟨rfl, rfl⟩ | ⟨a, cap, rfl, _⟩
  · exact ⟨_, _, rfl⟩
  · exact ⟨_, _, rfl⟩
theorem ToksIn.at {w : World} {A : Option Addr} {n cap : Nat} {l : List TokG} (h : ToksIn w (.slice A n cap) l) (k : Nat) (f : TokG) (hk : l[k]? = some f) :
    ∃ a d y, A = some a ∧ w.cell? (a.add (k * 4)) = some (.int .i64 f.1) ∧ w.cell? { block := (a.add (k * 4)).block, off := (a.add (k * 4)).off + 1 } = some (.string (str f.2.name)) ∧ w.cell? { block := (a.add (k * 4)).block, off := (a.add (k * 4)).off + 3 } = some (.string (str f.2.text)) ∧
      w.cell? { block := (a.add (k * 4)).block, off := (a.add (k * 4)).off + 2 } = some (.slice d f.2.attrs.length y) ∧ AttrsIn w (.slice d f.2.attrs.length y) f.2.attrs := by
  rcases h with ⟨_, rfl⟩ | ⟨a, cap', h1, _, _, h4⟩
  · cases hk
  · injection h1 with h1 _ _
    have e1 : ({ block := (a.add (k * 4)).block, off := (a.add (k * 4)).off + 1 } : Addr) = a.add (k * 4 + 1) := by rw [← Addr.add_add]; rfl
    have e2 : ({ block := (a.add (k * 4)).block, off := (a.add (k * 4)).off + 2 } : Addr) = a.add (k * 4 + 2) := by rw [← Addr.add_add]; rfl
    have e3 : ({ block := (a.add (k * 4)).block, off := (a.add (k * 4)).off + 3 } : Addr) = a.add (k * 4 + 3) := by rw [← Addr.add_add]; rfl
    obtain ⟨c1, c2, c3, u, c4, hu⟩ := h4 k f hk
    obtain ⟨d, y, rfl⟩ := hu.form
    exact ⟨a, d, y, h1, c1, by rw [e1]; exact c2, by rw [e3]; exact c3, by rw [e2]; exact c4, hu⟩
def gOf (t : TokL) : TokG := ((t.kind : Int), t)
theorem TRow.in {B : Nat} {v : Value} {ls : List TokV} {w : World} (h : TRow B v ls w) : ToksIn w v ((ls.map Prod.fst).map gOf) := by
  rcases h.row.2 with ⟨rfl, h0⟩ | ⟨g, cap, cur, rfl, hg, hh, h1, h2, h3, h4⟩
  · exact .inl ⟨rfl, by rw [List.eq_nil_of_length_eq_zero h0]; rfl⟩
  · refine .inr ⟨⟨g, 0, none⟩, cap, by simp, by simpa using h1, h2, fun j f hj => ?_⟩
    rw [List.map_map, List.getElem?_map] at hj
    obtain ⟨p, hp, rfl⟩ := Option.map_eq_some_iff.1 hj
    obtain ⟨c1, c2, c3, c4⟩ := tokVals_at hp
    have hc : ∀ (i : Nat) (x : Value), (tokVals ls)[i]? = some x → w.cell? ((⟨g, 0, none⟩ : Addr).add i) = some x := fun i x hx => h.row.cells (g := g) rfl _ _ hx
    exact ⟨hc _ _ c1, hc _ _ c2, hc _ _ c4, p.2, hc _ _ c3, attrs_of_row (h.each p (List.mem_of_getElem? hp))⟩
/-- rows that lie whole in a block -/
theorem attrs_lit {w : World} {g : Nat} {T : TypeId} {fz : Nat × Nat} (l : List AtL) (h : w.heap[g]? = some (.cells (atVals l).toArray T fz)) (hl : l.length ≤ maxLen) : AttrsIn w (.slice (some ⟨g, 0, none⟩) l.length l.length) l := by
  refine .inr ⟨⟨g, 0, none⟩, l.length, rfl, Nat.le_refl _, hl, fun j f hj => ?_⟩
  obtain ⟨c1, c2⟩ := atVals_at hj
  have hc : ∀ (i : Nat) (x : Value), (atVals l)[i]? = some x → w.cell? ((⟨g, 0, none⟩ : Addr).add i) = some x := fun i x hx => by
    rw [Addr.add_lit, Lib.cell_of_heap h, List.getElem?_toArray]; simpa using hx
  exact ⟨hc _ _ c1, hc _ _ c2⟩
theorem toks_lit {w : World} {g : Nat} {T : TypeId} {fz : Nat × Nat} {cs : Array Value} (l : List TokG) (h : w.heap[g]? = some (.cells cs T fz)) (hl : l.length ≤ maxLen)
    (he : ∀ j (f : TokG), l[j]? = some f → cs[j * 4]? = some (.int .i64 f.1) ∧ cs[j * 4 + 1]? = some (.string (str f.2.name)) ∧ cs[j * 4 + 3]? = some (.string (str f.2.text)) ∧ ∃ u, cs[j * 4 + 2]? = some u ∧ AttrsIn w u f.2.attrs) :
    ToksIn w (.slice (some ⟨g, 0, none⟩) l.length l.length) l := by
  refine .inr ⟨⟨g, 0, none⟩, l.length, rfl, Nat.le_refl _, hl, fun j f hj => ?_⟩
  obtain ⟨c1, c2, c3, u, c4, hu⟩ := he j f hj
  have hc : ∀ (i : Nat) (x : Value), cs[i]? = some x → w.cell? ((⟨g, 0, none⟩ : Addr).add i) = some x := fun i x hx => by
    rw [Addr.add_lit, Lib.cell_of_heap h]; simpa using hx
  exact ⟨hc _ _ c1, hc _ _ c2, hc _ _ c3, u, hc _ _ c4, hu⟩
theorem attrs_none (w : World) : AttrsIn w (.slice none 0 0) [] := .inl ⟨rfl, rfl⟩
end Go.Proofs.YtmojckphfbcibaaGreatDoor
