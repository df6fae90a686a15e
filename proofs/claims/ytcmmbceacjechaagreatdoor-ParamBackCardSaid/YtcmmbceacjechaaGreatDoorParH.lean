/- WALK of param.readRaws. No statement is proved here. -/
import Derived.Test.YtcmmbceacjechaaGreatDoorParB
import Derived.Test.YtcmmbceacjechaaGreatDoorParG
import Derived.Deep.RegionLaw
namespace Go.Proofs.YtcmmbceacjechaaGreatDoor
open Go.RowKit
set_option linter.unusedVariables false
set_option linter.unusedSimpArgs false
set_option maxRecDepth 100000
/-- what is read of pieces: the names in their order, the raw values by their raw names, the names that are there already -/
abbrev RawSt := List (List UInt8) × ValF × (List UInt8 → Option Bool)
def rawStep (st : RawSt) (p : List UInt8) : RawSt :=
  if (st.2.1 (tsL (beforeC 61 p))).isSome = true ∨ hasC 61 p = false ∨ tsL (beforeC 61 p) = [] then st
  else if (st.2.2 (beforeC 42 (tsL (beforeC 61 p)))).getD false = true then (st.1, putF st.2.1 (tsL (beforeC 61 p)) (rvL (afterC 61 p)), st.2.2)
  else (st.1 ++ [beforeC 42 (tsL (beforeC 61 p))], putF st.2.1 (tsL (beforeC 61 p)) (rvL (afterC 61 p)), putF st.2.2 (beforeC 42 (tsL (beforeC 61 p))) true)
def raw0 : RawSt := ([], fun _ => none, putF (fun _ => none) [] true)
def rawsL (ps : List (List UInt8)) : RawSt := ps.foldl rawStep raw0
/-- the reading's variables in memory: r in block rb, its map bm, the names that are there in bs; the result's block R -/
structure RawAt (B : Nat) (W0 : World) (R rb bm bs k : Nat) (st : RawSt) (w : World) : Prop where
  r : ∃ v ns, w.heap[rb]? = some (.cells #[v, .map (some bm)] 60 (0, 0)) ∧ SBuf B v ns W0 w ∧ ns.map (fun x => x.data.toList) = st.1 ∧ ns.length ≤ k
  m : ∃ n, n ≤ k ∧ TMap w bm n st.2.1
  s : ∃ n, n ≤ k + 1 ∧ BMap w bs n st.2.2
  z : w.heap[R]? = some (.cells #[.slice none 0 0, .map none] 60 (0, 0))
  lo : B ≤ R ∧ B ≤ rb ∧ B ≤ bm ∧ B ≤ bs ∧ bm ≠ bs ∧ rb ≠ R
theorem cells_map_ne {w : World} {a b : Nat} {cs : Array Value} {t : TypeId} {fr : Nat × Nat} {es : Array MapEntry} {c : Nat} (h1 : w.heap[a]? = some (.cells cs t fr)) (h2 : w.heap[b]? = some (.map es c)) : a ≠ b := by
  rintro rfl
  rw [h1] at h2; cases h2
section
variable {B R rb bm bs k : Nat} {W0 w w' : World} {st : RawSt}
theorem RawAt.kept (h : RawAt B W0 R rb bm bs k st w) (hb : Below w.heap.size w w') : RawAt B W0 R rb bm bs k st w' := by
  obtain ⟨v, ns, h1, h2, h3⟩ := h.r
  obtain ⟨n1, m1, m2⟩ := h.m
  obtain ⟨n2, s1, s2⟩ := h.s
  exact ⟨⟨v, ns, (hb.block rb (lt_of_block h1)).trans h1, h2.kept hb, h3⟩, ⟨n1, m1, m2.kept hb⟩, ⟨n2, s1, s2.kept hb⟩, (hb.block R (lt_of_block h.z)).trans h.z, h.lo⟩
theorem RawAt.drewN (h : RawAt B W0 R rb bm bs k st w) (q : Nat) : RawAt B W0 R rb bm bs k st (w.drewN q) := h.kept ⟨rfl, rfl, rfl, Nat.le_refl _, fun _ _ => rfl⟩
theorem RawAt.below (h : RawAt B W0 R rb bm bs k st w) : Below B W0 w := by
  obtain ⟨v, ns, h1, h2, h3⟩ := h.r
  exact h2.2.1
theorem RawAt.c1 (h : RawAt B W0 R rb bm bs k st w) : w.cell? ⟨rb, 1, none⟩ = some (.map (some bm)) := by
  obtain ⟨v, ns, h1, h2, h3⟩ := h.r
  have := cell_of_row w rb 1 _ _ (0, 0) h1
  rw [this]; rfl
theorem RawAt.mono (h : RawAt B W0 R rb bm bs k st w) : RawAt B W0 R rb bm bs (k + 1) st w := by
  obtain ⟨v, ns, h1, h2, h3, h4⟩ := h.r
  obtain ⟨n1, m1, m2⟩ := h.m
  obtain ⟨n2, s1, s2⟩ := h.s
  exact ⟨⟨v, ns, h1, h2, h3, by omega⟩, ⟨n1, by omega, m2⟩, ⟨n2, by omega, s2⟩, h.z, h.lo⟩
theorem sbuf_turned {b : Nat} {v : Value} {ns : List ByteArray} (h : SBuf B v ns W0 w) (hB : B ≤ b) {es : Array MapEntry} {c : Nat} (hb : w.heap[b]? = some (.map es c)) (ht : Turned b w w') : SBuf B v ns W0 w' := by
  refine ⟨?_, h.2.1.trans (ht.2.2 B hB), by rw [← ht.1]; exact h.2.2⟩
  refine h.1.kept (row := some b) ⟨(ht.2.2 B hB).os, (ht.2.2 B hB).tape, (ht.2.2 B hB).output, Nat.le_of_eq ht.1, fun i hi hne => ht.2.1 i (fun e => hne (by rw [e]))⟩ ?_
  rcases h.1.2 with ⟨rfl, _⟩ | ⟨g, cap, cur, rfl, _, hh, _⟩
  · simp [Value.ownBlock]
  · have := cells_map_ne hh hb
    simp [Value.ownBlock, this]
/-- a raw value more -/
theorem RawAt.putM {f' : ValF} {n' : Nat} (h : RawAt B W0 R rb bm bs k st w) (ht : Turned bm w w') (hm : TMap w' bm n' f') (hn : n' ≤ k + 1) : RawAt B W0 R rb bm bs (k + 1) (st.1, f', st.2.2) w' := by
  obtain ⟨l1, l2, l3, l4, l5, l6⟩ := h.lo
  obtain ⟨v, ns, h1, h2, h3, h4⟩ := h.r
  obtain ⟨n1, m1, m2⟩ := h.m
  obtain ⟨n2, s1, s2⟩ := h.s
  obtain ⟨es, c, hes⟩ := m2.is
  exact ⟨⟨v, ns, (ht.2.1 rb (cells_map_ne h1 hes)).trans h1, sbuf_turned h2 l3 hes ht, h3, by omega⟩, ⟨n', hn, hm⟩, ⟨n2, by omega, s2.same (ht.2.1 bs (Ne.symm l5))⟩, (ht.2.1 R (cells_map_ne h.z hes)).trans h.z, h.lo⟩
/-- a name that is there -/
theorem RawAt.putS {g' : List UInt8 → Option Bool} {n' : Nat} (h : RawAt B W0 R rb bm bs k st w) (ht : Turned bs w w') (hm : BMap w' bs n' g') (hn : n' ≤ k + 1) : RawAt B W0 R rb bm bs k (st.1, st.2.1, g') w' := by
  obtain ⟨l1, l2, l3, l4, l5, l6⟩ := h.lo
  obtain ⟨v, ns, h1, h2, h3, h4⟩ := h.r
  obtain ⟨n1, m1, m2⟩ := h.m
  obtain ⟨n2, s1, s2⟩ := h.s
  obtain ⟨es, c, hes⟩ := s2.is
  exact ⟨⟨v, ns, (ht.2.1 rb (cells_map_ne h1 hes)).trans h1, sbuf_turned h2 l4 hes ht, h3, h4⟩, ⟨n1, m1, m2.same (ht.2.1 bm l5)⟩, ⟨n', hn, hm⟩, (ht.2.1 R (cells_map_ne h.z hes)).trans h.z, h.lo⟩
end
end Go.Proofs.YtcmmbceacjechaaGreatDoor
