/- WALK of param.Write. No statement is proved here. -/
import Derived.Test.YtienjpelmbldpaaGreatDoorParL
import Derived.Test.YtienjpelmbldpaaGreatDoorBaseO
namespace Go.Proofs.YtienjpelmbldpaaGreatDoor
open Go.RowKit
set_option linter.unusedVariables false
set_option linter.unusedSimpArgs false
set_option maxRecDepth 100000
theorem BMap.km {w w' : World} {b n : Nat} {f : List UInt8 → Option Bool} (h : BMap w b n f) (hk : KM w w') : BMap w' b n f := by
  obtain ⟨es, c, e⟩ := h.is
  exact h.same ((hk b es c e).trans e.symm)
theorem Bld.turned {B b m n : Nat} {f : List UInt8 → Option Bool} {l : List UInt8} {W0 w w' : World} (h : Bld B b l W0 w) (hm : BMap w m n f) (hB : B ≤ m) (ht : Turned m w w') : Bld B b l W0 w' := by
  obtain ⟨h1, h2, h3⟩ := h
  obtain ⟨es, c, e⟩ := hm.is
  have hbl := ht.2.2 B hB
  refine ⟨?_, h2.trans hbl, Nat.le_trans h3 hbl.size⟩
  have key : ∀ p, Lib.BuilderAt 52 5 B b p (cellsOf l) w → Lib.BuilderAt 52 5 B b p (cellsOf l) w' := by
    intro p h
    obtain ⟨hB2, v, hbk, hown, hne⟩ := h
    have hbm : b ≠ m := by rintro rfl; rw [hbk] at e; cases e
    have hvm : v.ownBlock ≠ some m := by
      rcases hown.2 with ⟨rfl, _⟩ | ⟨g, cap, cur, rfl, _, hh, _⟩
      · simp [Value.ownBlock]
      · intro he
        have e1 : g = m := by simpa [Value.ownBlock] using he
        subst e1
        rw [hh] at e; cases e
    exact ⟨hB2, v, (ht.2.1 b hbm).trans hbk, hown.kept (row := some m) ⟨hbl.os, hbl.tape, hbl.output, hbl.size, fun k _ hk => ht.2.1 k (fun e => hk (by rw [e]))⟩ (Or.inr hvm), hne⟩
  rcases h1 with h | h
  · exact .inl (key _ h)
  · exact .inr (key _ h)
/-- may the rest of the parameters be written behind these names? -/
def okPs (seen : List (List UInt8)) : List ParL → Bool
  | [] => true
  | p :: l => (nameB p.1 && !decide (p.1 ∈ seen) && !ctlL p.2) && okPs (seen ++ [p.1]) l
def parT (p : ParL) : List UInt8 := [59, 32] ++ p.1 ++ wrL p.2
def parTs (l : List ParL) : List UInt8 := (l.map parT).flatten
/-- what Write gives -/
def wrP (main : List UInt8) (l : List ParL) : List UInt8 × Int := if mainB main && okPs [] l then (main ++ parTs l, 0) else ([], 1)
def seenF (l : List ParL) : List UInt8 → Option Bool := fun y => if y ∈ l.map (·.1) then some true else none
theorem seenF_snoc (l : List ParL) (p : ParL) : putF (seenF l) p.1 true = seenF (l ++ [p]) := by
  funext y
  unfold putF seenF
  by_cases h : y = p.1
  · simp [h]
  · have e : (y ∈ (l ++ [p]).map (·.1)) ↔ y ∈ l.map (·.1) := by simp [h]
    rw [if_neg h]
    simp only [e]
theorem seenF_get (l : List ParL) (y : List UInt8) : (seenF l y).getD false = decide (y ∈ l.map (·.1)) := by
  unfold seenF
  by_cases h : y ∈ l.map (·.1) <;> simp only [h, if_true, if_false, decide_true, decide_false, Option.getD]
def WrS (B : Nat) (W0 : World) (b m k : Nat) (acc : List UInt8) (f : List UInt8 → Option Bool) (w : World) : Prop := Bld B b acc W0 w ∧ (∃ n, n ≤ k ∧ BMap w m n f) ∧ B ≤ m
theorem WrS.below {B : Nat} {W0 : World} {b m k : Nat} {acc : List UInt8} {f : List UInt8 → Option Bool} {w : World} (h : WrS B W0 b m k acc f w) : Below B W0 w := h.1.2.1
theorem WrS.size {B : Nat} {W0 : World} {b m k : Nat} {acc : List UInt8} {f : List UInt8 → Option Bool} {w : World} (h : WrS B W0 b m k acc f w) : B ≤ w.heap.size := h.1.2.2
theorem WrS.kept {B : Nat} {W0 : World} {b m k : Nat} {acc : List UInt8} {f : List UInt8 → Option Bool} {w w' : World} (h : WrS B W0 b m k acc f w) (hb : Below w.heap.size w w') : WrS B W0 b m k acc f w' := by
  obtain ⟨h1, ⟨n, h2, h3⟩, h4⟩ := h
  exact ⟨h1.kept hb, ⟨n, h2, h3.kept hb⟩, h4⟩
theorem wrS_start (w w1 : World) (hb : Below w.heap.size w w1) : WrS w.heap.size w (w1.heap.size + 1) w1.heap.size 0 [] (seenF []) ((w1.alloc (.map #[] 0)).alloc (.cells #[.pointer none, .slice none 0 0] 52)) := by
  have h1 := Bld.new (B := w.heap.size) (W0 := w) (w := w1.alloc (.map #[] 0)) (hb.alloc hb.size _) (by rw [World.size_alloc]; exact Nat.le_succ_of_le hb.size)
  rw [World.size_alloc] at h1
  refine ⟨h1, ⟨0, Nat.le_refl _, ?_⟩, hb.size⟩
  have := (BMap.made w1).kept ((Below.refl _ (w1.alloc (.map #[] 0))).alloc (Nat.le_refl _) (.cells #[.pointer none, .slice none 0 0] 52))
  have e : seenF [] = fun _ => none := by funext y; simp [seenF]
  rw [e]; exact this
theorem WrS.wrote {B : Nat} {W0 : World} {b m k : Nat} {acc acc' : List UInt8} {f : List UInt8 → Option Bool} {w w' : World} (h : WrS B W0 b m k acc f w) (h1 : Bld B b acc' W0 w') (hk : KM w w') : WrS B W0 b m k acc' f w' := by
  obtain ⟨_, ⟨n, h2, h3⟩, h4⟩ := h
  exact ⟨h1, ⟨n, h2, h3.km hk⟩, h4⟩
theorem WrS.put {B : Nat} {W0 : World} {b m k : Nat} {acc : List UInt8} {f : List UInt8 → Option Bool} {w : World} (h : WrS B W0 b m k acc f w) (hk : k ≤ 1000000) (s : ByteArray) (hs : s.size ≤ 1048576) :
    ∃ w', (Instr.mapUpdate 48 (.map (some m)) (.string s) (.bool true)).run Tryz.prog w = .ok () w' ∧ WrS B W0 b m (k + 1) acc (putF f s.data.toList true) w' ∧ Turned m w w' := by
  obtain ⟨h1, ⟨n, h2, h3⟩, h4⟩ := h
  have hml : (1000000 : Nat) < maxLen ∧ (1048576 : Nat) ≤ maxLen := by decide
  obtain ⟨w', r1, r2, r3⟩ := h3.put (Nat.lt_of_le_of_lt (Nat.le_trans h2 hk) hml.1) s true (Nat.le_trans hs hml.2)
  exact ⟨w', r1, ⟨h1.turned h3 h4 r3, ⟨n + 1, by omega, r2⟩, h4⟩, r3⟩
theorem WrS.look {B : Nat} {W0 : World} {b m k : Nat} {acc : List UInt8} {f : List UInt8 → Option Bool} {w : World} (h : WrS B W0 b m k acc f w) (s : ByteArray) (hs : s.size ≤ 1048576) :
    (Instr.lookup 48 (.map (some m)) (.string s) false).run Tryz.prog w = .ok (.bool ((f s.data.toList).getD false)) w := by
  obtain ⟨h1, ⟨n, h2, h3⟩, h4⟩ := h
  exact h3.look s (Nat.le_trans hs (by decide))
theorem parTs_take (l : List ParL) (k : Nat) (p : ParL) (h : l[k]? = some p) : parTs (l.take (k + 1)) = parTs (l.take k) ++ ([59, 32] ++ p.1 ++ wrL p.2) := by
  unfold parTs
  rw [List.take_add_one, h, List.map_append, List.flatten_append]
  simp [parT]
theorem parTs_le (l : List ParL) (k : Nat) : (parTs (l.take k)).length ≤ (parTs l).length := by
  have h : parTs l = parTs (l.take k) ++ parTs (l.drop k) := by
    unfold parTs
    rw [← List.flatten_append, ← List.map_append, List.take_append_drop]
  rw [h, List.length_append]; omega
end Go.Proofs.YtienjpelmbldpaaGreatDoor
