/- WALK of stamp.Parse. No statement is proved here. -/
import Derived.Test.YtiojfknphpnlhaaDoorStampK
import Derived.Test.YtiojfknphpnlhaaDoorStampU
import Derived.Test.YtiojfknphpnlhaaDoorStampZ
import Derived.Deep.Cut
import Derived.Deep.DeepCutAuto
import Derived.ArgAppend
namespace Go.Proofs.YtiojfknphpnlhaaDoor
set_option maxRecDepth 100000
open Go.RowKit
set_option linter.unusedVariables false
set_option linter.unusedSimpArgs false

theorem TRow.kept {w0 w w' : World} {v : Value} {T : List (List UInt8)} (h : TRow w0 w v T) (hb : Below w.heap.size w w') : TRow w0 w' v T := by
  obtain ⟨g, off, cap, h1, h2, h3, h4, h5, h6, h7⟩ := h
  refine ⟨g, off, cap, h1, h2, h3, h4, Nat.lt_of_lt_of_le h5 hb.size, fun j hj => ?_, fun j hj => ⟨?_, ?_⟩⟩
  · rw [hb.cell (p := ⟨g, off + j, none⟩) h5]; exact h6 j hj
  · rw [hb.cell (p := ⟨g, off + j, none⟩) h5]; exact (h7 j hj).1
  · rw [hb.frozen (p := ⟨g, off + j, none⟩) h5]; exact (h7 j hj).2
theorem TRow.tail {w0 w : World} {g off cap : Nat} {a : List UInt8} {r : List (List UInt8)} (h : TRow w0 w (.slice (some ⟨g, off, none⟩) (r.length + 1) cap) (a :: r)) (hc : cap ≠ 1) : TRow w0 w (.slice (some ⟨g, off + 1, none⟩) r.length (cap - 1)) r := by
  obtain ⟨g', off', cap', h1, h2, h3, h4, h5, h6, h7⟩ := h
  injection h1 with e1 e2 e3
  injection e1 with e1
  injection e1 with e1 e4
  subst e1; subst e4; subst e3
  rw [List.length_cons] at h2
  refine ⟨g, off + 1, cap - 1, rfl, by omega, by omega, h4, h5, fun j hj => ?_, fun j hj => ?_⟩
  · have := h6 (j + 1) (by simp; omega)
    rw [show off + 1 + j = off + (j + 1) by omega]
    rw [List.getElem_cons_succ] at this
    exact this
  · have := h7 (j + 1) (by omega)
    rw [show off + 1 + j = off + (j + 1) by omega]; exact this
theorem TRow.tail1 {w0 w : World} {g off : Nat} {a : List UInt8} {r : List (List UInt8)} (h : TRow w0 w (.slice (some ⟨g, off, none⟩) (r.length + 1) 1) (a :: r)) : r = [] ∧ TRow w0 w (.slice (some ⟨g, off, none⟩) 0 0) [] := by
  obtain ⟨g', off', cap', h1, h2, h3, h4, h5, h6, h7⟩ := h
  injection h1 with e1 e2 e3
  injection e1 with e1
  injection e1 with e1 e4
  subst e1; subst e4; subst e3
  rw [List.length_cons] at h2
  exact ⟨List.eq_nil_of_length_eq_zero (by omega), g, off, 0, rfl, Nat.le_refl _, Nat.zero_le _, h4, h5, fun j hj => absurd hj (by simp), fun j hj => absurd hj (by omega)⟩
theorem TRow.cellAt {w0 w : World} {g off n cap : Nat} {T : List (List UInt8)} (h : TRow w0 w (.slice (some ⟨g, off, none⟩) n cap) T) (j : Nat) (hj : j < T.length) : w.cell? ⟨g, off + j, none⟩ = some (.string (str T[j])) := by
  obtain ⟨g', off', cap', h1, h2, h3, h4, h5, h6, h7⟩ := h
  injection h1 with e1 e2 e3
  injection e1 with e1
  injection e1 with e1 e4
  subst e1; subst e4
  exact h6 j hj
theorem wpList_trow {ops : Array Oper} {rest : List Oper} {o : Oper} {a : Act} {Q : Exit → Act → World → Prop} (hgd : o.guard = none) (s x : Operand)
    (ho : o.op = .call { callee := .builtin .append, args := #[s, x], argTypes := #[36, 36] })
    (v : Value) (T : List (List UInt8)) (hs : a.eval s = v) (W0 w0 : World) (c : ByteArray) (l : List UInt8) (hcl : c = str l) (hb : TRow W0 w0 v T) (hbl : Below W0.heap.size W0 w0)
    (hx : a.eval x = .slice (some ⟨w0.heap.size, 0, none⟩) 1 1) (hlen : T.length + 1 ≤ 100000)
    (h : ∀ v' w', TRow W0 w' v' (T ++ [l]) → Below W0.heap.size W0 w' → wpList Tryd.prog ops Q rest (a.put o.dst v') w') : wpList Tryd.prog ops Q (o :: rest) a (w0.alloc (.cells #[.string c] 9)) := by
  subst hcl
  obtain ⟨i0, hi, hz0, hz1, hz2⟩ := info_parts info_str
  have hb' := hb.kept ((Below.refl _ w0).alloc (Nat.le_refl _) (.cells #[.string (str l)] 9))
  have hbl' := hbl.alloc hbl.size (.cells #[.string (str l)] 9)
  obtain ⟨g, off, cap, rfl, h2, h3, h4, h5, h6, h7⟩ := hb'
  have hnew : (w0.alloc (.cells #[.string (str l)] 9)).cell? ⟨w0.heap.size, 0, none⟩ = some (.string (str l)) := by rw [World.cell?_alloc_at _ _ _ _ rfl]; rfl
  refine wpList_append_arg _ hgd s x 36 ho 9 i0 (.string ByteArray.empty) 1 16 Tryd.underlying36 hi hz0 hz1 hz2 rfl (by decide) g off T.length cap (T.map fun t => Value.string (str t)) hs (by simp) ?_ ⟨w0.heap.size, 0, none⟩ 1 1 [.string (str l)] hx rfl ?_ ?_ ?_ (by unfold maxLen; omega) (by omega) ?_ ?_
  · intro j u hj
    obtain ⟨hjl, he⟩ := List.getElem?_eq_some_iff.1 hj
    rw [List.length_map] at hjl
    rw [List.getElem_map] at he
    rw [h6 j hjl, he]
  · intro j u hj
    match j, hj with
    | 0, hj => simp at hj; subst hj; exact hnew
    | (j + 1), hj => simp at hj
  · intro u hu; simp at hu; subst hu; rfl
  · intro hr j hj
    obtain rfl : j = 0 := by simpa using hj
    have := h7 T.length (by omega)
    simpa using this
  · intro hr
    have hsome := (h7 T.length (by omega)).1
    refine h _ _ ⟨g, off, cap, by simp, by simp; omega, h3, h4, ?_, fun j hj => ?_, fun j hj => ?_⟩ ?_
    · simpa [World.setCells, World.setCell] using h5
    · rcases Nat.lt_or_ge j T.length with hj1 | hj1
      · rw [World.cell?_setCells_out _ _ _ _ _ (fun _ _ => .inl (by simp; omega)), h6 j hj1, List.getElem_append_left hj1]
      · have hje : j = T.length := by simp at hj; omega
        subst hje
        have := World.cell?_setCells_in g [.string (str l)] (off + T.length * 1) (w0.alloc (.cells #[.string (str l)] 9)) (fun j hj => by
          obtain rfl : j = 0 := by simpa using hj
          simpa using hsome) 0 (by simp)
        simpa using this
    · have hold := h7 j hj
      refine ⟨?_, by rw [World.frozen?_setCells]; exact hold.2⟩
      by_cases hje : j = T.length
      · subst hje
        have := World.cell?_setCells_in g [.string (str l)] (off + T.length * 1) (w0.alloc (.cells #[.string (str l)] 9)) (fun j hj => by
          obtain rfl : j = 0 := by simpa using hj
          simpa using hsome) 0 (by simp)
        simp at this
        simp [this]
      · rw [World.cell?_setCells_out _ _ _ _ _ (fun _ _ => by
          rcases Nat.lt_or_ge j T.length with h | h
          · exact .inl (by simp; omega)
          · exact .inr (by simp; omega))]
        exact hold.1
    · simp only [World.setCells]
      exact hbl'.setCell h4 _
  · intro hg v' w' ho' hgr
    have hle : W0.heap.size ≤ (w0.alloc (.cells #[.string (str l)] 9)).heap.size := hbl'.size
    have hbw : Below W0.heap.size W0 w' := hbl'.grown hgr hle (fun k hk => by cases hk)
    refine h v' w' ?_ hbw
    rcases ho'.2 with ⟨e, h0⟩ | ⟨g', cap', cur, e, hg', hh, hc, hm, hs', ht⟩
    · omega
    · subst e
      refine ⟨g', 0, cap', by simp, by simp; omega, hm, by omega, (Array.getElem?_eq_some_iff.1 hh).1, fun j hj => ?_, fun j hj => ⟨?_, ?_⟩⟩
      · rw [Nat.zero_add, cell_of_row w' g' j cur _ _ hh]
        have e2 := congrArg (fun l => l[j]?) ht
        simp only [List.length_append, List.length_cons, List.length_nil] at hj
        simp only [List.getElem?_take_of_lt (show j < (T.length + 1) * 1 by omega), Array.getElem?_toList] at e2
        rw [e2]
        rw [show (T.map fun t => Value.string (str t)) ++ [Value.string (str l)] = (T ++ [l]).map fun t => Value.string (str t) by simp, List.getElem?_map, List.getElem?_eq_getElem (by simp; omega)]
        rfl
      · rw [Nat.zero_add, cell_of_row w' g' j cur _ _ hh, Array.getElem?_eq_getElem (by omega)]; rfl
      · simp [World.frozen?, hh]
end Go.Proofs.YtiojfknphpnlhaaDoor
