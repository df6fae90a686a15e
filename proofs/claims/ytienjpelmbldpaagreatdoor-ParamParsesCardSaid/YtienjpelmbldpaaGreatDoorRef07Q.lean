/- PURE: what the reference of layer 7 reads is what param reads. No statement is proved here. -/
import Derived.Test.YtienjpelmbldpaaGreatDoorParP
import Derived.Test.YtienjpelmbldpaaGreatDoorParL
namespace Go.Proofs.YtienjpelmbldpaaGreatDoor
open Go.RowKit
set_option linter.unusedVariables false
set_option linter.unusedSimpArgs false
set_option maxRecDepth 100000
/-- the parameter that a piece is, as it is written -/
def rlStep (p : List UInt8) : Option ParL := if hasC 61 p = true ∧ tsL (beforeC 61 p) ≠ [] then some (tsL (beforeC 61 p), rvL (afterC 61 p)) else none
def rlL (ps : List (List UInt8)) : List ParL := ps.filterMap rlStep
def baseL (e : ParL) : List UInt8 := beforeC 42 e.1
def namesAt (l : List ParL) : Nat → List (List UInt8)
  | 0 => []
  | k + 1 => namesAt l k ++ (match l[k]? with | some e => if baseL e = [] ∨ baseL e ∈ (l.take k).map baseL then [] else [baseL e] | none => [])
def outAt (l : List ParL) : Nat → List ParL
  | 0 => []
  | k + 1 => outAt l k ++ (match l[k]? with | some e => if baseL e = [] ∨ baseL e ∈ (l.take k).map baseL then [] else (match valN (getP l) (baseL e) with | some v => [(baseL e, v)] | none => []) | none => [])
theorem outAt_succ {l : List ParL} {k : Nat} {e : ParL} (h : l[k]? = some e) : outAt l (k + 1) = outAt l k ++ (if baseL e = [] ∨ baseL e ∈ (l.take k).map baseL then [] else (match valN (getP l) (baseL e) with | some v => [(baseL e, v)] | none => [])) := by
  rw [outAt, h]
theorem outL_app (f : ValF) (a b : List (List UInt8)) : outL f (a ++ b) = outL f a ++ outL f b := by unfold outL; rw [List.filterMap_append]
theorem outAt_names (l : List ParL) (k : Nat) : outAt l k = outL (getP l) (namesAt l k) := by
  induction k with
  | zero => rfl
  | succ k ih =>
    rw [outAt, namesAt, outL_app, ih]
    congr 1
    cases l[k]? with
    | none => rfl
    | some e =>
      simp only
      split
      · rfl
      · unfold outL
        simp only [List.filterMap_cons, List.filterMap_nil]
        cases valN (getP l) (baseL e) <;> rfl
theorem namesAt_pre (l m : List ParL) (k : Nat) (hk : k ≤ l.length) : namesAt (l ++ m) k = namesAt l k := by
  induction k with
  | zero => rfl
  | succ k ih =>
    rw [namesAt, namesAt, ih (by omega), List.getElem?_append_left (by omega), List.take_append_of_le_length (by omega)]
theorem getP_snoc (l : List ParL) (e : ParL) (k : List UInt8) : getP (l ++ [e]) k = match getP l k with | some x => some x | none => if e.1 = k then some e.2 else none := by
  unfold getP
  rw [List.find?_append]
  cases h : l.find? (fun p => p.1 == k) with
  | some q => rfl
  | none =>
    simp only [Option.none_or, Option.map_none]
    by_cases hk : e.1 = k
    · rw [List.find?_cons_of_pos (by simpa using hk), if_pos hk]; rfl
    · rw [List.find?_cons_of_neg (by simpa using hk), if_neg hk]; rfl
theorem getP_mem {l : List ParL} {k x : List UInt8} (h : getP l k = some x) : (k, x) ∈ l := by
  unfold getP at h
  cases hf : l.find? (fun p => p.1 == k) with
  | none => rw [hf] at h; cases h
  | some q =>
    rw [hf] at h
    injection h with h
    have h1 := List.find?_some hf
    have h2 := List.mem_of_find?_eq_some hf
    have h3 : q.1 = k := by simpa using h1
    rw [← h3, ← h]; exact h2
theorem getP_ents (l : List ParL) : Ents (getP l) l := fun k x h => getP_mem h
structure InvQ (L : List ParL) (st : RawSt) : Prop where
  names : st.1 = namesAt L L.length
  vals : ∀ k, st.2.1 k = getP L k
  seen : ∀ y, (st.2.2 y).getD false = true ↔ (y = [] ∨ y ∈ L.map baseL)
theorem rawStep_q {L : List ParL} {st : RawSt} (h : InvQ L st) (p : List UInt8) : InvQ (L ++ (match rlStep p with | some e => [e] | none => [])) (rawStep st p) := by
  obtain ⟨h1, h2, h3⟩ := h
  by_cases hc : hasC 61 p = true ∧ tsL (beforeC 61 p) ≠ []
  · have er : rlStep p = some (tsL (beforeC 61 p), rvL (afterC 61 p)) := if_pos hc
    rw [er]
    obtain ⟨c1, c2⟩ := hc
    obtain ⟨K, hK⟩ : ∃ K, K = tsL (beforeC 61 p) := ⟨_, rfl⟩
    obtain ⟨V, hV⟩ : ∃ V, V = rvL (afterC 61 p) := ⟨_, rfl⟩
    unfold rawStep
    rw [← hK] at c2
    rw [← hK, ← hV]
    have hb : baseL (K, V) = beforeC 42 K := rfl
    have hnames : ∀ x, (if baseL (K, V) = [] ∨ baseL (K, V) ∈ L.map baseL then ([] : List (List UInt8)) else [baseL (K, V)]) = x → namesAt (L ++ [(K, V)]) (L ++ [(K, V)]).length = st.1 ++ x := by
      intro x hx
      rw [List.length_append, List.length_singleton, namesAt, namesAt_pre L _ _ (Nat.le_refl _), ← h1]
      rw [show (L ++ [(K, V)])[L.length]? = some (K, V) by simp]
      rw [show (L ++ [(K, V)]).take L.length = L from List.take_left]
      rw [← hx]
    cases hg : getP L K with
    | some x =>
      have hin : baseL (K, V) ∈ L.map baseL := List.mem_map.2 ⟨(K, x), getP_mem hg, rfl⟩
      rw [if_pos (.inl (by rw [h2, hg]; rfl))]
      refine ⟨?_, fun k => ?_, fun y => ?_⟩
      · rw [hnames [] (if_pos (.inr hin)), List.append_nil]
      · rw [h2, getP_snoc]
        cases hk : getP L k with
        | some _ => rfl
        | none =>
          simp only
          rw [if_neg]
          intro e
          rw [← show K = k from e, hg] at hk; cases hk
      · rw [h3]
        constructor
        · rintro (h | h)
          · exact .inl h
          · exact .inr (by rw [List.map_append]; exact List.mem_append_left _ h)
        · rintro (h | h)
          · exact .inl h
          · rw [List.map_append] at h
            rcases List.mem_append.1 h with h | h
            · exact .inr h
            · simp only [List.map_cons, List.map_nil, List.mem_singleton] at h
              rw [h]; exact .inr hin
    | none =>
      have hvals : ∀ k, putF st.2.1 K V k = getP (L ++ [(K, V)]) k := fun k => by
        rw [getP_snoc]
        unfold putF
        by_cases hk : k = K
        · subst hk
          rw [if_pos rfl, hg]
          simp
        · rw [if_neg hk, h2]
          cases getP L k with
          | some _ => rfl
          | none => simp only; rw [if_neg (fun e => hk e.symm)]
      rw [if_neg (by
        rintro (h | h | h)
        · rw [h2, hg] at h; cases h
        · rw [c1] at h; cases h
        · exact c2 h)]
      by_cases hs : (st.2.2 (beforeC 42 K)).getD false = true
      · have hs2 := (h3 _).1 hs
        rw [if_pos hs]
        refine ⟨?_, hvals, fun y => ?_⟩
        · rw [hnames [] (if_pos hs2), List.append_nil]
        · show (st.2.2 y).getD false = true ↔ _
          rw [h3]
          constructor
          · rintro (h | h)
            · exact .inl h
            · exact .inr (by rw [List.map_append]; exact List.mem_append_left _ h)
          · rintro (h | h)
            · exact .inl h
            · rw [List.map_append] at h
              rcases List.mem_append.1 h with h | h
              · exact .inr h
              · simp only [List.map_cons, List.map_nil, List.mem_singleton] at h
                rw [h]; exact hs2
      · rw [if_neg hs]
        have hs2 : ¬ (baseL (K, V) = [] ∨ baseL (K, V) ∈ L.map baseL) := fun e => hs ((h3 _).2 e)
        refine ⟨?_, hvals, fun y => ?_⟩
        · exact (hnames [baseL (K, V)] (if_neg hs2)).symm
        · show (putF st.2.2 (beforeC 42 K) true y).getD false = true ↔ _
          unfold putF
          by_cases hy : y = beforeC 42 K
          · rw [if_pos hy]
            constructor
            · intro _
              exact .inr (by rw [List.map_append]; refine List.mem_append_right _ ?_; simp [hy, hb])
            · intro _; rfl
          · rw [if_neg hy, h3]
            constructor
            · rintro (h | h)
              · exact .inl h
              · exact .inr (by rw [List.map_append]; exact List.mem_append_left _ h)
            · rintro (h | h)
              · exact .inl h
              · rw [List.map_append] at h
                rcases List.mem_append.1 h with h | h
                · exact .inr h
                · simp only [List.map_cons, List.map_nil, List.mem_singleton] at h
                  exact absurd h hy
  · have er : rlStep p = none := if_neg hc
    rw [er]
    simp only [List.append_nil]
    have e : rawStep st p = st := by
      unfold rawStep
      rw [if_pos]
      by_cases h1 : hasC 61 p = true
      · refine .inr (.inr (Classical.byContradiction fun h2 => hc ⟨h1, h2⟩))
      · exact .inr (.inl (by simpa using h1))
    rw [e]
    exact ⟨h1, h2, h3⟩
theorem rawFold_q (ps : List (List UInt8)) : ∀ (L : List ParL) (st : RawSt), InvQ L st → InvQ (L ++ rlL ps) (ps.foldl rawStep st) := by
  induction ps with
  | nil => intro L st h; show InvQ (L ++ []) st; rw [List.append_nil]; exact h
  | cons p r ih =>
    intro L st h
    have h1 := ih _ _ (rawStep_q h p)
    rw [List.foldl_cons]
    have e : L ++ rlL (p :: r) = (L ++ (match rlStep p with | some e => [e] | none => [])) ++ rlL r := by
      unfold rlL
      rw [List.filterMap_cons]
      cases rlStep p <;> simp
    rw [e]; exact h1
theorem rawsL_q (ps : List (List UInt8)) : InvQ (rlL ps) (rawsL ps) := by
  have := rawFold_q ps [] raw0 ⟨rfl, fun k => rfl, fun y => by
    unfold raw0 putF
    by_cases hy : y = []
    · simp [hy]
    · simp [hy]⟩
  rw [List.nil_append] at this
  exact this
/-- what the reference reads -/
theorem pars_ref (s : List UInt8) : parsP s = (tsL ((pcL [] s).headD []), outAt (rlL (pcL [] s).tail) (rlL (pcL [] s).tail).length) := by
  unfold parsP
  have h := rawsL_q (pcL [] s).tail
  have hf : (rawsL (pcL [] s).tail).2.1 = getP (rlL (pcL [] s).tail) := funext h.vals
  rw [h.names, hf, outAt_names]
theorem rlStep_sizes {p : List UInt8} {e : ParL} (h : rlStep p = some e) : e.1.length ≤ p.length ∧ e.2.length + 1 ≤ p.length + 1 ∧ e.1 ≠ [] := by
  unfold rlStep at h
  split at h
  · rename_i hc
    injection h with h
    subst h
    have h1 := tsL_length (beforeC 61 p)
    have h2 := beforeC_length 61 p
    have h3 := rvL_length (afterC 61 p)
    have h4 := afterC_length 61 p
    refine ⟨by simp only; omega, by simp only; omega, hc.2⟩
  · cases h
theorem rlL_sizes (ps : List (List UInt8)) : wAll (rlL ps) ≤ wPs ps ∧ (rlL ps).length ≤ ps.length ∧ ∀ e ∈ rlL ps, e.1.length ≤ wPs ps ∧ e.2.length ≤ wPs ps := by
  induction ps with
  | nil => exact ⟨Nat.le_refl _, Nat.le_refl _, fun e h => (by cases h)⟩
  | cons p r ih =>
    obtain ⟨h1, h2, h3⟩ := ih
    rw [wPs_cons]
    have e : rlL (p :: r) = (match rlStep p with | some e => [e] | none => []) ++ rlL r := by
      unfold rlL
      rw [List.filterMap_cons]
      cases rlStep p <;> simp
    rw [e]
    cases hp : rlStep p with
    | none =>
      simp only [List.nil_append, List.length_cons]
      exact ⟨by omega, by omega, fun e he => by have := h3 e he; omega⟩
    | some x =>
      obtain ⟨g1, g2, _⟩ := rlStep_sizes hp
      have hw : wAll ([x] ++ rlL r) = x.2.length + 1 + wAll (rlL r) := rfl
      simp only at hw ⊢
      refine ⟨by rw [hw]; omega, by simp; omega, fun e he => ?_⟩
      rcases List.mem_append.1 he with he | he
      · rw [List.mem_singleton] at he; subst he; exact ⟨by omega, by omega⟩
      · have := h3 e he; omega
end Go.Proofs.YtienjpelmbldpaaGreatDoor
