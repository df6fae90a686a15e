/- PURE: of parameters that are read each name stands once. No statement is proved here. -/
import Derived.Test.YtienjpelmbldpaaGreatDoorParP
namespace Go.Proofs.YtienjpelmbldpaaGreatDoor
open Go.RowKit
set_option linter.unusedVariables false
set_option linter.unusedSimpArgs false
set_option maxRecDepth 100000
def GoodC (c : UInt8) : Prop := c ≠ 42 ∧ ¬(65 ≤ c.toNat ∧ c.toNat ≤ 90)
theorem lowC_small (c : UInt8) : ¬(65 ≤ (lowC c).toNat ∧ (lowC c).toNat ≤ 90) := u8_all (p := fun c => ¬(65 ≤ (lowC c).toNat ∧ (lowC c).toNat ≤ 90)) (by decide +kernel) c
theorem before_mem {c : UInt8} {l : List UInt8} : ∀ x ∈ beforeC c l, x ≠ c ∧ x ∈ l := by
  unfold beforeC
  induction l with
  | nil => intro x hx; cases hx
  | cons a r ih =>
    intro x hx
    rw [List.takeWhile_cons] at hx
    split at hx
    · rename_i ha
      rcases List.mem_cons.1 hx with rfl | hx
      · exact ⟨by simpa using ha, List.mem_cons_self ..⟩
      · obtain ⟨h1, h2⟩ := ih x hx
        exact ⟨h1, List.mem_cons_of_mem _ h2⟩
    · cases hx
theorem name_good (x : List UInt8) : ∀ c ∈ beforeC 42 (tsL x), GoodC c := by
  intro c hc
  obtain ⟨h1, h2⟩ := before_mem c hc
  refine ⟨h1, ?_⟩
  unfold tsL lowL at h2
  obtain ⟨d, _, rfl⟩ := List.mem_map.1 h2
  exact lowC_small d
structure RawInv (st : RawSt) : Prop where
  nd : st.1.Nodup
  ok : ∀ nm ∈ st.1, nm ≠ [] ∧ (∀ c ∈ nm, GoodC c) ∧ (st.2.2 nm).getD false = true
  em : (st.2.2 []).getD false = true
theorem rawInv0 : RawInv raw0 := ⟨List.nodup_nil, fun nm h => (by cases h), rfl⟩
theorem RawInv.step {st : RawSt} (h : RawInv st) (p : List UInt8) : RawInv (rawStep st p) := by
  unfold rawStep
  split
  · exact h
  · split
    · exact ⟨h.nd, h.ok, h.em⟩
    · rename_i hs
      have hk : ∀ nm, (st.2.2 nm).getD false = true → (putF st.2.2 (beforeC 42 (tsL (beforeC 61 p))) true nm).getD false = true := fun nm hn => by
        unfold putF
        split
        · rfl
        · exact hn
      refine ⟨?_, fun nm hnm => ?_, hk _ h.em⟩
      · refine List.nodup_append.2 ⟨h.nd, by simp, fun a ha b hb e => ?_⟩
        rw [List.mem_singleton] at hb
        subst hb
        subst e
        exact hs (h.ok _ ha).2.2
      · rcases List.mem_append.1 hnm with h1 | h1
        · obtain ⟨g1, g2, g3⟩ := h.ok nm h1
          exact ⟨g1, g2, hk _ g3⟩
        · rw [List.mem_singleton] at h1
          subst h1
          refine ⟨fun e => ?_, name_good _, ?_⟩
          · rw [e] at hs; exact hs h.em
          · show (putF st.2.2 _ true _).getD false = true
            unfold putF
            rw [if_pos rfl]; rfl
theorem rawsL_inv (ps : List (List UInt8)) : RawInv (rawsL ps) := by
  have : ∀ st, RawInv st → RawInv (ps.foldl rawStep st) := by
    induction ps with
    | nil => exact fun st h => h
    | cons p ps ih => exact fun st h => ih _ (h.step p)
  exact this raw0 rawInv0
theorem valL_valid {f : ValF} {name : List UInt8} {N : Nat} {v : List UInt8} (h : valL f name N = some v) : validL v = v := by
  refine valid_whole _ ?_
  unfold valL at h
  split at h
  · rename_i x hx
    injection h with h
    subst h
    unfold exL at hx
    split at hx
    · injection hx with hx
      rw [← hx]; exact decodeL_whole _ _
    · cases hx
  · split at h
    · injection h with h
      rw [← h]; exact decodeL_whole _ _
    · split at h
      · injection h with h
        rw [← h]; exact decW_whole _ _ _
      · cases h
theorem outL_names (f : ValF) (names : List (List UInt8)) : ((outL f names).map (·.1)).Sublist names := by
  unfold outL
  induction names with
  | nil => exact List.Sublist.slnil
  | cons n ns ih =>
    rw [List.filterMap_cons]
    cases hv : valN f n with
    | none => simpa [hv] using ih.cons n
    | some v => simpa [hv] using ih.cons_cons n
/-- ParamOnce, of lists -/
theorem pars_once (s : List UInt8) : ((parsP s).2.map (·.1)).Nodup ∧ ∀ p ∈ (parsP s).2, p.1 ≠ [] ∧ (∀ c ∈ p.1, GoodC c) ∧ validL p.2 = p.2 := by
  have hI := rawsL_inv (pcL [] s).tail
  have hS := outL_names (rawsL (pcL [] s).tail).2.1 (rawsL (pcL [] s).tail).1
  refine ⟨hS.nodup hI.nd, fun p hp => ?_⟩
  have h1 := hI.ok p.1 (hS.subset (List.mem_map_of_mem hp))
  refine ⟨h1.1, h1.2.1, ?_⟩
  obtain ⟨nm, _, h2⟩ := List.mem_filterMap.1 hp
  cases hv : valN (rawsL (pcL [] s).tail).2.1 nm with
  | none => rw [hv] at h2; cases h2
  | some v =>
    rw [hv] at h2
    injection h2 with h2
    subst h2
    exact valL_valid hv
end Go.Proofs.YtienjpelmbldpaaGreatDoor
