/- PURE: the sizes of what param reads. No statement is proved here. -/
import Derived.Test.YtienjpelmbldpaaGreatDoorParR
namespace Go.Proofs.YtienjpelmbldpaaGreatDoor
open Go.RowKit
set_option linter.unusedVariables false
set_option linter.unusedSimpArgs false
set_option maxRecDepth 100000
theorem getD_le {f : ValF} {E : Ent} (hE : Ents f E) (k : List UInt8) : ((f k).getD []).length ≤ wAll E := by
  cases h : f k with
  | none => exact Nat.zero_le _
  | some x =>
    have h2 := mem_wAll (hE k x h)
    simp only [Option.getD] at h2 ⊢
    omega
theorem valN_le {f : ValF} {E : Ent} (hE : Ents f E) {name v : List UInt8} (h : valN f name = some v) : v.length ≤ 3 * wAll E := by
  obtain ⟨h1, h2, h3⟩ := firstNo_at f name 1000000 0 (fun i hi => absurd hi (Nat.not_lt_zero i))
  have hc := (coAt_le hE name (nSec f name) h1).2
  have hw := wSec_le E name (nSec f name)
  unfold valN valL at h
  split at h
  · rename_i x hx
    injection h with h
    subst h
    unfold exL at hx
    split at hx
    · rename_i a b hp
      injection hx with hx
      rw [← hx]
      have g1 := decodeL_length (kindL a) b
      have g2 := (pExt_sizes hp).2
      have g3 := getD_le hE (name ++ [42])
      omega
    · cases hx
  · split at h
    · injection h with h
      rw [← h]
      have g1 := decodeL_length (kindL (coAt f name (nSec f name)).1) (coAt f name (nSec f name)).2
      show (decodeL _ _).length ≤ _
      omega
    · split at h
      · injection h with h
        rw [← h]
        have g1 := decW_length false [] ((f name).getD [])
        have g2 := getD_le hE name
        simp only [List.length_nil] at g1
        show (decW _ _ _).length ≤ _
        omega
      · cases h
theorem pars_sizes (s : List UInt8) : (∀ p ∈ (parsP s).2, p.1.length ≤ s.length + 1 ∧ p.2.length ≤ 3 * (s.length + 1)) ∧ (parsP s).2.length ≤ s.length + 1 := by
  have h0 := pcL_sizes s.length s [] (Nat.le_refl _)
  have h1 := wPs_tail (pcL [] s)
  simp only [List.length_nil] at h0
  obtain ⟨E, e1, e2, e3⟩ := raws_ents (pcL [] s).tail
  refine ⟨fun p hp => ?_, ?_⟩
  · obtain ⟨nm, hn, h2⟩ := List.mem_filterMap.1 hp
    have g1 := e3 nm hn
    cases hv : valN (rawsL (pcL [] s).tail).2.1 nm with
    | none => rw [hv] at h2; cases h2
    | some v =>
      rw [hv] at h2
      injection h2 with h2
      subst h2
      have g2 := valN_le e1 hv
      exact ⟨by show nm.length ≤ _; omega, by show v.length ≤ _; omega⟩
  · have h3 : (parsP s).2.length ≤ (rawsL (pcL [] s).tail).1.length := List.length_filterMap_le _ _
    have g : ∀ (ps : List (List UInt8)) (st : RawSt), (ps.foldl rawStep st).1.length ≤ st.1.length + wPs ps := by
      intro ps
      induction ps with
      | nil => exact fun st => Nat.le_add_right _ _
      | cons p ps ih =>
        intro st
        have q1 := ih (rawStep st p)
        have q2 : (rawStep st p).1.length ≤ st.1.length + 1 := by
          unfold rawStep
          split
          · omega
          · split
            · show st.1.length ≤ _; omega
            · show (st.1 ++ [_]).length ≤ _; rw [List.length_append]; simp
        rw [List.foldl_cons, wPs_cons]; omega
    have h4 := g (pcL [] s).tail raw0
    have h5 : raw0.1.length = 0 := rfl
    unfold rawsL at h3
    omega
end Go.Proofs.YtienjpelmbldpaaGreatDoor
