/- param.Parse without conditions but the text's size. No statement is proved here. -/
import Derived.Test.YtienjpelmbldpaaGreatDoorParO
namespace Go.Proofs.YtienjpelmbldpaaGreatDoor
open Go.RowKit
set_option linter.unusedVariables false
set_option linter.unusedSimpArgs false
set_option maxRecDepth 100000
def wPs (ps : List (List UInt8)) : Nat := (ps.map fun p => p.length + 1).sum
theorem wPs_cons (p : List UInt8) (ps : List (List UInt8)) : wPs (p :: ps) = p.length + 1 + wPs ps := rfl
theorem mem_wPs {p : List UInt8} {ps : List (List UInt8)} (h : p ∈ ps) : p.length + 1 ≤ wPs ps := by
  induction ps with
  | nil => cases h
  | cons q ps ih =>
    rw [wPs_cons]
    rcases List.mem_cons.1 h with rfl | h
    · omega
    · have := ih h; omega
theorem mem_wAll {e : List UInt8 × List UInt8} {E : Ent} (h : e ∈ E) : e.2.length + 1 ≤ wAll E := by
  induction E with
  | nil => cases h
  | cons q E ih =>
    have e1 : wAll (q :: E) = q.2.length + 1 + wAll E := rfl
    rw [e1]
    rcases List.mem_cons.1 h with rfl | h
    · omega
    · have := ih h; omega
theorem ents_put {f : ValF} {E : Ent} (h : Ents f E) (k v : List UInt8) : Ents (putF f k v) ((k, v) :: E) := by
  intro y x hx
  unfold putF at hx
  split at hx
  · rename_i e
    injection hx with hx
    rw [e, hx]; exact List.mem_cons_self ..
  · exact List.mem_cons_of_mem _ (h y x hx)
theorem rawStep_ents {st : RawSt} {E : Ent} (h : Ents st.2.1 E) (p : List UInt8) : ∃ E', Ents (rawStep st p).2.1 E' ∧ wAll E' ≤ wAll E + (p.length + 1) ∧ ∀ nm ∈ (rawStep st p).1, nm ∈ st.1 ∨ nm.length ≤ p.length := by
  have hv : (rvL (afterC 61 p)).length ≤ p.length := Nat.le_trans (rvL_length _) (afterC_length 61 p)
  have hn : (beforeC 42 (tsL (beforeC 61 p))).length ≤ p.length := Nat.le_trans (beforeC_length 42 _) (Nat.le_trans (tsL_length _) (beforeC_length 61 p))
  unfold rawStep
  split
  · exact ⟨E, h, by omega, fun nm hnm => .inl hnm⟩
  · split
    · refine ⟨_, ents_put h _ _, ?_, fun nm hnm => .inl hnm⟩
      show (rvL (afterC 61 p)).length + 1 + wAll E ≤ _
      omega
    · refine ⟨_, ents_put h _ _, ?_, fun nm hnm => ?_⟩
      · show (rvL (afterC 61 p)).length + 1 + wAll E ≤ _
        omega
      · rcases List.mem_append.1 hnm with h1 | h1
        · exact .inl h1
        · rw [List.mem_singleton] at h1; rw [h1]; exact .inr hn
theorem rawFold_ents (ps : List (List UInt8)) : ∀ (st : RawSt) (E : Ent), Ents st.2.1 E → ∃ E', Ents (ps.foldl rawStep st).2.1 E' ∧ wAll E' ≤ wAll E + wPs ps ∧ ∀ nm ∈ (ps.foldl rawStep st).1, nm ∈ st.1 ∨ nm.length ≤ wPs ps := by
  induction ps with
  | nil => exact fun st E h => ⟨E, h, by omega, fun nm hnm => .inl hnm⟩
  | cons p ps ih =>
    intro st E h
    obtain ⟨E1, h1, h2, h3⟩ := rawStep_ents h p
    obtain ⟨E2, g1, g2, g3⟩ := ih _ E1 h1
    rw [wPs_cons]
    refine ⟨E2, g1, by omega, fun nm hnm => ?_⟩
    rcases g3 nm hnm with h4 | h4
    · rcases h3 nm h4 with h5 | h5
      · exact .inl h5
      · exact .inr (by omega)
    · exact .inr (by omega)
theorem raws_ents (ps : List (List UInt8)) : ∃ E, Ents (rawsL ps).2.1 E ∧ wAll E ≤ wPs ps ∧ ∀ nm ∈ (rawsL ps).1, nm.length ≤ wPs ps := by
  obtain ⟨E, h1, h2, h3⟩ := rawFold_ents ps raw0 [] (fun k x hx => by cases hx)
  refine ⟨E, h1, ?_, fun nm hnm => (h3 nm hnm).elim (fun h => by cases h) id⟩
  have : wAll [] = 0 := rfl
  omega
theorem pcL_sizes (n : Nat) : ∀ (l cur : List UInt8), l.length ≤ n → wPs (pcL cur l) = cur.length + l.length + 1 := by
  induction n with
  | zero =>
    intro l cur h
    have : l = [] := List.eq_nil_of_length_eq_zero (by omega)
    subst this
    rw [pcL_nil]; rfl
  | succ n ih =>
    intro l cur h
    cases l with
    | nil => rw [pcL_nil]; rfl
    | cons c r =>
      have hl : r.length ≤ n := by simpa using h
      by_cases h1 : c = 34
      · subst h1
        rw [pcL_quote]
        have hp := readQ_pos r
        have hq := (readQ_le (34 :: r)).2
        generalize (readQ (34 :: r)).2 = q at hp hq
        rw [ih _ _ (by rw [List.length_drop]; simp only [List.length_cons] at hq ⊢; omega), List.length_append, List.length_take, List.length_drop]
        simp only [List.length_cons] at hq ⊢
        omega
      · by_cases h2 : c = 59
        · subst h2
          rw [pcL_semi, wPs_cons, ih r [] hl]
          simp only [List.length_cons, List.length_nil]
          omega
        · rw [pcL_other cur h1 h2, ih r _ hl, List.length_append]
          simp only [List.length_cons, List.length_nil]
          omega
theorem wPs_tail (ps : List (List UInt8)) : wPs ps.tail ≤ wPs ps := by
  cases ps with
  | nil => exact Nat.le_refl _
  | cons p ps => rw [wPs_cons]; show wPs ps ≤ _; omega
theorem parOK_all (s : List UInt8) (hs : s.length ≤ 200000) : ParOK (rawsL (pcL [] s).tail).2.1 (rawsL (pcL [] s).tail).1 ∧ ∀ p ∈ pcL [] s, p.length ≤ 1048576 := by
  have h0 := pcL_sizes s.length s [] (Nat.le_refl _)
  have h1 := wPs_tail (pcL [] s)
  simp only [List.length_nil] at h0
  obtain ⟨E, e1, e2, e3⟩ := raws_ents (pcL [] s).tail
  refine ⟨⟨fun nm _ => secOK_of e1 (by omega) nm, fun k x hx => ?_, fun nm hnm => ?_⟩, fun p hp => ?_⟩
  · have := mem_wAll (e1 k x hx)
    simp only at this
    omega
  · have := e3 nm hnm
    omega
  · have := mem_wPs hp
    omega
theorem parse07 (s : ByteArray) (w : World) (hs : s.size ≤ 200000) (hE : EnvP w) :
    Calls Tryz.prog 10 #[.string s] w fun e w' => ∃ v, e = .returned (.tuple #[.string (str (parsP s.data.toList).1), v]) ∧ PBuf w.heap.size v (parsP s.data.toList).2 w w' := by
  obtain ⟨h1, h2⟩ := parOK_all s.data.toList (by rw [toList_length]; exact hs)
  exact parse07_any s w hs hE h1 h2
end Go.Proofs.YtienjpelmbldpaaGreatDoor
