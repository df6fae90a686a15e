/- WALK of (*strings.genericReplacer).WriteString at the trie of ent.Text. No statement is proved here. -/
import Derived.Test.YtmojckphfbcibaaGreatDoorEntH
import Derived.Test.YtmojckphfbcibaaGreatDoorBuilder
namespace Go.Proofs.YtmojckphfbcibaaGreatDoor
open Go.RowKit
set_option linter.unusedVariables false
set_option linter.unusedSimpArgs false
set_option maxRecDepth 100000
/-- a text with its four signs written as entities -/
def escG : List UInt8 → List UInt8
  | [] => []
  | c :: r => match lookL (c :: r) with
    | some (t, n) => t ++ escG (r.drop (n - 1))
    | none => c :: escG r
termination_by l => l.length
decreasing_by all_goals simp; try omega
theorem lookL_some {l : List UInt8} {t : List UInt8} {n : Nat} (h : lookL l = some (t, n)) : 1 ≤ n ∧ n ≤ 2 ∧ n ≤ l.length ∧ t.length ≤ 6 ∧ t ≠ [] := by
  unfold lookL at h
  split at h <;> first | (injection h with h; injection h with h1 h2; subst h1 h2; refine ⟨by omega, by omega, by simp, by decide, by decide⟩) | cases h
theorem escG_some {l : List UInt8} {t : List UInt8} {n : Nat} (h : lookL l = some (t, n)) : escG l = t ++ escG (l.drop n) := by
  have hp := lookL_some h
  cases l with
  | nil => simp [lookL] at h
  | cons c r =>
    rw [escG, h]
    obtain ⟨k, rfl⟩ : ∃ k, n = k + 1 := ⟨n - 1, by omega⟩
    rfl
theorem escG_none {c : UInt8} {r : List UInt8} (h : lookL (c :: r) = none) : escG (c :: r) = c :: escG r := by
  rw [escG, h]
theorem escG_len : ∀ (k : Nat) (l : List UInt8), l.length ≤ k → (escG l).length ≤ 6 * l.length
  | 0, l, h => by
    have : l = [] := List.eq_nil_of_length_eq_zero (by omega)
    subst this; rw [escG]; simp
  | k + 1, [], h => by rw [escG]; simp
  | k + 1, c :: r, h => by
    cases e : lookL (c :: r) with
    | none =>
      rw [escG_none e]
      have := escG_len k r (by simp at h; omega)
      simp only [List.length_cons]; omega
    | some p =>
      obtain ⟨t, n⟩ := p
      have hp := lookL_some e
      rw [escG_some e]
      have := escG_len k ((c :: r).drop n) (by rw [List.length_drop]; simp at h ⊢; omega)
      rw [List.length_append]
      rw [List.length_drop] at this
      omega
theorem Trie.below {w w' : World} {G T n0 n1 n2 n4 n5 B : Nat} (h : Trie w G T n0 n1 n2 n4 n5) (hb : Below B w w') (hB : G < B ∧ T < B ∧ n0 < B ∧ n1 < B ∧ n2 < B ∧ n4 < B ∧ n5 < B) : Trie w' G T n0 n1 n2 n4 n5 := by
  have key : ∀ (b o : Nat), b < B → w'.cell? ⟨b, o, none⟩ = w.cell? ⟨b, o, none⟩ := fun b o hb' => hb.cell (p := ⟨b, o, none⟩) hb'
  have kn : ∀ {b val prio pre nx tab}, b < B → Node w b val prio pre nx tab → Node w' b val prio pre nx tab := by
    intro b val prio pre nx tab hb' ⟨a0, a1, a2, a3, a4⟩
    exact ⟨(key _ _ hb').trans a0, (key _ _ hb').trans a1, (key _ _ hb').trans a2, (key _ _ hb').trans a3, (key _ _ hb').trans a4⟩
  obtain ⟨b0, b1, b2, b3, b4, b5, b6⟩ := hB
  exact ⟨kn b0 h.root, (key _ _ b0).trans h.size, fun c => (key _ _ b0).trans (h.map c), (key _ _ b1).trans h.t0, (key _ _ b1).trans h.t1, (key _ _ b1).trans h.t2, (key _ _ b1).trans h.t3, (key _ _ b1).trans h.t4, kn b2 h.k0, kn b3 h.k1, kn b4 h.k2, kn b5 h.k4, kn b6 h.k5⟩
theorem Trie.drewN {w : World} {G T n0 n1 n2 n4 n5 : Nat} (h : Trie w G T n0 n1 n2 n4 n5) (n : Nat) : Trie (w.drewN n) G T n0 n1 n2 n4 n5 := ⟨h.1, h.2, h.3, h.4, h.5, h.6, h.7, h.8, h.9, h.10, h.11, h.12, h.13⟩
/-- where the table leads on -/
theorem Trie.on {w : World} {G T n0 n1 n2 n4 n5 : Nat} (h : Trie w G T n0 n1 n2 n4 n5) {c : UInt8} (hc : c = 38 ∨ c = 60 ∨ c = 62 ∨ c = 194) :
    ∃ j nx : Nat, j < 5 ∧ w.cell? ⟨G, 6 + c.toNat, none⟩ = some (.int .u8 (j : Int)) ∧ w.cell? ⟨T, j, none⟩ = some (.pointer (some ⟨nx, 0, none⟩)) := by
  rcases hc with rfl | rfl | rfl | rfl
  · exact ⟨0, n0, by omega, h.map 38, h.t0⟩
  · exact ⟨1, n1, by omega, h.map 60, h.t1⟩
  · exact ⟨2, n2, by omega, h.map 62, h.t2⟩
  · exact ⟨4, n4, by omega, h.map 194, h.t4⟩
theorem look_off {c : UInt8} {r : List UInt8} (hc : ¬(c = 38 ∨ c = 60 ∨ c = 62 ∨ c = 194)) : lookL (c :: r) = none := by
  unfold lookL
  split <;> first | rfl | (rename_i h; injection h with h1 h2; exact absurd h1 (by intro e; exact hc (by simp [e])))
/-- i bytes are seen, acc is written for the first m of them -/
def WInv (L : List UInt8) (i m : Nat) (acc : List UInt8) : Prop := m ≤ i ∧ i ≤ L.length + 1 ∧ m ≤ L.length ∧ acc ++ (L.take i).drop m ++ escG (L.drop i) = escG L
theorem WInv.skip {L : List UInt8} {i m : Nat} {acc : List UInt8} (h : WInv L i m acc) (hi : i < L.length) (hn : lookL (L.drop i) = none) : WInv L (i + 1) m acc := by
  obtain ⟨h1, h2, h3, h4⟩ := h
  refine ⟨by omega, by omega, h3, ?_⟩
  rw [← h4]
  have e : L.drop i = L[i] :: L.drop (i + 1) := List.drop_eq_getElem_cons hi
  rw [e] at hn ⊢
  rw [escG_none hn, List.take_add_one, List.getElem?_eq_getElem hi, List.drop_append_of_le_length (by rw [List.length_take]; omega)]
  simp
theorem WInv.last {L : List UInt8} {m : Nat} {acc : List UInt8} (h : WInv L L.length m acc) : WInv L (L.length + 1) m acc := by
  obtain ⟨h1, h2, h3, h4⟩ := h
  refine ⟨by omega, by omega, h3, ?_⟩
  rw [← h4, List.take_of_length_le (Nat.le_succ _), List.take_length, List.drop_length, List.drop_eq_nil_of_le (Nat.le_succ _)]
theorem WInv.hit {L : List UInt8} {i m n : Nat} {acc t : List UInt8} (h : WInv L i m acc) (hn : lookL (L.drop i) = some (t, n)) : i + n ≤ L.length ∧ WInv L (i + n) (i + n) (acc ++ (L.take i).drop m ++ t) := by
  obtain ⟨h1, h2, h3, h4⟩ := h
  have hp := lookL_some hn
  rw [List.length_drop] at hp
  refine ⟨by omega, by omega, by omega, by omega, ?_⟩
  rw [← h4, escG_some hn, List.drop_drop, show (L.take (i + n)).drop (i + n) = [] from List.drop_eq_nil_of_le (by rw [List.length_take]; omega)]
  simp
theorem WInv.len {L : List UInt8} {i m : Nat} {acc : List UInt8} (h : WInv L i m acc) : acc.length ≤ 6 * L.length := by
  have := escG_len L.length L (Nat.le_refl _)
  rw [← h.2.2.2] at this
  simp only [List.length_append] at this
  omega
theorem WInv.fin {L : List UInt8} {m : Nat} {acc : List UInt8} (h : WInv L (L.length + 1) m acc) : acc ++ L.drop m = escG L := by
  obtain ⟨h1, h2, h3, h4⟩ := h
  rw [← h4, List.take_of_length_le (Nat.le_succ _), show L.drop (L.length + 1) = [] from List.drop_eq_nil_of_le (Nat.le_succ _)]
  simp [escG]
end Go.Proofs.YtmojckphfbcibaaGreatDoor
