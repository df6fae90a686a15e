import Derived.Test.YtiejmkjpgjbodaaGreatDoorBaseN
import Derived.Test.YtiejmkjpgjbodaaGreatDoorHtokG
import Derived.Test.YtiejmkjpgjbodaaGreatDoorBaseQ
import Derived.Test.YtiejmkjpgjbodaaGreatDoorBaseP
namespace Go.Proofs.YtiejmkjpgjbodaaGreatDoor
open Go.RowKit
set_option linter.unusedVariables false
set_option linter.unusedSimpArgs false
set_option maxRecDepth 100000
theorem mark_kinds (dec : List UInt8 → List UInt8) {c : UInt8} {r : List UInt8} (hm : isMarkB (c :: r) = true) (t : TokL) (h : (markL dec r).1 = some t) : t.kind ≠ 1 ∧ (t.kind = 2 → t.name ≠ []) := by
  refine ⟨((mark_form dec r).1 t h).2, fun hk => ?_⟩
  have hrem : ∀ k, (remL k).1 = some t → False := fun k e => by
    injection e with e; rw [← e] at hk; exact absurd (show (4 : Nat) = 2 from hk) (by decide)
  have hlong : ∀ k, (longL k).1 = some t → False := fun k e => by
    unfold longL at e
    split at e <;> (injection e with e; rw [← e] at hk; exact absurd (show (4 : Nat) = 2 from hk) (by decide))
  have hend : ∀ k, (endL dec k).1 = some t → False := fun k e => by
    unfold endL at e
    split at e
    · cases e
    · injection e with e; rw [← e] at hk; exact absurd (show (3 : Nat) = 2 from hk) (by decide)
  unfold markL at h
  split at h
  · split at h
    · cases h
    · split at h
      · exact (hend _ h).elim
      · split at h
        · cases h
        · exact (hrem _ h).elim
  · split at h
    · exact (hlong _ h).elim
    · exact (hrem _ h).elim
  · exact (hrem _ h).elim
  · rename_i h1 h2 h3
    cases r with
    | nil =>
      exfalso
      unfold isMarkB at hm
      split at hm
      · rename_i e; injection e with _ e; cases e
      · cases hm
    | cons d q =>
      have hd : letterB d = true := by
        unfold isMarkB at hm
        split at hm
        · rename_i c' r' e
          injection e with e1 e2
          injection e2 with e2 e3
          subst e2 e3
          rw [if_neg (fun e => e.elim (fun e => h2 _ (by rw [e])) (fun e => h3 _ (by rw [e]))), if_neg (fun e => h1 _ (by rw [e]))] at hm
          exact hm
        · cases hm
      have hne : nameEndB d = false := (u8_all (p := fun d => letterB d = true → nameEndB d = false) (by decide +kernel) d) hd
      unfold startL at h
      cases ht : tagL dec (d :: q) with
      | none => rw [ht] at h; cases h
      | some p =>
        obtain ⟨n, A, b⟩ := p
        have hn : n ≠ [] := by
          unfold tagL at ht
          cases ha : attrsLL dec [] (upL nameEndB (d :: q)).2 with
          | none => rw [ha] at ht; cases ht
          | some p =>
            obtain ⟨B, x⟩ := p
            rw [ha] at ht
            injection ht with ht
            injection ht with ht _
            rw [← ht]
            unfold upL lowL
            rw [List.takeWhile_cons, hne]
            simp
        rw [ht] at h
        simp only at h
        split at h
        · injection h with h; rw [← h]; exact hn
        · injection h with h; rw [← h]; exact hn
def TokW (N : Nat) (t : TokL) : Prop := (t.kind = 1 → t.text.length ≤ N) ∧ (t.kind = 2 → t.name ≠ [])
theorem flush_w {N : Nat} {L : List TokL} (h : ∀ t ∈ L, TokW N t) {x : List UInt8} (hx : x.length ≤ N) : ∀ t ∈ flushT L x, TokW N t := by
  unfold flushT
  split
  · exact h
  · intro t ht
    rcases List.mem_append.1 ht with ht | ht
    · exact h t ht
    · obtain rfl := List.mem_singleton.1 ht
      exact ⟨fun _ => hx, fun e => absurd (show (1 : Nat) = 2 from e) (by decide)⟩
theorem scan_w (dec : List UInt8 → List UInt8) (hdec : ∀ l, (dec l).length ≤ l.length) (N : Nat) : ∀ (k : Nat) (l : List UInt8) (L : List TokL) (x : List UInt8), l.length ≤ k → x.length + l.length ≤ N → (∀ t ∈ L, TokW N t) → ∀ t ∈ scanL dec L x l, TokW N t := by
  intro k
  induction k with
  | zero =>
    intro l L x hl hN h
    obtain rfl : l = [] := List.eq_nil_of_length_eq_zero (by omega)
    rw [scanL_nil]
    exact flush_w h (by simpa using hN)
  | succ k ih =>
    intro l L x hl hN h
    cases l with
    | nil => rw [scanL_nil]; exact flush_w h (by simpa using hN)
    | cons c r =>
      by_cases hm : 0 < markN (c :: r)
      · rw [scanL_text dec L x hm]
        have h1 := markN_le (c :: r)
        have h2 : ((c :: r).drop (markN (c :: r))).length = (c :: r).length - markN (c :: r) := List.length_drop
        have h3 := hdec ((c :: r).take (markN (c :: r)))
        rw [List.length_take] at h3
        exact ih _ L _ (by rw [h2]; omega) (by rw [h2, List.length_append]; omega) h
      · have hmk : isMarkB (c :: r) = true := markN_zero (by omega)
        rw [scanL_mark dec L x hmk]
        have hlen : (c :: r).length = r.length + 1 := rfl
        obtain ⟨m1, m2, m3⟩ := mark_form dec r
        refine ih _ _ _ (by omega) ?_ ?_
        · unfold addT
          cases ho : (markL dec r).1 with
          | none => have := m2 ho; simp only [this, List.append_nil]; omega
          | some u => simp only; omega
        · unfold addT
          cases ho : (markL dec r).1 with
          | none => exact h
          | some u =>
            intro t ht
            simp only at ht
            rcases List.mem_append.1 ht with ht | ht
            · exact flush_w h (by omega) t ht
            · obtain rfl := List.mem_singleton.1 ht
              obtain ⟨k1, k2⟩ := mark_kinds dec hmk t ho
              exact ⟨fun e => absurd e k1, k2⟩
theorem scanE_w (s : ByteArray) : (∀ t ∈ scanL decE [] [] s.data.toList, TokW s.size t) ∧ (scanL decE [] [] s.data.toList).length ≤ s.size := by
  refine ⟨scan_w decE (fun l => decE_len _ l (Nat.le_refl _)) s.size _ s.data.toList [] [] (Nat.le_refl _) (by rw [toList_length]; simp) (fun t h => by cases h), ?_⟩
  have := (scan_forms decE _ s.data.toList [] [] (Nat.le_refl _) ⟨fun t h => (by cases h), fun i a b h => by simp at h⟩ (fun t h => by simp at h)).2
  rw [toList_length] at this
  simpa [sz1] using this
end Go.Proofs.YtiejmkjpgjbodaaGreatDoor
