/- WALKS of ascii.Lower and of the reference's Small. No statement is proved here. -/
import Derived.Test.YtlhjdjjbmljilaaDoorArr
namespace Go.Proofs.YtlhjdjjbmljilaaDoor
open Go.RowKit
set_option linter.unusedVariables false
set_option linter.unusedSimpArgs false

/-- a to z in the place of A to Z -/
def lowC (c : UInt8) : UInt8 := if 65 ≤ c ∧ c ≤ 90 then c + 32 else c
def lowL (l : List UInt8) : List UInt8 := l.map lowC
theorem lowC_case (c : UInt8) : (65 ≤ c.toNat ∧ c.toNat ≤ 90 ∧ (lowC c).toNat = c.toNat + 32) ∨ ((c.toNat < 65 ∨ (65 ≤ c.toNat ∧ 90 < c.toNat)) ∧ lowC c = c) :=
  u8_all (p := fun c => (65 ≤ c.toNat ∧ c.toNat ≤ 90 ∧ (lowC c).toNat = c.toNat + 32) ∨ ((c.toNat < 65 ∨ (65 ≤ c.toNat ∧ 90 < c.toNat)) ∧ lowC c = c)) (by decide +kernel) c
theorem lowL_length (l : List UInt8) : (lowL l).length = l.length := by simp [lowL]

/-- the first k of l small, the others as they are -/
def lowAt (l : List UInt8) (k : Nat) : List UInt8 := lowL (l.take k) ++ l.drop k
theorem lowAt_length (l : List UInt8) (k : Nat) : (lowAt l k).length = l.length := by simp [lowAt, lowL]; omega
theorem lowAt_zero (l : List UInt8) : lowAt l 0 = l := by simp [lowAt, lowL]
theorem lowAt_end (l : List UInt8) (k : Nat) (h : l.length ≤ k) : lowAt l k = lowL l := by
  rw [lowAt, List.take_of_length_le h, List.drop_eq_nil_of_le h, List.append_nil]
theorem lowAt_get (l : List UInt8) (k : Nat) (h : k < l.length) (h' : k < (lowAt l k).length) : (lowAt l k)[k] = l[k] := by
  simp [lowAt, lowL, Nat.min_eq_left (Nat.le_of_lt h)]
theorem lowAt_set (l : List UInt8) (k : Nat) (h : k < l.length) : (lowAt l k).set k (lowC l[k]) = lowAt l (k + 1) := by
  have e : (lowL (l.take k)).length = k := by simp [lowL]; omega
  rw [lowAt, List.set_append_right _ _ (by omega), e, Nat.sub_self, List.drop_eq_getElem_cons h, List.set_cons_zero, lowAt]
  rw [List.take_succ_eq_append_getElem h, lowL, lowL, List.map_append, List.append_assoc]
  rfl
theorem lowAt_same (l : List UInt8) (k : Nat) (h : k < l.length) (e : lowC l[k] = l[k]) : lowAt l k = lowAt l (k + 1) := by
  rw [← lowAt_set l k h, e]
  have := lowAt_get l k h (by rw [lowAt_length]; exact h)
  conv => rhs; rw [← this]
  exact (List.set_getElem_self _).symm

set_option maxHeartbeats 1000000 in
theorem lower_any (s : ByteArray) (w : World) (hs : s.size ≤ 70368744177664) :
    Calls Tryd.prog 37 #[.string s] w fun e w' => e = .returned (.string (str (lowL s.data.toList))) ∧ Below w.heap.size w w' := by
  go_enter Tryd.func37, Tryd.ntmps37
  go_wp2_with (refine wpList_bytes rfl _ rfl s rfl ?_; intro cap w0 ha0; have HA0 := hide ha0; clear ha0)
  go_loopw [10] (fun i wr => ∃ k : Nat, k ≤ s.size ∧ i = .int .i64 k ∧ Arr w.heap.size w.heap.size (lowAt s.data.toList k) w wr) (fun i _ => s.size - (intOf i).toNat)
  case atStart => exact ⟨0, Nat.zero_le _, rfl, by rw [lowAt_zero]; exact HA0.out⟩
  case round =>
    obtain ⟨k, hk, rfl, ha⟩ := hrel
    by_cases hlt : k < s.size
    · have hl : k < s.data.toList.length := by rw [toList_length]; exact hlt
      have hl' : k < (lowAt s.data.toList k).length := by rw [lowAt_length]; exact hl
      have hcell := ha.cell k hl'
      have hfree := ha.free k hl'
      rw [lowAt_get _ _ hl hl'] at hcell
      have hset := lowAt_set s.data.toList k hl
      have hcase := lowC_case s.data.toList[k]
      have hsame := lowAt_same s.data.toList k hl
      have HST := fun (c : UInt8) (n : Int) (hn : n = c.toNat) => hide (ha.set k hl' c n hn)
      generalize s.data.toList[k] = c at hcell hset hcase hsame
      have HA := hide ha
      have HSET := hide hset
      clear ha hset
      rcases hcase with ⟨c1, c2, c3⟩ | ⟨c1, c2⟩
      · clear hsame
        go_wp2
        go_roundw
        case rel => exact ⟨k + 1, by omega, by go_num, by rw [← HSET.out]; exact (HST (lowC c) _ (by omega)).out⟩
        case measure => simp [intOf]; omega
      · have HS := hide (hsame c2)
        clear hsame c2
        rcases c1 with c1 | ⟨c0, c1⟩
        all_goals
          go_wp2
          go_roundw
          case rel => exact ⟨k + 1, by omega, by go_num, by rw [← HS.out]; exact HA.out⟩
          case measure => simp [intOf]; omega
    · have hc := ha.convert cap
      rw [lowAt_length, toList_length] at hc
      go_wp2
      go_ret
      exact ⟨ret_str (by rw [lowAt_end _ _ (by rw [toList_length]; omega)]), ha.below⟩

set_option maxHeartbeats 1000000 in
theorem small_any (s : ByteArray) (w : World) (hs : s.size ≤ 70368744177664) :
    Calls Tryd.prog 39 #[.string s] w fun e w' => e = .returned (.string (str (lowL s.data.toList))) ∧ Below w.heap.size w w' := by
  go_enter Tryd.func39, Tryd.ntmps39
  go_wp2_with (refine wpList_bytes rfl _ rfl s rfl ?_; intro cap w0 ha0; have HA0 := hide ha0; clear ha0)
  go_loopw [4] (fun i wr => ∃ k : Nat, k ≤ s.size ∧ i = .int .i64 k ∧ Arr w.heap.size w.heap.size (lowAt s.data.toList k) w wr) (fun i _ => s.size - (intOf i).toNat)
  case atStart => exact ⟨0, Nat.zero_le _, rfl, by rw [lowAt_zero]; exact HA0.out⟩
  case round =>
    obtain ⟨k, hk, rfl, ha⟩ := hrel
    by_cases hlt : k < s.size
    · have hl : k < s.data.toList.length := by rw [toList_length]; exact hlt
      have hl' : k < (lowAt s.data.toList k).length := by rw [lowAt_length]; exact hl
      have hcell := ha.cell k hl'
      have hfree := ha.free k hl'
      rw [lowAt_get _ _ hl hl'] at hcell
      have hset := lowAt_set s.data.toList k hl
      have hcase := lowC_case s.data.toList[k]
      have hsame := lowAt_same s.data.toList k hl
      have HST := fun (c : UInt8) (n : Int) (hn : n = c.toNat) => hide (ha.set k hl' c n hn)
      generalize s.data.toList[k] = c at hcell hset hcase hsame
      have HA := hide ha
      have HSET := hide hset
      clear ha hset
      rcases hcase with ⟨c1, c2, c3⟩ | ⟨c1, c2⟩
      · clear hsame
        go_wp2
        go_roundw
        case rel => exact ⟨k + 1, by omega, by go_num, by rw [← HSET.out]; exact (HST (lowC c) _ (by omega)).out⟩
        case measure => simp [intOf]; omega
      · have HS := hide (hsame c2)
        clear hsame c2
        rcases c1 with c1 | ⟨c0, c1⟩
        all_goals
          go_wp2
          go_roundw
          case rel => exact ⟨k + 1, by omega, by go_num, by rw [← HS.out]; exact HA.out⟩
          case measure => simp [intOf]; omega
    · have hc := ha.convert cap
      rw [lowAt_length, toList_length] at hc
      go_wp2
      go_ret
      exact ⟨ret_str (by rw [lowAt_end _ _ (by rw [toList_length]; omega)]), ha.below⟩
end Go.Proofs.YtlhjdjjbmljilaaDoor
