import Derived.Test.YtiejmkjpgjbodaaGreatDoorSerS
import Derived.IntWalk
namespace Go.Proofs.YtiejmkjpgjbodaaGreatDoor
open Go.RowKit
set_option linter.unusedVariables false
set_option linter.unusedSimpArgs false
set_option maxRecDepth 100000
def dpL : List (NdH × Tr) → Nat
  | [] => 0
  | p :: r => max (1 + p.2.depth) (dpL r)
theorem dpL_list (T : Tr) : T.depth = dpL T.list := by
  induction T with
  | nil => rfl
  | cons h K R _ ih => simp only [Tr.depth, Tr.list, dpL, ih]
theorem dpL_snoc (l : List (NdH × Tr)) (p : NdH × Tr) : dpL (l ++ [p]) = max (dpL l) (1 + p.2.depth) := by
  induction l with
  | nil => simp [dpL]
  | cons q r ih => simp only [List.cons_append, dpL, ih]; omega
theorem depth_count (T : Tr) : T.depth ≤ T.count := by
  induction T with
  | nil => exact Nat.le_refl _
  | cons h K R ihk ihr => simp only [Tr.depth, Tr.count]; omega
theorem at_depth {T : Tr} {k : Nat} {f : NdH} {K : Tr} (h : T.list[k]? = some (f, K)) : 1 + K.depth ≤ T.depth ∧ K.count < T.count := by
  induction T generalizing k with
  | nil => cases h
  | cons g K2 R _ ih =>
    cases k with
    | zero =>
      simp only [Tr.list, List.getElem?_cons_zero, Option.some.injEq, Prod.mk.injEq] at h
      rw [← h.2]
      simp only [Tr.depth, Tr.count]; omega
    | succ k =>
      have := ih (by simpa [Tr.list] using h)
      simp only [Tr.depth, Tr.count]; omega
set_option maxHeartbeats 8000000 in
theorem depthR_step (N : Nat) (IH : ∀ (v : Value) (T : Tr) (w : World), T.count < N → T.count ≤ 2000000 → NodesIn w v T → Calls Tryz.prog 10 #[v] w fun e w' => e = .returned (.int .i64 (T.depth : Int)) ∧ Below w.heap.size w w') :
    ∀ (v : Value) (T : Tr) (w : World), T.count < N + 1 → T.count ≤ 2000000 → NodesIn w v T → Calls Tryz.prog 10 #[v] w fun e w' => e = .returned (.int .i64 (T.depth : Int)) ∧ Below w.heap.size w w' := by
  intro v T w hN hc hT
  have hlen := Tr.len_count T
  have hdc := depth_count T
  obtain ⟨A, c, rfl⟩ := NodesC.form hT
  have H := hide hT
  have HIH := hide IH
  clear hT IH
  go_enter Tryz.func10, Tryz.ntmps10
  go_wp2_with fail
  go_loopw [3, 4] (fun nv i wr => ∃ k m : Nat, k ≤ T.len ∧ i = .int .i64 k ∧ nv = .int .i64 m ∧ m ≤ T.depth ∧ Hid (dpL (T.list.take k) = m) ∧ Hid (Below w.heap.size w wr)) (fun _ i _ => T.len - (intOf i).toNat)
  case atStart => exact ⟨0, 0, Nat.zero_le _, rfl, rfl, Nat.zero_le _, hide rfl, hide (Below.refl _ _)⟩
  case round =>
    obtain ⟨k, m, hk, rfl, rfl, hmb, HC, HB⟩ := hrel
    by_cases hlt : k < T.len
    · obtain ⟨⟨f, K⟩, hf⟩ : ∃ f, T.list[k]? = some f := ⟨_, List.getElem?_eq_getElem (by rw [Tr.len_list]; exact hlt)⟩
      have hI1 := H.out.kept HB.out
      obtain ⟨a, dd, x, y, zz, mm, ha, -, p1, p2, hA, p3, p4, hmm, hK⟩ := NodesC.at hI1 k f K hf
      subst ha hmm
      obtain ⟨hKd, hKc⟩ := at_depth hf
      have HCW := hide (HIH.out _ K wr (by omega) (by omega) hK)
      have HC2 : Hid (dpL (T.list.take (k + 1)) = max m (1 + K.depth)) := hide (by
        rw [List.take_add_one, hf, Option.toList_some, dpL_snoc, HC.out])
      obtain ⟨q, hq⟩ : ∃ q, q = K.depth := ⟨_, rfl⟩
      rw [← hq] at HCW hKd HC2
      clear hI1 hA hK hf hq
      go_wp2_with fail
      refine HCW.out.mono ?_
      rintro e w3 ⟨rfl, hb3⟩
      have HB3 := hide (bl_one HB.out hb3)
      clear hb3
      rcases Nat.lt_or_ge m (1 + q) with hmq | hmq
      · have HC3 : Hid (dpL (T.list.take (k + 1)) = 1 + q) := hide (by rw [HC2.out]; omega)
        go_wp2_with fail
        go_roundw
        case rel => exact ⟨k + 1, 1 + q, by omega, by go_num, by go_num, hKd, HC3, HB3⟩
        case measure => simp [intOf]; omega
      · have HC3 : Hid (dpL (T.list.take (k + 1)) = m) := hide (by rw [HC2.out]; omega)
        go_wp2_with fail
        go_roundw
        case rel => exact ⟨k + 1, m, by omega, by go_num, by go_num, hmb, HC3, HB3⟩
        case measure => simp [intOf]; omega
    · obtain rfl : k = T.len := by omega
      have HC2 := HC.out
      rw [← Tr.len_list, List.take_length, ← dpL_list] at HC2
      replace HC2 := hide HC2
      go_wp2_with fail
      go_ret
      exact ⟨by rw [HC2.out]; rfl, HB.out⟩
theorem depthR_all14 : ∀ N : Nat, ∀ (v : Value) (T : Tr) (w : World), T.count < N → T.count ≤ 2000000 → NodesIn w v T → Calls Tryz.prog 10 #[v] w fun e w' => e = .returned (.int .i64 (T.depth : Int)) ∧ Below w.heap.size w w'
  | 0 => fun v T w h => absurd h (by omega)
  | N + 1 => depthR_step N (depthR_all14 N)
theorem depthR_any (v : Value) (T : Tr) (w : World) (hT : NodesIn w v T) (hc : T.count ≤ 2000000) : Calls Tryz.prog 10 #[v] w fun e w' => e = .returned (.int .i64 (T.depth : Int)) ∧ Below w.heap.size w w' :=
  depthR_all14 (T.count + 1) v T w (Nat.lt_succ_self _) hc hT
end Go.Proofs.YtiejmkjpgjbodaaGreatDoor
