import Derived.Test.YtiejmkjpgjbodaaGreatDoorRef14K
import Derived.Test.YtiejmkjpgjbodaaGreatDoorSerS
namespace Go.Proofs.YtiejmkjpgjbodaaGreatDoor
open Go.RowKit
set_option linter.unusedVariables false
set_option linter.unusedSimpArgs false
set_option maxRecDepth 100000
theorem cntL_take (l : List (NdH × Tr)) (k : Nat) : cntL (l.take k) ≤ cntL l := by
  induction l generalizing k with
  | nil => simp
  | cons p r ih =>
    cases k with
    | zero => exact Nat.zero_le _
    | succ k => simp only [List.take_succ_cons, cntL]; have := ih k; omega
set_option maxHeartbeats 8000000 in
theorem countR_step (N : Nat) (IH : ∀ (v : Value) (T : Tr) (w : World), T.count < N → T.count ≤ 2000000 → NodesIn w v T → Calls Tryz.prog 16 #[v] w fun e w' => e = .returned (.int .i64 (T.count : Int)) ∧ Below w.heap.size w w') :
    ∀ (v : Value) (T : Tr) (w : World), T.count < N + 1 → T.count ≤ 2000000 → NodesIn w v T → Calls Tryz.prog 16 #[v] w fun e w' => e = .returned (.int .i64 (T.count : Int)) ∧ Below w.heap.size w w' := by
  intro v T w hN hc hT
  have hlen := Tr.len_count T
  obtain ⟨A, c, rfl⟩ := NodesC.form hT
  have H := hide hT
  have HIH := hide IH
  clear hT IH
  go_enter Tryz.func16, Tryz.ntmps16
  go_wp2_with fail
  go_loopw [3, 4] (fun nv i wr => ∃ k m : Nat, k ≤ T.len ∧ i = .int .i64 k ∧ nv = .int .i64 m ∧ m ≤ T.count ∧ Hid (cntL (T.list.take k) = m) ∧ Hid (Below w.heap.size w wr)) (fun _ i _ => T.len - (intOf i).toNat)
  case atStart => exact ⟨0, 0, Nat.zero_le _, rfl, rfl, Nat.zero_le _, hide rfl, hide (Below.refl _ _)⟩
  case round =>
    obtain ⟨k, m, hk, rfl, rfl, hmb, HC, HB⟩ := hrel
    by_cases hlt : k < T.len
    · obtain ⟨⟨f, K⟩, hf⟩ : ∃ f, T.list[k]? = some f := ⟨_, List.getElem?_eq_getElem (by rw [Tr.len_list]; exact hlt)⟩
      have hI1 := H.out.kept HB.out
      obtain ⟨a, dd, x, y, zz, mm, ha, -, p1, p2, hA, p3, p4, hmm, hK⟩ := NodesC.at hI1 k f K hf
      subst ha hmm
      have hKc := Tr.at_count hf
      have HCW := hide (HIH.out _ K wr (by omega) (by omega) hK)
      have HC2 : Hid (cntL (T.list.take (k + 1)) = m + 1 + K.count) := hide (by
        rw [List.take_add_one, hf, Option.toList_some, cntL_snoc, HC.out]; show m + (1 + K.count) = _; omega)
      have hm2 : m + 1 + K.count ≤ T.count := by
        rw [← HC2.out, cntL_list]; exact cntL_take _ _
      clear hI1 hA hK hf
      go_wp2_with fail
      refine HCW.out.mono ?_
      rintro e w3 ⟨rfl, hb3⟩
      have HB3 := hide (bl_one HB.out hb3)
      clear hb3
      go_wp2_with fail
      go_roundw
      case rel => exact ⟨k + 1, m + 1 + K.count, by omega, by go_num, by go_num, hm2, HC2, HB3⟩
      case measure => simp [intOf]; omega
    · obtain rfl : k = T.len := by omega
      have HC2 := HC.out
      rw [← Tr.len_list, List.take_length, ← cntL_list] at HC2
      replace HC2 := hide HC2
      go_wp2_with fail
      go_ret
      exact ⟨by rw [HC2.out]; rfl, HB.out⟩
theorem countR_all14 : ∀ N : Nat, ∀ (v : Value) (T : Tr) (w : World), T.count < N → T.count ≤ 2000000 → NodesIn w v T → Calls Tryz.prog 16 #[v] w fun e w' => e = .returned (.int .i64 (T.count : Int)) ∧ Below w.heap.size w w'
  | 0 => fun v T w h => absurd h (by omega)
  | N + 1 => countR_step N (countR_all14 N)
theorem countR_any (v : Value) (T : Tr) (w : World) (hT : NodesIn w v T) (hc : T.count ≤ 2000000) : Calls Tryz.prog 16 #[v] w fun e w' => e = .returned (.int .i64 (T.count : Int)) ∧ Below w.heap.size w w' :=
  countR_all14 (T.count + 1) v T w (Nat.lt_succ_self _) hc hT
end Go.Proofs.YtiejmkjpgjbodaaGreatDoor
