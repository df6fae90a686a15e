/- WALK of the law LinesCut. No statement is proved here. -/
import Derived.Test.YtcndklegoadjcaaDoorLinesLaw0
namespace Go.Proofs.YtcndklegoadjcaaDoor
open Go.RowKit
set_option linter.unusedVariables false
set_option linter.unusedSimpArgs false
set_option maxRecDepth 100000

set_option maxHeartbeats 4000000 in
theorem law_LinesCut (s : ByteArray) (w : World) : Calls Tryd.prog 7 #[.string s] w fun e w' => e = .returned (.bool true) ∧ Below w.heap.size w w' := by
  by_cases h_s : ¬ s.size ≤ 5000
  · go_enter Tryd.func7, Tryd.ntmps7
    go_wp2_with fail
    refine (short06_any s _).mono ?_
    rintro e wq ⟨rfl, rfl⟩
    rw [show decide (s.size ≤ 5000) = false from decide_eq_false h_s]
    go_wp2_with fail

    refine (live6_any _).mono ?_
    rintro e wl ⟨rfl, hbl⟩
    go_wp2_with fail
    go_ret
    exact ⟨rfl, (Below.refl w.heap.size w).trans (hbl.mono (Below.refl w.heap.size w).size)⟩

  replace h_s := Decidable.not_not.1 h_s
  have hs20 : s.size ≤ 1048576 := by omega
  obtain ⟨L, hL⟩ : ∃ L, L = cutL s.data.toList := ⟨_, rfl⟩
  have HLE := hide hL
  have hn : L.length ≤ 5000 := by
    rw [hL, ← each_cut, List.length_map]
    have := (each_sum s.data.toList).2.1
    rw [toList_length] at this; omega
  have HEN : Hid ((endsL L).length ≤ 15000) := hide (by rw [hL]; have := ends_size s.data.toList; rw [toList_length] at this; omega)
  have HLF : Hid (∀ x ∈ L, (10 : UInt8) ∉ x) := hide (by rw [hL]; exact cutL_lf _)
  have HXZ : Hid (∀ x ∈ L, x.length ≤ 5000) := hide (by
    rw [hL, ← each_cut]
    intro x hx
    obtain ⟨p, hp, rfl⟩ := List.mem_map.1 hx
    have := ((each_sum s.data.toList).2.2 p hp).1
    rw [toList_length] at this; omega)
  clear hL
  go_enter Tryd.func7, Tryd.ntmps7
  go_wp2_with fail
  refine (short06_any s _).mono ?_
  rintro e wq ⟨rfl, rfl⟩
  rw [show decide (s.size ≤ 5000) = true from decide_eq_true h_s]
  go_wp2_with fail

  refine (cut_any06 s hs20 _).mono ?_
  rintro e w1 ⟨v1, rfl, hs1⟩
  rw [← HLE.out] at hs1
  obtain ⟨A, c, rfl⟩ := hs1.slice_len
  rw [List.length_map] at hs1
  rw [List.length_map]
  have K1 := hide hs1.below
  have T1 := hide hs1.texts
  clear hs1
  go_wp2_with fail
  go_loop [4, 5] (fun t i => ∃ (k : Nat) (T : ByteArray), k ≤ L.length ∧ i = .int .i64 k ∧ t = .string T ∧ T.size ≤ 15000 ∧ Hid (T = str (endsL (L.take k)))) (fun _ i => L.length - (intOf i).toNat)
  case atStart => exact ⟨0, ⟨#[]⟩, Nat.zero_le _, rfl, rfl, Nat.zero_le _, hide rfl⟩
  case round =>
    obtain ⟨k, T, hk, rfl, rfl, hTs, HT⟩ := hrel
    by_cases hlt : k < L.length
    · obtain ⟨x, hx⟩ : ∃ x, L[k]? = some x := ⟨_, List.getElem?_eq_getElem hlt⟩
      obtain ⟨X, hX⟩ : ∃ X, X = str x := ⟨_, rfl⟩
      obtain ⟨a, ha, hc1⟩ := T1.out.at k X (by rw [List.getElem?_map, hx, hX]; rfl)
      subst ha
      have hxm := List.mem_of_getElem? hx
      have hXs : X.size ≤ 5000 := by rw [hX, str_size]; exact HXZ.out x hxm
      have H10 : Hid (∀ (j : Nat) (hj : j < X.size), X[j] ≠ 10) := hide (fun j hj e => HLF.out x hxm (by
        have h2 : X.data.toList = x := by rw [hX, str_toList]
        rw [← h2, ← e]
        exact Array.getElem_mem_toList hj))
      have HN : Hid (T ++ X ++ ⟨#[13, 10]⟩ = str (endsL (L.take (k + 1)))) := hide (by
        rw [ends_step hx, HT.out, hX]
        apply ext_list
        simp [str])
      have hNs : T.size + X.size + 2 ≤ 15000 := by
        have h1 := congrArg ByteArray.size HN.out
        rw [ByteArray.size_append, ByteArray.size_append, str_size] at h1
        have h2 := ends_take L (k + 1)
        have h3 := HEN.out
        have h4 : (⟨#[13, 10]⟩ : ByteArray).size = 2 := rfl
        omega
      have HNS := hide hNs
      clear hx hX hxm hNs
      go_wp2_with fail
      go_loop [6] (fun i => ∃ j : Nat, j ≤ X.size ∧ i = .int .i64 j) (fun i => X.size - (intOf i).toNat)
      case atStart => exact ⟨0, Nat.zero_le _, rfl⟩
      case round =>
        obtain ⟨j, hj, rfl⟩ := hrel
        by_cases hjl : j < X.size
        · have q0 : ((X[j].toNat : Int) == 10) = false := tF 10 (H10.out j hjl) (by omega)
          go_wp2_with fail
          go_round
          case rel => exact ⟨j + 1, by omega, by go_num⟩
          case measure => simp [intOf]; omega
        · go_wp2_with fail
          go_round
          case rel => exact ⟨k + 1, _, by omega, by go_num, rfl, by simp only [ByteArray.size_append]; exact HNS.out, HN⟩
          case measure => simp [intOf]; omega
    · have HTT : Hid (cutL T.data.toList = L) := hide (by
        rw [HT.out, List.take_of_length_le (by omega), str_toList]; exact cut_ends L HLF.out)
      have hT20 : T.size ≤ 1048576 := by omega
      have HLL : Hid ((L.map str).length ≤ 1048576) := hide (by rw [List.length_map]; omega)
      go_wp2_with fail
      refine (cut_any06 T hT20 _).mono ?_
      rintro e w2 ⟨v2, rfl, hs2⟩
      rw [HTT.out] at hs2
      obtain ⟨A2, c2, rfl⟩ := hs2.slice_len
      rw [List.length_map] at hs2
      rw [List.length_map]
      have K2 := hide (K1.out.trans (hs2.below.mono K1.out.size))
      have T12 := hide (T1.out.kept hs2.below)
      have T2 := hide hs2.texts
      clear hs2
      go_wp2_with fail
      refine (texts06_any _ _ (L.map str) (L.map str) _ T2.out T12.out HLL.out).mono ?_
      rintro e w3 ⟨rfl, hb3⟩
      rw [show decide (L.map str = L.map str) = true from decide_eq_true rfl]
      have K3 := hide (K2.out.trans (hb3.mono K2.out.size))
      clear hb3
      go_wp2_with fail
      refine (live6_any _).mono ?_
      rintro e wl ⟨rfl, hbl⟩
      go_wp2_with fail
      go_ret
      exact ⟨rfl, (K3.out).trans (hbl.mono (K3.out).size)⟩

end Go.Proofs.YtcndklegoadjcaaDoor
