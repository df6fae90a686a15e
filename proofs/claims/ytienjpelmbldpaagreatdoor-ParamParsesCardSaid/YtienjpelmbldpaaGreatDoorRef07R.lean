/- WALKS of the reference of layer 7: raw. No statement is proved here. -/
import Derived.Test.YtienjpelmbldpaaGreatDoorRef07T
import Derived.Test.YtienjpelmbldpaaGreatDoorBaseO
import Derived.Deep.RegionWith
namespace Go.Proofs.YtienjpelmbldpaaGreatDoor
open Go.RowKit
set_option linter.unusedVariables false
set_option linter.unusedSimpArgs false
set_option maxRecDepth 100000
def rawV (l : List UInt8) : Value :=
  if hasC 61 l = true then .tuple #[.string (str (tsL (beforeC 61 l))), .string (str (rvL (afterC 61 l))), .bool true] else .tuple #[.string ⟨#[]⟩, .string ⟨#[]⟩, .bool false]
theorem cut_first {s : ByteArray} {k : Nat} (h : k < s.size) (h61 : s[k] = 61) (hn : ∀ c ∈ s.data.toList.take k, c ≠ 61) :
    hasC 61 s.data.toList = true ∧ beforeC 61 s.data.toList = (s.extract 0 k).data.toList ∧ afterC 61 s.data.toList = (s.extract (k + 1) s.size).data.toList := by
  have e : s.data.toList = s.data.toList.take k ++ 61 :: s.data.toList.drop (k + 1) := by
    conv => lhs; rw [← List.take_append_drop k s.data.toList, drop_cons s k h, h61]
  have hk : (61 : UInt8) ∉ s.data.toList.take k := fun hm => hn 61 hm rfl
  obtain ⟨c1, c2⟩ := cut_here 61 (s.data.toList.take k) (s.data.toList.drop (k + 1)) hk
  refine ⟨?_, ?_, ?_⟩
  · rw [e]; exact hasC_true (List.mem_append_right _ (List.mem_cons_self ..))
  · rw [e, c1, extract_list, List.drop_zero]
  · rw [e, c2, extract_end]
theorem rvL_plain {l : List UInt8} {V : ByteArray} (hV : V.data.toList = trP l) (h : V.size = 0 ∨ ∃ h : 0 < V.size, V[0] ≠ 34) : rvL l = V.data.toList := by
  unfold rvL
  rw [← hV]
  have : readQ V.data.toList = ([], 0) := by
    rcases h with h | ⟨h0, h1⟩
    · have : V.data.toList = [] := List.eq_nil_of_length_eq_zero (by rw [toList_length]; exact h)
      rw [this]; rfl
    · have e := drop_cons V 0 h0
      rw [List.drop_zero] at e
      rw [e]
      unfold readQ
      simp only
      rw [if_neg (by simpa using h1)]
  rw [this]
  exact if_neg (Nat.lt_irrefl 0)
theorem rvL_quoted {l : List UInt8} {V : ByteArray} (hV : V.data.toList = trP l) (h0 : 0 < V.size) (h1 : V[0] = 34) : rvL l = (qrd false (V.data.toList.drop 1)).1 := by
  unfold rvL
  rw [← hV]
  have e := drop_cons V 0 h0
  rw [List.drop_zero, h1] at e
  rw [e]
  unfold readQ
  simp only [beq_self_eq_true, if_true, List.drop_succ_cons, List.drop_zero]
  rw [if_pos (Nat.succ_pos _)]
theorem qrd_end (r : List UInt8) {c : UInt8} (h : c = 34) : (qrd false (c :: r)).1 = [] := by subst h; rw [qrd_cons7]; rfl
theorem qrd_esc7 {r : List UInt8} {c d : UInt8} (h : c = 92) : (qrd false (c :: d :: r)).1 = d :: (qrd false r).1 := by
  subst h
  rw [qrd_cons7, qrd_cons7]; rfl
theorem qrd_esc1 {c : UInt8} (h : c = 92) : (qrd false [c]).1 = [] := by subst h; rfl
theorem qrd_next {r : List UInt8} {c : UInt8} (h34 : c ≠ 34) (h92 : c ≠ 92) : (qrd false (c :: r)).1 = c :: (qrd false r).1 := by
  have b34 : (c == 34) = false := beq_eq_false_iff_ne.2 h34
  have b92 : (c == 92) = false := beq_eq_false_iff_ne.2 h92
  rw [qrd_cons7, b34, b92]; rfl
set_option maxHeartbeats 8000000 in
theorem raw07_any (s : ByteArray) (w : World) (hs : s.size ≤ 1048576) :
    Calls Tryz.prog 24 #[.string s] w fun e w' => e = .returned (rawV s.data.toList) ∧ Below w.heap.size w w' := by
  go_enter Tryz.func24, Tryz.ntmps24
  go_wp2_with fail
  go_loopw [5] (fun iv wr => ∃ k : Nat, k ≤ s.size ∧ iv = .int .i64 k ∧ Hid (∀ c ∈ s.data.toList.take k, c ≠ 61) ∧ Hid (wr = w)) (fun iv _ => s.size - (intOf iv).toNat)
  case atStart => exact ⟨0, Nat.zero_le _, rfl, hide (by simp), hide rfl⟩
  case round =>
    obtain ⟨k, hk, rfl, HN, HW⟩ := hrel
    obtain rfl := HW.out
    by_cases hlt : k < s.size
    · by_cases h61 : s[k] = 61
      · have t0 : ((s[k].toNat : Int) == 61) = true := tT 61 h61 (by omega)
        have t0b : ((s[k].toNat : Int) != 61) = false := by rw [bne, t0]; rfl
        obtain ⟨c1, c2, c3⟩ := cut_first hlt h61 HN.out
        have k1 : (k : Int) + 1 ≤ s.size := by omega
        have k2 : (k : Int) ≤ s.size := by omega
        obtain ⟨X, hX⟩ : ∃ X, X = s.extract (k + 1) s.size := ⟨_, rfl⟩
        obtain ⟨Y, hY⟩ : ∃ Y, Y = s.extract 0 k := ⟨_, rfl⟩
        rw [← hX] at c3
        rw [← hY] at c2
        have hXz : X.size ≤ 1048576 := by rw [hX, ByteArray.size_extract]; omega
        have hYz : Y.size ≤ 1048576 := by rw [hY, ByteArray.size_extract]; omega
        obtain ⟨V, hV⟩ : ∃ V, V = str (trP X.data.toList) := ⟨_, rfl⟩
        obtain ⟨T, hT⟩ : ∃ T, T = str (trP Y.data.toList) := ⟨_, rfl⟩
        obtain ⟨U, hU⟩ : ∃ U, U = str (tsL Y.data.toList) := ⟨_, rfl⟩
        have hVl : V.data.toList = trP X.data.toList := by rw [hV, str_toList]
        have hTl : T.data.toList = trP Y.data.toList := by rw [hT, str_toList]
        have hVz : V.size ≤ 1048576 := by rw [hV, str_size]; have := trP_length X.data.toList; rw [toList_length] at this; omega
        have hTz : T.size ≤ 1048576 := by rw [hT, str_size]; have := trP_length Y.data.toList; rw [toList_length] at this; omega
        have CX := hide (fun (w : World) => trim07_any X w (by unfold maxLen; omega))
        have CY := hide (fun (w : World) => trim07_any Y w (by unfold maxLen; omega))
        have CS := hide (fun (w : World) => small_any T w (by omega))
        rw [← hV] at CX
        rw [← hT] at CY
        rw [hTl, show str (lowL (trP Y.data.toList)) = U from hU.symm] at CS
        have HRV : Hid (rawV s.data.toList = .tuple #[.string U, .string (str (rvL X.data.toList)), .bool true]) := hide (by
          unfold rawV; rw [if_pos c1, c2, c3, hU])
        have HXE := hide hX
        have HYE := hide hY
        by_cases hp : V.size = 0 ∨ ∃ h : 0 < V.size, V[0] ≠ 34
        · have HF : Hid (rawV s.data.toList = .tuple #[.string U, .string V, .bool true]) := hide (by rw [HRV.out, rvL_plain hVl hp, str_of])
          clear h61 c1 c2 c3 hX hY hXz hYz hV hT hU hVl hTl hTz HRV
          by_cases h0 : V.size = 0
          · have tv : V.toList.isEmpty = true := by
              have : V.data.toList = [] := List.eq_nil_of_length_eq_zero (by rw [toList_length]; exact h0)
              rw [bytes_list, this]; rfl
            clear hp
            go_wp2_with fail
            rw [← HXE.out]
            refine (CX.out _).mono ?_
            rintro e w1 ⟨rfl, rfl⟩
            go_wp2_with (first
              | (go_at_call 28; rw [← HYE.out]; refine (CY.out _).mono ?_; rintro e w2 ⟨rfl, rfl⟩)
              | (go_at_call 27; refine (CS.out _).mono ?_; rintro e w3 ⟨rfl, hb3⟩; have HB3 := hide hb3; clear hb3))
            go_ret3
            exact ⟨by rw [HF.out] <;> rfl, HB3.out⟩
          · have tv : V.toList.isEmpty = false := by
              rw [bytes_list]
              cases hl : V.data.toList with
              | nil => exact absurd (by rw [← toList_length, hl]; rfl) h0
              | cons _ _ => rfl
            have hlt0 : 0 < V.size := by omega
            have tn : ((V[0].toNat : Int) == 34) = false := tF 34 (by rcases hp with h | ⟨h, h1⟩; exact absurd h h0; exact h1) (by omega)
            have tnb : ((V[0].toNat : Int) != 34) = true := by rw [bne, tn]; rfl
            clear hp h0
            go_wp2_with fail
            rw [← HXE.out]
            refine (CX.out _).mono ?_
            rintro e w1 ⟨rfl, rfl⟩
            go_wp2_with (first
              | (go_at_call 28; rw [← HYE.out]; refine (CY.out _).mono ?_; rintro e w2 ⟨rfl, rfl⟩)
              | (go_at_call 27; refine (CS.out _).mono ?_; rintro e w3 ⟨rfl, hb3⟩; have HB3 := hide hb3; clear hb3))
            go_ret3
            exact ⟨by rw [HF.out] <;> rfl, HB3.out⟩
        · have hlt0 : 0 < V.size := by
            rcases Nat.eq_zero_or_pos V.size with h | h
            · exact absurd (.inl h) hp
            · exact h
          have h34 : V[0] = 34 := by
            refine Classical.byContradiction fun h => hp (.inr ⟨hlt0, h⟩)
          have HF : Hid (rawV s.data.toList = .tuple #[.string U, .string (str (qrd false (V.data.toList.drop 1)).1), .bool true]) := hide (by rw [HRV.out, rvL_quoted hVl hlt0 h34])
          have tv : V.toList.isEmpty = false := by
            rw [bytes_list]
            cases hl : V.data.toList with
            | nil => exact absurd (show V.size = 0 by rw [← toList_length, hl]; rfl) (by omega)
            | cons _ _ => rfl
          have tn : ((V[0].toNat : Int) == 34) = true := tT 34 h34 (by omega)
          have tnb : ((V[0].toNat : Int) != 34) = false := by rw [bne, tn]; rfl
          obtain ⟨R, hR⟩ : ∃ R, R = (qrd false (V.data.toList.drop 1)).1 := ⟨_, rfl⟩
          rw [← hR] at HF
          have HR := hide hR
          have HVZ := hide hVz
          clear h61 c1 c2 c3 hX hY hXz hYz hV hT hU hVl hTl hTz HRV hp h34 hR
          go_wp2_with fail
          rw [← HXE.out]
          refine (CX.out _).mono ?_
          rintro e w1 ⟨rfl, hw1⟩
          have HW1 := hide hw1
          clear hw1
          have HB0 := hide (Buf.nil (Below.refl w1.heap.size w1) (Nat.le_refl _))
          go_wp2_with fail
          go_loopw [7, 8] (fun ov jv wr => ∃ (j : Nat) (acc : List UInt8), 1 ≤ j ∧ j ≤ V.size ∧ jv = .int .i64 j ∧ Hid (Buf w1.heap.size ov acc w1 wr) ∧ Hid (acc.length ≤ j) ∧ Hid (acc ++ (qrd false (V.data.toList.drop j)).1 = R)) (fun _ jv _ => V.size - (intOf jv).toNat)
          case atStart => exact ⟨1, [], Nat.le_refl _, hlt0, rfl, HB0, hide (by simp), hide (by rw [HR.out]; rfl)⟩
          case round =>
            obtain ⟨j, acc, hj1, hj, rfl, HB, HL, HG⟩ := hrel
            clear tn tnb
            by_cases hjl : j < V.size
            · have hdr := drop_cons V j hjl
              have hG := HG.out
              rw [hdr] at hG
              by_cases h34 : V[j] = 34
              · have u0 : ((V[j].toNat : Int) == 34) = true := tT 34 h34 (by omega)
                have u0b : ((V[j].toNat : Int) != 34) = false := by rw [bne, u0]; rfl
                have HE : Hid (acc = R) := hide (by rw [← hG, qrd_end _ h34, List.append_nil])
                clear hdr hG h34
                have hcd := HB.out.drew.convert
                go_wp2_with fail
                go_region_with (first
                  | (rw [← HYE.out]; refine (CY.out _).mono ?_; rintro e w2 ⟨rfl, rfl⟩)
                  | (refine (CS.out _).mono ?_; rintro e w3 ⟨rfl, hb3⟩; have HB3 := hide (HB.out.drew.kept hb3); have hcv := HB3.out.convert; clear hb3))
                all_goals
                  try go_wp2_with fail
                  go_ret3
                  exact ⟨by rw [HF.out, ← HE.out] <;> rfl, by have h := HW1.out; subst h; exact HB3.out.below⟩
              · have u0 : ((V[j].toNat : Int) == 34) = false := tF 34 h34 (by omega)
                have u0b : ((V[j].toNat : Int) != 34) = true := by rw [bne, u0]; rfl
                by_cases h92 : V[j] = 92
                · have u1 : ((V[j].toNat : Int) == 92) = true := tT 92 h92 (by omega)
                  by_cases hj2 : j + 1 < V.size
                  · have t3 : ((j : Int) + 1 == V.size) = false := by rw [beq_eq_false_iff_ne]; omega
                    have HGN : Hid ((acc ++ [V[j + 1]'hj2]) ++ (qrd false (V.data.toList.drop (j + 2))).1 = R) := hide (by
                      rw [drop_cons V (j + 1) hj2, qrd_esc7 h92] at hG
                      rw [← hG, List.append_assoc]; rfl)
                    have HLN : Hid (acc.length + 1 ≤ 140737488355328) := hide (by have := HL.out; have := HVZ.out; omega)
                    have q1 : IntKind.i64.wrap ((j : Int) + 1) = (j : Int) + 1 := IntWalk.i64_in _ (by have := HVZ.out; omega)
                    have n1 : ((j : Int) + 1).toNat = j + 1 := by omega
                    have e1 : (j : Int) + 1 < V.size := by omega
                    have e0 : (0 : Int) ≤ (j : Int) + 1 := by omega
                    clear hdr hG h34 h92
                    go_wp2_with (at_builtin; go_must (refine wpList_buf_byte rfl _ _ rfl w1.heap.size u7 acc rfl w1 wr (V[j + 1]'hj2) HB.out rfl HLN.out ?_; intro v2 w2 hb2; have HB2 := hide hb2; clear hb2))
                    go_roundw
                    case rel => exact ⟨j + 2, _, by omega, by omega, by go_num, HB2, hide (by have := HL.out; simp; omega), HGN⟩
                    case measure => simp [intOf]; omega
                  · have t3 : ((j : Int) + 1 == V.size) = true := by rw [beq_iff_eq]; omega
                    have HE : Hid (acc = R) := hide (by rw [drop_nil V (j + 1) (by omega), qrd_esc1 h92, List.append_nil] at hG; exact hG)
                    have q1 : IntKind.i64.wrap ((j : Int) + 1) = (j : Int) + 1 := IntWalk.i64_in _ (by have := HVZ.out; omega)
                    clear hdr hG h34 h92
                    have hcd := HB.out.drew.convert
                    go_wp2_with fail
                    go_region_with (first
                      | (rw [← HYE.out]; refine (CY.out _).mono ?_; rintro e w2 ⟨rfl, rfl⟩)
                      | (refine (CS.out _).mono ?_; rintro e w3 ⟨rfl, hb3⟩; have HB3 := hide (HB.out.drew.kept hb3); have hcv := HB3.out.convert; clear hb3))
                    all_goals
                      try go_wp2_with fail
                      go_ret3
                      exact ⟨by rw [HF.out, ← HE.out] <;> rfl, by have h := HW1.out; subst h; exact HB3.out.below⟩
                · have u1 : ((V[j].toNat : Int) == 92) = false := tF 92 h92 (by omega)
                  have HGN : Hid ((acc ++ [V[j]]) ++ (qrd false (V.data.toList.drop (j + 1))).1 = R) := hide (by
                    rw [qrd_next h34 h92] at hG
                    rw [← hG, List.append_assoc]; rfl)
                  have HLN : Hid (acc.length + 1 ≤ 140737488355328) := hide (by have := HL.out; have := HVZ.out; omega)
                  clear hdr hG h34 h92
                  go_wp2_with (refine wpList_buf_byte rfl _ _ rfl w1.heap.size u7 acc rfl w1 _ (V[j]'hjl) HB.out rfl HLN.out ?_; intro v2 w2 hb2; have HB2 := hide hb2; clear hb2)
                  go_roundw
                  case rel => exact ⟨j + 1, _, by omega, by omega, by go_num, HB2, hide (by have := HL.out; simp; omega), HGN⟩
                  case measure => simp [intOf]; omega
            · have HE : Hid (acc = R) := hide (by
                have hG := HG.out
                rw [drop_nil V j (by omega)] at hG
                rw [← hG]; exact (List.append_nil _).symm)
              have hcd := HB.out.drew.convert
              go_wp2_with fail
              go_region_with (first
                | (rw [← HYE.out]; refine (CY.out _).mono ?_; rintro e w2 ⟨rfl, rfl⟩)
                | (refine (CS.out _).mono ?_; rintro e w3 ⟨rfl, hb3⟩; have HB3 := hide (HB.out.drew.kept hb3); have hcv := HB3.out.convert; clear hb3))
              all_goals
                try go_wp2_with fail
                go_ret3
                exact ⟨by rw [HF.out, ← HE.out] <;> rfl, by have h := HW1.out; subst h; exact HB3.out.below⟩
      · have t0 : ((s[k].toNat : Int) == 61) = false := tF 61 h61 (by omega)
        have t0b : ((s[k].toNat : Int) != 61) = true := by rw [bne, t0]; rfl
        have HNN : Hid (∀ c ∈ s.data.toList.take (k + 1), c ≠ 61) := hide (by
          intro c hc
          rw [take_snoc s k hlt, List.mem_append, List.mem_singleton] at hc
          rcases hc with hc | rfl
          · exact HN.out c hc
          · exact h61)
        clear h61
        go_wp2_with fail
        go_roundw
        case rel => exact ⟨k + 1, by omega, by go_num, HNN, by first | exact trivial | exact hide rfl⟩
        case measure => simp [intOf]; omega
    · have HF : Hid (rawV s.data.toList = .tuple #[.string ⟨#[]⟩, .string ⟨#[]⟩, .bool false]) := hide (by
        have h1 := HN.out
        rw [List.take_of_length_le (by rw [toList_length]; omega)] at h1
        unfold rawV
        rw [if_neg]
        rw [hasC_false (fun hm => h1 61 hm rfl)]; decide)
      go_wp2_with fail
      go_ret3
      exact ⟨by rw [HF.out] <;> rfl, Below.refl _ _⟩
end Go.Proofs.YtienjpelmbldpaaGreatDoor
