/- WALK of the reference's quoted. No statement is proved here. -/
import Derived.Test.YtienjpelmbldpaaGreatDoorRef05
namespace Go.Proofs.YtienjpelmbldpaaGreatDoor
open Go.RowKit
set_option linter.unusedVariables false
set_option linter.unusedSimpArgs false

set_option maxRecDepth 100000 in
set_option maxHeartbeats 4000000 in
theorem refQuoted_any (s : ByteArray) (w : World) (hs : s.size ≤ 70368744177664) :
    Calls Tryz.prog 108 #[.string s] w fun e w' => e = .returned (.string (str (qdec s.data.toList))) ∧ Below w.heap.size w w' := by
  have hb0 : Buf w.heap.size (.slice none 0 0) [] w w := Buf.nil (Below.refl _ _) (Nat.le_refl _)
  have HB0 := hide hb0
  clear hb0
  go_enter Tryz.func108, Tryz.ntmps108
  go_wp2
  go_loopw [3, 4] (fun v i wr => ∃ (k : Nat) (acc : List UInt8), k ≤ s.size ∧ i = .int .i64 k ∧ Buf w.heap.size v acc w wr ∧ acc.length ≤ k ∧ acc ++ qdec (s.data.toList.drop k) = qdec s.data.toList) (fun _ i _ => s.size - (intOf i).toNat)
  case atStart => exact ⟨0, [], Nat.zero_le _, rfl, HB0.out, Nat.le_refl _, by simp⟩
  case round =>
    obtain ⟨k, acc, hk, rfl, hb, hacc, hd⟩ := hrel
    have HB := hide hb
    clear hb
    by_cases hlt : k < s.size
    · have hne : s.data.toList.drop k = s[k] :: s.data.toList.drop (k + 1) := drop_cons s k hlt
      have hR := qdec_round hd hne
      rw [List.drop_drop] at hR
      clear hd
      rcases qStep_cases s[k] (s.data.toList.drop (k + 1)) with ⟨h95, hp⟩ | hrest
      · rw [hp] at hR
        have HR := hide hR
        have t0 : ((s[k].toNat : Int) == 95) = true := tT 95 h95 (by omega)
        clear hR hne hp h95
        go_wp2_with (refine wpList_buf_const rfl _ _ rfl w.heap.size u3 acc rfl w wr 32 32 rfl HB.out rfl (by omega) ?_; intro v2 w2 hb2 _; have HB2 := hide hb2; clear hb2)
        go_roundw
        case rel => exact ⟨k + 1, acc ++ [32], by omega, by go_num, HB2.out, by simp; omega, HR.out⟩
        case measure => simp [intOf]; omega
      have h95 : s[k] ≠ 95 := by
        rcases hrest with ⟨h, _⟩ | ⟨h, _⟩ | ⟨h, _⟩
        · rw [h]; decide
        · rw [h]; decide
        · exact h
      have t95 : ((s[k].toNat : Int) == 95) = false := tF 95 h95 (by omega)
      clear h95
      have hrest2 : (s[k] = 61 ∧ ∃ b, hex2 (s.data.toList.drop (k + 1)) = some b ∧ qStep s[k] (s.data.toList.drop (k + 1)) = (b, 3) ∧ 2 ≤ (s.data.toList.drop (k + 1)).length) ∨ ((s[k] ≠ 61 ∨ hex2 (s.data.toList.drop (k + 1)) = none) ∧ qStep s[k] (s.data.toList.drop (k + 1)) = (s[k], 1)) := by
        rcases hrest with h | ⟨_, h, hp⟩ | ⟨_, h, hp⟩
        · exact .inl h
        · exact .inr ⟨.inr h, hp⟩
        · exact .inr ⟨.inl h, hp⟩
      clear hrest
      rcases hrest2 with ⟨h37, b, hx, hp, hlen⟩ | ⟨h, hp⟩
      · rw [hp] at hR
        rw [List.length_drop, toList_length] at hlen
        have h2 : k + 2 < s.size := by omega
        have t0 : ((s[k].toNat : Int) == 61) = true := tT 61 h37 (by omega)
        rw [drop_cons s (k + 1) (by omega), drop_cons s (k + 2) h2, hex2] at hx
        have hh : (hexN s[k + 1] < 16 ∧ hexN s[k + 2] < 16) ∧ UInt8.ofNat (16 * hexN s[k + 1] + hexN s[k + 2]) = b := by
          by_cases hh : hexN s[k + 1] < 16 ∧ hexN s[k + 2] < 16
          · rw [if_pos hh] at hx; exact ⟨hh, Option.some.inj hx⟩
          · rw [if_neg hh] at hx; cases hx
        obtain ⟨⟨ha, hbb⟩, hbv⟩ := hh
        have HR := hide hR
        have HA := hide (hexI_pos ha)
        have HBB := hide (hexI_pos hbb)
        have e1 : (k : Int) + 1 < s.size := by omega
        have e2 : (k : Int) + 2 < s.size := by omega
        have hby : (b.toNat : Int) = 16 * (hexN s[k + 1] : Int) + (hexN s[k + 2] : Int) := by rw [← hbv, UInt8.toNat_ofNat', Nat.mod_eq_of_lt (by omega)]; omega
        have HBY := hide hby
        clear hR hne hx h37 hp hby hbv
        go_wp2_with fail
        refine (refHex_any _ _).mono ?_
        rintro e w1 ⟨rfl, rfl⟩
        rw [HA.out]
        go_wp2_with fail
        refine (refHex_any _ _).mono ?_
        rintro e w1 ⟨rfl, rfl⟩
        rw [HBB.out]
        go_wp2_with fail
        have q1 : IntKind.i64.wrap ((k : Int) + 1) = (k : Int) + 1 := IntWalk.i64_in _ (by omega)
        have q2 : IntKind.i64.wrap ((k : Int) + 2) = (k : Int) + 2 := IntWalk.i64_in _ (by omega)
        have q3 : IntKind.i64.wrap (16 * (hexN s[k + 1] : Int)) = 16 * (hexN s[k + 1] : Int) := IntWalk.i64_in _ (by omega)
        have q4 : IntKind.i64.wrap (16 * (hexN s[k + 1] : Int) + (hexN s[k + 2] : Int)) = 16 * (hexN s[k + 1] : Int) + (hexN s[k + 2] : Int) := IntWalk.i64_in _ (by omega)
        have q5 : IntKind.u8.wrap (16 * (hexN s[k + 1] : Int) + (hexN s[k + 2] : Int)) = 16 * (hexN s[k + 1] : Int) + (hexN s[k + 2] : Int) := IntWalk.u8_in _ (by omega)
        have n1 : ((k : Int) + 1).toNat = k + 1 := by omega
        have n2 : ((k : Int) + 2).toNat = k + 2 := by omega
        have hA := HA.out
        have hB := HBB.out
        go_region_law (first
          | (refine step_buf_byte rfl _ _ rfl w.heap.size u3 acc rfl w (HB.out.alloc _).drew ⟨wr.heap.size, 0, none⟩ rfl b ?_ (by omega) ?_
             · rw [HBY.out]
               show (wr.alloc _).cell? _ = _
               rw [World.cell?_alloc_at _ _ _ _ rfl]
               rfl
             intro v2 w2 hb2
             have HB2 := hide hb2
             clear hb2)
          | (go_simp; go_at_call 103; refine (refHex_any _ _).mono ?_; rintro e wx ⟨rfl, rfl⟩))
        all_goals
          go_wp2_with fail
          go_roundw
          case rel => exact ⟨k + 3, acc ++ _, by omega, by go_num, HB2.out, by simp; omega, HR.out⟩
          case measure => simp [intOf]; omega
      · rw [hp] at hR
        have HR := hide hR
        have hcase : s[k] ≠ 61 ∨ (s[k] = 61 ∧ (¬ k + 2 < s.size ∨ ∃ h2 : k + 2 < s.size, ¬ hexN s[k + 1] < 16 ∨ hexN s[k + 1] < 16 ∧ ¬ hexN s[k + 2] < 16)) := by
          by_cases h37 : s[k] = 61
          · refine .inr ⟨h37, ?_⟩
            have hn := h.resolve_left (fun e => e h37)
            by_cases h2 : k + 2 < s.size
            · refine .inr ⟨h2, ?_⟩
              rw [drop_cons s (k + 1) (by omega), drop_cons s (k + 2) h2, hex2] at hn
              by_cases ha : hexN s[k + 1] < 16
              · by_cases hb : hexN s[k + 2] < 16
                · rw [if_pos ⟨ha, hb⟩] at hn; cases hn
                · exact .inr ⟨ha, hb⟩
              · exact .inl ha
            · exact .inl h2
          · exact .inl h37
        clear hR hne h hp
        have hlt' : k + 1 ≤ s.size := hlt
        rcases hcase with h37 | ⟨h37, h2 | ⟨h2, ha | ⟨ha, hb⟩⟩⟩
        · have t0 : ((s[k].toNat : Int) == 61) = false := tF 61 h37 (by omega)
          clear h37
          go_wp2_with (refine wpList_buf_byte rfl _ _ rfl w.heap.size u3 acc rfl w wr s[k] HB.out rfl (by omega) ?_; intro v2 w2 hb2; have HB2 := hide hb2; clear hb2)
          go_roundw
          case rel => exact ⟨k + 1, acc ++ _, by omega, by go_num, HB2.out, by simp; omega, HR.out⟩
          case measure => simp [intOf]; omega
        all_goals
          have t0 : ((s[k].toNat : Int) == 61) = true := tT 61 h37 (by omega)
          clear h37
        · have e2 : ¬ (k : Int) + 2 < s.size := by omega
          go_wp2_with (refine wpList_buf_byte rfl _ _ rfl w.heap.size u3 acc rfl w wr s[k] HB.out rfl (by omega) ?_; intro v2 w2 hb2; have HB2 := hide hb2; clear hb2)
          go_roundw
          case rel => exact ⟨k + 1, acc ++ _, by omega, by go_num, HB2.out, by simp; omega, HR.out⟩
          case measure => simp [intOf]; omega
        · have HA := hide (hexI_neg ha)
          have e2 : (k : Int) + 2 < s.size := by omega
          have e1 : (k : Int) + 1 < s.size := by omega
          go_wp2_with (first
            | (refine wpList_buf_byte rfl _ _ rfl w.heap.size u3 acc rfl w wr s[k] HB.out rfl (by omega) ?_; intro v2 w2 hb2; have HB2 := hide hb2; clear hb2)
            | (go_at_call 103; refine (refHex_any _ _).mono ?_; rintro e wx ⟨rfl, rfl⟩; rw [HA.out]))
          go_roundw
          case rel => exact ⟨k + 1, acc ++ _, by omega, by go_num, HB2.out, by simp; omega, HR.out⟩
          case measure => simp [intOf]; omega
        · have HA := hide (hexI_pos ha)
          have HBB := hide (hexI_neg hb)
          have e2 : (k : Int) + 2 < s.size := by omega
          have e1 : (k : Int) + 1 < s.size := by omega
          go_wp2_with fail
          refine (refHex_any _ _).mono ?_
          rintro e w1 ⟨rfl, rfl⟩
          rw [HA.out]
          go_wp2_with fail
          refine (refHex_any _ _).mono ?_
          rintro e w1 ⟨rfl, rfl⟩
          rw [HBB.out]
          go_wp2_with (refine wpList_buf_byte rfl _ _ rfl w.heap.size u3 acc rfl w wr s[k] HB.out rfl (by omega) ?_; intro v2 w2 hb2; have HB2 := hide hb2; clear hb2)
          go_roundw
          case rel => exact ⟨k + 1, acc ++ _, by omega, by go_num, HB2.out, by simp; omega, HR.out⟩
          case measure => simp [intOf]; omega
    · have hcv := HB.out.convert
      go_wp2
      go_ret
      refine ⟨?_, HB.out.below⟩
      rw [drop_nil s k (by omega), qdec_nil, List.append_nil] at hd
      exact ret_str (by rw [hd])

end Go.Proofs.YtienjpelmbldpaaGreatDoor
