/- WALK of the reference's write, layer 12. No statement is proved here. -/
import Derived.Test.YtmojckphfbcibaaGreatDoorRef12P
namespace Go.Proofs.YtmojckphfbcibaaGreatDoor
open Go.RowKit
set_option linter.unusedVariables false
set_option linter.unusedSimpArgs false
set_option maxRecDepth 100000
theorem esc_case (q : Bool) (l : List UInt8) (c : UInt8) (t : List UInt8) (h : l = c :: t) :
    (c = 38 ∧ escQ q l = ampT ++ escQ q t) ∨ (c = 60 ∧ escQ q l = ltT ++ escQ q t) ∨ (c = 62 ∧ escQ q l = gtT ++ escQ q t) ∨ (c = 34 ∧ q = true ∧ escQ q l = quT ++ escQ q t) ∨ (c = 194 ∧ (∃ u, t = 160 :: u ∧ escQ q l = nbT ++ escQ q u)) ∨
    ((c ≠ 38 ∧ c ≠ 60 ∧ c ≠ 62 ∧ (c ≠ 34 ∨ (c = 34 ∧ q = false)) ∧ (c ≠ 194 ∨ (c = 194 ∧ ∀ u, t ≠ 160 :: u))) ∧ escQ q l = c :: escQ q t) := by
  subst h
  by_cases h1 : c = 38
  · subst h1; exact .inl ⟨rfl, escQ_some (n := 1) rfl⟩
  by_cases h2 : c = 60
  · subst h2; exact .inr (.inl ⟨rfl, escQ_some (n := 1) rfl⟩)
  by_cases h3 : c = 62
  · subst h3; exact .inr (.inr (.inl ⟨rfl, escQ_some (n := 1) rfl⟩))
  by_cases h4 : c = 34
  · subst h4
    cases q with
    | true => exact .inr (.inr (.inr (.inl ⟨rfl, rfl, escQ_quote t⟩)))
    | false => exact .inr (.inr (.inr (.inr (.inr ⟨⟨h1, h2, h3, .inr ⟨rfl, rfl⟩, .inl (by decide)⟩, escQ_none (look_off (by decide)) (by intro e; cases e.1)⟩))))
  by_cases h5 : c = 194
  · subst h5
    by_cases hu : ∃ u, t = 160 :: u
    · obtain ⟨u, rfl⟩ := hu
      exact .inr (.inr (.inr (.inr (.inl ⟨rfl, u, rfl, escQ_some (n := 2) rfl⟩))))
    · refine .inr (.inr (.inr (.inr (.inr ⟨⟨h1, h2, h3, .inl h4, .inr ⟨rfl, fun u e => hu ⟨u, e⟩⟩⟩, escQ_none ?_ (by intro e; exact h4 e.2)⟩))))
      match t, hu with
      | [], _ => rfl
      | a :: t, hu => exact look_194n (by rintro rfl; exact hu ⟨t, rfl⟩)
  · exact .inr (.inr (.inr (.inr (.inr ⟨⟨h1, h2, h3, .inl h4, .inl h5⟩, escQ_none (look_off (by rintro (e | e | e | e) <;> contradiction)) (by intro e; exact h4 e.2)⟩))))
set_option maxHeartbeats 8000000 in
theorem refWrite12_any (s : ByteArray) (q : Bool) (w : World) (hs : s.size ≤ 1048576) :
    Calls Tryz.prog 63 #[.string s, .bool q] w fun e w' => e = .returned (.string (str (escQ q s.data.toList))) ∧ Below w.heap.size w w' := by
  have hb0 : Buf w.heap.size (.slice none 0 0) [] w w := Buf.nil (Below.refl _ _) (Nat.le_refl _)
  have HB0 := hide hb0
  clear hb0
  go_enter Tryz.func63, Tryz.ntmps63
  go_wp2_with fail
  go_loopw [5, 6] (fun v i wr => ∃ (k : Nat) (acc : List UInt8), k ≤ s.size ∧ i = .int .i64 k ∧ Hid (Buf w.heap.size v acc w wr) ∧ Hid (acc.length ≤ 6 * k) ∧ Hid (acc ++ escQ q (s.data.toList.drop k) = escQ q s.data.toList)) (fun _ i _ => s.size - (intOf i).toNat)
  case atStart => exact ⟨0, [], Nat.zero_le _, rfl, HB0, hide (Nat.le_refl _), hide rfl⟩
  case round =>
    obtain ⟨k, acc, hk, rfl, HB, HL, HG⟩ := hrel
    by_cases hlt : k < s.size
    · have hG := HG.out
      have hL := HL.out
      have hdr := drop_cons s k hlt
      rcases esc_case q (s.data.toList.drop k) s[k] (s.data.toList.drop (k + 1)) hdr with ⟨hc, o⟩ | ⟨hc, o⟩ | ⟨hc, o⟩ | ⟨hc, hq, o⟩ | ⟨hc, u, hu, o⟩ | ⟨⟨c1, c2, c3, c4, c5⟩, o⟩
      ·
        have x38 : ((s[k].toNat : Int) == 38) = true := tT 38 (by exact hc) (by omega)
        have HGN : Hid ((acc ++ ampT) ++ escQ q (s.data.toList.drop (k + 1)) = escQ q s.data.toList) := hide (by rw [← hG, o]; simp)
        clear hG o hdr hc
        go_wp2_with (refine wpList_buf_text rfl _ _ rfl w.heap.size u5 acc rfl w HB.out (str ampT) rfl (by rw [str_size, show ampT.length = 5 from rfl]; omega) ?_; intro v2 w2 hb2; rw [str_toList] at hb2; have HB2 := hide hb2; clear hb2)
        go_roundw
        case rel => exact ⟨k + 1, _, by omega, by go_num, HB2, hide (by rw [List.length_append, show ampT.length = 5 from rfl]; omega), HGN⟩
        case measure => simp [intOf]; omega
      ·
        have x38 : ((s[k].toNat : Int) == 38) = false := tF 38 (by rw [hc]; decide) (by omega)
        have x60 : ((s[k].toNat : Int) == 60) = true := tT 60 (by exact hc) (by omega)
        have HGN : Hid ((acc ++ ltT) ++ escQ q (s.data.toList.drop (k + 1)) = escQ q s.data.toList) := hide (by rw [← hG, o]; simp)
        clear hG o hdr hc
        go_wp2_with (refine wpList_buf_text rfl _ _ rfl w.heap.size u5 acc rfl w HB.out (str ltT) rfl (by rw [str_size, show ltT.length = 4 from rfl]; omega) ?_; intro v2 w2 hb2; rw [str_toList] at hb2; have HB2 := hide hb2; clear hb2)
        go_roundw
        case rel => exact ⟨k + 1, _, by omega, by go_num, HB2, hide (by rw [List.length_append, show ltT.length = 4 from rfl]; omega), HGN⟩
        case measure => simp [intOf]; omega
      ·
        have x38 : ((s[k].toNat : Int) == 38) = false := tF 38 (by rw [hc]; decide) (by omega)
        have x60 : ((s[k].toNat : Int) == 60) = false := tF 60 (by rw [hc]; decide) (by omega)
        have x62 : ((s[k].toNat : Int) == 62) = true := tT 62 (by exact hc) (by omega)
        have HGN : Hid ((acc ++ gtT) ++ escQ q (s.data.toList.drop (k + 1)) = escQ q s.data.toList) := hide (by rw [← hG, o]; simp)
        clear hG o hdr hc
        go_wp2_with (refine wpList_buf_text rfl _ _ rfl w.heap.size u5 acc rfl w HB.out (str gtT) rfl (by rw [str_size, show gtT.length = 4 from rfl]; omega) ?_; intro v2 w2 hb2; rw [str_toList] at hb2; have HB2 := hide hb2; clear hb2)
        go_roundw
        case rel => exact ⟨k + 1, _, by omega, by go_num, HB2, hide (by rw [List.length_append, show gtT.length = 4 from rfl]; omega), HGN⟩
        case measure => simp [intOf]; omega
      ·
        have x38 : ((s[k].toNat : Int) == 38) = false := tF 38 (by rw [hc]; decide) (by omega)
        have x60 : ((s[k].toNat : Int) == 60) = false := tF 60 (by rw [hc]; decide) (by omega)
        have x62 : ((s[k].toNat : Int) == 62) = false := tF 62 (by rw [hc]; decide) (by omega)
        have x34 : ((s[k].toNat : Int) == 34) = true := tT 34 (by exact hc) (by omega)
        subst hq
        have HGN : Hid ((acc ++ quT) ++ escQ true (s.data.toList.drop (k + 1)) = escQ true s.data.toList) := hide (by rw [← hG, o]; simp)
        clear hG o hdr hc
        go_wp2_with (refine wpList_buf_text rfl _ _ rfl w.heap.size u5 acc rfl w HB.out (str quT) rfl (by rw [str_size, show quT.length = 6 from rfl]; omega) ?_; intro v2 w2 hb2; rw [str_toList] at hb2; have HB2 := hide hb2; clear hb2)
        go_roundw
        case rel => exact ⟨k + 1, _, by omega, by go_num, HB2, hide (by rw [List.length_append, show quT.length = 6 from rfl]; omega), HGN⟩
        case measure => simp [intOf]; omega
      ·
        have x38 : ((s[k].toNat : Int) == 38) = false := tF 38 (by rw [hc]; decide) (by omega)
        have x60 : ((s[k].toNat : Int) == 60) = false := tF 60 (by rw [hc]; decide) (by omega)
        have x62 : ((s[k].toNat : Int) == 62) = false := tF 62 (by rw [hc]; decide) (by omega)
        have x34 : ((s[k].toNat : Int) == 34) = false := tF 34 (by rw [hc]; decide) (by omega)
        have x194 : ((s[k].toNat : Int) == 194) = true := tT 194 (by exact hc) (by omega)
        have hk1 : k + 1 < s.size := by
          have := congrArg List.length hu
          rw [List.length_drop, toList_length, List.length_cons] at this; omega
        have hx : s[k + 1] = 160 := by
          have := drop_cons s (k + 1) hk1
          rw [hu] at this
          injection this with e _; exact e.symm
        have hu2 : u = s.data.toList.drop (k + 2) := by
          have := drop_cons s (k + 1) hk1
          rw [hu] at this
          injection this with _ e
        have y1 : ((s[k + 1].toNat : Int) == 160) = true := tT 160 hx (by omega)
        have y2 : (k : Int) + 1 < s.size := by omega
        have y3 : IntKind.i64.wrap ((k : Int) + 1) = (k : Int) + 1 := IntWalk.i64_in _ (by omega)
        have y4 : ((k : Int) + 1).toNat = k + 1 := by omega
        have HGN : Hid ((acc ++ nbT) ++ escQ q (s.data.toList.drop (k + 2)) = escQ q s.data.toList) := hide (by rw [← hG, o, hu2]; simp)
        clear hG o hdr hc hu hu2 hx
        go_wp2_with (refine wpList_buf_text rfl _ _ rfl w.heap.size u5 acc rfl w HB.out (str nbT) rfl (by rw [str_size, show nbT.length = 6 from rfl]; omega) ?_; intro v2 w2 hb2; rw [str_toList] at hb2; have HB2 := hide hb2; clear hb2)
        go_roundw
        case rel => exact ⟨k + 2, _, by omega, by go_num, HB2, hide (by rw [List.length_append, show nbT.length = 6 from rfl]; omega), HGN⟩
        case measure => simp [intOf]; omega
      · have HGN : Hid ((acc ++ [s[k]]) ++ escQ q (s.data.toList.drop (k + 1)) = escQ q s.data.toList) := hide (by rw [← hG, o]; simp)
        have x38 : ((s[k].toNat : Int) == 38) = false := tF 38 c1 (by omega)
        have x60 : ((s[k].toNat : Int) == 60) = false := tF 60 c2 (by omega)
        have x62 : ((s[k].toNat : Int) == 62) = false := tF 62 c3 (by omega)
        have HLN : Hid (acc.length + 1 ≤ 140737488355328) := hide (by omega)
        have HLV : Hid ((acc ++ [s[k]]).length ≤ 6 * (k + 1)) := hide (by simp; omega)
        have cc : (((s[k].toNat : Int) == 194) = false) ∨ (((s[k].toNat : Int) == 194) = true ∧ ¬ ((k : Int) + 1 < s.size)) ∨ (∃ h : k + 1 < s.size, ((s[k].toNat : Int) == 194) = true ∧ ((s[k + 1].toNat : Int) == 160) = false) := by
          rcases c5 with c5 | ⟨c5, hu⟩
          · exact .inl (tF 194 c5 (by omega))
          · by_cases h1 : k + 1 < s.size
            · refine .inr (.inr ⟨h1, tT 194 c5 (by omega), tF 160 ?_ (by omega)⟩)
              intro e
              have := drop_cons s (k + 1) h1
              rw [e] at this
              exact hu _ this
            · exact .inr (.inl ⟨tT 194 c5 (by omega), by omega⟩)
        have y3 : IntKind.i64.wrap ((k : Int) + 1) = (k : Int) + 1 := IntWalk.i64_in _ (by omega)
        have y4 : ((k : Int) + 1).toNat = k + 1 := by omega
        have q4 : ((s[k].toNat : Int) == 34) = false ∨ (((s[k].toNat : Int) == 34) = true ∧ q = false) := by
          rcases c4 with c4 | ⟨c4, e⟩
          · exact .inl (tF 34 c4 (by omega))
          · exact .inr ⟨tT 34 c4 (by omega), e⟩
        clear hG o hdr c1 c2 c3 c4 c5 hL
        rcases q4 with x34 | ⟨x34, rfl⟩
        all_goals rcases cc with x194 | ⟨x194, y2⟩ | ⟨h1, x194, y1⟩
        all_goals
          try have y2 : (k : Int) + 1 < s.size := by omega
          go_wp2_with (refine wpList_buf_byte rfl _ _ rfl w.heap.size u5 acc rfl w wr s[k] HB.out rfl HLN.out ?_; intro v2 w2 hb2; have HB2 := hide hb2; clear hb2)
          go_roundw
          case rel => exact ⟨k + 1, _, by omega, by go_num, HB2, HLV, HGN⟩
          case measure => simp [intOf]; omega
    · have hcv := HB.out.convert
      have hG := HG.out
      rw [drop_nil s k (by omega), escQ_nil, List.append_nil] at hG
      have HR := hide hG
      clear hG
      go_wp2_with fail
      go_ret
      exact ⟨by rw [HR.out] <;> rfl, HB.out.below⟩
theorem refText12_any (s : ByteArray) (w : World) (hs : s.size ≤ 1048576) :
    Calls Tryz.prog 35 #[.string s] w fun e w' => e = .returned (.string (str (escQ false s.data.toList))) ∧ Below w.heap.size w w' := by
  go_enter Tryz.func35, Tryz.ntmps35
  go_wp2_with (go_at_call 63; refine (refWrite12_any s false _ hs).mono ?_; rintro e w1 ⟨rfl, hb1⟩)
  go_ret
  exact ⟨rfl, hb1⟩
theorem refValue12_any (s : ByteArray) (w : World) (hs : s.size ≤ 1048576) :
    Calls Tryz.prog 36 #[.string s] w fun e w' => e = .returned (.string (str (escQ true s.data.toList))) ∧ Below w.heap.size w w' := by
  go_enter Tryz.func36, Tryz.ntmps36
  go_wp2_with (go_at_call 63; refine (refWrite12_any s true _ hs).mono ?_; rintro e w1 ⟨rfl, hb1⟩)
  go_ret
  exact ⟨rfl, hb1⟩
end Go.Proofs.YtmojckphfbcibaaGreatDoor
