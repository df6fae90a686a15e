/- WALKS of the reference of layer 17: trim, pieces. No statement is proved here. Own work of the verifier. -/
import Derived.Test.YtklbdobofclofaaGreatDoorBaseN
namespace Go.Proofs.YtklbdobofclofaaGreatDoor
open Go.RowKit
set_option linter.unusedVariables false
set_option linter.unusedSimpArgs false
set_option maxRecDepth 100000
set_option maxHeartbeats 2000000 in
theorem trim17_any (s : ByteArray) (w : World) (hs : s.size ≤ 70368744177664) :
    Calls Tryz.prog 60 #[.string s] w fun e w' => e = .returned (.string (str (trimV s.data.toList))) ∧ w = w' := by
  go_enter Tryz.func60, Tryz.ntmps60
  go_wp2_with fail
  go_loop [0] (fun x => ∃ t : ByteArray, x = .string t ∧ t.size ≤ s.size ∧ leftW t.data.toList = leftW s.data.toList) (fun x => szOfC x)
  case atStart => exact ⟨s, rfl, Nat.le_refl _, rfl⟩
  case round =>
    obtain ⟨t, rfl, ht, hd⟩ := hrel
    by_cases hgo : ∃ h0 : 0 < t.size, spaceB t[0] = true
    · obtain ⟨h0, hsp⟩ := hgo
      have e := drop_cons t 0 h0
      rw [List.drop_zero] at e
      have hd2 : leftW (t.extract 1 t.size).data.toList = leftW s.data.toList := by
        rw [extract_end, ← hd]
        conv => rhs; rw [e, leftW_cons, hsp]
        simp
      have HD := hide hd2
      have HS := hide hsp
      clear hd hd2 hsp e
      go_wp2_with fail
      refine (space_any t[0] _).mono ?_
      rintro e w1 ⟨rfl, rfl⟩
      rw [HS.out]
      go_wp2_with fail
      go_round
      case rel => exact ⟨t.extract 1 t.size, rfl, by rw [ByteArray.size_extract]; omega, HD.out⟩
      case measure => simp [szOfC]; omega
    · have hcase : (∃ h0 : 0 < t.size, spaceB t[0] = false) ∨ t.size = 0 := by
        by_cases h0 : 0 < t.size
        · refine .inl ⟨h0, ?_⟩
          cases h : spaceB t[0] with
          | true => exact absurd ⟨h0, h⟩ hgo
          | false => rfl
        · exact .inr (by omega)
      have hlt : leftW t.data.toList = t.data.toList := by
        rcases hcase with ⟨h0, h⟩ | h
        · have e := drop_cons t 0 h0
          rw [List.drop_zero] at e
          rw [e, leftW_cons, h]; simp
        · have e : t.data.toList = [] := List.eq_nil_of_length_eq_zero (by rw [toList_length]; exact h)
          rw [e]; rfl
      rw [hlt] at hd
      have HD := hide hd
      clear hd hlt hgo
      rcases hcase with ⟨h0, h⟩ | h
      · have HS := hide h
        clear h
        go_wp2_with fail
        refine (space_any t[0] _).mono ?_
        rintro e w1 ⟨rfl, rfl⟩
        rw [HS.out]
        go_wp2_with fail
        go_loop [0] (fun x => ∃ u : ByteArray, x = .string u ∧ u.size ≤ s.size ∧ rightW u.data.toList = rightW (leftW s.data.toList)) (fun x => szOfC x)
        case atStart => exact ⟨t, rfl, ht, by rw [HD.out]⟩
        case round =>
          obtain ⟨u, rfl, hu, hr⟩ := hrel
          by_cases hgo : ∃ (n : Nat) (hn : u.size = n + 1), spaceB (u[n]'(by omega)) = true
          · obtain ⟨n, hn, hsp⟩ := hgo
            have hn' : n < u.size := by omega
            have e := snoc_of u n hn
            have hr2 : rightW (u.extract 0 n).data.toList = rightW (leftW s.data.toList) := by
              rw [← hr, e, rightW_snoc, hsp]; simp
            have HR := hide hr2
            have HS := hide hsp
            have hz : (u.size : Int) - 1 = n := by omega
            clear hr hr2 hsp e
            go_wp2_with fail
            refine (space_any u[n] _).mono ?_
            rintro e w1 ⟨rfl, rfl⟩
            rw [HS.out]
            go_wp2_with fail
            go_round
            case rel => exact ⟨u.extract 0 n, rfl, by rw [ByteArray.size_extract]; omega, HR.out⟩
            case measure => simp [szOfC]; omega
          · have hcase2 : (∃ (n : Nat) (hn : u.size = n + 1), spaceB (u[n]'(by omega)) = false) ∨ u.size = 0 := by
              by_cases h0 : 0 < u.size
              · refine .inl ⟨u.size - 1, by omega, ?_⟩
                cases h : spaceB (u[u.size - 1]'(by omega)) with
                | true => exact absurd ⟨u.size - 1, by omega, h⟩ hgo
                | false => rfl
              · exact .inr (by omega)
            have hrt : rightW u.data.toList = u.data.toList := by
              rcases hcase2 with ⟨n, hn, h⟩ | h
              · rw [snoc_of u n hn, rightW_snoc, h]; simp
              · have e : u.data.toList = [] := List.eq_nil_of_length_eq_zero (by rw [toList_length]; exact h)
                rw [e]; rfl
            rw [hrt] at hr
            have HR := hide hr
            clear hr hrt hgo
            rcases hcase2 with ⟨n, hn, h⟩ | h
            · have HS := hide h
              clear h
              have hn' : n < u.size := by omega
              have hz : (u.size : Int) - 1 = n := by omega
              go_wp2_with fail
              refine (space_any u[n] _).mono ?_
              rintro e w1 ⟨rfl, rfl⟩
              rw [HS.out]
              go_wp2_with fail
              go_ret
              exact ⟨ret_str (ext_list (by rw [str_toList]; exact HR.out)), rfl⟩
            · go_wp2_with fail
              go_ret
              exact ⟨ret_str (ext_list (by rw [str_toList]; exact HR.out)), rfl⟩
      · go_wp2_with fail
        go_loop [0] (fun x => ∃ u : ByteArray, x = .string u ∧ u.size ≤ s.size ∧ rightW u.data.toList = rightW (leftW s.data.toList)) (fun x => szOfC x)
        case atStart => exact ⟨t, rfl, ht, by rw [HD.out]⟩
        case round =>
          obtain ⟨u, rfl, hu, hr⟩ := hrel
          by_cases hgo : ∃ (n : Nat) (hn : u.size = n + 1), spaceB (u[n]'(by omega)) = true
          · obtain ⟨n, hn, hsp⟩ := hgo
            have hn' : n < u.size := by omega
            have e := snoc_of u n hn
            have hr2 : rightW (u.extract 0 n).data.toList = rightW (leftW s.data.toList) := by
              rw [← hr, e, rightW_snoc, hsp]; simp
            have HR := hide hr2
            have HS := hide hsp
            have hz : (u.size : Int) - 1 = n := by omega
            clear hr hr2 hsp e
            go_wp2_with fail
            refine (space_any u[n] _).mono ?_
            rintro e w1 ⟨rfl, rfl⟩
            rw [HS.out]
            go_wp2_with fail
            go_round
            case rel => exact ⟨u.extract 0 n, rfl, by rw [ByteArray.size_extract]; omega, HR.out⟩
            case measure => simp [szOfC]; omega
          · have hcase2 : (∃ (n : Nat) (hn : u.size = n + 1), spaceB (u[n]'(by omega)) = false) ∨ u.size = 0 := by
              by_cases h0 : 0 < u.size
              · refine .inl ⟨u.size - 1, by omega, ?_⟩
                cases h : spaceB (u[u.size - 1]'(by omega)) with
                | true => exact absurd ⟨u.size - 1, by omega, h⟩ hgo
                | false => rfl
              · exact .inr (by omega)
            have hrt : rightW u.data.toList = u.data.toList := by
              rcases hcase2 with ⟨n, hn, h⟩ | h
              · rw [snoc_of u n hn, rightW_snoc, h]; simp
              · have e : u.data.toList = [] := List.eq_nil_of_length_eq_zero (by rw [toList_length]; exact h)
                rw [e]; rfl
            rw [hrt] at hr
            have HR := hide hr
            clear hr hrt hgo
            rcases hcase2 with ⟨n, hn, h⟩ | h
            · have HS := hide h
              clear h
              have hn' : n < u.size := by omega
              have hz : (u.size : Int) - 1 = n := by omega
              go_wp2_with fail
              refine (space_any u[n] _).mono ?_
              rintro e w1 ⟨rfl, rfl⟩
              rw [HS.out]
              go_wp2_with fail
              go_ret
              exact ⟨ret_str (ext_list (by rw [str_toList]; exact HR.out)), rfl⟩
            · go_wp2_with fail
              go_ret
              exact ⟨ret_str (ext_list (by rw [str_toList]; exact HR.out)), rfl⟩
theorem ps_go {s : ByteArray} {ff k : Nat} {st st' : CSt} (hk : k < s.size) (hf : ff ≤ k) (h : cstep st s[k] = (st', false)) : pcs st (pcsAt s ff k) (s.data.toList.drop k) = pcs st' (pcsAt s ff (k + 1)) (s.data.toList.drop (k + 1)) := by
  rw [drop_cons s k hk, pcs_go (by rw [h]), h, pcsAt_snoc s ff k hf hk]
theorem ps_cut {s : ByteArray} {ff k : Nat} {st st' : CSt} (hk : k < s.size) (h : cstep st s[k] = (st', true)) : pcs st (pcsAt s ff k) (s.data.toList.drop k) = pcsAt s ff k :: pcs st' (pcsAt s (k + 1) (k + 1)) (s.data.toList.drop (k + 1)) := by
  rw [drop_cons s k hk, pcs_end (by rw [h]), h, pcsAt_same]
theorem st_esc {d : Nat} {q c : UInt8} : cstep (d, q, true) c = ((d, q, false), false) := by unfold cstep; simp
theorem stQ_esc {d : Nat} {q c : UInt8} (hq : q ≠ 0) (hc : c = 92) (h : c ≠ q) : cstep (d, q, false) c = ((d, q, true), false) := by unfold cstep; simp [hq, h, hc]; intro e; exact absurd (hc.trans e) h
theorem stQ_end {d : Nat} {q c : UInt8} (hq : q ≠ 0) (h : c = q) : cstep (d, q, false) c = ((d, 0, false), false) := by unfold cstep; simp [hq, h]
theorem stQ_go {d : Nat} {q c : UInt8} (hq : q ≠ 0) (h : c ≠ q) (h2 : c ≠ 92) : cstep (d, q, false) c = ((d, q, false), false) := by unfold cstep; simp [hq, h, h2]
theorem st0_quote {d : Nat} {c : UInt8} (h : c = 34 ∨ c = 39) : cstep (d, 0, false) c = ((d, c, false), false) := by unfold cstep; simp [h]
theorem st0_open {d : Nat} {c : UInt8} (h : c = 40) : cstep (d, 0, false) c = ((d + 1, 0, false), false) := by subst h; unfold cstep; simp
theorem st0_close {d : Nat} {c : UInt8} (h : c = 41) : cstep (d, 0, false) c = ((d - 1, 0, false), false) := by subst h; unfold cstep; simp
theorem st0_cut {c : UInt8} (h : c = 59) : cstep (0, 0, false) c = ((0, 0, false), true) := by subst h; unfold cstep; simp
theorem st0_go {d : Nat} {c : UInt8} (h1 : c ≠ 34) (h2 : c ≠ 39) (h3 : c ≠ 40) (h4 : c ≠ 41) (h5 : ¬ (c = 59 ∧ d = 0)) : cstep (d, 0, false) c = ((d, 0, false), false) := by
  unfold cstep
  simp [h1, h2, h3, h4]
  intro a b; exact h5 ⟨a, b⟩
set_option maxHeartbeats 4000000 in
theorem pieces17_any (s : ByteArray) (w : World) (hs : s.size ≤ 1048575) :
    Calls Tryz.prog 59 #[.string s] w fun e w' => ∃ v, e = .returned v ∧ SBuf w.heap.size v ((pcs st0 [] s.data.toList).map str) w w' := by
  have HS0 : Hid (SBuf w.heap.size (.slice none 0 0) [] w w) := hide (SBuf.nil (Below.refl _ w) (Nat.le_refl _))
  go_enter Tryz.func59, Tryz.ntmps59
  go_wp2_with fail
  go_loopw [3, 4, 5, 6, 7] (fun v f dp qu i wr => ∃ (k ff d Q : Nat) (q : UInt8) (acc : List (List UInt8)), k ≤ s.size + 1 ∧ ff ≤ k ∧ ff ≤ s.size ∧ i = .int .i64 k ∧ f = .int .i64 ff ∧ dp = .int .i64 d ∧ qu = .int .u8 Q ∧ d ≤ k ∧ acc.length ≤ k ∧ Hid (Q = q.toNat) ∧ Hid (q = 0 ∨ q = 34 ∨ q = 39) ∧ Hid (SBuf w.heap.size v (acc.map str) w wr) ∧
      Hid ((k ≤ s.size ∧ acc ++ pcs (d, q, false) (pcsAt s ff k) (s.data.toList.drop k) = pcs st0 [] s.data.toList) ∨ (k = s.size + 1 ∧ acc ++ [pcsAt s ff s.size] = pcs st0 [] s.data.toList))) (fun _ _ _ _ i _ => s.size + 1 - (intOf i).toNat)
  case atStart => exact ⟨0, 0, 0, 0, 0, [], by omega, Nat.le_refl _, by omega, rfl, rfl, rfl, rfl, Nat.le_refl _, Nat.le_refl _, hide rfl, hide (.inl rfl), HS0, hide (.inl ⟨Nat.zero_le _, by rw [pcsAt_same]; rfl⟩)⟩
  case round =>
    obtain ⟨k, ff, d, Q, q, acc, hk, hff, hfs, rfl, rfl, rfl, rfl, hd, hacc, HQV, HQQ, HS, HP⟩ := hrel
    by_cases hlt : k < s.size
    · have hP : acc ++ pcs (d, q, false) (pcsAt s ff k) (s.data.toList.drop k) = pcs st0 [] s.data.toList := by
        rcases HP.out with ⟨_, h⟩ | ⟨h, _⟩
        · exact h
        · omega
      clear HP
      by_cases hq : q = 0
      · have hQ : Q = 0 := by rw [HQV.out, hq]; rfl
        subst hq
        subst hQ
        by_cases c1 : s[k] = 34 ∨ s[k] = 39
        · have HN : Hid ((k + 1 ≤ s.size ∧ acc ++ pcs (d, s[k], false) (pcsAt s ff (k + 1)) (s.data.toList.drop (k + 1)) = pcs st0 [] s.data.toList) ∨ (k + 1 = s.size + 1 ∧ acc ++ [pcsAt s ff s.size] = pcs st0 [] s.data.toList)) := hide (.inl ⟨hlt, by rw [← hP, ps_go hlt hff (st0_quote c1)]⟩)
          have HQ2 : Hid (s[k] = 0 ∨ s[k] = 34 ∨ s[k] = 39) := hide (.inr c1)
          clear hP
          by_cases h34 : s[k] = 34
          · have q0 : ((s[k].toNat : Int) == 34) = true := tT 34 (c := s[k]) h34 (by decide)
            clear h34 c1
            go_wp2_with fail
            go_roundw
            case rel => exact ⟨k + 1, ff, d, s[k].toNat, s[k], acc, by omega, by omega, by omega, by go_num, rfl, rfl, rfl, by omega, by omega, hide rfl, HQ2, HS, HN⟩
            case measure => simp [intOf]; omega
          · have q0 : ((s[k].toNat : Int) == 34) = false := tF 34 (c := s[k]) h34 (by decide)
            have q1 : ((s[k].toNat : Int) == 39) = true := tT 39 (c := s[k]) (c1.resolve_left h34) (by decide)
            clear h34 c1
            go_wp2_with fail
            go_roundw
            case rel => exact ⟨k + 1, ff, d, s[k].toNat, s[k], acc, by omega, by omega, by omega, by go_num, rfl, rfl, rfl, by omega, by omega, hide rfl, HQ2, HS, HN⟩
            case measure => simp [intOf]; omega
        · have n34 : s[k] ≠ 34 := fun e => c1 (.inl e)
          have n39 : s[k] ≠ 39 := fun e => c1 (.inr e)
          have q0 : ((s[k].toNat : Int) == 34) = false := tF 34 (c := s[k]) n34 (by decide)
          have q1 : ((s[k].toNat : Int) == 39) = false := tF 39 (c := s[k]) n39 (by decide)
          by_cases h40 : s[k] = 40
          · have HN : Hid ((k + 1 ≤ s.size ∧ acc ++ pcs (d + 1, 0, false) (pcsAt s ff (k + 1)) (s.data.toList.drop (k + 1)) = pcs st0 [] s.data.toList) ∨ (k + 1 = s.size + 1 ∧ acc ++ [pcsAt s ff s.size] = pcs st0 [] s.data.toList)) := hide (.inl ⟨hlt, by rw [← hP, ps_go hlt hff (st0_open h40)]⟩)
            have q2 : ((s[k].toNat : Int) == 40) = true := tT 40 (c := s[k]) h40 (by decide)
            clear hP c1 n34 n39 h40
            go_wp2_with fail
            go_roundw
            case rel => exact ⟨k + 1, ff, d + 1, 0, 0, acc, by omega, by omega, by omega, by go_num, rfl, by go_num, rfl, by omega, by omega, HQV, HQQ, HS, HN⟩
            case measure => simp [intOf]; omega
          · have q2 : ((s[k].toNat : Int) == 40) = false := tF 40 (c := s[k]) h40 (by decide)
            by_cases h41 : s[k] = 41
            · have q3 : ((s[k].toNat : Int) == 41) = true := tT 41 (c := s[k]) h41 (by decide)
              have q4 : ((s[k].toNat : Int) == 59) = false := tF 59 (c := s[k]) (by rw [h41]; decide) (by decide)
              have HN : Hid ((k + 1 ≤ s.size ∧ acc ++ pcs (d - 1, 0, false) (pcsAt s ff (k + 1)) (s.data.toList.drop (k + 1)) = pcs st0 [] s.data.toList) ∨ (k + 1 = s.size + 1 ∧ acc ++ [pcsAt s ff s.size] = pcs st0 [] s.data.toList)) := hide (.inl ⟨hlt, by rw [← hP, ps_go hlt hff (st0_close h41)]⟩)
              clear hP c1 n34 n39 h40 h41
              cases d with
              | zero =>
                go_wp2_with fail
                go_roundw
                case rel => exact ⟨k + 1, ff, 0 - 1, 0, 0, acc, by omega, by omega, by omega, by go_num, rfl, rfl, rfl, by omega, by omega, HQV, HQQ, HS, HN⟩
                case measure => simp [intOf]; omega
              | succ e =>
                have t5 : decide ((0 : Int) < ((e + 1 : Nat) : Int)) = true := decide_eq_true (by omega)
                go_wp2_with fail
                go_roundw
                case rel => exact ⟨k + 1, ff, e + 1 - 1, 0, 0, acc, by omega, by omega, by omega, by go_num, rfl, by go_num, rfl, by omega, by omega, HQV, HQQ, HS, HN⟩
                case measure => simp [intOf]; omega
            · have q3 : ((s[k].toNat : Int) == 41) = false := tF 41 (c := s[k]) h41 (by decide)
              by_cases h59 : s[k] = 59 ∧ d = 0
              · obtain ⟨h59, rfl⟩ := h59
                have q4 : ((s[k].toNat : Int) == 59) = true := tT 59 (c := s[k]) h59 (by decide)
                obtain ⟨X, hX⟩ : ∃ X, s.extract ff k = X := ⟨_, rfl⟩
                have HX : Hid (X = str (pcsAt s ff k)) := hide (by rw [← hX, pcsAt_str])
                have HN : Hid ((k + 1 ≤ s.size ∧ (acc ++ [pcsAt s ff k]) ++ pcs (0, 0, false) (pcsAt s (k + 1) (k + 1)) (s.data.toList.drop (k + 1)) = pcs st0 [] s.data.toList) ∨ (k + 1 = s.size + 1 ∧ (acc ++ [pcsAt s ff k]) ++ [pcsAt s (k + 1) s.size] = pcs st0 [] s.data.toList)) := hide (.inl ⟨hlt, by rw [← hP, ps_cut hlt (st0_cut h59)]; simp⟩)
                clear hP c1 n34 n39 h40 h41 h59
                go_wp2_with (refine wpList_strs rfl _ _ rfl w.heap.size u3 (acc.map str) rfl w wr X HS.out rfl (by rw [List.length_map]; omega) ?_; intro v2 w2 hb2; have HS2 := hide hb2; clear hb2)
                go_roundw
                case rel => exact ⟨k + 1, k + 1, 0, 0, 0, acc ++ [pcsAt s ff k], by omega, by omega, by omega, by go_num, by go_num, rfl, rfl, by omega, by simp; omega, HQV, HQQ, (by rw [HX.out] at HS2; simpa using HS2), HN⟩
                case measure => simp [intOf]; omega
              · have HN : Hid ((k + 1 ≤ s.size ∧ acc ++ pcs (d, 0, false) (pcsAt s ff (k + 1)) (s.data.toList.drop (k + 1)) = pcs st0 [] s.data.toList) ∨ (k + 1 = s.size + 1 ∧ acc ++ [pcsAt s ff s.size] = pcs st0 [] s.data.toList)) := hide (.inl ⟨hlt, by rw [← hP, ps_go hlt hff (st0_go n34 n39 h40 h41 h59)]⟩)
                by_cases g59 : s[k] = 59
                · have q4 : ((s[k].toNat : Int) == 59) = true := tT 59 (c := s[k]) g59 (by decide)
                  have t5 : ((d : Int) == 0) = false := beq_eq_false_iff_ne.2 (fun e => h59 ⟨g59, by omega⟩)
                  clear hP c1 n34 n39 h40 h41 h59 g59
                  go_wp2_with fail
                  go_roundw
                  case rel => exact ⟨k + 1, ff, d, 0, 0, acc, by omega, by omega, by omega, by go_num, rfl, rfl, rfl, by omega, by omega, HQV, HQQ, HS, HN⟩
                  case measure => simp [intOf]; omega
                · have q4 : ((s[k].toNat : Int) == 59) = false := tF 59 (c := s[k]) g59 (by decide)
                  clear hP c1 n34 n39 h40 h41 h59 g59
                  go_wp2_with fail
                  go_roundw
                  case rel => exact ⟨k + 1, ff, d, 0, 0, acc, by omega, by omega, by omega, by go_num, rfl, rfl, rfl, by omega, by omega, HQV, HQQ, HS, HN⟩
                  case measure => simp [intOf]; omega
      · have hqq : q = 34 ∨ q = 39 := HQQ.out.resolve_left hq
        have hQ0 : ((Q : Int) == 0) = false := by
          rw [HQV.out]
          rcases hqq with e | e <;> rw [e] <;> decide
        have hQ1 : ((Q : Int) != 0) = true := by rw [bne, hQ0]; rfl
        by_cases c92 : s[k] = 92
        · have q0 : ((s[k].toNat : Int) == 92) = true := tT 92 (c := s[k]) c92 (by decide)
          have hne : s[k] ≠ q := by rw [c92]; rcases hqq with e | e <;> rw [e] <;> decide
          have HN : Hid ((k + 2 ≤ s.size ∧ acc ++ pcs (d, q, false) (pcsAt s ff (k + 2)) (s.data.toList.drop (k + 2)) = pcs st0 [] s.data.toList) ∨ (k + 2 = s.size + 1 ∧ acc ++ [pcsAt s ff s.size] = pcs st0 [] s.data.toList)) := hide (by
            rw [ps_go hlt hff (stQ_esc hq c92 hne)] at hP
            by_cases h2 : k + 1 < s.size
            · exact .inl ⟨h2, by rw [← hP, ps_go h2 (by omega) st_esc]⟩
            · have hz : k + 1 = s.size := by omega
              refine .inr ⟨by omega, ?_⟩
              rw [hz, drop_nil s s.size (Nat.le_refl _), pcs] at hP
              exact hP)
          clear hP c92 hne hqq hq
          go_wp2_with fail
          go_roundw
          case rel => exact ⟨k + 2, ff, d, Q, q, acc, by omega, by omega, by omega, by go_num, rfl, rfl, rfl, by omega, by omega, HQV, HQQ, HS, HN⟩
          case measure => simp [intOf]; omega
        · have q0 : ((s[k].toNat : Int) == 92) = false := tF 92 (c := s[k]) c92 (by decide)
          by_cases he : s[k] = q
          · have q1 : ((s[k].toNat : Int) == Q) = true := by rw [he, HQV.out]; exact beq_self_eq_true _
            have HN : Hid ((k + 1 ≤ s.size ∧ acc ++ pcs (d, 0, false) (pcsAt s ff (k + 1)) (s.data.toList.drop (k + 1)) = pcs st0 [] s.data.toList) ∨ (k + 1 = s.size + 1 ∧ acc ++ [pcsAt s ff s.size] = pcs st0 [] s.data.toList)) := hide (.inl ⟨hlt, by rw [← hP, ps_go hlt hff (stQ_end hq he)]⟩)
            clear hP c92 he hqq hq
            go_wp2_with fail
            go_roundw
            case rel => exact ⟨k + 1, ff, d, 0, 0, acc, by omega, by omega, by omega, by go_num, rfl, rfl, rfl, by omega, by omega, hide rfl, hide (.inl rfl), HS, HN⟩
            case measure => simp [intOf]; omega
          · have q1 : ((s[k].toNat : Int) == Q) = false := by
              rw [HQV.out, beq_eq_false_iff_ne]
              intro e
              exact he (UInt8.toNat_inj.1 (by omega))
            have HN : Hid ((k + 1 ≤ s.size ∧ acc ++ pcs (d, q, false) (pcsAt s ff (k + 1)) (s.data.toList.drop (k + 1)) = pcs st0 [] s.data.toList) ∨ (k + 1 = s.size + 1 ∧ acc ++ [pcsAt s ff s.size] = pcs st0 [] s.data.toList)) := hide (.inl ⟨hlt, by rw [← hP, ps_go hlt hff (stQ_go hq he c92)]⟩)
            clear hP c92 he hqq hq
            go_wp2_with fail
            go_roundw
            case rel => exact ⟨k + 1, ff, d, Q, q, acc, by omega, by omega, by omega, by go_num, rfl, rfl, rfl, by omega, by omega, HQV, HQQ, HS, HN⟩
            case measure => simp [intOf]; omega
    · have hP : acc ++ [pcsAt s ff s.size] = pcs st0 [] s.data.toList := by
        rcases HP.out with ⟨h1, h⟩ | ⟨_, h⟩
        · obtain rfl : k = s.size := by omega
          rw [drop_nil s s.size (Nat.le_refl _), pcs] at h
          exact h
        · exact h
      obtain ⟨X, hX⟩ : ∃ X, s.extract ff s.size = X := ⟨_, rfl⟩
      have HX : Hid (X = str (pcsAt s ff s.size)) := hide (by rw [← hX, pcsAt_str])
      have HP2 := hide hP
      clear hP HP
      go_wp2_with (refine wpList_strs rfl _ _ rfl w.heap.size u3 (acc.map str) rfl w wr X HS.out rfl (by rw [List.length_map]; omega) ?_; intro v2 w2 hb2; have HS2 := hide hb2; clear hb2)
      go_ret
      refine ⟨_, rfl, ?_⟩
      have h2 := HS2.out
      rw [HX.out] at h2
      rw [← HP2.out]
      simpa using h2
end Go.Proofs.YtklbdobofclofaaGreatDoor
