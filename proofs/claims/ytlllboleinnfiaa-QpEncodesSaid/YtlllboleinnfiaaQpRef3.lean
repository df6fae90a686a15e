/- WALKS of the reference's Digits and Encode for package qp. No statement is proved here. -/
import Derived.Test.YtlllboleinnfiaaQpRef
namespace Go.Proofs.Ytlllboleinnfiaa
open Go.RowKit
set_option linter.unusedVariables false
set_option linter.unusedSimpArgs false

theorem encGo_keep {out : List UInt8} {line : Nat} {c : UInt8} {r : List UInt8} (h : ¬ 75 < line + (sign c r.isEmpty).length) : encGo out line (c :: r) = encGo (out ++ sign c r.isEmpty) (line + (sign c r.isEmpty).length) r := by
  rw [encGo, if_neg h]
theorem encGo_break {out : List UInt8} {line : Nat} {c : UInt8} {r : List UInt8} (h : 75 < line + (sign c r.isEmpty).length) : encGo out line (c :: r) = encGo (guardL out ++ [61, 10] ++ sign c r.isEmpty) (sign c r.isEmpty).length r := by
  rw [encGo, if_pos h]

/-- the tests of a byte as the reference's Encode spells them, and its sign -/
theorem sign_cases (c : UInt8) (last : Bool) :
    (33 ≤ c.toNat ∧ c.toNat ≤ 126 ∧ ((c.toNat : Int) != 61) = true ∧ ((c.toNat : Int) == 32) = false ∧ sign c last = [c]) ∨
    (c = 32 ∧ c.toNat < 33 ∧ ((c.toNat : Int) == 32) = true ∧ (last = true ∧ sign c last = [61, 50, 48] ∨ last = false ∧ sign c last = [32])) ∨
    (((c.toNat : Int) == 32) = false ∧ (c.toNat < 33 ∨ 126 < c.toNat ∨ (33 ≤ c.toNat ∧ c.toNat ≤ 126 ∧ ((c.toNat : Int) != 61) = false)) ∧ sign c last = [61, hexHi c, hexLo c]) := by
  have h : ∀ b : Bool, (33 ≤ c.toNat ∧ c.toNat ≤ 126 ∧ c ≠ 61 ∧ c ≠ 32 ∧ sign c b = [c]) ∨ (c = 32 ∧ (b = true ∧ sign c b = [61, 50, 48] ∨ b = false ∧ sign c b = [32])) ∨
      (c ≠ 32 ∧ (c.toNat < 33 ∨ 126 < c.toNat ∨ (33 ≤ c.toNat ∧ c.toNat ≤ 126 ∧ c = 61)) ∧ sign c b = [61, hexHi c, hexLo c]) := by
    intro b
    exact u8_all (p := fun c => (33 ≤ c.toNat ∧ c.toNat ≤ 126 ∧ c ≠ 61 ∧ c ≠ 32 ∧ sign c b = [c]) ∨ (c = 32 ∧ (b = true ∧ sign c b = [61, 50, 48] ∨ b = false ∧ sign c b = [32])) ∨
      (c ≠ 32 ∧ (c.toNat < 33 ∨ 126 < c.toNat ∨ (33 ≤ c.toNat ∧ c.toNat ≤ 126 ∧ c = 61)) ∧ sign c b = [61, hexHi c, hexLo c])) (by cases b <;> decide +kernel) c
  rcases h last with ⟨a, b, d, e, f⟩ | ⟨rfl, b⟩ | ⟨a, b, d⟩
  · exact .inl ⟨a, b, by rw [bne, show ((c.toNat : Int) == 61) = false from tF 61 d (by omega)]; rfl, tF 32 e (by omega), f⟩
  · exact .inr (.inl ⟨rfl, by decide, rfl, b⟩)
  · refine .inr (.inr ⟨tF 32 a (by omega), ?_, d⟩)
    rcases b with b | b | ⟨b1, b2, b3⟩
    · exact .inl b
    · exact .inr (.inl b)
    · exact .inr (.inr ⟨b1, b2, by rw [bne, show ((c.toNat : Int) == 61) = true from tT 61 b3 (by omega)]; rfl⟩)

set_option maxRecDepth 100000 in
set_option maxHeartbeats 4000000 in
theorem refEncode_any (s : ByteArray) (w : World) (hs : s.size ≤ 1048576) :
    Calls Try.prog 14 #[.string s] w fun e w' => e = .returned (.string (str (enc s.data.toList))) ∧ Below w.heap.size w w' := by
  go_enter Try.func14, Try.ntmps14
  go_wp2
  go_loopw [3, 4, 5] (fun o n i wr => ∃ (k : Nat) (out ln : List UInt8), k ≤ s.size ∧ i = .int .i64 k ∧ o = .string (str out) ∧ n = .string (str ln) ∧ Below w.heap.size w wr ∧ out.length + ln.length ≤ 7 * k ∧ ln.length ≤ 75 ∧ encGo (out ++ ln) ln.length (s.data.toList.drop k) = enc s.data.toList) (fun _ _ i _ => s.size - (intOf i).toNat)
  case atStart => exact ⟨0, [], [], Nat.zero_le _, rfl, rfl, rfl, Below.refl _ _, by simp, by simp, by simp [enc]⟩
  case round =>
    obtain ⟨k, out, ln, hk, rfl, rfl, rfl, hb, hlen, hline, hd⟩ := hrel
    have hzo : (str out).size = out.length := str_size out
    have hzl : (str ln).size = ln.length := str_size ln
    by_cases hlt : k < s.size
    · rw [drop_cons s k hlt] at hd
      obtain ⟨last, hl⟩ : ∃ b, b = (s.data.toList.drop (k + 1)).isEmpty := ⟨_, rfl⟩
      have hlast : ((k : Int) == (s.size : Int) - 1) = last := by
        rw [hl]
        by_cases h1 : k + 1 = s.size
        · rw [drop_nil s (k + 1) (by omega)]; simp; omega
        · rw [drop_cons s (k + 1) (by omega), beq_eq_false_iff_ne.2 (by omega)]; rfl
      obtain ⟨sg, hsg⟩ : ∃ l, l = sign s[k] last := ⟨_, rfl⟩
      have hsl := sign_length s[k] last
      rw [← hsg] at hsl
      obtain ⟨hs1, hs2⟩ := hsl
      have hsc := sign_cases s[k] last
      rw [← hsg] at hsc
      have hx1 : (s.extract k (k + 1)) = str [s[k]] := ext_list (by rw [extract_mid, drop_cons s k hlt]; rfl)
      have hz2 : (str [hexHi s[k], hexLo s[k]]).size = 2 := rfl
      by_cases hbr : 75 < ln.length + sg.length
      · rw [encGo_break (by rw [← hl, ← hsg]; exact hbr), ← hl, ← hsg] at hd
        rcases List.eq_nil_or_concat ln with rfl | ⟨l', z, rfl⟩
        · exfalso; simp at hbr; omega
        rw [List.concat_eq_append] at hd hzl hlen hline hbr ⊢
        rw [← List.append_assoc] at hd
        have hidx : ∀ h, (str (l' ++ [z]))[l'.length]'h = z := fun h => by
          show (l' ++ [z])[l'.length]'(by simp) = z
          simp
        have hext : (str (l' ++ [z])).extract 0 l'.length = str l' := ext_list (by rw [extract_list]; simp [str_toList])
        have hl0 : (str l').size = l'.length := str_size l'
        have hlen1 : (l' ++ [z]).length = l'.length + 1 := by simp
        rw [hlen1] at hzl hlen hline hbr
        have hbr' : 75 < (l'.length : Int) + 1 + sg.length := by omega
        have hz5 : (⟨#[61, 50, 48]⟩ : ByteArray).size = 3 := rfl
        have hz6 : (⟨#[61, 10]⟩ : ByteArray).size = 2 := rfl
        have hz7 : (⟨#[61]⟩ : ByteArray).size = 1 := rfl
        clear hl hsg hlen1 hbr
        have hzc : (((z.toNat : Int) == 32) = true ∧ Hid (encGo (out ++ (l' ++ [61, 50, 48]) ++ [61, 10] ++ sg) sg.length (s.data.toList.drop (k + 1)) = enc s.data.toList)) ∨
            (((z.toNat : Int) == 32) = false ∧ Hid (encGo (out ++ (l' ++ [z]) ++ [61, 10] ++ sg) sg.length (s.data.toList.drop (k + 1)) = enc s.data.toList)) := by
          by_cases hz : z = 32
          · subst hz
            rw [guardL_blank] at hd
            exact .inl ⟨rfl, hide (by rw [← hd]; simp)⟩
          · rw [guardL_other _ hz] at hd
            exact .inr ⟨tF 32 hz (by omega), hide (by rw [← hd]; simp)⟩
        clear hd
        rcases hsc with ⟨a1, a2, a3, a4, rfl⟩ | ⟨a0, a1, a2, ⟨a3, rfl⟩ | ⟨a3, rfl⟩⟩ | ⟨a1, a2, rfl⟩
        · have hq : ((str [s[k]]).toList == [32]) = false := by
            rw [str_list, beq_eq_false_iff_ne]; intro e; injection e with e; rw [beq_eq_false_iff_ne] at a4; apply a4; rw [e]; rfl
          have hz1 : (str [s[k]]).size = 1 := rfl
          have hbr2 : 75 < (l'.length : Int) + 1 + 1 := hbr'
          clear a4 hbr'
          rcases hzc with ⟨zt, HD⟩ | ⟨zt, HD⟩
          all_goals
            go_wp2_with fail
            refine (refDigits_any _ _).mono ?_
            rintro e w1 ⟨rfl, hb1⟩
            go_wp2_with fail
            go_roundw
            case rel => first | exact ⟨k + 1, out ++ (l' ++ [61, 50, 48]) ++ [61, 10], [s[k]], by omega, by go_num, by simp only [str_append]; rfl, by rw [nil_app], hb.trans (hb1.mono hb.size), by simp; omega, by simp, HD.out⟩ | exact ⟨k + 1, out ++ (l' ++ [z]) ++ [61, 10], [s[k]], by omega, by go_num, by simp only [str_append]; rfl, by rw [nil_app], hb.trans (hb1.mono hb.size), by simp; omega, by simp, HD.out⟩
            case measure => simp [intOf]; omega
        · have hq : ((str [s[k]]).toList == [32]) = true := by
            rw [str_list, a0]; rfl
          have hz1 : (str [s[k]]).size = 1 := rfl
          have hbr2 : 75 < (l'.length : Int) + 1 + 3 := hbr'
          have A0 := hide a0
          clear a0 hbr'
          rcases hzc with ⟨zt, HD⟩ | ⟨zt, HD⟩
          all_goals
            go_wp2_with fail
            refine (refDigits_any _ _).mono ?_
            rintro e w1 ⟨rfl, hb1⟩
            go_wp2_with fail
            go_roundw
            case rel => first | exact ⟨k + 1, out ++ (l' ++ [61, 50, 48]) ++ [61, 10], [61, 50, 48], by omega, by go_num, by simp only [str_append]; rfl, by rw [nil_app]; rfl, hb.trans (hb1.mono hb.size), by simp; omega, by simp, HD.out⟩ | exact ⟨k + 1, out ++ (l' ++ [z]) ++ [61, 10], [61, 50, 48], by omega, by go_num, by simp only [str_append]; rfl, by rw [nil_app]; rfl, hb.trans (hb1.mono hb.size), by simp; omega, by simp, HD.out⟩
            case measure => simp [intOf]; omega
        · have hq : ((str [s[k]]).toList == [32]) = true := by
            rw [str_list, a0]; rfl
          have hz1 : (str [s[k]]).size = 1 := rfl
          have hbr2 : 75 < (l'.length : Int) + 1 + 1 := hbr'
          have A0 := hide a0
          clear a0 hbr'
          rcases hzc with ⟨zt, HD⟩ | ⟨zt, HD⟩
          all_goals
            go_wp2_with fail
            refine (refDigits_any _ _).mono ?_
            rintro e w1 ⟨rfl, hb1⟩
            go_wp2_with fail
            go_roundw
            case rel => first | exact ⟨k + 1, out ++ (l' ++ [61, 50, 48]) ++ [61, 10], [32], by omega, by go_num, by simp only [str_append]; rfl, by rw [nil_app, A0.out], hb.trans (hb1.mono hb.size), by simp; omega, by simp, HD.out⟩ | exact ⟨k + 1, out ++ (l' ++ [z]) ++ [61, 10], [32], by omega, by go_num, by simp only [str_append]; rfl, by rw [nil_app, A0.out], hb.trans (hb1.mono hb.size), by simp; omega, by simp, HD.out⟩
            case measure => simp [intOf]; omega
        · have hq : (((⟨#[61]⟩ : ByteArray) ++ str [hexHi s[k], hexLo s[k]]).toList == [32]) = false := by
            rw [bytes_list]; rfl
          have hbr2 : 75 < (l'.length : Int) + 1 + 3 := hbr'
          clear hbr'
          rcases hzc with ⟨zt, HD⟩ | ⟨zt, HD⟩
          all_goals
            rcases a2 with a2 | a2 | ⟨a2, a3, a4⟩
            all_goals
              go_wp2_with fail
              refine (refDigits_any _ _).mono ?_
              rintro e w1 ⟨rfl, hb1⟩
              go_wp2_with fail
              go_roundw
              case rel => first | exact ⟨k + 1, out ++ (l' ++ [61, 50, 48]) ++ [61, 10], [61, hexHi s[k], hexLo s[k]], by omega, by go_num, by simp only [str_append]; rfl, by rw [nil_app]; exact congrArg Value.string (str_append [61] _).symm, hb.trans (hb1.mono hb.size), by simp; omega, by simp, HD.out⟩ | exact ⟨k + 1, out ++ (l' ++ [z]) ++ [61, 10], [61, hexHi s[k], hexLo s[k]], by omega, by go_num, by simp only [str_append]; rfl, by rw [nil_app]; exact congrArg Value.string (str_append [61] _).symm, hb.trans (hb1.mono hb.size), by simp; omega, by simp, HD.out⟩
              case measure => simp [intOf]; omega
      · rw [encGo_keep (by rw [← hl, ← hsg]; exact hbr), ← hl, ← hsg] at hd
        have HD := hide hd
        clear hd hl hsg
        rcases hsc with ⟨a1, a2, a3, a4, rfl⟩ | ⟨a0, a1, a2, ⟨a3, rfl⟩ | ⟨a3, rfl⟩⟩ | ⟨a1, a2, rfl⟩
        · have hq : ((str [s[k]]).toList == [32]) = false := by
            rw [str_list, beq_eq_false_iff_ne]; intro e; injection e with e; rw [beq_eq_false_iff_ne] at a4; apply a4; rw [e]; rfl
          have hz1 : (str [s[k]]).size = 1 := rfl
          have hbr' : ¬ 75 < (ln.length : Int) + 1 := by simp at hbr; omega
          clear a4
          go_wp2_with fail
          refine (refDigits_any _ _).mono ?_
          rintro e w1 ⟨rfl, hb1⟩
          go_wp2_with fail
          go_roundw
          case rel => exact ⟨k + 1, out, ln ++ [s[k]], by omega, by go_num, rfl, by rw [str_append], hb.trans (hb1.mono hb.size), by simp; omega, by simp at hbr ⊢; omega, by rw [← List.append_assoc, List.length_append]; exact HD.out⟩
          case measure => simp [intOf]; omega
        · have hq : ((str [s[k]]).toList == [32]) = true := by
            rw [str_list, a0]; rfl
          have hz1 : (str [s[k]]).size = 1 := rfl
          have hz3 : (⟨#[61, 50, 48]⟩ : ByteArray).size = 3 := rfl
          have hbr' : ¬ 75 < (ln.length : Int) + 3 := by simp at hbr; omega
          have A0 := hide a0
          clear a0
          go_wp2_with fail
          refine (refDigits_any _ _).mono ?_
          rintro e w1 ⟨rfl, hb1⟩
          go_wp2_with fail
          go_roundw
          case rel => exact ⟨k + 1, out, ln ++ [61, 50, 48], by omega, by go_num, rfl, by rw [str_append]; rfl, hb.trans (hb1.mono hb.size), by simp; omega, by simp at hbr ⊢; omega, by rw [← List.append_assoc, List.length_append]; exact HD.out⟩
          case measure => simp [intOf]; omega
        · have hq : ((str [s[k]]).toList == [32]) = true := by
            rw [str_list, a0]; rfl
          have hz1 : (str [s[k]]).size = 1 := rfl
          have hbr' : ¬ 75 < (ln.length : Int) + 1 := by simp at hbr; omega
          have A0 := hide a0
          clear a0
          go_wp2_with fail
          refine (refDigits_any _ _).mono ?_
          rintro e w1 ⟨rfl, hb1⟩
          go_wp2_with fail
          go_roundw
          case rel => exact ⟨k + 1, out, ln ++ [32], by omega, by go_num, rfl, by rw [A0.out, str_append], hb.trans (hb1.mono hb.size), by simp; omega, by simp at hbr ⊢; omega, by rw [← List.append_assoc, List.length_append]; exact HD.out⟩
          case measure => simp [intOf]; omega
        · have hq : (((⟨#[61]⟩ : ByteArray) ++ str [hexHi s[k], hexLo s[k]]).toList == [32]) = false := by
            rw [bytes_list]; rfl
          have hbr' : ¬ 75 < (ln.length : Int) + 3 := by simp at hbr; omega
          rcases a2 with a2 | a2 | ⟨a2, a3, a4⟩
          all_goals
            go_wp2_with fail
            refine (refDigits_any _ _).mono ?_
            rintro e w1 ⟨rfl, hb1⟩
            go_wp2_with fail
            go_roundw
            case rel => exact ⟨k + 1, out, ln ++ [61, hexHi s[k], hexLo s[k]], by omega, by go_num, rfl, by rw [str_append]; rfl, hb.trans (hb1.mono hb.size), by simp; omega, by simp at hbr ⊢; omega, by rw [← List.append_assoc, List.length_append]; exact HD.out⟩
            case measure => simp [intOf]; omega
    · have HD := hide hd
      clear hd
      go_wp2
      go_ret
      refine ⟨?_, hb⟩
      have h := HD.out
      rw [drop_nil s k (by omega), encGo] at h
      exact ret_str (by rw [← str_append, h])
end Go.Proofs.Ytlllboleinnfiaa
