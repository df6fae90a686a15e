/- WALKS of package pct. No statement is proved here. -/
import Derived.Test.YtienjpelmbldpaaPctP
import Derived.Test.YtienjpelmbldpaaHexO
import Derived.Test.YtienjpelmbldpaaCut
import Derived.Test.YtienjpelmbldpaaShelf
import Derived.Test.YtienjpelmbldpaaPlainW
namespace Go.Proofs.Ytienjpelmbldpaa
open Go.RowKit
set_option linter.unusedVariables false
set_option linter.unusedSimpArgs false
set_option maxRecDepth 100000

theorem stay_mark (c : UInt8) : markB [45, 46, 95, 126] c = stayB c :=
  u8_all (p := fun c => markB [45, 46, 95, 126] c = stayB c) (by decide +kernel) c
set_option maxHeartbeats 1000000 in
theorem stays_any (c : UInt8) (w : World) :
    Calls Try.prog 21 #[.int .u8 c.toNat] w fun e w' => e = .returned (.bool (stayB c)) ∧ w = w' := by
  have HS : Hid (markB (⟨#[45, 46, 95, 126]⟩ : ByteArray).data.toList c = stayB c) := hide (stay_mark c)
  go_enter Try.func21, Try.ntmps21
  go_wp2_with fail
  refine (asciiPlain_any c _ _).mono ?_
  rintro e w1 ⟨rfl, rfl⟩
  rw [HS.out]
  go_wp2_with fail
  go_ret
  exact ⟨rfl, rfl⟩

/-- a round of the writer -/
theorem penc_round {T acc L : List UInt8} {c : UInt8} {r : List UInt8} (h : acc ++ penc L = T) (hc : L = c :: r) : (acc ++ pSign c) ++ penc r = T := by
  subst hc; rw [← h, penc_cons, List.append_assoc]
theorem pSign_cases (c : UInt8) : (stayB c = true ∧ pSign c = [c]) ∨ (stayB c = false ∧ pSign c = [37, hexHi c, hexLo c]) := by
  unfold pSign
  by_cases h : stayB c = true
  · exact .inl ⟨h, by rw [if_pos h]⟩
  · exact .inr ⟨by simpa using h, by rw [if_neg h]⟩

set_option maxHeartbeats 1000000 in
theorem encLoop_any (s : ByteArray) (w : World) (hs : s.size ≤ 1048576) :
    Calls Try.prog 20 #[.string s, .func (Fn.func 21) #[] #[]] w fun e w' => e = .returned (.string (str (penc s.data.toList))) ∧ Below w.heap.size w w' := by
  go_enter Try.func20, Try.ntmps20
  go_wp2_with (refine wpList_buf_make rfl _ _ rfl w.heap.size w (Below.refl _ _) (Nat.le_refl _) s.size s.size rfl rfl rfl (by omega) ?_; intro v0 w0 hb0)
  go_loopw [5, 12] (fun v i wr => ∃ (k : Nat) (acc : List UInt8), k ≤ s.size ∧ i = .int .i64 k ∧ Buf w.heap.size v acc w wr ∧ acc.length ≤ 3 * k ∧ acc ++ penc (s.data.toList.drop k) = penc s.data.toList) (fun _ i _ => s.size - (intOf i).toNat)
  case atStart => exact ⟨0, [], Nat.zero_le _, rfl, hb0, Nat.le_refl _, by simp⟩
  case round =>
    obtain ⟨k, acc, hk, rfl, hb, hacc, hd⟩ := hrel
    have HB := hide hb
    clear hb
    by_cases hlt : k < s.size
    · have hR := penc_round hd (drop_cons s k hlt)
      rcases pSign_cases s[k] with ⟨p1, p2⟩ | ⟨p1, p2⟩
      all_goals
        rw [p2] at hR
        have HR := hide hR
        have HP := hide p1
        clear hR p1 p2 hd
        go_wp2_with fail
        refine (stays_any s[k] _).mono ?_
        rintro e w1 ⟨rfl, rfl⟩
        rw [HP.out]
      · go_wp2_with (refine wpList_buf_byte rfl _ _ rfl w.heap.size u5 acc rfl w wr s[k] HB.out rfl (by omega) ?_; intro v2 w2 hb2; have HB2 := hide hb2; clear hb2)
        go_roundw
        case rel => exact ⟨k + 1, acc ++ _, by omega, by go_num, HB2.out, by simp; omega, HR.out⟩
        case measure => simp [intOf]; omega
      · have hsz : (str [hexHi s[k], hexLo s[k]]).size = 2 := rfl
        have hl1 : (acc ++ [(37 : UInt8)]).length = acc.length + 1 := by simp
        go_wp2_with (first
          | (refine wpList_buf_const rfl _ _ rfl w.heap.size u5 acc rfl w wr 37 37 rfl HB.out rfl (by omega) ?_; intro v2 w2 hb2 hk2; have HB2 := hide hb2; clear hb2 hk2)
          | (go_at_call 28; refine (asciiHex_any s[k] _).mono ?_; rintro e w3 ⟨rfl, hb3⟩; have HB3 := hide (HB2.out.kept hb3); clear hb3)
          | (refine wpList_buf_text rfl _ _ rfl w.heap.size v2 (acc ++ [37]) rfl w HB3.out (str [hexHi s[k], hexLo s[k]]) rfl (by omega) ?_; intro v4 w4 hb4; rw [str_toList] at hb4; have HB4 := hide hb4; clear hb4))
        go_roundw
        case rel => exact ⟨k + 1, acc ++ [37] ++ [hexHi s[k], hexLo s[k]], by omega, by go_num, HB4.out, by simp; omega, by rw [← HR.out]; simp⟩
        case measure => simp [intOf]; omega
    · have hcv := HB.out.convert
      go_wp2
      go_ret
      refine ⟨?_, HB.out.below⟩
      rw [drop_nil s k (by omega), penc_nil, List.append_nil] at hd
      exact ret_str (by rw [hd])

set_option maxHeartbeats 1000000 in
theorem encode_any (s : ByteArray) (w : World) (hs : s.size ≤ 1048576) :
    Calls Try.prog 12 #[.string s] w fun e w' => e = .returned (.string (str (penc s.data.toList))) ∧ Below w.heap.size w w' := by
  go_enter Try.func12, Try.ntmps12
  go_wp2_with fail
  refine (encLoop_any s _ hs).mono ?_
  rintro e w1 ⟨rfl, hb⟩
  go_wp2_with fail
  go_ret
  exact ⟨rfl, hb⟩

/-- what 'first' answers -/
def firstV (c : UInt8) (r : List UInt8) : Value := .tuple #[.int .u8 (pStep c r).1.toNat, .int .i64 (pStep c r).2]
set_option maxHeartbeats 1000000 in
theorem first_any (s : ByteArray) (w : World) (hs : s.size ≤ maxLen) (h0 : 0 < s.size) :
    Calls Try.prog 18 #[.string s] w fun e w' => e = .returned (firstV s[0] (s.data.toList.drop 1)) ∧ Below w.heap.size w w' := by
  have hx : (s.extract 1 s.size).size ≤ maxLen := by rw [ByteArray.size_extract]; omega
  unfold maxLen at hs
  have hx1 : (s.extract 1 s.size).data.toList = s.data.toList.drop 1 := extract_end s 1
  have HX := hide hx
  have HX1 := hide hx1
  clear hx hx1
  rcases pStep_cases s[0] (s.data.toList.drop 1) with ⟨h37, b, hb, hp, _⟩ | ⟨h, hp⟩
  · have t0 : ((s[0].toNat : Int) == 37) = true := tT 37 h37 (by omega)
    have HV : Hid (fromHexV (s.data.toList.drop 1) = .tuple #[.int .u8 b.toNat, .bool true]) := by unfold fromHexV; rw [hb]; exact hide rfl
    have HF : Hid (firstV s[0] (s.data.toList.drop 1) = .tuple #[.int .u8 b.toNat, .int .i64 3]) := by unfold firstV; rw [hp]; exact hide rfl
    clear h37 hb hp
    go_enter Try.func18, Try.ntmps18
    go_wp2_with fail
    refine (fromHex_any _ _ HX.out).mono ?_
    rintro e w1 ⟨rfl, hb⟩
    rw [HX1.out, HV.out]
    go_wp2_with fail
    go_ret2
    exact ⟨by rw [HF.out]; rfl, hb⟩
  · have HF : Hid (firstV s[0] (s.data.toList.drop 1) = .tuple #[.int .u8 s[0].toNat, .int .i64 1]) := by unfold firstV; rw [hp]; exact hide rfl
    by_cases h37 : s[0] = 37
    · have t0 : ((s[0].toNat : Int) == 37) = true := tT 37 h37 (by omega)
      have HV : Hid (fromHexV (s.data.toList.drop 1) = .tuple #[.int .u8 0, .bool false]) := by unfold fromHexV; rw [h.resolve_left (fun e => e h37)]; exact hide rfl
      clear h37 h hp
      go_enter Try.func18, Try.ntmps18
      go_wp2_with fail
      refine (fromHex_any _ _ HX.out).mono ?_
      rintro e w1 ⟨rfl, hb⟩
      rw [HX1.out, HV.out]
      go_wp2_with fail
      go_ret2
      exact ⟨by rw [HF.out]; rfl, hb⟩
    · have t0 : ((s[0].toNat : Int) == 37) = false := tF 37 h37 (by omega)
      clear h37 h hp
      go_enter Try.func18, Try.ntmps18
      go_wp2_with fail
      go_ret2
      exact ⟨by rw [HF.out]; rfl, Below.refl _ _⟩

def szOf : Value → Nat
  | .string t => t.size
  | _ => 0

set_option maxHeartbeats 1000000 in
theorem decode_any (s : ByteArray) (w : World) (hs : s.size ≤ 70368744177664) :
    Calls Try.prog 10 #[.string s] w fun e w' => e = .returned (.string (str (pdec s.data.toList))) ∧ Below w.heap.size w w' := by
  go_enter Try.func10, Try.ntmps10
  go_wp2_with (refine wpList_buf_make rfl _ _ rfl w.heap.size w (Below.refl _ _) (Nat.le_refl _) s.size s.size rfl rfl rfl (by omega) ?_; intro v0 w0 hb0)
  go_loopw [0, 3] (fun x v wr => ∃ (t : ByteArray) (acc : List UInt8), x = .string t ∧ Buf w.heap.size v acc w wr ∧ acc.length + t.size ≤ s.size ∧ acc ++ pdec t.data.toList = pdec s.data.toList) (fun x _ _ => szOf x)
  case atStart => exact ⟨s, [], rfl, hb0, by simp, by simp⟩
  case round =>
    obtain ⟨t, acc, rfl, hb, hacc, hd⟩ := hrel
    have HB := hide hb
    clear hb
    by_cases hlt : 0 < t.size
    · have hne := drop_cons t 0 hlt
      rw [List.drop_zero] at hne
      have hR := pdec_round hd hne
      have hle := pStep_le t[0] (t.data.toList.drop (0 + 1))
      rw [List.length_drop, toList_length] at hle
      have hF : firstV t[0] (t.data.toList.drop 1) = .tuple #[.int .u8 (pStep t[0] (t.data.toList.drop (0 + 1))).1.toNat, .int .i64 (pStep t[0] (t.data.toList.drop (0 + 1))).2] := rfl
      generalize pStep t[0] (t.data.toList.drop (0 + 1)) = st at hR hle hF
      obtain ⟨b, n⟩ := st
      simp only at hR hle hF
      obtain ⟨hn1, hn2, hn3⟩ := hle
      have hn4 : n ≤ t.size := by omega
      have HR := hide hR
      have HF := hide hF
      clear hR hF hne hd
      go_wp2_with fail
      refine (first_any t _ (by unfold maxLen; omega) hlt).mono ?_
      rintro e w1 ⟨rfl, hb1⟩
      rw [HF.out]
      have HB1 := hide (HB.out.kept hb1)
      go_wp2_with (refine wpList_buf_byte rfl _ _ rfl w.heap.size u3 acc rfl w w1 b HB1.out rfl (by omega) ?_; intro v2 w2 hb2; have HB2 := hide hb2; clear hb2)
      go_roundw
      case rel => exact ⟨t.extract n t.size, acc ++ _, rfl, HB2.out, by rw [ByteArray.size_extract]; simp; omega, by rw [extract_end]; exact HR.out⟩
      case measure => simp [szOf]; omega
    · have hcv := HB.out.convert
      go_wp2
      go_ret
      refine ⟨?_, HB.out.below⟩
      have e : t.data.toList = [] := List.eq_nil_of_length_eq_zero (by rw [toList_length]; omega)
      rw [e, pdec_nil, List.append_nil] at hd
      exact ret_str (by rw [hd])

theorem extV_none {l : List UInt8} (h : hasC 39 (afterC 39 l) = false) : extV (pExt l) = .tuple #[.string ⟨#[]⟩, .string ⟨#[]⟩, .bool false] := by
  unfold pExt; rw [h]; rfl
theorem extV_some {l : List UInt8} (h : hasC 39 (afterC 39 l) = true) : extV (pExt l) = .tuple #[.string (str (lowL (beforeC 39 l))), .string (str (pdec (afterC 39 (afterC 39 l)))), .bool true] := by
  unfold pExt; rw [h]; rfl
theorem beforeC_length (c : UInt8) (l : List UInt8) : (beforeC c l).length ≤ l.length := (List.takeWhile_sublist _).length_le
theorem afterC_length (c : UInt8) (l : List UInt8) : (afterC c l).length ≤ l.length := by
  unfold afterC; have := (List.dropWhile_sublist (l := l) fun x => x != c).length_le
  rw [List.length_drop]; omega

set_option maxHeartbeats 1000000 in
theorem extended_any (s : ByteArray) (w : World) (hs : s.size ≤ 70368744177664) :
    Calls Try.prog 14 #[.string s] w fun e w' => e = .returned (extV (pExt s.data.toList)) ∧ Below w.heap.size w w' := by
  have hl := toList_length s
  have z1 : (str (afterC 39 s.data.toList)).size ≤ 70368744177664 := by rw [str_size]; have := afterC_length 39 s.data.toList; omega
  have z2 : (str (afterC 39 (afterC 39 s.data.toList))).size ≤ 70368744177664 := by rw [str_size]; have := afterC_length 39 s.data.toList; have := afterC_length 39 (afterC 39 s.data.toList); omega
  have z3 : (str (beforeC 39 s.data.toList)).size ≤ 70368744177664 := by rw [str_size]; have := beforeC_length 39 s.data.toList; omega
  have Z1 := hide z1
  have Z2 := hide z2
  have Z3 := hide z3
  clear z1 z2 z3 hl
  cases hh : hasC 39 (afterC 39 s.data.toList)
  all_goals
    have HH := hide hh
    clear hh
    go_enter Try.func14, Try.ntmps14
    go_wp2_with fail
    refine (strCut_any s 39 _ hs).mono ?_
    rintro e w1 ⟨rfl, hb1⟩
    unfold cutV
    go_wp2_with fail
    refine (strCut_any _ 39 _ Z1.out).mono ?_
    rintro e w2 ⟨rfl, hb2⟩
    unfold cutV
    rw [str_toList, HH.out]
    go_wp2_with fail
  · go_ret3
    exact ⟨by rw [extV_none HH.out]; rfl, hb1.trans (hb2.mono hb1.size)⟩
  · refine (lower_any _ _ Z3.out).mono ?_
    rintro e w3 ⟨rfl, hb3⟩
    rw [str_toList]
    go_wp2_with fail
    refine (decode_any _ _ Z2.out).mono ?_
    rintro e w4 ⟨rfl, hb4⟩
    rw [str_toList]
    go_wp2_with fail
    go_ret3
    have k2 := hb1.trans (hb2.mono hb1.size)
    have k3 := k2.trans (hb3.mono k2.size)
    exact ⟨by rw [extV_some HH.out]; rfl, k3.trans (hb4.mono k3.size)⟩
end Go.Proofs.Ytienjpelmbldpaa
