/- WALKS of word.allWhite, Decode. No statement is proved here. -/
import Derived.Test.YtcmmbceacjechaaGreatDoorWordO
import Derived.Test.YtcmmbceacjechaaGreatDoorBuilder
import Derived.Deep.LoopGhost
import Derived.WalkMore
namespace Go.Proofs.YtcmmbceacjechaaGreatDoor
open Go.RowKit
set_option linter.unusedVariables false
set_option linter.unusedSimpArgs false
set_option maxRecDepth 100000

theorem trimWs_nil (l : List UInt8) : (Lib.trimS l [32, 9, 10, 13] == []) = allWs l := by
  have hc : ∀ c : UInt8, [32, 9, 10, 13].contains c = wsB c := u8_all (p := fun c => [32, 9, 10, 13].contains c = wsB c) (by decide +kernel)
  have hd : ∀ l : List UInt8, (l.dropWhile ([32, 9, 10, 13].contains ·) = [] ↔ allWs l = true) := fun l => by
    induction l with
    | nil => exact ⟨fun _ => rfl, fun _ => rfl⟩
    | cons a r ih =>
      unfold allWs at ih ⊢
      rw [List.dropWhile_cons, List.all_cons]
      by_cases ha : [32, 9, 10, 13].contains a = true
      · rw [if_pos ha, ← hc, ha, Bool.true_and]; exact ih
      · rw [if_neg ha, ← hc]
        exact ⟨fun h => absurd h (by simp), fun h => absurd (Bool.and_eq_true_iff.1 h).1 ha⟩
  unfold Lib.trimS Lib.trimLeftS Lib.trimRightS
  rw [Bool.eq_iff_iff, beq_iff_eq, hd]
  constructor
  · intro h
    by_cases ha : allWs l = true
    · exact ha
    · exfalso
      have hne : l.reverse.dropWhile ([32, 9, 10, 13].contains ·) ≠ [] := fun e => ha (by
        have := (hd l.reverse).1 e
        unfold allWs at this ⊢
        rwa [List.all_reverse] at this)
      obtain ⟨x, r, hxr⟩ : ∃ x r, l.reverse.dropWhile ([32, 9, 10, 13].contains ·) = x :: r := by
        cases hq : l.reverse.dropWhile ([32, 9, 10, 13].contains ·) with
        | nil => exact absurd hq hne
        | cons x r => exact ⟨x, r, rfl⟩
      have hx : [32, 9, 10, 13].contains x = false := by
        have := List.head?_dropWhile_not (fun c => [32, 9, 10, 13].contains c) l.reverse
        rw [hxr] at this
        simpa using this
      rw [hxr] at h
      unfold allWs at h
      rw [List.all_eq_true] at h
      have := h x (by simp)
      rw [← hc, hx] at this
      cases this
  · intro h
    have : l.reverse.dropWhile ([32, 9, 10, 13].contains ·) = [] := (hd l.reverse).2 (by unfold allWs at h ⊢; rwa [List.all_reverse])
    rw [this]; rfl
theorem allWhite_any (s : ByteArray) (w : World) (hs : s.size ≤ maxLen) :
    Calls Tryz.prog 168 #[.string s] w fun e w' => e = .returned (.bool (allWs s.data.toList)) ∧ Below w.heap.size w w' := by
  have HT := hide (trimWs_nil s.data.toList)
  obtain ⟨X, hX⟩ : ∃ X, X = str (Lib.trimS s.data.toList [32, 9, 10, 13]) := ⟨_, rfl⟩
  have HX : Hid ((X.toList == []) = allWs s.data.toList) := hide (by rw [hX, str_list]; exact HT.out)
  have key : ∀ w : World, Calls Tryz.prog 96 #[.string s, .string ⟨#[32, 9, 10, 13]⟩] w fun e w' => e = .returned (.string X) ∧ Below w.heap.size w w' := fun w => by
    rw [hX]
    exact Any.strings_Trim_laid Tryz.lays160 (by kernel_rfl) s ⟨#[32, 9, 10, 13]⟩ w (by unfold maxLen at hs; omega) (by decide) (ascii_of_all (by decide))
  have HK := hide key
  clear hX key
  cases hb : allWs s.data.toList with
  | true =>
    have t0 : X.toList = [] := by have := HX.out; rw [hb] at this; exact beq_iff_eq.1 this
    have t1 : X.toList.isEmpty = true := by rw [t0]; rfl
    go_enter Tryz.func168, Tryz.ntmps168
    go_wp2_with fail
    refine (HK.out _).mono ?_
    rintro e w1 ⟨rfl, hb1⟩
    go_wp2_with fail
    go_ret
    exact ⟨rfl, hb1⟩
  | false =>
    have t0 : X.toList ≠ [] := by
      intro e
      have h2 := HX.out
      rw [hb, e] at h2; cases h2
    have t1 : X.toList.isEmpty = false := by
      cases h : X.toList with
      | nil => exact absurd h t0
      | cons _ _ => rfl
    have t2 := beq_eq_false_iff_ne.2 t0
    clear t0
    go_enter Tryz.func168, Tryz.ntmps168
    go_wp2_with fail
    refine (HK.out _).mono ?_
    rintro e w1 ⟨rfl, hb1⟩
    go_wp2_with fail
    go_ret
    exact ⟨rfl, hb1⟩

set_option maxHeartbeats 4000000 in
theorem wordDecode_any (s : ByteArray) (w : World) (hs : s.size ≤ 1048576) (hT : Tab w) :
    Calls Tryz.prog 116 #[.string s] w fun e w' => e = .returned (.string (str (decW false [] s.data.toList))) ∧ Below w.heap.size w w' := by
  have HT := hide hT
  have H0 := hide hT.lt
  clear hT
  have hB0 := Bld.new (Below.refl w.heap.size w) (Nat.le_refl _)
  have HB0 := hide hB0
  clear hB0
  go_enter Tryz.func116, Tryz.ntmps116
  go_wp2_with fail
  go_step3
  go_wp2_with fail
  go_step3
  go_wp2_with fail
  go_loopg [0, 4] s.size (fun g x b wx => ∃ (t : ByteArray) (bh : Bool) (acc : List UInt8), x = .string t ∧ b = .bool bh ∧ t.size ≤ g ∧ t.size ≤ s.size ∧ Bld w.heap.size w.heap.size acc w wx ∧ acc.length + 3 * t.size ≤ 3 * s.size ∧ Hid (acc ++ decW bh [] t.data.toList = decW false [] s.data.toList))
  case atStart => exact ⟨s, false, [], rfl, rfl, Nat.le_refl _, Nat.le_refl _, HB0.out, by simp, hide rfl⟩
  case round =>
    obtain ⟨t, bh, acc, rfl, rfl, htg, hts, hbl, hacc, HD⟩ := hrel
    have HBL := hide hbl
    clear hbl
    by_cases hz : t.size = 0
    · have hnil : t.data.toList = [] := List.eq_nil_of_length_eq_zero (by rw [toList_length]; exact hz)
      have t0 : t.toList = [] := by rw [bytes_list]; exact hnil
      have t1 : t.toList.isEmpty = true := by rw [t0]; rfl
      have HE : Hid (acc = decW false [] s.data.toList) := hide (by rw [← HD.out, hnil, decW_nil, validL_nil, List.append_nil])
      clear hnil HD hz
      go_wp2_with fail
      refine (HBL.out.string).mono ?_
      rintro e w1 ⟨rfl, hb1⟩
      rw [HE.out]
      go_wp2_with fail
      try rw [Exit.noGoto_ret]
      go_ret
      exact ⟨rfl, hb1⟩
    · cases gk with
      | zero => exact absurd (by omega : t.size = 0) hz
      | succ g =>
      have hpos : 0 < t.size := by omega
      have hne : t.data.toList ≠ [] := fun e => by have := toList_length t; rw [e] at this; simp at this; omega
      have t1 : t.toList.isEmpty = false := by
        rw [bytes_list]
        cases h : t.data.toList with
        | nil => exact absurd h hne
        | cons _ _ => rfl
      clear hz
      go_wp2_with fail
      go_loopg [0, 4, 13] t.size (fun gi x b i wx => ∃ k : Nat, x = .string t ∧ b = .bool bh ∧ k + gi = t.size ∧ i = .int .i64 k ∧ Bld w.heap.size w.heap.size acc w wx ∧ Hid (decW bh (t.data.toList.take k) (t.data.toList.drop k) = decW bh [] t.data.toList))
      case atStart => exact ⟨0, rfl, rfl, by omega, rfl, HBL.out, hide (by rw [List.take_zero, List.drop_zero])⟩
      case round =>
        obtain ⟨k, rfl, rfl, hkg, rfl, hbl2, HDI⟩ := hrel
        have HB2 := hide hbl2
        clear hbl2
        cases gk with
        | zero =>
          obtain rfl : k = t.size := by omega
          have HE : Hid (acc ++ validL t.data.toList = decW false [] s.data.toList) := hide (by
            have := HDI.out
            rw [drop_nil t t.size (Nat.le_refl _), decW_nil, List.take_of_length_le (by rw [toList_length]; exact Nat.le_refl _)] at this
            rw [← HD.out, ← this])
          have zv := validL_length t.data.toList
          rw [toList_length] at zv
          obtain ⟨V, hV⟩ : ∃ V, V = str (validL t.data.toList) := ⟨_, rfl⟩
          have zV : V.size ≤ 3 * t.size := by rw [hV, str_size]; exact zv
          have ZT := hide (show t.size ≤ 1048576 by omega)
          have ZW := hide (show acc.length + V.size ≤ 140737488355328 by omega)
          have HVL : Hid (V.data.toList = validL t.data.toList) := hide (by rw [hV, str_toList])
          have HV := hide hV
          clear hV zv HD HDI hne hkg htg hts hacc hpos zV
          go_wp2_with fail
          refine (valid_any t _ ZT.out).mono ?_
          rintro e w1 ⟨rfl, hb1⟩
          rw [← HV.out]
          have HB3 := hide (HB2.out.kept hb1)
          clear hb1
          go_wp2_with fail
          refine (writeString_any w.heap.size w.heap.size acc V w _ HB3.out ZW.out).mono ?_
          rintro e w2 ⟨rfl, hb2⟩
          have HB4 := hide hb2
          clear hb2
          go_wp2_with fail
          refine (HB4.out.string).mono ?_
          rintro e w3 ⟨rfl, hb3⟩
          rw [show acc ++ V.data.toList = decW false [] s.data.toList by rw [HVL.out]; exact HE.out]
          go_wp2_with fail
          try rw [Exit.noGoto_ret]
          go_ret
          exact ⟨rfl, hb3⟩
        | succ gi =>
          have hlt : k < t.size := by omega
          have hX := extract_end t k
          have zX : (t.extract k t.size).size ≤ 1048576 := by rw [ByteArray.size_extract]; omega
          have HX := hide hX
          have ZX := hide zX
          clear hX zX
          have hdl : (t.data.toList.drop k).length = t.size - k := by rw [List.length_drop, toList_length]
          have hdne : t.data.toList.drop k ≠ [] := by rw [drop_cons t k hlt]; simp
          by_cases hn : oneN (t.data.toList.drop k) = 0
          · have HV : Hid (oneV (t.data.toList.drop k) = .tuple #[.string ⟨#[]⟩, .int .i64 0]) := hide (oneV_none (one_zero hn).1)
            have HDN : Hid (decW bh (t.data.toList.take (k + 1)) (t.data.toList.drop (k + 1)) = decW bh [] t.data.toList) := hide (by
              rw [← HDI.out, decW_go hdne hn, List.drop_drop, take_snoc t k hlt]
              congr 2
              rw [drop_cons t k hlt]; rfl)
            have k0 : (0 : Int) ≤ k := by omega
            have k1 : (k : Int) ≤ t.size := by omega
            clear hdl hdne hn HDI hne
            go_wp2_with fail
            refine (one_any _ _ ZX.out (HT.out.below HB2.out.2.1 H0.out)).mono ?_
            rintro e w1 ⟨rfl, hb1⟩
            rw [HX.out, HV.out]
            have HB3 := hide (HB2.out.kept hb1)
            clear hb1
            go_wp2_with fail
            go_roundg gi
            case rel => exact ⟨k + 1, rfl, rfl, by omega, by go_num, HB3.out, HDN⟩
            case measure => omega
          · obtain ⟨ho, hnle, _⟩ := one_pos hn
            rw [hdl] at hnle
            have htl := oneT_length (t.data.toList.drop k)
            have hdw := decW_word (b := bh) (p := t.data.toList.take k) hn
            obtain ⟨n, hnn⟩ : ∃ n, n = oneN (t.data.toList.drop k) := ⟨_, rfl⟩
            obtain ⟨T, hT⟩ : ∃ T, T = str (oneT (t.data.toList.drop k)) := ⟨_, rfl⟩
            have HV : Hid (oneV (t.data.toList.drop k) = .tuple #[.string T, .int .i64 n]) := hide (by rw [hT, hnn]; rfl)
            have hTl : T.data.toList = oneT (t.data.toList.drop k) := by rw [hT, str_toList]
            have hTs : T.size ≤ 3 * n := by rw [hT, str_size, hnn]; exact htl
            have hn0 : n ≠ 0 := by rw [hnn]; exact hn
            have hnle' : n ≤ t.size - k := by rw [hnn]; exact hnle
            have HP := hide (show (t.extract 0 k).data.toList = t.data.toList.take k by rw [extract_list, List.drop_zero])
            have hps : (t.extract 0 k).size = k := by rw [ByteArray.size_extract]; omega
            have zv := validL_length (t.data.toList.take k)
            rw [List.length_take, toList_length] at zv
            obtain ⟨V, hV⟩ : ∃ V, V = str (validL (t.data.toList.take k)) := ⟨_, rfl⟩
            have hVs : V.size ≤ 3 * k := by rw [hV, str_size]; omega
            have hVl : V.data.toList = validL (t.data.toList.take k) := by rw [hV, str_toList]
            have HVV := hide hV
            have hfin : acc ++ ((if bh && allWs (t.data.toList.take k) then [] else V.data.toList) ++ (T.data.toList ++ decW true [] (t.extract (k + n) t.size).data.toList)) = decW false [] s.data.toList := by
              rw [extract_end, hTl, hVl, ← List.drop_drop, hnn, ← hdw, HDI.out, HD.out]
            have ZG := hide (show (t.extract (k + n) t.size).size ≤ g by rw [ByteArray.size_extract]; omega)
            have ZS := hide (show (t.extract (k + n) t.size).size ≤ s.size by rw [ByteArray.size_extract]; omega)
            have ZP := hide (show (t.extract 0 k).size ≤ 1048576 by omega)
            have ZPM := hide (show (t.extract 0 k).size ≤ maxLen by unfold maxLen; omega)
            have ZW1 := hide (show acc.length + V.size ≤ 140737488355328 by omega)
            have ZW2 := hide (show acc.length + T.size ≤ 140737488355328 by omega)
            have ZW3 := hide (show (acc ++ V.data.toList).length + T.size ≤ 140737488355328 by rw [List.length_append, toList_length]; omega)
            have ZA1 := hide (show (acc ++ T.data.toList).length + 3 * (t.extract (k + n) t.size).size ≤ 3 * s.size by rw [List.length_append, toList_length, ByteArray.size_extract]; omega)
            have ZA2 := hide (show (acc ++ V.data.toList ++ T.data.toList).length + 3 * (t.extract (k + n) t.size).size ≤ 3 * s.size by rw [List.length_append, List.length_append, toList_length, toList_length, ByteArray.size_extract]; omega)
            have k0 : (0 : Int) ≤ k := by omega
            have k1 : (k : Int) ≤ t.size := by omega
            have k2 : (k : Int) + n ≤ t.size := by omega
            have t2 : ((n : Int) == 0) = false := by rw [beq_eq_false_iff_ne]; omega
            have k3 : (0 : Int) ≤ n := by omega
            have hts' : t.size ≤ 1048576 := by omega
            clear hT hnn hV htl hdw hTl hVl hdl hdne hne hn ho hnle HDI HD zv hTs hVs hps hkg hnle' hn0 htg hacc
            cases bh with
            | false =>
              have HFIN : Hid ((acc ++ V.data.toList ++ T.data.toList) ++ decW true [] (t.extract (k + n) t.size).data.toList = decW false [] s.data.toList) := hide (by rw [← hfin]; simp)
              clear hfin
              go_wp2_with fail
              refine (one_any _ _ ZX.out (HT.out.below HB2.out.2.1 H0.out)).mono ?_
              rintro e w1 ⟨rfl, hb1⟩
              rw [HX.out, HV.out]
              have HB3 := hide (HB2.out.kept hb1)
              clear hb1
              go_wp2_with fail
              have HB4 := hide HB3.out
              refine (valid_any _ _ ZP.out).mono ?_
              rintro e w3 ⟨rfl, hb3⟩
              rw [HP.out, ← HVV.out]
              have HB5 := hide (HB4.out.kept hb3)
              clear hb3
              go_wp2_with fail
              refine (writeString_any w.heap.size w.heap.size acc V w _ HB5.out ZW1.out).mono ?_
              rintro e w4 ⟨rfl, hb4⟩
              have HB6 := hide hb4
              clear hb4
              go_wp2_with fail
              refine (writeString_any w.heap.size w.heap.size _ T w _ HB6.out ZW3.out).mono ?_
              rintro e w5 ⟨rfl, hb5⟩
              have HB7 := hide hb5
              clear hb5
              go_wp2_with fail
              go_roundg g
              case rel => exact ⟨t.extract (k + n) t.size, true, _, rfl, rfl, ZG.out, ZS.out, HB7.out, ZA2.out, HFIN⟩
              case measure => omega
            | true =>
              cases hw : allWs (t.data.toList.take k) with
              | false =>
                have HFIN : Hid ((acc ++ V.data.toList ++ T.data.toList) ++ decW true [] (t.extract (k + n) t.size).data.toList = decW false [] s.data.toList) := hide (by rw [← hfin, hw]; simp)
                have HW := hide hw
                clear hfin hw
                go_wp2_with fail
                refine (one_any _ _ ZX.out (HT.out.below HB2.out.2.1 H0.out)).mono ?_
                rintro e w1 ⟨rfl, hb1⟩
                rw [HX.out, HV.out]
                have HB3 := hide (HB2.out.kept hb1)
                clear hb1
                go_wp2_with fail
                refine (allWhite_any _ _ ZPM.out).mono ?_
                rintro e w2 ⟨rfl, hb2⟩
                rw [HP.out, HW.out]
                have HB4 := hide (HB3.out.kept hb2)
                clear hb2
                go_wp2_with fail
                refine (valid_any _ _ ZP.out).mono ?_
                rintro e w3 ⟨rfl, hb3⟩
                rw [HP.out, ← HVV.out]
                have HB5 := hide (HB4.out.kept hb3)
                clear hb3
                go_wp2_with fail
                refine (writeString_any w.heap.size w.heap.size acc V w _ HB5.out ZW1.out).mono ?_
                rintro e w4 ⟨rfl, hb4⟩
                have HB6 := hide hb4
                clear hb4
                go_wp2_with fail
                refine (writeString_any w.heap.size w.heap.size _ T w _ HB6.out ZW3.out).mono ?_
                rintro e w5 ⟨rfl, hb5⟩
                have HB7 := hide hb5
                clear hb5
                go_wp2_with fail
                go_roundg g
                case rel => exact ⟨t.extract (k + n) t.size, true, _, rfl, rfl, ZG.out, ZS.out, HB7.out, ZA2.out, HFIN⟩
                case measure => omega
              | true =>
                have HFIN : Hid ((acc ++ T.data.toList) ++ decW true [] (t.extract (k + n) t.size).data.toList = decW false [] s.data.toList) := hide (by rw [← hfin, hw]; simp)
                have HW := hide hw
                clear hfin hw
                go_wp2_with fail
                refine (one_any _ _ ZX.out (HT.out.below HB2.out.2.1 H0.out)).mono ?_
                rintro e w1 ⟨rfl, hb1⟩
                rw [HX.out, HV.out]
                have HB3 := hide (HB2.out.kept hb1)
                clear hb1
                go_wp2_with fail
                refine (allWhite_any _ _ ZPM.out).mono ?_
                rintro e w2 ⟨rfl, hb2⟩
                rw [HP.out, HW.out]
                have HB4 := hide (HB3.out.kept hb2)
                clear hb2
                go_wp2_with fail
                have HB6 := hide HB4.out
                refine (writeString_any w.heap.size w.heap.size acc T w _ HB6.out ZW2.out).mono ?_
                rintro e w5 ⟨rfl, hb5⟩
                have HB7 := hide hb5
                clear hb5
                go_wp2_with fail
                go_roundg g
                case rel => exact ⟨t.extract (k + n) t.size, true, _, rfl, rfl, ZG.out, ZS.out, HB7.out, ZA1.out, HFIN⟩
                case measure => omega
end Go.Proofs.YtcmmbceacjechaaGreatDoor
