/- WALKS of strings.Cut at the sign of the end, and of b64.Decode. No statement is proved here. -/
import Derived.Test.YtcmmbceacjechaaGreatDoorB64Enc
import Derived.Test.YtcmmbceacjechaaGreatDoorB64Walk
import Derived.Test.YtcmmbceacjechaaGreatDoorShelf
namespace Go.Proofs.YtcmmbceacjechaaGreatDoor
open Go.RowKit
set_option linter.unusedVariables false
set_option maxRecDepth 100000
set_option linter.unusedSimpArgs false

theorem index61 (l : List UInt8) : (Lib.indexByte l 61 = -1 ∧ ahead l = l) ∨ ∃ o : Nat, Lib.indexByte l 61 = o ∧ o < l.length ∧ l.take o = ahead l := by
  induction l with
  | nil => exact .inl ⟨rfl, rfl⟩
  | cons c r ih =>
    by_cases h : c = 61
    · subst h
      exact .inr ⟨0, by simp [Lib.indexByte], by simp, by simp [ahead]⟩
    · have h1 : (c == 61) = false := by simp [h]
      have h2 : (c != 61) = true := by simp [h]
      have ea : ahead (c :: r) = c :: ahead r := by simp [ahead, h]
      rcases ih with ⟨i1, i2⟩ | ⟨o, i1, i2, i3⟩
      · refine .inl ⟨?_, by rw [ea, i2]⟩
        simp [Lib.indexByte, h1, i1]
      · refine .inr ⟨o + 1, ?_, by simp; omega, by rw [ea, ← i3]; rfl⟩
        have hne : ((o : Int) == -1) = false := by rw [beq_eq_false_iff_ne]; omega
        simp [Lib.indexByte, h1, i1, hne]

theorem ret_cut61 {a b x : ByteArray} {c : Bool} (h : a = b) : Ending.returned (.tuple #[.string a, .string x, .bool c]) = .returned (.tuple #[.string b, .string x, .bool c]) := by rw [h]
set_option maxHeartbeats 1000000 in
theorem cut61_any (s : ByteArray) (w : World) (hs : s.size ≤ 1048576) :
    Calls Tryz.prog 123 #[.string s, .string ⟨#[61]⟩] w fun e w' => ∃ x b, e = .returned (.tuple #[.string (str (ahead s.data.toList)), .string x, .bool b]) ∧ Below w.heap.size w w' := by
  have hz : (⟨#[61]⟩ : ByteArray).size = 1 := rfl
  rcases index61 s.data.toList with ⟨i1, i2⟩ | ⟨o, i1, i2, i3⟩
  · have I1 := hide i1
    have I2 := hide i2
    clear i1 i2
    go_enter Tryz.func123, Tryz.ntmps123
    go_wp2_with fail
    refine (Tryz.stringslite_Index_one s 61 _).mono ?_
    rintro e w1 ⟨rfl, hw⟩
    subst hw
    rw [I1.out]
    go_wp2_with fail
    go_ret3
    exact ⟨_, _, ret_cut61 (by rw [I2.out, str_of]), Below.refl _ _⟩
  · have I1 := hide i1
    have I3 := hide i3
    rw [toList_length] at i2
    have o1 : (o : Int) + 1 ≤ s.size := by omega
    have o0 : (0 : Int) ≤ o := by omega
    have o2 : (o : Int) ≤ s.size := by omega
    have o3 : (0 : Int) ≤ (o : Int) + 1 := by omega
    clear i1 i3
    go_enter Tryz.func123, Tryz.ntmps123
    go_wp2_with fail
    refine (Tryz.stringslite_Index_one s 61 _).mono ?_
    rintro e w1 ⟨rfl, hw⟩
    subst hw
    rw [I1.out]
    go_wp2_with fail
    go_region
    all_goals (try go_wp2)
    all_goals
      go_ret3
      exact ⟨_, _, ret_cut61 (ext_list (by rw [extract_list, List.drop_zero, str_toList, I3.out])), (Below.refl _ _).drew⟩

set_option maxHeartbeats 1000000 in
theorem strCut61_any (s : ByteArray) (w : World) (hs : s.size ≤ 1048576) :
    Calls Tryz.prog 76 #[.string s, .string ⟨#[61]⟩] w fun e w' => ∃ x b, e = .returned (.tuple #[.string (str (ahead s.data.toList)), .string x, .bool b]) ∧ Below w.heap.size w w' := by
  go_enter Tryz.func76, Tryz.ntmps76
  go_wp2_with fail
  refine (cut61_any s _ hs).mono ?_
  rintro e w1 ⟨x, b, rfl, hb⟩
  go_wp2_with fail
  go_ret3
  exact ⟨_, _, rfl, hb⟩

theorem runDec (h w n : Nat) (acc : List UInt8) (hh : h < 8) : runBits 8 UInt8.ofNat (h + 6) (w * 2 ^ 6 + n) acc =
    if h + 6 < 8 then (h + 6, w * 64 + n, acc) else (h - 2, (w * 64 + n) % 2 ^ (h - 2), acc ++ [UInt8.ofNat ((w * 64 + n) / 2 ^ (h - 2))]) := by
  by_cases h2 : h + 6 < 8
  · rw [if_pos h2, run_stop _ _ _ _ _ h2]
  · rw [if_neg h2]
    obtain ⟨k, rfl⟩ : ∃ k, h = k + 2 := ⟨h - 2, by omega⟩
    rw [show k + 2 + 6 = k + 8 from rfl, run_go 8 UInt8.ofNat k _ _ (by omega), run_stop _ _ _ _ _ (by omega), Nat.add_sub_cancel]

theorem ahead_length (l : List UInt8) : (ahead l).length ≤ l.length := (List.takeWhile_sublist _).length_le

set_option maxRecDepth 100000 in
set_option maxHeartbeats 2000000 in
theorem decode64_any (s : ByteArray) (w : World) (hs : s.size ≤ 1048576) :
    Calls Tryz.prog 230 #[.string s] w fun e w' => e = .returned (.string (str (decB s.data.toList))) ∧ Below w.heap.size w w' := by
  have hmf := makeFunc_run
  have hal := ahead_length s.data.toList
  rw [toList_length] at hal
  obtain ⟨bd, hbd⟩ : ∃ b : ByteArray, b = str (ahead s.data.toList) := ⟨_, rfl⟩
  have hbz : bd.size ≤ s.size := by rw [hbd, str_size]; exact hal
  have hbt : bd.data.toList = ahead s.data.toList := by rw [hbd, str_toList]
  have HBD := hide hbd
  have HBT := hide hbt
  clear hbd hbt hal
  have hc0 : (0 : Int) ≤ bd.size := by omega
  go_enter Tryz.func230, Tryz.ntmps230
  go_wp2_with fail
  refine (strCut61_any s _ hs).mono ?_
  rintro e w0 ⟨x, b, rfl, hb0⟩
  rw [← HBD.out]
  have HB0 := hide hb0
  have hsz0 := hb0.size
  clear hb0
  go_wp2_with (refine wpList_buf_make rfl _ _ rfl w.heap.size w HB0.out hsz0 (bd.size / 4 * 3 + 2) (((bd.size : Int)) / 4 * 3 + 2) rfl rfl (by omega) (by omega) ?_; intro v0 w1 hb1; obtain ⟨A0, c0, rfl⟩ := hb1.slice_len; have HB1 := hide hb1; clear hb1)
  have ho0 : Out w.heap.size w1.heap.size [] w (w1.alloc (Obj.cells #[Value.slice A0 0 c0] 67)) := ⟨_, Box.new w1 _ _, HB1.out.alloc _, HB1.out.2.2⟩
  refine (gather_ex 8 242 w.heap.size w1.heap.size [] w _ ho0).mono ?_
  rintro e w2 ⟨bw, bh, bs, bdd, rfl, hg, ho⟩
  clear ho0
  have HG := hide hg
  have HO := hide ho
  clear hg ho
  generalize w1.heap.size = bo at *
  go_wp2_with fail
  go_loopw [27] (fun i wr => ∃ (k h wv : Nat) (acc : List UInt8), k ≤ bd.size ∧ i = .int .i64 k ∧ Gat 8 242 w.heap.size bw bh bs bdd bo h wv wr ∧ Out w.heap.size bo acc w wr ∧ h < 8 ∧ wv < 2 ^ h ∧ acc ++ decFrom h wv (bd.data.toList.drop k) = decB s.data.toList ∧ acc.length ≤ k) (fun i _ => bd.size - (intOf i).toNat)
  case atStart => exact ⟨0, 0, 0, [], Nat.zero_le _, rfl, HG.out, HO.out, by omega, by decide, by rw [HBT.out]; rfl, Nat.le_refl _⟩
  case round =>
    obtain ⟨k, h, wv, acc, hk, rfl, hg, ho, hh, hw, hR, hl⟩ := hrel
    have HG1 := hide hg
    have HO1 := hide ho
    have HR := hide hR
    have HW := hide hw
    clear hg ho hR hw
    by_cases hlt : k < bd.size
    · have HD := hide (drop_cons bd k hlt)
      have hR := HR.out
      rw [HD.out, decFrom] at hR
      by_cases hv : val bd[k] < 64
      · have HV := hide (numV_yes hv)
        rw [if_neg (by omega)] at hR
        have HR1 := hide hR
        clear hR
        go_wp2_with fail
        refine (number64_any _ _).mono ?_
        rintro e w3 ⟨rfl, rfl⟩
        rw [HV.out]
        go_wp2_with fail
        refine (gatDec w.heap.size bw bh bs bdd bo 6 h wv (val bd[k]) acc w _ (by omega) HW.out hv HG1.out HO1.out (by omega)).mono ?_
        rintro e w4 ⟨h', wv', acc', hr, rfl, hg2, ho2⟩
        rw [runDec _ _ _ _ hh] at hr
        have hst : h' < 8 ∧ wv' < 2 ^ h' ∧ acc' ++ decFrom h' wv' (bd.data.toList.drop (k + 1)) = decB s.data.toList ∧ acc'.length ≤ k + 1 := by
          have hw := HW.out
          by_cases h2 : h + 6 < 8
          · have hR := HR1.out
            rw [if_pos h2] at hr hR
            injection hr with e1 hr
            injection hr with e2 e3
            subst e1; subst e2; subst e3
            refine ⟨h2, ?_, hR, by omega⟩
            rw [Nat.pow_add]; omega
          · have hR := HR1.out
            rw [if_neg h2] at hr hR
            injection hr with e1 hr
            injection hr with e2 e3
            subst e1; subst e2; subst e3
            refine ⟨by omega, Nat.mod_lt _ (Nat.two_pow_pos _), ?_, by simp; omega⟩
            rw [← hR]; simp
        obtain ⟨s1, s2, s3, s4⟩ := hst
        have HG2 := hide hg2
        have HO2 := hide ho2
        have HS2 := hide s2
        have HS3 := hide s3
        clear hr hg2 ho2 s2 s3
        go_wp2_with fail
        go_roundw
        case rel => exact ⟨k + 1, h', wv', acc', by omega, by go_num, HG2.out, HO2.out, s1, HS2.out, HS3.out, by omega⟩
        case measure => simp [intOf]; omega
      · have HV := hide (numV_no hv)
        have hvl := val_le bd[k]
        rw [if_pos (by omega)] at hR
        have HR1 := hide hR
        clear hR
        go_wp2_with fail
        refine (number64_any _ _).mono ?_
        rintro e w3 ⟨rfl, rfl⟩
        rw [HV.out]
        go_wp2_with fail
        go_roundw
        case rel => exact ⟨k + 1, h, wv, acc, by omega, by go_num, HG1.out, HO1.out, hh, HW.out, HR1.out, by omega⟩
        case measure => simp [intOf]; omega
    · obtain ⟨v, hbx, hbf, hB⟩ := HO1.out
      have c1 := hbx.cell
      have hcv := hbf.convert
      have HBF := hide hbf
      clear hbx hbf
      go_wp2_with fail
      go_ret
      refine ⟨ret_str ?_, HBF.out.below⟩
      have h1 := HR.out
      rw [drop_nil bd k (by omega), decFrom, List.append_nil] at h1
      rw [h1]
end Go.Proofs.YtcmmbceacjechaaGreatDoor
