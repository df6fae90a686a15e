/- WALK of the law AddrParses. No statement is proved here. -/
import Derived.Test.YtcmmbceacjechaaGreatDoorAddrL0
import Derived.Test.YtcmmbceacjechaaGreatDoorRef08F
namespace Go.Proofs.YtcmmbceacjechaaGreatDoor
open Go.RowKit
set_option linter.unusedVariables false
set_option linter.unusedSimpArgs false
set_option maxRecDepth 100000
theorem parseF_count (s : ByteArray) (hs : s.size ≤ 1048576) : (parseF s.data.toList).length ≤ 1048576 + 1 := by
  unfold parseF
  refine Nat.le_trans (List.length_filter_le _ _) ?_
  rw [List.length_map, ← boxL_F, List.length_map]
  have := (boxL_length s).1
  omega
set_option maxHeartbeats 8000000 in
theorem law_AddrParses (s : ByteArray) (hss : s.size ≤ maxLen) (w : World) (hE : Env w) :
    Calls Tryz.prog 8 #[.string s] w fun e w' => e = .returned (.bool true) ∧ Below w.heap.size w w' := by
  have HE := hide hE
  clear hE hss
  rcases Nat.lt_or_ge 1500 s.size with hq | hs
  · have HD : Hid (decide (s.size ≤ 1500) = false) := hide (decide_eq_false (by omega))
    clear hq
    go_enter Tryz.func8, Tryz.ntmps8
    go_wp2_with fail
    refine (short08_any s _).mono ?_
    rintro e wq ⟨rfl, rfl⟩
    rw [HD.out]
    go_wp2_with fail
    refine (live8_any _ HE.out).mono ?_
    rintro e wl ⟨rfl, hbl⟩
    go_wp2_with fail
    go_ret
    exact ⟨rfl, hbl⟩
  have HD : Hid (decide (s.size ≤ 1500) = true) := hide (decide_eq_true hs)
  have hlen : (parseF s.data.toList).length ≤ 1048576 := by
    unfold parseF
    refine Nat.le_trans (List.length_filter_le _ _) ?_
    rw [List.length_map, ← boxL_F, List.length_map]
    have := (boxL_length s).1
    omega
  have CP := hide (addrParse_any s w (by omega) HE.out.1)
  rw [parseL_F] at CP
  have CR := hide (fun (w : World) => refParse08_any s w (by omega))
  obtain ⟨L, hL⟩ : ∃ L, L = parseF s.data.toList := ⟨_, rfl⟩
  rw [← hL] at CP CR hlen
  have CG := hide (fun (w : World) => good_any s w (by omega))
  have CH := hide (fun (w : World) => refGood_any s w (by omega))
  generalize goodL s.data.toList = b at CG CH
  have q3 : (b == b) = true := beq_self_eq_true _
  have HSL : Hid (∀ (v1 v2 : Value) (w : World), BoxesIn w v1 L → BoxesIn w v2 L → Calls Tryz.prog 28 #[v1, v2] w fun e w' => e = .returned (.bool true) ∧ Below w.heap.size w w') := hide (fun v1 v2 w h1 h2 => by
    have := same08_any v1 v2 L L w h1 h2 hlen
    rw [decide_eq_true (rfl : L = L)] at this
    exact this)
  clear hL hs
  go_enter Tryz.func8, Tryz.ntmps8
  go_wp2_with fail
  refine (short08_any s _).mono ?_
  rintro e wq ⟨rfl, rfl⟩
  rw [HD.out]
  go_wp2_with fail
  refine CP.out.mono ?_
  rintro e w1 ⟨v1, rfl, hf1⟩
  obtain ⟨A1, c1, rfl⟩ := hf1.slice_len
  have K1 := hide hf1.below
  have F1 := hide hf1.in
  clear hf1
  go_wp2_with fail
  refine (CR.out _).mono ?_
  rintro e w2 ⟨v2, rfl, hf2⟩
  obtain ⟨A2, c2, rfl⟩ := hf2.slice_len
  have K2 := hide (K1.out.trans (hf2.below.mono K1.out.size))
  have F12 := hide (F1.out.kept hf2.below)
  have F2 := hide hf2.in
  clear hf2
  go_wp2_with fail
  refine (HSL.out _ _ _ F12.out F2.out).mono ?_
  rintro e w5 ⟨rfl, hb5⟩
  have K5 := hide (K2.out.trans (hb5.mono K2.out.size))
  clear hb5
  go_wp2_with fail
  refine (CG.out _).mono ?_
  rintro e w6 ⟨rfl, hb6⟩
  have K6 : Hid (Below w.heap.size w w6) := hide (by first | exact K5.out.trans (hb6.mono K5.out.size) | (subst hb6; exact K5.out))
  clear hb6
  go_wp2_with fail
  refine (CH.out _).mono ?_
  rintro e w7 ⟨rfl, hw7⟩
  have K7 : Hid (Below w.heap.size w w7) := hide (by subst hw7; exact K6.out)
  clear hw7
  go_wp2_with fail
  refine (live8_any _ (HE.out.kept K7.out)).mono ?_
  rintro e wl ⟨rfl, hbl⟩
  go_wp2_with fail
  go_ret
  exact ⟨rfl, K7.out.trans (hbl.mono K7.out.size)⟩
end Go.Proofs.YtcmmbceacjechaaGreatDoor
