/- WALK of the law HtokText. Written by wip/tools/htoklaws.py. No statement is proved here. Own work of the verifier. -/
import Derived.Test.YtmojckphfbcibaaGreatDoorRef13L
import Derived.Test.YtmojckphfbcibaaGreatDoorHtokQ
namespace Go.Proofs.YtmojckphfbcibaaGreatDoor
open Go.RowKit
set_option linter.unusedVariables false
set_option linter.unusedSimpArgs false
set_option maxRecDepth 100000
set_option maxHeartbeats 8000000 in
theorem law_HtokText (s : ByteArray) (hss : s.size ≤ maxLen) (w : World) (hE : EnvX w) :
    Calls Tryz.prog 7 #[.string s] w fun e w' => e = .returned (.bool true) ∧ Below w.heap.size w w' := by
  have HE := hide hE
  clear hE
  unfold maxLen at hss
  rcases Nat.lt_or_ge 1500 s.size with hqs | hs
  · have t0 : decide ((1500 : Int) < s.size) = true := decide_eq_true (by omega)
    go_enter Tryz.func7, Tryz.ntmps7
    go_wp2_with fail
    refine (live13_any _ HE.out).mono ?_
    rintro e wl ⟨rfl, hbl⟩
    have HBL := hide (hbl)
    clear hbl
    go_wp2_with fail
    go_ret
    exact ⟨rfl, HBL.out⟩
  have t0 : decide ((1500 : Int) < s.size) = false := decide_eq_false (by omega)
  obtain ⟨m, hm⟩ := HE.out.2
  have HSC := hide (scan_any s m w (by omega) HE.out.1 hm)
  have HPL : Hid ((60 : UInt8) ∉ s.data.toList → s.data.toList ≠ [] → scanL decE [] [] s.data.toList = [charsT (decE s.data.toList)]) := hide fun h1 h2 => by
    rw [scan_plain decE _ h1 h2]
    unfold flushT
    rw [if_neg (decE_ne h2)]; rfl
  clear hm
  go_enter Tryz.func7, Tryz.ntmps7
  go_wp2_with fail
  go_loopw [3] (fun iv wr => ∃ k : Nat, k ≤ s.size ∧ iv = .int .i64 k ∧ Hid ((60 : UInt8) ∉ s.data.toList.take k) ∧ Hid (wr = w)) (fun iv _ => s.size - (intOf iv).toNat)
  case atStart => exact ⟨0, Nat.zero_le _, rfl, hide (by simp), hide rfl⟩
  case round =>
    obtain ⟨k, hk, rfl, HN, HW⟩ := hrel
    obtain rfl := HW.out
    by_cases hlt : k < s.size
    · by_cases h60 : s[k] = 60
      · have t1 : ((s[k].toNat : Int) == 60) = true := tT 60 h60 (by omega)
        clear h60
        go_wp2_with fail
        refine (live13_any _ HE.out).mono ?_
        rintro e wl ⟨rfl, hbl⟩
        have HBL := hide (hbl)
        clear hbl
        go_wp2_with fail
        go_ret
        exact ⟨rfl, HBL.out⟩
      · have t1 : ((s[k].toNat : Int) == 60) = false := tF 60 h60 (by omega)
        have HN2 : Hid ((60 : UInt8) ∉ s.data.toList.take (k + 1)) := hide (by
          rw [take_snoc s k hlt, List.mem_append, List.mem_singleton]
          exact fun e => e.elim HN.out (fun e => h60 e.symm))
        clear h60
        go_wp2_with fail
        go_roundw
        case rel => exact ⟨k + 1, by omega, by go_num, HN2, by first | exact trivial | exact hide rfl⟩
        case measure => simp [intOf]; omega
    · have HN3 : Hid ((60 : UInt8) ∉ s.data.toList) := hide (by
        have := HN.out
        rwa [List.take_of_length_le (by rw [toList_length]; omega)] at this)
      clear HN
      go_wp2_with fail
      refine HSC.out.mono ?_
      rintro e w1 ⟨v, vs, rfl, ht, hm, hb⟩
      obtain ⟨A, c, rfl⟩ := ht.slice_len
      have HE1 := hide (HE.out.kept hb)
      have HT := hide ht.in
      have HM := hide hm
      have HB1 := hide hb
      clear ht hm hb
      cases hl : s.data.toList with
      | nil =>
        have q0 : s.toList.isEmpty = true := by rw [bytes_list, hl]; rfl
        have q1 : s.toList = [] := by rw [bytes_list, hl]
        have q2 : vs.length = 0 := by
          have := congrArg List.length HM.out
          rw [hl, scanL_nil, List.length_map] at this
          simpa [flushT] using this
        obtain rfl : vs = [] := List.eq_nil_of_length_eq_zero q2
        clear hl q2 HM HT
        go_wp2_with fail
        refine (live13_any _ HE1.out).mono ?_
        rintro e wl ⟨rfl, hbl⟩
        have HBL := hide (HB1.out.trans (hbl.mono HB1.out.size))
        clear hbl
        go_wp2_with fail
        go_ret
        exact ⟨rfl, HBL.out⟩
      | cons d r =>
        have q0 : s.toList.isEmpty = false := by rw [bytes_list, hl]; rfl
        have hv := HM.out.trans (HPL.out HN3.out (by rw [hl]; simp))
        have q2 : vs.length = 1 := by
          have := congrArg List.length hv
          rw [List.length_map] at this
          exact this
        rw [q2] at HT ⊢
        have ht := HT.out
        rw [hv] at ht
        obtain ⟨a, d', y, ha, c1, c2, c3, c4, hA⟩ := ht.at 0 (gOf (charsT (decE s.data.toList))) rfl
        subst ha
        have ez : (a.add (0 * 4)) = a := by cases a; simp [Addr.add]
        rw [ez] at c1 c2 c3 c4
        obtain ⟨X, hX⟩ : ∃ X, X = str (decE s.data.toList) := ⟨_, rfl⟩
        have zX : X.size ≤ s.size := by
          rw [hX, str_size]
          have := decE_len _ s.data.toList (Nat.le_refl _)
          rw [toList_length] at this; omega
        have hX2 : str (gOf (charsT (decE s.data.toList))).2.text = X := hX.symm
        rw [hX2] at c3
        have c1' : w1.cell? a = some (.int .i64 1) := c1
        have zXd : decide ((X.size : Int) ≤ s.size) = true := decide_eq_true (by omega)
        clear hl q2 HM HT hv ht c1 c2 c4 hA hX hX2 HPL HN3
        go_wp2_with fail
        refine (live13_any _ HE1.out).mono ?_
        rintro e wl ⟨rfl, hbl⟩
        have HBL := hide (HB1.out.trans (hbl.mono HB1.out.size))
        clear hbl
        go_wp2_with fail
        go_ret
        exact ⟨rfl, HBL.out⟩
end Go.Proofs.YtmojckphfbcibaaGreatDoor
