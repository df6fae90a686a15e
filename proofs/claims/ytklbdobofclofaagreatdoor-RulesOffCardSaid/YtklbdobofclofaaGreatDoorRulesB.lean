/- WALKS of rules.Blocked and of the reference's Blocked of layer 18. No statement is proved here. Own work of the verifier. -/
import Derived.Test.YtklbdobofclofaaGreatDoorRef18V
namespace Go.Proofs.YtklbdobofclofaaGreatDoor
open Go.RowKit
set_option linter.unusedVariables false
set_option linter.unusedSimpArgs false
set_option maxRecDepth 100000
set_option maxHeartbeats 4000000 in
theorem blocked_any (r s q : Bool) (e n v : ByteArray) (w : World) (hs : v.size ≤ 10000) (hE : EnvU w) :
    Calls Tryz.prog 16 #[.agg #[.bool r, .bool s, .bool q], .string e, .agg #[.string n, .string v]] w fun x w' => x = .returned (.bool (blockB r e.data.toList n.data.toList v.data.toList)) ∧ Below w.heap.size w w' := by
  have HS := hide hs
  have HE := hide hE
  have HEND : Hid (Below w.heap.size w ((w.alloc (.cells #[.bool r, .bool s, .bool q] 26)).alloc (.cells #[.string n, .string v] 29))) := hide (((Below.refl _ _).alloc (Nat.le_refl _) _).alloc (by rw [World.size_alloc]; exact Nat.le_succ _) _)
  clear hs hE
  cases h1 : (e.data.toList == [105, 109, 103]) with
  | false =>
    have t1 : (e.toList == [105, 109, 103]) = false := by rw [bytes_list]; exact h1
    have t2 : (e.toList != [105, 109, 103]) = true := by rw [bne, t1]; rfl
    have HR : Hid (blockB r e.data.toList n.data.toList v.data.toList = false) := hide (if_neg (fun h => by rw [h.1] at h1; cases h1))
    clear h1
    go_enter Tryz.func16, Tryz.ntmps16
    go_wp2_with fail
    go_ret
    exact ⟨by rw [HR.out]; rfl, HEND.out⟩
  | true =>
    have t1 : (e.toList == [105, 109, 103]) = true := by rw [bytes_list]; exact h1
    have t2 : (e.toList != [105, 109, 103]) = false := by rw [bne, t1]; rfl
    cases h2 : (n.data.toList == [115, 114, 99]) with
    | false =>
      have t3 : (n.toList == [115, 114, 99]) = false := by rw [bytes_list]; exact h2
      have t4 : (n.toList != [115, 114, 99]) = true := by rw [bne, t3]; rfl
      have HR : Hid (blockB r e.data.toList n.data.toList v.data.toList = false) := hide (if_neg (fun h => by rw [h.2] at h2; cases h2))
      clear h1 h2
      go_enter Tryz.func16, Tryz.ntmps16
      go_wp2_with fail
      go_ret
      exact ⟨by rw [HR.out]; rfl, HEND.out⟩
    | true =>
      have t3 : (n.toList == [115, 114, 99]) = true := by rw [bytes_list]; exact h2
      have t4 : (n.toList != [115, 114, 99]) = false := by rw [bne, t3]; rfl
      have HR0 : blockB r e.data.toList n.data.toList v.data.toList = loadB r (lkClean v.data.toList) := if_pos ⟨eq_of_beq h1, eq_of_beq h2⟩
      clear h1 h2 HEND
      obtain ⟨W, hW⟩ : ∃ W, ((w.alloc (.cells #[.bool r, .bool s, .bool q] 26)).alloc (.cells #[.string n, .string v] 29)) = W := ⟨_, rfl⟩
      have HP : Hid (PBox W w.heap.size r s q) := hide (by rw [← hW]; exact (PBox.new w r s q _).kept (alloc_below _ _))
      have HA : Hid (ABox W (w.heap.size + 1) n v) := hide (by
        rw [← hW]
        have := ABox.new (w.alloc (.cells #[.bool r, .bool s, .bool q] 26)) n v 29
        rw [World.size_alloc] at this
        exact this)
      have HB : Hid (Below w.heap.size w W) := hide (by
        rw [← hW]
        exact ((Below.refl _ _).alloc (Nat.le_refl _) _).alloc (by rw [World.size_alloc]; exact Nat.le_succ _) _)
      have HKC := hide (fun w2 (hw2 : Below w.heap.size w w2) => linkKind_any v w2 (Nat.le_trans HS.out (by decide)) (HE.out.kept hw2))
      have HCL := hide (fun w2 (hw2 : Below w.heap.size w w2) => linkClean_any v w2 (Nat.le_trans HS.out (by decide)) (HE.out.kept hw2))
      obtain ⟨X, hX⟩ : ∃ X, str (lkClean v.data.toList) = X := ⟨_, rfl⟩
      have hXl : lkClean v.data.toList = X.data.toList := by rw [← hX, str_toList]
      have hXs : X.size ≤ 10000 := by
        rw [← toList_length, ← hXl]
        have := clean_length v.data.toList
        rw [toList_length] at this
        have := HS.out
        omega
      rw [hX] at HCL
      rw [hXl] at HKC HR0
      clear hX hXl
      rcases kind_cases X.data.toList with h | h | h | h | h | h
      · have HR : Hid (blockB r e.data.toList n.data.toList v.data.toList = (!X.data.toList.isEmpty)) := hide (by rw [HR0]; unfold loadB; rw [h]; rfl)
        rw [h] at HKC
        by_cases hz : X.size = 0
        · have e1 : X.toList.isEmpty = true := (size0 hz).2
          have e2 : (!X.toList.isEmpty) = false := by rw [e1]; rfl
          clear hz
          have HR2 : Hid ((!X.data.toList.isEmpty) = false) := hide (by rw [← bytes_list, e1]; rfl)
          rw [HR2.out] at HR
          clear h HR0
          obtain ⟨c0, c1, c2⟩ := HP.out
          obtain ⟨d0, d1⟩ := HA.out
          go_enter Tryz.func16, Tryz.ntmps16
          go_wp2_with fail
          clear hW
          refine (HKC.out _ HB.out).mono ?_
          rintro x w2 ⟨rfl, hb2⟩
          clear c0 c1 c2 d0 d1
          have HP2 := hide (HP.out.kept hb2)
          have HA2 := hide (HA.out.kept hb2)
          obtain ⟨c0, c1, c2⟩ := HP2.out
          obtain ⟨d0, d1⟩ := HA2.out
          have HB2 := hide (HB.out.trans (hb2.mono HB.out.size))
          clear hb2
          go_wp2_with fail
          refine (HCL.out _ HB2.out).mono ?_
          rintro x w3 ⟨rfl, hb3⟩
          clear c0 c1 c2 d0 d1
          have HP3 := hide (HP2.out.kept hb3)
          have HA3 := hide (HA2.out.kept hb3)
          obtain ⟨c0, c1, c2⟩ := HP3.out
          obtain ⟨d0, d1⟩ := HA3.out
          have HB3 := hide (HB2.out.trans (hb3.mono HB2.out.size))
          clear hb3
          go_wp2_with fail
          go_ret
          exact ⟨by rw [HR.out]; rfl, HB3.out⟩
        · have e1 : X.toList.isEmpty = false := (sizeP hz).2
          have e2 : (!X.toList.isEmpty) = true := by rw [e1]; rfl
          clear hz
          have HR2 : Hid ((!X.data.toList.isEmpty) = true) := hide (by rw [← bytes_list, e1]; rfl)
          rw [HR2.out] at HR
          clear h HR0
          obtain ⟨c0, c1, c2⟩ := HP.out
          obtain ⟨d0, d1⟩ := HA.out
          go_enter Tryz.func16, Tryz.ntmps16
          go_wp2_with fail
          clear hW
          refine (HKC.out _ HB.out).mono ?_
          rintro x w2 ⟨rfl, hb2⟩
          clear c0 c1 c2 d0 d1
          have HP2 := hide (HP.out.kept hb2)
          have HA2 := hide (HA.out.kept hb2)
          obtain ⟨c0, c1, c2⟩ := HP2.out
          obtain ⟨d0, d1⟩ := HA2.out
          have HB2 := hide (HB.out.trans (hb2.mono HB.out.size))
          clear hb2
          go_wp2_with fail
          refine (HCL.out _ HB2.out).mono ?_
          rintro x w3 ⟨rfl, hb3⟩
          clear c0 c1 c2 d0 d1
          have HP3 := hide (HP2.out.kept hb3)
          have HA3 := hide (HA2.out.kept hb3)
          obtain ⟨c0, c1, c2⟩ := HP3.out
          obtain ⟨d0, d1⟩ := HA3.out
          have HB3 := hide (HB2.out.trans (hb3.mono HB2.out.size))
          clear hb3
          go_wp2_with fail
          go_ret
          exact ⟨by rw [HR.out]; rfl, HB3.out⟩
      · have HR : Hid (blockB r e.data.toList n.data.toList v.data.toList = (true)) := hide (by rw [HR0]; unfold loadB; rw [h]; rfl)
        rw [h] at HKC
        clear h HR0
        obtain ⟨c0, c1, c2⟩ := HP.out
        obtain ⟨d0, d1⟩ := HA.out
        go_enter Tryz.func16, Tryz.ntmps16
        go_wp2_with fail
        clear hW
        refine (HKC.out _ HB.out).mono ?_
        rintro x w2 ⟨rfl, hb2⟩
        clear c0 c1 c2 d0 d1
        have HP2 := hide (HP.out.kept hb2)
        have HA2 := hide (HA.out.kept hb2)
        obtain ⟨c0, c1, c2⟩ := HP2.out
        obtain ⟨d0, d1⟩ := HA2.out
        have HB2 := hide (HB.out.trans (hb2.mono HB.out.size))
        clear hb2
        go_wp2_with fail
        go_ret
        exact ⟨by rw [HR.out]; rfl, HB2.out⟩
      · have HR : Hid (blockB r e.data.toList n.data.toList v.data.toList = (!r)) := hide (by rw [HR0]; unfold loadB; rw [h]; rfl)
        rw [h] at HKC
        clear h HR0
        obtain ⟨c0, c1, c2⟩ := HP.out
        obtain ⟨d0, d1⟩ := HA.out
        go_enter Tryz.func16, Tryz.ntmps16
        go_wp2_with fail
        clear hW
        refine (HKC.out _ HB.out).mono ?_
        rintro x w2 ⟨rfl, hb2⟩
        clear c0 c1 c2 d0 d1
        have HP2 := hide (HP.out.kept hb2)
        have HA2 := hide (HA.out.kept hb2)
        obtain ⟨c0, c1, c2⟩ := HP2.out
        obtain ⟨d0, d1⟩ := HA2.out
        have HB2 := hide (HB.out.trans (hb2.mono HB.out.size))
        clear hb2
        go_wp2_with fail
        go_ret
        exact ⟨by rw [HR.out]; rfl, HB2.out⟩
      · have HR : Hid (blockB r e.data.toList n.data.toList v.data.toList = (false)) := hide (by rw [HR0]; unfold loadB; rw [h]; rfl)
        rw [h] at HKC
        clear h HR0
        obtain ⟨c0, c1, c2⟩ := HP.out
        obtain ⟨d0, d1⟩ := HA.out
        go_enter Tryz.func16, Tryz.ntmps16
        go_wp2_with fail
        clear hW
        refine (HKC.out _ HB.out).mono ?_
        rintro x w2 ⟨rfl, hb2⟩
        clear c0 c1 c2 d0 d1
        have HP2 := hide (HP.out.kept hb2)
        have HA2 := hide (HA.out.kept hb2)
        obtain ⟨c0, c1, c2⟩ := HP2.out
        obtain ⟨d0, d1⟩ := HA2.out
        have HB2 := hide (HB.out.trans (hb2.mono HB.out.size))
        clear hb2
        go_wp2_with fail
        go_ret
        exact ⟨by rw [HR.out]; rfl, HB2.out⟩
      · have HR : Hid (blockB r e.data.toList n.data.toList v.data.toList = (false)) := hide (by rw [HR0]; unfold loadB; rw [h]; rfl)
        rw [h] at HKC
        clear h HR0
        obtain ⟨c0, c1, c2⟩ := HP.out
        obtain ⟨d0, d1⟩ := HA.out
        go_enter Tryz.func16, Tryz.ntmps16
        go_wp2_with fail
        clear hW
        refine (HKC.out _ HB.out).mono ?_
        rintro x w2 ⟨rfl, hb2⟩
        clear c0 c1 c2 d0 d1
        have HP2 := hide (HP.out.kept hb2)
        have HA2 := hide (HA.out.kept hb2)
        obtain ⟨c0, c1, c2⟩ := HP2.out
        obtain ⟨d0, d1⟩ := HA2.out
        have HB2 := hide (HB.out.trans (hb2.mono HB.out.size))
        clear hb2
        go_wp2_with fail
        go_ret
        exact ⟨by rw [HR.out]; rfl, HB2.out⟩
      · have HR : Hid (blockB r e.data.toList n.data.toList v.data.toList = (false)) := hide (by rw [HR0]; unfold loadB; rw [h]; rfl)
        rw [h] at HKC
        clear h HR0
        obtain ⟨c0, c1, c2⟩ := HP.out
        obtain ⟨d0, d1⟩ := HA.out
        go_enter Tryz.func16, Tryz.ntmps16
        go_wp2_with fail
        clear hW
        refine (HKC.out _ HB.out).mono ?_
        rintro x w2 ⟨rfl, hb2⟩
        clear c0 c1 c2 d0 d1
        have HP2 := hide (HP.out.kept hb2)
        have HA2 := hide (HA.out.kept hb2)
        obtain ⟨c0, c1, c2⟩ := HP2.out
        obtain ⟨d0, d1⟩ := HA2.out
        have HB2 := hide (HB.out.trans (hb2.mono HB.out.size))
        clear hb2
        go_wp2_with fail
        go_ret
        exact ⟨by rw [HR.out]; rfl, HB2.out⟩
set_option maxHeartbeats 4000000 in
theorem blocked18_any (r s q : Bool) (e n v : ByteArray) (w : World) (hs : v.size ≤ 10000) :
    Calls Tryz.prog 17 #[.agg #[.bool r, .bool s, .bool q], .string e, .agg #[.string n, .string v]] w fun x w' => x = .returned (.bool (blockB r e.data.toList n.data.toList v.data.toList)) ∧ Below w.heap.size w w' := by
  have HS := hide hs
  have HEND : Hid (Below w.heap.size w ((w.alloc (.cells #[.bool r, .bool s, .bool q] 26)).alloc (.cells #[.string n, .string v] 29))) := hide (((Below.refl _ _).alloc (Nat.le_refl _) _).alloc (by rw [World.size_alloc]; exact Nat.le_succ _) _)
  clear hs
  cases h1 : (e.data.toList == [105, 109, 103]) with
  | false =>
    have t1 : (e.toList == [105, 109, 103]) = false := by rw [bytes_list]; exact h1
    have t2 : (e.toList != [105, 109, 103]) = true := by rw [bne, t1]; rfl
    have HR : Hid (blockB r e.data.toList n.data.toList v.data.toList = false) := hide (if_neg (fun h => by rw [h.1] at h1; cases h1))
    clear h1
    go_enter Tryz.func17, Tryz.ntmps17
    go_wp2_with fail
    go_ret
    exact ⟨by rw [HR.out]; rfl, HEND.out⟩
  | true =>
    have t1 : (e.toList == [105, 109, 103]) = true := by rw [bytes_list]; exact h1
    have t2 : (e.toList != [105, 109, 103]) = false := by rw [bne, t1]; rfl
    cases h2 : (n.data.toList == [115, 114, 99]) with
    | false =>
      have t3 : (n.toList == [115, 114, 99]) = false := by rw [bytes_list]; exact h2
      have t4 : (n.toList != [115, 114, 99]) = true := by rw [bne, t3]; rfl
      have HR : Hid (blockB r e.data.toList n.data.toList v.data.toList = false) := hide (if_neg (fun h => by rw [h.2] at h2; cases h2))
      clear h1 h2
      go_enter Tryz.func17, Tryz.ntmps17
      go_wp2_with fail
      go_ret
      exact ⟨by rw [HR.out]; rfl, HEND.out⟩
    | true =>
      have t3 : (n.toList == [115, 114, 99]) = true := by rw [bytes_list]; exact h2
      have t4 : (n.toList != [115, 114, 99]) = false := by rw [bne, t3]; rfl
      have HR0 : blockB r e.data.toList n.data.toList v.data.toList = loadB r (lkClean v.data.toList) := if_pos ⟨eq_of_beq h1, eq_of_beq h2⟩
      clear h1 h2 HEND
      obtain ⟨W, hW⟩ : ∃ W, ((w.alloc (.cells #[.bool r, .bool s, .bool q] 26)).alloc (.cells #[.string n, .string v] 29)) = W := ⟨_, rfl⟩
      have HP : Hid (PBox W w.heap.size r s q) := hide (by rw [← hW]; exact (PBox.new w r s q _).kept (alloc_below _ _))
      have HA : Hid (ABox W (w.heap.size + 1) n v) := hide (by
        rw [← hW]
        have := ABox.new (w.alloc (.cells #[.bool r, .bool s, .bool q] 26)) n v 29
        rw [World.size_alloc] at this
        exact this)
      have HB : Hid (Below w.heap.size w W) := hide (by
        rw [← hW]
        exact ((Below.refl _ _).alloc (Nat.le_refl _) _).alloc (by rw [World.size_alloc]; exact Nat.le_succ _) _)
      have HKC := hide (fun w2 => ref16Kind_any v w2 (Nat.le_trans HS.out (by decide)))
      have HCL := hide (fun w2 => ref16Clean_any v w2 (Nat.le_trans HS.out (by decide)))
      obtain ⟨X, hX⟩ : ∃ X, str (lkClean v.data.toList) = X := ⟨_, rfl⟩
      have hXl : lkClean v.data.toList = X.data.toList := by rw [← hX, str_toList]
      have hXs : X.size ≤ 10000 := by
        rw [← toList_length, ← hXl]
        have := clean_length v.data.toList
        rw [toList_length] at this
        have := HS.out
        omega
      rw [hX] at HCL
      rw [hXl] at HKC HR0
      clear hX hXl
      rcases kind_cases X.data.toList with h | h | h | h | h | h
      · have HR : Hid (blockB r e.data.toList n.data.toList v.data.toList = (!X.data.toList.isEmpty)) := hide (by rw [HR0]; unfold loadB; rw [h]; rfl)
        rw [h] at HKC
        have hn := near_att h
        by_cases hz : X.size = 0
        · have e1 : X.toList.isEmpty = true := (size0 hz).2
          have e2 : (!X.toList.isEmpty) = false := by rw [e1]; rfl
          clear hz hn
          have HR2 : Hid ((!X.data.toList.isEmpty) = false) := hide (by rw [← bytes_list, e1]; rfl)
          rw [HR2.out] at HR
          clear h HR0
          obtain ⟨c0, c1, c2⟩ := HP.out
          obtain ⟨d0, d1⟩ := HA.out
          go_enter Tryz.func17, Tryz.ntmps17
          go_wp2_with fail
          clear hW
          refine (HCL.out _).mono ?_
          rintro x w2 ⟨rfl, hb2⟩
          clear c0 c1 c2 d0 d1
          have HP2 := hide (HP.out.kept hb2)
          have HA2 := hide (HA.out.kept hb2)
          obtain ⟨c0, c1, c2⟩ := HP2.out
          obtain ⟨d0, d1⟩ := HA2.out
          have HB2 := hide (HB.out.trans (hb2.mono HB.out.size))
          clear hb2
          go_wp2_with fail
          refine (HKC.out _).mono ?_
          rintro x w3 ⟨rfl, hb3⟩
          clear c0 c1 c2 d0 d1
          have HP3 := hide (HP2.out.kept hb3)
          have HA3 := hide (HA2.out.kept hb3)
          obtain ⟨c0, c1, c2⟩ := HP3.out
          obtain ⟨d0, d1⟩ := HA3.out
          have HB3 := hide (HB2.out.trans (hb3.mono HB2.out.size))
          clear hb3
          go_wp2_with fail
          go_ret
          exact ⟨by rw [HR.out]; rfl, HB3.out⟩
        · have e1 : X.toList.isEmpty = false := (sizeP hz).2
          have e2 : (!X.toList.isEmpty) = true := by rw [e1]; rfl
          clear hz
          by_cases h4 : X.size < 4
          · have g4 : decide ((X.size : Int) < 4) = true := decide_eq_true (by omega)
            clear hn h4
            have HR2 : Hid ((!X.data.toList.isEmpty) = true) := hide (by rw [← bytes_list, e1]; rfl)
            rw [HR2.out] at HR
            clear h HR0
            obtain ⟨c0, c1, c2⟩ := HP.out
            obtain ⟨d0, d1⟩ := HA.out
            go_enter Tryz.func17, Tryz.ntmps17
            go_wp2_with fail
            clear hW
            refine (HCL.out _).mono ?_
            rintro x w2 ⟨rfl, hb2⟩
            clear c0 c1 c2 d0 d1
            have HP2 := hide (HP.out.kept hb2)
            have HA2 := hide (HA.out.kept hb2)
            obtain ⟨c0, c1, c2⟩ := HP2.out
            obtain ⟨d0, d1⟩ := HA2.out
            have HB2 := hide (HB.out.trans (hb2.mono HB.out.size))
            clear hb2
            go_wp2_with fail
            refine (HKC.out _).mono ?_
            rintro x w3 ⟨rfl, hb3⟩
            clear c0 c1 c2 d0 d1
            have HP3 := hide (HP2.out.kept hb3)
            have HA3 := hide (HA2.out.kept hb3)
            obtain ⟨c0, c1, c2⟩ := HP3.out
            obtain ⟨d0, d1⟩ := HA3.out
            have HB3 := hide (HB2.out.trans (hb3.mono HB2.out.size))
            clear hb3
            go_wp2_with fail
            go_ret
            exact ⟨by rw [HR.out]; rfl, HB3.out⟩
          · have g4 : decide ((X.size : Int) < 4) = false := decide_eq_false (by omega)
            have g5 : ((X.extract 0 4).toList == [97, 116, 116, 58]) = false := by
              rw [beq_eq_false_iff_ne]
              intro hh
              rw [bytes_list, extract_list, List.drop_zero] at hh
              have : attL.isPrefixOf X.data.toList = true := List.isPrefixOf_iff_prefix.2 ⟨X.data.toList.drop 4, by rw [show attL = X.data.toList.take 4 from hh.symm, List.take_append_drop]⟩
              rw [hn] at this; cases this
            have g6 : ((X.extract 0 4).toList != [97, 116, 116, 58]) = true := by rw [bne, g5]; rfl
            clear hn
            have HR2 : Hid ((!X.data.toList.isEmpty) = true) := hide (by rw [← bytes_list, e1]; rfl)
            rw [HR2.out] at HR
            clear h HR0
            obtain ⟨c0, c1, c2⟩ := HP.out
            obtain ⟨d0, d1⟩ := HA.out
            go_enter Tryz.func17, Tryz.ntmps17
            go_wp2_with fail
            clear hW
            refine (HCL.out _).mono ?_
            rintro x w2 ⟨rfl, hb2⟩
            clear c0 c1 c2 d0 d1
            have HP2 := hide (HP.out.kept hb2)
            have HA2 := hide (HA.out.kept hb2)
            obtain ⟨c0, c1, c2⟩ := HP2.out
            obtain ⟨d0, d1⟩ := HA2.out
            have HB2 := hide (HB.out.trans (hb2.mono HB.out.size))
            clear hb2
            go_wp2_with fail
            refine (HKC.out _).mono ?_
            rintro x w3 ⟨rfl, hb3⟩
            clear c0 c1 c2 d0 d1
            have HP3 := hide (HP2.out.kept hb3)
            have HA3 := hide (HA2.out.kept hb3)
            obtain ⟨c0, c1, c2⟩ := HP3.out
            obtain ⟨d0, d1⟩ := HA3.out
            have HB3 := hide (HB2.out.trans (hb3.mono HB2.out.size))
            clear hb3
            go_wp2_with fail
            go_ret
            exact ⟨by rw [HR.out]; rfl, HB3.out⟩
      · have HR : Hid (blockB r e.data.toList n.data.toList v.data.toList = (true)) := hide (by rw [HR0]; unfold loadB; rw [h]; rfl)
        rw [h] at HKC
        clear h HR0
        obtain ⟨c0, c1, c2⟩ := HP.out
        obtain ⟨d0, d1⟩ := HA.out
        go_enter Tryz.func17, Tryz.ntmps17
        go_wp2_with fail
        clear hW
        refine (HCL.out _).mono ?_
        rintro x w2 ⟨rfl, hb2⟩
        clear c0 c1 c2 d0 d1
        have HP2 := hide (HP.out.kept hb2)
        have HA2 := hide (HA.out.kept hb2)
        obtain ⟨c0, c1, c2⟩ := HP2.out
        obtain ⟨d0, d1⟩ := HA2.out
        have HB2 := hide (HB.out.trans (hb2.mono HB.out.size))
        clear hb2
        go_wp2_with fail
        refine (HKC.out _).mono ?_
        rintro x w3 ⟨rfl, hb3⟩
        clear c0 c1 c2 d0 d1
        have HP3 := hide (HP2.out.kept hb3)
        have HA3 := hide (HA2.out.kept hb3)
        obtain ⟨c0, c1, c2⟩ := HP3.out
        obtain ⟨d0, d1⟩ := HA3.out
        have HB3 := hide (HB2.out.trans (hb3.mono HB2.out.size))
        clear hb3
        go_wp2_with fail
        go_ret
        exact ⟨by rw [HR.out]; rfl, HB3.out⟩
      · have HR : Hid (blockB r e.data.toList n.data.toList v.data.toList = (!r)) := hide (by rw [HR0]; unfold loadB; rw [h]; rfl)
        rw [h] at HKC
        clear h HR0
        obtain ⟨c0, c1, c2⟩ := HP.out
        obtain ⟨d0, d1⟩ := HA.out
        go_enter Tryz.func17, Tryz.ntmps17
        go_wp2_with fail
        clear hW
        refine (HCL.out _).mono ?_
        rintro x w2 ⟨rfl, hb2⟩
        clear c0 c1 c2 d0 d1
        have HP2 := hide (HP.out.kept hb2)
        have HA2 := hide (HA.out.kept hb2)
        obtain ⟨c0, c1, c2⟩ := HP2.out
        obtain ⟨d0, d1⟩ := HA2.out
        have HB2 := hide (HB.out.trans (hb2.mono HB.out.size))
        clear hb2
        go_wp2_with fail
        refine (HKC.out _).mono ?_
        rintro x w3 ⟨rfl, hb3⟩
        clear c0 c1 c2 d0 d1
        have HP3 := hide (HP2.out.kept hb3)
        have HA3 := hide (HA2.out.kept hb3)
        obtain ⟨c0, c1, c2⟩ := HP3.out
        obtain ⟨d0, d1⟩ := HA3.out
        have HB3 := hide (HB2.out.trans (hb3.mono HB2.out.size))
        clear hb3
        go_wp2_with fail
        go_ret
        exact ⟨by rw [HR.out]; rfl, HB3.out⟩
      · have HR : Hid (blockB r e.data.toList n.data.toList v.data.toList = (false)) := hide (by rw [HR0]; unfold loadB; rw [h]; rfl)
        rw [h] at HKC
        clear h HR0
        obtain ⟨c0, c1, c2⟩ := HP.out
        obtain ⟨d0, d1⟩ := HA.out
        go_enter Tryz.func17, Tryz.ntmps17
        go_wp2_with fail
        clear hW
        refine (HCL.out _).mono ?_
        rintro x w2 ⟨rfl, hb2⟩
        clear c0 c1 c2 d0 d1
        have HP2 := hide (HP.out.kept hb2)
        have HA2 := hide (HA.out.kept hb2)
        obtain ⟨c0, c1, c2⟩ := HP2.out
        obtain ⟨d0, d1⟩ := HA2.out
        have HB2 := hide (HB.out.trans (hb2.mono HB.out.size))
        clear hb2
        go_wp2_with fail
        refine (HKC.out _).mono ?_
        rintro x w3 ⟨rfl, hb3⟩
        clear c0 c1 c2 d0 d1
        have HP3 := hide (HP2.out.kept hb3)
        have HA3 := hide (HA2.out.kept hb3)
        obtain ⟨c0, c1, c2⟩ := HP3.out
        obtain ⟨d0, d1⟩ := HA3.out
        have HB3 := hide (HB2.out.trans (hb3.mono HB2.out.size))
        clear hb3
        go_wp2_with fail
        go_ret
        exact ⟨by rw [HR.out]; rfl, HB3.out⟩
      · have HR : Hid (blockB r e.data.toList n.data.toList v.data.toList = (false)) := hide (by rw [HR0]; unfold loadB; rw [h]; rfl)
        rw [h] at HKC
        clear h HR0
        obtain ⟨c0, c1, c2⟩ := HP.out
        obtain ⟨d0, d1⟩ := HA.out
        go_enter Tryz.func17, Tryz.ntmps17
        go_wp2_with fail
        clear hW
        refine (HCL.out _).mono ?_
        rintro x w2 ⟨rfl, hb2⟩
        clear c0 c1 c2 d0 d1
        have HP2 := hide (HP.out.kept hb2)
        have HA2 := hide (HA.out.kept hb2)
        obtain ⟨c0, c1, c2⟩ := HP2.out
        obtain ⟨d0, d1⟩ := HA2.out
        have HB2 := hide (HB.out.trans (hb2.mono HB.out.size))
        clear hb2
        go_wp2_with fail
        refine (HKC.out _).mono ?_
        rintro x w3 ⟨rfl, hb3⟩
        clear c0 c1 c2 d0 d1
        have HP3 := hide (HP2.out.kept hb3)
        have HA3 := hide (HA2.out.kept hb3)
        obtain ⟨c0, c1, c2⟩ := HP3.out
        obtain ⟨d0, d1⟩ := HA3.out
        have HB3 := hide (HB2.out.trans (hb3.mono HB2.out.size))
        clear hb3
        go_wp2_with fail
        go_ret
        exact ⟨by rw [HR.out]; rfl, HB3.out⟩
      · have HR : Hid (blockB r e.data.toList n.data.toList v.data.toList = (false)) := hide (by rw [HR0]; unfold loadB; rw [h]; rfl)
        rw [h] at HKC
        clear h HR0
        obtain ⟨c0, c1, c2⟩ := HP.out
        obtain ⟨d0, d1⟩ := HA.out
        go_enter Tryz.func17, Tryz.ntmps17
        go_wp2_with fail
        clear hW
        refine (HCL.out _).mono ?_
        rintro x w2 ⟨rfl, hb2⟩
        clear c0 c1 c2 d0 d1
        have HP2 := hide (HP.out.kept hb2)
        have HA2 := hide (HA.out.kept hb2)
        obtain ⟨c0, c1, c2⟩ := HP2.out
        obtain ⟨d0, d1⟩ := HA2.out
        have HB2 := hide (HB.out.trans (hb2.mono HB.out.size))
        clear hb2
        go_wp2_with fail
        refine (HKC.out _).mono ?_
        rintro x w3 ⟨rfl, hb3⟩
        clear c0 c1 c2 d0 d1
        have HP3 := hide (HP2.out.kept hb3)
        have HA3 := hide (HA2.out.kept hb3)
        obtain ⟨c0, c1, c2⟩ := HP3.out
        obtain ⟨d0, d1⟩ := HA3.out
        have HB3 := hide (HB2.out.trans (hb3.mono HB2.out.size))
        clear hb3
        go_wp2_with fail
        go_ret
        exact ⟨by rw [HR.out]; rfl, HB3.out⟩
end Go.Proofs.YtklbdobofclofaaGreatDoor
