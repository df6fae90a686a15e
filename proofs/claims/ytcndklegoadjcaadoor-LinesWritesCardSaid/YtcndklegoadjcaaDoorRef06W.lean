/- WALK of the reference of layer 6: Write. No statement is proved here. -/
import Derived.Test.YtcndklegoadjcaaDoorRef06S
import Derived.Test.YtcndklegoadjcaaDoorRef06
import Derived.Test.YtcndklegoadjcaaDoorFieldsW
namespace Go.Proofs.YtcndklegoadjcaaDoor
open Go.RowKit
set_option linter.unusedVariables false
set_option linter.unusedSimpArgs false
set_option maxRecDepth 100000

theorem flat_take {l : List FieldL} {k : Nat} {f : FieldL} (h : l[k]? = some f) : flatF (l.take (k + 1)) = flatF (l.take k) ++ (f.1 ++ [58, 32] ++ f.2 ++ [13, 10]) := by
  unfold flatF; rw [List.take_add_one, h, List.flatMap_append]; simp
def nlB (c : UInt8) : Bool := [(13 : UInt8), 10].contains c
theorem nl_step {l : List UInt8} {k : Nat} (h : k < l.length) : (l.drop k).any nlB = (nlB l[k] || (l.drop (k + 1)).any nlB) := by
  rw [List.drop_eq_getElem_cons h]; rfl
set_option maxHeartbeats 4000000 in
theorem write06_any (v : Value) (l : List FieldL) (s : ByteArray) (w : World) (hl : FieldsIn w v l) (hs : s.size ≤ 1048576)
    (hz : ∀ f ∈ l, f.1.length ≤ 1048576 ∧ f.2.length ≤ 1048576) (hn : l.length ≤ 1048576) :
    Calls Tryd.prog 21 #[v, .string s] w fun e w' => e = .returned (writeV (writeO l s.data.toList)) ∧ Below w.heap.size w w' := by
  obtain ⟨A, cap, rfl⟩ := hl.form
  have HL := hide hl
  have HZ := hide hz
  clear hl hz
  go_enter Tryd.func21, Tryd.ntmps21
  go_wp2_with fail
  go_loopw [6, 7] (fun o i wr => ∃ (k : Nat) (O : ByteArray), k ≤ l.length ∧ i = .int .i64 k ∧ o = .string O ∧ O.size ≤ k * 2097160 ∧ Hid (O = str (flatF (l.take k))) ∧ Hid (Below w.heap.size w wr) ∧ Hid ((l.drop k).all okF = l.all okF)) (fun _ i _ => l.length - (intOf i).toNat)
  case atStart => exact ⟨0, ⟨#[]⟩, Nat.zero_le _, rfl, rfl, Nat.zero_le _, hide rfl, hide (Below.refl _ _), hide rfl⟩
  case round =>
    obtain ⟨k, O, hk, rfl, rfl, hO, HO, HB, HG⟩ := hrel
    by_cases hlt : k < l.length
    · obtain ⟨f, hf⟩ : ∃ f, l[k]? = some f := ⟨_, List.getElem?_eq_getElem hlt⟩
      obtain ⟨a, ha, hc1, hc2⟩ := (HL.out.kept HB.out).at k f hf
      subst ha
      obtain ⟨hz1, hz2⟩ := HZ.out f (List.mem_of_getElem? hf)
      obtain ⟨X, hX⟩ : ∃ X, X = str f.1 := ⟨_, rfl⟩
      obtain ⟨Y, hY⟩ : ∃ X, X = str f.2 := ⟨_, rfl⟩
      have hXs : X.size ≤ 1048576 := by rw [hX, str_size]; exact hz1
      have hYs : Y.size ≤ 1048576 := by rw [hY, str_size]; exact hz2
      have HXL : Hid (X.data.toList = f.1) := hide (by rw [hX, str_toList])
      have HYL : Hid (Y.data.toList = f.2) := hide (by rw [hY, str_toList])
      rw [← hX] at hc1
      rw [← hY] at hc2
      have HA := hide (all_step hf)
      have HTK : Hid (str (flatF (l.take (k + 1))) = O ++ X ++ ⟨#[58, 32]⟩ ++ Y ++ ⟨#[13, 10]⟩) := hide (by
        rw [flat_take hf, HO.out]
        apply ext_list
        simp [hX, hY, str])
      have hXm : X.size ≤ maxLen := by unfold maxLen; omega
      have hYm : Y.size ≤ maxLen := by unfold maxLen; omega
      have HXM := hide hXm
      have HYM := hide hYm
      clear hf hX hY hz1 hz2 hXm hYm
      have HTRIM : Hid (∀ w' : World, Calls Tryd.prog 29 #[.string Y] w' fun e w'' => e = .returned (.string (str (trimT f.2))) ∧ w'' = w') := hide (fun w' => (trim06_any Y w' HYM.out).mono fun e w'' ⟨h1, h2⟩ => ⟨by rw [h1, HYL.out], h2.symm⟩)
      have HNAME : Hid (∀ w' : World, Calls Tryd.prog 36 #[.string X] w' fun e w'' => e = .returned (.bool (nameB f.1)) ∧ w'' = w') := hide (fun w' => (name06_any X w' HXM.out).mono fun e w'' ⟨h1, h2⟩ => ⟨by rw [h1, HXL.out], h2.symm⟩)
      obtain ⟨TV, hTV⟩ : ∃ TV, TV = str (trimT f.2) := ⟨_, rfl⟩
      have HTV := hide hTV
      rw [← hTV] at HTRIM
      clear hTV
      cases hnm : nameB f.1 with
      | false =>
        have HR : Hid (writeO l s.data.toList = ([], 1)) := hide (writeO_bad _ (by rw [← HG.out, HA.out]; unfold okF; rw [hnm]; rfl))
        rw [hnm] at HNAME
        clear hnm
        go_wp2_with fail
        go_quiet (first
          | (go_at_call 36; exact Calls.quiet_of_same (HNAME.out _))
          | (go_at_call 29; exact Calls.quiet_of_same (HTRIM.out _)))
        go_wp2_with fail
        go_ret2
        exact ⟨by rw [HR.out]; rfl, HB.out.trans ((below_drewN wr nq).mono HB.out.size)⟩
      | true =>
        rw [hnm] at HNAME
        by_cases htr : trimT f.2 = f.2
        · have t2 : (TV.toList == Y.toList) = true := by rw [bytes_list, bytes_list, HTV.out, HYL.out, str_toList, htr]; exact beq_self_eq_true _
          have t3 : (TV.toList != Y.toList) = false := by rw [bne, t2]; rfl
          have HNM := hide hnm
          have HTR := hide htr
          clear hnm htr
          go_wp2_with fail
          go_quiet (first
            | (go_at_call 36; exact Calls.quiet_of_same (HNAME.out _))
            | (go_at_call 29; exact Calls.quiet_of_same (HTRIM.out _)))
          go_wp2_with fail
          have HNX : Hid (∀ hc : crlfB f.2 = false, (l.drop (k + 1)).all okF = l.all okF) := hide (fun hc => by
            rw [← HG.out, HA.out]; unfold okF valueB; rw [HNM.out, hc, HTR.out]; simp)
          have HBAD : Hid (∀ hc : crlfB f.2 = true, writeO l s.data.toList = ([], 1)) := hide (fun hc => writeO_bad _ (by
            rw [← HG.out, HA.out]; unfold okF valueB; rw [hc]; simp))
          have HCR : Hid (crlfB f.2 = Y.data.toList.any nlB) := hide (by rw [HYL.out]; rfl)
          have HBQ : Hid (Below w.heap.size w (wr.drewN nq)) := hide (HB.out.trans ((below_drewN wr nq).mono HB.out.size))
          have hO2 : O.size ≤ 2199031644160 := by omega
          have hOX : O.size + X.size + 2 + Y.size + 2 ≤ (k + 1) * 2097160 := by omega
          have HOX := hide hOX
          clear hOX
          go_loop [8] (fun i => ∃ j : Nat, j ≤ Y.size ∧ i = .int .i64 j ∧ Hid ((Y.data.toList.drop j).any nlB = Y.data.toList.any nlB)) (fun i => Y.size - (intOf i).toNat)
          case atStart => exact ⟨0, Nat.zero_le _, rfl, hide rfl⟩
          case round =>
            obtain ⟨j, hj, rfl, HJ⟩ := hrel
            by_cases hjl : j < Y.size
            · have hst : (Y.data.toList.drop j).any nlB = (nlB (Y[j]) || (Y.data.toList.drop (j + 1)).any nlB) := by rw [drop_cons Y j hjl]; rfl
              by_cases h10 : Y[j] = 10
              · have q0 : ((Y[j].toNat : Int) == 10) = true := tT 10 h10 (by omega)
                have HR := hide (HBAD.out (by rw [HCR.out, ← HJ.out, hst, h10]; rfl))
                clear hst h10
                go_wp2_with fail
                go_ret2
                exact ⟨by rw [HR.out]; rfl, HBQ.out⟩
              · have q0 : ((Y[j].toNat : Int) == 10) = false := tF 10 h10 (by omega)
                by_cases h13 : Y[j] = 13
                · have q1 : ((Y[j].toNat : Int) == 13) = true := tT 13 h13 (by omega)
                  have HR := hide (HBAD.out (by rw [HCR.out, ← HJ.out, hst, h13]; rfl))
                  clear hst h10 h13
                  go_wp2_with fail
                  go_ret2
                  exact ⟨by rw [HR.out]; rfl, HBQ.out⟩
                · have q1 : ((Y[j].toNat : Int) == 13) = false := tF 13 h13 (by omega)
                  have hnl : nlB (Y[j]) = false := by
                    unfold nlB
                    rw [Bool.eq_false_iff]
                    intro hh
                    have : Y[j] = 13 ∨ Y[j] = 10 := by simpa using hh
                    exact this.elim h13 h10
                  have HN : Hid ((Y.data.toList.drop (j + 1)).any nlB = Y.data.toList.any nlB) := hide (by rw [← HJ.out, hst, hnl]; rfl)
                  clear hst h10 h13 hnl
                  go_wp2_with fail
                  go_round
                  case rel => exact ⟨j + 1, by omega, by go_num, HN⟩
                  case measure => simp [intOf]; omega
            · have HN := hide (HNX.out (by rw [HCR.out, ← HJ.out, List.drop_eq_nil_of_le (by rw [toList_length]; omega)]; rfl))
              go_wp2_with fail
              go_quiet (fail)
              go_wp2_with fail
              go_roundw
              case rel => exact ⟨k + 1, _, by omega, by go_num, rfl, by simp only [ByteArray.size_append]; exact HOX.out, hide HTK.out.symm, hide (HB.out.trans ((below_drewN wr _).mono HB.out.size)), HN⟩
              case measure => simp [intOf]; omega
        · have t2 : (TV.toList == Y.toList) = false := by
            rw [bytes_list, bytes_list, HTV.out, HYL.out, str_toList]; exact beq_eq_false_iff_ne.2 htr
          have t3 : (TV.toList != Y.toList) = true := by rw [bne, t2]; rfl
          have HR : Hid (writeO l s.data.toList = ([], 1)) := hide (writeO_bad _ (by
            rw [← HG.out, HA.out]; unfold okF valueB
            rw [beq_eq_false_iff_ne.2 htr]; simp))
          clear hnm htr
          go_wp2_with fail
          go_quiet (first
            | (go_at_call 36; exact Calls.quiet_of_same (HNAME.out _))
            | (go_at_call 29; exact Calls.quiet_of_same (HTRIM.out _)))
          go_wp2_with fail
          go_ret2
          exact ⟨by rw [HR.out]; rfl, HB.out.trans ((below_drewN wr nq).mono HB.out.size)⟩
    · have HALL : Hid (l.all okF = true) := hide (by rw [← HG.out, List.drop_eq_nil_of_le (by omega)]; rfl)
      have HOE : Hid (O = str (flatF l)) := hide (by rw [HO.out, List.take_of_length_le (by omega)])
      have hO2 : O.size ≤ 2199031644160 := by omega
      by_cases h500 : 500 < l.length
      · have t1 : decide ((500 : Int) < l.length) = true := decide_eq_true (by omega)
        have HR := hide (writeO_long s.data.toList HALL.out h500)
        clear h500
        go_wp2_with fail
        go_ret2
        exact ⟨by rw [HR.out]; rfl, HB.out⟩
      · have t1 : decide ((500 : Int) < l.length) = false := decide_eq_false (by omega)
        have HR := hide (writeO_good s.data.toList HALL.out h500)
        have HW : Hid (str (writeL l s.data.toList) = O ++ ⟨#[13, 10]⟩ ++ s) := hide (by
          unfold writeL
          rw [HOE.out]
          apply ext_list
          simp [str, flatF])
        clear h500
        go_wp2_with fail
        go_ret2
        refine ⟨?_, HB.out⟩
        rw [HR.out]
        show Ending.returned (.tuple #[.string (O ++ ⟨#[13, 10]⟩ ++ s), .int .i64 0]) = Ending.returned (.tuple #[.string (str (writeL l s.data.toList)), .int .i64 0])
        rw [HW.out]
end Go.Proofs.YtcndklegoadjcaaDoor
