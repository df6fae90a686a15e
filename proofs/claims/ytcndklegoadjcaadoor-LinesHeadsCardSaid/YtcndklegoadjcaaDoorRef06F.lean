/- WALK of the reference of layer 6: field. No statement is proved here. -/
import Derived.Test.YtcndklegoadjcaaDoorRef06N
import Derived.Test.YtcndklegoadjcaaDoorLinesR
import Derived.Deep.RegionWith
namespace Go.Proofs.YtcndklegoadjcaaDoor
open Go.RowKit
set_option linter.unusedVariables false
set_option linter.unusedSimpArgs false
set_option maxRecDepth 100000

/-- what the reference's field answers -/
def fieldR (l : List UInt8) : FieldL × Bool := if hasC 58 l then ((Lib.trimRightS (beforeC 58 l) [32, 9], afterC 58 l), nameB (Lib.trimRightS (beforeC 58 l) [32, 9])) else (([], []), false)
def fieldRV (o : FieldL × Bool) : Value := .tuple #[.agg #[.string (str o.1.1), .string (str o.1.2)], .bool o.2]
theorem fieldR_some {l : List UInt8} : fieldL l = if (fieldR l).2 then some (fieldR l).1 else none := by
  unfold fieldL fieldR
  cases hasC 58 l with
  | false => rfl
  | true => simp
set_option maxHeartbeats 2000000 in
theorem field06_any (s : ByteArray) (w : World) (hs : s.size ≤ 70368744177664) :
    Calls Tryd.prog 28 #[.string s] w fun e w' => e = .returned (fieldRV (fieldR s.data.toList)) ∧ Below w.heap.size w w' := by
  have hsm : s.size < 9223372036854775807 := by omega
  go_enter Tryd.func28, Tryd.ntmps28
  go_wp2_with fail
  go_loop [4] (fun i => ∃ k : Nat, k ≤ s.size ∧ i = .int .i64 k ∧ Hid ((58 : UInt8) ∉ (s.extract 0 k).data.toList)) (fun i => s.size - (intOf i).toNat)
  case atStart => exact ⟨0, Nat.zero_le _, rfl, hide (by rw [extract_none]; simp)⟩
  case round =>
    obtain ⟨k, hk2, rfl, HD⟩ := hrel
    by_cases hlt : k < s.size
    · by_cases h58 : s[k] = 58
      · have t0 : ((s[k].toNat : Int) == 58) = true := tT 58 h58 (by omega)
        have hcut := cut_here 58 (s.extract 0 k).data.toList (s.data.toList.drop (k + 1)) HD.out
        have e : s.data.toList = (s.extract 0 k).data.toList ++ 58 :: s.data.toList.drop (k + 1) := by
          have := ext_rest s 0 k (Nat.zero_le _) hk2
          rw [List.drop_zero, drop_cons s k hlt, h58] at this; exact this
        rw [← e] at hcut
        obtain ⟨BF, hBF⟩ : ∃ BF, BF = s.extract 0 k := ⟨_, rfl⟩
        have HB : Hid (beforeC 58 s.data.toList = BF.data.toList) := hide (by rw [hBF]; exact hcut.1)
        have HA : Hid ((s.extract (k + 1) s.size).data.toList = afterC 58 s.data.toList) := hide (by rw [extract_end, hcut.2])
        have HH : Hid (hasC 58 s.data.toList = true) := hide (hasC_true (by rw [e]; simp))
        have HBF := hide hBF
        have hbs : BF.size ≤ s.size := by rw [hBF]; have := extract_size_le s 0 k; omega
        have f0 : (0 : Int) ≤ k := by omega
        have f3 : (k : Int) + 1 ≤ s.size := by omega
        have f4 : ((k : Int) + 1).toNat = k + 1 := by omega
        have f5 : IntKind.i64.wrap ((k : Int) + 1) = (k : Int) + 1 := IntWalk.i64_in _ (by omega)
        have f6 : (k : Int) ≤ s.size := by omega
        clear h58 hcut e hBF
        go_wp2_with fail
        go_loop [5] (fun v => ∃ y : ByteArray, v = .string y ∧ y.size ≤ s.size ∧ rightT y.data.toList = rightT BF.data.toList) (fun v => szL v)
        case atStart => exact ⟨BF, by rw [HBF.out], hbs, rfl⟩
        case round =>
          obtain ⟨y, rfl, hy, hd⟩ := hrel
          have HD2 := hide hd
          clear hd
          by_cases hlt2 : 0 < y.size
          · have hc := last_snoc y hlt2
            cases hw : wsT (y[y.size - 1]'(by omega)) with
            | true =>
              have HN : Hid (rightT (y.extract 0 (y.size - 1)).data.toList = rightT BF.data.toList) := hide (by rw [← HD2.out, hc, right_yes hw])
              have HW := hide hw
              clear hc hw
              go_wp2_with fail
              refine (white06_any _ _).mono ?_
              rintro e w1 ⟨rfl, rfl⟩
              rw [HW.out]
              go_wp2_with fail
              go_round
              case rel => exact ⟨_, rfl, by rw [ByteArray.size_extract]; omega, HN.out⟩
              case measure => simp [szL]; omega
            | false =>
              have HY : Hid (rightT BF.data.toList = y.data.toList) := hide (by rw [← HD2.out, hc, right_no hw])
              have HV : Hid (fieldR s.data.toList = ((y.data.toList, (s.extract (k + 1) s.size).data.toList), nameB y.data.toList)) := hide (by
                unfold fieldR; rw [HH.out, if_pos rfl, rightT_eq, HB.out, HY.out, HA.out])
              have HW := hide hw
              have hym : y.size ≤ maxLen := by unfold maxLen; omega
              have HYM := hide hym
              clear hc hw hym
              go_wp2_with fail
              refine (white06_any _ _).mono ?_
              rintro e w1 ⟨rfl, rfl⟩
              rw [HW.out]
              go_wp2_with fail
              go_region_with (go_at_call 36; refine (name06_any _ _ HYM.out).mono ?_; rintro e w2 ⟨rfl, rfl⟩)
              all_goals (try go_wp2_with fail)
              all_goals
                simp only [Act.put, List.getElem_toArray, List.getElem_cons_succ, List.getElem_cons_zero]
                have hfa : ((w.alloc (.cells #[.string y, .string (s.extract (k + 1) s.size)] 40)).drew).cell? { block := w.heap.size, off := 0 } = some (.string y) := by
                  show (w.alloc _).cell? _ = _
                  rw [World.cell?_alloc_at _ _ _ _ rfl]; rfl
                have hfb : ((w.alloc (.cells #[.string y, .string (s.extract (k + 1) s.size)] 40)).drew).cell? { block := w.heap.size, off := 1 } = some (.string (s.extract (k + 1) s.size)) := by
                  show (w.alloc _).cell? _ = _
                  rw [World.cell?_alloc_at _ _ _ _ rfl]; rfl
                refine bodyPost_ret (v := .tuple #[.agg #[.string y, .string (s.extract (k + 1) s.size)], .bool (nameB y.data.toList)]) (by simp [results, Tryd.f28, go_sem, hfa, hfb]) rfl ?_
                exact ⟨by rw [HV.out]; unfold fieldRV; rw [str_of, str_of], ((Below.refl _ w).alloc (Nat.le_refl _) _).drew⟩
          · have HY : Hid (rightT BF.data.toList = y.data.toList) := hide (by
              have e : y.data.toList = [] := List.eq_nil_of_length_eq_zero (by rw [toList_length]; omega)
              rw [← HD2.out, e]; rfl)
            have HV : Hid (fieldR s.data.toList = ((y.data.toList, (s.extract (k + 1) s.size).data.toList), nameB y.data.toList)) := hide (by
              unfold fieldR; rw [HH.out, if_pos rfl, rightT_eq, HB.out, HY.out, HA.out])
            have hym : y.size ≤ maxLen := by unfold maxLen; omega
            have HYM := hide hym
            clear hym
            go_wp2_with fail
            go_region_with (go_at_call 36; refine (name06_any _ _ HYM.out).mono ?_; rintro e w2 ⟨rfl, rfl⟩)
            all_goals (try go_wp2_with fail)
            all_goals
              simp only [Act.put, List.getElem_toArray, List.getElem_cons_succ, List.getElem_cons_zero]
              have hfa : ((w.alloc (.cells #[.string y, .string (s.extract (k + 1) s.size)] 40)).drew).cell? { block := w.heap.size, off := 0 } = some (.string y) := by
                show (w.alloc _).cell? _ = _
                rw [World.cell?_alloc_at _ _ _ _ rfl]; rfl
              have hfb : ((w.alloc (.cells #[.string y, .string (s.extract (k + 1) s.size)] 40)).drew).cell? { block := w.heap.size, off := 1 } = some (.string (s.extract (k + 1) s.size)) := by
                show (w.alloc _).cell? _ = _
                rw [World.cell?_alloc_at _ _ _ _ rfl]; rfl
              refine bodyPost_ret (v := .tuple #[.agg #[.string y, .string (s.extract (k + 1) s.size)], .bool (nameB y.data.toList)]) (by simp [results, Tryd.f28, go_sem, hfa, hfb]) rfl ?_
              exact ⟨by rw [HV.out]; unfold fieldRV; rw [str_of, str_of], ((Below.refl _ w).alloc (Nat.le_refl _) _).drew⟩
      · have t0 : ((s[k].toNat : Int) == 58) = false := tF 58 h58 (by omega)
        have HN : Hid ((58 : UInt8) ∉ (s.extract 0 (k + 1)).data.toList) := hide (by
          rw [ext_snoc s 0 k (Nat.zero_le _) hlt, List.mem_append, List.mem_singleton]
          exact fun o => o.elim HD.out (fun e => h58 e.symm))
        clear h58
        go_wp2_with fail
        go_round
        case rel => exact ⟨k + 1, by omega, by go_num, HN⟩
        case measure => simp [intOf]; omega
    · have HH : Hid (hasC 58 s.data.toList = false) := hide (hasC_false (by
        have := HD.out
        rw [show k = s.size by omega, extract_end, List.drop_zero] at this; exact this))
      have hcA : (w.alloc (.cells #[.string ⟨#[]⟩, .string ⟨#[]⟩] 40)).cell? { block := w.heap.size, off := 0 } = some (.string ⟨#[]⟩) := by rw [World.cell?_alloc_at _ _ _ _ rfl]; rfl
      go_wp2_with fail
      have hcB : (w.alloc (.cells #[.string ⟨#[]⟩, .string ⟨#[]⟩] 40)).cell? { block := w.heap.size, off := 1 } = some (.string ⟨#[]⟩) := by rw [World.cell?_alloc_at _ _ _ _ rfl]; rfl
      refine bodyPost_ret (v := .tuple #[.agg #[.string ⟨#[]⟩, .string ⟨#[]⟩], .bool false]) (by simp [results, Tryd.f28, go_sem, hcA, hcB]) rfl ?_
      refine ⟨?_, (Below.refl _ w).alloc (Nat.le_refl _) _⟩
      unfold fieldR; rw [HH.out]; rfl
end Go.Proofs.YtcndklegoadjcaaDoor
