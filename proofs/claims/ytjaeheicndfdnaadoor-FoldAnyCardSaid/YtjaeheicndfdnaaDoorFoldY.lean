/- WALKS of the reference of layer 21: White, blank. No statement is proved here. Own work of the verifier. -/
import Derived.Test.YtjaeheicndfdnaaDoorFoldX
namespace Go.Proofs.YtjaeheicndfdnaaDoor
open Go.RowKit
set_option linter.unusedVariables false
set_option linter.unusedSimpArgs false
set_option maxRecDepth 100000
theorem white05_any (c : UInt8) (w : World) :
    Calls Tryd.prog 31 #[.int .u8 c.toNat] w fun e w' => e = .returned (.bool (whiteC c)) ∧ w = w' := by
  by_cases h1 : c = 32
  · have t1 : ((c.toNat : Int) == 32) = true := tT 32 h1 (by omega)
    have HE : Hid (whiteC c = true) := hide (by rw [h1]; decide)
    clear h1
    go_enter Tryd.func31, Tryd.ntmps31
    go_wp2
    go_ret
    exact ⟨ret_bool HE.out.symm, rfl⟩
  have t1 : ((c.toNat : Int) == 32) = false := tF 32 h1 (by omega)
  by_cases h2 : c = 9
  · have t2 : ((c.toNat : Int) == 9) = true := tT 9 h2 (by omega)
    have HE : Hid (whiteC c = true) := hide (by rw [h2]; decide)
    clear h1 h2
    go_enter Tryd.func31, Tryd.ntmps31
    go_wp2
    go_ret
    exact ⟨ret_bool HE.out.symm, rfl⟩
  have t2 : ((c.toNat : Int) == 9) = false := tF 9 h2 (by omega)
  by_cases h3 : c = 10
  · have t3 : ((c.toNat : Int) == 10) = true := tT 10 h3 (by omega)
    have HE : Hid (whiteC c = true) := hide (by rw [h3]; decide)
    clear h1 h2 h3
    go_enter Tryd.func31, Tryd.ntmps31
    go_wp2
    go_ret
    exact ⟨ret_bool HE.out.symm, rfl⟩
  have t3 : ((c.toNat : Int) == 10) = false := tF 10 h3 (by omega)
  have hb : ((c.toNat : Int) == 13) = whiteC c := by
    by_cases h4 : c = 13
    · have e : ((c.toNat : Int) == 13) = true := tT 13 h4 (by omega)
      rw [e, h4]; rfl
    · have e : ((c.toNat : Int) == 13) = false := tF 13 h4 (by omega)
      rw [e]
      simp [whiteC, h1, h2, h3, h4]
  have HB := hide hb
  clear h1 h2 h3 hb
  go_enter Tryd.func31, Tryd.ntmps31
  go_wp2
  go_ret
  exact ⟨ret_bool HB.out, rfl⟩

theorem units_stop {c : UInt8} {r : List UInt8} (h : whiteC c = false) (hp : ¬ (c = 194 ∧ r.head? = some 160)) : units (c :: r) = false := by
  cases r with
  | nil => simpa [units] using h
  | cons d r => rw [units, if_neg (fun e => hp ⟨e.1, by rw [e.2]; rfl⟩), h, Bool.false_and]
set_option maxHeartbeats 8000000 in
theorem blank21_any (h : NdH) (A1 A2 : Option Addr) (n1 c1 n2 c2 : Nat) (w : World) (hl : h.text.length ≤ 1000000) :
    Calls Tryd.prog 23 #[.agg #[.string (str h.name), .slice A1 n1 c1, .string (str h.text), .slice A2 n2 c2]] w fun e w' => e = .returned (.bool (blankN h)) ∧ Below w.heap.size w w' := by
  have hbk := below_one w (Obj.cells #[.string (str h.name), .slice A1 n1 c1, .string (str h.text), .slice A2 n2 c2] 32)
  have HBK := hide hbk
  clear hbk
  obtain ⟨X, hX⟩ : ∃ X, X = str h.name := ⟨_, rfl⟩
  obtain ⟨Y, hY⟩ : ∃ X, X = str h.text := ⟨_, rfl⟩
  rw [← hX, ← hY] at HBK ⊢
  by_cases hn : h.name = []
  · have h0 : X.toList.isEmpty = true := by rw [hX, str_list, hn]; rfl
    have HQ : Hid (blankN h = units Y.data.toList) := hide (by rw [blankN_units, if_pos hn, hY, str_toList])
    have hys : Y.size ≤ 1000000 := by rw [hY, str_size]; exact hl
    clear hX hY hn hl
    go_enter Tryd.func23, Tryd.ntmps23
    go_wp2_with fail
    go_loop [3] (fun i => ∃ k : Nat, k ≤ Y.size ∧ i = .int .i64 k ∧ units (Y.data.toList.drop k) = units Y.data.toList) (fun i => Y.size - (intOf i).toNat)
    case atStart => exact ⟨0, Nat.zero_le _, rfl, rfl⟩
    case round =>
      obtain ⟨k, hk, rfl, hd⟩ := hrel
      have HD := hide hd
      clear hd
      by_cases hlt : k < Y.size
      · have hc := drop_cons Y k hlt
        by_cases h1 : Y[k] = 194
        · have t1 : ((Y[k].toNat : Int) == 194) = true := tT 194 h1 (by omega)
          have HW : Hid (whiteC Y[k] = false) := hide (by rw [h1]; decide)
          by_cases hlt2 : k + 1 < Y.size
          · have hc2 := drop_cons Y (k + 1) hlt2
            by_cases h2 : Y[k + 1] = 160
            · have t2 : ((Y[k + 1].toNat : Int) == 160) = true := tT 160 h2 (by omega)
              have HN : Hid (units (Y.data.toList.drop (k + 1 + 1)) = units Y.data.toList) := hide (by rw [← HD.out, hc, hc2, h1, h2, units_pair])
              clear hc hc2 h1 h2
              go_wp2_with fail
              go_round
              case rel => exact ⟨k + 1 + 1, by omega, by go_num, HN.out⟩
              case measure => simp [intOf]; omega
            · have t2 : ((Y[k + 1].toNat : Int) == 160) = false := tF 160 h2 (by omega)
              have HR : Hid (blankN h = false) := hide (by rw [HQ.out, ← HD.out, hc, units_stop HW.out (fun e => h2 (by have := e.2; rw [hc2] at this; simpa using this))])
              clear hc hc2 h1 h2
              go_wp2_with fail
              refine (white05_any _ _).mono ?_
              rintro e w1 ⟨rfl, rfl⟩
              rw [HW.out]
              go_wp2_with fail
              go_ret
              exact ⟨ret_bool HR.out.symm, HBK.out⟩
          · have HR : Hid (blankN h = false) := hide (by rw [HQ.out, ← HD.out, hc, units_stop HW.out (fun e => by have := e.2; rw [drop_nil Y (k + 1) (by omega)] at this; cases this)])
            clear hc h1
            go_wp2_with fail
            refine (white05_any _ _).mono ?_
            rintro e w1 ⟨rfl, rfl⟩
            rw [HW.out]
            go_wp2_with fail
            go_ret
            exact ⟨ret_bool HR.out.symm, HBK.out⟩
        · have t1 : ((Y[k].toNat : Int) == 194) = false := tF 194 h1 (by omega)
          cases hw : whiteC Y[k] with
          | true =>
            have HW := hide hw
            have HN : Hid (units (Y.data.toList.drop (k + 1)) = units Y.data.toList) := hide (by rw [← HD.out, hc, units_white hw])
            clear hc h1 hw
            go_wp2_with fail
            refine (white05_any _ _).mono ?_
            rintro e w1 ⟨rfl, rfl⟩
            rw [HW.out]
            go_wp2_with fail
            go_round
            case rel => exact ⟨k + 1, by omega, by go_num, HN.out⟩
            case measure => simp [intOf]; omega
          | false =>
            have HW := hide hw
            have HR : Hid (blankN h = false) := hide (by rw [HQ.out, ← HD.out, hc, units_stop HW.out (fun e => h1 e.1)])
            clear hc h1 hw
            go_wp2_with fail
            refine (white05_any _ _).mono ?_
            rintro e w1 ⟨rfl, rfl⟩
            rw [HW.out]
            go_wp2_with fail
            go_ret
            exact ⟨ret_bool HR.out.symm, HBK.out⟩
      · have HR : Hid (blankN h = true) := hide (by rw [HQ.out, ← HD.out, drop_nil Y k (by omega)]; rfl)
        go_wp2_with fail
        go_ret
        exact ⟨ret_bool HR.out.symm, HBK.out⟩
  · have h0 : X.toList.isEmpty = false := by
      rw [hX, str_list]
      cases hh : h.name with
      | nil => exact absurd hh hn
      | cons _ _ => rfl
    have HQ : Hid ((X.toList == [98, 114]) = blankN h) := hide (by rw [blankN_units, if_neg hn, hX, str_list, name_eq])
    clear hX hY hn hl
    go_enter Tryd.func23, Tryd.ntmps23
    go_wp2_with fail
    go_ret
    exact ⟨ret_bool HQ.out, HBK.out⟩
end Go.Proofs.YtjaeheicndfdnaaDoor
