/- WALK of the reference of layer 7: value. No statement is proved here. -/
import Derived.Test.YtienjpelmbldpaaGreatDoorRef07U
import Derived.Test.YtienjpelmbldpaaGreatDoorParK
import Derived.Test.YtienjpelmbldpaaGreatDoorPctRefX
import Derived.Test.YtienjpelmbldpaaGreatDoorRefD
import Derived.Test.YtienjpelmbldpaaGreatDoorRef05D
namespace Go.Proofs.YtienjpelmbldpaaGreatDoor
open Go.RowKit
set_option linter.unusedVariables false
set_option linter.unusedSimpArgs false
set_option maxRecDepth 100000
/-- what value answers -/
def valV (f : ValF) (name : List UInt8) (N : Nat) : Value := optV (valL f name N)
set_option maxHeartbeats 8000000 in
theorem refValue07_any (v : Value) (l : List ParL) (name : ByteArray) (w : World) (hM : ParsIn w v l) (hll : l.length ≤ 1000000) (hz : name.size ≤ 1048576) (hf : ∀ k x, getP l k = some x → x.length ≤ 1048576)
    (N : Nat) (hS : SecOK (getP l) name.data.toList N) :
    Calls Tryz.prog 26 #[v, .string name] w fun e w' => e = .returned (optV (valL (getP l) name.data.toList N)) ∧ Below w.heap.size w w' := by
  obtain ⟨A, cap, rfl⟩ := hM.form
  have HBM := hide hM
  have HB := hide (Below.refl w.heap.size w)
  have CS := hide (fun (w' : World) (h : ParsIn w' (.slice A l.length cap) l) => several07_any _ l name w' h hll hz hf N hS.le hS.no hS.yes hS.sz)
  have es : (name ++ ⟨#[42]⟩ : ByteArray).data.toList = name.data.toList ++ [42] := by simp
  have z0 : (name ++ (⟨#[42]⟩ : ByteArray)).size = name.size + 1 := ByteArray.size_append
  have C2 := hide (fun (w' : World) (h : ParsIn w' (.slice A l.length cap) l) => find07_any _ l (name ++ ⟨#[42]⟩) w' h hll)
  have C1 := hide (fun (w' : World) (h : ParsIn w' (.slice A l.length cap) l) => find07_any _ l name w' h hll)
  rw [es] at C2
  have HF := hide hf
  have HEX : Hid (exL (getP l) name.data.toList = match pExt ((getP l (name.data.toList ++ [42])).getD []) with | some (a, b) => some (decodeL (kindL a) b) | none => none) := hide rfl
  have HSI : Hid (siL (getP l) name.data.toList = (decW false [] ((getP l name.data.toList).getD []), (getP l name.data.toList).isSome)) := hide rfl
  have HX2 := hide (hf (name.data.toList ++ [42]))
  have HX1 := hide (hf name.data.toList)
  have HVL : Hid (valL (getP l) name.data.toList N = match exL (getP l) name.data.toList with | some x => some x | none => if 0 < N then some (coV (getP l) name.data.toList N).1 else if (siL (getP l) name.data.toList).2 = true then some (siL (getP l) name.data.toList).1 else none) := hide rfl
  generalize valL (getP l) name.data.toList N = res at HVL
  generalize exL (getP l) name.data.toList = ex at HVL HEX
  generalize siL (getP l) name.data.toList = si at HVL HSI
  obtain ⟨cv, hcv⟩ : ∃ cv, cv = (coV (getP l) name.data.toList N).1 := ⟨_, rfl⟩
  have hc2 : (coV (getP l) name.data.toList N).2 = decide (0 < N) := rfl
  rw [← hcv, hc2] at CS
  rw [← hcv] at HVL
  generalize getP l (name.data.toList ++ [42]) = o2 at C2 HEX HX2
  generalize getP l name.data.toList = o1 at C1 HSI HX1
  obtain ⟨CV, hCV⟩ : ∃ CV, CV = str cv := ⟨_, rfl⟩
  rw [← hCV] at CS
  clear hM hf es hS hcv hc2
  -- the starred one
  obtain ⟨X, hX⟩ : ∃ X, X = str (o2.getD []) := ⟨_, rfl⟩
  have hXl : X.data.toList = o2.getD [] := by rw [hX, str_toList]
  have hXz : X.size ≤ 1048576 := by
    rw [hX, str_size]
    cases ho : o2 with
    | none => exact Nat.zero_le _
    | some x => exact HX2.out x ho
  have HXT := hide (fun (w : World) => refExtended_any X w (by omega))
  rw [hXl] at HXT
  have e2v : optV o2 = .tuple #[.string X, .bool o2.isSome] := by rw [hX]; cases o2 <;> rfl
  rw [e2v] at C2
  -- the plain one
  obtain ⟨Y, hY⟩ : ∃ Y, Y = str (o1.getD []) := ⟨_, rfl⟩
  have hYl : Y.data.toList = o1.getD [] := by rw [hY, str_toList]
  have hYz : Y.size ≤ 1048576 := by
    rw [hY, str_size]
    cases ho : o1 with
    | none => exact Nat.zero_le _
    | some x => exact HX1.out x ho
  have HWD := hide (fun (w : World) => refWDecode_any Y w hYz)
  rw [hYl] at HWD
  have e1v : optV o1 = .tuple #[.string Y, .bool o1.isSome] := by rw [hY]; cases o1 <;> rfl
  rw [e1v] at C1
  obtain ⟨DW, hDW⟩ : ∃ DW, DW = str (decW false [] (o1.getD [])) := ⟨_, rfl⟩
  rw [← hDW] at HWD
  cases hpx : pExt (o2.getD []) with
  | some p =>
    obtain ⟨a, b⟩ := p
    have ho2 : o2.isSome = true := by
      cases o2 with
      | none => cases hpx
      | some _ => rfl
    have hps := pExt_sizes hpx
    have hlen : (o2.getD []).length ≤ 1048576 := by rw [← hXl, toList_length]; exact hXz
    rw [hpx] at HXT
    simp only [extV] at HXT
    obtain ⟨Z, hZ⟩ : ∃ Z, Z = str b := ⟨_, rfl⟩
    obtain ⟨L, hL⟩ : ∃ L, L = str a := ⟨_, rfl⟩
    rw [← hZ, ← hL] at HXT
    have HD := hide (fun (w : World) => refCharsDecode_any L Z w (by rw [hL, str_size]; omega) (by rw [hZ, str_size]; omega))
    rw [show L.data.toList = a by rw [hL, str_toList], show Z.data.toList = b by rw [hZ, str_toList]] at HD
    simp only [decV] at HD
    obtain ⟨R, hR⟩ : ∃ R, R = str (decodeL (kindL a) b) := ⟨_, rfl⟩
    rw [← hR] at HD
    have HV : Hid (optV res = .tuple #[.string R, .bool true]) := hide (by
      rw [HVL.out, HEX.out, hpx, hR]; rfl)
    rw [ho2] at C2
    clear hpx ho2 hps hlen hZ hL hR hX hXl hY hYl hDW hCV e2v e1v HX1 HX2 HEX HSI HVL
    go_enter Tryz.func26, Tryz.ntmps26
    go_wp2_with (first
      | (go_at_call 29; with_reducible refine (C2.out _ HBM.out).mono ?_; rintro e w1 ⟨rfl, hb1⟩; have HB := hide (HB.out.trans (hb1.mono HB.out.size)); have HBM := hide (HBM.out.kept hb1); clear hb1)
      | (go_at_call 46; refine (HXT.out _).mono ?_; rintro e w1 ⟨rfl, hb1⟩; have HB := hide (HB.out.trans (hb1.mono HB.out.size)); have HBM := hide (HBM.out.kept hb1); clear hb1)
      | (go_at_call 47; refine (HD.out _).mono ?_; rintro e w1 ⟨rfl, hb1⟩; have HB := hide (HB.out.trans (hb1.mono HB.out.size)); clear hb1))
    go_ret2
    exact ⟨by rw [HV.out] <;> rfl, HB.out⟩
  | none =>
    rw [hpx] at HXT
    simp only [extV] at HXT
    have HEN : Hid (ex = none) := hide (by rw [HEX.out, hpx])
    have hb2 : o2.isSome = true ∨ o2.isSome = false := by cases o2 <;> simp
    by_cases hN : 0 < N
    · have t1 : decide (0 < N) = true := decide_eq_true hN
      rw [t1] at CS
      have HV : Hid (optV res = .tuple #[.string CV, .bool true]) := hide (by
        rw [HVL.out, HEN.out, hCV]
        simp only
        rw [if_pos hN]; rfl)
      clear hpx hX hXl hY hYl hDW hCV e2v e1v HX1 HX2 HEX HSI HVL t1
      rcases hb2 with hb2 | hb2
      all_goals
        rw [hb2] at C2
        clear hb2
        go_enter Tryz.func26, Tryz.ntmps26
        go_wp2_with (first
          | (go_at_call 29; with_reducible refine (C2.out _ HBM.out).mono ?_; rintro e w1 ⟨rfl, hb1⟩; have HB := hide (HB.out.trans (hb1.mono HB.out.size)); have HBM := hide (HBM.out.kept hb1); clear hb1)
          | (go_at_call 46; refine (HXT.out _).mono ?_; rintro e w1 ⟨rfl, hb1⟩; have HB := hide (HB.out.trans (hb1.mono HB.out.size)); have HBM := hide (HBM.out.kept hb1); clear hb1)
          | (go_at_call 48; refine (CS.out _ HBM.out).mono ?_; rintro e w1 ⟨rfl, hb1⟩; have HB := hide (HB.out.trans (hb1.mono HB.out.size)); have HBM := hide (HBM.out.kept hb1); clear hb1))
        go_ret2
        exact ⟨by rw [HV.out] <;> rfl, HB.out⟩
    · have t1 : decide (0 < N) = false := decide_eq_false hN
      rw [t1] at CS
      have hb1 : (o1.isSome = true ∧ optV res = .tuple #[.string DW, .bool true]) ∨ (o1.isSome = false ∧ optV res = .tuple #[.string DW, .bool false]) := by
        rw [HVL.out, HEN.out]
        simp only
        rw [if_neg hN, HSI.out]
        cases o1 with
        | none =>
          refine .inr ⟨rfl, ?_⟩
          have : DW = ⟨#[]⟩ := by rw [hDW]; show str (decW false [] []) = _; rw [decW_nil, validL_nil]; rfl
          rw [this]; rfl
        | some x => exact .inl ⟨rfl, by rw [hDW]; rfl⟩
      clear hpx hX hXl hY hYl hDW hCV e2v e1v HX1 HX2 HEX HSI HVL t1
      rcases hb2 with hb2 | hb2
      all_goals
        rw [hb2] at C2
        clear hb2
        rcases hb1 with ⟨hb3, hv⟩ | ⟨hb3, hv⟩
      all_goals
        rw [hb3] at C1
        have HV := hide hv
        clear hb3 hv
        go_enter Tryz.func26, Tryz.ntmps26
        go_wp2_with (first
          | (go_at_call 29; with_reducible refine (C2.out _ HBM.out).mono ?_; rintro e w1 ⟨rfl, hb1⟩; have HB := hide (HB.out.trans (hb1.mono HB.out.size)); have HBM := hide (HBM.out.kept hb1); clear hb1)
          | (go_at_call 29; with_reducible refine (C1.out _ HBM.out).mono ?_; rintro e w1 ⟨rfl, hb1⟩; have HB := hide (HB.out.trans (hb1.mono HB.out.size)); have HBM := hide (HBM.out.kept hb1); clear hb1)
          | (go_at_call 46; refine (HXT.out _).mono ?_; rintro e w1 ⟨rfl, hb1⟩; have HB := hide (HB.out.trans (hb1.mono HB.out.size)); have HBM := hide (HBM.out.kept hb1); clear hb1)
          | (go_at_call 48; refine (CS.out _ HBM.out).mono ?_; rintro e w1 ⟨rfl, hb1⟩; have HB := hide (HB.out.trans (hb1.mono HB.out.size)); have HBM := hide (HBM.out.kept hb1); clear hb1)
          | (go_at_call 49; refine (HWD.out _).mono ?_; rintro e w1 ⟨rfl, hb1⟩; have HB := hide (HB.out.trans (hb1.mono HB.out.size)); clear hb1))
        go_ret2
        exact ⟨by rw [HV.out] <;> rfl, HB.out⟩
end Go.Proofs.YtienjpelmbldpaaGreatDoor
