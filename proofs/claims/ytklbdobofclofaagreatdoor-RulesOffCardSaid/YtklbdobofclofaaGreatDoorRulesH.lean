/- WALKS of rules' gate: byId, byNumber, src. No statement is proved here. Own work of the verifier. -/
import Derived.Test.YtklbdobofclofaaGreatDoorRulesG
import Derived.Test.YtklbdobofclofaaGreatDoorFindW
namespace Go.Proofs.YtklbdobofclofaaGreatDoor
open Go.RowKit
set_option linter.unusedVariables false
set_option linter.unusedSimpArgs false
set_option maxRecDepth 100000
theorem parseM_le {M : Nat} : ∀ (l : List UInt8) (a n : Nat), a ≤ M → Lib.parseUintM M a l = .ok n → n ≤ M
  | [], a, n, ha, h => by
    have : a = n := by simpa [Lib.parseUintM] using h
    omega
  | c :: r, a, n, ha, h => by
    unfold Lib.parseUintM at h
    split at h
    · split at h
      · cases h
      · split at h
        · cases h
        · exact parseM_le r _ n (by omega) h
    · cases h
theorem parse31_le {l : List UInt8} {n : Nat} (h : parse31 l = some n) : n ≤ 2147483647 := by
  unfold parse31 Lib.parseUintB at h
  by_cases h0 : l = []
  · rw [if_pos h0] at h; cases h
  · rw [if_neg h0] at h
    cases hp : Lib.parseUintM (2 ^ 31 - 1) 0 l with
    | ok m =>
      rw [hp] at h
      have e : m = n := by simpa using h
      rw [← e]
      exact parseM_le l 0 m (by decide) hp
    | «syntax» => rw [hp] at h; cases h
    | range => rw [hp] at h; cases h
set_option maxHeartbeats 4000000 in
theorem gId_any (r s q : Bool) (A : Option Addr) (F : List FileL) (cap : Nat) (a : ByteArray) (w : World) (hF : FilesIn w (.slice A F.length cap) F) (hl : F.length ≤ 40) (hs : a.size ≤ 10000) :
    Calls Tryz.prog 53 #[.agg #[.bool r, .bool s, .bool q, .slice A F.length cap], .string a] w fun e w' => e = .returned (valV (byId F a.data.toList)) ∧ Below w.heap.size w w' := by
  have HF := hide hF
  have HL := hide hl
  have HS := hide (show a.size ≤ 70368744177664 by omega)
  obtain ⟨X, hX⟩ : ∃ X, str (afterC 58 a.data.toList) = X := ⟨_, rfl⟩
  have hXl : afterC 58 a.data.toList = X.data.toList := by rw [← hX, str_toList]
  have HC := hide (fun w2 => strCut_any a 58 w2 HS.out)
  rw [show cutV 58 a.data.toList = .tuple #[.string (str (beforeC 58 a.data.toList)), .string (str (afterC 58 a.data.toList)), .bool (hasC 58 a.data.toList)] from rfl, hX] at HC
  obtain ⟨BF, hBF⟩ : ∃ BF, str (beforeC 58 a.data.toList) = BF := ⟨_, rfl⟩
  obtain ⟨HS2, hHS2⟩ : ∃ HS2, hasC 58 a.data.toList = HS2 := ⟨_, rfl⟩
  rw [hBF, hHS2] at HC
  have HFD := hide (fun w2 hf => attFind_any (.slice A F.length cap) F X w2 hf (Nat.le_trans HL.out (by decide)))
  cases hr : findL F X.data.toList with
  | none =>
    have HR : Hid (byId F a.data.toList = none) := hide (by unfold byId; rw [hXl, hr])
    rw [hr] at HFD
    clear hr hX hXl hBF hHS2 hF hl hs
    go_enter Tryz.func53, Tryz.ntmps53
    go_wp2_with fail
    refine (HC.out _).mono ?_
    rintro e w1 ⟨rfl, hb1⟩
    obtain ⟨c0, c1, c2, c3⟩ := (GBox.new w r s q (.slice A F.length cap) 42).kept hb1
    have HB1 := hide ((alloc_below w _).trans (hb1.mono (by simp)))
    clear hb1
    go_wp2_with fail
    refine (HFD.out _ (HF.out.kept HB1.out)).mono ?_
    rintro e w2 ⟨rfl, hb2⟩
    rw [show findV none = .tuple #[.int .i64 0, .bool false] from rfl]
    have HB2 := hide (HB1.out.trans (hb2.mono HB1.out.size))
    clear hb2
    go_wp2_with fail
    go_ret2
    exact ⟨by rw [HR.out]; rfl, HB2.out⟩
  | some n =>
    have hn : n < F.length := findL_lt hr
    have HR : Hid (byId F a.data.toList = picO F n) := hide (by unfold byId; rw [hXl, hr]; rfl)
    obtain ⟨o, ho⟩ : ∃ o, picO F n = o := ⟨_, rfl⟩
    have HPC := hide (fun w2 hf => gPic_any r s q A F cap n w2 hf HL.out (by omega))
    rw [ho] at HR HPC
    obtain ⟨S, hS⟩ : ∃ S, str (o.getD []) = S := ⟨_, rfl⟩
    obtain ⟨b, hb⟩ : ∃ b, o.isSome = b := ⟨_, rfl⟩
    have hV : valV o = .tuple #[.string S, .bool b] := by unfold valV; rw [hS, hb]
    rw [hV] at HPC
    have HV := hide hV
    rw [hr] at HFD
    have HFV : Hid (findV (some n) = .tuple #[.int .i64 n, .bool true]) := hide rfl
    rw [HFV.out] at HFD
    clear hr hX hXl hBF hHS2 hF hl hs hn ho hS hb hV
    go_enter Tryz.func53, Tryz.ntmps53
    go_wp2_with fail
    refine (HC.out _).mono ?_
    rintro e w1 ⟨rfl, hb1⟩
    have G1 := hide ((GBox.new w r s q (.slice A F.length cap) 42).kept hb1)
    obtain ⟨c0, c1, c2, c3⟩ := G1.out
    have HB1 := hide ((alloc_below w _).trans (hb1.mono (by simp)))
    clear hb1
    go_wp2_with fail
    refine (HFD.out _ (HF.out.kept HB1.out)).mono ?_
    rintro e w2 ⟨rfl, hb2⟩
    clear c0 c1 c2 c3
    obtain ⟨c0, c1, c2, c3⟩ := G1.out.kept hb2
    have HB2 := hide (HB1.out.trans (hb2.mono HB1.out.size))
    clear hb2
    go_wp2_with fail
    refine (HPC.out _ (HF.out.kept HB2.out)).mono ?_
    rintro e w3 ⟨rfl, hb3⟩
    have HB3 := hide (HB2.out.trans (hb3.mono HB2.out.size))
    clear hb3
    go_wp2_with fail
    go_ret2
    exact ⟨by rw [HR.out, HV.out]; rfl, HB3.out⟩
set_option maxHeartbeats 4000000 in
theorem gNo_any (r s q : Bool) (A : Option Addr) (F : List FileL) (cap : Nat) (a : ByteArray) (w : World) (hF : FilesIn w (.slice A F.length cap) F) (hl : F.length ≤ 40) (hs : a.size ≤ 10000) (hE : EnvS w) :
    Calls Tryz.prog 54 #[.agg #[.bool r, .bool s, .bool q, .slice A F.length cap], .string a] w fun e w' => e = .returned (valV (byNum F a.data.toList)) ∧ Below w.heap.size w w' := by
  have HF := hide hF
  have HL := hide hl
  have HE := hide hE
  have HT := hide (fun w2 => Tryz.strings_TrimPrefix a ⟨#[97, 116, 116, 58]⟩ w2)
  obtain ⟨X, hX⟩ : ∃ X : ByteArray, (⟨(Lib.trimPrefix a.data.toList (⟨#[97, 116, 116, 58]⟩ : ByteArray).data.toList).toArray⟩ : ByteArray) = X := ⟨_, rfl⟩
  have hXl : dropAtt a.data.toList = X.data.toList := by rw [← hX]; rfl
  have hXs : X.size ≤ 1048576 := by
    rw [← toList_length, ← hXl]
    unfold dropAtt
    have := toList_length a
    split
    · rw [List.length_drop]; omega
    · omega
  rw [hX] at HT
  have HPU := hide (fun w2 he => parse31_any X w2 hXs he)
  clear hF hl hs hE hX hXs
  cases hr : parse31 X.data.toList with
  | none =>
    have HR : Hid (byNum F a.data.toList = none) := hide (by unfold byNum; rw [hXl, hr])
    rw [hr] at HPU
    clear hr hXl
    go_enter Tryz.func54, Tryz.ntmps54
    go_wp2_with fail
    refine (HT.out _).mono ?_
    rintro e w1 ⟨rfl, rfl⟩
    go_wp2_with fail
    refine (HPU.out _ (HE.out.kept (alloc_below _ _))).mono ?_
    rintro e w2 ⟨⟨m, N, rfl⟩, hb2⟩
    have HB2 := hide ((alloc_below w _).trans (hb2.mono (by simp)))
    clear hb2
    go_wp2_with fail
    go_ret2
    exact ⟨by rw [HR.out]; rfl, HB2.out⟩
  | some n =>
    have hn := parse31_le hr
    have hwr : IntKind.i64.wrap (n : Int) = (n : Int) := IntWalk.i64_in _ (by omega)
    have HPC := hide (fun w2 hf => gPic_any r s q A F cap n w2 hf HL.out hn)
    have HB0 : byNum F a.data.toList = if imgAt F n = true ∧ attN n = a.data.toList then some a.data.toList else none := by unfold byNum; rw [hXl, hr]
    rw [hr] at HPU
    have HUV : Hid (∀ e, U31 (some n) e → e = .returned (.tuple #[.int .u64 n, .nilIface])) := hide (fun e h => h)
    clear hr hXl
    cases hi : imgAt F n with
    | false =>
      have HR : Hid (byNum F a.data.toList = none) := hide (by rw [HB0, hi]; rfl)
      rw [picO_no hi] at HPC
      clear HB0 hi
      go_enter Tryz.func54, Tryz.ntmps54
      go_wp2_with fail
      refine (HT.out _).mono ?_
      rintro e w1 ⟨rfl, rfl⟩
      go_wp2_with fail
      refine (HPU.out _ (HE.out.kept (alloc_below _ _))).mono ?_
      rintro e w2 ⟨he, hb2⟩
      obtain rfl := HUV.out _ he
      clear he
      obtain ⟨c0, c1, c2, c3⟩ := (GBox.new w r s q (.slice A F.length cap) 42).kept hb2
      have HB2 := hide ((alloc_below w _).trans (hb2.mono (by simp)))
      clear hb2
      go_wp2_with fail
      refine (HPC.out _ (HF.out.kept HB2.out)).mono ?_
      rintro e w3 ⟨rfl, hb3⟩
      have HB3 := hide (HB2.out.trans (hb3.mono HB2.out.size))
      clear hb3
      go_wp2_with fail
      refine (onlyF_any _ _).mono ?_
      rintro e wo ⟨rfl, rfl⟩
      go_wp2_with fail
      go_ret2
      exact ⟨by rw [HR.out]; rfl, HB3.out⟩
    | true =>
      rw [show valV (picO F n) = .tuple #[.string (str (attN n)), .bool true] by unfold picO; rw [if_pos hi]; rfl] at HPC
      obtain ⟨S, hS⟩ : ∃ S, str (attN n) = S := ⟨_, rfl⟩
      have hSl : attN n = S.data.toList := by rw [← hS, str_toList]
      rw [hS] at HPC
      by_cases hq : attN n = a.data.toList
      · have t1 : (S.toList == a.toList) = true := by rw [bytes_list, bytes_list, ← hSl, hq]; exact beq_self_eq_true _
        have HR : Hid (byNum F a.data.toList = some a.data.toList) := hide (by rw [HB0, hi, if_pos ⟨rfl, hq⟩])
        clear HB0 hi hq hS hSl
        go_enter Tryz.func54, Tryz.ntmps54
        go_wp2_with fail
        refine (HT.out _).mono ?_
        rintro e w1 ⟨rfl, rfl⟩
        go_wp2_with fail
        refine (HPU.out _ (HE.out.kept (alloc_below _ _))).mono ?_
        rintro e w2 ⟨he, hb2⟩
        obtain rfl := HUV.out _ he
        clear he
        obtain ⟨c0, c1, c2, c3⟩ := (GBox.new w r s q (.slice A F.length cap) 42).kept hb2
        have HB2 := hide ((alloc_below w _).trans (hb2.mono (by simp)))
        clear hb2
        go_wp2_with fail
        refine (HPC.out _ (HF.out.kept HB2.out)).mono ?_
        rintro e w3 ⟨rfl, hb3⟩
        have HB3 := hide (HB2.out.trans (hb3.mono HB2.out.size))
        clear hb3
        go_wp2_with fail
        refine (onlyT_any _ _).mono ?_
        rintro e wo ⟨rfl, rfl⟩
        go_wp2_with fail
        go_ret2
        exact ⟨by rw [HR.out, valV_some]; rfl, HB3.out⟩
      · have t1 : (S.toList == a.toList) = false := by rw [bytes_list, bytes_list, ← hSl]; exact beq_eq_false_iff_ne.2 hq
        have HR : Hid (byNum F a.data.toList = none) := hide (by rw [HB0, if_neg (fun h => hq h.2)])
        clear HB0 hi hq hS hSl
        go_enter Tryz.func54, Tryz.ntmps54
        go_wp2_with fail
        refine (HT.out _).mono ?_
        rintro e w1 ⟨rfl, rfl⟩
        go_wp2_with fail
        refine (HPU.out _ (HE.out.kept (alloc_below _ _))).mono ?_
        rintro e w2 ⟨he, hb2⟩
        obtain rfl := HUV.out _ he
        clear he
        obtain ⟨c0, c1, c2, c3⟩ := (GBox.new w r s q (.slice A F.length cap) 42).kept hb2
        have HB2 := hide ((alloc_below w _).trans (hb2.mono (by simp)))
        clear hb2
        go_wp2_with fail
        refine (HPC.out _ (HF.out.kept HB2.out)).mono ?_
        rintro e w3 ⟨rfl, hb3⟩
        have HB3 := hide (HB2.out.trans (hb3.mono HB2.out.size))
        clear hb3
        go_wp2_with fail
        refine (onlyF_any _ _).mono ?_
        rintro e wo ⟨rfl, rfl⟩
        go_wp2_with fail
        go_ret2
        exact ⟨by rw [HR.out]; rfl, HB3.out⟩
set_option maxHeartbeats 8000000 in
theorem gSrc_any (r s q : Bool) (A : Option Addr) (F : List FileL) (cap : Nat) (v : ByteArray) (w : World) (hF : FilesIn w (.slice A F.length cap) F) (hl : F.length ≤ 40) (hs : v.size ≤ 10000) (hEU : EnvU w) (hES : EnvS w) :
    Calls Tryz.prog 33 #[.agg #[.bool r, .bool s, .bool q, .slice A F.length cap], .string v] w fun e w' => e = .returned (valV (srcL r F (lkClean v.data.toList))) ∧ Below w.heap.size w w' := by
  have HF := hide hF
  have HL := hide hl
  have HEU := hide hEU
  have HES := hide hES
  have HS := hide (show v.size ≤ 1048576 by omega)
  have HKC := hide (fun w2 he => linkKind_any v w2 HS.out he)
  have HCL := hide (fun w2 he => linkClean_any v w2 HS.out he)
  obtain ⟨X, hX⟩ : ∃ X, str (lkClean v.data.toList) = X := ⟨_, rfl⟩
  have hXl : lkClean v.data.toList = X.data.toList := by rw [← hX, str_toList]
  have HXS : Hid (X.size ≤ 10000) := hide (by
    rw [← toList_length, ← hXl]
    have := clean_length v.data.toList
    rw [toList_length] at this
    omega)
  rw [hX] at HCL
  rw [hXl] at HKC ⊢
  clear hF hl hs hEU hES hX hXl
  rcases kind_cases X.data.toList with h | h | h | h | h | h
  · have HR : Hid (srcL r F X.data.toList = byNum F X.data.toList) := hide (by unfold srcL; rw [h]; rfl)
    rw [h] at HKC
    clear h
    obtain ⟨o, ho⟩ : ∃ o, byNum F X.data.toList = o := ⟨_, rfl⟩
    obtain ⟨S, hS⟩ : ∃ S, str (o.getD []) = S := ⟨_, rfl⟩
    obtain ⟨b, hb⟩ : ∃ b, o.isSome = b := ⟨_, rfl⟩
    have HV : Hid (valV o = .tuple #[.string S, .bool b]) := hide (by unfold valV; rw [hS, hb])
    rw [ho] at HR
    have HCC := hide (fun w2 hf he => gNo_any r s q A F cap X w2 hf HL.out HXS.out he)
    rw [ho] at HCC
    clear ho hS hb
    go_enter Tryz.func33, Tryz.ntmps33
    go_wp2_with fail
    refine (HCL.out _ (HEU.out.kept (alloc_below _ _))).mono ?_
    rintro e w1 ⟨rfl, hb1⟩
    have G1 := hide ((GBox.new w r s q (.slice A F.length cap) 42).kept hb1)
    have HB1 := hide ((alloc_below w _).trans (hb1.mono (by simp)))
    clear hb1
    go_wp2_with fail
    refine (HKC.out _ (HEU.out.kept HB1.out)).mono ?_
    rintro e w2 ⟨rfl, hb2⟩
    obtain ⟨c0, c1, c2, c3⟩ := G1.out.kept hb2
    have HB2 := hide (HB1.out.trans (hb2.mono HB1.out.size))
    clear hb2
    go_wp2_with fail
    refine (HCC.out _ (HF.out.kept HB2.out) (HES.out.kept HB2.out)).mono ?_
    rintro e w3 ⟨rfl, hb3⟩
    rw [HV.out]
    have HB3 := hide (HB2.out.trans (hb3.mono HB2.out.size))
    clear hb3
    go_wp2_with fail
    go_ret2
    exact ⟨by rw [HR.out, HV.out]; rfl, HB3.out⟩
  · have HR : Hid (srcL r F X.data.toList = byNum F X.data.toList) := hide (by unfold srcL; rw [h]; rfl)
    rw [h] at HKC
    clear h
    obtain ⟨o, ho⟩ : ∃ o, byNum F X.data.toList = o := ⟨_, rfl⟩
    obtain ⟨S, hS⟩ : ∃ S, str (o.getD []) = S := ⟨_, rfl⟩
    obtain ⟨b, hb⟩ : ∃ b, o.isSome = b := ⟨_, rfl⟩
    have HV : Hid (valV o = .tuple #[.string S, .bool b]) := hide (by unfold valV; rw [hS, hb])
    rw [ho] at HR
    have HCC := hide (fun w2 hf he => gNo_any r s q A F cap X w2 hf HL.out HXS.out he)
    rw [ho] at HCC
    clear ho hS hb
    go_enter Tryz.func33, Tryz.ntmps33
    go_wp2_with fail
    refine (HCL.out _ (HEU.out.kept (alloc_below _ _))).mono ?_
    rintro e w1 ⟨rfl, hb1⟩
    have G1 := hide ((GBox.new w r s q (.slice A F.length cap) 42).kept hb1)
    have HB1 := hide ((alloc_below w _).trans (hb1.mono (by simp)))
    clear hb1
    go_wp2_with fail
    refine (HKC.out _ (HEU.out.kept HB1.out)).mono ?_
    rintro e w2 ⟨rfl, hb2⟩
    obtain ⟨c0, c1, c2, c3⟩ := G1.out.kept hb2
    have HB2 := hide (HB1.out.trans (hb2.mono HB1.out.size))
    clear hb2
    go_wp2_with fail
    refine (HCC.out _ (HF.out.kept HB2.out) (HES.out.kept HB2.out)).mono ?_
    rintro e w3 ⟨rfl, hb3⟩
    rw [HV.out]
    have HB3 := hide (HB2.out.trans (hb3.mono HB2.out.size))
    clear hb3
    go_wp2_with fail
    go_ret2
    exact ⟨by rw [HR.out, HV.out]; rfl, HB3.out⟩
  · rw [h] at HKC
    cases r
    · have HR : Hid (srcL false F X.data.toList = none) := hide (by unfold srcL; rw [h]; rfl)
      clear h
      go_enter Tryz.func33, Tryz.ntmps33
      go_wp2_with fail
      refine (HCL.out _ (HEU.out.kept (alloc_below _ _))).mono ?_
      rintro e w1 ⟨rfl, hb1⟩
      have G1 := hide ((GBox.new w _ s q (.slice A F.length cap) 42).kept hb1)
      have HB1 := hide ((alloc_below w _).trans (hb1.mono (by simp)))
      clear hb1
      go_wp2_with fail
      refine (HKC.out _ (HEU.out.kept HB1.out)).mono ?_
      rintro e w2 ⟨rfl, hb2⟩
      obtain ⟨c0, c1, c2, c3⟩ := G1.out.kept hb2
      have HB2 := hide (HB1.out.trans (hb2.mono HB1.out.size))
      clear hb2
      go_wp2_with fail
      refine (onlyF_any _ _).mono ?_
      rintro e wo ⟨rfl, rfl⟩
      go_wp2_with fail
      go_ret2
      exact ⟨by rw [HR.out]; rfl, HB2.out⟩
    · have HR : Hid (srcL true F X.data.toList = some X.data.toList) := hide (by unfold srcL; rw [h]; rfl)
      clear h
      go_enter Tryz.func33, Tryz.ntmps33
      go_wp2_with fail
      refine (HCL.out _ (HEU.out.kept (alloc_below _ _))).mono ?_
      rintro e w1 ⟨rfl, hb1⟩
      have G1 := hide ((GBox.new w _ s q (.slice A F.length cap) 42).kept hb1)
      have HB1 := hide ((alloc_below w _).trans (hb1.mono (by simp)))
      clear hb1
      go_wp2_with fail
      refine (HKC.out _ (HEU.out.kept HB1.out)).mono ?_
      rintro e w2 ⟨rfl, hb2⟩
      obtain ⟨c0, c1, c2, c3⟩ := G1.out.kept hb2
      have HB2 := hide (HB1.out.trans (hb2.mono HB1.out.size))
      clear hb2
      go_wp2_with fail
      refine (onlyT_any _ _).mono ?_
      rintro e wo ⟨rfl, rfl⟩
      go_wp2_with fail
      go_ret2
      exact ⟨by rw [HR.out, valV_some]; rfl, HB2.out⟩
  · have HR : Hid (srcL r F X.data.toList = byNum F X.data.toList) := hide (by unfold srcL; rw [h]; rfl)
    rw [h] at HKC
    clear h
    obtain ⟨o, ho⟩ : ∃ o, byNum F X.data.toList = o := ⟨_, rfl⟩
    obtain ⟨S, hS⟩ : ∃ S, str (o.getD []) = S := ⟨_, rfl⟩
    obtain ⟨b, hb⟩ : ∃ b, o.isSome = b := ⟨_, rfl⟩
    have HV : Hid (valV o = .tuple #[.string S, .bool b]) := hide (by unfold valV; rw [hS, hb])
    rw [ho] at HR
    have HCC := hide (fun w2 hf he => gNo_any r s q A F cap X w2 hf HL.out HXS.out he)
    rw [ho] at HCC
    clear ho hS hb
    go_enter Tryz.func33, Tryz.ntmps33
    go_wp2_with fail
    refine (HCL.out _ (HEU.out.kept (alloc_below _ _))).mono ?_
    rintro e w1 ⟨rfl, hb1⟩
    have G1 := hide ((GBox.new w r s q (.slice A F.length cap) 42).kept hb1)
    have HB1 := hide ((alloc_below w _).trans (hb1.mono (by simp)))
    clear hb1
    go_wp2_with fail
    refine (HKC.out _ (HEU.out.kept HB1.out)).mono ?_
    rintro e w2 ⟨rfl, hb2⟩
    obtain ⟨c0, c1, c2, c3⟩ := G1.out.kept hb2
    have HB2 := hide (HB1.out.trans (hb2.mono HB1.out.size))
    clear hb2
    go_wp2_with fail
    refine (HCC.out _ (HF.out.kept HB2.out) (HES.out.kept HB2.out)).mono ?_
    rintro e w3 ⟨rfl, hb3⟩
    rw [HV.out]
    have HB3 := hide (HB2.out.trans (hb3.mono HB2.out.size))
    clear hb3
    go_wp2_with fail
    go_ret2
    exact ⟨by rw [HR.out, HV.out]; rfl, HB3.out⟩
  · have HR : Hid (srcL r F X.data.toList = byId F X.data.toList) := hide (by unfold srcL; rw [h]; rfl)
    rw [h] at HKC
    clear h
    obtain ⟨o, ho⟩ : ∃ o, byId F X.data.toList = o := ⟨_, rfl⟩
    obtain ⟨S, hS⟩ : ∃ S, str (o.getD []) = S := ⟨_, rfl⟩
    obtain ⟨b, hb⟩ : ∃ b, o.isSome = b := ⟨_, rfl⟩
    have HV : Hid (valV o = .tuple #[.string S, .bool b]) := hide (by unfold valV; rw [hS, hb])
    rw [ho] at HR
    have HCC := hide (fun w2 hf => gId_any r s q A F cap X w2 hf HL.out HXS.out)
    rw [ho] at HCC
    clear ho hS hb
    go_enter Tryz.func33, Tryz.ntmps33
    go_wp2_with fail
    refine (HCL.out _ (HEU.out.kept (alloc_below _ _))).mono ?_
    rintro e w1 ⟨rfl, hb1⟩
    have G1 := hide ((GBox.new w r s q (.slice A F.length cap) 42).kept hb1)
    have HB1 := hide ((alloc_below w _).trans (hb1.mono (by simp)))
    clear hb1
    go_wp2_with fail
    refine (HKC.out _ (HEU.out.kept HB1.out)).mono ?_
    rintro e w2 ⟨rfl, hb2⟩
    obtain ⟨c0, c1, c2, c3⟩ := G1.out.kept hb2
    have HB2 := hide (HB1.out.trans (hb2.mono HB1.out.size))
    clear hb2
    go_wp2_with fail
    refine (HCC.out _ (HF.out.kept HB2.out)).mono ?_
    rintro e w3 ⟨rfl, hb3⟩
    rw [HV.out]
    have HB3 := hide (HB2.out.trans (hb3.mono HB2.out.size))
    clear hb3
    go_wp2_with fail
    go_ret2
    exact ⟨by rw [HR.out, HV.out]; rfl, HB3.out⟩
  · have HR : Hid (srcL r F X.data.toList = byNum F X.data.toList) := hide (by unfold srcL; rw [h]; rfl)
    rw [h] at HKC
    clear h
    obtain ⟨o, ho⟩ : ∃ o, byNum F X.data.toList = o := ⟨_, rfl⟩
    obtain ⟨S, hS⟩ : ∃ S, str (o.getD []) = S := ⟨_, rfl⟩
    obtain ⟨b, hb⟩ : ∃ b, o.isSome = b := ⟨_, rfl⟩
    have HV : Hid (valV o = .tuple #[.string S, .bool b]) := hide (by unfold valV; rw [hS, hb])
    rw [ho] at HR
    have HCC := hide (fun w2 hf he => gNo_any r s q A F cap X w2 hf HL.out HXS.out he)
    rw [ho] at HCC
    clear ho hS hb
    go_enter Tryz.func33, Tryz.ntmps33
    go_wp2_with fail
    refine (HCL.out _ (HEU.out.kept (alloc_below _ _))).mono ?_
    rintro e w1 ⟨rfl, hb1⟩
    have G1 := hide ((GBox.new w r s q (.slice A F.length cap) 42).kept hb1)
    have HB1 := hide ((alloc_below w _).trans (hb1.mono (by simp)))
    clear hb1
    go_wp2_with fail
    refine (HKC.out _ (HEU.out.kept HB1.out)).mono ?_
    rintro e w2 ⟨rfl, hb2⟩
    obtain ⟨c0, c1, c2, c3⟩ := G1.out.kept hb2
    have HB2 := hide (HB1.out.trans (hb2.mono HB1.out.size))
    clear hb2
    go_wp2_with fail
    refine (HCC.out _ (HF.out.kept HB2.out) (HES.out.kept HB2.out)).mono ?_
    rintro e w3 ⟨rfl, hb3⟩
    rw [HV.out]
    have HB3 := hide (HB2.out.trans (hb3.mono HB2.out.size))
    clear hb3
    go_wp2_with fail
    go_ret2
    exact ⟨by rw [HR.out, HV.out]; rfl, HB3.out⟩
end Go.Proofs.YtklbdobofclofaaGreatDoor
