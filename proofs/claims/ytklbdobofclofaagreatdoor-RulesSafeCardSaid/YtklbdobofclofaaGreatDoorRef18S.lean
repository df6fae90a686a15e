/- WALK of the reference's src of layer 18. No statement is proved here. Own work of the verifier. -/
import Derived.Test.YtklbdobofclofaaGreatDoorRef18N
import Derived.Test.YtklbdobofclofaaGreatDoorFindW
import Derived.Test.YtklbdobofclofaaGreatDoorRef16M
namespace Go.Proofs.YtklbdobofclofaaGreatDoor
open Go.RowKit
set_option linter.unusedVariables false
set_option linter.unusedSimpArgs false
set_option maxRecDepth 100000
/-- a policy in its box -/
def PBox (w : World) (b : Nat) (r s q : Bool) : Prop :=
  w.cell? ⟨b, 0, none⟩ = some (.bool r) ∧ w.cell? ⟨b, 1, none⟩ = some (.bool s) ∧ w.cell? ⟨b, 2, none⟩ = some (.bool q)
theorem PBox.new (w : World) (r s q : Bool) (t : TypeId) : PBox (w.alloc (.cells #[.bool r, .bool s, .bool q] t)) w.heap.size r s q := by
  refine ⟨?_, ?_, ?_⟩ <;> (rw [World.cell?_alloc_at _ _ _ _ rfl]; rfl)
theorem PBox.kept {w w' : World} {b : Nat} {r s q : Bool} (h : PBox w b r s q) (hb : Below w.heap.size w w') : PBox w' b r s q := by
  obtain ⟨h0, h1, h2⟩ := h
  exact ⟨(hb.cell (World.block_lt_of_cell? _ _ h0)).trans h0, (hb.cell (World.block_lt_of_cell? _ _ h1)).trans h1, (hb.cell (World.block_lt_of_cell? _ _ h2)).trans h2⟩
/-- is a file a picture of that address? -/
def hitB (F : List FileL) (c : List UInt8) (i : Nat) : Bool := imgAt F i && (c == attN i)
theorem refNum_none {F : List FileL} {c : List UInt8} (h : ∀ j, j < F.length → hitB F c j = false) : refNum F c = none := by
  unfold refNum
  refine if_neg fun e => ?_
  obtain ⟨j, hj, h2⟩ := List.any_eq_true.1 e
  have := h j (List.mem_range.1 hj)
  unfold hitB at this
  rw [h2] at this; cases this
theorem refNum_hit {F : List FileL} {c : List UInt8} {i : Nat} (hi : i < F.length) (h : hitB F c i = true) : refNum F c = some c := by
  unfold refNum
  exact if_pos (List.any_eq_true.2 ⟨i, List.mem_range.2 hi, h⟩)
set_option maxHeartbeats 8000000 in
theorem src18_any (r s q : Bool) (A : Option Addr) (F : List FileL) (cap : Nat) (v : ByteArray) (w : World) (hF : FilesIn w (.slice A F.length cap) F) (hl : F.length ≤ 40) (hzf : ∀ f ∈ F, f.kind.length ≤ 10000) (hs : v.size ≤ 10000) :
    Calls Tryz.prog 26 #[.agg #[.bool r, .bool s, .bool q], .slice A F.length cap, .string v] w fun e w' => e = .returned (valV (srcR r F (lkClean v.data.toList))) ∧ Below w.heap.size w w' := by
  have HF := hide hF
  have HL := hide hl
  have HZF := hide hzf
  have HS := hide (show v.size ≤ 1048576 by omega)
  have HKC := hide (fun w2 => ref16Kind_any v w2 HS.out)
  have HCL := hide (fun w2 => ref16Clean_any v w2 HS.out)
  obtain ⟨X, hX⟩ : ∃ X, str (lkClean v.data.toList) = X := ⟨_, rfl⟩
  have hXl : lkClean v.data.toList = X.data.toList := by rw [← hX, str_toList]
  have hXs : X.size ≤ 10000 := by
    rw [← toList_length, ← hXl]
    have := clean_length v.data.toList
    rw [toList_length] at this
    omega
  rw [hX] at HCL
  rw [hXl] at HKC ⊢
  clear hF hl hzf hs hX hXl
  rcases kind_cases X.data.toList with h | h | h | h | h | h
  · have HR : Hid (srcR r F X.data.toList = refNum F X.data.toList) := hide (by unfold srcR; rw [h]; rfl)
    rw [h] at HKC
    clear h
    go_enter Tryz.func26, Tryz.ntmps26
    go_wp2_with fail
    refine (HCL.out _).mono ?_
    rintro e w1 ⟨rfl, hb1⟩
    have P1 := hide ((PBox.new w r s q 26).kept hb1)
    have HB1 := hide ((alloc_below w _).trans (hb1.mono (by simp)))
    clear hb1
    go_wp2_with fail
    refine (HKC.out _).mono ?_
    rintro e w2 ⟨rfl, hb2⟩
    obtain ⟨c0, c1, c2⟩ := P1.out.kept hb2
    have HB2 := hide (HB1.out.trans (hb2.mono HB1.out.size))
    clear hb2
    go_wp2_with fail
    go_loopw [13] (fun iv wr => ∃ k : Nat, k ≤ F.length ∧ iv = .int .i64 k ∧ Hid (Below w.heap.size w wr) ∧ Hid (∀ j, j < k → hitB F X.data.toList j = false)) (fun iv _ => F.length - (intOf iv).toNat)
    case atStart => exact ⟨0, Nat.zero_le _, rfl, HB2, hide (fun j hj => absurd hj (by omega))⟩
    case round =>
      obtain ⟨k, hk, rfl, HW, HN⟩ := hrel
      have hk6 : k ≤ 100 := Nat.le_trans hk (Nat.le_trans HL.out (by decide))
      by_cases hlt : k < F.length
      · have HWB := HW.out
        obtain ⟨a, rfl, d0, d1, d2, d3⟩ := (HF.out.kept HWB).at k _ (List.getElem?_eq_getElem hlt)
        have hik : imgAt F k = imgB F[k] := imgAt_at hlt
        obtain ⟨p, hp⟩ : ∃ p, F[k]'hlt = p := ⟨_, rfl⟩
        rw [hp] at d0 d1 d2 d3 hik
        obtain ⟨P0, hP0⟩ : ∃ P0, str p.name = P0 := ⟨_, rfl⟩
        obtain ⟨P1, hP1⟩ : ∃ P1, str p.kind = P1 := ⟨_, rfl⟩
        obtain ⟨P2, hP2⟩ : ∃ P2, str p.id = P2 := ⟨_, rfl⟩
        obtain ⟨P3, hP3⟩ : ∃ P3, str p.bytes = P3 := ⟨_, rfl⟩
        rw [hP0] at d0
        rw [hP1] at d1
        rw [hP2] at d2
        rw [hP3] at d3
        have hz1 : P1.size ≤ maxLen := by rw [← hP1, str_size]; exact Nat.le_trans (HZF.out p (by rw [← hp]; exact List.getElem_mem hlt)) (by decide)
        have HI := hide (fun w3 => image18_any p P0 P1 P2 P3 w3 hP1 hz1)
        rw [← hik] at HI
        have HLT := hide hlt
        have HNB := hide (fun w3 => number18_any k (Nat.lt_of_lt_of_le HLT.out (Nat.le_trans HL.out (by decide))) w3)
        obtain ⟨S, hS⟩ : ∃ S, str (numL k) = S := ⟨_, rfl⟩
        have hSz : S.size ≤ 2 := by rw [← hS, str_size]; unfold numL; split <;> simp
        rw [hS] at HNB
        have HH : Hid (hitB F X.data.toList k = (imgAt F k && (X.toList == ((⟨#[97, 116, 116, 58]⟩ : ByteArray) ++ S).toList))) := hide (by
          unfold hitB
          congr 1
          rw [bytes_list, bytes_list, ← hS]
          rfl)
        have HNX : hitB F X.data.toList k = false → Hid (∀ j, j < k + 1 → hitB F X.data.toList j = false) := fun h => hide (by
          intro j hj
          rcases Nat.lt_succ_iff_lt_or_eq.1 hj with h1 | h1
          · exact HN.out j h1
          · rw [h1]; exact h)
        clear hik hp hP0 hP1 hP2 hP3 hz1 hS hk
        cases hi : imgAt F k with
        | false =>
          have HN2 := HNX (by rw [HH.out, hi]; rfl)
          rw [hi] at HI
          clear hi HNX HH
          go_wp2_with fail
          refine (HI.out _).mono ?_
          rintro e w3 ⟨rfl, hb3⟩
          have HB3 := hide (HW.out.trans (hb3.mono HW.out.size))
          clear hb3 HWB d0 d1 d2 d3
          go_wp2_with fail
          go_roundw
          case rel => exact ⟨k + 1, HLT.out, by go_num, HB3, HN2⟩
          case measure => simp [intOf]; have := HLT.out; omega
        | true =>
          rw [hi] at HI
          cases t1 : (X.toList == ((⟨#[97, 116, 116, 58]⟩ : ByteArray) ++ S).toList) with
          | false =>
            have HN2 := HNX (by rw [HH.out, hi, t1]; rfl)
            clear hi HNX HH
            go_wp2_with fail
            refine (HI.out _).mono ?_
            rintro e w3 ⟨rfl, hb3⟩
            have HB3 := hide (HW.out.trans (hb3.mono HW.out.size))
            clear hb3 HWB d0 d1 d2 d3
            go_wp2_with fail
            refine (HNB.out _).mono ?_
            rintro e w4 ⟨rfl, hb4⟩
            have HB4 := hide (HB3.out.trans (hb4.mono HB3.out.size))
            clear hb4
            go_wp2_with fail
            go_roundw
            case rel => exact ⟨k + 1, HLT.out, by go_num, HB4, HN2⟩
            case measure => simp [intOf]; have := HLT.out; omega
          | true =>
            have HR2 : Hid (refNum F X.data.toList = some X.data.toList) := hide (refNum_hit hlt (by rw [HH.out, hi, t1]; rfl))
            clear hi HNX HH
            go_wp2_with fail
            refine (HI.out _).mono ?_
            rintro e w3 ⟨rfl, hb3⟩
            have HB3 := hide (HW.out.trans (hb3.mono HW.out.size))
            clear hb3 HWB d0 d1 d2 d3
            go_wp2_with fail
            refine (HNB.out _).mono ?_
            rintro e w4 ⟨rfl, hb4⟩
            have HB4 := hide (HB3.out.trans (hb4.mono HB3.out.size))
            clear hb4
            go_wp2_with fail
            go_ret2
            exact ⟨by rw [HR.out, HR2.out, valV_some]; rfl, HB4.out⟩
      · have HR2 : Hid (refNum F X.data.toList = none) := hide (refNum_none (fun j hj => HN.out j (by omega)))
        go_wp2_with fail
        go_ret2
        exact ⟨by rw [HR.out, HR2.out]; rfl, HW.out⟩
  · have HR : Hid (srcR r F X.data.toList = refNum F X.data.toList) := hide (by unfold srcR; rw [h]; rfl)
    rw [h] at HKC
    clear h
    go_enter Tryz.func26, Tryz.ntmps26
    go_wp2_with fail
    refine (HCL.out _).mono ?_
    rintro e w1 ⟨rfl, hb1⟩
    have P1 := hide ((PBox.new w r s q 26).kept hb1)
    have HB1 := hide ((alloc_below w _).trans (hb1.mono (by simp)))
    clear hb1
    go_wp2_with fail
    refine (HKC.out _).mono ?_
    rintro e w2 ⟨rfl, hb2⟩
    obtain ⟨c0, c1, c2⟩ := P1.out.kept hb2
    have HB2 := hide (HB1.out.trans (hb2.mono HB1.out.size))
    clear hb2
    go_wp2_with fail
    go_loopw [13] (fun iv wr => ∃ k : Nat, k ≤ F.length ∧ iv = .int .i64 k ∧ Hid (Below w.heap.size w wr) ∧ Hid (∀ j, j < k → hitB F X.data.toList j = false)) (fun iv _ => F.length - (intOf iv).toNat)
    case atStart => exact ⟨0, Nat.zero_le _, rfl, HB2, hide (fun j hj => absurd hj (by omega))⟩
    case round =>
      obtain ⟨k, hk, rfl, HW, HN⟩ := hrel
      have hk6 : k ≤ 100 := Nat.le_trans hk (Nat.le_trans HL.out (by decide))
      by_cases hlt : k < F.length
      · have HWB := HW.out
        obtain ⟨a, rfl, d0, d1, d2, d3⟩ := (HF.out.kept HWB).at k _ (List.getElem?_eq_getElem hlt)
        have hik : imgAt F k = imgB F[k] := imgAt_at hlt
        obtain ⟨p, hp⟩ : ∃ p, F[k]'hlt = p := ⟨_, rfl⟩
        rw [hp] at d0 d1 d2 d3 hik
        obtain ⟨P0, hP0⟩ : ∃ P0, str p.name = P0 := ⟨_, rfl⟩
        obtain ⟨P1, hP1⟩ : ∃ P1, str p.kind = P1 := ⟨_, rfl⟩
        obtain ⟨P2, hP2⟩ : ∃ P2, str p.id = P2 := ⟨_, rfl⟩
        obtain ⟨P3, hP3⟩ : ∃ P3, str p.bytes = P3 := ⟨_, rfl⟩
        rw [hP0] at d0
        rw [hP1] at d1
        rw [hP2] at d2
        rw [hP3] at d3
        have hz1 : P1.size ≤ maxLen := by rw [← hP1, str_size]; exact Nat.le_trans (HZF.out p (by rw [← hp]; exact List.getElem_mem hlt)) (by decide)
        have HI := hide (fun w3 => image18_any p P0 P1 P2 P3 w3 hP1 hz1)
        rw [← hik] at HI
        have HLT := hide hlt
        have HNB := hide (fun w3 => number18_any k (Nat.lt_of_lt_of_le HLT.out (Nat.le_trans HL.out (by decide))) w3)
        obtain ⟨S, hS⟩ : ∃ S, str (numL k) = S := ⟨_, rfl⟩
        have hSz : S.size ≤ 2 := by rw [← hS, str_size]; unfold numL; split <;> simp
        rw [hS] at HNB
        have HH : Hid (hitB F X.data.toList k = (imgAt F k && (X.toList == ((⟨#[97, 116, 116, 58]⟩ : ByteArray) ++ S).toList))) := hide (by
          unfold hitB
          congr 1
          rw [bytes_list, bytes_list, ← hS]
          rfl)
        have HNX : hitB F X.data.toList k = false → Hid (∀ j, j < k + 1 → hitB F X.data.toList j = false) := fun h => hide (by
          intro j hj
          rcases Nat.lt_succ_iff_lt_or_eq.1 hj with h1 | h1
          · exact HN.out j h1
          · rw [h1]; exact h)
        clear hik hp hP0 hP1 hP2 hP3 hz1 hS hk
        cases hi : imgAt F k with
        | false =>
          have HN2 := HNX (by rw [HH.out, hi]; rfl)
          rw [hi] at HI
          clear hi HNX HH
          go_wp2_with fail
          refine (HI.out _).mono ?_
          rintro e w3 ⟨rfl, hb3⟩
          have HB3 := hide (HW.out.trans (hb3.mono HW.out.size))
          clear hb3 HWB d0 d1 d2 d3
          go_wp2_with fail
          go_roundw
          case rel => exact ⟨k + 1, HLT.out, by go_num, HB3, HN2⟩
          case measure => simp [intOf]; have := HLT.out; omega
        | true =>
          rw [hi] at HI
          cases t1 : (X.toList == ((⟨#[97, 116, 116, 58]⟩ : ByteArray) ++ S).toList) with
          | false =>
            have HN2 := HNX (by rw [HH.out, hi, t1]; rfl)
            clear hi HNX HH
            go_wp2_with fail
            refine (HI.out _).mono ?_
            rintro e w3 ⟨rfl, hb3⟩
            have HB3 := hide (HW.out.trans (hb3.mono HW.out.size))
            clear hb3 HWB d0 d1 d2 d3
            go_wp2_with fail
            refine (HNB.out _).mono ?_
            rintro e w4 ⟨rfl, hb4⟩
            have HB4 := hide (HB3.out.trans (hb4.mono HB3.out.size))
            clear hb4
            go_wp2_with fail
            go_roundw
            case rel => exact ⟨k + 1, HLT.out, by go_num, HB4, HN2⟩
            case measure => simp [intOf]; have := HLT.out; omega
          | true =>
            have HR2 : Hid (refNum F X.data.toList = some X.data.toList) := hide (refNum_hit hlt (by rw [HH.out, hi, t1]; rfl))
            clear hi HNX HH
            go_wp2_with fail
            refine (HI.out _).mono ?_
            rintro e w3 ⟨rfl, hb3⟩
            have HB3 := hide (HW.out.trans (hb3.mono HW.out.size))
            clear hb3 HWB d0 d1 d2 d3
            go_wp2_with fail
            refine (HNB.out _).mono ?_
            rintro e w4 ⟨rfl, hb4⟩
            have HB4 := hide (HB3.out.trans (hb4.mono HB3.out.size))
            clear hb4
            go_wp2_with fail
            go_ret2
            exact ⟨by rw [HR.out, HR2.out, valV_some]; rfl, HB4.out⟩
      · have HR2 : Hid (refNum F X.data.toList = none) := hide (refNum_none (fun j hj => HN.out j (by omega)))
        go_wp2_with fail
        go_ret2
        exact ⟨by rw [HR.out, HR2.out]; rfl, HW.out⟩
  · rw [h] at HKC
    cases r
    · have HR : Hid (srcR false F X.data.toList = refNum F X.data.toList) := hide (by unfold srcR; rw [h]; rfl)
      clear h
      go_enter Tryz.func26, Tryz.ntmps26
      go_wp2_with fail
      refine (HCL.out _).mono ?_
      rintro e w1 ⟨rfl, hb1⟩
      have P1 := hide ((PBox.new w _ s q 26).kept hb1)
      have HB1 := hide ((alloc_below w _).trans (hb1.mono (by simp)))
      clear hb1
      go_wp2_with fail
      refine (HKC.out _).mono ?_
      rintro e w2 ⟨rfl, hb2⟩
      obtain ⟨c0, c1, c2⟩ := P1.out.kept hb2
      have HB2 := hide (HB1.out.trans (hb2.mono HB1.out.size))
      clear hb2
      go_wp2_with fail
      go_loopw [13] (fun iv wr => ∃ k : Nat, k ≤ F.length ∧ iv = .int .i64 k ∧ Hid (Below w.heap.size w wr) ∧ Hid (∀ j, j < k → hitB F X.data.toList j = false)) (fun iv _ => F.length - (intOf iv).toNat)
      case atStart => exact ⟨0, Nat.zero_le _, rfl, HB2, hide (fun j hj => absurd hj (by omega))⟩
      case round =>
        obtain ⟨k, hk, rfl, HW, HN⟩ := hrel
        have hk6 : k ≤ 100 := Nat.le_trans hk (Nat.le_trans HL.out (by decide))
        by_cases hlt : k < F.length
        · have HWB := HW.out
          obtain ⟨a, rfl, d0, d1, d2, d3⟩ := (HF.out.kept HWB).at k _ (List.getElem?_eq_getElem hlt)
          have hik : imgAt F k = imgB F[k] := imgAt_at hlt
          obtain ⟨p, hp⟩ : ∃ p, F[k]'hlt = p := ⟨_, rfl⟩
          rw [hp] at d0 d1 d2 d3 hik
          obtain ⟨P0, hP0⟩ : ∃ P0, str p.name = P0 := ⟨_, rfl⟩
          obtain ⟨P1, hP1⟩ : ∃ P1, str p.kind = P1 := ⟨_, rfl⟩
          obtain ⟨P2, hP2⟩ : ∃ P2, str p.id = P2 := ⟨_, rfl⟩
          obtain ⟨P3, hP3⟩ : ∃ P3, str p.bytes = P3 := ⟨_, rfl⟩
          rw [hP0] at d0
          rw [hP1] at d1
          rw [hP2] at d2
          rw [hP3] at d3
          have hz1 : P1.size ≤ maxLen := by rw [← hP1, str_size]; exact Nat.le_trans (HZF.out p (by rw [← hp]; exact List.getElem_mem hlt)) (by decide)
          have HI := hide (fun w3 => image18_any p P0 P1 P2 P3 w3 hP1 hz1)
          rw [← hik] at HI
          have HLT := hide hlt
          have HNB := hide (fun w3 => number18_any k (Nat.lt_of_lt_of_le HLT.out (Nat.le_trans HL.out (by decide))) w3)
          obtain ⟨S, hS⟩ : ∃ S, str (numL k) = S := ⟨_, rfl⟩
          have hSz : S.size ≤ 2 := by rw [← hS, str_size]; unfold numL; split <;> simp
          rw [hS] at HNB
          have HH : Hid (hitB F X.data.toList k = (imgAt F k && (X.toList == ((⟨#[97, 116, 116, 58]⟩ : ByteArray) ++ S).toList))) := hide (by
            unfold hitB
            congr 1
            rw [bytes_list, bytes_list, ← hS]
            rfl)
          have HNX : hitB F X.data.toList k = false → Hid (∀ j, j < k + 1 → hitB F X.data.toList j = false) := fun h => hide (by
            intro j hj
            rcases Nat.lt_succ_iff_lt_or_eq.1 hj with h1 | h1
            · exact HN.out j h1
            · rw [h1]; exact h)
          clear hik hp hP0 hP1 hP2 hP3 hz1 hS hk
          cases hi : imgAt F k with
          | false =>
            have HN2 := HNX (by rw [HH.out, hi]; rfl)
            rw [hi] at HI
            clear hi HNX HH
            go_wp2_with fail
            refine (HI.out _).mono ?_
            rintro e w3 ⟨rfl, hb3⟩
            have HB3 := hide (HW.out.trans (hb3.mono HW.out.size))
            clear hb3 HWB d0 d1 d2 d3
            go_wp2_with fail
            go_roundw
            case rel => exact ⟨k + 1, HLT.out, by go_num, HB3, HN2⟩
            case measure => simp [intOf]; have := HLT.out; omega
          | true =>
            rw [hi] at HI
            cases t1 : (X.toList == ((⟨#[97, 116, 116, 58]⟩ : ByteArray) ++ S).toList) with
            | false =>
              have HN2 := HNX (by rw [HH.out, hi, t1]; rfl)
              clear hi HNX HH
              go_wp2_with fail
              refine (HI.out _).mono ?_
              rintro e w3 ⟨rfl, hb3⟩
              have HB3 := hide (HW.out.trans (hb3.mono HW.out.size))
              clear hb3 HWB d0 d1 d2 d3
              go_wp2_with fail
              refine (HNB.out _).mono ?_
              rintro e w4 ⟨rfl, hb4⟩
              have HB4 := hide (HB3.out.trans (hb4.mono HB3.out.size))
              clear hb4
              go_wp2_with fail
              go_roundw
              case rel => exact ⟨k + 1, HLT.out, by go_num, HB4, HN2⟩
              case measure => simp [intOf]; have := HLT.out; omega
            | true =>
              have HR2 : Hid (refNum F X.data.toList = some X.data.toList) := hide (refNum_hit hlt (by rw [HH.out, hi, t1]; rfl))
              clear hi HNX HH
              go_wp2_with fail
              refine (HI.out _).mono ?_
              rintro e w3 ⟨rfl, hb3⟩
              have HB3 := hide (HW.out.trans (hb3.mono HW.out.size))
              clear hb3 HWB d0 d1 d2 d3
              go_wp2_with fail
              refine (HNB.out _).mono ?_
              rintro e w4 ⟨rfl, hb4⟩
              have HB4 := hide (HB3.out.trans (hb4.mono HB3.out.size))
              clear hb4
              go_wp2_with fail
              go_ret2
              exact ⟨by rw [HR.out, HR2.out, valV_some]; rfl, HB4.out⟩
        · have HR2 : Hid (refNum F X.data.toList = none) := hide (refNum_none (fun j hj => HN.out j (by omega)))
          go_wp2_with fail
          go_ret2
          exact ⟨by rw [HR.out, HR2.out]; rfl, HW.out⟩
    · have HR : Hid (srcR true F X.data.toList = some X.data.toList) := hide (by unfold srcR; rw [h]; rfl)
      clear h
      go_enter Tryz.func26, Tryz.ntmps26
      go_wp2_with fail
      refine (HCL.out _).mono ?_
      rintro e w1 ⟨rfl, hb1⟩
      have P1 := hide ((PBox.new w _ s q 26).kept hb1)
      have HB1 := hide ((alloc_below w _).trans (hb1.mono (by simp)))
      clear hb1
      go_wp2_with fail
      refine (HKC.out _).mono ?_
      rintro e w2 ⟨rfl, hb2⟩
      obtain ⟨c0, c1, c2⟩ := P1.out.kept hb2
      have HB2 := hide (HB1.out.trans (hb2.mono HB1.out.size))
      clear hb2
      go_wp2_with fail
      go_ret2
      exact ⟨by rw [HR.out, valV_some]; rfl, HB2.out⟩
  · have HR : Hid (srcR r F X.data.toList = refNum F X.data.toList) := hide (by unfold srcR; rw [h]; rfl)
    rw [h] at HKC
    clear h
    go_enter Tryz.func26, Tryz.ntmps26
    go_wp2_with fail
    refine (HCL.out _).mono ?_
    rintro e w1 ⟨rfl, hb1⟩
    have P1 := hide ((PBox.new w r s q 26).kept hb1)
    have HB1 := hide ((alloc_below w _).trans (hb1.mono (by simp)))
    clear hb1
    go_wp2_with fail
    refine (HKC.out _).mono ?_
    rintro e w2 ⟨rfl, hb2⟩
    obtain ⟨c0, c1, c2⟩ := P1.out.kept hb2
    have HB2 := hide (HB1.out.trans (hb2.mono HB1.out.size))
    clear hb2
    go_wp2_with fail
    go_loopw [13] (fun iv wr => ∃ k : Nat, k ≤ F.length ∧ iv = .int .i64 k ∧ Hid (Below w.heap.size w wr) ∧ Hid (∀ j, j < k → hitB F X.data.toList j = false)) (fun iv _ => F.length - (intOf iv).toNat)
    case atStart => exact ⟨0, Nat.zero_le _, rfl, HB2, hide (fun j hj => absurd hj (by omega))⟩
    case round =>
      obtain ⟨k, hk, rfl, HW, HN⟩ := hrel
      have hk6 : k ≤ 100 := Nat.le_trans hk (Nat.le_trans HL.out (by decide))
      by_cases hlt : k < F.length
      · have HWB := HW.out
        obtain ⟨a, rfl, d0, d1, d2, d3⟩ := (HF.out.kept HWB).at k _ (List.getElem?_eq_getElem hlt)
        have hik : imgAt F k = imgB F[k] := imgAt_at hlt
        obtain ⟨p, hp⟩ : ∃ p, F[k]'hlt = p := ⟨_, rfl⟩
        rw [hp] at d0 d1 d2 d3 hik
        obtain ⟨P0, hP0⟩ : ∃ P0, str p.name = P0 := ⟨_, rfl⟩
        obtain ⟨P1, hP1⟩ : ∃ P1, str p.kind = P1 := ⟨_, rfl⟩
        obtain ⟨P2, hP2⟩ : ∃ P2, str p.id = P2 := ⟨_, rfl⟩
        obtain ⟨P3, hP3⟩ : ∃ P3, str p.bytes = P3 := ⟨_, rfl⟩
        rw [hP0] at d0
        rw [hP1] at d1
        rw [hP2] at d2
        rw [hP3] at d3
        have hz1 : P1.size ≤ maxLen := by rw [← hP1, str_size]; exact Nat.le_trans (HZF.out p (by rw [← hp]; exact List.getElem_mem hlt)) (by decide)
        have HI := hide (fun w3 => image18_any p P0 P1 P2 P3 w3 hP1 hz1)
        rw [← hik] at HI
        have HLT := hide hlt
        have HNB := hide (fun w3 => number18_any k (Nat.lt_of_lt_of_le HLT.out (Nat.le_trans HL.out (by decide))) w3)
        obtain ⟨S, hS⟩ : ∃ S, str (numL k) = S := ⟨_, rfl⟩
        have hSz : S.size ≤ 2 := by rw [← hS, str_size]; unfold numL; split <;> simp
        rw [hS] at HNB
        have HH : Hid (hitB F X.data.toList k = (imgAt F k && (X.toList == ((⟨#[97, 116, 116, 58]⟩ : ByteArray) ++ S).toList))) := hide (by
          unfold hitB
          congr 1
          rw [bytes_list, bytes_list, ← hS]
          rfl)
        have HNX : hitB F X.data.toList k = false → Hid (∀ j, j < k + 1 → hitB F X.data.toList j = false) := fun h => hide (by
          intro j hj
          rcases Nat.lt_succ_iff_lt_or_eq.1 hj with h1 | h1
          · exact HN.out j h1
          · rw [h1]; exact h)
        clear hik hp hP0 hP1 hP2 hP3 hz1 hS hk
        cases hi : imgAt F k with
        | false =>
          have HN2 := HNX (by rw [HH.out, hi]; rfl)
          rw [hi] at HI
          clear hi HNX HH
          go_wp2_with fail
          refine (HI.out _).mono ?_
          rintro e w3 ⟨rfl, hb3⟩
          have HB3 := hide (HW.out.trans (hb3.mono HW.out.size))
          clear hb3 HWB d0 d1 d2 d3
          go_wp2_with fail
          go_roundw
          case rel => exact ⟨k + 1, HLT.out, by go_num, HB3, HN2⟩
          case measure => simp [intOf]; have := HLT.out; omega
        | true =>
          rw [hi] at HI
          cases t1 : (X.toList == ((⟨#[97, 116, 116, 58]⟩ : ByteArray) ++ S).toList) with
          | false =>
            have HN2 := HNX (by rw [HH.out, hi, t1]; rfl)
            clear hi HNX HH
            go_wp2_with fail
            refine (HI.out _).mono ?_
            rintro e w3 ⟨rfl, hb3⟩
            have HB3 := hide (HW.out.trans (hb3.mono HW.out.size))
            clear hb3 HWB d0 d1 d2 d3
            go_wp2_with fail
            refine (HNB.out _).mono ?_
            rintro e w4 ⟨rfl, hb4⟩
            have HB4 := hide (HB3.out.trans (hb4.mono HB3.out.size))
            clear hb4
            go_wp2_with fail
            go_roundw
            case rel => exact ⟨k + 1, HLT.out, by go_num, HB4, HN2⟩
            case measure => simp [intOf]; have := HLT.out; omega
          | true =>
            have HR2 : Hid (refNum F X.data.toList = some X.data.toList) := hide (refNum_hit hlt (by rw [HH.out, hi, t1]; rfl))
            clear hi HNX HH
            go_wp2_with fail
            refine (HI.out _).mono ?_
            rintro e w3 ⟨rfl, hb3⟩
            have HB3 := hide (HW.out.trans (hb3.mono HW.out.size))
            clear hb3 HWB d0 d1 d2 d3
            go_wp2_with fail
            refine (HNB.out _).mono ?_
            rintro e w4 ⟨rfl, hb4⟩
            have HB4 := hide (HB3.out.trans (hb4.mono HB3.out.size))
            clear hb4
            go_wp2_with fail
            go_ret2
            exact ⟨by rw [HR.out, HR2.out, valV_some]; rfl, HB4.out⟩
      · have HR2 : Hid (refNum F X.data.toList = none) := hide (refNum_none (fun j hj => HN.out j (by omega)))
        go_wp2_with fail
        go_ret2
        exact ⟨by rw [HR.out, HR2.out]; rfl, HW.out⟩
  · have HR : Hid (srcR r F X.data.toList = byId F X.data.toList) := hide (by unfold srcR; rw [if_pos h])
    have hsc : ∃ n b, schL X.data.toList = some (n, b) := by
      cases hs : schL X.data.toList with
      | none => rw [lkKind_none hs] at h; cases h
      | some p => exact ⟨p.1, p.2, rfl⟩
    rw [h] at HKC
    clear h
    obtain ⟨nn, b, hsc⟩ := hsc
    obtain ⟨m, hm, _, _, hmb⟩ := schL_some hsc
    have hn58 : ∀ c ∈ m, c ≠ 58 := fun c hc e => by
      have := hmb c hc
      rw [e, schB_58] at this; cases this
    obtain ⟨_, haf⟩ := split58 (b := b) hn58
    rw [← hm] at haf
    have hlen : X.size = m.length + 1 + b.length := by rw [← toList_length, hm]; simp; omega
    have HM : Hid (X.data.toList = m ++ 58 :: b) := hide hm
    have HAT : Hid (∀ k (hk : k < X.size), k < m.length → X[k] ≠ 58) := hide (by
      intro k hk hkm e
      have e2 : X.data.toList[k]'(by rw [toList_length]; exact hk) = X[k] := rfl
      rw [e] at e2
      have e3 : X.data.toList[k]? = some 58 := by rw [List.getElem?_eq_getElem (by rw [toList_length]; exact hk), e2]
      rw [hm, List.getElem?_append_left hkm] at e3
      exact hn58 58 (List.mem_of_getElem? e3) rfl)
    have HAE : Hid (∀ (hk : m.length < X.size), X[m.length] = 58) := hide (by
      intro hk
      have e2 : X.data.toList[m.length]'(by rw [toList_length]; exact hk) = X[m.length] := rfl
      have e3 : X.data.toList[m.length]? = some 58 := by rw [hm, List.getElem?_append_right (Nat.le_refl _)]; simp
      rw [List.getElem?_eq_getElem (by rw [toList_length]; exact hk), e2] at e3
      injection e3)
    obtain ⟨I, hI⟩ : ∃ I, X.extract (m.length + 1) X.size = I := ⟨_, rfl⟩
    have hIl : I.data.toList = afterC 58 X.data.toList := by rw [← hI, extract_end, haf, hm]; rw [show m.length + 1 = (m ++ [58]).length by simp, show m ++ 58 :: b = (m ++ [58]) ++ b by simp, List.drop_left]
    have HIE := hide hI
    have HFD := hide (fun w3 hf => find11_any (.slice A F.length cap) F I w3 hf (Nat.le_trans HL.out (by decide)))
    have hmX : m.length < X.size := by omega
    have hm1 : m.length ≤ 10000 := by omega
    clear hsc hm hmb hn58 haf hlen hI
    cases hr : findL F I.data.toList with
    | none =>
      have HFV : Hid (findV none = .tuple #[.int .i64 0, .bool false]) := hide rfl
      rw [hr] at HFD
      have HR2 : Hid (byId F X.data.toList = none) := hide (by unfold byId; rw [← hIl, hr])
      clear hr hIl
      go_enter Tryz.func26, Tryz.ntmps26
      go_wp2_with fail
      refine (HCL.out _).mono ?_
      rintro e w1 ⟨rfl, hb1⟩
      have P1 := hide ((PBox.new w r s q 26).kept hb1)
      have HB1 := hide ((alloc_below w _).trans (hb1.mono (by simp)))
      clear hb1
      go_wp2_with fail
      refine (HKC.out _).mono ?_
      rintro e w2 ⟨rfl, hb2⟩
      obtain ⟨c0, c1, c2⟩ := P1.out.kept hb2
      have HB2 := hide (HB1.out.trans (hb2.mono HB1.out.size))
      clear hb2
      go_wp2_with fail
      go_loop [10] (fun iv => ∃ k : Nat, k ≤ m.length ∧ iv = .int .i64 k) (fun iv => m.length - (intOf iv).toNat)
      case atStart => exact ⟨0, Nat.zero_le _, rfl⟩
      case round =>
        obtain ⟨k, hk, rfl⟩ := hrel
        have hkX : k < X.size := by omega
        by_cases hlt : k < m.length
        · have t0 : ((X[k].toNat : Int) == 58) = false := tF 58 (HAT.out k hkX hlt) (by omega)
          have t1 : ((X[k].toNat : Int) != 58) = true := by rw [bne, t0]; rfl
          go_wp2_with fail
          go_round
          case rel => exact ⟨k + 1, by omega, by go_num⟩
          case measure => simp [intOf]; omega
        · obtain rfl : k = m.length := by omega
          have t0 : ((X[m.length].toNat : Int) == 58) = true := tT 58 (HAE.out hkX) (by omega)
          have t1 : ((X[m.length].toNat : Int) != 58) = false := by rw [bne, t0]; rfl
          have m1 : (m.length : Int) + 1 ≤ X.size := by omega
          have m0 : (0 : Int) ≤ (m.length : Int) + 1 := by omega
          have mn : ((m.length : Int) + 1).toNat = m.length + 1 := by omega
          go_wp2_with fail
          rw [HIE.out]
          refine (HFD.out _ (HF.out.kept HB2.out)).mono ?_
          rintro e w3 ⟨rfl, hb3⟩
          rw [HFV.out]
          have HB3 := hide (HB2.out.trans (hb3.mono HB2.out.size))
          clear hb3
          go_wp2_with fail
          go_ret2
          exact ⟨by rw [HR.out, HR2.out]; rfl, HB3.out⟩
    | some n =>
      have hln : n < F.length := findL_lt hr
      have HFV : Hid (findV (some n) = .tuple #[.int .i64 n, .bool true]) := hide rfl
      rw [hr] at HFD
      have HR2 : Hid (byId F X.data.toList = picO F n) := hide (by unfold byId; rw [← hIl, hr]; rfl)
      have hn6 : n < 100 := by have := HL.out; omega
      have HNB := hide (fun w3 => number18_any n hn6 w3)
      obtain ⟨S, hS⟩ : ∃ S, str (numL n) = S := ⟨_, rfl⟩
      have hSz : S.size ≤ 2 := by rw [← hS, str_size]; unfold numL; split <;> simp
      rw [hS] at HNB
      have HSV := hide hS
      clear hr hIl hS
      cases hi : imgAt F n with
      | false =>
        have HV := hide (picO_no hi)
        go_enter Tryz.func26, Tryz.ntmps26
        go_wp2_with fail
        refine (HCL.out _).mono ?_
        rintro e w1 ⟨rfl, hb1⟩
        have P1 := hide ((PBox.new w r s q 26).kept hb1)
        have HB1 := hide ((alloc_below w _).trans (hb1.mono (by simp)))
        clear hb1
        go_wp2_with fail
        refine (HKC.out _).mono ?_
        rintro e w2 ⟨rfl, hb2⟩
        obtain ⟨c0, c1, c2⟩ := P1.out.kept hb2
        have HB2 := hide (HB1.out.trans (hb2.mono HB1.out.size))
        clear hb2
        go_wp2_with fail
        go_loop [10] (fun iv => ∃ k : Nat, k ≤ m.length ∧ iv = .int .i64 k) (fun iv => m.length - (intOf iv).toNat)
        case atStart => exact ⟨0, Nat.zero_le _, rfl⟩
        case round =>
          obtain ⟨k, hk, rfl⟩ := hrel
          have hkX : k < X.size := by omega
          by_cases hlt : k < m.length
          · have t0 : ((X[k].toNat : Int) == 58) = false := tF 58 (HAT.out k hkX hlt) (by omega)
            have t1 : ((X[k].toNat : Int) != 58) = true := by rw [bne, t0]; rfl
            go_wp2_with fail
            go_round
            case rel => exact ⟨k + 1, by omega, by go_num⟩
            case measure => simp [intOf]; omega
          · obtain rfl : k = m.length := by omega
            have t0 : ((X[m.length].toNat : Int) == 58) = true := tT 58 (HAE.out hkX) (by omega)
            have t1 : ((X[m.length].toNat : Int) != 58) = false := by rw [bne, t0]; rfl
            have m1 : (m.length : Int) + 1 ≤ X.size := by omega
            have m0 : (0 : Int) ≤ (m.length : Int) + 1 := by omega
            have mn : ((m.length : Int) + 1).toNat = m.length + 1 := by omega
            go_wp2_with fail
            rw [HIE.out]
            refine (HFD.out _ (HF.out.kept HB2.out)).mono ?_
            rintro e w3 ⟨rfl, hb3⟩
            rw [HFV.out]
            have HB3 := hide (HB2.out.trans (hb3.mono HB2.out.size))
            clear hb3
            have HWB := HB3.out
            obtain ⟨a, rfl, d0, d1, d2, d3⟩ := (HF.out.kept HWB).at n _ (List.getElem?_eq_getElem hln)
            have hik : imgAt F n = imgB F[n] := imgAt_at hln
            obtain ⟨p, hp⟩ : ∃ p, F[n]'hln = p := ⟨_, rfl⟩
            rw [hp] at d0 d1 d2 d3 hik
            obtain ⟨P0, hP0⟩ : ∃ P0, str p.name = P0 := ⟨_, rfl⟩
            obtain ⟨P1, hP1⟩ : ∃ P1, str p.kind = P1 := ⟨_, rfl⟩
            obtain ⟨P2, hP2⟩ : ∃ P2, str p.id = P2 := ⟨_, rfl⟩
            obtain ⟨P3, hP3⟩ : ∃ P3, str p.bytes = P3 := ⟨_, rfl⟩
            rw [hP0] at d0
            rw [hP1] at d1
            rw [hP2] at d2
            rw [hP3] at d3
            have hz1 : P1.size ≤ maxLen := by rw [← hP1, str_size]; exact Nat.le_trans (HZF.out p (by rw [← hp]; exact List.getElem_mem hln)) (by decide)
            have HI := hide (fun w3 => image18_any p P0 P1 P2 P3 w3 hP1 hz1)
            rw [← hik] at HI
            rw [hi] at HI
            clear hik hp hP0 hP1 hP2 hP3 hz1 hi
            go_wp2_with fail
            refine (HI.out _).mono ?_
            rintro e w4 ⟨rfl, hb4⟩
            have HB4 := hide (HB3.out.trans (hb4.mono HB3.out.size))
            clear hb4 HWB d0 d1 d2 d3
            go_wp2_with fail
            go_ret2
            exact ⟨by rw [HR.out, HR2.out, HV.out]; rfl, HB4.out⟩
      | true =>
        have HV := hide (picO_yes hi)
        go_enter Tryz.func26, Tryz.ntmps26
        go_wp2_with fail
        refine (HCL.out _).mono ?_
        rintro e w1 ⟨rfl, hb1⟩
        have P1 := hide ((PBox.new w r s q 26).kept hb1)
        have HB1 := hide ((alloc_below w _).trans (hb1.mono (by simp)))
        clear hb1
        go_wp2_with fail
        refine (HKC.out _).mono ?_
        rintro e w2 ⟨rfl, hb2⟩
        obtain ⟨c0, c1, c2⟩ := P1.out.kept hb2
        have HB2 := hide (HB1.out.trans (hb2.mono HB1.out.size))
        clear hb2
        go_wp2_with fail
        go_loop [10] (fun iv => ∃ k : Nat, k ≤ m.length ∧ iv = .int .i64 k) (fun iv => m.length - (intOf iv).toNat)
        case atStart => exact ⟨0, Nat.zero_le _, rfl⟩
        case round =>
          obtain ⟨k, hk, rfl⟩ := hrel
          have hkX : k < X.size := by omega
          by_cases hlt : k < m.length
          · have t0 : ((X[k].toNat : Int) == 58) = false := tF 58 (HAT.out k hkX hlt) (by omega)
            have t1 : ((X[k].toNat : Int) != 58) = true := by rw [bne, t0]; rfl
            go_wp2_with fail
            go_round
            case rel => exact ⟨k + 1, by omega, by go_num⟩
            case measure => simp [intOf]; omega
          · obtain rfl : k = m.length := by omega
            have t0 : ((X[m.length].toNat : Int) == 58) = true := tT 58 (HAE.out hkX) (by omega)
            have t1 : ((X[m.length].toNat : Int) != 58) = false := by rw [bne, t0]; rfl
            have m1 : (m.length : Int) + 1 ≤ X.size := by omega
            have m0 : (0 : Int) ≤ (m.length : Int) + 1 := by omega
            have mn : ((m.length : Int) + 1).toNat = m.length + 1 := by omega
            go_wp2_with fail
            rw [HIE.out]
            refine (HFD.out _ (HF.out.kept HB2.out)).mono ?_
            rintro e w3 ⟨rfl, hb3⟩
            rw [HFV.out]
            have HB3 := hide (HB2.out.trans (hb3.mono HB2.out.size))
            clear hb3
            have HWB := HB3.out
            obtain ⟨a, rfl, d0, d1, d2, d3⟩ := (HF.out.kept HWB).at n _ (List.getElem?_eq_getElem hln)
            have hik : imgAt F n = imgB F[n] := imgAt_at hln
            obtain ⟨p, hp⟩ : ∃ p, F[n]'hln = p := ⟨_, rfl⟩
            rw [hp] at d0 d1 d2 d3 hik
            obtain ⟨P0, hP0⟩ : ∃ P0, str p.name = P0 := ⟨_, rfl⟩
            obtain ⟨P1, hP1⟩ : ∃ P1, str p.kind = P1 := ⟨_, rfl⟩
            obtain ⟨P2, hP2⟩ : ∃ P2, str p.id = P2 := ⟨_, rfl⟩
            obtain ⟨P3, hP3⟩ : ∃ P3, str p.bytes = P3 := ⟨_, rfl⟩
            rw [hP0] at d0
            rw [hP1] at d1
            rw [hP2] at d2
            rw [hP3] at d3
            have hz1 : P1.size ≤ maxLen := by rw [← hP1, str_size]; exact Nat.le_trans (HZF.out p (by rw [← hp]; exact List.getElem_mem hln)) (by decide)
            have HI := hide (fun w3 => image18_any p P0 P1 P2 P3 w3 hP1 hz1)
            rw [← hik] at HI
            rw [hi] at HI
            clear hik hp hP0 hP1 hP2 hP3 hz1 hi
            go_wp2_with fail
            refine (HI.out _).mono ?_
            rintro e w4 ⟨rfl, hb4⟩
            have HB4 := hide (HB3.out.trans (hb4.mono HB3.out.size))
            clear hb4 HWB d0 d1 d2 d3
            go_wp2_with fail
            refine (HNB.out _).mono ?_
            rintro e w5 ⟨rfl, hb5⟩
            have HB5 := hide (HB4.out.trans (hb5.mono HB4.out.size))
            clear hb5
            go_wp2_with fail
            go_ret2
            exact ⟨by rw [HR.out, HR2.out, HV.out, HSV.out]; rfl, HB5.out⟩
  · have HR : Hid (srcR r F X.data.toList = refNum F X.data.toList) := hide (by unfold srcR; rw [h]; rfl)
    rw [h] at HKC
    clear h
    go_enter Tryz.func26, Tryz.ntmps26
    go_wp2_with fail
    refine (HCL.out _).mono ?_
    rintro e w1 ⟨rfl, hb1⟩
    have P1 := hide ((PBox.new w r s q 26).kept hb1)
    have HB1 := hide ((alloc_below w _).trans (hb1.mono (by simp)))
    clear hb1
    go_wp2_with fail
    refine (HKC.out _).mono ?_
    rintro e w2 ⟨rfl, hb2⟩
    obtain ⟨c0, c1, c2⟩ := P1.out.kept hb2
    have HB2 := hide (HB1.out.trans (hb2.mono HB1.out.size))
    clear hb2
    go_wp2_with fail
    go_loopw [13] (fun iv wr => ∃ k : Nat, k ≤ F.length ∧ iv = .int .i64 k ∧ Hid (Below w.heap.size w wr) ∧ Hid (∀ j, j < k → hitB F X.data.toList j = false)) (fun iv _ => F.length - (intOf iv).toNat)
    case atStart => exact ⟨0, Nat.zero_le _, rfl, HB2, hide (fun j hj => absurd hj (by omega))⟩
    case round =>
      obtain ⟨k, hk, rfl, HW, HN⟩ := hrel
      have hk6 : k ≤ 100 := Nat.le_trans hk (Nat.le_trans HL.out (by decide))
      by_cases hlt : k < F.length
      · have HWB := HW.out
        obtain ⟨a, rfl, d0, d1, d2, d3⟩ := (HF.out.kept HWB).at k _ (List.getElem?_eq_getElem hlt)
        have hik : imgAt F k = imgB F[k] := imgAt_at hlt
        obtain ⟨p, hp⟩ : ∃ p, F[k]'hlt = p := ⟨_, rfl⟩
        rw [hp] at d0 d1 d2 d3 hik
        obtain ⟨P0, hP0⟩ : ∃ P0, str p.name = P0 := ⟨_, rfl⟩
        obtain ⟨P1, hP1⟩ : ∃ P1, str p.kind = P1 := ⟨_, rfl⟩
        obtain ⟨P2, hP2⟩ : ∃ P2, str p.id = P2 := ⟨_, rfl⟩
        obtain ⟨P3, hP3⟩ : ∃ P3, str p.bytes = P3 := ⟨_, rfl⟩
        rw [hP0] at d0
        rw [hP1] at d1
        rw [hP2] at d2
        rw [hP3] at d3
        have hz1 : P1.size ≤ maxLen := by rw [← hP1, str_size]; exact Nat.le_trans (HZF.out p (by rw [← hp]; exact List.getElem_mem hlt)) (by decide)
        have HI := hide (fun w3 => image18_any p P0 P1 P2 P3 w3 hP1 hz1)
        rw [← hik] at HI
        have HLT := hide hlt
        have HNB := hide (fun w3 => number18_any k (Nat.lt_of_lt_of_le HLT.out (Nat.le_trans HL.out (by decide))) w3)
        obtain ⟨S, hS⟩ : ∃ S, str (numL k) = S := ⟨_, rfl⟩
        have hSz : S.size ≤ 2 := by rw [← hS, str_size]; unfold numL; split <;> simp
        rw [hS] at HNB
        have HH : Hid (hitB F X.data.toList k = (imgAt F k && (X.toList == ((⟨#[97, 116, 116, 58]⟩ : ByteArray) ++ S).toList))) := hide (by
          unfold hitB
          congr 1
          rw [bytes_list, bytes_list, ← hS]
          rfl)
        have HNX : hitB F X.data.toList k = false → Hid (∀ j, j < k + 1 → hitB F X.data.toList j = false) := fun h => hide (by
          intro j hj
          rcases Nat.lt_succ_iff_lt_or_eq.1 hj with h1 | h1
          · exact HN.out j h1
          · rw [h1]; exact h)
        clear hik hp hP0 hP1 hP2 hP3 hz1 hS hk
        cases hi : imgAt F k with
        | false =>
          have HN2 := HNX (by rw [HH.out, hi]; rfl)
          rw [hi] at HI
          clear hi HNX HH
          go_wp2_with fail
          refine (HI.out _).mono ?_
          rintro e w3 ⟨rfl, hb3⟩
          have HB3 := hide (HW.out.trans (hb3.mono HW.out.size))
          clear hb3 HWB d0 d1 d2 d3
          go_wp2_with fail
          go_roundw
          case rel => exact ⟨k + 1, HLT.out, by go_num, HB3, HN2⟩
          case measure => simp [intOf]; have := HLT.out; omega
        | true =>
          rw [hi] at HI
          cases t1 : (X.toList == ((⟨#[97, 116, 116, 58]⟩ : ByteArray) ++ S).toList) with
          | false =>
            have HN2 := HNX (by rw [HH.out, hi, t1]; rfl)
            clear hi HNX HH
            go_wp2_with fail
            refine (HI.out _).mono ?_
            rintro e w3 ⟨rfl, hb3⟩
            have HB3 := hide (HW.out.trans (hb3.mono HW.out.size))
            clear hb3 HWB d0 d1 d2 d3
            go_wp2_with fail
            refine (HNB.out _).mono ?_
            rintro e w4 ⟨rfl, hb4⟩
            have HB4 := hide (HB3.out.trans (hb4.mono HB3.out.size))
            clear hb4
            go_wp2_with fail
            go_roundw
            case rel => exact ⟨k + 1, HLT.out, by go_num, HB4, HN2⟩
            case measure => simp [intOf]; have := HLT.out; omega
          | true =>
            have HR2 : Hid (refNum F X.data.toList = some X.data.toList) := hide (refNum_hit hlt (by rw [HH.out, hi, t1]; rfl))
            clear hi HNX HH
            go_wp2_with fail
            refine (HI.out _).mono ?_
            rintro e w3 ⟨rfl, hb3⟩
            have HB3 := hide (HW.out.trans (hb3.mono HW.out.size))
            clear hb3 HWB d0 d1 d2 d3
            go_wp2_with fail
            refine (HNB.out _).mono ?_
            rintro e w4 ⟨rfl, hb4⟩
            have HB4 := hide (HB3.out.trans (hb4.mono HB3.out.size))
            clear hb4
            go_wp2_with fail
            go_ret2
            exact ⟨by rw [HR.out, HR2.out, valV_some]; rfl, HB4.out⟩
      · have HR2 : Hid (refNum F X.data.toList = none) := hide (refNum_none (fun j hj => HN.out j (by omega)))
        go_wp2_with fail
        go_ret2
        exact ⟨by rw [HR.out, HR2.out]; rfl, HW.out⟩
end Go.Proofs.YtklbdobofclofaaGreatDoor
