/- More of the first texts of this claim in one: each with its own head. No statement is proved here. -/
import Derived.Test.YtienjpelmbldpaaGreatDoorBaseN
import Derived.Test.YtienjpelmbldpaaGreatDoorBaseM
import Derived.Test.YtienjpelmbldpaaGreatDoorShelf
import Derived.Lib.Builder
import Derived.Laws.Externs
import Derived.Deep.LoopGhost
import Derived.WalkMore
import Derived.Lib.ItoaNum
import Derived.Maps.Own
import Derived.Maps.OwnSet
import Derived.Maps.Views
import Derived.Maps.StringElems
import Derived.Lib.LaidTab
import Derived.Lib.ItoaLen
import Derived.Laws.EntriesVeiled
import Derived.Deep.RegionLaw
import Derived.Deep.RegionWith
/- WALK of word.One. No statement is proved here. -/
namespace Go.Proofs.YtienjpelmbldpaaGreatDoor
open Go.RowKit
set_option linter.unusedVariables false
set_option linter.unusedSimpArgs false
set_option maxRecDepth 100000

/-- what One answers -/
def oneV (l : List UInt8) : Value := .tuple #[.string (str (oneT l)), .int .i64 (oneN l)]
theorem oneV_none {l : List UInt8} (h : oneL l = none) : oneV l = .tuple #[.string ⟨#[]⟩, .int .i64 0] := by
  unfold oneV oneT oneN; rw [h]; rfl
theorem oneV_some {l g : List UInt8} {n : Nat} (h : oneL l = some (g, n)) : oneV l = .tuple #[.string (str g), .int .i64 n] := by
  unfold oneV oneT oneN; rw [h]; rfl
theorem one_parts {l a r1 x r2 t r3 : List UInt8} (ha : a = beforeC 63 (l.drop 2)) (hr1 : r1 = afterC 63 (l.drop 2)) (hx : x = beforeC 63 r1) (hr2 : r2 = afterC 63 r1) (ht : t = beforeC 63 r2) (hr3 : r3 = afterC 63 r2) :
    oneL l = if l.take 2 = [61, 63] ∧ r3.take 1 = [61] ∧ labelK a ≠ 0 then (bytesO x t).map fun b => (decodeL (labelK a) b, l.length - (r3.length - 1)) else none := by
  subst ha hr1 hx hr2 ht hr3; rfl
theorem afterC_le (c : UInt8) (l : List UInt8) : (afterC c l).length ≤ l.length := by
  unfold afterC; have := (List.dropWhile_sublist (l := l) fun x => x != c).length_le
  rw [List.length_drop]; omega

set_option maxHeartbeats 2000000 in
theorem one_any (s : ByteArray) (w : World) (hs : s.size ≤ 1048576) (hT : Tab w) :
    Calls Tryz.prog 130 #[.string s] w fun e w' => e = .returned (oneV s.data.toList) ∧ Below w.heap.size w w' := by
  have HT := hide hT
  have H0 := hide hT.lt
  clear hT
  have hl := toList_length s
  by_cases hp : s.data.toList.take 2 = [61, 63]
  · have hl2 : (s.data.toList.drop 2).length ≤ s.size := by rw [List.length_drop, hl]; omega
    obtain ⟨a, ha⟩ : ∃ a, a = beforeC 63 (s.data.toList.drop 2) := ⟨_, rfl⟩
    obtain ⟨r1, hr1⟩ : ∃ r1, r1 = afterC 63 (s.data.toList.drop 2) := ⟨_, rfl⟩
    obtain ⟨x, hx⟩ : ∃ x, x = beforeC 63 r1 := ⟨_, rfl⟩
    obtain ⟨r2, hr2⟩ : ∃ r2, r2 = afterC 63 r1 := ⟨_, rfl⟩
    obtain ⟨t, ht⟩ : ∃ t, t = beforeC 63 r2 := ⟨_, rfl⟩
    obtain ⟨r3, hr3⟩ : ∃ r3, r3 = afterC 63 r2 := ⟨_, rfl⟩
    have hone := one_parts ha hr1 hx hr2 ht hr3
    have z1 : r1.length ≤ s.size := by rw [hr1]; have := afterC_le 63 (s.data.toList.drop 2); omega
    have z2 : r2.length ≤ s.size := by rw [hr2]; have := afterC_le 63 r1; omega
    have z3 : r3.length ≤ s.size := by rw [hr3]; have := afterC_le 63 r2; omega
    have za : (str a).size ≤ 1048576 := by rw [str_size, ha]; have := beforeC_le 63 (s.data.toList.drop 2); omega
    have zx : (str x).size ≤ 1048576 := by rw [str_size, hx]; have := beforeC_le 63 r1; omega
    have zt : (str t).size ≤ 1048576 := by rw [str_size, ht]; have := beforeC_le 63 r2; omega
    obtain ⟨q1, hc1⟩ : ∃ q, cutV 63 (s.data.toList.drop 2) = .tuple #[.string (str a), .string (str r1), .bool q] := ⟨_, by rw [ha, hr1]; rfl⟩
    obtain ⟨q2, hc2⟩ : ∃ q, cutV 63 r1 = .tuple #[.string (str x), .string (str r2), .bool q] := ⟨_, by rw [hx, hr2]; rfl⟩
    obtain ⟨q3, hc3⟩ : ∃ q, cutV 63 r2 = .tuple #[.string (str t), .string (str r3), .bool q] := ⟨_, by rw [ht, hr3]; rfl⟩
    have C1 := hide hc1
    have C2 := hide hc2
    have C3 := hide hc3
    have Z0 := hide (show (str (s.data.toList.drop 2)).size ≤ 70368744177664 by rw [str_size]; omega)
    have Z1 := hide (show (str r1).size ≤ 70368744177664 by rw [str_size]; omega)
    have Z2 := hide (show (str r2).size ≤ 70368744177664 by rw [str_size]; omega)
    have ZA := hide za
    have ZX := hide zx
    have ZT := hide zt
    have HP := hide hp
    by_cases he : r3.take 1 = [61]
    · obtain ⟨r4, hr4⟩ : ∃ r4, r3 = 61 :: r4 := by
        cases r3 with
        | nil => cases he
        | cons c r => exact ⟨r, by have : c = 61 := by simpa using he
                                   rw [this]⟩
      have hlen : s.data.toList.length - (r3.length - 1) = s.size - r4.length := by rw [hl, hr4]; simp
      have z4 : (str r4).size ≤ s.size := by rw [str_size]; rw [hr4, List.length_cons] at z3; omega
      have hz4 : (str r4).size = r4.length := str_size r4
      have HE := hide he
      have HD4 := hide (show str (r3.drop 1) = str r4 by rw [hr4]; rfl)
      rw [hlen] at hone
      clear hl2 ha hr1 hx hr2 ht hr3 z1 z2 z3 za zx zt hc1 hc2 hc3 hr4 hlen
      by_cases hk : labelK a = 0
      · obtain ⟨y, hy⟩ := labelV_no hk
        have HY := hide hy
        have HV := hide (oneV_none (l := s.data.toList) (by rw [hone, if_neg (fun h => h.2.2 hk)]))
        obtain ⟨bb, q, hbb⟩ : ∃ bb q, bytesV (bytesO x t) = .tuple #[.string bb, .bool q] := by
          cases bytesO x t with
          | none => exact ⟨_, _, rfl⟩
          | some b => exact ⟨_, _, rfl⟩
        have HBB := hide hbb
        clear hk hy hone hbb hp he z4 hl hz4
        go_enter Tryz.func130, Tryz.ntmps130
        go_wp2_with fail
        refine (cutPrefix_yes s [61, 63] _ HP.out).mono ?_
        rintro e w1 ⟨rfl, rfl⟩
        go_wp2_with fail
        refine (strCut_any _ 63 _ Z0.out).mono ?_
        rintro e w2 ⟨rfl, hb2⟩
        rw [str_toList, C1.out]
        go_wp2_with fail
        refine (strCut_any _ 63 _ Z1.out).mono ?_
        rintro e w3 ⟨rfl, hb3⟩
        rw [str_toList, C2.out]
        go_wp2_with fail
        refine (strCut_any _ 63 _ Z2.out).mono ?_
        rintro e w4 ⟨rfl, hb4⟩
        rw [str_toList, C3.out]
        go_wp2_with fail
        refine (cutPrefix_yes (str r3) [61] _ HE.out).mono ?_
        rintro e w5 ⟨rfl, rfl⟩
        go_wp2_with fail
        refine (labelOf_any _ _ ZA.out).mono ?_
        rintro e w6 ⟨rfl, hb6⟩
        rw [str_toList, HY.out]
        go_wp2_with fail
        refine (bytesOf_any _ _ _ ZT.out).mono ?_
        rintro e w7 ⟨rfl, hb7⟩
        rw [str_toList, str_toList, HBB.out]
        go_wp2_with fail
        go_ret2
        have k3 := hb2.trans (hb3.mono hb2.size)
        have k4 := k3.trans (hb4.mono k3.size)
        have k6 := k4.trans (hb6.mono k4.size)
        exact ⟨by rw [HV.out]; rfl, k6.trans (hb7.mono k6.size)⟩
      · obtain ⟨hy, hkk⟩ := labelV_yes hk
        have HY := hide hy
        have HKK := hide hkk
        have ZL := hide (show (str (beforeC 42 a)).size ≤ 70368744177664 by rw [str_size]; have := beforeC_le 42 a; have := str_size a; have := ZA.out; omega)
        rw [if_pos ⟨hp, he, hk⟩] at hone
        cases hb : bytesO x t with
        | none =>
          have HV := hide (oneV_none (l := s.data.toList) (by rw [hone, hb]; rfl))
          have HBB : Hid (bytesV (bytesO x t) = .tuple #[.string ⟨#[]⟩, .bool false]) := hide (by rw [hb]; rfl)
          clear hk hy hkk hone hb hp he z4 hl hz4
          go_enter Tryz.func130, Tryz.ntmps130
          go_wp2_with fail
          refine (cutPrefix_yes s [61, 63] _ HP.out).mono ?_
          rintro e w1 ⟨rfl, rfl⟩
          go_wp2_with fail
          refine (strCut_any _ 63 _ Z0.out).mono ?_
          rintro e w2 ⟨rfl, hb2⟩
          rw [str_toList, C1.out]
          go_wp2_with fail
          refine (strCut_any _ 63 _ Z1.out).mono ?_
          rintro e w3 ⟨rfl, hb3⟩
          rw [str_toList, C2.out]
          go_wp2_with fail
          refine (strCut_any _ 63 _ Z2.out).mono ?_
          rintro e w4 ⟨rfl, hb4⟩
          rw [str_toList, C3.out]
          go_wp2_with fail
          refine (cutPrefix_yes (str r3) [61] _ HE.out).mono ?_
          rintro e w5 ⟨rfl, rfl⟩
          go_wp2_with fail
          refine (labelOf_any _ _ ZA.out).mono ?_
          rintro e w6 ⟨rfl, hb6⟩
          rw [str_toList, HY.out]
          go_wp2_with fail
          refine (bytesOf_any _ _ _ ZT.out).mono ?_
          rintro e w7 ⟨rfl, hb7⟩
          rw [str_toList, str_toList, HBB.out]
          go_wp2_with fail
          go_ret2
          have k3 := hb2.trans (hb3.mono hb2.size)
          have k4 := k3.trans (hb4.mono k3.size)
          have k6 := k4.trans (hb6.mono k4.size)
          exact ⟨by rw [HV.out]; rfl, k6.trans (hb7.mono k6.size)⟩
        | some b =>
          have zb := bytesO_length hb
          have ZB := hide (show (str b).size ≤ 1048576 by rw [str_size]; have := str_size t; have := ZT.out; omega)
          have HV := hide (oneV_some (l := s.data.toList) (by rw [hone, hb]; rfl))
          have HBB : Hid (bytesV (bytesO x t) = .tuple #[.string (str b), .bool true]) := hide (by rw [hb]; rfl)
          obtain ⟨q, hq⟩ : ∃ q, decV (labelK a) b = .tuple #[.string (str (decodeL (labelK a) b)), .bool q] := ⟨_, rfl⟩
          have HQ := hide hq
          obtain ⟨R4, hR4⟩ : ∃ R4, R4 = str r4 := ⟨_, rfl⟩
          rw [← hR4] at hz4 z4 HD4
          have HZ4 := hide hz4
          clear hk hy hkk hone hb hp he hl zb hq hR4 hz4
          go_enter Tryz.func130, Tryz.ntmps130
          go_wp2_with fail
          refine (cutPrefix_yes s [61, 63] _ HP.out).mono ?_
          rintro e w1 ⟨rfl, rfl⟩
          go_wp2_with fail
          refine (strCut_any _ 63 _ Z0.out).mono ?_
          rintro e w2 ⟨rfl, hb2⟩
          rw [str_toList, C1.out]
          go_wp2_with fail
          refine (strCut_any _ 63 _ Z1.out).mono ?_
          rintro e w3 ⟨rfl, hb3⟩
          rw [str_toList, C2.out]
          go_wp2_with fail
          refine (strCut_any _ 63 _ Z2.out).mono ?_
          rintro e w4 ⟨rfl, hb4⟩
          rw [str_toList, C3.out]
          go_wp2_with fail
          refine (cutPrefix_yes (str r3) [61] _ HE.out).mono ?_
          rintro e w5 ⟨rfl, rfl⟩
          rw [show str (List.drop ([61] : List UInt8).length (str r3).data.toList) = R4 from HD4.out]
          go_wp2_with fail
          refine (labelOf_any _ _ ZA.out).mono ?_
          rintro e w6 ⟨rfl, hb6⟩
          rw [str_toList, HY.out]
          go_wp2_with fail
          refine (bytesOf_any _ _ _ ZT.out).mono ?_
          rintro e w7 ⟨rfl, hb7⟩
          rw [str_toList, str_toList, HBB.out]
          have k3 := hb2.trans (hb3.mono hb2.size)
          have k4 := k3.trans (hb4.mono k3.size)
          have k6 := k4.trans (hb6.mono k4.size)
          have k7 := k6.trans (hb7.mono k6.size)
          have HK7 := hide k7
          clear k3 k4 k6 k7 hb2 hb3 hb4 hb6 hb7
          go_wp2_with fail
          refine (charsDecode_any _ _ _ ZL.out ZB.out (HT.out.below HK7.out H0.out)).mono ?_
          rintro e w8 ⟨rfl, hb8⟩
          rw [str_toList, str_toList, HKK.out, HQ.out]
          go_wp2_with fail
          go_ret2
          refine ⟨?_, HK7.out.trans (hb8.mono HK7.out.size)⟩
          rw [HV.out]
          refine congrArg (fun z => Ending.returned (.tuple #[.string _, .int .i64 z])) ?_
          have := HZ4.out
          omega
    · have HV := hide (oneV_none (l := s.data.toList) (by rw [hone, if_neg (fun h => he h.2.1)]))
      have HE := hide he
      clear hl2 ha hr1 hx hr2 ht hr3 z1 z2 z3 za zx zt hc1 hc2 hc3 hone hp he hl
      go_enter Tryz.func130, Tryz.ntmps130
      go_wp2_with fail
      refine (cutPrefix_yes s [61, 63] _ HP.out).mono ?_
      rintro e w1 ⟨rfl, rfl⟩
      go_wp2_with fail
      refine (strCut_any _ 63 _ Z0.out).mono ?_
      rintro e w2 ⟨rfl, hb2⟩
      rw [str_toList, C1.out]
      go_wp2_with fail
      refine (strCut_any _ 63 _ Z1.out).mono ?_
      rintro e w3 ⟨rfl, hb3⟩
      rw [str_toList, C2.out]
      go_wp2_with fail
      refine (strCut_any _ 63 _ Z2.out).mono ?_
      rintro e w4 ⟨rfl, hb4⟩
      rw [str_toList, C3.out]
      go_wp2_with fail
      refine (cutPrefix_no (str r3) [61] _ HE.out).mono ?_
      rintro e w5 ⟨rfl, rfl⟩
      go_wp2_with fail
      go_ret2
      have k3 := hb2.trans (hb3.mono hb2.size)
      exact ⟨by rw [HV.out]; rfl, k3.trans (hb4.mono k3.size)⟩
  · have HV := hide (oneV_none (l := s.data.toList) (by unfold oneL; rw [if_neg (fun h => hp h.1)]))
    have HP := hide hp
    clear hp hl
    go_enter Tryz.func130, Tryz.ntmps130
    go_wp2_with fail
    refine (cutPrefix_no s [61, 63] _ HP.out).mono ?_
    rintro e w1 ⟨rfl, rfl⟩
    go_wp2_with fail
    go_ret2
    exact ⟨by rw [HV.out]; rfl, Below.refl _ _⟩
end Go.Proofs.YtienjpelmbldpaaGreatDoor

/- WALKS of strings.Builder's copyCheck and WriteString at this dump, and small words for a builder of bytes. No statement is proved here. -/
namespace Go.Proofs.YtienjpelmbldpaaGreatDoor
open Go.RowKit
set_option linter.unusedVariables false
set_option linter.unusedSimpArgs false

theorem bldSize : (Tryz.prog.info? 52).map (·.size) = some 2 := by kernel_rfl
theorem bldLies : liesAt Tryz.prog Tryz.prog.depth 52 (2 / Tryz.prog.cellsOf 52) 0 52 1 = true := by kernel_rfl

/-- the builder in block b has gathered the bytes l; below B all is as in W0 -/
def Bld (B b : Nat) (l : List UInt8) (W0 w : World) : Prop := Lib.IsBuilder 52 5 B b (cellsOf l) w ∧ Below B W0 w ∧ B ≤ w.heap.size

set_option maxRecDepth 100000 in
set_option maxHeartbeats 1000000 in
theorem copyCheck_used (b : Nat) (w : World) (h0 : w.cell? ⟨b, 0, none⟩ = some (.pointer (some ⟨b, 0, none⟩))) :
    Calls Tryz.prog 52 #[.pointer (some ⟨b, 0, none⟩)] w fun e w' => e = .returned (.tuple #[]) ∧ w = w' := by
  obtain ⟨j, hj, _⟩ := Option.map_eq_some_iff.1 bldSize
  have hne := fun w : World => Lib.run_neq_ptr_same (P := Tryz.prog) w ⟨b, 0, none⟩ Tryz.underlying49 hj
  go_enter Tryz.func52, Tryz.ntmps52
  go_wp2
  go_end0
  exact ⟨rfl, rfl⟩

set_option maxRecDepth 100000 in
set_option maxHeartbeats 1000000 in
theorem copyCheck_fresh (b : Nat) (w : World) (h0 : w.cell? ⟨b, 0, none⟩ = some (.pointer none)) (hsh : w.shape? b = some (52, 2)) (hfz : w.frozen? ⟨b, 0, none⟩ = false) :
    Calls Tryz.prog 52 #[.pointer (some ⟨b, 0, none⟩)] w fun e w' => e = .returned (.tuple #[]) ∧ w.setCell ⟨b, 0, none⟩ (.pointer (some ⟨b, 0, none⟩)) = w' := by
  obtain ⟨j, hj, hjs⟩ := Option.map_eq_some_iff.1 bldSize
  have c1 := Lib.run_to_unsafe (P := Tryz.prog) w ⟨b, 0, none⟩ Tryz.underlying49 Tryz.underlying87 hj (by rw [hjs]; decide) hsh (Nat.zero_lt_succ 1)
  have c2 := Lib.run_from_unsafe (P := Tryz.prog) w ⟨b, 0, none⟩ Tryz.underlying87 Tryz.underlying49 hj hsh bldLies
  have ce := fun w : World => run_callFunc_extern (P := Tryz.prog) (w := w) (args := #[Value.pointer (some ⟨b, 0, none⟩)]) Tryz.func81 (by kernel_rfl) (by kernel_rfl) (by kernel_rfl) (e := Extern.AbiNoEscape.same) (by kernel_rfl)
  have cn := fun w : World => Lib.run_noEscape (P := Tryz.prog) (w := w) (Value.pointer (some ⟨b, 0, none⟩))
  go_enter Tryz.func52, Tryz.ntmps52
  go_wp2
  go_end0
  exact ⟨rfl, rfl⟩

theorem copyCheck_any (B b : Nat) (bs : List Value) (w : World) (h : Lib.IsBuilder 52 5 B b bs w) :
    Calls Tryz.prog 52 #[.pointer (some ⟨b, 0, none⟩)] w fun e w' => e = .returned (.tuple #[]) ∧ (Lib.BuilderAt 52 5 B b (.pointer (some ⟨b, 0, none⟩)) bs w' ∧ Below B w w') := by
  rcases h with h | h
  · refine (copyCheck_fresh b w h.cell0 h.shape h.frozen0).mono ?_
    rintro e w' ⟨rfl, rfl⟩
    exact ⟨rfl, h.used _, (Below.refl B w).setCell (p := ⟨b, 0, none⟩) h.1 _⟩
  · refine (copyCheck_used b w h.cell0).mono ?_
    rintro e w' ⟨rfl, rfl⟩
    exact ⟨rfl, h, Below.refl B _⟩

set_option maxRecDepth 100000 in
set_option maxHeartbeats 1000000 in
theorem writeString_any (B b : Nat) (l : List UInt8) (s : ByteArray) (W0 w : World) (h : Bld B b l W0 w) (hlen : l.length + s.size ≤ 140737488355328) :
    Calls Tryz.prog 31 #[.pointer (some ⟨b, 0, none⟩), .string s] w fun e w' => e = .returned (.tuple #[.int .i64 s.size, .nilIface]) ∧ Bld B b (l ++ s.data.toList) W0 w' := by
  obtain ⟨h, hbel, hBw⟩ := h
  obtain ⟨i0, hi, hz0, hz1, hz2⟩ := info_parts info_u8
  have HBL := hide hbel
  clear hbel
  go_enter Tryz.func31, Tryz.ntmps31
  go_wp2_with fail
  refine (copyCheck_any B b (cellsOf l) _ h).mono ?_
  rintro e w1 ⟨rfl, h1, hb1⟩
  obtain ⟨hB, v, hbk, hown, hne⟩ := h1
  have c1 : w1.cell? ⟨b, 1, none⟩ = some v := by rw [Lib.cell_of_heap hbk]; rfl
  have hlt : b < w1.heap.size := lt_of_block hbk
  have hl1 : (cellsOf l).length = l.length := cellsOf_length l
  have HBK := hide hbk
  have HOWN := hide hown
  have HNE := hide hne
  have HB1 := hide hb1
  have hsz1 := hb1.size
  have HI := hide hi
  have HZ0 := hide hz0
  have HZ1 := hide hz1
  have HZ2 := hide hz2
  have HL1 := hide hl1
  clear hbk hown hne hb1 hi hz0 hz1 hz2 h
  go_wp2_with (refine Lib.wpList_append_own_string _ rfl _ _ 50 9 rfl B 5 i0 Tryz.underlying50 Tryz.underlying9 HI.out HZ0.out HZ1.out HZ2.out v (cellsOf l).length (cellsOf l) rfl HOWN.out s rfl (by rw [HL1.out]; unfold maxLen; omega) (by rw [HL1.out]; omega) (by omega) ?_
               intro v' w2 hown' hgrow _
               obtain ⟨ao, n', cap, rfl⟩ : ∃ ao n' cap, v' = .slice ao n' cap := by
                 rcases hown'.2 with ⟨hv, _⟩ | ⟨g, cap, cur, hv, _⟩
                 · exact ⟨_, _, _, hv⟩
                 · exact ⟨_, _, _, hv⟩
               have hb2 : w2.heap[b]? = some (.cells #[.pointer (some ⟨b, 0, none⟩), v] 52 (0, 0)) := by
                 rw [hgrow.block b hlt (fun e => HNE.out e.symm)]
                 exact HBK.out
               have d1 : w2.cell? ⟨b, 1, none⟩ = some v := by rw [Lib.cell_of_heap hb2]; rfl
               have f1 : w2.frozen? ⟨b, 1, none⟩ = false := Lib.frozen_of_heap hb2 1
               have HO2 := hide hown'
               have HG2 := hide hgrow
               have HB2 := hide hb2
               clear hown' hgrow hb2)
  go_ret2
  have hb3 : Below B w w2 := HB1.out.grown HG2.out (by omega) (fun k hk => (HOWN.out.lt k hk).1)
  refine ⟨rfl, .inr ?_, (HBL.out.trans hb3).setCell (p := ⟨b, 1, none⟩) hB _, ?_⟩
  · refine Lib.BuilderAt.put (T := 52) (e := 5) hB HB2.out (bs' := cellsOf (l ++ s.data.toList)) ?_ (by decide)
    have ho := HO2.out
    have e1 : cellsOf (l ++ s.data.toList) = cellsOf l ++ Lib.strCells s := by rw [cellsOf_str, cellsOf, List.map_append]; rfl
    rw [e1, List.length_append, Lib.strCells_length]
    exact ho
  · have := hb3.size
    simp [World.setCell]
    omega

theorem Bld.string {B b : Nat} {l : List UInt8} {W0 w : World} (h : Bld B b l W0 w) :
    Calls Tryz.prog 35 #[.pointer (some ⟨b, 0, none⟩)] w fun e w' => e = .returned (.string (str l)) ∧ Below B W0 w' :=
  (Tryz.Builder_String_any B b l w h.1 h.2.2).mono fun _ _ ⟨he, hb⟩ => ⟨he, h.2.1.trans hb⟩
theorem Bld.kept {B b : Nat} {l : List UInt8} {W0 w w' : World} (h : Bld B b l W0 w) (hb : Below w.heap.size w w') : Bld B b l W0 w' := by
  obtain ⟨h1, h2, h3⟩ := h
  refine ⟨?_, h2.trans (hb.mono h3), Nat.le_trans h3 hb.size⟩
  have key : ∀ p, Lib.BuilderAt 52 5 B b p (cellsOf l) w → Lib.BuilderAt 52 5 B b p (cellsOf l) w' := by
    intro p h
    have hlt := h.lt
    obtain ⟨hB, v, hbk, hown, hne⟩ := h
    exact ⟨hB, v, (hb.block b hlt).trans hbk, hown.kept (row := none) ⟨hb.os, hb.tape, hb.output, hb.size, fun k hk _ => hb.block k hk⟩ (by cases hv : v.ownBlock <;> simp), hne⟩
  rcases h1 with h | h
  · exact .inl (key _ h)
  · exact .inr (key _ h)
/-- 'var b strings.Builder' -/
theorem Bld.new {B : Nat} {W0 w : World} (hb : Below B W0 w) (hB : B ≤ w.heap.size) : Bld B w.heap.size [] W0 (w.alloc (.cells #[.pointer none, .slice none 0 0] 52)) :=
  ⟨.inl ⟨hB, .slice none 0 0, heap_alloc_new w _, World.ownsRow_nil _ B _ 1, by simp [Value.ownBlock]⟩, hb.alloc hB _, by simp; omega⟩
end Go.Proofs.YtienjpelmbldpaaGreatDoor

/- WALKS of word.allWhite, Decode. No statement is proved here. -/
namespace Go.Proofs.YtienjpelmbldpaaGreatDoor
open Go.RowKit
set_option linter.unusedVariables false
set_option linter.unusedSimpArgs false
set_option maxRecDepth 100000

theorem trimWs_nil (l : List UInt8) : (Lib.trimS l [32, 9, 10, 13] == []) = allWs l := by
  have hc : ∀ c : UInt8, [32, 9, 10, 13].contains c = wsB c := u8_all (p := fun c => [32, 9, 10, 13].contains c = wsB c) (by decide +kernel)
  have hd : ∀ l : List UInt8, (l.dropWhile ([32, 9, 10, 13].contains ·) = [] ↔ allWs l = true) := fun l => by
    induction l with
    | nil => exact ⟨fun _ => rfl, fun _ => rfl⟩
    | cons a r ih =>
      unfold allWs at ih ⊢
      rw [List.dropWhile_cons, List.all_cons]
      by_cases ha : [32, 9, 10, 13].contains a = true
      · rw [if_pos ha, ← hc, ha, Bool.true_and]; exact ih
      · rw [if_neg ha, ← hc]
        exact ⟨fun h => absurd h (by simp), fun h => absurd (Bool.and_eq_true_iff.1 h).1 ha⟩
  unfold Lib.trimS Lib.trimLeftS Lib.trimRightS
  rw [Bool.eq_iff_iff, beq_iff_eq, hd]
  constructor
  · intro h
    by_cases ha : allWs l = true
    · exact ha
    · exfalso
      have hne : l.reverse.dropWhile ([32, 9, 10, 13].contains ·) ≠ [] := fun e => ha (by
        have := (hd l.reverse).1 e
        unfold allWs at this ⊢
        rwa [List.all_reverse] at this)
      obtain ⟨x, r, hxr⟩ : ∃ x r, l.reverse.dropWhile ([32, 9, 10, 13].contains ·) = x :: r := by
        cases hq : l.reverse.dropWhile ([32, 9, 10, 13].contains ·) with
        | nil => exact absurd hq hne
        | cons x r => exact ⟨x, r, rfl⟩
      have hx : [32, 9, 10, 13].contains x = false := by
        have := List.head?_dropWhile_not (fun c => [32, 9, 10, 13].contains c) l.reverse
        rw [hxr] at this
        simpa using this
      rw [hxr] at h
      unfold allWs at h
      rw [List.all_eq_true] at h
      have := h x (by simp)
      rw [← hc, hx] at this
      cases this
  · intro h
    have : l.reverse.dropWhile ([32, 9, 10, 13].contains ·) = [] := (hd l.reverse).2 (by unfold allWs at h ⊢; rwa [List.all_reverse])
    rw [this]; rfl
theorem allWhite_any (s : ByteArray) (w : World) (hs : s.size ≤ maxLen) :
    Calls Tryz.prog 131 #[.string s] w fun e w' => e = .returned (.bool (allWs s.data.toList)) ∧ Below w.heap.size w w' := by
  have HT := hide (trimWs_nil s.data.toList)
  obtain ⟨X, hX⟩ : ∃ X, X = str (Lib.trimS s.data.toList [32, 9, 10, 13]) := ⟨_, rfl⟩
  have HX : Hid ((X.toList == []) = allWs s.data.toList) := hide (by rw [hX, str_list]; exact HT.out)
  have key : ∀ w : World, Calls Tryz.prog 45 #[.string s, .string ⟨#[32, 9, 10, 13]⟩] w fun e w' => e = .returned (.string X) ∧ Below w.heap.size w w' := fun w => by
    rw [hX]
    exact Any.strings_Trim_laid Tryz.lays160 (by kernel_rfl) s ⟨#[32, 9, 10, 13]⟩ w (by unfold maxLen at hs; omega) (by decide) (ascii_of_all (by decide))
  have HK := hide key
  clear hX key
  cases hb : allWs s.data.toList with
  | true =>
    have t0 : X.toList = [] := by have := HX.out; rw [hb] at this; exact beq_iff_eq.1 this
    have t1 : X.toList.isEmpty = true := by rw [t0]; rfl
    go_enter Tryz.func131, Tryz.ntmps131
    go_wp2_with fail
    refine (HK.out _).mono ?_
    rintro e w1 ⟨rfl, hb1⟩
    go_wp2_with fail
    go_ret
    exact ⟨rfl, hb1⟩
  | false =>
    have t0 : X.toList ≠ [] := by
      intro e
      have h2 := HX.out
      rw [hb, e] at h2; cases h2
    have t1 : X.toList.isEmpty = false := by
      cases h : X.toList with
      | nil => exact absurd h t0
      | cons _ _ => rfl
    have t2 := beq_eq_false_iff_ne.2 t0
    clear t0
    go_enter Tryz.func131, Tryz.ntmps131
    go_wp2_with fail
    refine (HK.out _).mono ?_
    rintro e w1 ⟨rfl, hb1⟩
    go_wp2_with fail
    go_ret
    exact ⟨rfl, hb1⟩

set_option maxHeartbeats 4000000 in
theorem wordDecode_any (s : ByteArray) (w : World) (hs : s.size ≤ 1048576) (hT : Tab w) :
    Calls Tryz.prog 98 #[.string s] w fun e w' => e = .returned (.string (str (decW false [] s.data.toList))) ∧ Below w.heap.size w w' := by
  have HT := hide hT
  have H0 := hide hT.lt
  clear hT
  have hB0 := Bld.new (Below.refl w.heap.size w) (Nat.le_refl _)
  have HB0 := hide hB0
  clear hB0
  go_enter Tryz.func98, Tryz.ntmps98
  go_wp2_with fail
  go_step3
  go_wp2_with fail
  go_step3
  go_wp2_with fail
  go_loopg [0, 4] s.size (fun g x b wx => ∃ (t : ByteArray) (bh : Bool) (acc : List UInt8), x = .string t ∧ b = .bool bh ∧ t.size ≤ g ∧ t.size ≤ s.size ∧ Bld w.heap.size w.heap.size acc w wx ∧ acc.length + 3 * t.size ≤ 3 * s.size ∧ Hid (acc ++ decW bh [] t.data.toList = decW false [] s.data.toList))
  case atStart => exact ⟨s, false, [], rfl, rfl, Nat.le_refl _, Nat.le_refl _, HB0.out, by simp, hide rfl⟩
  case round =>
    obtain ⟨t, bh, acc, rfl, rfl, htg, hts, hbl, hacc, HD⟩ := hrel
    have HBL := hide hbl
    clear hbl
    by_cases hz : t.size = 0
    · have hnil : t.data.toList = [] := List.eq_nil_of_length_eq_zero (by rw [toList_length]; exact hz)
      have t0 : t.toList = [] := by rw [bytes_list]; exact hnil
      have t1 : t.toList.isEmpty = true := by rw [t0]; rfl
      have HE : Hid (acc = decW false [] s.data.toList) := hide (by rw [← HD.out, hnil, decW_nil, validL_nil, List.append_nil])
      clear hnil HD hz
      go_wp2_with fail
      refine (HBL.out.string).mono ?_
      rintro e w1 ⟨rfl, hb1⟩
      rw [HE.out]
      go_wp2_with fail
      try rw [Exit.noGoto_ret]
      go_ret
      exact ⟨rfl, hb1⟩
    · cases gk with
      | zero => exact absurd (by omega : t.size = 0) hz
      | succ g =>
      have hpos : 0 < t.size := by omega
      have hne : t.data.toList ≠ [] := fun e => by have := toList_length t; rw [e] at this; simp at this; omega
      have t1 : t.toList.isEmpty = false := by
        rw [bytes_list]
        cases h : t.data.toList with
        | nil => exact absurd h hne
        | cons _ _ => rfl
      clear hz
      go_wp2_with fail
      go_loopg [0, 4, 13] t.size (fun gi x b i wx => ∃ k : Nat, x = .string t ∧ b = .bool bh ∧ k + gi = t.size ∧ i = .int .i64 k ∧ Bld w.heap.size w.heap.size acc w wx ∧ Hid (decW bh (t.data.toList.take k) (t.data.toList.drop k) = decW bh [] t.data.toList))
      case atStart => exact ⟨0, rfl, rfl, by omega, rfl, HBL.out, hide (by rw [List.take_zero, List.drop_zero])⟩
      case round =>
        obtain ⟨k, rfl, rfl, hkg, rfl, hbl2, HDI⟩ := hrel
        have HB2 := hide hbl2
        clear hbl2
        cases gk with
        | zero =>
          obtain rfl : k = t.size := by omega
          have HE : Hid (acc ++ validL t.data.toList = decW false [] s.data.toList) := hide (by
            have := HDI.out
            rw [drop_nil t t.size (Nat.le_refl _), decW_nil, List.take_of_length_le (by rw [toList_length]; exact Nat.le_refl _)] at this
            rw [← HD.out, ← this])
          have zv := validL_length t.data.toList
          rw [toList_length] at zv
          obtain ⟨V, hV⟩ : ∃ V, V = str (validL t.data.toList) := ⟨_, rfl⟩
          have zV : V.size ≤ 3 * t.size := by rw [hV, str_size]; exact zv
          have ZT := hide (show t.size ≤ 1048576 by omega)
          have ZW := hide (show acc.length + V.size ≤ 140737488355328 by omega)
          have HVL : Hid (V.data.toList = validL t.data.toList) := hide (by rw [hV, str_toList])
          have HV := hide hV
          clear hV zv HD HDI hne hkg htg hts hacc hpos zV
          go_wp2_with fail
          refine (valid_any t _ ZT.out).mono ?_
          rintro e w1 ⟨rfl, hb1⟩
          rw [← HV.out]
          have HB3 := hide (HB2.out.kept hb1)
          clear hb1
          go_wp2_with fail
          refine (writeString_any w.heap.size w.heap.size acc V w _ HB3.out ZW.out).mono ?_
          rintro e w2 ⟨rfl, hb2⟩
          have HB4 := hide hb2
          clear hb2
          go_wp2_with fail
          refine (HB4.out.string).mono ?_
          rintro e w3 ⟨rfl, hb3⟩
          rw [show acc ++ V.data.toList = decW false [] s.data.toList by rw [HVL.out]; exact HE.out]
          go_wp2_with fail
          try rw [Exit.noGoto_ret]
          go_ret
          exact ⟨rfl, hb3⟩
        | succ gi =>
          have hlt : k < t.size := by omega
          have hX := extract_end t k
          have zX : (t.extract k t.size).size ≤ 1048576 := by rw [ByteArray.size_extract]; omega
          have HX := hide hX
          have ZX := hide zX
          clear hX zX
          have hdl : (t.data.toList.drop k).length = t.size - k := by rw [List.length_drop, toList_length]
          have hdne : t.data.toList.drop k ≠ [] := by rw [drop_cons t k hlt]; simp
          by_cases hn : oneN (t.data.toList.drop k) = 0
          · have HV : Hid (oneV (t.data.toList.drop k) = .tuple #[.string ⟨#[]⟩, .int .i64 0]) := hide (oneV_none (one_zero hn).1)
            have HDN : Hid (decW bh (t.data.toList.take (k + 1)) (t.data.toList.drop (k + 1)) = decW bh [] t.data.toList) := hide (by
              rw [← HDI.out, decW_go hdne hn, List.drop_drop, take_snoc t k hlt]
              congr 2
              rw [drop_cons t k hlt]; rfl)
            have k0 : (0 : Int) ≤ k := by omega
            have k1 : (k : Int) ≤ t.size := by omega
            clear hdl hdne hn HDI hne
            go_wp2_with fail
            refine (one_any _ _ ZX.out (HT.out.below HB2.out.2.1 H0.out)).mono ?_
            rintro e w1 ⟨rfl, hb1⟩
            rw [HX.out, HV.out]
            have HB3 := hide (HB2.out.kept hb1)
            clear hb1
            go_wp2_with fail
            go_roundg gi
            case rel => exact ⟨k + 1, rfl, rfl, by omega, by go_num, HB3.out, HDN⟩
            case measure => omega
          · obtain ⟨ho, hnle, _⟩ := one_pos hn
            rw [hdl] at hnle
            have htl := oneT_length (t.data.toList.drop k)
            have hdw := decW_word (b := bh) (p := t.data.toList.take k) hn
            obtain ⟨n, hnn⟩ : ∃ n, n = oneN (t.data.toList.drop k) := ⟨_, rfl⟩
            obtain ⟨T, hT⟩ : ∃ T, T = str (oneT (t.data.toList.drop k)) := ⟨_, rfl⟩
            have HV : Hid (oneV (t.data.toList.drop k) = .tuple #[.string T, .int .i64 n]) := hide (by rw [hT, hnn]; rfl)
            have hTl : T.data.toList = oneT (t.data.toList.drop k) := by rw [hT, str_toList]
            have hTs : T.size ≤ 3 * n := by rw [hT, str_size, hnn]; exact htl
            have hn0 : n ≠ 0 := by rw [hnn]; exact hn
            have hnle' : n ≤ t.size - k := by rw [hnn]; exact hnle
            have HP := hide (show (t.extract 0 k).data.toList = t.data.toList.take k by rw [extract_list, List.drop_zero])
            have hps : (t.extract 0 k).size = k := by rw [ByteArray.size_extract]; omega
            have zv := validL_length (t.data.toList.take k)
            rw [List.length_take, toList_length] at zv
            obtain ⟨V, hV⟩ : ∃ V, V = str (validL (t.data.toList.take k)) := ⟨_, rfl⟩
            have hVs : V.size ≤ 3 * k := by rw [hV, str_size]; omega
            have hVl : V.data.toList = validL (t.data.toList.take k) := by rw [hV, str_toList]
            have HVV := hide hV
            have hfin : acc ++ ((if bh && allWs (t.data.toList.take k) then [] else V.data.toList) ++ (T.data.toList ++ decW true [] (t.extract (k + n) t.size).data.toList)) = decW false [] s.data.toList := by
              rw [extract_end, hTl, hVl, ← List.drop_drop, hnn, ← hdw, HDI.out, HD.out]
            have ZG := hide (show (t.extract (k + n) t.size).size ≤ g by rw [ByteArray.size_extract]; omega)
            have ZS := hide (show (t.extract (k + n) t.size).size ≤ s.size by rw [ByteArray.size_extract]; omega)
            have ZP := hide (show (t.extract 0 k).size ≤ 1048576 by omega)
            have ZPM := hide (show (t.extract 0 k).size ≤ maxLen by unfold maxLen; omega)
            have ZW1 := hide (show acc.length + V.size ≤ 140737488355328 by omega)
            have ZW2 := hide (show acc.length + T.size ≤ 140737488355328 by omega)
            have ZW3 := hide (show (acc ++ V.data.toList).length + T.size ≤ 140737488355328 by rw [List.length_append, toList_length]; omega)
            have ZA1 := hide (show (acc ++ T.data.toList).length + 3 * (t.extract (k + n) t.size).size ≤ 3 * s.size by rw [List.length_append, toList_length, ByteArray.size_extract]; omega)
            have ZA2 := hide (show (acc ++ V.data.toList ++ T.data.toList).length + 3 * (t.extract (k + n) t.size).size ≤ 3 * s.size by rw [List.length_append, List.length_append, toList_length, toList_length, ByteArray.size_extract]; omega)
            have k0 : (0 : Int) ≤ k := by omega
            have k1 : (k : Int) ≤ t.size := by omega
            have k2 : (k : Int) + n ≤ t.size := by omega
            have t2 : ((n : Int) == 0) = false := by rw [beq_eq_false_iff_ne]; omega
            have k3 : (0 : Int) ≤ n := by omega
            have hts' : t.size ≤ 1048576 := by omega
            clear hT hnn hV htl hdw hTl hVl hdl hdne hne hn ho hnle HDI HD zv hTs hVs hps hkg hnle' hn0 htg hacc
            cases bh with
            | false =>
              have HFIN : Hid ((acc ++ V.data.toList ++ T.data.toList) ++ decW true [] (t.extract (k + n) t.size).data.toList = decW false [] s.data.toList) := hide (by rw [← hfin]; simp)
              clear hfin
              go_wp2_with fail
              refine (one_any _ _ ZX.out (HT.out.below HB2.out.2.1 H0.out)).mono ?_
              rintro e w1 ⟨rfl, hb1⟩
              rw [HX.out, HV.out]
              have HB3 := hide (HB2.out.kept hb1)
              clear hb1
              go_wp2_with fail
              have HB4 := hide HB3.out
              refine (valid_any _ _ ZP.out).mono ?_
              rintro e w3 ⟨rfl, hb3⟩
              rw [HP.out, ← HVV.out]
              have HB5 := hide (HB4.out.kept hb3)
              clear hb3
              go_wp2_with fail
              refine (writeString_any w.heap.size w.heap.size acc V w _ HB5.out ZW1.out).mono ?_
              rintro e w4 ⟨rfl, hb4⟩
              have HB6 := hide hb4
              clear hb4
              go_wp2_with fail
              refine (writeString_any w.heap.size w.heap.size _ T w _ HB6.out ZW3.out).mono ?_
              rintro e w5 ⟨rfl, hb5⟩
              have HB7 := hide hb5
              clear hb5
              go_wp2_with fail
              go_roundg g
              case rel => exact ⟨t.extract (k + n) t.size, true, _, rfl, rfl, ZG.out, ZS.out, HB7.out, ZA2.out, HFIN⟩
              case measure => omega
            | true =>
              cases hw : allWs (t.data.toList.take k) with
              | false =>
                have HFIN : Hid ((acc ++ V.data.toList ++ T.data.toList) ++ decW true [] (t.extract (k + n) t.size).data.toList = decW false [] s.data.toList) := hide (by rw [← hfin, hw]; simp)
                have HW := hide hw
                clear hfin hw
                go_wp2_with fail
                refine (one_any _ _ ZX.out (HT.out.below HB2.out.2.1 H0.out)).mono ?_
                rintro e w1 ⟨rfl, hb1⟩
                rw [HX.out, HV.out]
                have HB3 := hide (HB2.out.kept hb1)
                clear hb1
                go_wp2_with fail
                refine (allWhite_any _ _ ZPM.out).mono ?_
                rintro e w2 ⟨rfl, hb2⟩
                rw [HP.out, HW.out]
                have HB4 := hide (HB3.out.kept hb2)
                clear hb2
                go_wp2_with fail
                refine (valid_any _ _ ZP.out).mono ?_
                rintro e w3 ⟨rfl, hb3⟩
                rw [HP.out, ← HVV.out]
                have HB5 := hide (HB4.out.kept hb3)
                clear hb3
                go_wp2_with fail
                refine (writeString_any w.heap.size w.heap.size acc V w _ HB5.out ZW1.out).mono ?_
                rintro e w4 ⟨rfl, hb4⟩
                have HB6 := hide hb4
                clear hb4
                go_wp2_with fail
                refine (writeString_any w.heap.size w.heap.size _ T w _ HB6.out ZW3.out).mono ?_
                rintro e w5 ⟨rfl, hb5⟩
                have HB7 := hide hb5
                clear hb5
                go_wp2_with fail
                go_roundg g
                case rel => exact ⟨t.extract (k + n) t.size, true, _, rfl, rfl, ZG.out, ZS.out, HB7.out, ZA2.out, HFIN⟩
                case measure => omega
              | true =>
                have HFIN : Hid ((acc ++ T.data.toList) ++ decW true [] (t.extract (k + n) t.size).data.toList = decW false [] s.data.toList) := hide (by rw [← hfin, hw]; simp)
                have HW := hide hw
                clear hfin hw
                go_wp2_with fail
                refine (one_any _ _ ZX.out (HT.out.below HB2.out.2.1 H0.out)).mono ?_
                rintro e w1 ⟨rfl, hb1⟩
                rw [HX.out, HV.out]
                have HB3 := hide (HB2.out.kept hb1)
                clear hb1
                go_wp2_with fail
                refine (allWhite_any _ _ ZPM.out).mono ?_
                rintro e w2 ⟨rfl, hb2⟩
                rw [HP.out, HW.out]
                have HB4 := hide (HB3.out.kept hb2)
                clear hb2
                go_wp2_with fail
                have HB6 := hide HB4.out
                refine (writeString_any w.heap.size w.heap.size acc T w _ HB6.out ZW2.out).mono ?_
                rintro e w5 ⟨rfl, hb5⟩
                have HB7 := hide hb5
                clear hb5
                go_wp2_with fail
                go_roundg g
                case rel => exact ⟨t.extract (k + n) t.size, true, _, rfl, rfl, ZG.out, ZS.out, HB7.out, ZA1.out, HFIN⟩
                case measure => omega
end Go.Proofs.YtienjpelmbldpaaGreatDoor

/- WALKS of word.fitting, Encode. No statement is proved here. -/
namespace Go.Proofs.YtienjpelmbldpaaGreatDoor
open Go.RowKit
set_option linter.unusedVariables false
set_option linter.unusedSimpArgs false
set_option maxRecDepth 100000

theorem runeStart_cont (c : UInt8) : Lib.runeStart (c.toNat : Int) = !contB c := u8_all (p := fun c => Lib.runeStart (c.toNat : Int) = !contB c) (by decide +kernel) c
theorem getD_at (s : ByteArray) (k : Nat) (h : k < s.size) : s.data.toList.getD k 0 = s[k] := by
  rw [List.getD_eq_getElem?_getD, List.getElem?_eq_getElem (by rw [toList_length]; exact h)]; rfl
set_option maxHeartbeats 1000000 in
theorem fitting_any (s : ByteArray) (w : World) (hs : s.size ≤ maxLen) (hw : allWhole s.data.toList = true) :
    Calls Tryz.prog 84 #[.string s] w fun e w' => e = .returned (.int .i64 (groupN 30 s.data.toList)) ∧ w = w' := by
  have hl := toList_length s
  unfold maxLen at hs
  by_cases h30 : s.size ≤ 30
  · have HG := hide (group_all hw (show s.data.toList.length ≤ 30 by omega))
    rw [hl] at HG
    clear hw hl
    go_enter Tryz.func84, Tryz.ntmps84
    go_wp2
    go_ret
    exact ⟨ret_int (by rw [HG.out]), rfl⟩
  · have hle := group_le 30 s.data.toList
    have HC := hide (group_cont hw (show 30 < s.data.toList.length by omega))
    obtain ⟨g, hg⟩ : ∃ g, g = groupN 30 s.data.toList := ⟨_, rfl⟩
    rw [← hg] at hle HC ⊢
    have hg30 : g ≤ 30 := hle.1
    clear hw hl hg hle
    go_enter Tryz.func84, Tryz.ntmps84
    go_wp2
    go_loop [3] (fun i => ∃ k : Nat, g ≤ k ∧ k ≤ 30 ∧ i = .int .i64 k) (fun i => (intOf i).toNat)
    case atStart => exact ⟨30, hg30, Nat.le_refl _, rfl⟩
    case round =>
      obtain ⟨k, hk1, hk2, rfl⟩ := hrel
      have hlt : k < s.size := by omega
      have HGD := hide (getD_at s k hlt)
      have hrs := runeStart_cont s[k]
      by_cases he : k = g
      · have hc : contB s[k] = false := by rw [← HGD.out, he]; exact HC.out.1
        rw [hc] at hrs
        have HRS := hide hrs
        have HE := hide he
        clear hrs hc he
        go_wp2_with fail
        refine (Tryz.utf8_RuneStart _ _ (by omega) (by have := byte_lt s[k]; omega)).mono ?_
        rintro e w1 ⟨rfl, hw1⟩
        subst hw1
        rw [HRS.out]
        go_wp2_with fail
        go_ret
        exact ⟨ret_int (by rw [HE.out]), rfl⟩
      · have hc : contB s[k] = true := by rw [← HGD.out]; exact HC.out.2 k (by omega) hk2
        rw [hc] at hrs
        have HRS := hide hrs
        clear hrs hc
        have hk0 : 1 ≤ k := by omega
        go_wp2_with fail
        refine (Tryz.utf8_RuneStart _ _ (by omega) (by have := byte_lt s[k]; omega)).mono ?_
        rintro e w1 ⟨rfl, hw1⟩
        subst hw1
        rw [HRS.out]
        go_wp2_with fail
        go_round
        case rel => exact ⟨k - 1, by omega, by omega, by go_num⟩
        case measure => simp [intOf]; omega

/-- may a text stand as it is? -/
def plainL (l : List UInt8) : Bool := withinB 32 126 l && !Lib.contains l [61, 63]
def encodeL (l : List UInt8) : List UInt8 := if plainL l then l else joinW (groups (validL l))
theorem join_words (gs : List (List UInt8)) : Lib.join (gs.map wordL) [32] = joinW gs := by
  induction gs with
  | nil => rfl
  | cons g r ih =>
    match r, ih with
    | [], _ => rw [List.map_cons, List.map_nil, Lib.join_one]; rfl
    | q :: r, ih =>
      rw [List.map_cons, Lib.join_cons] at ih
      rw [List.map_cons, Lib.join_cons, List.map_cons]
      show wordL g ++ ([32] ++ wordL q ++ Lib.joinTail [32] (r.map wordL)) = wordL g ++ 32 :: joinW (q :: r)
      rw [← ih]; simp
def szOfS : Value → Nat
  | .string t => t.size
  | _ => 0

theorem size0 {t : ByteArray} (h : t.size = 0) : t.data.toList = [] ∧ t.toList.isEmpty = true := by
  have e : t.data.toList = [] := List.eq_nil_of_length_eq_zero (by rw [toList_length]; exact h)
  exact ⟨e, by rw [bytes_list, e]; rfl⟩
theorem sizeP {t : ByteArray} (h : ¬ t.size = 0) : t.data.toList ≠ [] ∧ t.toList.isEmpty = false := by
  have hne : t.data.toList ≠ [] := fun e => by have := toList_length t; rw [e] at this; simp at this; omega
  refine ⟨hne, ?_⟩
  rw [bytes_list]
  cases h : t.data.toList with
  | nil => exact absurd h hne
  | cons _ _ => rfl
theorem group_pack (t : ByteArray) (hw : allWhole t.data.toList = true) (hne : t.data.toList ≠ []) :
    ∃ n, n = groupN 30 t.data.toList ∧ 0 < n ∧ n ≤ t.size ∧ allWhole (t.extract n t.size).data.toList = true ∧ groups t.data.toList = t.data.toList.take n :: groups (t.extract n t.size).data.toList ∧
      (t.extract 0 n).data.toList = t.data.toList.take n ∧ (t.extract 0 n).size ≤ 100000 ∧ (t.extract n t.size).size + n = t.size ∧ (0 : Int) ≤ n ∧ (n : Int) ≤ t.size := by
  have hgp := group_pos (room := 30) (by omega) hw hne
  have hgle := group_le 30 t.data.toList
  rw [toList_length] at hgle
  refine ⟨_, rfl, hgp, hgle.2, by rw [extract_end]; exact (group_whole 30 _ hw).1, by rw [extract_end]; exact groups_go (by omega), by rw [extract_list, List.drop_zero], by rw [ByteArray.size_extract]; omega, by rw [ByteArray.size_extract]; omega, by omega, by omega⟩
theorem enc_bounds {gs : List (List UInt8)} {t V : ByteArray} (h : gs.length + t.size ≤ V.size) (hV : V.size ≤ 300000) :
    gs.length ≤ 140737488355328 ∧ t.size ≤ maxLen ∧ (gs.map fun g => str (wordL g)).length + 1 ≤ 8796093022208 := by
  rw [List.length_map]; unfold maxLen; omega
theorem encE_size {x : ByteArray} {l : List UInt8} (hx : x.data.toList = l) (zX : x.size ≤ 100000) : (str (encB l)).size ≤ 300000 := by
  have := encB_length l
  have h2 := toList_length x
  rw [hx] at h2
  rw [str_size]; omega
theorem enc_join {V : ByteArray} (hV : V.size ≤ 300000) : (joinW (groups V.data.toList)).length ≤ 140737488355328 := by
  have := joinW_length V.data.toList
  rw [toList_length] at this; omega
theorem enc_next {gs : List (List UInt8)} {t x V : ByteArray} {n : Nat} {g : List UInt8} (h : gs.length + t.size ≤ V.size) (hx : x.size + n = t.size) (hn : 0 < n) : (gs ++ [g]).length + x.size ≤ V.size ∧ x.size < t.size := by
  rw [List.length_append, List.length_singleton]; omega
set_option maxHeartbeats 4000000 in
theorem wordEncode_any (s : ByteArray) (m : Int) (w : World) (hs : s.size ≤ 100000) (hm : w.cell? ⟨0, 0, none⟩ = some (.int .i64 m)) :
    Calls Tryz.prog 53 #[.string s] w fun e w' => e = .returned (.string (str (encodeL s.data.toList))) ∧ Below w.heap.size w w' := by
  have HM := hide hm
  clear hm
  have main : plainL s.data.toList = false → ∀ b : Bool, withinB 32 126 s.data.toList = b → Calls Tryz.prog 53 #[.string s] w fun e w' => e = .returned (.string (str (encodeL s.data.toList))) ∧ Below w.heap.size w w' := by
    intro hp b hb
    have hcc : b = true → Lib.contains s.data.toList [61, 63] = true := by
      intro h
      unfold plainL at hp
      rw [hb, h, Bool.true_and] at hp
      simpa using hp
    have HE : Hid (encodeL s.data.toList = joinW (groups (validL s.data.toList))) := hide (by unfold encodeL; rw [hp]; rfl)
    have zv := validL_length s.data.toList
    rw [toList_length] at zv
    obtain ⟨V, hV⟩ : ∃ V, V = str (validL s.data.toList) := ⟨_, rfl⟩
    have hVs : V.size ≤ 300000 := by rw [hV, str_size]; omega
    have hVl : V.data.toList = validL s.data.toList := by rw [hV, str_toList]
    have HW := hide (show allWhole V.data.toList = true by rw [hVl]; exact allWhole_valid _)
    have HV := hide hV
    rw [← hVl] at HE
    have HBW := hide hb
    have HJV := hide (enc_join hVs)
    clear hp hb zv hV hVl
    cases b with
    | false =>
      go_enter Tryz.func53, Tryz.ntmps53
      go_wp2_with fail
      refine (within_any s 32 126 _ (by unfold maxLen; omega)).mono ?_
      rintro e w1 ⟨rfl, rfl⟩
      rw [HBW.out]
      go_wp2_with fail
      refine (valid_any s _ (by omega)).mono ?_
      rintro e w1 ⟨rfl, hb1⟩
      rw [← HV.out]
      have hsb : SBuf w.heap.size (.slice none 0 0) [] w w1 := SBuf.nil hb1 hb1.size
      have HSB := hide hsb
      clear hsb hb1
      go_wp2_with fail
      go_loopw [3, 4] (fun v x wr => ∃ (t : ByteArray) (gs : List (List UInt8)) (L : List ByteArray), x = .string t ∧ SBuf w.heap.size v L w wr ∧ Hid (L = gs.map fun g => str (wordL g)) ∧ Hid (allWhole t.data.toList = true) ∧ Hid (gs ++ groups t.data.toList = groups V.data.toList) ∧ gs.length + t.size ≤ V.size) (fun _ x _ => szOfS x)
      case atStart => exact ⟨V, [], [], rfl, HSB.out, hide rfl, HW, hide rfl, by simp⟩
      case round =>
        obtain ⟨t, gs, L, rfl, hsb, HL, HWT, HG, hgl⟩ := hrel
        have HB := hide hsb
        clear hsb
        obtain ⟨z1, z2, z3⟩ := enc_bounds hgl hVs
        have HGL := hide z1
        have ZMX := hide z2
        have HLM : Hid (L.length + 1 ≤ 8796093022208) := hide (by rw [HL.out]; exact z3)
        clear z1 z2 z3
        by_cases hz : t.size = 0
        · obtain ⟨hnil, t1⟩ := size0 hz
          have HGS : Hid (joinW gs = encodeL s.data.toList) := hide (by rw [HE.out, ← HG.out, hnil, groups_nil, List.append_nil])
          have HJ : Hid ((joinW gs).length ≤ 140737488355328) := hide (Nat.le_trans (Nat.le_of_eq (congrArg List.length (HGS.out.trans HE.out))) HJV.out)
          clear hnil hz hgl hVs
          rcases HB.out.form with ⟨rfl, hn⟩ | ⟨g, cap, rfl, hc1, hc2, hg1, hg2, hcells⟩
          · have hgn : gs = [] := by have := HL.out; rw [hn] at this; simpa using this.symm
            have HR : Hid (encodeL s.data.toList = []) := hide (by rw [← HGS.out, hgn]; rfl)
            clear hn hgn
            go_wp2_with fail
            refine (Tryz.strings_Join_none _ _ _ _).mono ?_
            rintro e w2 ⟨rfl, hw2⟩
            subst hw2
            go_wp2_with fail
            go_ret
            exact ⟨by rw [HR.out]; rfl, HB.out.below⟩
          · have HCL := hide hcells
            have hlm : L.length = gs.length := by rw [HL.out]; exact List.length_map _
            have HJJ : Hid (Lib.join (L.map (·.data.toList)) [32] = encodeL s.data.toList) := hide (by
              rw [← HGS.out, ← join_words, HL.out, List.map_map]; rfl)
            have HLN : Hid (L.length ≤ 140737488355328) := hide (by rw [hlm]; exact HGL.out)
            have HC1 := hide hc1
            have HG2 := hide hg2
            clear hcells hlm hc1 hc2 hg1 hg2
            go_wp2_with fail
            refine (Tryz.strings_Join g 0 cap L _ _ HCL.out HG2.out HLN.out HC1.out (by
              rw [show (⟨#[32]⟩ : ByteArray).data.toList = [32] from rfl, HJJ.out, ← HGS.out]; exact HJ.out)).mono ?_
            rintro e w2 ⟨rfl, hb2⟩
            go_wp2_with fail
            go_ret
            refine ⟨?_, HB.out.below.trans (hb2.mono HB.out.2.2)⟩
            show Ending.returned (.string (str _)) = _
            rw [HJJ.out]
        · obtain ⟨hne, t1⟩ := sizeP hz
          obtain ⟨n, hn, hn0, hn1, hgw, hgo, hX, zX, hxn, k0, k1⟩ := group_pack t HWT.out hne
          have HF := hide (fun (w : World) => fitting_any t w ZMX.out HWT.out)
          rw [← hn] at HF
          have HX := hide hX
          have ZX := hide zX
          obtain ⟨E, hE⟩ : ∃ E, E = str (encB (t.data.toList.take n)) := ⟨_, rfl⟩
          have hEs : E.size ≤ 300000 := by rw [hE]; exact encE_size HX.out ZX.out
          have HEE := hide hE
          have HC : Hid ((⟨#[61, 63, 117, 116, 102, 45, 56, 63, 66, 63]⟩ : ByteArray) ++ E ++ ⟨#[63, 61]⟩ = str (wordL (t.data.toList.take n))) := hide (by
            rw [hE, wordL_eq, str_append, str_append]; rfl)
          have HWN := hide hgw
          have HGN := hide (show (gs ++ [t.data.toList.take n]) ++ groups (t.extract n t.size).data.toList = groups V.data.toList by rw [← HG.out, hgo, List.append_assoc]; rfl)
          obtain ⟨zl, zm⟩ := enc_next (g := t.data.toList.take n) hgl hxn hn0
          have ZL := hide zl
          have ZM := hide zm
          clear hE hX hn hgw hgo hne hz hgl HG zl zm hxn hn0 zX hVs
          go_wp2_with fail
          refine (HF.out _).mono ?_
          rintro e w2 ⟨rfl, rfl⟩
          go_wp2_with fail
          refine (encode64_any _ _ ZX.out).mono ?_
          rintro e w3 ⟨rfl, hb3⟩
          rw [HX.out, ← HEE.out]
          have HB3 := hide (HB.out.kept hb3)
          clear hb3
          go_wp2_with (refine wpList_strs rfl _ _ rfl w.heap.size u3 L rfl w w3 _ HB3.out rfl HLM.out ?_; intro v4 w4 hb4; have HB4 := hide hb4; clear hb4)
          go_roundw
          case rel => exact ⟨t.extract n t.size, gs ++ [t.data.toList.take n], _, rfl, HB4.out, hide (by rw [List.map_append, List.map_cons, List.map_nil, ← HC.out, HL.out]), HWN, HGN, ZL.out⟩
          case measure => exact ZM.out
    | true =>
      have HCC := hide (hcc rfl)
      clear hcc
      go_enter Tryz.func53, Tryz.ntmps53
      go_wp2_with fail
      refine (within_any s 32 126 _ (by unfold maxLen; omega)).mono ?_
      rintro e w1 ⟨rfl, rfl⟩
      rw [HBW.out]
      go_wp2_with fail
      refine (Tryz.strings_Contains s _ m _ (by omega) HM.out).mono ?_
      rintro e w1 ⟨rfl, hw1⟩
      obtain rfl : w = w1 := hw1.symm
      rw [show Lib.contains s.data.toList (⟨#[61, 63]⟩ : ByteArray).data.toList = true from HCC.out]
      go_wp2_with fail
      refine (valid_any s _ (by omega)).mono ?_
      rintro e w1 ⟨rfl, hb1⟩
      rw [← HV.out]
      have hsb : SBuf w.heap.size (.slice none 0 0) [] w w1 := SBuf.nil hb1 hb1.size
      have HSB := hide hsb
      clear hsb hb1
      go_wp2_with fail
      go_loopw [3, 4] (fun v x wr => ∃ (t : ByteArray) (gs : List (List UInt8)) (L : List ByteArray), x = .string t ∧ SBuf w.heap.size v L w wr ∧ Hid (L = gs.map fun g => str (wordL g)) ∧ Hid (allWhole t.data.toList = true) ∧ Hid (gs ++ groups t.data.toList = groups V.data.toList) ∧ gs.length + t.size ≤ V.size) (fun _ x _ => szOfS x)
      case atStart => exact ⟨V, [], [], rfl, HSB.out, hide rfl, HW, hide rfl, by simp⟩
      case round =>
        obtain ⟨t, gs, L, rfl, hsb, HL, HWT, HG, hgl⟩ := hrel
        have HB := hide hsb
        clear hsb
        obtain ⟨z1, z2, z3⟩ := enc_bounds hgl hVs
        have HGL := hide z1
        have ZMX := hide z2
        have HLM : Hid (L.length + 1 ≤ 8796093022208) := hide (by rw [HL.out]; exact z3)
        clear z1 z2 z3
        by_cases hz : t.size = 0
        · obtain ⟨hnil, t1⟩ := size0 hz
          have HGS : Hid (joinW gs = encodeL s.data.toList) := hide (by rw [HE.out, ← HG.out, hnil, groups_nil, List.append_nil])
          have HJ : Hid ((joinW gs).length ≤ 140737488355328) := hide (Nat.le_trans (Nat.le_of_eq (congrArg List.length (HGS.out.trans HE.out))) HJV.out)
          clear hnil hz hgl hVs
          rcases HB.out.form with ⟨rfl, hn⟩ | ⟨g, cap, rfl, hc1, hc2, hg1, hg2, hcells⟩
          · have hgn : gs = [] := by have := HL.out; rw [hn] at this; simpa using this.symm
            have HR : Hid (encodeL s.data.toList = []) := hide (by rw [← HGS.out, hgn]; rfl)
            clear hn hgn
            go_wp2_with fail
            refine (Tryz.strings_Join_none _ _ _ _).mono ?_
            rintro e w2 ⟨rfl, hw2⟩
            subst hw2
            go_wp2_with fail
            go_ret
            exact ⟨by rw [HR.out]; rfl, HB.out.below⟩
          · have HCL := hide hcells
            have hlm : L.length = gs.length := by rw [HL.out]; exact List.length_map _
            have HJJ : Hid (Lib.join (L.map (·.data.toList)) [32] = encodeL s.data.toList) := hide (by
              rw [← HGS.out, ← join_words, HL.out, List.map_map]; rfl)
            have HLN : Hid (L.length ≤ 140737488355328) := hide (by rw [hlm]; exact HGL.out)
            have HC1 := hide hc1
            have HG2 := hide hg2
            clear hcells hlm hc1 hc2 hg1 hg2
            go_wp2_with fail
            refine (Tryz.strings_Join g 0 cap L _ _ HCL.out HG2.out HLN.out HC1.out (by
              rw [show (⟨#[32]⟩ : ByteArray).data.toList = [32] from rfl, HJJ.out, ← HGS.out]; exact HJ.out)).mono ?_
            rintro e w2 ⟨rfl, hb2⟩
            go_wp2_with fail
            go_ret
            refine ⟨?_, HB.out.below.trans (hb2.mono HB.out.2.2)⟩
            show Ending.returned (.string (str _)) = _
            rw [HJJ.out]
        · obtain ⟨hne, t1⟩ := sizeP hz
          obtain ⟨n, hn, hn0, hn1, hgw, hgo, hX, zX, hxn, k0, k1⟩ := group_pack t HWT.out hne
          have HF := hide (fun (w : World) => fitting_any t w ZMX.out HWT.out)
          rw [← hn] at HF
          have HX := hide hX
          have ZX := hide zX
          obtain ⟨E, hE⟩ : ∃ E, E = str (encB (t.data.toList.take n)) := ⟨_, rfl⟩
          have hEs : E.size ≤ 300000 := by rw [hE]; exact encE_size HX.out ZX.out
          have HEE := hide hE
          have HC : Hid ((⟨#[61, 63, 117, 116, 102, 45, 56, 63, 66, 63]⟩ : ByteArray) ++ E ++ ⟨#[63, 61]⟩ = str (wordL (t.data.toList.take n))) := hide (by
            rw [hE, wordL_eq, str_append, str_append]; rfl)
          have HWN := hide hgw
          have HGN := hide (show (gs ++ [t.data.toList.take n]) ++ groups (t.extract n t.size).data.toList = groups V.data.toList by rw [← HG.out, hgo, List.append_assoc]; rfl)
          obtain ⟨zl, zm⟩ := enc_next (g := t.data.toList.take n) hgl hxn hn0
          have ZL := hide zl
          have ZM := hide zm
          clear hE hX hn hgw hgo hne hz hgl HG zl zm hxn hn0 zX hVs
          go_wp2_with fail
          refine (HF.out _).mono ?_
          rintro e w2 ⟨rfl, rfl⟩
          go_wp2_with fail
          refine (encode64_any _ _ ZX.out).mono ?_
          rintro e w3 ⟨rfl, hb3⟩
          rw [HX.out, ← HEE.out]
          have HB3 := hide (HB.out.kept hb3)
          clear hb3
          go_wp2_with (refine wpList_strs rfl _ _ rfl w.heap.size u3 L rfl w w3 _ HB3.out rfl HLM.out ?_; intro v4 w4 hb4; have HB4 := hide hb4; clear hb4)
          go_roundw
          case rel => exact ⟨t.extract n t.size, gs ++ [t.data.toList.take n], _, rfl, HB4.out, hide (by rw [List.map_append, List.map_cons, List.map_nil, ← HC.out, HL.out]), HWN, HGN, ZL.out⟩
          case measure => exact ZM.out
  cases hp : plainL s.data.toList with
  | false => exact main hp _ rfl
  | true =>
    clear main
    have h2 : withinB 32 126 s.data.toList = true ∧ Lib.contains s.data.toList [61, 63] = false := by
      unfold plainL at hp
      rw [Bool.and_eq_true] at hp
      exact ⟨hp.1, by simpa using hp.2⟩
    have H1 := hide h2.1
    have H2 := hide h2.2
    have HE : Hid (encodeL s.data.toList = s.data.toList) := hide (by unfold encodeL; rw [hp]; rfl)
    clear h2 hp
    go_enter Tryz.func53, Tryz.ntmps53
    go_wp2_with fail
    refine (within_any s 32 126 _ (by unfold maxLen; omega)).mono ?_
    rintro e w1 ⟨rfl, rfl⟩
    rw [H1.out]
    go_wp2_with fail
    refine (Tryz.strings_Contains s _ m _ (by omega) HM.out).mono ?_
    rintro e w1 ⟨rfl, hw1⟩
    subst hw1
    rw [show Lib.contains s.data.toList (⟨#[61, 63]⟩ : ByteArray).data.toList = false from H2.out]
    go_wp2_with fail
    go_ret
    exact ⟨ret_str (by rw [HE.out, str_of]), Below.refl _ _⟩
end Go.Proofs.YtienjpelmbldpaaGreatDoor

/- WALK of ascii.Hex. No statement is proved here. -/
namespace Go.Proofs.YtienjpelmbldpaaGreatDoor
open Go.RowKit
set_option linter.unusedVariables false
set_option linter.unusedSimpArgs false

set_option maxHeartbeats 1000000 in
theorem asciiHex_any (c : UInt8) (w : World) :
    Calls Tryz.prog 118 #[.int .u8 c.toNat] w fun e w' => e = .returned (.string (str [hexHi c, hexLo c])) ∧ Below w.heap.size w w' := by
  have hc := byte_lt c
  have ha := and15 c.toNat hc
  have hcv := conv2d
  have k1 : 0 ≤ (c.toNat : Int) / 16 := by omega
  have k2 : (c.toNat : Int) / 16 < 16 := by omega
  have k3 : 0 ≤ (c.toNat : Int) % 16 := by omega
  have k4 : (c.toNat : Int) % 16 < 16 := by omega
  go_enter Tryz.func118, Tryz.ntmps118
  go_wp2_with fail
  go_region
  all_goals (try go_wp2)
  all_goals
    go_ret
    exact ⟨ret_str (nums_str (by simp only [List.map_cons, List.map_nil, digit_at]; rfl)), ((Below.refl _ _).alloc (Nat.le_refl _) _).drew⟩
end Go.Proofs.YtienjpelmbldpaaGreatDoor

/- WALKS of ascii.Letter, ascii.Plain and ascii.AllPlain. No statement is proved here. Own work of the verifier. -/
namespace Go.Proofs.YtienjpelmbldpaaGreatDoor
open Go.RowKit
set_option linter.unusedVariables false
set_option linter.unusedSimpArgs false
set_option maxRecDepth 100000

theorem asciiLetter_any (c : UInt8) (w : World) :
    Calls Tryz.prog 119 #[.int .u8 c.toNat] w fun e w' => e = .returned (.bool (letterB c)) ∧ w = w' := by
  have hc := byte_lt c
  rcases letter_case c with ⟨c1, c2, e⟩ | ⟨c1, c2, c3, e⟩ | ⟨c1, c2, e⟩ | ⟨c1, c2, c3, e⟩ | ⟨c1, c2, e⟩
  all_goals
    rw [e]; clear e
    go_enter Tryz.func119, Tryz.ntmps119
    go_wp2
    go_ret
    exact ⟨ret_bool (by first | rfl | (simp; omega)), rfl⟩
/-- a letter, a digit, or one of m -/
def markB (m : List UInt8) (c : UInt8) : Bool := letterB c || digitB c || decide (0 ≤ Lib.indexByte m c)
theorem asciiPlain_any (c : UInt8) (m : ByteArray) (w : World) :
    Calls Tryz.prog 91 #[.int .u8 c.toNat, .string m] w fun e w' => e = .returned (.bool (markB m.data.toList c)) ∧ w = w' := by
  have hc := byte_lt c
  have hu : (c.toNat : Int).toNat.toUInt8 = c := by rw [Int.toNat_natCast]; exact UInt8.ofNat_toNat
  have HU := hide hu
  clear hu
  cases hl : letterB c with
  | true =>
    have HB : Hid (markB m.data.toList c = true) := by unfold markB; rw [hl]; exact hide rfl
    have HL := hide hl
    clear hl
    go_enter Tryz.func91, Tryz.ntmps91
    go_wp2_with fail
    refine (asciiLetter_any c _).mono ?_
    rintro e w1 ⟨rfl, rfl⟩
    rw [HL.out]
    go_wp2_with fail
    go_ret
    exact ⟨ret_bool HB.out.symm, rfl⟩
  | false =>
    have HL := hide hl
    rcases digit_case c with ⟨c1, c2, e⟩ | ⟨c1, e⟩ | ⟨c1, c2, e⟩
    · have HB : Hid (markB m.data.toList c = true) := by unfold markB; rw [hl, e]; exact hide rfl
      clear hl e
      go_enter Tryz.func91, Tryz.ntmps91
      go_wp2_with fail
      refine (asciiLetter_any c _).mono ?_
      rintro e w1 ⟨rfl, rfl⟩
      rw [HL.out]
      go_wp2_with fail
      go_ret
      exact ⟨ret_bool HB.out.symm, rfl⟩
    all_goals
      have HB : Hid (markB m.data.toList c = decide (0 ≤ Lib.indexByte m.data.toList c)) := by unfold markB; rw [hl, e]; exact hide rfl
      clear hl e
      go_enter Tryz.func91, Tryz.ntmps91
      go_wp2_with fail
      refine (asciiLetter_any c _).mono ?_
      rintro e w1 ⟨rfl, rfl⟩
      rw [HL.out]
      go_wp2_with fail
      refine (Tryz.strings_IndexByte _ _ _).mono ?_
      rintro e w1 ⟨rfl, rfl⟩
      rw [HU.out]
      go_wp2_with fail
      go_ret
      exact ⟨ret_bool (by first | (rw [HB.out]; done) | (rw [HB.out, show decide ((c.toNat : Int) ≤ 57) = false from decide_eq_false (by omega)]; rfl)), rfl⟩
end Go.Proofs.YtienjpelmbldpaaGreatDoor

/- WALKS of package pct. No statement is proved here. -/
namespace Go.Proofs.YtienjpelmbldpaaGreatDoor
open Go.RowKit
set_option linter.unusedVariables false
set_option linter.unusedSimpArgs false
set_option maxRecDepth 100000

theorem stay_mark (c : UInt8) : markB [45, 46, 95, 126] c = stayB c :=
  u8_all (p := fun c => markB [45, 46, 95, 126] c = stayB c) (by decide +kernel) c
set_option maxHeartbeats 1000000 in
theorem stays_any (c : UInt8) (w : World) :
    Calls Tryz.prog 90 #[.int .u8 c.toNat] w fun e w' => e = .returned (.bool (stayB c)) ∧ w = w' := by
  have HS : Hid (markB (⟨#[45, 46, 95, 126]⟩ : ByteArray).data.toList c = stayB c) := hide (stay_mark c)
  go_enter Tryz.func90, Tryz.ntmps90
  go_wp2_with fail
  refine (asciiPlain_any c _ _).mono ?_
  rintro e w1 ⟨rfl, rfl⟩
  rw [HS.out]
  go_wp2_with fail
  go_ret
  exact ⟨rfl, rfl⟩

/-- a round of the writer -/
theorem penc_round {T acc L : List UInt8} {c : UInt8} {r : List UInt8} (h : acc ++ penc L = T) (hc : L = c :: r) : (acc ++ pSign c) ++ penc r = T := by
  subst hc; rw [← h, penc_cons, List.append_assoc]
theorem pSign_cases (c : UInt8) : (stayB c = true ∧ pSign c = [c]) ∨ (stayB c = false ∧ pSign c = [37, hexHi c, hexLo c]) := by
  unfold pSign
  by_cases h : stayB c = true
  · exact .inl ⟨h, by rw [if_pos h]⟩
  · exact .inr ⟨by simpa using h, by rw [if_neg h]⟩

set_option maxHeartbeats 1000000 in
theorem encLoop_any (s : ByteArray) (w : World) (hs : s.size ≤ 1048576) :
    Calls Tryz.prog 89 #[.string s, .func (Fn.func 90) #[] #[]] w fun e w' => e = .returned (.string (str (penc s.data.toList))) ∧ Below w.heap.size w w' := by
  go_enter Tryz.func89, Tryz.ntmps89
  go_wp2_with (refine wpList_buf_make rfl _ _ rfl w.heap.size w (Below.refl _ _) (Nat.le_refl _) s.size s.size rfl rfl rfl (by omega) ?_; intro v0 w0 hb0)
  go_loopw [5, 12] (fun v i wr => ∃ (k : Nat) (acc : List UInt8), k ≤ s.size ∧ i = .int .i64 k ∧ Buf w.heap.size v acc w wr ∧ acc.length ≤ 3 * k ∧ acc ++ penc (s.data.toList.drop k) = penc s.data.toList) (fun _ i _ => s.size - (intOf i).toNat)
  case atStart => exact ⟨0, [], Nat.zero_le _, rfl, hb0, Nat.le_refl _, by simp⟩
  case round =>
    obtain ⟨k, acc, hk, rfl, hb, hacc, hd⟩ := hrel
    have HB := hide hb
    clear hb
    by_cases hlt : k < s.size
    · have hR := penc_round hd (drop_cons s k hlt)
      rcases pSign_cases s[k] with ⟨p1, p2⟩ | ⟨p1, p2⟩
      all_goals
        rw [p2] at hR
        have HR := hide hR
        have HP := hide p1
        clear hR p1 p2 hd
        go_wp2_with fail
        refine (stays_any s[k] _).mono ?_
        rintro e w1 ⟨rfl, rfl⟩
        rw [HP.out]
      · go_wp2_with (refine wpList_buf_byte rfl _ _ rfl w.heap.size u5 acc rfl w wr s[k] HB.out rfl (by omega) ?_; intro v2 w2 hb2; have HB2 := hide hb2; clear hb2)
        go_roundw
        case rel => exact ⟨k + 1, acc ++ _, by omega, by go_num, HB2.out, by simp; omega, HR.out⟩
        case measure => simp [intOf]; omega
      · have hsz : (str [hexHi s[k], hexLo s[k]]).size = 2 := rfl
        have hl1 : (acc ++ [(37 : UInt8)]).length = acc.length + 1 := by simp
        go_wp2_with (first
          | (refine wpList_buf_const rfl _ _ rfl w.heap.size u5 acc rfl w wr 37 37 rfl HB.out rfl (by omega) ?_; intro v2 w2 hb2 hk2; have HB2 := hide hb2; clear hb2 hk2)
          | (go_at_call 118; refine (asciiHex_any s[k] _).mono ?_; rintro e w3 ⟨rfl, hb3⟩; have HB3 := hide (HB2.out.kept hb3); clear hb3)
          | (refine wpList_buf_text rfl _ _ rfl w.heap.size v2 (acc ++ [37]) rfl w HB3.out (str [hexHi s[k], hexLo s[k]]) rfl (by omega) ?_; intro v4 w4 hb4; rw [str_toList] at hb4; have HB4 := hide hb4; clear hb4))
        go_roundw
        case rel => exact ⟨k + 1, acc ++ [37] ++ [hexHi s[k], hexLo s[k]], by omega, by go_num, HB4.out, by simp; omega, by rw [← HR.out]; simp⟩
        case measure => simp [intOf]; omega
    · have hcv := HB.out.convert
      go_wp2
      go_ret
      refine ⟨?_, HB.out.below⟩
      rw [drop_nil s k (by omega), penc_nil, List.append_nil] at hd
      exact ret_str (by rw [hd])

set_option maxHeartbeats 1000000 in
theorem encode_any (s : ByteArray) (w : World) (hs : s.size ≤ 1048576) :
    Calls Tryz.prog 55 #[.string s] w fun e w' => e = .returned (.string (str (penc s.data.toList))) ∧ Below w.heap.size w w' := by
  go_enter Tryz.func55, Tryz.ntmps55
  go_wp2_with fail
  refine (encLoop_any s _ hs).mono ?_
  rintro e w1 ⟨rfl, hb⟩
  go_wp2_with fail
  go_ret
  exact ⟨rfl, hb⟩

/-- what 'first' answers -/
def firstV (c : UInt8) (r : List UInt8) : Value := .tuple #[.int .u8 (pStep c r).1.toNat, .int .i64 (pStep c r).2]
set_option maxHeartbeats 1000000 in
theorem first_any (s : ByteArray) (w : World) (hs : s.size ≤ maxLen) (h0 : 0 < s.size) :
    Calls Tryz.prog 129 #[.string s] w fun e w' => e = .returned (firstV s[0] (s.data.toList.drop 1)) ∧ Below w.heap.size w w' := by
  have hx : (s.extract 1 s.size).size ≤ maxLen := by rw [ByteArray.size_extract]; omega
  unfold maxLen at hs
  have hx1 : (s.extract 1 s.size).data.toList = s.data.toList.drop 1 := extract_end s 1
  have HX := hide hx
  have HX1 := hide hx1
  clear hx hx1
  rcases pStep_cases s[0] (s.data.toList.drop 1) with ⟨h37, b, hb, hp, _⟩ | ⟨h, hp⟩
  · have t0 : ((s[0].toNat : Int) == 37) = true := tT 37 h37 (by omega)
    have HV : Hid (fromHexV (s.data.toList.drop 1) = .tuple #[.int .u8 b.toNat, .bool true]) := by unfold fromHexV; rw [hb]; exact hide rfl
    have HF : Hid (firstV s[0] (s.data.toList.drop 1) = .tuple #[.int .u8 b.toNat, .int .i64 3]) := by unfold firstV; rw [hp]; exact hide rfl
    clear h37 hb hp
    go_enter Tryz.func129, Tryz.ntmps129
    go_wp2_with fail
    refine (fromHex_any _ _ HX.out).mono ?_
    rintro e w1 ⟨rfl, hb⟩
    rw [HX1.out, HV.out]
    go_wp2_with fail
    go_ret2
    exact ⟨by rw [HF.out]; rfl, hb⟩
  · have HF : Hid (firstV s[0] (s.data.toList.drop 1) = .tuple #[.int .u8 s[0].toNat, .int .i64 1]) := by unfold firstV; rw [hp]; exact hide rfl
    by_cases h37 : s[0] = 37
    · have t0 : ((s[0].toNat : Int) == 37) = true := tT 37 h37 (by omega)
      have HV : Hid (fromHexV (s.data.toList.drop 1) = .tuple #[.int .u8 0, .bool false]) := by unfold fromHexV; rw [h.resolve_left (fun e => e h37)]; exact hide rfl
      clear h37 h hp
      go_enter Tryz.func129, Tryz.ntmps129
      go_wp2_with fail
      refine (fromHex_any _ _ HX.out).mono ?_
      rintro e w1 ⟨rfl, hb⟩
      rw [HX1.out, HV.out]
      go_wp2_with fail
      go_ret2
      exact ⟨by rw [HF.out]; rfl, hb⟩
    · have t0 : ((s[0].toNat : Int) == 37) = false := tF 37 h37 (by omega)
      clear h37 h hp
      go_enter Tryz.func129, Tryz.ntmps129
      go_wp2_with fail
      go_ret2
      exact ⟨by rw [HF.out]; rfl, Below.refl _ _⟩

def szOf : Value → Nat
  | .string t => t.size
  | _ => 0

set_option maxHeartbeats 1000000 in
theorem decode_any (s : ByteArray) (w : World) (hs : s.size ≤ 70368744177664) :
    Calls Tryz.prog 97 #[.string s] w fun e w' => e = .returned (.string (str (pdec s.data.toList))) ∧ Below w.heap.size w w' := by
  go_enter Tryz.func97, Tryz.ntmps97
  go_wp2_with (refine wpList_buf_make rfl _ _ rfl w.heap.size w (Below.refl _ _) (Nat.le_refl _) s.size s.size rfl rfl rfl (by omega) ?_; intro v0 w0 hb0)
  go_loopw [0, 3] (fun x v wr => ∃ (t : ByteArray) (acc : List UInt8), x = .string t ∧ Buf w.heap.size v acc w wr ∧ acc.length + t.size ≤ s.size ∧ acc ++ pdec t.data.toList = pdec s.data.toList) (fun x _ _ => szOf x)
  case atStart => exact ⟨s, [], rfl, hb0, by simp, by simp⟩
  case round =>
    obtain ⟨t, acc, rfl, hb, hacc, hd⟩ := hrel
    have HB := hide hb
    clear hb
    by_cases hlt : 0 < t.size
    · have hne := drop_cons t 0 hlt
      rw [List.drop_zero] at hne
      have hR := pdec_round hd hne
      have hle := pStep_le t[0] (t.data.toList.drop (0 + 1))
      rw [List.length_drop, toList_length] at hle
      have hF : firstV t[0] (t.data.toList.drop 1) = .tuple #[.int .u8 (pStep t[0] (t.data.toList.drop (0 + 1))).1.toNat, .int .i64 (pStep t[0] (t.data.toList.drop (0 + 1))).2] := rfl
      generalize pStep t[0] (t.data.toList.drop (0 + 1)) = st at hR hle hF
      obtain ⟨b, n⟩ := st
      simp only at hR hle hF
      obtain ⟨hn1, hn2, hn3⟩ := hle
      have hn4 : n ≤ t.size := by omega
      have HR := hide hR
      have HF := hide hF
      clear hR hF hne hd
      go_wp2_with fail
      refine (first_any t _ (by unfold maxLen; omega) hlt).mono ?_
      rintro e w1 ⟨rfl, hb1⟩
      rw [HF.out]
      have HB1 := hide (HB.out.kept hb1)
      go_wp2_with (refine wpList_buf_byte rfl _ _ rfl w.heap.size u3 acc rfl w w1 b HB1.out rfl (by omega) ?_; intro v2 w2 hb2; have HB2 := hide hb2; clear hb2)
      go_roundw
      case rel => exact ⟨t.extract n t.size, acc ++ _, rfl, HB2.out, by rw [ByteArray.size_extract]; simp; omega, by rw [extract_end]; exact HR.out⟩
      case measure => simp [szOf]; omega
    · have hcv := HB.out.convert
      go_wp2
      go_ret
      refine ⟨?_, HB.out.below⟩
      have e : t.data.toList = [] := List.eq_nil_of_length_eq_zero (by rw [toList_length]; omega)
      rw [e, pdec_nil, List.append_nil] at hd
      exact ret_str (by rw [hd])

theorem extV_none {l : List UInt8} (h : hasC 39 (afterC 39 l) = false) : extV (pExt l) = .tuple #[.string ⟨#[]⟩, .string ⟨#[]⟩, .bool false] := by
  unfold pExt; rw [h]; rfl
theorem extV_some {l : List UInt8} (h : hasC 39 (afterC 39 l) = true) : extV (pExt l) = .tuple #[.string (str (lowL (beforeC 39 l))), .string (str (pdec (afterC 39 (afterC 39 l)))), .bool true] := by
  unfold pExt; rw [h]; rfl
theorem beforeC_length (c : UInt8) (l : List UInt8) : (beforeC c l).length ≤ l.length := (List.takeWhile_sublist _).length_le
theorem afterC_length (c : UInt8) (l : List UInt8) : (afterC c l).length ≤ l.length := by
  unfold afterC; have := (List.dropWhile_sublist (l := l) fun x => x != c).length_le
  rw [List.length_drop]; omega

set_option maxHeartbeats 1000000 in
theorem extended_any (s : ByteArray) (w : World) (hs : s.size ≤ 70368744177664) :
    Calls Tryz.prog 94 #[.string s] w fun e w' => e = .returned (extV (pExt s.data.toList)) ∧ Below w.heap.size w w' := by
  have hl := toList_length s
  have z1 : (str (afterC 39 s.data.toList)).size ≤ 70368744177664 := by rw [str_size]; have := afterC_length 39 s.data.toList; omega
  have z2 : (str (afterC 39 (afterC 39 s.data.toList))).size ≤ 70368744177664 := by rw [str_size]; have := afterC_length 39 s.data.toList; have := afterC_length 39 (afterC 39 s.data.toList); omega
  have z3 : (str (beforeC 39 s.data.toList)).size ≤ 70368744177664 := by rw [str_size]; have := beforeC_length 39 s.data.toList; omega
  have Z1 := hide z1
  have Z2 := hide z2
  have Z3 := hide z3
  clear z1 z2 z3 hl
  cases hh : hasC 39 (afterC 39 s.data.toList)
  all_goals
    have HH := hide hh
    clear hh
    go_enter Tryz.func94, Tryz.ntmps94
    go_wp2_with fail
    refine (strCut_any s 39 _ hs).mono ?_
    rintro e w1 ⟨rfl, hb1⟩
    unfold cutV
    go_wp2_with fail
    refine (strCut_any _ 39 _ Z1.out).mono ?_
    rintro e w2 ⟨rfl, hb2⟩
    unfold cutV
    rw [str_toList, HH.out]
    go_wp2_with fail
  · go_ret3
    exact ⟨by rw [extV_none HH.out]; rfl, hb1.trans (hb2.mono hb1.size)⟩
  · refine (lower_any _ _ Z3.out).mono ?_
    rintro e w3 ⟨rfl, hb3⟩
    rw [str_toList]
    go_wp2_with fail
    refine (decode_any _ _ Z2.out).mono ?_
    rintro e w4 ⟨rfl, hb4⟩
    rw [str_toList]
    go_wp2_with fail
    go_ret3
    have k2 := hb1.trans (hb2.mono hb1.size)
    have k3 := k2.trans (hb3.mono k2.size)
    exact ⟨by rw [extV_some HH.out]; rfl, k3.trans (hb4.mono k3.size)⟩
end Go.Proofs.YtienjpelmbldpaaGreatDoor

/- WALKS of param.trimmedSmall, rawValue, mayBeName, mayBeMain, written. No statement is proved here. -/
namespace Go.Proofs.YtienjpelmbldpaaGreatDoor
open Go.RowKit
set_option linter.unusedVariables false
set_option linter.unusedSimpArgs false
set_option maxRecDepth 100000
def trP (l : List UInt8) : List UInt8 := Lib.trimS l [32, 9, 10, 13]
/-- a main word, a raw name, as they are told -/
def tsL (l : List UInt8) : List UInt8 := lowL (trP l)
theorem trP_length (l : List UInt8) : (trP l).length ≤ l.length := trimS_length l _
theorem lowL_len (l : List UInt8) : (lowL l).length = l.length := by simp [lowL]
theorem tsL_length (l : List UInt8) : (tsL l).length ≤ l.length := by unfold tsL; rw [lowL_len]; exact trP_length l
theorem trimP_any (s : ByteArray) (w : World) (hs : s.size ≤ maxLen) :
    Calls Tryz.prog 45 #[.string s, .string ⟨#[32, 9, 10, 13]⟩] w fun e w' => e = .returned (.string (str (trP s.data.toList))) ∧ Below w.heap.size w w' :=
  Any.strings_Trim_laid Tryz.lays160 (by kernel_rfl) s ⟨#[32, 9, 10, 13]⟩ w (by unfold maxLen at hs; omega) (by decide) (ascii_of_all (by decide))
theorem trimSmall_any (s : ByteArray) (w : World) (hs : s.size ≤ 1048576) :
    Calls Tryz.prog 22 #[.string s] w fun e w' => e = .returned (.string (str (tsL s.data.toList))) ∧ Below w.heap.size w w' := by
  obtain ⟨T, hT⟩ : ∃ T, T = str (trP s.data.toList) := ⟨_, rfl⟩
  have hz : T.size ≤ 70368744177664 := by
    rw [hT, str_size]; have := trP_length s.data.toList; rw [toList_length] at this; omega
  have HL := hide (fun (w : World) => lower_any T w hz)
  have HT := hide (fun (w : World) => trimP_any s w (by unfold maxLen; omega))
  have hTl : T.data.toList = trP s.data.toList := by rw [hT, str_toList]
  rw [← hT] at HT
  rw [hTl] at HL
  clear hT hz hTl
  go_enter Tryz.func22, Tryz.ntmps22
  go_wp2_with (first
    | (go_at_call 45; refine (HT.out _).mono ?_; rintro e w1 ⟨rfl, hb1⟩; have HB1 := hide hb1; clear hb1)
    | (go_at_call 44; refine (HL.out _).mono ?_; rintro e w2 ⟨rfl, hb2⟩; have HB2 := hide (HB1.out.trans (hb2.mono HB1.out.size)); clear hb2))
  go_ret
  exact ⟨rfl, HB2.out⟩
/-- what stands behind a `=`, without quotes -/
def rvL (l : List UInt8) : List UInt8 := if 0 < (readQ (trP l)).2 then (readQ (trP l)).1 else trP l
theorem rvL_length (l : List UInt8) : (rvL l).length ≤ l.length := by
  have h1 := trP_length l
  have h2 := (readQ_le (trP l)).1
  unfold rvL
  split <;> omega
set_option maxHeartbeats 2000000 in
theorem rawValue_any (s : ByteArray) (w : World) (hs : s.size ≤ 1048576) :
    Calls Tryz.prog 42 #[.string s] w fun e w' => e = .returned (.string (str (rvL s.data.toList))) ∧ Below w.heap.size w w' := by
  obtain ⟨T, hT⟩ : ∃ T, T = str (trP s.data.toList) := ⟨_, rfl⟩
  have hTl : T.data.toList = trP s.data.toList := by rw [hT, str_toList]
  have hz : T.size ≤ 70368744177664 := by
    rw [hT, str_size]; have := trP_length s.data.toList; rw [toList_length] at this; omega
  have HT := hide (fun (w : World) => trimP_any s w (by unfold maxLen; omega))
  rw [← hT] at HT
  obtain ⟨x, n, hx⟩ : ∃ x n, readQ T.data.toList = (x, n) := ⟨_, _, rfl⟩
  have HQ := hide (fun (w : World) => readQ_any T w hz)
  rw [hx] at HQ
  simp only [readV] at HQ
  have HV : Hid (str (rvL s.data.toList) = if 0 < n then str x else T) := hide (by
    unfold rvL
    rw [← hTl, hx]
    simp only
    split
    · rfl
    · rw [str_of])
  rw [HV.out]
  clear hT hz hTl hx HV
  by_cases hn : 0 < n
  · have t1 : decide ((0 : Int) < n) = true := decide_eq_true (by omega)
    have t2 : (0 : Int) < n := by omega
    rw [if_pos hn]
    clear hn
    go_enter Tryz.func42, Tryz.ntmps42
    go_wp2_with (first
      | (go_at_call 45; refine (HT.out _).mono ?_; rintro e w1 ⟨rfl, hb1⟩; have HB1 := hide hb1; clear hb1)
      | (go_at_call 40; refine (HQ.out _).mono ?_; rintro e w2 ⟨rfl, hb2⟩; have HB2 := hide (HB1.out.trans (hb2.mono HB1.out.size)); clear hb2))
    go_ret
    exact ⟨rfl, HB2.out⟩
  · have t1 : decide ((0 : Int) < n) = false := decide_eq_false (by omega)
    have t2 : ¬ (0 : Int) < n := by omega
    rw [if_neg hn]
    clear hn
    go_enter Tryz.func42, Tryz.ntmps42
    go_wp2_with (first
      | (go_at_call 45; refine (HT.out _).mono ?_; rintro e w1 ⟨rfl, hb1⟩; have HB1 := hide hb1; clear hb1)
      | (go_at_call 40; refine (HQ.out _).mono ?_; rintro e w2 ⟨rfl, hb2⟩; have HB2 := hide (HB1.out.trans (hb2.mono HB1.out.size)); clear hb2))
    go_ret
    exact ⟨rfl, HB2.out⟩
/-! ### names -/
def nmB (c : UInt8) : Bool := (97 ≤ c && c ≤ 122) || (48 ≤ c && c ≤ 57) || c == 45
def nameB (l : List UInt8) : Bool := l.all nmB && !l.isEmpty
theorem nmB_case (c : UInt8) : (97 ≤ c.toNat ∧ c.toNat ≤ 122 ∧ nmB c = true) ∨ (¬(97 ≤ c.toNat ∧ c.toNat ≤ 122) ∧ 48 ≤ c.toNat ∧ c.toNat ≤ 57 ∧ nmB c = true) ∨ (¬(97 ≤ c.toNat ∧ c.toNat ≤ 122) ∧ ¬(48 ≤ c.toNat ∧ c.toNat ≤ 57) ∧ c = 45 ∧ nmB c = true) ∨ (¬(97 ≤ c.toNat ∧ c.toNat ≤ 122) ∧ ¬(48 ≤ c.toNat ∧ c.toNat ≤ 57) ∧ c ≠ 45 ∧ nmB c = false) :=
  u8_all (p := fun c => (97 ≤ c.toNat ∧ c.toNat ≤ 122 ∧ nmB c = true) ∨ (¬(97 ≤ c.toNat ∧ c.toNat ≤ 122) ∧ 48 ≤ c.toNat ∧ c.toNat ≤ 57 ∧ nmB c = true) ∨ (¬(97 ≤ c.toNat ∧ c.toNat ≤ 122) ∧ ¬(48 ≤ c.toNat ∧ c.toNat ≤ 57) ∧ c = 45 ∧ nmB c = true) ∨ (¬(97 ≤ c.toNat ∧ c.toNat ≤ 122) ∧ ¬(48 ≤ c.toNat ∧ c.toNat ≤ 57) ∧ c ≠ 45 ∧ nmB c = false)) (by decide +kernel) c
theorem two_tests (a : Nat) (lo hi : Int) (h : ¬(lo ≤ (a : Int) ∧ (a : Int) ≤ hi)) : (decide (lo ≤ (a : Int)) = false) ∨ (decide (lo ≤ (a : Int)) = true ∧ decide ((a : Int) ≤ hi) = false) := by
  by_cases g : lo ≤ (a : Int)
  · exact .inr ⟨decide_eq_true g, decide_eq_false (fun e => h ⟨g, e⟩)⟩
  · exact .inl (decide_eq_false g)
set_option maxHeartbeats 4000000 in
theorem mayName_any (s : ByteArray) (w : World) (hs : s.size ≤ 1048576) :
    Calls Tryz.prog 32 #[.string s] w fun e w' => e = .returned (.bool (nameB s.data.toList)) ∧ w' = w := by
  go_enter Tryz.func32, Tryz.ntmps32
  go_wp2_with fail
  go_loop [7] (fun iv => ∃ k : Nat, k ≤ s.size ∧ iv = .int .i64 k ∧ Hid ((s.data.toList.take k).all nmB = true)) (fun iv => s.size - (intOf iv).toNat)
  case atStart => exact ⟨0, Nat.zero_le _, rfl, hide rfl⟩
  case round =>
    obtain ⟨k, hk, rfl, HA⟩ := hrel
    by_cases hlt : k < s.size
    · have hsn := take_snoc s k hlt
      have hcase := nmB_case s[k]
      have hbl := byte_lt s[k]
      have HNX : Hid (nmB s[k] = true → (s.data.toList.take (k + 1)).all nmB = true) := hide (fun h => by rw [hsn, List.all_append, HA.out]; simp [h])
      have HNO : Hid (nmB s[k] = false → nameB s.data.toList = false) := hide (fun h => by
        have hm : s[k] ∈ s.data.toList := by
          have := drop_cons s k hlt
          exact List.mem_of_mem_drop (i := k) (by rw [this]; exact List.mem_cons_self ..)
        unfold nameB
        have : s.data.toList.all nmB = false := by
          cases e : s.data.toList.all nmB with
          | false => rfl
          | true => rw [List.all_eq_true.1 e _ hm] at h; cases h
        rw [this]; rfl)
      clear hsn
      rcases hcase with ⟨a1, a2, h⟩ | ⟨a1, a2, a3, h⟩ | ⟨a1, a2, a3, h⟩ | ⟨a1, a2, a3, h⟩
      · have HX := hide (HNX.out h)
        have t1 : decide ((97 : Int) ≤ (s[k].toNat : Int)) = true := decide_eq_true (by omega)
        have t2 : decide ((s[k].toNat : Int) ≤ 122) = true := decide_eq_true (by omega)
        clear h a1 a2
        go_wp2_with fail
        go_round
        case rel => exact ⟨k + 1, by omega, by go_num, HX⟩
        case measure => simp [intOf]; omega
      · have HX := hide (HNX.out h)
        have t3 : decide ((48 : Int) ≤ (s[k].toNat : Int)) = true := decide_eq_true (by omega)
        have t4 : decide ((s[k].toNat : Int) ≤ 57) = true := decide_eq_true (by omega)
        have tt := two_tests s[k].toNat 97 122 (by omega)
        clear h a1 a2 a3
        rcases tt with t1 | ⟨t1, t2⟩
        all_goals
          go_wp2_with fail
          go_round
          case rel => exact ⟨k + 1, by omega, by go_num, HX⟩
          case measure => simp [intOf]; omega
      · have HX := hide (HNX.out h)
        have t5 : ((s[k].toNat : Int) == 45) = true := tT 45 a3 (by omega)
        have tt := two_tests s[k].toNat 97 122 (by omega)
        have uu := two_tests s[k].toNat 48 57 (by omega)
        clear h a1 a2 a3
        rcases tt with t1 | ⟨t1, t2⟩
        all_goals rcases uu with t3 | ⟨t3, t4⟩
        all_goals
          go_wp2_with fail
          go_round
          case rel => exact ⟨k + 1, by omega, by go_num, HX⟩
          case measure => simp [intOf]; omega
      · have HX := hide (HNO.out h)
        have t5 : ((s[k].toNat : Int) == 45) = false := tF 45 a3 (by omega)
        have tt := two_tests s[k].toNat 97 122 (by omega)
        have uu := two_tests s[k].toNat 48 57 (by omega)
        clear h a1 a2 a3
        rcases tt with t1 | ⟨t1, t2⟩
        all_goals rcases uu with t3 | ⟨t3, t4⟩
        all_goals
          go_wp2_with fail
          go_ret
          exact ⟨by rw [HX.out] <;> rfl, rfl⟩
    · have hke : k = s.size := by omega
      have HX : Hid (nameB s.data.toList = !s.data.toList.isEmpty) := hide (by
        have := HA.out
        rw [hke, ← toList_length, List.take_length] at this
        unfold nameB; rw [this]; rfl)
      have hbb : s.toList.isEmpty = s.data.toList.isEmpty := by rw [bytes_list]
      rw [← hbb] at HX
      clear hke hbb
      cases hE : s.toList.isEmpty
      all_goals
        rw [hE] at HX
        go_wp2_with fail
        go_ret
        exact ⟨by rw [HX.out] <;> rfl, rfl⟩
end Go.Proofs.YtienjpelmbldpaaGreatDoor

/- WALK of param.pieces. No statement is proved here. -/
namespace Go.Proofs.YtienjpelmbldpaaGreatDoor
open Go.RowKit
set_option linter.unusedVariables false
set_option linter.unusedSimpArgs false
set_option maxRecDepth 100000
theorem readQ_pos (r : List UInt8) : 1 ≤ (readQ (34 :: r)).2 := by
  unfold readQ
  simp only [beq_self_eq_true, if_true]
  omega
/-- the pieces of a text between its `;` that are not quoted; cur: what the piece has that is read just now -/
def pcL (cur : List UInt8) : List UInt8 → List (List UInt8)
  | [] => [cur]
  | c :: r => if c = 34 then pcL (cur ++ (c :: r).take ((readQ (c :: r)).2 - 1 + 1)) (r.drop ((readQ (c :: r)).2 - 1))
    else if c = 59 then cur :: pcL [] r else pcL (cur ++ [c]) r
termination_by l => l.length
decreasing_by all_goals simp; try omega
theorem pcL_nil (cur : List UInt8) : pcL cur [] = [cur] := by rw [pcL]
theorem pcL_quote (cur r : List UInt8) : pcL cur (34 :: r) = pcL (cur ++ (34 :: r).take (readQ (34 :: r)).2) ((34 :: r).drop (readQ (34 :: r)).2) := by
  rw [pcL, if_pos rfl]
  have := readQ_pos r
  obtain ⟨n, hn⟩ : ∃ n, (readQ (34 :: r)).2 = n + 1 := ⟨(readQ (34 :: r)).2 - 1, by omega⟩
  rw [hn]; rfl
theorem pcL_semi (cur r : List UInt8) : pcL cur (59 :: r) = cur :: pcL [] r := by rw [pcL, if_neg (by decide), if_pos rfl]
theorem pcL_other (cur : List UInt8) {c : UInt8} (h1 : c ≠ 34) (h2 : c ≠ 59) (r : List UInt8) : pcL cur (c :: r) = pcL (cur ++ [c]) r := by rw [pcL, if_neg h1, if_neg h2]
theorem mid_snoc (s : ByteArray) (b i n : Nat) (h : b ≤ i) (hn : i + n ≤ s.size) : (s.extract b i).data.toList ++ (s.data.toList.drop i).take n = (s.extract b (i + n)).data.toList := by
  rw [extract_list, extract_list, List.take_add, List.drop_append_of_le_length (by rw [List.length_take, toList_length]; omega)]
set_option maxHeartbeats 4000000 in
theorem pieces_any (s : ByteArray) (w : World) (hs : s.size ≤ 1048576) :
    Calls Tryz.prog 19 #[.string s] w fun e w' => ∃ (v : Value) (ps : List ByteArray), e = .returned v ∧ SBuf w.heap.size v ps w w' ∧ ps.map (fun x => x.data.toList) = pcL [] s.data.toList ∧ 1 ≤ ps.length ∧ ps.length ≤ s.size + 1 := by
  have HB0 := hide (SBuf.nil (Below.refl w.heap.size w) (Nat.le_refl _))
  go_enter Tryz.func19, Tryz.ntmps19
  go_wp2_with fail
  go_loopw [3, 4, 5] (fun v bv iv wr => ∃ (k b : Nat) (ps : List ByteArray), b ≤ k ∧ k ≤ s.size ∧ bv = .int .i64 b ∧ iv = .int .i64 k ∧ Hid (SBuf w.heap.size v ps w wr) ∧ Hid (ps.length ≤ k) ∧
    Hid (ps.map (fun x => x.data.toList) ++ pcL (s.extract b k).data.toList (s.data.toList.drop k) = pcL [] s.data.toList)) (fun _ _ iv _ => s.size - (intOf iv).toNat)
  case atStart => exact ⟨0, 0, [], Nat.le_refl _, Nat.zero_le _, rfl, rfl, HB0, hide (Nat.le_refl _), hide (by rw [extract_none]; rfl)⟩
  case round =>
    obtain ⟨k, b, ps, hbk, hk, rfl, rfl, HB, HL, HG⟩ := hrel
    by_cases hlt : k < s.size
    · have hdr := drop_cons s k hlt
      have hG := HG.out
      rw [hdr] at hG
      by_cases h34 : s[k] = 34
      · have t1 : ((s[k].toNat : Int) == ((((⟨#[34]⟩ : ByteArray)[0]'(by decide)).toNat : Nat) : Int)) = true := tT 34 h34 (by omega)
        have hG2 := hG
        rw [h34, pcL_quote] at hG2
        have hle := (readQ_le (34 :: s.data.toList.drop (k + 1))).2
        have hpos := readQ_pos (s.data.toList.drop (k + 1))
        obtain ⟨x, n, hx⟩ : ∃ x n, readQ (34 :: s.data.toList.drop (k + 1)) = (x, n) := ⟨_, _, rfl⟩
        have HQ := hide (fun (w : World) => readQ_any (s.extract k s.size) w (by rw [ByteArray.size_extract]; omega))
        rw [extract_end, hdr, h34, hx] at HQ
        simp only [readV] at HQ
        rw [hx] at hle hpos hG2
        rw [List.length_cons, List.length_drop, toList_length] at hle
        have hd2 : s.data.toList.drop k = 34 :: s.data.toList.drop (k + 1) := by rw [hdr, h34]
        have HGN : Hid (ps.map (fun x => x.data.toList) ++ pcL (s.extract b (k + n)).data.toList (s.data.toList.drop (k + n)) = pcL [] s.data.toList) := hide (by
          rw [← hG2, ← hd2, mid_snoc s b k n hbk (by omega), List.drop_drop])
        have k1 : (k : Int) ≤ s.size := by omega
        have q1 : IntKind.i64.wrap ((k : Int) + (n : Int)) = ((k + n : Nat) : Int) := by rw [IntWalk.i64_in _ (by omega)]; omega
        have n1 : 1 ≤ n := hpos
        have n2 : k + n ≤ s.size := by omega
        clear hdr hG hG2 h34 hx hle hd2 hpos
        go_wp2_with (go_at_call 40; refine (HQ.out _).mono ?_; rintro e w2 ⟨rfl, hb2⟩; have HB2 := hide (HB.out.kept hb2); clear hb2)
        go_roundw
        case rel => exact ⟨k + n, b, ps, by omega, n2, rfl, by go_num, HB2, hide (by have := HL.out; omega), HGN⟩
        case measure => simp [intOf]; omega
      · have t1 : ((s[k].toNat : Int) == ((((⟨#[34]⟩ : ByteArray)[0]'(by decide)).toNat : Nat) : Int)) = false := tF 34 h34 (by omega)
        by_cases h59 : s[k] = 59
        · have t2 : ((s[k].toNat : Int) == ((((⟨#[59]⟩ : ByteArray)[0]'(by decide)).toNat : Nat) : Int)) = true := tT 59 h59 (by omega)
          have HGN : Hid ((ps ++ [s.extract b k]).map (fun x => x.data.toList) ++ pcL (s.extract (k + 1) (k + 1)).data.toList (s.data.toList.drop (k + 1)) = pcL [] s.data.toList) := hide (by
            rw [← hG, h59, pcL_semi, extract_none, List.map_append, List.append_assoc]; rfl)
          have k1 : (k : Int) ≤ s.size := by omega
          have b1 : (b : Int) ≤ k := by omega
          have HLN : Hid (ps.length + 1 ≤ 8796093022208) := hide (by have := HL.out; omega)
          clear hdr hG h34 h59
          go_wp2_with (refine wpList_strs rfl _ _ rfl w.heap.size u3 ps rfl w wr (s.extract b k) HB.out rfl HLN.out ?_; intro v2 w2 hb2; have HB2 := hide hb2; clear hb2)
          go_roundw
          case rel => exact ⟨k + 1, k + 1, _, Nat.le_refl _, by omega, by go_num, by go_num, HB2, hide (by have := HL.out; simp; omega), HGN⟩
          case measure => simp [intOf]; omega
        · have t2 : ((s[k].toNat : Int) == ((((⟨#[59]⟩ : ByteArray)[0]'(by decide)).toNat : Nat) : Int)) = false := tF 59 h59 (by omega)
          have HGN : Hid (ps.map (fun x => x.data.toList) ++ pcL (s.extract b (k + 1)).data.toList (s.data.toList.drop (k + 1)) = pcL [] s.data.toList) := hide (by
            rw [← hG, pcL_other _ h34 h59, ← mid_snoc s b k 1 hbk (by omega), hdr]; rfl)
          clear hdr hG h34 h59
          go_wp2_with fail
          go_roundw
          case rel => exact ⟨k + 1, b, ps, by omega, by omega, rfl, by go_num, HB, hide (by have := HL.out; omega), HGN⟩
          case measure => simp [intOf]; omega
    · have hke : k = s.size := by omega
      have HGE : Hid ((ps ++ [s.extract b s.size]).map (fun x => x.data.toList) = pcL [] s.data.toList) := hide (by
        have := HG.out
        rw [hke, drop_nil s s.size (Nat.le_refl _), pcL_nil] at this
        rw [← this, List.map_append]; rfl)
      have b1 : (b : Int) ≤ s.size := by omega
      have HLN : Hid (ps.length + 1 ≤ 8796093022208) := hide (by have := HL.out; omega)
      have HLE : Hid ((ps ++ [s.extract b s.size]).length ≤ s.size + 1) := hide (by have := HL.out; simp; omega)
      clear hke
      go_wp2_with (refine wpList_strs rfl _ _ rfl w.heap.size u3 ps rfl w wr (s.extract b s.size) HB.out rfl HLN.out ?_; intro v2 w2 hb2; have HB2 := hide hb2; clear hb2)
      go_ret
      exact ⟨_, _, rfl, HB2.out, HGE.out, by simp, HLE.out⟩
end Go.Proofs.YtienjpelmbldpaaGreatDoor

/- WALKS of param.mayBeMain, written; strconv.Itoa as it is used there. No statement is proved here. -/
namespace Go.Proofs.YtienjpelmbldpaaGreatDoor
open Go.RowKit
set_option linter.unusedVariables false
set_option linter.unusedSimpArgs false
set_option maxRecDepth 100000
/-- what stands behind a name for its value -/
def wrL (l : List UInt8) : List UInt8 := if encodeL l = l then 61 :: quoteL l else [42, 61, 117, 116, 102, 45, 56, 39, 39] ++ penc l
theorem str_cons_app (a b : List UInt8) : str (a ++ b) = str a ++ str b := str_append a b
set_option maxHeartbeats 2000000 in
theorem written_any (s : ByteArray) (m : Int) (w : World) (hs : s.size ≤ 100000) (hm : w.cell? ⟨0, 0, none⟩ = some (.int .i64 m)) :
    Calls Tryz.prog 34 #[.string s] w fun e w' => e = .returned (.string (str (wrL s.data.toList))) ∧ Below w.heap.size w w' := by
  obtain ⟨E, hE⟩ : ∃ E, E = str (encodeL s.data.toList) := ⟨_, rfl⟩
  have HE := hide (wordEncode_any s m w hs hm)
  rw [← hE] at HE
  have HQ := hide (fun (w : World) => writeQ_any s w (by omega))
  have HP := hide (fun (w : World) => encode_any s w (by omega))
  have zq : (quoteL s.data.toList).length ≤ 2 * s.size + 2 := by have := escL_length s.data.toList; rw [toList_length] at this; unfold quoteL; simp only [List.length_cons, List.length_append, List.length_nil]; omega
  have zp : (penc s.data.toList).length ≤ 3 * s.size := by have := (penc_length s.data.toList).2; rw [toList_length] at this; omega
  obtain ⟨Q, hQ⟩ : ∃ Q, Q = str (quoteL s.data.toList) := ⟨_, rfl⟩
  obtain ⟨P, hP⟩ : ∃ P, P = str (penc s.data.toList) := ⟨_, rfl⟩
  have zQ : Q.size ≤ 1000000 := by rw [hQ, str_size]; omega
  have zP : P.size ≤ 1000000 := by rw [hP, str_size]; omega
  rw [← hQ] at HQ
  rw [← hP] at HP
  by_cases he : encodeL s.data.toList = s.data.toList
  · have HV : Hid (str (wrL s.data.toList) = (⟨#[61]⟩ : ByteArray) ++ Q) := hide (by
      unfold wrL; rw [if_pos he, hQ]
      show str ([61] ++ quoteL s.data.toList) = _
      rw [str_append]; rfl)
    have t1 : (E.toList == s.toList) = true := by rw [hE, str_list, bytes_list, he]; exact beq_self_eq_true _
    clear hE he zq zp hQ hP hm
    go_enter Tryz.func34, Tryz.ntmps34
    go_wp2_with (first
      | (go_at_call 53; refine HE.out.mono ?_; rintro e w1 ⟨rfl, hb1⟩; have HB1 := hide hb1; clear hb1)
      | (go_at_call 54; refine (HQ.out _).mono ?_; rintro e w2 ⟨rfl, hb2⟩; have HB2 := hide (HB1.out.trans (hb2.mono HB1.out.size)); clear hb2))
    go_ret
    exact ⟨by rw [HV.out] <;> rfl, HB2.out⟩
  · have HV : Hid (str (wrL s.data.toList) = (⟨#[42, 61, 117, 116, 102, 45, 56, 39, 39]⟩ : ByteArray) ++ P) := hide (by
      unfold wrL; rw [if_neg he, hP, str_append]; rfl)
    have t1 : (E.toList == s.toList) = false := by rw [hE, str_list, bytes_list]; exact beq_eq_false_iff_ne.2 he
    clear hE he zq zp hQ hP hm
    go_enter Tryz.func34, Tryz.ntmps34
    go_wp2_with (first
      | (go_at_call 53; refine HE.out.mono ?_; rintro e w1 ⟨rfl, hb1⟩; have HB1 := hide hb1; clear hb1)
      | (go_at_call 55; refine (HP.out _).mono ?_; rintro e w2 ⟨rfl, hb2⟩; have HB2 := hide (HB1.out.trans (hb2.mono HB1.out.size)); clear hb2))
    go_ret
    exact ⟨by rw [HV.out] <;> rfl, HB2.out⟩
/-- may a main word be written? -/
def mainB (l : List UInt8) : Bool := !ctlL l && !hasAny [59, 34] l && (tsL l == l)
set_option maxHeartbeats 2000000 in
theorem mayMain_any (s : ByteArray) (w : World) (hs : s.size ≤ 1048576) :
    Calls Tryz.prog 30 #[.string s] w fun e w' => e = .returned (.bool (mainB s.data.toList)) ∧ Below w.heap.size w w' := by
  have HC := hide (fun (w : World) => control_any s w (by omega))
  obtain ⟨T, hT⟩ : ∃ T, T = str (tsL s.data.toList) := ⟨_, rfl⟩
  have HS := hide (fun (w : World) => trimSmall_any s w hs)
  rw [← hT] at HS
  have HA := hide (fun (w : World) => containsAny_any s ⟨#[59, 34]⟩ w (by decide) (by decide) hs (by decide))
  have e3 : (tsL s.data.toList == s.data.toList) = (T.toList == s.toList) := by rw [hT, str_list, bytes_list]
  have HV : Hid (mainB s.data.toList = (!ctlL s.data.toList && !hasAny [59, 34] s.data.toList && (T.toList == s.toList))) := hide (by unfold mainB; rw [e3])
  rw [HV.out]
  clear hT e3 HV
  cases h1 : ctlL s.data.toList with
  | true =>
    rw [h1] at HC
    clear h1
    go_enter Tryz.func30, Tryz.ntmps30
    go_wp2_with (go_at_call 33; refine (HC.out _).mono ?_; rintro e wx ⟨rfl, hwx⟩; obtain rfl := hwx)
    go_ret
    exact ⟨rfl, Below.refl _ _⟩
  | false =>
    rw [h1] at HC
    clear h1
    cases h2 : hasAny [59, 34] s.data.toList with
    | true =>
      rw [show (⟨#[59, 34]⟩ : ByteArray).data.toList = [59, 34] from rfl, h2] at HA
      clear h2
      go_enter Tryz.func30, Tryz.ntmps30
      go_wp2_with (first
        | (go_at_call 33; refine (HC.out _).mono ?_; rintro e wx ⟨rfl, hwx⟩; obtain rfl := hwx)
        | (go_at_call 51; refine (HA.out _).mono ?_; rintro e w1 ⟨rfl, hb1⟩; have HB1 := hide hb1; clear hb1))
      go_ret
      exact ⟨rfl, HB1.out⟩
    | false =>
      rw [show (⟨#[59, 34]⟩ : ByteArray).data.toList = [59, 34] from rfl, h2] at HA
      clear h2
      go_enter Tryz.func30, Tryz.ntmps30
      go_wp2_with (first
        | (go_at_call 33; refine (HC.out _).mono ?_; rintro e wx ⟨rfl, hwx⟩; obtain rfl := hwx)
        | (go_at_call 51; refine (HA.out _).mono ?_; rintro e w1 ⟨rfl, hb1⟩; have HB1 := hide hb1; clear hb1)
        | (go_at_call 22; refine (HS.out _).mono ?_; rintro e w2 ⟨rfl, hb2⟩; have HB2 := hide (HB1.out.trans (hb2.mono HB1.out.size)); clear hb2))
      go_ret
      exact ⟨rfl, HB2.out⟩
end Go.Proofs.YtienjpelmbldpaaGreatDoor

/- Maps with texts as keys, and texts or bools as elements, said by what they hold at each text. No statement is proved here. -/
namespace Go.Proofs.YtienjpelmbldpaaGreatDoor
open Go.RowKit Go.Maps Go.WideShapes Go.WideMaps
open Go.ChangeMaps (setBlock heap_setBlock_other)
set_option linter.unusedVariables false
set_option linter.unusedSimpArgs false
set_option maxRecDepth 100000
theorem keyedT : Keyed Tryz.prog 9 := string_keyed Tryz.underlying9
theorem zeroT (w : World) : (zeroValue 9).run Tryz.prog w = .ok (.string ⟨#[]⟩) w := by kernel_rfl
theorem zeroB (w : World) : (zeroValue 4).run Tryz.prog w = .ok (.bool false) w := by kernel_rfl
def putF {α : Type} (f : List UInt8 → Option α) (k : List UInt8) (v : α) : List UInt8 → Option α := fun y => if y = k then some v else f y
/-- block b is a map of at most n entries, that holds the texts f -/
def TMap (w : World) (b n : Nat) (f : List UInt8 → Option (List UInt8)) : Prop :=
  ∃ D : DataW Unit, w.ownsMap Tryz.prog 9 (plainElem Tryz.prog 9) b n D ∧ IsMap D ∧
    ∀ s : List UInt8, Maps.has D (.string s) = (f s).isSome ∧ D.atKey (.string s) (.lit (.string [])) = .lit (.string ((f s).getD []))
/-- block b is a map of at most n entries, that holds the bools f -/
def BMap (w : World) (b n : Nat) (f : List UInt8 → Option Bool) : Prop :=
  ∃ D : DataW Unit, w.ownsMap Tryz.prog 9 (plainElem Tryz.prog 4) b n D ∧ IsMap D ∧
    ∀ s : List UInt8, Maps.has D (.string s) = (f s).isSome ∧ D.atKey (.string s) (.lit (.bool false)) = .lit (.bool ((f s).getD false))
theorem TMap.made (w : World) : TMap (w.alloc (.map #[] 0)) w.heap.size 0 (fun _ => none) := ⟨_, World.ownsMap_made w Tryz.prog _ _, isMap_empty, fun s => ⟨rfl, rfl⟩⟩
theorem BMap.made (w : World) : BMap (w.alloc (.map #[] 0)) w.heap.size 0 (fun _ => none) := ⟨_, World.ownsMap_made w Tryz.prog _ _, isMap_empty, fun s => ⟨rfl, rfl⟩⟩
theorem TMap.same {w w' : World} {b n : Nat} {f : List UInt8 → Option (List UInt8)} (h : TMap w b n f) (e : w'.heap[b]? = w.heap[b]?) : TMap w' b n f := by
  obtain ⟨D, ⟨es, clock, hb, r⟩, h2⟩ := h
  exact ⟨D, ⟨es, clock, e.trans hb, r⟩, h2⟩
theorem BMap.same {w w' : World} {b n : Nat} {f : List UInt8 → Option Bool} (h : BMap w b n f) (e : w'.heap[b]? = w.heap[b]?) : BMap w' b n f := by
  obtain ⟨D, ⟨es, clock, hb, r⟩, h2⟩ := h
  exact ⟨D, ⟨es, clock, e.trans hb, r⟩, h2⟩
theorem TMap.lt {w : World} {b n : Nat} {f : List UInt8 → Option (List UInt8)} (h : TMap w b n f) : b < w.heap.size := by obtain ⟨D, h1, _⟩ := h; exact h1.lt
theorem BMap.lt {w : World} {b n : Nat} {f : List UInt8 → Option Bool} (h : BMap w b n f) : b < w.heap.size := by obtain ⟨D, h1, _⟩ := h; exact h1.lt
theorem TMap.kept {w w' : World} {b n : Nat} {f : List UInt8 → Option (List UInt8)} (h : TMap w b n f) (hb : Below w.heap.size w w') : TMap w' b n f := h.same (hb.block b h.lt)
theorem BMap.kept {w w' : World} {b n : Nat} {f : List UInt8 → Option Bool} (h : BMap w b n f) (hb : Below w.heap.size w w') : BMap w' b n f := h.same (hb.block b h.lt)
theorem TMap.is {w : World} {b n : Nat} {f : List UInt8 → Option (List UInt8)} (h : TMap w b n f) : ∃ es clock, w.heap[b]? = some (.map es clock) := by
  obtain ⟨D, ⟨es, clock, hb, r⟩, h2⟩ := h; exact ⟨es, clock, hb⟩
theorem BMap.is {w : World} {b n : Nat} {f : List UInt8 → Option Bool} (h : BMap w b n f) : ∃ es clock, w.heap[b]? = some (.map es clock) := by
  obtain ⟨D, ⟨es, clock, hb, r⟩, h2⟩ := h; exact ⟨es, clock, hb⟩
theorem TMap.look_ok {w : World} {b n : Nat} {f : List UInt8 → Option (List UInt8)} (h : TMap w b n f) (s : ByteArray) (hs : s.size ≤ maxLen) :
    (Instr.lookup 41 (.map (some b)) (.string s) true).run Tryz.prog w = .ok (.tuple #[.string (str ((f s.data.toList).getD [])), .bool (f s.data.toList).isSome]) w := by
  obtain ⟨D, h1, h2, h3⟩ := h
  obtain ⟨v, ps, hr, hv⟩ := h1.look_ok keyedT Tryz.underlying41 (zeroT w) (plainElem_string Tryz.underlying9 (s := ⟨#[]⟩) (by decide)) (keyOf_string_mk Tryz.underlying9 hs)
  obtain ⟨x, rfl, hx, _⟩ := plainElem_string_inv Tryz.underlying9 hv
  obtain ⟨g1, g2⟩ := h3 s.data.toList
  have e := congrArg Prod.fst hx
  rw [show (DataW.lit (.string (⟨#[]⟩ : ByteArray).data.toList) : DataW Unit) = .lit (.string []) from rfl, g2] at e
  injection e with e
  injection e with e
  rw [hr, g1, e, str_of]
theorem BMap.look {w : World} {b n : Nat} {f : List UInt8 → Option Bool} (h : BMap w b n f) (s : ByteArray) (hs : s.size ≤ maxLen) :
    (Instr.lookup 48 (.map (some b)) (.string s) false).run Tryz.prog w = .ok (.bool ((f s.data.toList).getD false)) w := by
  obtain ⟨D, ⟨es, clock, hb, F, _, rfl⟩, h2, h3⟩ := h
  obtain ⟨g1, g2⟩ := h3 s.data.toList
  rcases Maps.fit_look false keyedT Tryz.underlying48 (zeroB w) hb F (keyOf_string_mk Tryz.underlying9 hs) with ⟨hrun, _, hat⟩ | ⟨e0, y, _, _, hrun, hRv, hat, _⟩
  · rw [hat] at g2
    injection g2 with g2
    injection g2 with g2
    rw [hrun, ← g2]; rfl
  · obtain ⟨x, hx, hy⟩ : ∃ x, e0.val = .bool x ∧ y.1 = .lit (.bool x) := by
      cases hv : e0.val <;> rw [hv] at hRv <;> simp [plainElem, Tryz.underlying4] at hRv
      exact ⟨_, rfl, by rw [← hRv]⟩
    rw [hat, hy] at g2
    injection g2 with g2
    injection g2 with g2
    rw [hrun, hx, ← g2]; rfl
theorem TMap.look {w : World} {b n : Nat} {f : List UInt8 → Option (List UInt8)} (h : TMap w b n f) (s : ByteArray) (hs : s.size ≤ maxLen) :
    (Instr.lookup 41 (.map (some b)) (.string s) false).run Tryz.prog w = .ok (.string (str ((f s.data.toList).getD []))) w := by
  obtain ⟨D, ⟨es, clock, hb, F, _, rfl⟩, h2, h3⟩ := h
  obtain ⟨g1, g2⟩ := h3 s.data.toList
  rcases Maps.fit_look false keyedT Tryz.underlying41 (zeroT w) hb F (keyOf_string_mk Tryz.underlying9 hs) with ⟨hrun, _, hat⟩ | ⟨e0, y, _, _, hrun, hRv, hat, _⟩
  · rw [hat] at g2
    injection g2 with g2
    injection g2 with g2
    rw [hrun, ← g2]; rfl
  · obtain ⟨x, hx, hy0, _⟩ := plainElem_string_inv Tryz.underlying9 hRv
    have hy := congrArg Prod.fst hy0
    rw [hat, hy] at g2
    injection g2 with g2
    injection g2 with g2
    rw [hrun, hx, ← g2, str_of]; rfl
/-- a block was turned, a map; all others stand -/
def Turned (b : Nat) (w w' : World) : Prop := w.heap.size = w'.heap.size ∧ (∀ k, k ≠ b → w'.heap[k]? = w.heap[k]?) ∧ ∀ B, B ≤ b → Below B w w'
theorem turned_of {b : Nat} {w w' : World} (h : w.mapTurned w' b) : Turned b w w' := by
  have hg := h.grown
  obtain ⟨es, clock, es', clock', hb, rfl⟩ := h
  exact ⟨by simp [setBlock], fun k hk => heap_setBlock_other hb _ (fun e => hk e), fun B hB => ⟨rfl, rfl, rfl, by simp [setBlock], fun k hk => heap_setBlock_other hb _ (fun e => by omega)⟩⟩
theorem TMap.put {w : World} {b n : Nat} {f : List UInt8 → Option (List UInt8)} (h : TMap w b n f) (hn : n < maxLen) (s v : ByteArray) (hs : s.size ≤ maxLen) (hv : v.size ≤ maxLen) :
    ∃ w', (Instr.mapUpdate 41 (.map (some b)) (.string s) (.string v)).run Tryz.prog w = .ok () w' ∧ TMap w' b (n + 1) (putF f s.data.toList v.data.toList) ∧ Turned b w w' := by
  obtain ⟨D, h1, h2, h3⟩ := h
  obtain ⟨w', hrun, r1, r2⟩ := h1.store keyedT Tryz.underlying41 hn (keyOf_string_mk Tryz.underlying9 hs) (plainElem_string Tryz.underlying9 hv)
  refine ⟨w', hrun, ⟨_, r1, h2.put _ _, fun y => ?_⟩, turned_of r2⟩
  unfold putF
  by_cases e : y = s.data.toList
  · subst e
    exact ⟨(has_put_same h2 (show WideAt.IsKeyLit (.string s.data.toList) from trivial) _).trans (by simp), (atKey_put_same h2 (show WideAt.IsKeyLit (.string s.data.toList) from trivial) _ _).trans (by simp)⟩
  · have hne : (Lit.string y) ≠ (Lit.string s.data.toList) := fun h => e (by injection h)
    obtain ⟨g1, g2⟩ := h3 y
    exact ⟨(has_put_other hne _).trans (by simp [g1, e]), (atKey_put_other hne _ _).trans (by simp [g2, e])⟩
theorem BMap.put {w : World} {b n : Nat} {f : List UInt8 → Option Bool} (h : BMap w b n f) (hn : n < maxLen) (s : ByteArray) (v : Bool) (hs : s.size ≤ maxLen) :
    ∃ w', (Instr.mapUpdate 48 (.map (some b)) (.string s) (.bool v)).run Tryz.prog w = .ok () w' ∧ BMap w' b (n + 1) (putF f s.data.toList v) ∧ Turned b w w' := by
  obtain ⟨D, h1, h2, h3⟩ := h
  obtain ⟨w', hrun, r1, r2⟩ := h1.store keyedT Tryz.underlying48 hn (keyOf_string_mk Tryz.underlying9 hs) (plainElem_bool Tryz.underlying4 v)
  refine ⟨w', hrun, ⟨_, r1, h2.put _ _, fun y => ?_⟩, turned_of r2⟩
  unfold putF
  by_cases e : y = s.data.toList
  · subst e
    exact ⟨(has_put_same h2 (show WideAt.IsKeyLit (.string s.data.toList) from trivial) _).trans (by simp), (atKey_put_same h2 (show WideAt.IsKeyLit (.string s.data.toList) from trivial) _ _).trans (by simp)⟩
  · have hne : (Lit.string y) ≠ (Lit.string s.data.toList) := fun h => e (by injection h)
    obtain ⟨g1, g2⟩ := h3 y
    exact ⟨(has_put_other hne _).trans (by simp [g1, e]), (atKey_put_other hne _ _).trans (by simp [g2, e])⟩
end Go.Proofs.YtienjpelmbldpaaGreatDoor

/- WALKS of a builder's WriteString, that leaves maps as they are. No statement is proved here. -/
namespace Go.Proofs.YtienjpelmbldpaaGreatDoor
open Go.RowKit
set_option linter.unusedVariables false
set_option linter.unusedSimpArgs false
set_option maxRecDepth 100000
/-- blocks that are maps are as they were -/
def KM (w w' : World) : Prop := ∀ (m : Nat) es c, w.heap[m]? = some (Obj.map es c) → w'.heap[m]? = some (Obj.map es c)
theorem KM.refl (w : World) : KM w w := fun _ _ _ h => h
theorem KM.trans {a b c : World} (h : KM a b) (k : KM b c) : KM a c := fun m es x hm => k m es x (h m es x hm)
theorem KM.alloc (w : World) (o : Obj) : KM w (w.alloc o) := fun m es x hm => (Below.heap_alloc w o m (Array.getElem?_eq_some_iff.1 hm).1).trans hm
theorem KM.below {w w' : World} (h : Below w.heap.size w w') : KM w w' := fun m es x hm => (h.block m (Array.getElem?_eq_some_iff.1 hm).1).trans hm
theorem KM.set {w : World} {b : Nat} {cs : Array Value} {t : TypeId} {fr : Nat × Nat} (h : w.heap[b]? = some (.cells cs t fr)) (i : Nat) (v : Value) : KM w (w.setCell ⟨b, i, none⟩ v) := fun m es x hm => by
  have hne : m ≠ b := by rintro rfl; rw [h] at hm; cases hm
  exact (Below.heap_setCell w _ v m hne).trans hm
theorem KM.own {w w' : World} {B n : Nat} {e : TypeId} {v : Value} {xs : List Value} (h : w.ownsRow B e 1 v n xs) (hg : w.grownBy w' v.ownBlock) : KM w w' := fun m es x hm => by
  refine (hg.block m (Array.getElem?_eq_some_iff.1 hm).1 (fun he => ?_)).trans hm
  rcases h.2 with ⟨rfl, _⟩ | ⟨g, cap, cur, rfl, _, hh, _⟩
  · simp [Value.ownBlock] at he
  · have e1 : g = m := by simpa [Value.ownBlock] using he.symm
    subst e1
    rw [hh] at hm; cases hm
theorem copyCheckM_any (B b : Nat) (bs : List Value) (w : World) (h : Lib.IsBuilder 52 5 B b bs w) :
    Calls Tryz.prog 52 #[.pointer (some ⟨b, 0, none⟩)] w fun e w' => e = .returned (.tuple #[]) ∧ Lib.BuilderAt 52 5 B b (.pointer (some ⟨b, 0, none⟩)) bs w' ∧ Below B w w' ∧ KM w w' := by
  rcases h with h | h
  · obtain ⟨hB, v, hbk, ho, hne⟩ := id h
    refine (copyCheck_fresh b w h.cell0 h.shape h.frozen0).mono ?_
    rintro e w' ⟨rfl, rfl⟩
    exact ⟨rfl, h.used _, (Below.refl B w).setCell (p := ⟨b, 0, none⟩) h.1 _, KM.set hbk _ _⟩
  · refine (copyCheck_used b w h.cell0).mono ?_
    rintro e w' ⟨rfl, rfl⟩
    exact ⟨rfl, h, Below.refl B _, KM.refl _⟩
set_option maxHeartbeats 1000000 in
theorem writeStringM_any (B b : Nat) (l : List UInt8) (s : ByteArray) (W0 w : World) (h : Bld B b l W0 w) (hlen : l.length + s.size ≤ 140737488355328) :
    Calls Tryz.prog 31 #[.pointer (some ⟨b, 0, none⟩), .string s] w fun e w' => e = .returned (.tuple #[.int .i64 s.size, .nilIface]) ∧ Bld B b (l ++ s.data.toList) W0 w' ∧ KM w w' := by
  obtain ⟨h, hbel, hBw⟩ := h
  obtain ⟨i0, hi, hz0, hz1, hz2⟩ := info_parts info_u8
  have HBL := hide hbel
  clear hbel
  go_enter Tryz.func31, Tryz.ntmps31
  go_wp2_with fail
  refine (copyCheckM_any B b (cellsOf l) _ h).mono ?_
  rintro e w1 ⟨rfl, h1, hb1, hk1⟩
  have HK1 := hide hk1
  clear hk1
  obtain ⟨hB, v, hbk, hown, hne⟩ := h1
  have c1 : w1.cell? ⟨b, 1, none⟩ = some v := by rw [Lib.cell_of_heap hbk]; rfl
  have hlt : b < w1.heap.size := lt_of_block hbk
  have hl1 : (cellsOf l).length = l.length := cellsOf_length l
  have HBK := hide hbk
  have HOWN := hide hown
  have HNE := hide hne
  have HB1 := hide hb1
  have hsz1 := hb1.size
  have HI := hide hi
  have HZ0 := hide hz0
  have HZ1 := hide hz1
  have HZ2 := hide hz2
  have HL1 := hide hl1
  clear hbk hown hne hb1 hi hz0 hz1 hz2 h
  go_wp2_with (refine Lib.wpList_append_own_string _ rfl _ _ 50 9 rfl B 5 i0 Tryz.underlying50 Tryz.underlying9 HI.out HZ0.out HZ1.out HZ2.out v (cellsOf l).length (cellsOf l) rfl HOWN.out s rfl (by rw [HL1.out]; unfold maxLen; omega) (by rw [HL1.out]; omega) (by omega) ?_
               intro v' w2 hown' hgrow _
               obtain ⟨ao, n', cap, rfl⟩ : ∃ ao n' cap, v' = .slice ao n' cap := by
                 rcases hown'.2 with ⟨hv, _⟩ | ⟨g, cap, cur, hv, _⟩
                 · exact ⟨_, _, _, hv⟩
                 · exact ⟨_, _, _, hv⟩
               have hb2 : w2.heap[b]? = some (.cells #[.pointer (some ⟨b, 0, none⟩), v] 52 (0, 0)) := by
                 rw [hgrow.block b hlt (fun e => HNE.out e.symm)]
                 exact HBK.out
               have d1 : w2.cell? ⟨b, 1, none⟩ = some v := by rw [Lib.cell_of_heap hb2]; rfl
               have f1 : w2.frozen? ⟨b, 1, none⟩ = false := Lib.frozen_of_heap hb2 1
               have HKM := hide (HK1.out.trans (KM.own HOWN.out hgrow))
               have HO2 := hide hown'
               have HG2 := hide hgrow
               have HB2 := hide hb2
               clear hown' hgrow hb2)
  go_ret2
  have hb3 : Below B w w2 := HB1.out.grown HG2.out (by omega) (fun k hk => (HOWN.out.lt k hk).1)
  refine ⟨rfl, ⟨.inr ?_, (HBL.out.trans hb3).setCell (p := ⟨b, 1, none⟩) hB _, ?_⟩, HKM.out.trans (KM.set HB2.out _ _)⟩
  · refine Lib.BuilderAt.put (T := 52) (e := 5) hB HB2.out (bs' := cellsOf (l ++ s.data.toList)) ?_ (by decide)
    have ho := HO2.out
    have e1 : cellsOf (l ++ s.data.toList) = cellsOf l ++ Lib.strCells s := by rw [cellsOf_str, cellsOf, List.map_append]; rfl
    rw [e1, List.length_append, Lib.strCells_length]
    exact ho
  · have := hb3.size
    simp [World.setCell]
    omega

end Go.Proofs.YtienjpelmbldpaaGreatDoor

/- WALKS of the ways to write a value: param.section, extended, continued, simple; ways; value. No statement is proved here. -/
namespace Go.Proofs.YtienjpelmbldpaaGreatDoor
open Go.RowKit
set_option linter.unusedVariables false
set_option linter.unusedSimpArgs false
set_option maxRecDepth 100000
/-- what package param asks of the world -/
def EnvP (w : World) : Prop := Tab w ∧ (∃ m : Int, w.cell? ⟨0, 0, none⟩ = some (.int .i64 m)) ∧ Lib.TabIs Tryz.prog w "internal/strconv.uint64pow10" .u64 Lib.pow10Tab
theorem tabIs_kept {w w' : World} {n : String} {k : IntKind} {zs : List Int} (h : Lib.TabIs Tryz.prog w n k zs) (hb : Below w.heap.size w w') : Lib.TabIs Tryz.prog w' n k zs := by
  unfold Lib.TabIs World.var? at h ⊢
  cases hg : Tryz.prog.globalNamed n with
  | none => rw [hg] at h; exact h
  | some g =>
    rw [hg] at h
    simp only [Option.bind_eq_bind, Option.bind_some] at h ⊢
    have hl : g < w.heap.size := by
      rcases Nat.lt_or_ge g w.heap.size with h1 | h1
      · exact h1
      · rw [Array.getElem?_eq_none h1] at h; simp at h
    rw [hb.block g hl]; exact h
theorem EnvP.kept {w w' : World} (h : EnvP w) (hb : Below w.heap.size w w') : EnvP w' := by
  obtain ⟨h1, ⟨m, h2⟩, h3⟩ := h
  exact ⟨h1.below hb h1.lt, ⟨m, (hb.cell (p := ⟨0, 0, none⟩) (World.block_lt_of_cell? _ _ h2)).trans h2⟩, tabIs_kept h3 hb⟩
theorem grown_below (w : World) (q : Nat) (os : Array Obj) : Below w.heap.size w (Go.Sort.grow (w.drewN q) os) :=
  ⟨rfl, rfl, rfl, by simp [Go.Sort.grow], fun i hi => by
    show (w.heap ++ os)[i]? = w.heap[i]?
    rw [Array.getElem?_append_left hi]⟩
theorem itoaP_any (n : Nat) (hn : n ≤ 1000000) (w : World) (hE : EnvP w) : Calls Tryz.prog 128 #[.int .i64 (n : Int)] w fun e w' => e = .returned (.string (str (Lib.itoa (n : Int)))) ∧ Below w.heap.size w w' :=
  (Tryz.strconv_Itoa (n : Int) (by omega) (by omega) w hE.2.2).mono fun e w' ⟨he, k, os, hw⟩ => ⟨he, by rw [hw]; exact grown_below _ _ _⟩
/-- the number of a section, as text -/
def numP (n : Nat) : List UInt8 := Lib.itoa (n : Int)
abbrev ValF := List UInt8 → Option (List UInt8)
/-- the section of a number: what it says, whether it is starred -/
def secL (f : ValF) (name : List UInt8) (n : Nat) : Option (List UInt8 × Bool) :=
  match f (name ++ 42 :: numP n ++ [42]) with
  | some x => some (x, true)
  | none => match f (name ++ 42 :: numP n) with
    | some x => some (x, false)
    | none => none
def secV : Option (List UInt8 × Bool) → Value
  | some (x, b) => .tuple #[.string (str x), .bool b, .bool true]
  | none => .tuple #[.string ⟨#[]⟩, .bool false, .bool false]
theorem numP_len (n : Nat) (hn : n ≤ 1000000) : (numP n).length ≤ 21 := Lib.itoa_length_le _ (by omega) (by omega)
/-- a map in a world behind a box of its own -/
theorem boxed_cell {w w' : World} {cs : Array Value} {t : TypeId} (hb : Below (w.alloc (.cells cs t)).heap.size (w.alloc (.cells cs t)) w') (i : Nat) : w'.cell? ⟨w.heap.size, i, none⟩ = cs[i]? := by
  have hz : (w.alloc (.cells cs t)).heap.size = w.heap.size + 1 := World.size_alloc ..
  rw [hb.cell (p := ⟨w.heap.size, i, none⟩) (by rw [hz]; exact Nat.lt_succ_self _)]
  exact World.cell?_alloc_at _ _ _ _ rfl
theorem boxed_below {w w' : World} {o : Obj} (hb : Below (w.alloc o).heap.size (w.alloc o) w') : Below w.heap.size w w' := by
  have hz : (w.alloc o).heap.size = w.heap.size + 1 := World.size_alloc ..
  exact ((Below.refl _ w).alloc (Nat.le_refl _) o).trans (hb.mono (by rw [hz]; omega))
theorem some_look {f : ValF} {k : List UInt8} {x : List UInt8} (h : f k = some x) : str ((f k).getD []) = str x ∧ (f k).isSome = true := by rw [h]; exact ⟨rfl, rfl⟩
theorem none_look {f : ValF} {k : List UInt8} (h : f k = none) : str ((f k).getD []) = ⟨#[]⟩ ∧ (f k).isSome = false := by rw [h]; exact ⟨rfl, rfl⟩
set_option maxHeartbeats 4000000 in
theorem section_any (ns : Value) (bm c n : Nat) (f : ValF) (name : ByteArray) (w : World) (hM : TMap w bm c f) (hE : EnvP w) (hn : n ≤ 1000000) (hz : name.size ≤ 1048576) (A : Option Addr) (l cp : Nat) (hns : ns = .slice A l cp) :
    Calls Tryz.prog 96 #[.agg #[ns, .map (some bm)], .string name, .int .i64 n] w fun e w' => e = .returned (secV (secL f name.data.toList n)) ∧ Below w.heap.size w w' := by
  subst hns
  obtain ⟨I, hI⟩ : ∃ I, I = str (numP n) := ⟨_, rfl⟩
  have hIz : I.size ≤ 21 := by rw [hI, str_size]; exact numP_len n hn
  have hE1 : EnvP (w.alloc (.cells #[.slice A l cp, .map (some bm)] 43)) := hE.kept ((Below.refl _ w).alloc (Nat.le_refl _) _)
  have HI := hide (itoaP_any n hn _ hE1)
  rw [show str (Lib.itoa (n : Int)) = I from hI.symm] at HI
  have e1 : (((name ++ ⟨#[42]⟩) ++ I) : ByteArray).data.toList = name.data.toList ++ 42 :: numP n := by rw [hI]; simp [str]
  have e2 : ((((name ++ ⟨#[42]⟩) ++ I) ++ ⟨#[42]⟩) : ByteArray).data.toList = name.data.toList ++ 42 :: numP n ++ [42] := by rw [hI]; simp [str]
  have z0 : (name ++ (⟨#[42]⟩ : ByteArray)).size = name.size + 1 := ByteArray.size_append
  have z1 : ((name ++ ⟨#[42]⟩) ++ I : ByteArray).size = name.size + 1 + I.size := by rw [ByteArray.size_append, z0]
  have z2 : (((name ++ ⟨#[42]⟩) ++ I) ++ ⟨#[42]⟩ : ByteArray).size = name.size + 1 + I.size + 1 := by rw [ByteArray.size_append, z1]; rfl
  have HL2 : Hid (∀ w', TMap w' bm c f → (Instr.lookup 41 (.map (some bm)) (.string ((((name ++ ⟨#[42]⟩) ++ I) ++ ⟨#[42]⟩))) true).run Tryz.prog w' = .ok (.tuple #[.string (str ((f (name.data.toList ++ 42 :: numP n ++ [42])).getD [])), .bool (f (name.data.toList ++ 42 :: numP n ++ [42])).isSome]) w') := hide (fun w' h => by
    have := h.look_ok ((((name ++ ⟨#[42]⟩) ++ I) ++ ⟨#[42]⟩)) (by rw [z2]; unfold maxLen; omega)
    rw [e2] at this; exact this)
  have HL1 : Hid (∀ w', TMap w' bm c f → (Instr.lookup 41 (.map (some bm)) (.string (((name ++ ⟨#[42]⟩) ++ I))) true).run Tryz.prog w' = .ok (.tuple #[.string (str ((f (name.data.toList ++ 42 :: numP n)).getD [])), .bool (f (name.data.toList ++ 42 :: numP n)).isSome]) w') := hide (fun w' h => by
    have := h.look_ok (((name ++ ⟨#[42]⟩) ++ I)) (by rw [z1]; unfold maxLen; omega)
    rw [e1] at this; exact this)
  have HM := hide (hM.kept ((Below.refl _ w).alloc (Nat.le_refl _) (.cells #[.slice A l cp, .map (some bm)] 43)))
  have hSE : secL f name.data.toList n = match f (name.data.toList ++ 42 :: numP n ++ [42]) with
    | some x => some (x, true)
    | none => match f (name.data.toList ++ 42 :: numP n) with
      | some x => some (x, false)
      | none => none := rfl
  generalize f (name.data.toList ++ 42 :: numP n ++ [42]) = o2 at HL2 hSE
  generalize f (name.data.toList ++ 42 :: numP n) = o1 at HL1 hSE
  have HSE := hide hSE
  clear hI hE hM e1 e2 hE1 hSE
  cases o2 with
  | some x =>
    obtain ⟨X, hX⟩ : ∃ X, X = str x := ⟨_, rfl⟩
    have HX : Hid (str ((some x).getD []) = X) := hide (by rw [hX]; rfl)
    have HV : Hid (secV (secL f name.data.toList n) = .tuple #[.string X, .bool true, .bool true]) := hide (by rw [HSE.out, hX]; rfl)
    clear hX
    go_enter Tryz.func96, Tryz.ntmps96
    go_wp2_with (go_at_call 128; refine HI.out.mono ?_; rintro e w1 ⟨rfl, hb1⟩; have HB1 := hide (boxed_below hb1); have c0 := boxed_cell hb1 0; have c1 := boxed_cell hb1 1; have hl2 := HL2.out _ (HM.out.kept hb1); rw [HX.out] at hl2; simp only [Option.isSome_some] at hl2; clear hb1)
    go_ret3
    exact ⟨by rw [HV.out] <;> rfl, HB1.out⟩
  | none =>
    cases o1 with
    | some x =>
      obtain ⟨X, hX⟩ : ∃ X, X = str x := ⟨_, rfl⟩
      have HX : Hid (str ((some x).getD []) = X) := hide (by rw [hX]; rfl)
      have HV : Hid (secV (secL f name.data.toList n) = .tuple #[.string X, .bool false, .bool true]) := hide (by rw [HSE.out, hX]; rfl)
      clear hX
      go_enter Tryz.func96, Tryz.ntmps96
      go_wp2_with (go_at_call 128; refine HI.out.mono ?_; rintro e w1 ⟨rfl, hb1⟩; have HB1 := hide (boxed_below hb1); have c0 := boxed_cell hb1 0; have c1 := boxed_cell hb1 1; have hl2 := HL2.out _ (HM.out.kept hb1); have hl1 := HL1.out _ (HM.out.kept hb1); rw [HX.out] at hl1; simp only [Option.isSome_some, Option.isSome_none, Option.getD_none] at hl1 hl2; clear hb1)
      go_ret3
      exact ⟨by rw [HV.out] <;> rfl, HB1.out⟩
    | none =>
      have HV : Hid (secV (secL f name.data.toList n) = .tuple #[.string ⟨#[]⟩, .bool false, .bool false]) := hide (by rw [HSE.out]; rfl)
      go_enter Tryz.func96, Tryz.ntmps96
      go_wp2_with (go_at_call 128; refine HI.out.mono ?_; rintro e w1 ⟨rfl, hb1⟩; have HB1 := hide (boxed_below hb1); have c0 := boxed_cell hb1 0; have c1 := boxed_cell hb1 1; have hl2 := HL2.out _ (HM.out.kept hb1); have hl1 := HL1.out _ (HM.out.kept hb1); simp only [Option.isSome_none, Option.getD_none] at hl1 hl2; clear hb1)
      go_ret3
      exact ⟨by rw [HV.out] <;> rfl, HB1.out⟩
end Go.Proofs.YtienjpelmbldpaaGreatDoor

/- WALKS of param.extended, simple, continued. No statement is proved here. -/
namespace Go.Proofs.YtienjpelmbldpaaGreatDoor
open Go.RowKit
set_option linter.unusedVariables false
set_option linter.unusedSimpArgs false
set_option maxRecDepth 100000
def optV : Option (List UInt8) → Value
  | some x => .tuple #[.string (str x), .bool true]
  | none => .tuple #[.string ⟨#[]⟩, .bool false]
/-- a value that tells its alphabet -/
def exL (f : ValF) (name : List UInt8) : Option (List UInt8) :=
  match pExt ((f (name ++ [42])).getD []) with
  | some (a, b) => some (decodeL (kindL a) b)
  | none => none
theorem pExt_sizes {l a b : List UInt8} (h : pExt l = some (a, b)) : a.length ≤ l.length ∧ b.length ≤ l.length := by
  unfold pExt at h
  split at h
  · injection h with h
    injection h with h1 h2
    subst h1 h2
    have z1 := beforeC_le 39 l
    have z2 := afterC_length 39 l
    have z3 := afterC_length 39 (afterC 39 l)
    have z4 := (pdec_length (afterC 39 (afterC 39 l))).1
    exact ⟨by rw [lowL_len]; exact z1, by omega⟩
  · cases h
set_option maxHeartbeats 4000000 in
theorem extended07_any (ns : Value) (bm c : Nat) (f : ValF) (name : ByteArray) (w : World) (hM : TMap w bm c f) (hE : EnvP w) (hz : name.size ≤ 1048576) (hf : ∀ k x, f k = some x → x.length ≤ 1048576) (A : Option Addr) (l cp : Nat) (hns : ns = .slice A l cp) :
    Calls Tryz.prog 62 #[.agg #[ns, .map (some bm)], .string name] w fun e w' => e = .returned (optV (exL f name.data.toList)) ∧ Below w.heap.size w w' := by
  subst hns
  obtain ⟨X, hX⟩ : ∃ X, X = str ((f (name.data.toList ++ [42])).getD []) := ⟨_, rfl⟩
  have hXl : X.data.toList = (f (name.data.toList ++ [42])).getD [] := by rw [hX, str_toList]
  have hXz : X.size ≤ 1048576 := by
    rw [hX, str_size]
    cases h : f (name.data.toList ++ [42]) with
    | none => exact Nat.zero_le _
    | some x => exact hf _ x h
  have ek : (name ++ (⟨#[42]⟩ : ByteArray)).data.toList = name.data.toList ++ [42] := by simp
  have zk : (name ++ (⟨#[42]⟩ : ByteArray)).size = name.size + 1 := ByteArray.size_append
  have HM1 := hM.kept ((Below.refl _ w).alloc (Nat.le_refl _) (.cells #[.slice A l cp, .map (some bm)] 43))
  have hl := HM1.look (name ++ ⟨#[42]⟩) (by rw [zk]; unfold maxLen; omega)
  rw [ek, ← hX] at hl
  have c1 : (w.alloc (.cells #[.slice A l cp, .map (some bm)] 43)).cell? ⟨w.heap.size, 1, none⟩ = some (.map (some bm)) := by rw [World.cell?_alloc_at _ _ _ _ rfl]; rfl
  have HX := hide (fun (w : World) => extended_any X w (by omega))
  rw [hXl] at HX
  have HEX : Hid (exL f name.data.toList = match pExt ((f (name.data.toList ++ [42])).getD []) with
    | some (a, b) => some (decodeL (kindL a) b)
    | none => none) := hide rfl
  have hps := @pExt_sizes ((f (name.data.toList ++ [42])).getD [])
  rw [← hXl] at hps
  rw [toList_length] at hps
  rw [hXl] at hps
  have HE := hide hE
  generalize pExt ((f (name.data.toList ++ [42])).getD []) = o at HX HEX hps
  clear hX hXl HM1 ek hM hE hf
  cases o with
  | none =>
    have HV : Hid (optV (exL f name.data.toList) = .tuple #[.string ⟨#[]⟩, .bool false]) := hide (by rw [HEX.out]; rfl)
    simp only [extV] at HX
    clear hps
    go_enter Tryz.func62, Tryz.ntmps62
    go_wp2_with (go_at_call 94; refine (HX.out _).mono ?_; rintro e w1 ⟨rfl, hb1⟩; have HB1 := hide (boxed_below hb1); clear hb1)
    go_ret2
    exact ⟨by rw [HV.out] <;> rfl, HB1.out⟩
  | some p =>
    obtain ⟨a, b⟩ := p
    obtain ⟨z1, z2⟩ := hps rfl
    obtain ⟨P, hP⟩ : ∃ P, P = str a := ⟨_, rfl⟩
    obtain ⟨Q, hQ⟩ : ∃ Q, Q = str b := ⟨_, rfl⟩
    obtain ⟨R, hR⟩ : ∃ R, R = str (decodeL (kindL a) b) := ⟨_, rfl⟩
    have HV : Hid (optV (exL f name.data.toList) = .tuple #[.string R, .bool true]) := hide (by rw [HEX.out, hR]; rfl)
    simp only [extV] at HX
    rw [← hP, ← hQ] at HX
    have HD := hide (fun (w : World) (hT : Tab w) => charsDecode_any P Q w (by rw [hP, str_size]; omega) (by rw [hQ, str_size]; omega) hT)
    have eP : P.data.toList = a := by rw [hP, str_toList]
    have eQ : Q.data.toList = b := by rw [hQ, str_toList]
    rw [eP, eQ] at HD
    simp only [decV] at HD
    rw [← hR] at HD
    clear hP hQ hR eP eQ z1 z2 hps
    go_enter Tryz.func62, Tryz.ntmps62
    go_wp2_with (first
      | (go_at_call 94; refine (HX.out _).mono ?_; rintro e w1 ⟨rfl, hb1⟩; have HB1 := hide (boxed_below hb1); have HE1 := hide (HE.out.kept (boxed_below hb1)); clear hb1)
      | (go_at_call 95; refine (HD.out _ HE1.out.1).mono ?_; rintro e w2 ⟨rfl, hb2⟩; have HB2 := hide (HB1.out.trans (hb2.mono HB1.out.size)); clear hb2))
    go_ret2
    exact ⟨by rw [HV.out] <;> rfl, HB2.out⟩
/-- a value that is written as it is, but for encoded words -/
def siL (f : ValF) (name : List UInt8) : List UInt8 × Bool := (decW false [] ((f name).getD []), (f name).isSome)
set_option maxHeartbeats 4000000 in
theorem simple07_any (ns : Value) (bm c : Nat) (f : ValF) (name : ByteArray) (w : World) (hM : TMap w bm c f) (hE : EnvP w) (hz : name.size ≤ 1048576) (hf : ∀ k x, f k = some x → x.length ≤ 1048576) (A : Option Addr) (l cp : Nat) (hns : ns = .slice A l cp) :
    Calls Tryz.prog 64 #[.agg #[ns, .map (some bm)], .string name] w fun e w' => e = .returned (.tuple #[.string (str (siL f name.data.toList).1), .bool (siL f name.data.toList).2]) ∧ Below w.heap.size w w' := by
  subst hns
  obtain ⟨X, hX⟩ : ∃ X, X = str ((f name.data.toList).getD []) := ⟨_, rfl⟩
  have hXl : X.data.toList = (f name.data.toList).getD [] := by rw [hX, str_toList]
  have hXz : X.size ≤ 1048576 := by
    rw [hX, str_size]
    cases h : f name.data.toList with
    | none => exact Nat.zero_le _
    | some x => exact hf _ x h
  have HM1 := hM.kept ((Below.refl _ w).alloc (Nat.le_refl _) (.cells #[.slice A l cp, .map (some bm)] 43))
  have hl := HM1.look_ok name (by unfold maxLen; omega)
  rw [← hX] at hl
  have c1 : (w.alloc (.cells #[.slice A l cp, .map (some bm)] 43)).cell? ⟨w.heap.size, 1, none⟩ = some (.map (some bm)) := by rw [World.cell?_alloc_at _ _ _ _ rfl]; rfl
  have HD := hide (wordDecode_any X _ hXz (hE.kept ((Below.refl _ w).alloc (Nat.le_refl _) (.cells #[.slice A l cp, .map (some bm)] 43))).1)
  rw [hXl] at HD
  obtain ⟨R, hR⟩ : ∃ R, R = str (decW false [] ((f name.data.toList).getD [])) := ⟨_, rfl⟩
  rw [← hR] at HD
  have HV : Hid (str (siL f name.data.toList).1 = R) := hide hR.symm
  have HV2 : Hid ((siL f name.data.toList).2 = (f name.data.toList).isSome) := hide rfl
  rw [HV.out, HV2.out]
  generalize (f name.data.toList).isSome = is at hl
  clear hX hXl hR HM1 hM hE hf HV HV2
  go_enter Tryz.func64, Tryz.ntmps64
  go_wp2_with (go_at_call 98; refine HD.out.mono ?_; rintro e w1 ⟨rfl, hb1⟩; have HB1 := hide (boxed_below hb1); clear hb1)
  go_ret2
  exact ⟨rfl, HB1.out⟩
end Go.Proofs.YtienjpelmbldpaaGreatDoor

/- WALK of param.continued. No statement is proved here. -/
namespace Go.Proofs.YtienjpelmbldpaaGreatDoor
open Go.RowKit
set_option linter.unusedVariables false
set_option linter.unusedSimpArgs false
set_option maxRecDepth 100000
/-- a section read: the alphabet behind it, its bytes -/
def coStep (lab x : List UInt8) (st : Bool) (n : Nat) : List UInt8 × List UInt8 :=
  if st = true then (if n = 0 then (match pExt x with | some p => p | none => (lab, pdec x)) else (lab, pdec x)) else (lab, x)
/-- the alphabet and the bytes of n sections -/
def coAt (f : ValF) (name : List UInt8) : Nat → List UInt8 × List UInt8
  | 0 => ([117, 116, 102, 45, 56], [])
  | n + 1 => match secL f name n with
    | some (x, st) => ((coStep (coAt f name n).1 x st n).1, (coAt f name n).2 ++ (coStep (coAt f name n).1 x st n).2)
    | none => coAt f name n
theorem coAt_succ {f : ValF} {name : List UInt8} {n : Nat} {x : List UInt8} {st : Bool} (h : secL f name n = some (x, st)) : coAt f name (n + 1) = ((coStep (coAt f name n).1 x st n).1, (coAt f name n).2 ++ (coStep (coAt f name n).1 x st n).2) := by
  rw [coAt, h]
/-- a value that is written in N sections -/
def coV (f : ValF) (name : List UInt8) (N : Nat) : List UInt8 × Bool := (decodeL (kindL (coAt f name N).1) (coAt f name N).2, decide (0 < N))
set_option maxHeartbeats 8000000 in
theorem continued_any (ns : Value) (bm c : Nat) (f : ValF) (name : ByteArray) (w : World) (hM : TMap w bm c f) (hE : EnvP w) (hz : name.size ≤ 1048576) (hf : ∀ k x, f k = some x → x.length ≤ 1048576) (A : Option Addr) (l cp : Nat) (hns : ns = .slice A l cp)
    (N : Nat) (hN : N ≤ 1000000) (hno : secL f name.data.toList N = none) (hyes : ∀ n, n < N → secL f name.data.toList n ≠ none) (hsz : ∀ n, n ≤ N → (coAt f name.data.toList n).1.length ≤ 1048576 ∧ (coAt f name.data.toList n).2.length ≤ 1048576) :
    Calls Tryz.prog 63 #[.agg #[ns, .map (some bm)], .string name] w fun e w' => e = .returned (.tuple #[.string (str (coV f name.data.toList N).1), .bool (coV f name.data.toList N).2]) ∧ Below w.heap.size w w' := by
  subst hns
  obtain ⟨W, hW⟩ : ∃ W, W = w.alloc (.cells #[.slice A l cp, .map (some bm)] 43) := ⟨_, rfl⟩
  have hWz : W.heap.size = w.heap.size + 1 := by rw [hW]; exact World.size_alloc ..
  have hWb : Below w.heap.size w W := by rw [hW]; exact (Below.refl _ w).alloc (Nat.le_refl _) _
  have HMW := hide (hM.kept hWb)
  have HEW := hide (hE.kept hWb)
  have d0 : W.cell? ⟨w.heap.size, 0, none⟩ = some (.slice A l cp) := by rw [hW, World.cell?_alloc_at _ _ _ _ rfl]; rfl
  have d1 : W.cell? ⟨w.heap.size, 1, none⟩ = some (.map (some bm)) := by rw [hW, World.cell?_alloc_at _ _ _ _ rfl]; rfl
  have HB0 : Hid (Bld (w.heap.size + 1) (w.heap.size + 1) [] W (W.alloc (.cells #[.pointer none, .slice none 0 0] 52))) := hide (by
    have := Bld.new (B := W.heap.size) (Below.refl W.heap.size W) (Nat.le_refl _)
    rw [hWz] at this; exact this)
  have HSZ := hide hsz
  have HYES := hide hyes
  have HNO := hide hno
  have HF := hide hf
  have HWB := hide hWb
  have HWZ := hide hWz
  have HD0 := hide (And.intro d0 d1)
  clear hM hE hsz hyes hno hf hWb hWz d0 d1
  go_enter Tryz.func63, Tryz.ntmps63
  go_wp2_with fail
  rw [← hW]
  have HW := hide hW
  clear hW
  go_loopw [6, 8] (fun lv nv wr => ∃ n : Nat, n ≤ N ∧ nv = .int .i64 n ∧ lv = .string (str (coAt f name.data.toList n).1) ∧ Hid (Bld (w.heap.size + 1) (w.heap.size + 1) (coAt f name.data.toList n).2 W wr)) (fun _ nv _ => N + 1 - (intOf nv).toNat)
  case atStart => exact ⟨0, Nat.zero_le _, rfl, rfl, HB0⟩
  case round =>
    obtain ⟨n, hn, rfl, rfl, HB⟩ := hrel
    have hBw : Below W.heap.size W wr := by rw [HWZ.out]; exact HB.out.2.1
    have c0 := (hBw.cell (p := ⟨w.heap.size, 0, none⟩) (by rw [HWZ.out]; exact Nat.lt_succ_self _)).trans HD0.out.1
    have c1 := (hBw.cell (p := ⟨w.heap.size, 1, none⟩) (by rw [HWZ.out]; exact Nat.lt_succ_self _)).trans HD0.out.2
    have HBW := hide (HMW.out.kept hBw)
    have HEQ := hide (HEW.out.kept hBw)
    have HSEC := hide (fun (w : World) (h1 : TMap w bm c f) (h2 : EnvP w) => section_any (.slice A l cp) bm c n f name w h1 h2 (by omega) hz A l cp rfl)
    have hsz := HSZ.out n hn
    cases hs : secL f name.data.toList n with
    | none =>
      have hNn : n = N := by
        rcases Nat.lt_or_ge n N with h | h
        · exact absurd hs (HYES.out n h)
        · omega
      rw [hs] at HSEC
      simp only [secV] at HSEC
      obtain ⟨P, hP⟩ : ∃ P, P = str (coAt f name.data.toList n).1 := ⟨_, rfl⟩
      obtain ⟨Q, hQ⟩ : ∃ Q, Q = str (coAt f name.data.toList n).2 := ⟨_, rfl⟩
      obtain ⟨R, hR⟩ : ∃ R, R = str (coV f name.data.toList N).1 := ⟨_, rfl⟩
      have HD := hide (fun (w : World) (hT : Tab w) => charsDecode_any P Q w (by rw [hP, str_size]; omega) (by rw [hQ, str_size]; omega) hT)
      have eP : P.data.toList = (coAt f name.data.toList n).1 := by rw [hP, str_toList]
      have eQ : Q.data.toList = (coAt f name.data.toList n).2 := by rw [hQ, str_toList]
      rw [eP, eQ] at HD
      simp only [decV] at HD
      rw [show str (decodeL (kindL (coAt f name.data.toList n).1) (coAt f name.data.toList n).2) = R by rw [hR, ← hNn]; rfl] at HD
      rw [← hP]
      have HQ := hide hQ
      have HV : Hid (str (coV f name.data.toList N).1 = R) := hide hR.symm
      have HV2 : Hid ((coV f name.data.toList N).2 = decide (0 < n)) := hide (by rw [hNn]; rfl)
      have t1 : decide ((0 : Int) < (n : Int)) = decide (0 < n) := by congr 1; exact propext (by omega)
      clear hs hNn hP hQ hR eP eQ hsz
      go_wp2_with (first
        | (go_at_call 96; refine (HSEC.out _ HBW.out HEQ.out).mono ?_; rintro e w1 ⟨rfl, hb1⟩; have HB1 := hide (HB.out.kept hb1); clear hb1)
        | (go_at_call 35; refine (HB1.out.string).mono ?_; rw [← HQ.out]; rintro e w3 ⟨rfl, hb3⟩; have HB3 := hide hb3; have hBw3 : Below W.heap.size W w3 := (by rw [HWZ.out]; exact hb3); have HE3 := hide (HEW.out.kept hBw3); clear hb3)
        | (go_at_call 95; refine (HD.out _ HE3.out.1).mono ?_; rintro e w4 ⟨rfl, hb4⟩; have HB4 := hide (hBw3.trans (hb4.mono hBw3.size)); clear hb4))
      go_ret2
      exact ⟨by rw [HV.out, HV2.out]; first | rfl | (rw [← t1]; rfl), HWB.out.trans (HB4.out.mono HWB.out.size)⟩
    | some p =>
      obtain ⟨x, st⟩ := p
      have hlt : n < N := by
        rcases Nat.lt_or_ge n N with h | h
        · exact h
        · have : n = N := by omega
          rw [this, HNO.out] at hs; cases hs
      rw [hs] at HSEC
      simp only [secV] at HSEC
      have hx : x.length ≤ 1048576 := by
        unfold secL at hs
        split at hs
        · rename_i y hy
          injection hs with hs; injection hs with hs _; subst hs; exact HF.out _ _ hy
        · split at hs
          · rename_i y hy
            injection hs with hs; injection hs with hs _; subst hs; exact HF.out _ _ hy
          · cases hs
      obtain ⟨X, hX⟩ : ∃ X, X = str x := ⟨_, rfl⟩
      rw [← hX] at HSEC
      have hXl : X.data.toList = x := by rw [hX, str_toList]
      have hXz : X.size ≤ 1048576 := by rw [hX, str_size]; exact hx
      have HXT := hide (fun (w : World) => extended_any X w (by omega))
      rw [hXl] at HXT
      have hnx := coAt_succ hs
      have HNN := hide hlt
      have k1 : (n : Int) + 1 ≤ N := by omega
      cases st with
      | false =>
        have HLAB : Hid (Value.string (str (coAt f name.data.toList n).1) = .string (str (coAt f name.data.toList (n + 1)).1)) := hide (by rw [hnx]; rfl)
        have HNX : Hid ((coAt f name.data.toList (n + 1)).2 = (coAt f name.data.toList n).2 ++ X.data.toList) := hide (by rw [hnx, hXl]; rfl)
        have HLN : Hid ((coAt f name.data.toList n).2.length + X.size ≤ 140737488355328) := hide (by omega)
        rcases hpx : pExt x with _ | ⟨a, b⟩
        all_goals
          rw [hpx] at HXT
          simp only [extV] at HXT
          clear hs hX hXl hx hnx hlt hsz
          go_wp2_with (first
            | (go_at_call 96; refine (HSEC.out _ HBW.out HEQ.out).mono ?_; rintro e w1 ⟨rfl, hb1⟩; have HB1 := hide (HB.out.kept hb1); clear hb1)
            | (go_at_call 94; refine (HXT.out _).mono ?_; rintro e w2 ⟨rfl, hb2⟩; have HB2 := hide (HB1.out.kept hb2); clear hb2)
            | (go_at_call 31; refine (writeString_any _ _ _ X W _ HB2.out HLN.out).mono ?_; rintro e w4 ⟨rfl, hb4⟩; have HB4 := hide hb4; clear hb4))
          go_roundw
          case rel => exact ⟨n + 1, by have := HNN.out; omega, by go_num, HLAB.out, hide (by rw [HNX.out]; exact HB4.out)⟩
          case measure => simp [intOf]; have := HNN.out; omega
      | true =>
        have HPD := hide (fun (w : World) => decode_any X w (by omega))
        rw [hXl] at HPD
        obtain ⟨Y, hY⟩ : ∃ Y, Y = str (pdec x) := ⟨_, rfl⟩
        rw [← hY] at HPD
        have hYz : Y.size ≤ 1048576 := by rw [hY, str_size]; have := (pdec_length x).1; omega
        have hYl : Y.data.toList = pdec x := by rw [hY, str_toList]
        by_cases h0 : n = 0
        · have n0 : ((n : Int) == 0) = true := beq_iff_eq.2 (by omega)
          cases hpx : pExt x with
          | none =>
            rw [hpx] at HXT
            simp only [extV] at HXT
            have HLAB : Hid (Value.string (str (coAt f name.data.toList n).1) = .string (str (coAt f name.data.toList (n + 1)).1)) := hide (by rw [hnx]; unfold coStep; rw [if_pos rfl, if_pos h0, hpx])
            have HNX : Hid ((coAt f name.data.toList (n + 1)).2 = (coAt f name.data.toList n).2 ++ Y.data.toList) := hide (by rw [hnx, hYl]; unfold coStep; rw [if_pos rfl, if_pos h0, hpx])
            have HLN : Hid ((coAt f name.data.toList n).2.length + Y.size ≤ 140737488355328) := hide (by omega)
            clear hs hX hXl hx hnx hlt hsz hpx h0 hY hYl
            go_wp2_with (first
              | (go_at_call 96; refine (HSEC.out _ HBW.out HEQ.out).mono ?_; rintro e w1 ⟨rfl, hb1⟩; have HB1 := hide (HB.out.kept hb1); clear hb1)
              | (go_at_call 94; refine (HXT.out _).mono ?_; rintro e w2 ⟨rfl, hb2⟩; have HB2 := hide (HB1.out.kept hb2); clear hb2)
              | (go_at_call 97; refine (HPD.out _).mono ?_; rintro e w3 ⟨rfl, hb3⟩; have HB3 := hide (HB2.out.kept hb3); clear hb3)
              | (go_at_call 31; refine (writeString_any _ _ _ Y W _ HB3.out HLN.out).mono ?_; rintro e w4 ⟨rfl, hb4⟩; have HB4 := hide hb4; clear hb4))
            go_roundw
            case rel => exact ⟨n + 1, by have := HNN.out; omega, by go_num, HLAB.out, hide (by rw [HNX.out]; exact HB4.out)⟩
            case measure => simp [intOf]; have := HNN.out; omega
          | some p =>
            obtain ⟨a, b⟩ := p
            rw [hpx] at HXT
            simp only [extV] at HXT
            have hps := pExt_sizes hpx
            obtain ⟨Z, hZ⟩ : ∃ Z, Z = str b := ⟨_, rfl⟩
            obtain ⟨L, hL⟩ : ∃ L, L = str a := ⟨_, rfl⟩
            rw [← hZ, ← hL] at HXT
            have HLAB : Hid (Value.string L = .string (str (coAt f name.data.toList (n + 1)).1)) := hide (by rw [hnx, hL]; unfold coStep; rw [if_pos rfl, if_pos h0, hpx])
            have HNX : Hid ((coAt f name.data.toList (n + 1)).2 = (coAt f name.data.toList n).2 ++ Z.data.toList) := hide (by rw [hnx, hZ, str_toList]; unfold coStep; rw [if_pos rfl, if_pos h0, hpx])
            have HLN : Hid ((coAt f name.data.toList n).2.length + Z.size ≤ 140737488355328) := hide (by rw [hZ, str_size]; omega)
            clear hs hX hXl hx hnx hlt hsz hpx h0 hY hYl hZ hL hps
            go_wp2_with (first
              | (go_at_call 96; refine (HSEC.out _ HBW.out HEQ.out).mono ?_; rintro e w1 ⟨rfl, hb1⟩; have HB1 := hide (HB.out.kept hb1); clear hb1)
              | (go_at_call 94; refine (HXT.out _).mono ?_; rintro e w2 ⟨rfl, hb2⟩; have HB2 := hide (HB1.out.kept hb2); clear hb2)
              | (go_at_call 31; refine (writeString_any _ _ _ Z W _ HB2.out HLN.out).mono ?_; rintro e w4 ⟨rfl, hb4⟩; have HB4 := hide hb4; clear hb4))
            go_roundw
            case rel => exact ⟨n + 1, by have := HNN.out; omega, by go_num, HLAB.out, hide (by rw [HNX.out]; exact HB4.out)⟩
            case measure => simp [intOf]; have := HNN.out; omega
        · have n0 : ((n : Int) == 0) = false := beq_eq_false_iff_ne.2 (by omega)
          have HLAB : Hid (Value.string (str (coAt f name.data.toList n).1) = .string (str (coAt f name.data.toList (n + 1)).1)) := hide (by rw [hnx]; unfold coStep; rw [if_pos rfl, if_neg h0])
          have HNX : Hid ((coAt f name.data.toList (n + 1)).2 = (coAt f name.data.toList n).2 ++ Y.data.toList) := hide (by rw [hnx, hYl]; unfold coStep; rw [if_pos rfl, if_neg h0])
          have HLN : Hid ((coAt f name.data.toList n).2.length + Y.size ≤ 140737488355328) := hide (by omega)
          rcases hpx : pExt x with _ | ⟨a, b⟩
          all_goals
            rw [hpx] at HXT
            simp only [extV] at HXT
            clear hs hX hXl hx hnx hlt hsz h0 hY hYl
            go_wp2_with (first
              | (go_at_call 96; refine (HSEC.out _ HBW.out HEQ.out).mono ?_; rintro e w1 ⟨rfl, hb1⟩; have HB1 := hide (HB.out.kept hb1); clear hb1)
              | (go_at_call 94; refine (HXT.out _).mono ?_; rintro e w2 ⟨rfl, hb2⟩; have HB2 := hide (HB1.out.kept hb2); clear hb2)
              | (go_at_call 97; refine (HPD.out _).mono ?_; rintro e w3 ⟨rfl, hb3⟩; have HB3 := hide (HB2.out.kept hb3); clear hb3)
              | (go_at_call 31; refine (writeString_any _ _ _ Y W _ HB3.out HLN.out).mono ?_; rintro e w4 ⟨rfl, hb4⟩; have HB4 := hide hb4; clear hb4))
            go_roundw
            case rel => exact ⟨n + 1, by have := HNN.out; omega, by go_num, HLAB.out, hide (by rw [HNX.out]; exact HB4.out)⟩
            case measure => simp [intOf]; have := HNN.out; omega
end Go.Proofs.YtienjpelmbldpaaGreatDoor

/- WALKS of param.ways and value. No statement is proved here. -/
namespace Go.Proofs.YtienjpelmbldpaaGreatDoor
open Go.RowKit
set_option linter.unusedVariables false
set_option linter.unusedSimpArgs false
set_option maxRecDepth 100000
def wayCells : Array Value := #[.func (.func 62) #[] #[], .func (.func 63) #[] #[], .func (.func 64) #[] #[]]
theorem ways_any (w : World) : Calls Tryz.prog 43 #[] w fun e w' => e = .returned (.slice (some ⟨w.heap.size, 0, none⟩) 3 3) ∧ w' = w.alloc (.cells wayCells 67) := by
  go_enter Tryz.func43, Tryz.ntmps43
  go_wp2_with fail
  go_ret
  exact ⟨rfl, rfl⟩
/-- a name's value in all ways -/
def valL (f : ValF) (name : List UInt8) (N : Nat) : Option (List UInt8) :=
  match exL f name with
  | some x => some x
  | none => if 0 < N then some (coV f name N).1 else if (siL f name).2 = true then some (siL f name).1 else none
/-- what is asked of a name's sections -/
structure SecOK (f : ValF) (name : List UInt8) (N : Nat) : Prop where
  le : N ≤ 1000000
  no : secL f name N = none
  yes : ∀ n, n < N → secL f name n ≠ none
  sz : ∀ n, n ≤ N → (coAt f name n).1.length ≤ 1048576 ∧ (coAt f name n).2.length ≤ 1048576
set_option maxHeartbeats 8000000 in
theorem value07_any (ns : Value) (bm c : Nat) (f : ValF) (name : ByteArray) (w : World) (hM : TMap w bm c f) (hE : EnvP w) (hz : name.size ≤ 1048576) (hf : ∀ k x, f k = some x → x.length ≤ 1048576) (A : Option Addr) (l cp : Nat) (hns : ns = .slice A l cp)
    (N : Nat) (hS : SecOK f name.data.toList N) :
    Calls Tryz.prog 21 #[.agg #[ns, .map (some bm)], .string name] w fun e w' => e = .returned (optV (valL f name.data.toList N)) ∧ Below w.heap.size w w' := by
  subst hns
  obtain ⟨W, hW⟩ : ∃ W, W = (w.alloc (.cells #[.slice A l cp, .map (some bm)] 43)).alloc (.cells wayCells 67) := ⟨_, rfl⟩
  have hz1 : (w.alloc (.cells #[.slice A l cp, .map (some bm)] 43)).heap.size = w.heap.size + 1 := World.size_alloc ..
  have hWz : W.heap.size = w.heap.size + 2 := by rw [hW, World.size_alloc, hz1]
  have hWb : Below w.heap.size w W := by rw [hW]; exact ((Below.refl _ w).alloc (Nat.le_refl _) _).alloc (by rw [hz1]; omega) _
  have d0 : W.cell? ⟨w.heap.size, 0, none⟩ = some (.slice A l cp) := by rw [hW, World.cell?_alloc_past _ _ _ (by rw [hz1]; exact Nat.lt_succ_self _), World.cell?_alloc_at _ _ _ _ rfl]; rfl
  have d1 : W.cell? ⟨w.heap.size, 1, none⟩ = some (.map (some bm)) := by rw [hW, World.cell?_alloc_past _ _ _ (by rw [hz1]; exact Nat.lt_succ_self _), World.cell?_alloc_at _ _ _ _ rfl]; rfl
  have r0 : ∀ i : Nat, W.cell? ⟨w.heap.size + 1, i, none⟩ = wayCells[i]? := fun i => by rw [hW, World.cell?_alloc_at _ _ _ _ hz1.symm]
  have HMW := hide (hM.kept hWb)
  have HEW := hide (hE.kept hWb)
  have HEXT := hide (fun (w : World) (h1 : TMap w bm c f) (h2 : EnvP w) => extended07_any (.slice A l cp) bm c f name w h1 h2 hz hf A l cp rfl)
  have HCON := hide (fun (w : World) (h1 : TMap w bm c f) (h2 : EnvP w) => continued_any (.slice A l cp) bm c f name w h1 h2 hz hf A l cp rfl N hS.le hS.no hS.yes hS.sz)
  have HSIM := hide (fun (w : World) (h1 : TMap w bm c f) (h2 : EnvP w) => simple07_any (.slice A l cp) bm c f name w h1 h2 hz hf A l cp rfl)
  have HD := hide (And.intro d0 (And.intro d1 r0))
  have HWB := hide hWb
  have HWZ := hide hWz
  have HW := hide hW
  clear hM hE hf hS d0 d1 r0 hWb hWz
  go_enter Tryz.func21, Tryz.ntmps21
  go_wp2_with (go_at_call 43; refine (ways_any _).mono ?_; rintro e w1 ⟨rfl, rfl⟩; rw [← hW])
  clear hW
  go_loopw [12] (fun iv wr => ((iv = .int .i64 0) ∨ (iv = .int .i64 1 ∧ Hid (exL f name.data.toList = none)) ∨ (iv = .int .i64 2 ∧ Hid (exL f name.data.toList = none ∧ ¬ 0 < N)) ∨ (iv = .int .i64 3 ∧ Hid (exL f name.data.toList = none ∧ ¬ 0 < N ∧ (siL f name.data.toList).2 = false))) ∧ Hid (Below W.heap.size W wr)) (fun iv _ => 3 - (intOf iv).toNat)
  case atStart => exact ⟨.inl rfl, hide (by rw [← HW.out]; exact Below.refl _ _)⟩
  case round =>
    obtain ⟨hcase, HB⟩ := hrel
    have hBw := HB.out
    have c0 := (hBw.cell (p := ⟨w.heap.size, 0, none⟩) (show w.heap.size < W.heap.size by rw [HWZ.out]; omega)).trans HD.out.1
    have c1 := (hBw.cell (p := ⟨w.heap.size, 1, none⟩) (show w.heap.size < W.heap.size by rw [HWZ.out]; omega)).trans HD.out.2.1
    have rr : ∀ i : Nat, wr.cell? ⟨w.heap.size + 1, i, none⟩ = wayCells[i]? := fun i => (hBw.cell (p := ⟨w.heap.size + 1, i, none⟩) (show w.heap.size + 1 < W.heap.size by rw [HWZ.out]; omega)).trans (HD.out.2.2 i)
    have e0 : wr.cell? ⟨w.heap.size + 1, 0, none⟩ = some (.func (.func 62) #[] #[]) := rr 0
    have e1 : wr.cell? ⟨w.heap.size + 1, 1, none⟩ = some (.func (.func 63) #[] #[]) := rr 1
    have e2 : wr.cell? ⟨w.heap.size + 1, 2, none⟩ = some (.func (.func 64) #[] #[]) := rr 2
    have hwl : w.heap.size + 1 < wr.heap.size := Nat.lt_of_lt_of_le (by rw [HWZ.out]; omega) hBw.size
    have hwl0 : w.heap.size < wr.heap.size := Nat.lt_of_succ_lt hwl
    have HBA : Hid (∀ o, Below W.heap.size W (wr.alloc o)) := hide (fun o => hBw.alloc hBw.size o)
    clear rr hBw
    rcases hcase with rfl | ⟨rfl, H1⟩ | ⟨rfl, H2⟩ | ⟨rfl, H3⟩
    · cases hx : exL f name.data.toList with
      | some x =>
        obtain ⟨R, hR⟩ : ∃ R, R = str x := ⟨_, rfl⟩
        rw [hx] at HEXT
        simp only [optV] at HEXT
        rw [← hR] at HEXT
        have HV : Hid (optV (valL f name.data.toList N) = .tuple #[.string R, .bool true]) := hide (by unfold valL; rw [hx, hR]; rfl)
        clear hx hR
        go_wp2_with (go_at_call 62; refine (HEXT.out _ (HMW.out.kept (HBA.out _)) (HEW.out.kept (HBA.out _))).mono ?_; rintro e w2 ⟨rfl, hb2⟩; have HB2 := hide ((HBA.out _).trans (hb2.mono (HBA.out _).size)); clear hb2)
        go_ret2
        exact ⟨by rw [HV.out] <;> rfl, HWB.out.trans (HB2.out.mono HWB.out.size)⟩
      | none =>
        rw [hx] at HEXT
        simp only [optV] at HEXT
        have HX := hide hx
        clear hx
        go_wp2_with (go_at_call 62; refine (HEXT.out _ (HMW.out.kept (HBA.out _)) (HEW.out.kept (HBA.out _))).mono ?_; rintro e w2 ⟨rfl, hb2⟩; have HB2 := hide ((HBA.out _).trans (hb2.mono (HBA.out _).size)); clear hb2)
        go_roundw
        case rel => exact ⟨.inr (.inl ⟨rfl, by first | exact HX | exact hide trivial⟩), HB2⟩
        case measure => simp [intOf]
    · by_cases hn : 0 < N
      · obtain ⟨R, hR⟩ : ∃ R, R = str (coV f name.data.toList N).1 := ⟨_, rfl⟩
        rw [← hR, show (coV f name.data.toList N).2 = true from decide_eq_true hn] at HCON
        have HV : Hid (optV (valL f name.data.toList N) = .tuple #[.string R, .bool true]) := hide (by unfold valL; rw [H1.out, hR]; simp only; rw [if_pos hn]; rfl)
        clear hR
        go_wp2_with (go_at_call 63; refine (HCON.out _ (HMW.out.kept (HBA.out _)) (HEW.out.kept (HBA.out _))).mono ?_; rintro e w2 ⟨rfl, hb2⟩; have HB2 := hide ((HBA.out _).trans (hb2.mono (HBA.out _).size)); clear hb2)
        go_ret2
        exact ⟨by rw [HV.out] <;> rfl, HWB.out.trans (HB2.out.mono HWB.out.size)⟩
      · obtain ⟨R, hR⟩ : ∃ R, R = str (coV f name.data.toList N).1 := ⟨_, rfl⟩
        rw [← hR, show (coV f name.data.toList N).2 = false from decide_eq_false hn] at HCON
        have HX := hide (And.intro H1.out hn)
        clear hR hn
        go_wp2_with (go_at_call 63; refine (HCON.out _ (HMW.out.kept (HBA.out _)) (HEW.out.kept (HBA.out _))).mono ?_; rintro e w2 ⟨rfl, hb2⟩; have HB2 := hide ((HBA.out _).trans (hb2.mono (HBA.out _).size)); clear hb2)
        go_roundw
        case rel => exact ⟨.inr (.inr (.inl ⟨rfl, HX⟩)), HB2⟩
        case measure => simp [intOf]
    · obtain ⟨R, hR⟩ : ∃ R, R = str (siL f name.data.toList).1 := ⟨_, rfl⟩
      rw [← hR] at HSIM
      cases hx : (siL f name.data.toList).2 with
      | true =>
        rw [hx] at HSIM
        have HV : Hid (optV (valL f name.data.toList N) = .tuple #[.string R, .bool true]) := hide (by unfold valL; rw [H2.out.1, hR]; simp only; rw [if_neg H2.out.2, if_pos hx]; rfl)
        clear hR hx
        go_wp2_with (go_at_call 64; refine (HSIM.out _ (HMW.out.kept (HBA.out _)) (HEW.out.kept (HBA.out _))).mono ?_; rintro e w2 ⟨rfl, hb2⟩; have HB2 := hide ((HBA.out _).trans (hb2.mono (HBA.out _).size)); clear hb2)
        go_ret2
        exact ⟨by rw [HV.out] <;> rfl, HWB.out.trans (HB2.out.mono HWB.out.size)⟩
      | false =>
        rw [hx] at HSIM
        have HX := hide (And.intro H2.out.1 (And.intro H2.out.2 hx))
        clear hR hx
        go_wp2_with (go_at_call 64; refine (HSIM.out _ (HMW.out.kept (HBA.out _)) (HEW.out.kept (HBA.out _))).mono ?_; rintro e w2 ⟨rfl, hb2⟩; have HB2 := hide ((HBA.out _).trans (hb2.mono (HBA.out _).size)); clear hb2)
        go_roundw
        case rel => exact ⟨.inr (.inr (.inr ⟨rfl, by first | exact HX | exact hide ⟨HX.out.1, HX.out.2.1, trivial⟩⟩)), HB2⟩
        case measure => simp [intOf]
    · have HV : Hid (optV (valL f name.data.toList N) = .tuple #[.string ⟨#[]⟩, .bool false]) := hide (by unfold valL; rw [H3.out.1]; simp only; rw [if_neg H3.out.2.1, if_neg (by rw [H3.out.2.2]; decide)]; rfl)
      go_wp2_with fail
      go_ret2
      exact ⟨by rw [HV.out] <;> rfl, HWB.out.trans (HB.out.mono HWB.out.size)⟩
end Go.Proofs.YtienjpelmbldpaaGreatDoor

/- WALK of param.readRaws. No statement is proved here. -/
namespace Go.Proofs.YtienjpelmbldpaaGreatDoor
open Go.RowKit
set_option linter.unusedVariables false
set_option linter.unusedSimpArgs false
set_option maxRecDepth 100000
/-- what is read of pieces: the names in their order, the raw values by their raw names, the names that are there already -/
abbrev RawSt := List (List UInt8) × ValF × (List UInt8 → Option Bool)
def rawStep (st : RawSt) (p : List UInt8) : RawSt :=
  if (st.2.1 (tsL (beforeC 61 p))).isSome = true ∨ hasC 61 p = false ∨ tsL (beforeC 61 p) = [] then st
  else if (st.2.2 (beforeC 42 (tsL (beforeC 61 p)))).getD false = true then (st.1, putF st.2.1 (tsL (beforeC 61 p)) (rvL (afterC 61 p)), st.2.2)
  else (st.1 ++ [beforeC 42 (tsL (beforeC 61 p))], putF st.2.1 (tsL (beforeC 61 p)) (rvL (afterC 61 p)), putF st.2.2 (beforeC 42 (tsL (beforeC 61 p))) true)
def raw0 : RawSt := ([], fun _ => none, putF (fun _ => none) [] true)
def rawsL (ps : List (List UInt8)) : RawSt := ps.foldl rawStep raw0
/-- the reading's variables in memory: r in block rb, its map bm, the names that are there in bs; the result's block R -/
structure RawAt (B : Nat) (W0 : World) (R rb bm bs k : Nat) (st : RawSt) (w : World) : Prop where
  r : ∃ v ns, w.heap[rb]? = some (.cells #[v, .map (some bm)] 43 (0, 0)) ∧ SBuf B v ns W0 w ∧ ns.map (fun x => x.data.toList) = st.1 ∧ ns.length ≤ k
  m : ∃ n, n ≤ k ∧ TMap w bm n st.2.1
  s : ∃ n, n ≤ k + 1 ∧ BMap w bs n st.2.2
  z : w.heap[R]? = some (.cells #[.slice none 0 0, .map none] 43 (0, 0))
  lo : B ≤ R ∧ B ≤ rb ∧ B ≤ bm ∧ B ≤ bs ∧ bm ≠ bs ∧ rb ≠ R
theorem cells_map_ne {w : World} {a b : Nat} {cs : Array Value} {t : TypeId} {fr : Nat × Nat} {es : Array MapEntry} {c : Nat} (h1 : w.heap[a]? = some (.cells cs t fr)) (h2 : w.heap[b]? = some (.map es c)) : a ≠ b := by
  rintro rfl
  rw [h1] at h2; cases h2
section
variable {B R rb bm bs k : Nat} {W0 w w' : World} {st : RawSt}
theorem RawAt.kept (h : RawAt B W0 R rb bm bs k st w) (hb : Below w.heap.size w w') : RawAt B W0 R rb bm bs k st w' := by
  obtain ⟨v, ns, h1, h2, h3⟩ := h.r
  obtain ⟨n1, m1, m2⟩ := h.m
  obtain ⟨n2, s1, s2⟩ := h.s
  exact ⟨⟨v, ns, (hb.block rb (lt_of_block h1)).trans h1, h2.kept hb, h3⟩, ⟨n1, m1, m2.kept hb⟩, ⟨n2, s1, s2.kept hb⟩, (hb.block R (lt_of_block h.z)).trans h.z, h.lo⟩
theorem RawAt.drewN (h : RawAt B W0 R rb bm bs k st w) (q : Nat) : RawAt B W0 R rb bm bs k st (w.drewN q) := h.kept ⟨rfl, rfl, rfl, Nat.le_refl _, fun _ _ => rfl⟩
theorem RawAt.below (h : RawAt B W0 R rb bm bs k st w) : Below B W0 w := by
  obtain ⟨v, ns, h1, h2, h3⟩ := h.r
  exact h2.2.1
theorem RawAt.c1 (h : RawAt B W0 R rb bm bs k st w) : w.cell? ⟨rb, 1, none⟩ = some (.map (some bm)) := by
  obtain ⟨v, ns, h1, h2, h3⟩ := h.r
  have := cell_of_row w rb 1 _ _ (0, 0) h1
  rw [this]; rfl
theorem RawAt.mono (h : RawAt B W0 R rb bm bs k st w) : RawAt B W0 R rb bm bs (k + 1) st w := by
  obtain ⟨v, ns, h1, h2, h3, h4⟩ := h.r
  obtain ⟨n1, m1, m2⟩ := h.m
  obtain ⟨n2, s1, s2⟩ := h.s
  exact ⟨⟨v, ns, h1, h2, h3, by omega⟩, ⟨n1, by omega, m2⟩, ⟨n2, by omega, s2⟩, h.z, h.lo⟩
theorem sbuf_turned {b : Nat} {v : Value} {ns : List ByteArray} (h : SBuf B v ns W0 w) (hB : B ≤ b) {es : Array MapEntry} {c : Nat} (hb : w.heap[b]? = some (.map es c)) (ht : Turned b w w') : SBuf B v ns W0 w' := by
  refine ⟨?_, h.2.1.trans (ht.2.2 B hB), by rw [← ht.1]; exact h.2.2⟩
  refine h.1.kept (row := some b) ⟨(ht.2.2 B hB).os, (ht.2.2 B hB).tape, (ht.2.2 B hB).output, Nat.le_of_eq ht.1, fun i hi hne => ht.2.1 i (fun e => hne (by rw [e]))⟩ ?_
  rcases h.1.2 with ⟨rfl, _⟩ | ⟨g, cap, cur, rfl, _, hh, _⟩
  · simp [Value.ownBlock]
  · have := cells_map_ne hh hb
    simp [Value.ownBlock, this]
/-- a raw value more -/
theorem RawAt.putM {f' : ValF} {n' : Nat} (h : RawAt B W0 R rb bm bs k st w) (ht : Turned bm w w') (hm : TMap w' bm n' f') (hn : n' ≤ k + 1) : RawAt B W0 R rb bm bs (k + 1) (st.1, f', st.2.2) w' := by
  obtain ⟨l1, l2, l3, l4, l5, l6⟩ := h.lo
  obtain ⟨v, ns, h1, h2, h3, h4⟩ := h.r
  obtain ⟨n1, m1, m2⟩ := h.m
  obtain ⟨n2, s1, s2⟩ := h.s
  obtain ⟨es, c, hes⟩ := m2.is
  exact ⟨⟨v, ns, (ht.2.1 rb (cells_map_ne h1 hes)).trans h1, sbuf_turned h2 l3 hes ht, h3, by omega⟩, ⟨n', hn, hm⟩, ⟨n2, by omega, s2.same (ht.2.1 bs (Ne.symm l5))⟩, (ht.2.1 R (cells_map_ne h.z hes)).trans h.z, h.lo⟩
/-- a name that is there -/
theorem RawAt.putS {g' : List UInt8 → Option Bool} {n' : Nat} (h : RawAt B W0 R rb bm bs k st w) (ht : Turned bs w w') (hm : BMap w' bs n' g') (hn : n' ≤ k + 1) : RawAt B W0 R rb bm bs k (st.1, st.2.1, g') w' := by
  obtain ⟨l1, l2, l3, l4, l5, l6⟩ := h.lo
  obtain ⟨v, ns, h1, h2, h3, h4⟩ := h.r
  obtain ⟨n1, m1, m2⟩ := h.m
  obtain ⟨n2, s1, s2⟩ := h.s
  obtain ⟨es, c, hes⟩ := s2.is
  exact ⟨⟨v, ns, (ht.2.1 rb (cells_map_ne h1 hes)).trans h1, sbuf_turned h2 l4 hes ht, h3, h4⟩, ⟨n1, m1, m2.same (ht.2.1 bm l5)⟩, ⟨n', hn, hm⟩, (ht.2.1 R (cells_map_ne h.z hes)).trans h.z, h.lo⟩
end
end Go.Proofs.YtienjpelmbldpaaGreatDoor

/- WALK of param.readRaws. No statement is proved here. -/
namespace Go.Proofs.YtienjpelmbldpaaGreatDoor
open Go.RowKit
set_option linter.unusedVariables false
set_option linter.unusedSimpArgs false
set_option maxRecDepth 100000
theorem SBuf.neC {B b : Nat} {v : Value} {l : List ByteArray} {W0 w : World} {cs : Array Value} {t : TypeId} {fr : Nat × Nat} (h : SBuf B v l W0 w) (hb : w.heap[b]? = some (.cells cs t fr)) (ht : t ≠ 9) : v.ownBlock ≠ some b := by
  rcases h.1.2 with ⟨rfl, _⟩ | ⟨g, cap, cur, rfl, _, hh, _⟩
  · simp [Value.ownBlock]
  · intro he
    have e : g = b := by simpa [Value.ownBlock] using he
    subst e
    rw [hh] at hb
    injection hb with hb
    injection hb with _ e
    exact ht e.symm
theorem SBuf.setC {B b : Nat} {v : Value} {l : List ByteArray} {W0 w : World} {cs : Array Value} {t : TypeId} {fr : Nat × Nat} (h : SBuf B v l W0 w) (hb : w.heap[b]? = some (.cells cs t fr)) (ht : t ≠ 9) (hB : B ≤ b) (i : Nat) (x : Value) : SBuf B v l W0 (w.setCell ⟨b, i, none⟩ x) :=
  ⟨ownsRow_setCell_other h.1 (h.neC hb ht) x, h.2.1.setCell hB x, by simpa [World.setCell] using h.2.2⟩
/-- append(r.names, s): the one string lies in the block that has just been laid; the reading's variables behind it -/
theorem wpList_names {ops : Array Oper} {rest : List Oper} {o : Oper} {a : Act} {Q : Exit → Act → World → Prop} (hgd : o.guard = none) (s x : Operand)
    (ho : o.op = .call { callee := .builtin .append, args := #[s, x], argTypes := #[39, 39] })
    (B R rb bm bs k : Nat) (st : RawSt) (v : Value) (hs : a.eval s = v) (W0 w0 : World) (c : ByteArray) (h : RawAt B W0 R rb bm bs k st w0) (hv : w0.cell? ⟨rb, 0, none⟩ = some v)
    (hx : a.eval x = .slice (some ⟨w0.heap.size, 0, none⟩) 1 1) (hlen : k ≤ 1048576)
    (hK : ∀ (A : Option Addr) (l cp : Nat) w', w'.cell? ⟨rb, 0, none⟩ = some v → w'.frozen? ⟨rb, 0, none⟩ = false → RawAt B W0 R rb bm bs (k + 1) (st.1 ++ [c.data.toList], st.2) (w'.setCell ⟨rb, 0, none⟩ (.slice A l cp)) → wpList Tryz.prog ops Q rest (a.put o.dst (.slice A l cp)) w') : wpList Tryz.prog ops Q (o :: rest) a (w0.alloc (.cells #[.string c] 9)) := by
  obtain ⟨v1, ns, h1, h2, h3, h4⟩ := h.r
  obtain ⟨l1, l2, l3, l4, l5, l6⟩ := h.lo
  have ev : v1 = v := by
    have := cell_of_row w0 rb 0 _ _ (0, 0) h1
    rw [hv] at this
    exact (Option.some.inj this).symm
  subst ev
  obtain ⟨n1, m1, m2⟩ := h.m
  obtain ⟨n2, s1, s2⟩ := h.s
  obtain ⟨i0, hi, hz0, hz1, hz2⟩ := info_parts info_str
  have hb' := h2.alloc (.cells #[.string c] 9)
  have al : ∀ b : Nat, b < w0.heap.size → (w0.alloc (.cells #[.string c] 9)).heap[b]? = w0.heap[b]? := fun b hb => Below.heap_alloc w0 _ b hb
  refine wpList_append_own _ hgd s x 39 ho B 9 i0 (.string ByteArray.empty) 1 16 Tryz.underlying39 hi hz0 hz1 hz2 rfl (by decide) v1 ns.length (strVals ns) hs hb'.1 ⟨w0.heap.size, 0, none⟩ 1 1 [.string c] hx rfl ?_ ?_ (by unfold maxLen; omega) (by omega) hb'.2.2 ?_
  · intro j u hj
    match j, hj with
    | 0, hj => simp at hj; subst hj; simp [Addr.add]
    | (j + 1), hj => simp at hj
  · intro u hu; simp at hu; subst hu; rfl
  · intro v' w' ho' hg _
    have hB2 := hb'.grown (l' := ns ++ [c]) (by simpa [strVals] using ho') hg
    obtain ⟨A, cp, rfl⟩ := hB2.slice_len
    -- blocks that are no strings stand
    have keep : ∀ (b : Nat) (cs : Array Value) (t : TypeId) (fr : Nat × Nat), t ≠ 9 → w0.heap[b]? = some (.cells cs t fr) → w'.heap[b]? = some (.cells cs t fr) := fun b cs t fr ht hb => by
      have hlt := lt_of_block hb
      have hb1 := (al b hlt).trans hb
      rw [hg.block b (lt_of_block hb1) (fun e => SBuf.neC hb' hb1 ht e.symm), hb1]
    have keepM : ∀ (b : Nat) es q, w0.heap[b]? = some (.map es q) → w'.heap[b]? = some (.map es q) := fun b es q hb => by
      have hlt := lt_of_block hb
      have hb1 := (al b hlt).trans hb
      rw [hg.block b (lt_of_block hb1) (fun e => by
        rcases hb'.1.2 with ⟨hn, _⟩ | ⟨g, cap, cur, hv2, _, hh, _⟩
        · rw [hn] at e; simp [Value.ownBlock] at e
        · rw [hv2] at e
          have : b = g := by simpa [Value.ownBlock] using e
          exact cells_map_ne hh hb1 this.symm), hb1]
    obtain ⟨es1, q1, he1⟩ := m2.is
    obtain ⟨es2, q2, he2⟩ := s2.is
    have rb' := keep rb _ _ _ (by decide) h1
    have zz' := keep R _ _ _ (by decide) h.z
    have nRm := cells_map_ne h1 he1
    have nRs := cells_map_ne h1 he2
    refine hK A _ cp w' (by rw [cell_of_row w' rb 0 _ _ (0, 0) rb']; rfl) ?_ ?_
    · simp [World.frozen?, rb']
    · have st0 : (w'.setCell ⟨rb, 0, none⟩ (.slice A (ns ++ [c]).length cp)).heap[rb]? = some (.cells #[.slice A (ns ++ [c]).length cp, .map (some bm)] 43 (0, 0)) := by
        simp [World.setCell, Array.getElem?_modify, rb']
      refine ⟨⟨_, ns ++ [c], st0, SBuf.setC hB2 rb' (by decide) l2 0 _, by rw [List.map_append, h3]; rfl, by simp; omega⟩, ⟨n1, by omega, m2.same ?_⟩, ⟨n2, by omega, s2.same ?_⟩, ?_, h.lo⟩
      · rw [Below.heap_setCell w' ⟨rb, 0, none⟩ _ bm (Ne.symm nRm), keepM _ _ _ he1, he1]
      · rw [Below.heap_setCell w' ⟨rb, 0, none⟩ _ bs (Ne.symm nRs), keepM _ _ _ he2, he2]
      · rw [Below.heap_setCell w' ⟨rb, 0, none⟩ _ R (Ne.symm l6)]; exact zz'
end Go.Proofs.YtienjpelmbldpaaGreatDoor

