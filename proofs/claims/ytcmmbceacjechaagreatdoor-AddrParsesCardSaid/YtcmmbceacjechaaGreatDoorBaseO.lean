/- More of the first texts of this claim in one: each with its own head. No statement is proved here. -/
import Derived.Test.YtcmmbceacjechaaGreatDoorBaseN
import Derived.Test.YtcmmbceacjechaaGreatDoorBaseM
import Derived.Test.YtcmmbceacjechaaGreatDoorShelf
import Derived.Lib.Builder
import Derived.Laws.Externs
import Derived.Deep.LoopGhost
import Derived.WalkMore
import Derived.Deep.RegionLaw
import Derived.Laws.AppendOwnNone
import Derived.Deep.WholeRow
import Derived.Lib.SliceRun
import Derived.Defers
import Derived.Laws.Pointers
import Derived.Laws.LoneSync
import Derived.RegionTactic
import Derived.RegionCalls
import Derived.ChangeAlike
import Derived.Laws.NewBlocks
/- WALK of word.One. No statement is proved here. -/
namespace Go.Proofs.YtcmmbceacjechaaGreatDoor
open Go.RowKit
set_option linter.unusedVariables false
set_option linter.unusedSimpArgs false
set_option maxRecDepth 100000

/-- what One answers -/
def oneV (l : List UInt8) : Value := .tuple #[.string (str (oneT l)), .int .i64 (oneN l)]
theorem oneV_none {l : List UInt8} (h : oneL l = none) : oneV l = .tuple #[.string ⟨#[]⟩, .int .i64 0] := by
  unfold oneV oneT oneN; rw [h]; rfl
theorem oneV_some {l g : List UInt8} {n : Nat} (h : oneL l = some (g, n)) : oneV l = .tuple #[.string (str g), .int .i64 n] := by
  unfold oneV oneT oneN; rw [h]; rfl
theorem one_parts {l a r1 x r2 t r3 : List UInt8} (ha : a = beforeC 63 (l.drop 2)) (hr1 : r1 = afterC 63 (l.drop 2)) (hx : x = beforeC 63 r1) (hr2 : r2 = afterC 63 r1) (ht : t = beforeC 63 r2) (hr3 : r3 = afterC 63 r2) :
    oneL l = if l.take 2 = [61, 63] ∧ r3.take 1 = [61] ∧ labelK a ≠ 0 then (bytesO x t).map fun b => (decodeL (labelK a) b, l.length - (r3.length - 1)) else none := by
  subst ha hr1 hx hr2 ht hr3; rfl
theorem afterC_le (c : UInt8) (l : List UInt8) : (afterC c l).length ≤ l.length := by
  unfold afterC; have := (List.dropWhile_sublist (l := l) fun x => x != c).length_le
  rw [List.length_drop]; omega

set_option maxHeartbeats 2000000 in
theorem one_any (s : ByteArray) (w : World) (hs : s.size ≤ 1048576) (hT : Tab w) :
    Calls Tryz.prog 167 #[.string s] w fun e w' => e = .returned (oneV s.data.toList) ∧ Below w.heap.size w w' := by
  have HT := hide hT
  have H0 := hide hT.lt
  clear hT
  have hl := toList_length s
  by_cases hp : s.data.toList.take 2 = [61, 63]
  · have hl2 : (s.data.toList.drop 2).length ≤ s.size := by rw [List.length_drop, hl]; omega
    obtain ⟨a, ha⟩ : ∃ a, a = beforeC 63 (s.data.toList.drop 2) := ⟨_, rfl⟩
    obtain ⟨r1, hr1⟩ : ∃ r1, r1 = afterC 63 (s.data.toList.drop 2) := ⟨_, rfl⟩
    obtain ⟨x, hx⟩ : ∃ x, x = beforeC 63 r1 := ⟨_, rfl⟩
    obtain ⟨r2, hr2⟩ : ∃ r2, r2 = afterC 63 r1 := ⟨_, rfl⟩
    obtain ⟨t, ht⟩ : ∃ t, t = beforeC 63 r2 := ⟨_, rfl⟩
    obtain ⟨r3, hr3⟩ : ∃ r3, r3 = afterC 63 r2 := ⟨_, rfl⟩
    have hone := one_parts ha hr1 hx hr2 ht hr3
    have z1 : r1.length ≤ s.size := by rw [hr1]; have := afterC_le 63 (s.data.toList.drop 2); omega
    have z2 : r2.length ≤ s.size := by rw [hr2]; have := afterC_le 63 r1; omega
    have z3 : r3.length ≤ s.size := by rw [hr3]; have := afterC_le 63 r2; omega
    have za : (str a).size ≤ 1048576 := by rw [str_size, ha]; have := beforeC_le 63 (s.data.toList.drop 2); omega
    have zx : (str x).size ≤ 1048576 := by rw [str_size, hx]; have := beforeC_le 63 r1; omega
    have zt : (str t).size ≤ 1048576 := by rw [str_size, ht]; have := beforeC_le 63 r2; omega
    obtain ⟨q1, hc1⟩ : ∃ q, cutV 63 (s.data.toList.drop 2) = .tuple #[.string (str a), .string (str r1), .bool q] := ⟨_, by rw [ha, hr1]; rfl⟩
    obtain ⟨q2, hc2⟩ : ∃ q, cutV 63 r1 = .tuple #[.string (str x), .string (str r2), .bool q] := ⟨_, by rw [hx, hr2]; rfl⟩
    obtain ⟨q3, hc3⟩ : ∃ q, cutV 63 r2 = .tuple #[.string (str t), .string (str r3), .bool q] := ⟨_, by rw [ht, hr3]; rfl⟩
    have C1 := hide hc1
    have C2 := hide hc2
    have C3 := hide hc3
    have Z0 := hide (show (str (s.data.toList.drop 2)).size ≤ 70368744177664 by rw [str_size]; omega)
    have Z1 := hide (show (str r1).size ≤ 70368744177664 by rw [str_size]; omega)
    have Z2 := hide (show (str r2).size ≤ 70368744177664 by rw [str_size]; omega)
    have ZA := hide za
    have ZX := hide zx
    have ZT := hide zt
    have HP := hide hp
    by_cases he : r3.take 1 = [61]
    · obtain ⟨r4, hr4⟩ : ∃ r4, r3 = 61 :: r4 := by
        cases r3 with
        | nil => cases he
        | cons c r => exact ⟨r, by have : c = 61 := by simpa using he
                                   rw [this]⟩
      have hlen : s.data.toList.length - (r3.length - 1) = s.size - r4.length := by rw [hl, hr4]; simp
      have z4 : (str r4).size ≤ s.size := by rw [str_size]; rw [hr4, List.length_cons] at z3; omega
      have hz4 : (str r4).size = r4.length := str_size r4
      have HE := hide he
      have HD4 := hide (show str (r3.drop 1) = str r4 by rw [hr4]; rfl)
      rw [hlen] at hone
      clear hl2 ha hr1 hx hr2 ht hr3 z1 z2 z3 za zx zt hc1 hc2 hc3 hr4 hlen
      by_cases hk : labelK a = 0
      · obtain ⟨y, hy⟩ := labelV_no hk
        have HY := hide hy
        have HV := hide (oneV_none (l := s.data.toList) (by rw [hone, if_neg (fun h => h.2.2 hk)]))
        obtain ⟨bb, q, hbb⟩ : ∃ bb q, bytesV (bytesO x t) = .tuple #[.string bb, .bool q] := by
          cases bytesO x t with
          | none => exact ⟨_, _, rfl⟩
          | some b => exact ⟨_, _, rfl⟩
        have HBB := hide hbb
        clear hk hy hone hbb hp he z4 hl hz4
        go_enter Tryz.func167, Tryz.ntmps167
        go_wp2_with fail
        refine (cutPrefix_yes s [61, 63] _ HP.out).mono ?_
        rintro e w1 ⟨rfl, rfl⟩
        go_wp2_with fail
        refine (strCut_any _ 63 _ Z0.out).mono ?_
        rintro e w2 ⟨rfl, hb2⟩
        rw [str_toList, C1.out]
        go_wp2_with fail
        refine (strCut_any _ 63 _ Z1.out).mono ?_
        rintro e w3 ⟨rfl, hb3⟩
        rw [str_toList, C2.out]
        go_wp2_with fail
        refine (strCut_any _ 63 _ Z2.out).mono ?_
        rintro e w4 ⟨rfl, hb4⟩
        rw [str_toList, C3.out]
        go_wp2_with fail
        refine (cutPrefix_yes (str r3) [61] _ HE.out).mono ?_
        rintro e w5 ⟨rfl, rfl⟩
        go_wp2_with fail
        refine (labelOf_any _ _ ZA.out).mono ?_
        rintro e w6 ⟨rfl, hb6⟩
        rw [str_toList, HY.out]
        go_wp2_with fail
        refine (bytesOf_any _ _ _ ZT.out).mono ?_
        rintro e w7 ⟨rfl, hb7⟩
        rw [str_toList, str_toList, HBB.out]
        go_wp2_with fail
        go_ret2
        have k3 := hb2.trans (hb3.mono hb2.size)
        have k4 := k3.trans (hb4.mono k3.size)
        have k6 := k4.trans (hb6.mono k4.size)
        exact ⟨by rw [HV.out]; rfl, k6.trans (hb7.mono k6.size)⟩
      · obtain ⟨hy, hkk⟩ := labelV_yes hk
        have HY := hide hy
        have HKK := hide hkk
        have ZL := hide (show (str (beforeC 42 a)).size ≤ 70368744177664 by rw [str_size]; have := beforeC_le 42 a; have := str_size a; have := ZA.out; omega)
        rw [if_pos ⟨hp, he, hk⟩] at hone
        cases hb : bytesO x t with
        | none =>
          have HV := hide (oneV_none (l := s.data.toList) (by rw [hone, hb]; rfl))
          have HBB : Hid (bytesV (bytesO x t) = .tuple #[.string ⟨#[]⟩, .bool false]) := hide (by rw [hb]; rfl)
          clear hk hy hkk hone hb hp he z4 hl hz4
          go_enter Tryz.func167, Tryz.ntmps167
          go_wp2_with fail
          refine (cutPrefix_yes s [61, 63] _ HP.out).mono ?_
          rintro e w1 ⟨rfl, rfl⟩
          go_wp2_with fail
          refine (strCut_any _ 63 _ Z0.out).mono ?_
          rintro e w2 ⟨rfl, hb2⟩
          rw [str_toList, C1.out]
          go_wp2_with fail
          refine (strCut_any _ 63 _ Z1.out).mono ?_
          rintro e w3 ⟨rfl, hb3⟩
          rw [str_toList, C2.out]
          go_wp2_with fail
          refine (strCut_any _ 63 _ Z2.out).mono ?_
          rintro e w4 ⟨rfl, hb4⟩
          rw [str_toList, C3.out]
          go_wp2_with fail
          refine (cutPrefix_yes (str r3) [61] _ HE.out).mono ?_
          rintro e w5 ⟨rfl, rfl⟩
          go_wp2_with fail
          refine (labelOf_any _ _ ZA.out).mono ?_
          rintro e w6 ⟨rfl, hb6⟩
          rw [str_toList, HY.out]
          go_wp2_with fail
          refine (bytesOf_any _ _ _ ZT.out).mono ?_
          rintro e w7 ⟨rfl, hb7⟩
          rw [str_toList, str_toList, HBB.out]
          go_wp2_with fail
          go_ret2
          have k3 := hb2.trans (hb3.mono hb2.size)
          have k4 := k3.trans (hb4.mono k3.size)
          have k6 := k4.trans (hb6.mono k4.size)
          exact ⟨by rw [HV.out]; rfl, k6.trans (hb7.mono k6.size)⟩
        | some b =>
          have zb := bytesO_length hb
          have ZB := hide (show (str b).size ≤ 1048576 by rw [str_size]; have := str_size t; have := ZT.out; omega)
          have HV := hide (oneV_some (l := s.data.toList) (by rw [hone, hb]; rfl))
          have HBB : Hid (bytesV (bytesO x t) = .tuple #[.string (str b), .bool true]) := hide (by rw [hb]; rfl)
          obtain ⟨q, hq⟩ : ∃ q, decV (labelK a) b = .tuple #[.string (str (decodeL (labelK a) b)), .bool q] := ⟨_, rfl⟩
          have HQ := hide hq
          obtain ⟨R4, hR4⟩ : ∃ R4, R4 = str r4 := ⟨_, rfl⟩
          rw [← hR4] at hz4 z4 HD4
          have HZ4 := hide hz4
          clear hk hy hkk hone hb hp he hl zb hq hR4 hz4
          go_enter Tryz.func167, Tryz.ntmps167
          go_wp2_with fail
          refine (cutPrefix_yes s [61, 63] _ HP.out).mono ?_
          rintro e w1 ⟨rfl, rfl⟩
          go_wp2_with fail
          refine (strCut_any _ 63 _ Z0.out).mono ?_
          rintro e w2 ⟨rfl, hb2⟩
          rw [str_toList, C1.out]
          go_wp2_with fail
          refine (strCut_any _ 63 _ Z1.out).mono ?_
          rintro e w3 ⟨rfl, hb3⟩
          rw [str_toList, C2.out]
          go_wp2_with fail
          refine (strCut_any _ 63 _ Z2.out).mono ?_
          rintro e w4 ⟨rfl, hb4⟩
          rw [str_toList, C3.out]
          go_wp2_with fail
          refine (cutPrefix_yes (str r3) [61] _ HE.out).mono ?_
          rintro e w5 ⟨rfl, rfl⟩
          rw [show str (List.drop ([61] : List UInt8).length (str r3).data.toList) = R4 from HD4.out]
          go_wp2_with fail
          refine (labelOf_any _ _ ZA.out).mono ?_
          rintro e w6 ⟨rfl, hb6⟩
          rw [str_toList, HY.out]
          go_wp2_with fail
          refine (bytesOf_any _ _ _ ZT.out).mono ?_
          rintro e w7 ⟨rfl, hb7⟩
          rw [str_toList, str_toList, HBB.out]
          have k3 := hb2.trans (hb3.mono hb2.size)
          have k4 := k3.trans (hb4.mono k3.size)
          have k6 := k4.trans (hb6.mono k4.size)
          have k7 := k6.trans (hb7.mono k6.size)
          have HK7 := hide k7
          clear k3 k4 k6 k7 hb2 hb3 hb4 hb6 hb7
          go_wp2_with fail
          refine (charsDecode_any _ _ _ ZL.out ZB.out (HT.out.below HK7.out H0.out)).mono ?_
          rintro e w8 ⟨rfl, hb8⟩
          rw [str_toList, str_toList, HKK.out, HQ.out]
          go_wp2_with fail
          go_ret2
          refine ⟨?_, HK7.out.trans (hb8.mono HK7.out.size)⟩
          rw [HV.out]
          refine congrArg (fun z => Ending.returned (.tuple #[.string _, .int .i64 z])) ?_
          have := HZ4.out
          omega
    · have HV := hide (oneV_none (l := s.data.toList) (by rw [hone, if_neg (fun h => he h.2.1)]))
      have HE := hide he
      clear hl2 ha hr1 hx hr2 ht hr3 z1 z2 z3 za zx zt hc1 hc2 hc3 hone hp he hl
      go_enter Tryz.func167, Tryz.ntmps167
      go_wp2_with fail
      refine (cutPrefix_yes s [61, 63] _ HP.out).mono ?_
      rintro e w1 ⟨rfl, rfl⟩
      go_wp2_with fail
      refine (strCut_any _ 63 _ Z0.out).mono ?_
      rintro e w2 ⟨rfl, hb2⟩
      rw [str_toList, C1.out]
      go_wp2_with fail
      refine (strCut_any _ 63 _ Z1.out).mono ?_
      rintro e w3 ⟨rfl, hb3⟩
      rw [str_toList, C2.out]
      go_wp2_with fail
      refine (strCut_any _ 63 _ Z2.out).mono ?_
      rintro e w4 ⟨rfl, hb4⟩
      rw [str_toList, C3.out]
      go_wp2_with fail
      refine (cutPrefix_no (str r3) [61] _ HE.out).mono ?_
      rintro e w5 ⟨rfl, rfl⟩
      go_wp2_with fail
      go_ret2
      have k3 := hb2.trans (hb3.mono hb2.size)
      exact ⟨by rw [HV.out]; rfl, k3.trans (hb4.mono k3.size)⟩
  · have HV := hide (oneV_none (l := s.data.toList) (by unfold oneL; rw [if_neg (fun h => hp h.1)]))
    have HP := hide hp
    clear hp hl
    go_enter Tryz.func167, Tryz.ntmps167
    go_wp2_with fail
    refine (cutPrefix_no s [61, 63] _ HP.out).mono ?_
    rintro e w1 ⟨rfl, rfl⟩
    go_wp2_with fail
    go_ret2
    exact ⟨by rw [HV.out]; rfl, Below.refl _ _⟩
end Go.Proofs.YtcmmbceacjechaaGreatDoor

/- WALKS of strings.Builder's copyCheck and WriteString at this dump, and small words for a builder of bytes. No statement is proved here. -/
namespace Go.Proofs.YtcmmbceacjechaaGreatDoor
open Go.RowKit
set_option linter.unusedVariables false
set_option linter.unusedSimpArgs false

theorem bldSize : (Tryz.prog.info? 69).map (·.size) = some 2 := by kernel_rfl
theorem bldLies : liesAt Tryz.prog Tryz.prog.depth 69 (2 / Tryz.prog.cellsOf 69) 0 69 1 = true := by kernel_rfl

/-- the builder in block b has gathered the bytes l; below B all is as in W0 -/
def Bld (B b : Nat) (l : List UInt8) (W0 w : World) : Prop := Lib.IsBuilder 69 5 B b (cellsOf l) w ∧ Below B W0 w ∧ B ≤ w.heap.size

set_option maxRecDepth 100000 in
set_option maxHeartbeats 1000000 in
theorem copyCheck_used (b : Nat) (w : World) (h0 : w.cell? ⟨b, 0, none⟩ = some (.pointer (some ⟨b, 0, none⟩))) :
    Calls Tryz.prog 102 #[.pointer (some ⟨b, 0, none⟩)] w fun e w' => e = .returned (.tuple #[]) ∧ w = w' := by
  obtain ⟨j, hj, _⟩ := Option.map_eq_some_iff.1 bldSize
  have hne := fun w : World => Lib.run_neq_ptr_same (P := Tryz.prog) w ⟨b, 0, none⟩ Tryz.underlying66 hj
  go_enter Tryz.func102, Tryz.ntmps102
  go_wp2
  go_end0
  exact ⟨rfl, rfl⟩

set_option maxRecDepth 100000 in
set_option maxHeartbeats 1000000 in
theorem copyCheck_fresh (b : Nat) (w : World) (h0 : w.cell? ⟨b, 0, none⟩ = some (.pointer none)) (hsh : w.shape? b = some (69, 2)) (hfz : w.frozen? ⟨b, 0, none⟩ = false) :
    Calls Tryz.prog 102 #[.pointer (some ⟨b, 0, none⟩)] w fun e w' => e = .returned (.tuple #[]) ∧ w.setCell ⟨b, 0, none⟩ (.pointer (some ⟨b, 0, none⟩)) = w' := by
  obtain ⟨j, hj, hjs⟩ := Option.map_eq_some_iff.1 bldSize
  have c1 := Lib.run_to_unsafe (P := Tryz.prog) w ⟨b, 0, none⟩ Tryz.underlying66 Tryz.underlying139 hj (by rw [hjs]; decide) hsh (Nat.zero_lt_succ 1)
  have c2 := Lib.run_from_unsafe (P := Tryz.prog) w ⟨b, 0, none⟩ Tryz.underlying139 Tryz.underlying66 hj hsh bldLies
  have ce := fun w : World => run_callFunc_extern (P := Tryz.prog) (w := w) (args := #[Value.pointer (some ⟨b, 0, none⟩)]) Tryz.func154 (by kernel_rfl) (by kernel_rfl) (by kernel_rfl) (e := Extern.AbiNoEscape.same) (by kernel_rfl)
  have cn := fun w : World => Lib.run_noEscape (P := Tryz.prog) (w := w) (Value.pointer (some ⟨b, 0, none⟩))
  go_enter Tryz.func102, Tryz.ntmps102
  go_wp2
  go_end0
  exact ⟨rfl, rfl⟩

theorem copyCheck_any (B b : Nat) (bs : List Value) (w : World) (h : Lib.IsBuilder 69 5 B b bs w) :
    Calls Tryz.prog 102 #[.pointer (some ⟨b, 0, none⟩)] w fun e w' => e = .returned (.tuple #[]) ∧ (Lib.BuilderAt 69 5 B b (.pointer (some ⟨b, 0, none⟩)) bs w' ∧ Below B w w') := by
  rcases h with h | h
  · refine (copyCheck_fresh b w h.cell0 h.shape h.frozen0).mono ?_
    rintro e w' ⟨rfl, rfl⟩
    exact ⟨rfl, h.used _, (Below.refl B w).setCell (p := ⟨b, 0, none⟩) h.1 _⟩
  · refine (copyCheck_used b w h.cell0).mono ?_
    rintro e w' ⟨rfl, rfl⟩
    exact ⟨rfl, h, Below.refl B _⟩

set_option maxRecDepth 100000 in
set_option maxHeartbeats 1000000 in
theorem writeString_any (B b : Nat) (l : List UInt8) (s : ByteArray) (W0 w : World) (h : Bld B b l W0 w) (hlen : l.length + s.size ≤ 140737488355328) :
    Calls Tryz.prog 60 #[.pointer (some ⟨b, 0, none⟩), .string s] w fun e w' => e = .returned (.tuple #[.int .i64 s.size, .nilIface]) ∧ Bld B b (l ++ s.data.toList) W0 w' := by
  obtain ⟨h, hbel, hBw⟩ := h
  obtain ⟨i0, hi, hz0, hz1, hz2⟩ := info_parts info_u8
  have HBL := hide hbel
  clear hbel
  go_enter Tryz.func60, Tryz.ntmps60
  go_wp2_with fail
  refine (copyCheck_any B b (cellsOf l) _ h).mono ?_
  rintro e w1 ⟨rfl, h1, hb1⟩
  obtain ⟨hB, v, hbk, hown, hne⟩ := h1
  have c1 : w1.cell? ⟨b, 1, none⟩ = some v := by rw [Lib.cell_of_heap hbk]; rfl
  have hlt : b < w1.heap.size := lt_of_block hbk
  have hl1 : (cellsOf l).length = l.length := cellsOf_length l
  have HBK := hide hbk
  have HOWN := hide hown
  have HNE := hide hne
  have HB1 := hide hb1
  have hsz1 := hb1.size
  have HI := hide hi
  have HZ0 := hide hz0
  have HZ1 := hide hz1
  have HZ2 := hide hz2
  have HL1 := hide hl1
  clear hbk hown hne hb1 hi hz0 hz1 hz2 h
  go_wp2_with (refine Lib.wpList_append_own_string _ rfl _ _ 67 9 rfl B 5 i0 Tryz.underlying67 Tryz.underlying9 HI.out HZ0.out HZ1.out HZ2.out v (cellsOf l).length (cellsOf l) rfl HOWN.out s rfl (by rw [HL1.out]; unfold maxLen; omega) (by rw [HL1.out]; omega) (by omega) ?_
               intro v' w2 hown' hgrow _
               obtain ⟨ao, n', cap, rfl⟩ : ∃ ao n' cap, v' = .slice ao n' cap := by
                 rcases hown'.2 with ⟨hv, _⟩ | ⟨g, cap, cur, hv, _⟩
                 · exact ⟨_, _, _, hv⟩
                 · exact ⟨_, _, _, hv⟩
               have hb2 : w2.heap[b]? = some (.cells #[.pointer (some ⟨b, 0, none⟩), v] 69 (0, 0)) := by
                 rw [hgrow.block b hlt (fun e => HNE.out e.symm)]
                 exact HBK.out
               have d1 : w2.cell? ⟨b, 1, none⟩ = some v := by rw [Lib.cell_of_heap hb2]; rfl
               have f1 : w2.frozen? ⟨b, 1, none⟩ = false := Lib.frozen_of_heap hb2 1
               have HO2 := hide hown'
               have HG2 := hide hgrow
               have HB2 := hide hb2
               clear hown' hgrow hb2)
  go_ret2
  have hb3 : Below B w w2 := HB1.out.grown HG2.out (by omega) (fun k hk => (HOWN.out.lt k hk).1)
  refine ⟨rfl, .inr ?_, (HBL.out.trans hb3).setCell (p := ⟨b, 1, none⟩) hB _, ?_⟩
  · refine Lib.BuilderAt.put (T := 69) (e := 5) hB HB2.out (bs' := cellsOf (l ++ s.data.toList)) ?_ (by decide)
    have ho := HO2.out
    have e1 : cellsOf (l ++ s.data.toList) = cellsOf l ++ Lib.strCells s := by rw [cellsOf_str, cellsOf, List.map_append]; rfl
    rw [e1, List.length_append, Lib.strCells_length]
    exact ho
  · have := hb3.size
    simp [World.setCell]
    omega

theorem Bld.string {B b : Nat} {l : List UInt8} {W0 w : World} (h : Bld B b l W0 w) :
    Calls Tryz.prog 64 #[.pointer (some ⟨b, 0, none⟩)] w fun e w' => e = .returned (.string (str l)) ∧ Below B W0 w' :=
  (Tryz.Builder_String_any B b l w h.1 h.2.2).mono fun _ _ ⟨he, hb⟩ => ⟨he, h.2.1.trans hb⟩
theorem Bld.kept {B b : Nat} {l : List UInt8} {W0 w w' : World} (h : Bld B b l W0 w) (hb : Below w.heap.size w w') : Bld B b l W0 w' := by
  obtain ⟨h1, h2, h3⟩ := h
  refine ⟨?_, h2.trans (hb.mono h3), Nat.le_trans h3 hb.size⟩
  have key : ∀ p, Lib.BuilderAt 69 5 B b p (cellsOf l) w → Lib.BuilderAt 69 5 B b p (cellsOf l) w' := by
    intro p h
    have hlt := h.lt
    obtain ⟨hB, v, hbk, hown, hne⟩ := h
    exact ⟨hB, v, (hb.block b hlt).trans hbk, hown.kept (row := none) ⟨hb.os, hb.tape, hb.output, hb.size, fun k hk _ => hb.block k hk⟩ (by cases hv : v.ownBlock <;> simp), hne⟩
  rcases h1 with h | h
  · exact .inl (key _ h)
  · exact .inr (key _ h)
/-- 'var b strings.Builder' -/
theorem Bld.new {B : Nat} {W0 w : World} (hb : Below B W0 w) (hB : B ≤ w.heap.size) : Bld B w.heap.size [] W0 (w.alloc (.cells #[.pointer none, .slice none 0 0] 69)) :=
  ⟨.inl ⟨hB, .slice none 0 0, heap_alloc_new w _, World.ownsRow_nil _ B _ 1, by simp [Value.ownBlock]⟩, hb.alloc hB _, by simp; omega⟩
end Go.Proofs.YtcmmbceacjechaaGreatDoor

/- WALKS of word.allWhite, Decode. No statement is proved here. -/
namespace Go.Proofs.YtcmmbceacjechaaGreatDoor
open Go.RowKit
set_option linter.unusedVariables false
set_option linter.unusedSimpArgs false
set_option maxRecDepth 100000

theorem trimWs_nil (l : List UInt8) : (Lib.trimS l [32, 9, 10, 13] == []) = allWs l := by
  have hc : ∀ c : UInt8, [32, 9, 10, 13].contains c = wsB c := u8_all (p := fun c => [32, 9, 10, 13].contains c = wsB c) (by decide +kernel)
  have hd : ∀ l : List UInt8, (l.dropWhile ([32, 9, 10, 13].contains ·) = [] ↔ allWs l = true) := fun l => by
    induction l with
    | nil => exact ⟨fun _ => rfl, fun _ => rfl⟩
    | cons a r ih =>
      unfold allWs at ih ⊢
      rw [List.dropWhile_cons, List.all_cons]
      by_cases ha : [32, 9, 10, 13].contains a = true
      · rw [if_pos ha, ← hc, ha, Bool.true_and]; exact ih
      · rw [if_neg ha, ← hc]
        exact ⟨fun h => absurd h (by simp), fun h => absurd (Bool.and_eq_true_iff.1 h).1 ha⟩
  unfold Lib.trimS Lib.trimLeftS Lib.trimRightS
  rw [Bool.eq_iff_iff, beq_iff_eq, hd]
  constructor
  · intro h
    by_cases ha : allWs l = true
    · exact ha
    · exfalso
      have hne : l.reverse.dropWhile ([32, 9, 10, 13].contains ·) ≠ [] := fun e => ha (by
        have := (hd l.reverse).1 e
        unfold allWs at this ⊢
        rwa [List.all_reverse] at this)
      obtain ⟨x, r, hxr⟩ : ∃ x r, l.reverse.dropWhile ([32, 9, 10, 13].contains ·) = x :: r := by
        cases hq : l.reverse.dropWhile ([32, 9, 10, 13].contains ·) with
        | nil => exact absurd hq hne
        | cons x r => exact ⟨x, r, rfl⟩
      have hx : [32, 9, 10, 13].contains x = false := by
        have := List.head?_dropWhile_not (fun c => [32, 9, 10, 13].contains c) l.reverse
        rw [hxr] at this
        simpa using this
      rw [hxr] at h
      unfold allWs at h
      rw [List.all_eq_true] at h
      have := h x (by simp)
      rw [← hc, hx] at this
      cases this
  · intro h
    have : l.reverse.dropWhile ([32, 9, 10, 13].contains ·) = [] := (hd l.reverse).2 (by unfold allWs at h ⊢; rwa [List.all_reverse])
    rw [this]; rfl
theorem allWhite_any (s : ByteArray) (w : World) (hs : s.size ≤ maxLen) :
    Calls Tryz.prog 168 #[.string s] w fun e w' => e = .returned (.bool (allWs s.data.toList)) ∧ Below w.heap.size w w' := by
  have HT := hide (trimWs_nil s.data.toList)
  obtain ⟨X, hX⟩ : ∃ X, X = str (Lib.trimS s.data.toList [32, 9, 10, 13]) := ⟨_, rfl⟩
  have HX : Hid ((X.toList == []) = allWs s.data.toList) := hide (by rw [hX, str_list]; exact HT.out)
  have key : ∀ w : World, Calls Tryz.prog 96 #[.string s, .string ⟨#[32, 9, 10, 13]⟩] w fun e w' => e = .returned (.string X) ∧ Below w.heap.size w w' := fun w => by
    rw [hX]
    exact Any.strings_Trim_laid Tryz.lays160 (by kernel_rfl) s ⟨#[32, 9, 10, 13]⟩ w (by unfold maxLen at hs; omega) (by decide) (ascii_of_all (by decide))
  have HK := hide key
  clear hX key
  cases hb : allWs s.data.toList with
  | true =>
    have t0 : X.toList = [] := by have := HX.out; rw [hb] at this; exact beq_iff_eq.1 this
    have t1 : X.toList.isEmpty = true := by rw [t0]; rfl
    go_enter Tryz.func168, Tryz.ntmps168
    go_wp2_with fail
    refine (HK.out _).mono ?_
    rintro e w1 ⟨rfl, hb1⟩
    go_wp2_with fail
    go_ret
    exact ⟨rfl, hb1⟩
  | false =>
    have t0 : X.toList ≠ [] := by
      intro e
      have h2 := HX.out
      rw [hb, e] at h2; cases h2
    have t1 : X.toList.isEmpty = false := by
      cases h : X.toList with
      | nil => exact absurd h t0
      | cons _ _ => rfl
    have t2 := beq_eq_false_iff_ne.2 t0
    clear t0
    go_enter Tryz.func168, Tryz.ntmps168
    go_wp2_with fail
    refine (HK.out _).mono ?_
    rintro e w1 ⟨rfl, hb1⟩
    go_wp2_with fail
    go_ret
    exact ⟨rfl, hb1⟩

set_option maxHeartbeats 4000000 in
theorem wordDecode_any (s : ByteArray) (w : World) (hs : s.size ≤ 1048576) (hT : Tab w) :
    Calls Tryz.prog 116 #[.string s] w fun e w' => e = .returned (.string (str (decW false [] s.data.toList))) ∧ Below w.heap.size w w' := by
  have HT := hide hT
  have H0 := hide hT.lt
  clear hT
  have hB0 := Bld.new (Below.refl w.heap.size w) (Nat.le_refl _)
  have HB0 := hide hB0
  clear hB0
  go_enter Tryz.func116, Tryz.ntmps116
  go_wp2_with fail
  go_step3
  go_wp2_with fail
  go_step3
  go_wp2_with fail
  go_loopg [0, 4] s.size (fun g x b wx => ∃ (t : ByteArray) (bh : Bool) (acc : List UInt8), x = .string t ∧ b = .bool bh ∧ t.size ≤ g ∧ t.size ≤ s.size ∧ Bld w.heap.size w.heap.size acc w wx ∧ acc.length + 3 * t.size ≤ 3 * s.size ∧ Hid (acc ++ decW bh [] t.data.toList = decW false [] s.data.toList))
  case atStart => exact ⟨s, false, [], rfl, rfl, Nat.le_refl _, Nat.le_refl _, HB0.out, by simp, hide rfl⟩
  case round =>
    obtain ⟨t, bh, acc, rfl, rfl, htg, hts, hbl, hacc, HD⟩ := hrel
    have HBL := hide hbl
    clear hbl
    by_cases hz : t.size = 0
    · have hnil : t.data.toList = [] := List.eq_nil_of_length_eq_zero (by rw [toList_length]; exact hz)
      have t0 : t.toList = [] := by rw [bytes_list]; exact hnil
      have t1 : t.toList.isEmpty = true := by rw [t0]; rfl
      have HE : Hid (acc = decW false [] s.data.toList) := hide (by rw [← HD.out, hnil, decW_nil, validL_nil, List.append_nil])
      clear hnil HD hz
      go_wp2_with fail
      refine (HBL.out.string).mono ?_
      rintro e w1 ⟨rfl, hb1⟩
      rw [HE.out]
      go_wp2_with fail
      try rw [Exit.noGoto_ret]
      go_ret
      exact ⟨rfl, hb1⟩
    · cases gk with
      | zero => exact absurd (by omega : t.size = 0) hz
      | succ g =>
      have hpos : 0 < t.size := by omega
      have hne : t.data.toList ≠ [] := fun e => by have := toList_length t; rw [e] at this; simp at this; omega
      have t1 : t.toList.isEmpty = false := by
        rw [bytes_list]
        cases h : t.data.toList with
        | nil => exact absurd h hne
        | cons _ _ => rfl
      clear hz
      go_wp2_with fail
      go_loopg [0, 4, 13] t.size (fun gi x b i wx => ∃ k : Nat, x = .string t ∧ b = .bool bh ∧ k + gi = t.size ∧ i = .int .i64 k ∧ Bld w.heap.size w.heap.size acc w wx ∧ Hid (decW bh (t.data.toList.take k) (t.data.toList.drop k) = decW bh [] t.data.toList))
      case atStart => exact ⟨0, rfl, rfl, by omega, rfl, HBL.out, hide (by rw [List.take_zero, List.drop_zero])⟩
      case round =>
        obtain ⟨k, rfl, rfl, hkg, rfl, hbl2, HDI⟩ := hrel
        have HB2 := hide hbl2
        clear hbl2
        cases gk with
        | zero =>
          obtain rfl : k = t.size := by omega
          have HE : Hid (acc ++ validL t.data.toList = decW false [] s.data.toList) := hide (by
            have := HDI.out
            rw [drop_nil t t.size (Nat.le_refl _), decW_nil, List.take_of_length_le (by rw [toList_length]; exact Nat.le_refl _)] at this
            rw [← HD.out, ← this])
          have zv := validL_length t.data.toList
          rw [toList_length] at zv
          obtain ⟨V, hV⟩ : ∃ V, V = str (validL t.data.toList) := ⟨_, rfl⟩
          have zV : V.size ≤ 3 * t.size := by rw [hV, str_size]; exact zv
          have ZT := hide (show t.size ≤ 1048576 by omega)
          have ZW := hide (show acc.length + V.size ≤ 140737488355328 by omega)
          have HVL : Hid (V.data.toList = validL t.data.toList) := hide (by rw [hV, str_toList])
          have HV := hide hV
          clear hV zv HD HDI hne hkg htg hts hacc hpos zV
          go_wp2_with fail
          refine (valid_any t _ ZT.out).mono ?_
          rintro e w1 ⟨rfl, hb1⟩
          rw [← HV.out]
          have HB3 := hide (HB2.out.kept hb1)
          clear hb1
          go_wp2_with fail
          refine (writeString_any w.heap.size w.heap.size acc V w _ HB3.out ZW.out).mono ?_
          rintro e w2 ⟨rfl, hb2⟩
          have HB4 := hide hb2
          clear hb2
          go_wp2_with fail
          refine (HB4.out.string).mono ?_
          rintro e w3 ⟨rfl, hb3⟩
          rw [show acc ++ V.data.toList = decW false [] s.data.toList by rw [HVL.out]; exact HE.out]
          go_wp2_with fail
          try rw [Exit.noGoto_ret]
          go_ret
          exact ⟨rfl, hb3⟩
        | succ gi =>
          have hlt : k < t.size := by omega
          have hX := extract_end t k
          have zX : (t.extract k t.size).size ≤ 1048576 := by rw [ByteArray.size_extract]; omega
          have HX := hide hX
          have ZX := hide zX
          clear hX zX
          have hdl : (t.data.toList.drop k).length = t.size - k := by rw [List.length_drop, toList_length]
          have hdne : t.data.toList.drop k ≠ [] := by rw [drop_cons t k hlt]; simp
          by_cases hn : oneN (t.data.toList.drop k) = 0
          · have HV : Hid (oneV (t.data.toList.drop k) = .tuple #[.string ⟨#[]⟩, .int .i64 0]) := hide (oneV_none (one_zero hn).1)
            have HDN : Hid (decW bh (t.data.toList.take (k + 1)) (t.data.toList.drop (k + 1)) = decW bh [] t.data.toList) := hide (by
              rw [← HDI.out, decW_go hdne hn, List.drop_drop, take_snoc t k hlt]
              congr 2
              rw [drop_cons t k hlt]; rfl)
            have k0 : (0 : Int) ≤ k := by omega
            have k1 : (k : Int) ≤ t.size := by omega
            clear hdl hdne hn HDI hne
            go_wp2_with fail
            refine (one_any _ _ ZX.out (HT.out.below HB2.out.2.1 H0.out)).mono ?_
            rintro e w1 ⟨rfl, hb1⟩
            rw [HX.out, HV.out]
            have HB3 := hide (HB2.out.kept hb1)
            clear hb1
            go_wp2_with fail
            go_roundg gi
            case rel => exact ⟨k + 1, rfl, rfl, by omega, by go_num, HB3.out, HDN⟩
            case measure => omega
          · obtain ⟨ho, hnle, _⟩ := one_pos hn
            rw [hdl] at hnle
            have htl := oneT_length (t.data.toList.drop k)
            have hdw := decW_word (b := bh) (p := t.data.toList.take k) hn
            obtain ⟨n, hnn⟩ : ∃ n, n = oneN (t.data.toList.drop k) := ⟨_, rfl⟩
            obtain ⟨T, hT⟩ : ∃ T, T = str (oneT (t.data.toList.drop k)) := ⟨_, rfl⟩
            have HV : Hid (oneV (t.data.toList.drop k) = .tuple #[.string T, .int .i64 n]) := hide (by rw [hT, hnn]; rfl)
            have hTl : T.data.toList = oneT (t.data.toList.drop k) := by rw [hT, str_toList]
            have hTs : T.size ≤ 3 * n := by rw [hT, str_size, hnn]; exact htl
            have hn0 : n ≠ 0 := by rw [hnn]; exact hn
            have hnle' : n ≤ t.size - k := by rw [hnn]; exact hnle
            have HP := hide (show (t.extract 0 k).data.toList = t.data.toList.take k by rw [extract_list, List.drop_zero])
            have hps : (t.extract 0 k).size = k := by rw [ByteArray.size_extract]; omega
            have zv := validL_length (t.data.toList.take k)
            rw [List.length_take, toList_length] at zv
            obtain ⟨V, hV⟩ : ∃ V, V = str (validL (t.data.toList.take k)) := ⟨_, rfl⟩
            have hVs : V.size ≤ 3 * k := by rw [hV, str_size]; omega
            have hVl : V.data.toList = validL (t.data.toList.take k) := by rw [hV, str_toList]
            have HVV := hide hV
            have hfin : acc ++ ((if bh && allWs (t.data.toList.take k) then [] else V.data.toList) ++ (T.data.toList ++ decW true [] (t.extract (k + n) t.size).data.toList)) = decW false [] s.data.toList := by
              rw [extract_end, hTl, hVl, ← List.drop_drop, hnn, ← hdw, HDI.out, HD.out]
            have ZG := hide (show (t.extract (k + n) t.size).size ≤ g by rw [ByteArray.size_extract]; omega)
            have ZS := hide (show (t.extract (k + n) t.size).size ≤ s.size by rw [ByteArray.size_extract]; omega)
            have ZP := hide (show (t.extract 0 k).size ≤ 1048576 by omega)
            have ZPM := hide (show (t.extract 0 k).size ≤ maxLen by unfold maxLen; omega)
            have ZW1 := hide (show acc.length + V.size ≤ 140737488355328 by omega)
            have ZW2 := hide (show acc.length + T.size ≤ 140737488355328 by omega)
            have ZW3 := hide (show (acc ++ V.data.toList).length + T.size ≤ 140737488355328 by rw [List.length_append, toList_length]; omega)
            have ZA1 := hide (show (acc ++ T.data.toList).length + 3 * (t.extract (k + n) t.size).size ≤ 3 * s.size by rw [List.length_append, toList_length, ByteArray.size_extract]; omega)
            have ZA2 := hide (show (acc ++ V.data.toList ++ T.data.toList).length + 3 * (t.extract (k + n) t.size).size ≤ 3 * s.size by rw [List.length_append, List.length_append, toList_length, toList_length, ByteArray.size_extract]; omega)
            have k0 : (0 : Int) ≤ k := by omega
            have k1 : (k : Int) ≤ t.size := by omega
            have k2 : (k : Int) + n ≤ t.size := by omega
            have t2 : ((n : Int) == 0) = false := by rw [beq_eq_false_iff_ne]; omega
            have k3 : (0 : Int) ≤ n := by omega
            have hts' : t.size ≤ 1048576 := by omega
            clear hT hnn hV htl hdw hTl hVl hdl hdne hne hn ho hnle HDI HD zv hTs hVs hps hkg hnle' hn0 htg hacc
            cases bh with
            | false =>
              have HFIN : Hid ((acc ++ V.data.toList ++ T.data.toList) ++ decW true [] (t.extract (k + n) t.size).data.toList = decW false [] s.data.toList) := hide (by rw [← hfin]; simp)
              clear hfin
              go_wp2_with fail
              refine (one_any _ _ ZX.out (HT.out.below HB2.out.2.1 H0.out)).mono ?_
              rintro e w1 ⟨rfl, hb1⟩
              rw [HX.out, HV.out]
              have HB3 := hide (HB2.out.kept hb1)
              clear hb1
              go_wp2_with fail
              have HB4 := hide HB3.out
              refine (valid_any _ _ ZP.out).mono ?_
              rintro e w3 ⟨rfl, hb3⟩
              rw [HP.out, ← HVV.out]
              have HB5 := hide (HB4.out.kept hb3)
              clear hb3
              go_wp2_with fail
              refine (writeString_any w.heap.size w.heap.size acc V w _ HB5.out ZW1.out).mono ?_
              rintro e w4 ⟨rfl, hb4⟩
              have HB6 := hide hb4
              clear hb4
              go_wp2_with fail
              refine (writeString_any w.heap.size w.heap.size _ T w _ HB6.out ZW3.out).mono ?_
              rintro e w5 ⟨rfl, hb5⟩
              have HB7 := hide hb5
              clear hb5
              go_wp2_with fail
              go_roundg g
              case rel => exact ⟨t.extract (k + n) t.size, true, _, rfl, rfl, ZG.out, ZS.out, HB7.out, ZA2.out, HFIN⟩
              case measure => omega
            | true =>
              cases hw : allWs (t.data.toList.take k) with
              | false =>
                have HFIN : Hid ((acc ++ V.data.toList ++ T.data.toList) ++ decW true [] (t.extract (k + n) t.size).data.toList = decW false [] s.data.toList) := hide (by rw [← hfin, hw]; simp)
                have HW := hide hw
                clear hfin hw
                go_wp2_with fail
                refine (one_any _ _ ZX.out (HT.out.below HB2.out.2.1 H0.out)).mono ?_
                rintro e w1 ⟨rfl, hb1⟩
                rw [HX.out, HV.out]
                have HB3 := hide (HB2.out.kept hb1)
                clear hb1
                go_wp2_with fail
                refine (allWhite_any _ _ ZPM.out).mono ?_
                rintro e w2 ⟨rfl, hb2⟩
                rw [HP.out, HW.out]
                have HB4 := hide (HB3.out.kept hb2)
                clear hb2
                go_wp2_with fail
                refine (valid_any _ _ ZP.out).mono ?_
                rintro e w3 ⟨rfl, hb3⟩
                rw [HP.out, ← HVV.out]
                have HB5 := hide (HB4.out.kept hb3)
                clear hb3
                go_wp2_with fail
                refine (writeString_any w.heap.size w.heap.size acc V w _ HB5.out ZW1.out).mono ?_
                rintro e w4 ⟨rfl, hb4⟩
                have HB6 := hide hb4
                clear hb4
                go_wp2_with fail
                refine (writeString_any w.heap.size w.heap.size _ T w _ HB6.out ZW3.out).mono ?_
                rintro e w5 ⟨rfl, hb5⟩
                have HB7 := hide hb5
                clear hb5
                go_wp2_with fail
                go_roundg g
                case rel => exact ⟨t.extract (k + n) t.size, true, _, rfl, rfl, ZG.out, ZS.out, HB7.out, ZA2.out, HFIN⟩
                case measure => omega
              | true =>
                have HFIN : Hid ((acc ++ T.data.toList) ++ decW true [] (t.extract (k + n) t.size).data.toList = decW false [] s.data.toList) := hide (by rw [← hfin, hw]; simp)
                have HW := hide hw
                clear hfin hw
                go_wp2_with fail
                refine (one_any _ _ ZX.out (HT.out.below HB2.out.2.1 H0.out)).mono ?_
                rintro e w1 ⟨rfl, hb1⟩
                rw [HX.out, HV.out]
                have HB3 := hide (HB2.out.kept hb1)
                clear hb1
                go_wp2_with fail
                refine (allWhite_any _ _ ZPM.out).mono ?_
                rintro e w2 ⟨rfl, hb2⟩
                rw [HP.out, HW.out]
                have HB4 := hide (HB3.out.kept hb2)
                clear hb2
                go_wp2_with fail
                have HB6 := hide HB4.out
                refine (writeString_any w.heap.size w.heap.size acc T w _ HB6.out ZW2.out).mono ?_
                rintro e w5 ⟨rfl, hb5⟩
                have HB7 := hide hb5
                clear hb5
                go_wp2_with fail
                go_roundg g
                case rel => exact ⟨t.extract (k + n) t.size, true, _, rfl, rfl, ZG.out, ZS.out, HB7.out, ZA1.out, HFIN⟩
                case measure => omega
end Go.Proofs.YtcmmbceacjechaaGreatDoor

/- WALK of addr.readBox. No statement is proved here. -/
namespace Go.Proofs.YtcmmbceacjechaaGreatDoor
open Go.RowKit
set_option linter.unusedVariables false
set_option linter.unusedSimpArgs false
set_option maxRecDepth 100000
def tr4 (l : List UInt8) : List UInt8 := Lib.trimS l [32, 9, 10, 13]
theorem trim4_any (s : ByteArray) (w : World) (hs : s.size ≤ maxLen) :
    Calls Tryz.prog 96 #[.string s, .string ⟨#[32, 9, 10, 13]⟩] w fun e w' => e = .returned (.string (str (tr4 s.data.toList))) ∧ Below w.heap.size w w' :=
  Any.strings_Trim_laid Tryz.lays160 (by kernel_rfl) s ⟨#[32, 9, 10, 13]⟩ w (by unfold maxLen at hs; omega) (by decide) (ascii_of_all (by decide))
theorem tr4_length (l : List UInt8) : (tr4 l).length ≤ l.length := trimS_length l _
theorem unpairL_length : ∀ l : List UInt8, (unpairL l).length ≤ l.length
  | [] => by rw [unpairL]; exact Nat.le_refl _
  | [c] => by rw [unpairL]; exact Nat.le_refl _
  | c :: d :: r => by
    rw [unpairL]
    split
    · have := unpairL_length r; simp only [List.length_cons]; omega
    · have := unpairL_length (d :: r); simp only [List.length_cons] at this ⊢; omega
theorem angOut_size (s : ByteArray) : (angOut s).1.size ≤ s.size ∧ (angOut s).2.1.size ≤ s.size := by
  unfold angOut
  split
  · exact ⟨Nat.zero_le _, Nat.zero_le _⟩
  · rename_i b y _
    refine ⟨?_, ?_⟩
    · show (s.extract 0 b).size ≤ _
      rw [ByteArray.size_extract]; omega
    · show (s.extract (b + 1) (y.getD s.size)).size ≤ _
      rw [ByteArray.size_extract]; omega
/-- the name and the address as they stand -/
def nmOut (s : ByteArray) : List UInt8 × List UInt8 :=
  if (angOut s).2.2 then ((if 0 < (readQ (tr4 (angOut s).1.data.toList)).2 then (readQ (tr4 (angOut s).1.data.toList)).1 else tr4 (angOut s).1.data.toList), (angOut s).2.1.data.toList)
  else (tr4 (rmOut s).1, (rmOut s).2)
def readBoxL (s : ByteArray) : List UInt8 × List UInt8 :=
  (decW false [] (nmOut s).1, if goodL (tr4 (nmOut s).2) then tr4 (nmOut s).2 else [])
def boxV (b : List UInt8 × List UInt8) : Value := .agg #[.string (str b.1), .string (str b.2)]
set_option maxHeartbeats 3200000 in
theorem readBox_any (s : ByteArray) (w : World) (hs : s.size ≤ 1048576) (hT : Tab w) :
    Calls Tryz.prog 71 #[.string s] w fun e w' => e = .returned (boxV (readBoxL s)) ∧ Below w.heap.size w w' := by
  have HT : Hid (Tab (w.alloc (.cells #[.string ⟨#[]⟩, .string ⟨#[]⟩] 79))) := hide (hT.below ((Below.refl w.heap.size w).alloc (Nat.le_refl _) _) hT.lt)
  have HTL : Hid (1 < (w.alloc (.cells #[.string ⟨#[]⟩, .string ⟨#[]⟩] 79)).heap.size) := hide HT.out.lt
  have K1 : Hid (Below (w.alloc (.cells #[.string ⟨#[]⟩, .string ⟨#[]⟩] 79)).heap.size (w.alloc (.cells #[.string ⟨#[]⟩, .string ⟨#[]⟩] 79)) (w.alloc (.cells #[.string ⟨#[]⟩, .string ⟨#[]⟩] 79))) := hide (Below.refl _ _)
  have KF : Hid (∀ w' D M, Below (w.alloc (.cells #[.string ⟨#[]⟩, .string ⟨#[]⟩] 79)).heap.size (w.alloc (.cells #[.string ⟨#[]⟩, .string ⟨#[]⟩] 79)) w' → Below w.heap.size w ((w'.setCell ⟨w.heap.size, 0, none⟩ D).setCell ⟨w.heap.size, 1, none⟩ M)) :=
    hide fun w' D M h => (((Below.refl w.heap.size w).alloc (Nat.le_refl _) _).trans (h.mono (by rw [World.size_alloc]; exact Nat.le_succ _))).setCell (Nat.le_refl _) _ |>.setCell (Nat.le_refl _) _
  have KR : Hid (∀ w', Below (w.alloc (.cells #[.string ⟨#[]⟩, .string ⟨#[]⟩] 79)).heap.size (w.alloc (.cells #[.string ⟨#[]⟩, .string ⟨#[]⟩] 79)) w' → w'.heap[w.heap.size]? = some (.cells #[.string ⟨#[]⟩, .string ⟨#[]⟩] 79)) :=
    hide fun w' h => (h.block w.heap.size (by rw [World.size_alloc]; exact Nat.lt_succ_self _)).trans (heap_alloc_new w _)
  have CA := fun w1 => hide (angled_any s w1 hs)
  have CR := fun w1 => hide (remarked_any s w1 hs)
  obtain ⟨z1, z2⟩ := angOut_size s
  have z3 : (rmOut s).1.length ≤ s.size := Nat.le_trans (unpairL_length _) (rmAt_bd s s.size).2.2
  have z4 : (rmOut s).2.length ≤ s.size := (rmAt_bd s s.size).2.1
  have HN : Hid (nmOut s = if (angOut s).2.2 then ((if 0 < (readQ (tr4 (angOut s).1.data.toList)).2 then (readQ (tr4 (angOut s).1.data.toList)).1 else tr4 (angOut s).1.data.toList), (angOut s).2.1.data.toList) else (tr4 (rmOut s).1, (rmOut s).2)) := hide rfl
  have HR : Hid (readBoxL s = (decW false [] (nmOut s).1, if goodL (tr4 (nmOut s).2) then tr4 (nmOut s).2 else [])) := hide rfl
  obtain ⟨⟨a0, m0, is⟩, hA⟩ : ∃ A, angOut s = A := ⟨_, rfl⟩
  obtain ⟨⟨x0, y0⟩, hB⟩ : ∃ A, rmOut s = A := ⟨_, rfl⟩
  rw [hA] at CA HN z1 z2
  rw [hB] at CR HN z3 z4
  clear hA hB
  have KZ : ∀ w2 : World, w2.heap[w.heap.size]? = some (.cells #[.string ⟨#[]⟩, .string ⟨#[]⟩] 79) → ∀ i, w2.frozen? ⟨w.heap.size, i, none⟩ = false := fun w2 h i => by unfold World.frozen?; rw [h]; simp
  cases is with
  | true =>
    have CT1 := fun w1 => hide (trim4_any a0 w1 (Nat.le_trans z1 (Nat.le_trans hs (by decide))))
    have CT2 := fun w1 => hide (trim4_any m0 w1 (Nat.le_trans z2 (Nat.le_trans hs (by decide))))
    have zA : (tr4 a0.data.toList).length ≤ 1048576 := Nat.le_trans (tr4_length _) (Nat.le_trans (by rw [toList_length]; exact z1) hs)
    have zM : (tr4 m0.data.toList).length ≤ 1048576 := Nat.le_trans (tr4_length _) (Nat.le_trans (by rw [toList_length]; exact z2) hs)
    obtain ⟨a1, ha1⟩ : ∃ a1, tr4 a0.data.toList = a1 := ⟨_, rfl⟩
    obtain ⟨m1, hm1⟩ : ∃ m1, tr4 m0.data.toList = m1 := ⟨_, rfl⟩
    rw [ha1] at CT1 HN zA
    rw [hm1] at CT2 zM
    have CQ := fun w1 => hide (readQ_any (str a1) w1 (by rw [str_size]; exact Nat.le_trans zA (by decide)))
    rw [str_toList] at CQ
    have zq := (readQ_le a1).1
    obtain ⟨⟨q, nq⟩, hq⟩ : ∃ A, readQ a1 = A := ⟨_, rfl⟩
    rw [hq] at CQ HN zq
    simp only [readV] at CQ
    have HM2 : Hid ((nmOut s).2 = m0.data.toList) := hide (by rw [HN.out]; rfl)
    have CG := fun w1 => hide (good_any (str m1) w1 (by rw [str_size]; exact zM))
    rw [str_toList] at CG
    clear CR
    by_cases hn : 0 < nq
    · have HN1 : Hid ((nmOut s).1 = q) := hide (by rw [HN.out]; simp [hn])
      have t1 : decide (0 < nq) = true := decide_eq_true hn
      have t2 : decide ((nq : Int) > 0) = true := decide_eq_true (by omega)
      have CD := fun w1 h => hide (wordDecode_any (str q) w1 (by rw [str_size]; exact Nat.le_trans zq zA) h)
      rw [str_toList] at CD
      obtain ⟨D, hD⟩ : ∃ D, decW false [] q = D := ⟨_, rfl⟩
      rw [hD] at CD
      cases hg : goodL m1 with
      | true =>
        rw [hg] at CG
        have HV : Hid (readBoxL s = (D, m1)) := hide (by rw [HR.out, HN1.out, HM2.out, hm1, hg, hD]; rfl)
        clear hs hT z1 z2 z3 z4 zA zM hg hD hm1 ha1 HN HR HN1 HM2 zq hn hq
        go_enter Tryz.func71, Tryz.ntmps71
        go_wp2_with (first
          | (go_at_call 114; with_reducible refine (CA _).out.mono ?_; rintro e w2 ⟨rfl, hb⟩; have K2 := hide (K1.out.trans (hb.mono K1.out.size)); clear hb)
          | (go_at_call 96; with_reducible refine (CT1 _).out.mono ?_; rintro e w3 ⟨rfl, hb⟩; have K3 := hide (K2.out.trans (hb.mono K2.out.size)); clear hb)
          | (go_at_call 92; with_reducible refine (CQ _).out.mono ?_; rintro e w4 ⟨rfl, hb⟩; have K4 := hide (K3.out.trans (hb.mono K3.out.size)); clear hb)
          | (go_at_call 96; with_reducible refine (CT2 _).out.mono ?_; rintro e w5 ⟨rfl, hb⟩; have K5 := hide (K4.out.trans (hb.mono K4.out.size)); clear hb)
          | (go_at_call 31; with_reducible refine (CG _).out.mono ?_; rintro e w6 ⟨rfl, hb⟩; have K6 := hide (K5.out.trans (hb.mono K5.out.size)); clear hb)
          | (go_at_call 116; with_reducible refine (CD _ (HT.out.below K6.out HTL.out)).out.mono ?_; rintro e w7 ⟨rfl, hb⟩; have K7 := hide (K6.out.trans (hb.mono K6.out.size)); have kr := KR.out _ K7.out; have KW := hide kr; have k0 := cell_of_row w7 w.heap.size 0 _ _ _ kr; have k1 := cell_of_row w7 w.heap.size 1 _ _ _ kr; have k2 := KZ w7 kr; clear kr; clear hb))
        have r0 : ((w7.setCell ⟨w.heap.size, 0, none⟩ (.string (str D))).setCell ⟨w.heap.size, 1, none⟩ (.string (str m1))).heap[w.heap.size]? = some (.cells #[.string (str D), .string (str m1)] 79 (0, 0)) := cells_set8 _ (cells_set8 _ KW.out)
        refine bodyPost_ret (results_cell_row rfl _ _ w.heap.size _ _ _ _ rfl r0 Tryz.underlying79 rfl (by kernel_rfl)) rfl ?_
        exact ⟨by rw [HV.out]; rfl, KF.out _ _ _ K7.out⟩
      | false =>
        rw [hg] at CG
        have HV : Hid (readBoxL s = (D, [])) := hide (by rw [HR.out, HN1.out, HM2.out, hm1, hg, hD]; rfl)
        clear hs hT z1 z2 z3 z4 zA zM hg hD hm1 ha1 HN HR HN1 HM2 zq hn hq
        go_enter Tryz.func71, Tryz.ntmps71
        go_wp2_with (first
          | (go_at_call 114; with_reducible refine (CA _).out.mono ?_; rintro e w2 ⟨rfl, hb⟩; have K2 := hide (K1.out.trans (hb.mono K1.out.size)); clear hb)
          | (go_at_call 96; with_reducible refine (CT1 _).out.mono ?_; rintro e w3 ⟨rfl, hb⟩; have K3 := hide (K2.out.trans (hb.mono K2.out.size)); clear hb)
          | (go_at_call 92; with_reducible refine (CQ _).out.mono ?_; rintro e w4 ⟨rfl, hb⟩; have K4 := hide (K3.out.trans (hb.mono K3.out.size)); clear hb)
          | (go_at_call 96; with_reducible refine (CT2 _).out.mono ?_; rintro e w5 ⟨rfl, hb⟩; have K5 := hide (K4.out.trans (hb.mono K4.out.size)); clear hb)
          | (go_at_call 31; with_reducible refine (CG _).out.mono ?_; rintro e w6 ⟨rfl, hb⟩; have K6 := hide (K5.out.trans (hb.mono K5.out.size)); clear hb)
          | (go_at_call 116; with_reducible refine (CD _ (HT.out.below K6.out HTL.out)).out.mono ?_; rintro e w7 ⟨rfl, hb⟩; have K7 := hide (K6.out.trans (hb.mono K6.out.size)); have kr := KR.out _ K7.out; have KW := hide kr; have k0 := cell_of_row w7 w.heap.size 0 _ _ _ kr; have k1 := cell_of_row w7 w.heap.size 1 _ _ _ kr; have k2 := KZ w7 kr; clear kr; clear hb))
        have r0 : ((w7.setCell ⟨w.heap.size, 0, none⟩ (.string (str D))).setCell ⟨w.heap.size, 1, none⟩ (.string ⟨#[]⟩)).heap[w.heap.size]? = some (.cells #[.string (str D), .string ⟨#[]⟩] 79 (0, 0)) := cells_set8 _ (cells_set8 _ KW.out)
        refine bodyPost_ret (results_cell_row rfl _ _ w.heap.size _ _ _ _ rfl r0 Tryz.underlying79 rfl (by kernel_rfl)) rfl ?_
        exact ⟨by rw [HV.out]; rfl, KF.out _ _ _ K7.out⟩
    · have HN1 : Hid ((nmOut s).1 = a1) := hide (by rw [HN.out]; simp [hn])
      have t1 : decide (0 < nq) = false := decide_eq_false hn
      have t2 : decide ((nq : Int) > 0) = false := decide_eq_false (by omega)
      have CD := fun w1 h => hide (wordDecode_any (str a1) w1 (by rw [str_size]; exact zA) h)
      rw [str_toList] at CD
      obtain ⟨D, hD⟩ : ∃ D, decW false [] a1 = D := ⟨_, rfl⟩
      rw [hD] at CD
      cases hg : goodL m1 with
      | true =>
        rw [hg] at CG
        have HV : Hid (readBoxL s = (D, m1)) := hide (by rw [HR.out, HN1.out, HM2.out, hm1, hg, hD]; rfl)
        clear hs hT z1 z2 z3 z4 zA zM hg hD hm1 ha1 HN HR HN1 HM2 zq hn hq
        go_enter Tryz.func71, Tryz.ntmps71
        go_wp2_with (first
          | (go_at_call 114; with_reducible refine (CA _).out.mono ?_; rintro e w2 ⟨rfl, hb⟩; have K2 := hide (K1.out.trans (hb.mono K1.out.size)); clear hb)
          | (go_at_call 96; with_reducible refine (CT1 _).out.mono ?_; rintro e w3 ⟨rfl, hb⟩; have K3 := hide (K2.out.trans (hb.mono K2.out.size)); clear hb)
          | (go_at_call 92; with_reducible refine (CQ _).out.mono ?_; rintro e w4 ⟨rfl, hb⟩; have K4 := hide (K3.out.trans (hb.mono K3.out.size)); clear hb)
          | (go_at_call 96; with_reducible refine (CT2 _).out.mono ?_; rintro e w5 ⟨rfl, hb⟩; have K5 := hide (K4.out.trans (hb.mono K4.out.size)); clear hb)
          | (go_at_call 31; with_reducible refine (CG _).out.mono ?_; rintro e w6 ⟨rfl, hb⟩; have K6 := hide (K5.out.trans (hb.mono K5.out.size)); clear hb)
          | (go_at_call 116; with_reducible refine (CD _ (HT.out.below K6.out HTL.out)).out.mono ?_; rintro e w7 ⟨rfl, hb⟩; have K7 := hide (K6.out.trans (hb.mono K6.out.size)); have kr := KR.out _ K7.out; have KW := hide kr; have k0 := cell_of_row w7 w.heap.size 0 _ _ _ kr; have k1 := cell_of_row w7 w.heap.size 1 _ _ _ kr; have k2 := KZ w7 kr; clear kr; clear hb))
        have r0 : ((w7.setCell ⟨w.heap.size, 0, none⟩ (.string (str D))).setCell ⟨w.heap.size, 1, none⟩ (.string (str m1))).heap[w.heap.size]? = some (.cells #[.string (str D), .string (str m1)] 79 (0, 0)) := cells_set8 _ (cells_set8 _ KW.out)
        refine bodyPost_ret (results_cell_row rfl _ _ w.heap.size _ _ _ _ rfl r0 Tryz.underlying79 rfl (by kernel_rfl)) rfl ?_
        exact ⟨by rw [HV.out]; rfl, KF.out _ _ _ K7.out⟩
      | false =>
        rw [hg] at CG
        have HV : Hid (readBoxL s = (D, [])) := hide (by rw [HR.out, HN1.out, HM2.out, hm1, hg, hD]; rfl)
        clear hs hT z1 z2 z3 z4 zA zM hg hD hm1 ha1 HN HR HN1 HM2 zq hn hq
        go_enter Tryz.func71, Tryz.ntmps71
        go_wp2_with (first
          | (go_at_call 114; with_reducible refine (CA _).out.mono ?_; rintro e w2 ⟨rfl, hb⟩; have K2 := hide (K1.out.trans (hb.mono K1.out.size)); clear hb)
          | (go_at_call 96; with_reducible refine (CT1 _).out.mono ?_; rintro e w3 ⟨rfl, hb⟩; have K3 := hide (K2.out.trans (hb.mono K2.out.size)); clear hb)
          | (go_at_call 92; with_reducible refine (CQ _).out.mono ?_; rintro e w4 ⟨rfl, hb⟩; have K4 := hide (K3.out.trans (hb.mono K3.out.size)); clear hb)
          | (go_at_call 96; with_reducible refine (CT2 _).out.mono ?_; rintro e w5 ⟨rfl, hb⟩; have K5 := hide (K4.out.trans (hb.mono K4.out.size)); clear hb)
          | (go_at_call 31; with_reducible refine (CG _).out.mono ?_; rintro e w6 ⟨rfl, hb⟩; have K6 := hide (K5.out.trans (hb.mono K5.out.size)); clear hb)
          | (go_at_call 116; with_reducible refine (CD _ (HT.out.below K6.out HTL.out)).out.mono ?_; rintro e w7 ⟨rfl, hb⟩; have K7 := hide (K6.out.trans (hb.mono K6.out.size)); have kr := KR.out _ K7.out; have KW := hide kr; have k0 := cell_of_row w7 w.heap.size 0 _ _ _ kr; have k1 := cell_of_row w7 w.heap.size 1 _ _ _ kr; have k2 := KZ w7 kr; clear kr; clear hb))
        have r0 : ((w7.setCell ⟨w.heap.size, 0, none⟩ (.string (str D))).setCell ⟨w.heap.size, 1, none⟩ (.string ⟨#[]⟩)).heap[w.heap.size]? = some (.cells #[.string (str D), .string ⟨#[]⟩] 79 (0, 0)) := cells_set8 _ (cells_set8 _ KW.out)
        refine bodyPost_ret (results_cell_row rfl _ _ w.heap.size _ _ _ _ rfl r0 Tryz.underlying79 rfl (by kernel_rfl)) rfl ?_
        exact ⟨by rw [HV.out]; rfl, KF.out _ _ _ K7.out⟩
  | false =>
    have CT1 := fun w1 => hide (trim4_any (str x0) w1 (by rw [str_size]; exact Nat.le_trans z3 (Nat.le_trans hs (by decide))))
    have CT2 := fun w1 => hide (trim4_any (str y0) w1 (by rw [str_size]; exact Nat.le_trans z4 (Nat.le_trans hs (by decide))))
    rw [str_toList] at CT1 CT2
    have zA : (tr4 x0).length ≤ 1048576 := Nat.le_trans (tr4_length _) (Nat.le_trans z3 hs)
    have zM : (tr4 y0).length ≤ 1048576 := Nat.le_trans (tr4_length _) (Nat.le_trans z4 hs)
    have HN1 : Hid ((nmOut s).1 = tr4 x0) := hide (by rw [HN.out]; rfl)
    have HM2 : Hid ((nmOut s).2 = y0) := hide (by rw [HN.out]; rfl)
    obtain ⟨a1, ha1⟩ : ∃ a1, tr4 x0 = a1 := ⟨_, rfl⟩
    obtain ⟨m1, hm1⟩ : ∃ m1, tr4 y0 = m1 := ⟨_, rfl⟩
    rw [ha1] at CT1 HN1 zA
    rw [hm1] at CT2 zM
    have CG := fun w1 => hide (good_any (str m1) w1 (by rw [str_size]; exact zM))
    rw [str_toList] at CG
    have CD := fun w1 h => hide (wordDecode_any (str a1) w1 (by rw [str_size]; exact zA) h)
    rw [str_toList] at CD
    obtain ⟨D, hD⟩ : ∃ D, decW false [] a1 = D := ⟨_, rfl⟩
    rw [hD] at CD
    cases hg : goodL m1 with
    | true =>
      rw [hg] at CG
      have HV : Hid (readBoxL s = (D, m1)) := hide (by rw [HR.out, HN1.out, HM2.out, hm1, hg, hD]; rfl)
      clear hs hT z1 z2 z3 z4 zA zM hg hD hm1 ha1 HN HR HN1 HM2 
      go_enter Tryz.func71, Tryz.ntmps71
      go_wp2_with (first
        | (go_at_call 114; with_reducible refine (CA _).out.mono ?_; rintro e w2 ⟨rfl, hb⟩; have K2 := hide (K1.out.trans (hb.mono K1.out.size)); clear hb)
        | (go_at_call 115; with_reducible refine (CR _).out.mono ?_; rintro e w3 ⟨rfl, hb⟩; have K3 := hide (K2.out.trans (hb.mono K2.out.size)); clear hb)
        | (go_at_call 96; with_reducible refine (CT1 _).out.mono ?_; rintro e w4 ⟨rfl, hb⟩; have K4 := hide (K3.out.trans (hb.mono K3.out.size)); clear hb)
        | (go_at_call 96; with_reducible refine (CT2 _).out.mono ?_; rintro e w5 ⟨rfl, hb⟩; have K5 := hide (K4.out.trans (hb.mono K4.out.size)); clear hb)
        | (go_at_call 31; with_reducible refine (CG _).out.mono ?_; rintro e w6 ⟨rfl, hb⟩; have K6 := hide (K5.out.trans (hb.mono K5.out.size)); clear hb)
        | (go_at_call 116; with_reducible refine (CD _ (HT.out.below K6.out HTL.out)).out.mono ?_; rintro e w7 ⟨rfl, hb⟩; have K7 := hide (K6.out.trans (hb.mono K6.out.size)); have kr := KR.out _ K7.out; have KW := hide kr; have k0 := cell_of_row w7 w.heap.size 0 _ _ _ kr; have k1 := cell_of_row w7 w.heap.size 1 _ _ _ kr; have k2 := KZ w7 kr; clear kr; clear hb))
      have r0 : ((w7.setCell ⟨w.heap.size, 0, none⟩ (.string (str D))).setCell ⟨w.heap.size, 1, none⟩ (.string (str m1))).heap[w.heap.size]? = some (.cells #[.string (str D), .string (str m1)] 79 (0, 0)) := cells_set8 _ (cells_set8 _ KW.out)
      refine bodyPost_ret (results_cell_row rfl _ _ w.heap.size _ _ _ _ rfl r0 Tryz.underlying79 rfl (by kernel_rfl)) rfl ?_
      exact ⟨by rw [HV.out]; rfl, KF.out _ _ _ K7.out⟩
    | false =>
      rw [hg] at CG
      have HV : Hid (readBoxL s = (D, [])) := hide (by rw [HR.out, HN1.out, HM2.out, hm1, hg, hD]; rfl)
      clear hs hT z1 z2 z3 z4 zA zM hg hD hm1 ha1 HN HR HN1 HM2 
      go_enter Tryz.func71, Tryz.ntmps71
      go_wp2_with (first
        | (go_at_call 114; with_reducible refine (CA _).out.mono ?_; rintro e w2 ⟨rfl, hb⟩; have K2 := hide (K1.out.trans (hb.mono K1.out.size)); clear hb)
        | (go_at_call 115; with_reducible refine (CR _).out.mono ?_; rintro e w3 ⟨rfl, hb⟩; have K3 := hide (K2.out.trans (hb.mono K2.out.size)); clear hb)
        | (go_at_call 96; with_reducible refine (CT1 _).out.mono ?_; rintro e w4 ⟨rfl, hb⟩; have K4 := hide (K3.out.trans (hb.mono K3.out.size)); clear hb)
        | (go_at_call 96; with_reducible refine (CT2 _).out.mono ?_; rintro e w5 ⟨rfl, hb⟩; have K5 := hide (K4.out.trans (hb.mono K4.out.size)); clear hb)
        | (go_at_call 31; with_reducible refine (CG _).out.mono ?_; rintro e w6 ⟨rfl, hb⟩; have K6 := hide (K5.out.trans (hb.mono K5.out.size)); clear hb)
        | (go_at_call 116; with_reducible refine (CD _ (HT.out.below K6.out HTL.out)).out.mono ?_; rintro e w7 ⟨rfl, hb⟩; have K7 := hide (K6.out.trans (hb.mono K6.out.size)); have kr := KR.out _ K7.out; have KW := hide kr; have k0 := cell_of_row w7 w.heap.size 0 _ _ _ kr; have k1 := cell_of_row w7 w.heap.size 1 _ _ _ kr; have k2 := KZ w7 kr; clear kr; clear hb))
      have r0 : ((w7.setCell ⟨w.heap.size, 0, none⟩ (.string (str D))).setCell ⟨w.heap.size, 1, none⟩ (.string ⟨#[]⟩)).heap[w.heap.size]? = some (.cells #[.string (str D), .string ⟨#[]⟩] 79 (0, 0)) := cells_set8 _ (cells_set8 _ KW.out)
      refine bodyPost_ret (results_cell_row rfl _ _ w.heap.size _ _ _ _ rfl r0 Tryz.underlying79 rfl (by kernel_rfl)) rfl ?_
      exact ⟨by rw [HV.out]; rfl, KF.out _ _ _ K7.out⟩
end Go.Proofs.YtcmmbceacjechaaGreatDoor

/- WALK of addr.boxTexts. No statement is proved here. -/
namespace Go.Proofs.YtcmmbceacjechaaGreatDoor
open Go.RowKit
set_option linter.unusedVariables false
set_option linter.unusedSimpArgs false
set_option maxRecDepth 100000
/-- blocks of other types than string are as they were -/
def KeptS (w w' : World) : Prop := ∀ (b : Nat) (cs : Array Value) (t : TypeId) (fr : Nat × Nat), t ≠ 9 → w.heap[b]? = some (.cells cs t fr) → w'.heap[b]? = w.heap[b]?
theorem KeptS.alloc {w w' : World} (o : Obj) (h : KeptS (w.alloc o) w') : KeptS w w' := fun b cs t fr ht hb => by
  have hlt := lt_of_block hb
  have e := Below.heap_alloc w o b hlt
  exact (h b cs t fr ht (e.trans hb)).trans e
theorem KeptS.drew {w w' : World} (h : KeptS w.drew w') : KeptS w w' := h
theorem KeptS.box {w w' : World} (h : KeptS w w') {b : Nat} {t : TypeId} {v : Value} (hb : Box w b t v) (ht : t ≠ 9) : Box w' b t v := (h b _ t _ ht hb).trans hb
theorem SBuf.ne_cells {B b : Nat} {v : Value} {l : List ByteArray} {W0 w : World} {cs : Array Value} {t : TypeId} {fr : Nat × Nat} (h : SBuf B v l W0 w) (hb : w.heap[b]? = some (.cells cs t fr)) (ht : t ≠ 9) : v.ownBlock ≠ some b := by
  rcases h.1.2 with ⟨rfl, _⟩ | ⟨g, cap, cur, rfl, _, hh, _⟩
  · simp [Value.ownBlock]
  · intro he
    have e : g = b := by simpa [Value.ownBlock] using he
    subst e
    rw [hh] at hb
    injection hb with hb
    injection hb with _ e
    exact ht e.symm
theorem SBuf.setCells {B b : Nat} {v : Value} {l : List ByteArray} {W0 w : World} {cs : Array Value} {t : TypeId} {fr : Nat × Nat} (h : SBuf B v l W0 w) (hb : w.heap[b]? = some (.cells cs t fr)) (ht : t ≠ 9) (hB : B ≤ b) (i : Nat) (x : Value) : SBuf B v l W0 (w.setCell ⟨b, i, none⟩ x) :=
  ⟨ownsRow_setCell_other h.1 (h.ne_cells hb ht) x, h.2.1.setCell hB x, by simpa [World.setCell] using h.2.2⟩
theorem keptS_own {B : Nat} {v : Value} {l : List ByteArray} {W0 w w' : World} (h : SBuf B v l W0 w) (hg : w.grownBy w' v.ownBlock) : KeptS w w' :=
  fun b cs t fr ht hx => hg.block b (lt_of_block hx) (fun e => h.ne_cells hx ht e.symm)
/-- append(l, s) at a step of a region that draws, with the other blocks kept -/
theorem step_strs_kept {ops : Array Oper} {o : Oper} {a : Act} {w : World} {K : Act → World → Prop} {Q : Exit → Act → World → Prop} {E : Prop} (hgd : o.guard = none) (s x : Operand)
    (ho : o.op = .call { callee := .builtin .append, args := #[s, x], argTypes := #[50, 50] })
    (B : Nat) (v : Value) (l : List ByteArray) (hs : a.eval s = v) (W0 : World) (hb : SBuf B v l W0 w) (ad : Addr) (hx : a.eval x = .slice (some ad) 1 1)
    (c : ByteArray) (hc : w.cell? ad = some (.string c)) (hlen : l.length + 1 ≤ 8796093022208)
    (h : ∀ v' w', SBuf B v' (l ++ [c]) W0 w' → KeptS w w' → K (a.put o.dst v') w') :
    if Region.wanted o (yielded ops a.tmps) = true then Oper.wp Tryz.prog o a w K Q else E := by
  have hw : Region.wanted o (yielded ops a.tmps) = true := by simp [Region.wanted, hgd]
  rw [if_pos hw]
  obtain ⟨i0, hi, hz0, hz1, hz2⟩ := info_parts info_str
  refine wp_append_own _ s x 50 ho B 9 i0 (.string ByteArray.empty) 1 16 Tryz.underlying50 hi hz0 hz1 hz2 rfl (by decide) v l.length (strVals l) hs hb.1 ad 1 1 [.string c] hx rfl ?_ ?_ (by unfold maxLen; omega) (by omega) hb.2.2 ?_
  · intro j u hj
    match j, hj with
    | 0, hj => simp at hj; subst hj; simpa [Addr.add] using hc
    | (j + 1), hj => simp at hj
  · intro u hu; simp at hu; subst hu; rfl
  · intro v' w' ho' hg _
    exact h v' w' (hb.grown (l' := l ++ [c]) (by simpa [strVals] using ho') hg) (keptS_own hb hg)
/-! ### the texts of the boxes -/
abbrev BxSt := Bool × List ByteArray × Nat
def bxStep (s : ByteArray) (st : BxSt) (k : Nat) (c : UInt8) (pl : Nat) : BxSt :=
  if pl ≠ 0 then st
  else if c = 60 then (true, st.2)
  else if c = 62 then (false, st.2)
  else if c = 44 ∨ c = 59 then (if st.1 then st else (false, st.2.1 ++ [s.extract st.2.2 k], k + 1))
  else st
def bxAt (s : ByteArray) : Nat → BxSt
  | 0 => (false, [], 0)
  | k + 1 => if h : k < s.size then bxStep s (bxAt s k) k s[k] (placeAt s k h) else bxAt s k
theorem bxAt_succ (s : ByteArray) (k : Nat) (h : k < s.size) : bxAt s (k + 1) = bxStep s (bxAt s k) k s[k] (placeAt s k h) := by
  show (if h : k < s.size then _ else _) = _
  rw [dif_pos h]
theorem bxStep_bd (s : ByteArray) (st : BxSt) (k : Nat) (c : UInt8) (pl : Nat) (h1 : st.2.1.length ≤ k) (h2 : st.2.2 ≤ k) : (bxStep s st k c pl).2.1.length ≤ k + 1 ∧ (bxStep s st k c pl).2.2 ≤ k + 1 := by
  unfold bxStep
  split
  · exact ⟨by omega, by omega⟩
  · split
    · exact ⟨Nat.le_succ_of_le h1, Nat.le_succ_of_le h2⟩
    · split
      · exact ⟨Nat.le_succ_of_le h1, Nat.le_succ_of_le h2⟩
      · split
        · split
          · exact ⟨by omega, by omega⟩
          · refine ⟨?_, Nat.le_refl _⟩
            show (st.2.1 ++ [_]).length ≤ _
            rw [List.length_append]; simp; exact h1
        · exact ⟨by omega, by omega⟩
theorem bxAt_bd (s : ByteArray) (k : Nat) : (bxAt s k).2.1.length ≤ k ∧ (bxAt s k).2.2 ≤ k := by
  induction k with
  | zero => exact ⟨Nat.le_refl _, Nat.le_refl _⟩
  | succ k ih =>
    by_cases hk : k < s.size
    · rw [bxAt_succ s k hk]; exact bxStep_bd s _ k _ _ ih.1 ih.2
    · have e : bxAt s (k + 1) = bxAt s k := by show (if h : k < s.size then _ else _) = _; rw [dif_neg hk]
      rw [e]; exact ⟨by omega, by omega⟩
/-- boxTexts' variables in memory: open, out, s, begin -/
structure BxAt (s : ByteArray) (bo bt bs bb B : Nat) (W0 : World) (st : BxSt) (w : World) : Prop where
  op : Box w bo 4 (.bool st.1)
  tx : ∃ v, Box w bt 50 v ∧ SBuf B v st.2.1 W0 w
  sx : Box w bs 9 (.string s)
  bg : Box w bb 3 (.int .i64 st.2.2)
theorem BxAt.setOpen {s : ByteArray} {bo bt bs bb B : Nat} {W0 : World} {st : BxSt} {w : World} (h : BxAt s bo bt bs bb B W0 st w) (hB : B ≤ bo) (b : Bool) : BxAt s bo bt bs bb B W0 (b, st.2) (w.setCell ⟨bo, 0, none⟩ (.bool b)) := by
  obtain ⟨v, h1, h2⟩ := h.tx
  exact ⟨h.op.set _, ⟨v, h1.far (h1.ne h.op (by decide)) _, h2.setCells h.op (by decide) hB 0 _⟩, h.sx.far (h.sx.ne h.op (by decide)) _, h.bg.far (h.bg.ne h.op (by decide)) _⟩
theorem BxAt.drew {s : ByteArray} {bo bt bs bb B : Nat} {W0 : World} {st : BxSt} {w : World} (h : BxAt s bo bt bs bb B W0 st w) : BxAt s bo bt bs bb B W0 st w.drew := by
  obtain ⟨v, h1, h2⟩ := h.tx
  exact ⟨h.op.drew, ⟨v, h1.drew, h2.drew⟩, h.sx.drew, h.bg.drew⟩
/-- a store into a block of another type -/
theorem BxAt.setOther {s : ByteArray} {bo bt bs bb B m : Nat} {W0 : World} {st : BxSt} {w : World} {cs : Array Value} {T : TypeId} {fr : Nat × Nat} (h : BxAt s bo bt bs bb B W0 st w) (hm : w.heap[m]? = some (.cells cs T fr)) (hT : T ≠ 9) (n1 : bo ≠ m) (n2 : bt ≠ m) (n3 : bs ≠ m) (n4 : bb ≠ m) (hB : B ≤ m) (i : Nat) (x : Value) : BxAt s bo bt bs bb B W0 st (w.setCell ⟨m, i, none⟩ x) := by
  obtain ⟨v, h1, h2⟩ := h.tx
  exact ⟨h.op.far n1 _, ⟨v, h1.far n2 _, h2.setCells hm hT hB i _⟩, h.sx.far n3 _, h.bg.far n4 _⟩
theorem BxAt.cut {s : ByteArray} {bo bt bs bb B : Nat} {W0 : World} {o : Bool} {outs outs' : List ByteArray} {bg n : Nat} {w w2 : World} {v2 : Value} (h : BxAt s bo bt bs bb B W0 (o, outs, bg) w) (hk : KeptS w w2) (h2 : SBuf B v2 outs' W0 w2) (hsB : bs < B) (hBt : B ≤ bt) (hBb : B ≤ bb) :
    BxAt s bo bt bs bb B W0 (o, outs', n) ((w2.setCell ⟨bt, 0, none⟩ v2).setCell ⟨bb, 0, none⟩ (.int .i64 (n : Int))) := by
  obtain ⟨v, h1, hb⟩ := h.tx
  have o2 := hk.box h.op (by decide)
  have t2 := hk.box h1 (by decide)
  have b2 := hk.box h.bg (by decide)
  have s2 : Box w2 bs 9 (.string s) := ((h2.below.block bs hsB).trans (hb.below.block bs hsB).symm).trans h.sx
  have nbt : bb ≠ bt := b2.ne t2 (by decide)
  have nst : bs ≠ bt := s2.ne t2 (by decide)
  have not_ : bo ≠ bt := o2.ne t2 (by decide)
  have nob : bo ≠ bb := o2.ne b2 (by decide)
  have nsb : bs ≠ bb := s2.ne b2 (by decide)
  have b3 : Box (w2.setCell ⟨bt, 0, none⟩ v2) bb 3 _ := b2.far nbt v2
  have s3 : Box (w2.setCell ⟨bt, 0, none⟩ v2) bs 9 _ := s2.far nst v2
  exact ⟨(o2.far (a := ⟨bt, 0, none⟩) not_ _).far (a := ⟨bb, 0, none⟩) nob _, ⟨v2, (t2.set v2).far (a := ⟨bb, 0, none⟩) (Ne.symm nbt) _, (h2.setCells t2 (by decide) hBt 0 _).setCells b3 (by decide) hBb 0 _⟩, s3.far (a := ⟨bb, 0, none⟩) nsb _, b3.set _⟩
set_option maxHeartbeats 1600000 in
theorem bx_step (s : ByteArray) (k : Nat) (c : UInt8) (pl : Nat) (st : BxSt) (bo bt bs bb B m : Nat) (W0 w : World) (cs : Array Value) (T : TypeId) (fr : Nat × Nat) (h : BxAt s bo bt bs bb B W0 st w)
    (hsB : bs < B) (hBo : B ≤ bo) (hBt : B ≤ bt) (hBb : B ≤ bb) (hm : w.heap[m]? = some (.cells cs T fr)) (hT : T ≠ 9) (n1 : m ≠ bo) (n2 : m ≠ bt) (n4 : m ≠ bb)
    (hk : k < s.size) (hlen : st.2.1.length ≤ k) (hbk : st.2.2 ≤ k) (hs : s.size ≤ 1048576) :
    Calls Tryz.prog 113 #[.int .i64 k, .int .u8 c.toNat, .int .i64 pl, .pointer (some ⟨bo, 0, none⟩), .pointer (some ⟨bt, 0, none⟩), .pointer (some ⟨bs, 0, none⟩), .pointer (some ⟨bb, 0, none⟩)] w fun e w' => e = .returned (.tuple #[]) ∧
      BxAt s bo bt bs bb B W0 (bxStep s st k c pl) w' ∧ w'.heap[m]? = w.heap[m]? := by
  have H := hide h
  have stay : Hid (∀ st', st' = st → BxAt s bo bt bs bb B W0 st' w) := hide fun st' e => by subst e; exact h
  have OP : Hid (∀ b : Bool, BxAt s bo bt bs bb B W0 (b, st.2) (w.setCell ⟨bo, 0, none⟩ (.bool b)) ∧ (w.setCell ⟨bo, 0, none⟩ (.bool b)).heap[m]? = w.heap[m]?) := hide fun b => ⟨h.setOpen hBo b, Below.heap_setCell w _ _ m n1⟩
  have f0 := h.op.free
  have c0 := h.op.cell
  by_cases p0 : pl = 0
  · subst p0
    by_cases e1 : c = 60
    · have t1 : ((c.toNat : Int) == 60) = true := tT 60 e1 (by decide)
      have HS : Hid (bxStep s st k c 0 = (true, st.2)) := hide (by unfold bxStep; rw [if_neg (by decide), if_pos e1])
      clear e1 h hm hk hlen hbk hs
      go_enter Tryz.func113, Tryz.ntmps113
      go_wp2_with fail
      go_end0
      exact ⟨rfl, by rw [HS.out]; exact OP.out true⟩
    · have t1 : ((c.toNat : Int) == 60) = false := tF 60 e1 (by decide)
      by_cases e2 : c = 62
      · have t2 : ((c.toNat : Int) == 62) = true := tT 62 e2 (by decide)
        have HS : Hid (bxStep s st k c 0 = (false, st.2)) := hide (by unfold bxStep; rw [if_neg (by decide), if_neg e1, if_pos e2])
        clear e1 e2 h hm hk hlen hbk hs
        go_enter Tryz.func113, Tryz.ntmps113
        go_wp2_with fail
        go_end0
        exact ⟨rfl, by rw [HS.out]; exact OP.out false⟩
      · have t2 : ((c.toNat : Int) == 62) = false := tF 62 e2 (by decide)
        by_cases e3 : c = 44 ∨ c = 59
        · obtain ⟨o, outs, bg⟩ := st
          cases o with
          | true =>
            have HS : Hid (bxStep s (true, outs, bg) k c 0 = (true, outs, bg)) := hide (by unfold bxStep; rw [if_neg (by decide), if_neg e1, if_neg e2, if_pos e3, if_pos rfl])
            have c0' : w.cell? ⟨bo, 0, none⟩ = some (.bool true) := c0
            rcases e3 with e3 | e3
            · have t3 : ((c.toNat : Int) == 44) = true := tT 44 e3 (by decide)
              clear e1 e2 e3 h hm hk hlen hbk hs c0
              go_enter Tryz.func113, Tryz.ntmps113
              go_wp2_with fail
              go_end0
              exact ⟨rfl, stay.out _ HS.out, rfl⟩
            · have t3 : ((c.toNat : Int) == 44) = false := tF 44 (by rw [e3]; decide) (by decide)
              have t4 : ((c.toNat : Int) == 59) = true := tT 59 e3 (by decide)
              clear e1 e2 e3 h hm hk hlen hbk hs c0
              go_enter Tryz.func113, Tryz.ntmps113
              go_wp2_with fail
              go_end0
              exact ⟨rfl, stay.out _ HS.out, rfl⟩
          | false =>
            have HS : Hid (bxStep s (false, outs, bg) k c 0 = (false, outs ++ [s.extract bg k], k + 1)) := hide (by unfold bxStep; rw [if_neg (by decide), if_neg e1, if_neg e2, if_pos e3]; rfl)
            have c0' : w.cell? ⟨bo, 0, none⟩ = some (.bool false) := c0
            obtain ⟨v, h1, h2⟩ := h.tx
            have c1 := h1.cell
            have f1 := h1.free
            have c2 := h.sx.cell
            have c3 : w.cell? ⟨bb, 0, none⟩ = some (.int .i64 (bg : Int)) := h.bg.cell
            have f3 := h.bg.free
            have q1 : (0 : Int) ≤ bg := by omega
            have q2 : (bg : Int) ≤ k := by have : bg ≤ k := hbk; omega
            have q3 : (k : Int) ≤ s.size := by omega
            have q4 : IntKind.i64.wrap ((k : Int) + 1) = (k : Int) + 1 := IntWalk.i64_in _ (by omega)
            have HL : Hid (outs.length + 1 ≤ 8796093022208) := hide (by have : outs.length ≤ k := hlen; omega)
            have HM := hide hm
            have NBT : Hid (bb ≠ bt) := hide (h.bg.ne h1 (by decide))
            have c5 : (w.alloc (.cells #[.string (s.extract bg k)] 9)).cell? ⟨bt, 0, none⟩ = some v := (h1.alloc _).cell
            have HN : Hid ((outs ++ [s.extract bg k]).length = outs.length + 1) := hide (by rw [List.length_append]; rfl)
            have H2 := hide h2
            have H1 := hide h1
            obtain ⟨A1, z1, rfl⟩ := h2.slice_len
            rcases e3 with e3 | e3
            · have t3 : ((c.toNat : Int) == 44) = true := tT 44 e3 (by decide)
              clear e1 e2 e3 h hm hk hlen hbk hs c0 h1 h2
              go_enter Tryz.func113, Tryz.ntmps113
              go_wp2_with fail
              go_region_law (first
                | (refine step_strs_kept rfl _ _ rfl B (.slice A1 outs.length z1) outs rfl W0 (H2.out.alloc _).drew ⟨w.heap.size, 0, none⟩ rfl (s.extract bg k) ?_ HL.out ?_
                   · show (w.alloc _).cell? _ = _
                     rw [World.cell?_alloc_at _ _ _ _ rfl]
                     rfl
                   intro v2 w2 hb2 hk2
                   obtain ⟨A2, z2, rfl⟩ := hb2.slice_len
                   rw [HN.out] at hb2
                   have hk3 := hk2.drew.alloc _
                   have hf2 := (hk3.box H1.out (by decide)).free
                   have hf3 := (hk3.box H.out.bg (by decide)).free
                   have hc2 := (hk3.box H1.out (by decide)).cell
                   have hc3 : (w2.setCell ⟨bt, 0, none⟩ (.slice A2 (outs.length + 1) z2)).cell? ⟨bb, 0, none⟩ = some (.int .i64 (bg : Int)) := ((hk3.box H.out.bg (by decide)).far NBT.out _).cell
                   have HB2 := hide hb2
                   have HK2 := hide hk3
                   clear hb2 hk2 hk3)
                | fail)
              all_goals
                try go_wp2_with fail
                go_end0
                refine ⟨rfl, by rw [HS.out]; exact H.out.cut HK2.out HB2.out hsB hBt hBb, ?_⟩
                exact ((Below.heap_setCell _ _ _ m n4).trans (Below.heap_setCell _ _ _ m n2)).trans (HK2.out m cs T fr hT HM.out)
            · have t3 : ((c.toNat : Int) == 44) = false := tF 44 (by rw [e3]; decide) (by decide)
              have t4 : ((c.toNat : Int) == 59) = true := tT 59 e3 (by decide)
              clear e1 e2 e3 h hm hk hlen hbk hs c0 h1 h2
              go_enter Tryz.func113, Tryz.ntmps113
              go_wp2_with fail
              go_region_law (first
                | (refine step_strs_kept rfl _ _ rfl B (.slice A1 outs.length z1) outs rfl W0 (H2.out.alloc _).drew ⟨w.heap.size, 0, none⟩ rfl (s.extract bg k) ?_ HL.out ?_
                   · show (w.alloc _).cell? _ = _
                     rw [World.cell?_alloc_at _ _ _ _ rfl]
                     rfl
                   intro v2 w2 hb2 hk2
                   obtain ⟨A2, z2, rfl⟩ := hb2.slice_len
                   rw [HN.out] at hb2
                   have hk3 := hk2.drew.alloc _
                   have hf2 := (hk3.box H1.out (by decide)).free
                   have hf3 := (hk3.box H.out.bg (by decide)).free
                   have hc2 := (hk3.box H1.out (by decide)).cell
                   have hc3 : (w2.setCell ⟨bt, 0, none⟩ (.slice A2 (outs.length + 1) z2)).cell? ⟨bb, 0, none⟩ = some (.int .i64 (bg : Int)) := ((hk3.box H.out.bg (by decide)).far NBT.out _).cell
                   have HB2 := hide hb2
                   have HK2 := hide hk3
                   clear hb2 hk2 hk3)
                | fail)
              all_goals
                try go_wp2_with fail
                go_end0
                refine ⟨rfl, by rw [HS.out]; exact H.out.cut HK2.out HB2.out hsB hBt hBb, ?_⟩
                exact ((Below.heap_setCell _ _ _ m n4).trans (Below.heap_setCell _ _ _ m n2)).trans (HK2.out m cs T fr hT HM.out)
        · have t3 : ((c.toNat : Int) == 44) = false := tF 44 (fun e => e3 (.inl e)) (by decide)
          have t4 : ((c.toNat : Int) == 59) = false := tF 59 (fun e => e3 (.inr e)) (by decide)
          have HS : Hid (bxStep s st k c 0 = st) := hide (by unfold bxStep; rw [if_neg (by decide), if_neg e1, if_neg e2, if_neg e3])
          clear e1 e2 e3 h hm hk hlen hbk hs
          go_enter Tryz.func113, Tryz.ntmps113
          go_wp2_with fail
          go_end0
          exact ⟨rfl, stay.out _ HS.out, rfl⟩
  · have t0 : ((pl : Int) != 0) = true := by rw [bne_iff_ne]; omega
    have HS : Hid (bxStep s st k c pl = st) := hide (by unfold bxStep; rw [if_pos p0])
    clear p0 h hm hk hlen hbk hs
    go_enter Tryz.func113, Tryz.ntmps113
    go_wp2_with fail
    refine bodyPost_ret (results_none rfl _ _ _) rfl ?_
    exact ⟨rfl, stay.out _ HS.out, rfl⟩
theorem BxAt.alloc {s : ByteArray} {bo bt bs bb B : Nat} {W0 : World} {st : BxSt} {w : World} (h : BxAt s bo bt bs bb B W0 st w) (o : Obj) : BxAt s bo bt bs bb B W0 st (w.alloc o) := by
  obtain ⟨v, h1, h2⟩ := h.tx
  exact ⟨h.op.alloc o, ⟨v, h1.alloc o, h2.alloc o⟩, h.sx.alloc o, h.bg.alloc o⟩
theorem cells_set {w : World} {g j : Nat} {cur : Array Value} {e : TypeId} {fr : Nat × Nat} (u : Value) (h : w.heap[g]? = some (.cells cur e fr)) : (w.setCell ⟨g, j, none⟩ u).heap[g]? = some (.cells (cur.setIfInBounds j u) e fr) := by
  have hlt := lt_of_block h
  have h' : w.heap[g] = .cells cur e fr := by simpa [Array.getElem?_eq_getElem hlt] using h
  show (w.heap.modify g _)[g]? = _
  rw [Array.getElem?_eq_getElem (by simpa using hlt), Array.getElem_modify_self, h']
  rfl
/-- walk with boxTexts' function -/
theorem walk_bx (s : ByteArray) (bo bt bs bb B : Nat) (W0 w : World) (hs : s.size ≤ 1048576) (h : BxAt s bo bt bs bb B W0 (false, [], 0) w) (hsB : bs < B) (hBo : B ≤ bo) (hBt : B ≤ bt) (hBb : B ≤ bb) :
    Calls Tryz.prog 112 #[.string s, .func (.func 113) #[] #[.pointer (some ⟨bo, 0, none⟩), .pointer (some ⟨bt, 0, none⟩), .pointer (some ⟨bs, 0, none⟩), .pointer (some ⟨bb, 0, none⟩)]] w fun e w' => e = .returned (.tuple #[]) ∧
      BxAt s bo bt bs bb B W0 (bxAt s s.size) w' := by
  obtain ⟨v, t1, t2⟩ := h.tx
  have n1 : bo ≠ w.heap.size := Nat.ne_of_lt h.op.lt
  have n2 : bt ≠ w.heap.size := Nat.ne_of_lt t1.lt
  have n3 : bs ≠ w.heap.size := Nat.ne_of_lt h.sx.lt
  have n4 : bb ≠ w.heap.size := Nat.ne_of_lt h.bg.lt
  have hBw : B ≤ w.heap.size := t2.2.2
  refine (walk_box s _ w (fun k w' => BxAt s bo bt bs bb B W0 (bxAt s k) w' ∧ ∃ cs fr, w'.heap[w.heap.size]? = some (.cells cs 147 fr)) hs ?_ ?_ ?_ ?_).mono ?_
  · exact ⟨h.alloc _, _, _, heap_alloc_new w _⟩
  · rintro k w' i v ⟨i1, cs, fr, i2⟩
    exact ⟨i1.setOther i2 (by decide) n1 n2 n3 n4 hBw i v, _, _, cells_set v i2⟩
  · rintro k w' ⟨i1, i2⟩
    exact ⟨i1.drew, i2⟩
  · rintro k hk w' ⟨i1, cs, fr, i2⟩
    obtain ⟨d1, d2⟩ := bxAt_bd s k
    refine (bx_step s k s[k] (placeAt s k hk) (bxAt s k) bo bt bs bb B w.heap.size W0 w' cs _ fr i1 hsB hBo hBt hBb i2 (by decide) (Ne.symm n1) (Ne.symm n2) (Ne.symm n4) hk d1 d2 hs).mono ?_
    rintro e w2 ⟨rfl, j1, j2⟩
    rw [← bxAt_succ s k hk] at j1
    exact ⟨rfl, ⟨j1, cs, fr, j2.trans i2⟩, j2⟩
  · rintro e w' ⟨rfl, i1, _⟩
    exact ⟨rfl, i1⟩
/-- the texts of the boxes of a list -/
def boxL (s : ByteArray) : List ByteArray := (bxAt s s.size).2.1 ++ [s.extract (bxAt s s.size).2.2 s.size]
theorem SBuf.lower {v : Value} {l : List ByteArray} {w w' : World} {o : Obj} (h : SBuf (w.heap.size + 1) v l (w.alloc o) w') : SBuf w.heap.size v l w w' := by
  obtain ⟨⟨h1, h2⟩, hb, hB⟩ := h
  refine ⟨⟨h1, ?_⟩, (Below.refl w.heap.size w).alloc (Nat.le_refl _) o |>.trans (hb.mono (Nat.le_succ _)), Nat.le_of_succ_le hB⟩
  rcases h2 with h2 | ⟨g, cap, cur, e1, hg, e2⟩
  · exact .inl h2
  · exact .inr ⟨g, cap, cur, e1, Nat.le_of_succ_le hg, e2⟩
set_option maxHeartbeats 1600000 in
theorem boxTexts_any (s : ByteArray) (w : World) (hs : s.size ≤ 1048576) :
    Calls Tryz.prog 70 #[.string s] w fun e w' => ∃ v, e = .returned v ∧ SBuf w.heap.size v (boxL s) w w' := by
  have S0 := Box.new w 9 (.string s)
  have S1 := Box.new (w.alloc (.cells #[.string s] 9)) 50 (.slice none 0 0)
  rw [World.size_alloc] at S1
  have S2 := Box.new ((w.alloc (.cells #[.string s] 9)).alloc (.cells #[.slice none 0 0] 50)) 3 (.int .i64 0)
  rw [World.size_alloc, World.size_alloc] at S2
  have S3 := Box.new (((w.alloc (.cells #[.string s] 9)).alloc (.cells #[.slice none 0 0] 50)).alloc (.cells #[.int .i64 0] 3)) 4 (.bool false)
  rw [World.size_alloc, World.size_alloc, World.size_alloc] at S3
  have SB : SBuf (w.heap.size + 1) (.slice none 0 0) [] (w.alloc (.cells #[.string s] 9)) ((((w.alloc (.cells #[.string s] 9)).alloc (.cells #[.slice none 0 0] 50)).alloc (.cells #[.int .i64 0] 3)).alloc (.cells #[.bool false] 4)) :=
    (((SBuf.nil (B := w.heap.size + 1) (Below.refl _ _) (by rw [World.size_alloc]; exact Nat.le_refl _)).alloc _).alloc _).alloc _
  have C := hide (walk_bx s (w.heap.size + 3) (w.heap.size + 1) w.heap.size (w.heap.size + 2) (w.heap.size + 1) (w.alloc (.cells #[.string s] 9)) _ hs ⟨S3, ⟨_, (S1.alloc _).alloc _, SB⟩, ((S0.alloc _).alloc _).alloc _, S2.alloc _⟩ (Nat.lt_succ_self _) (by omega) (Nat.le_refl _) (by omega))
  obtain ⟨d1, d2⟩ := bxAt_bd s s.size
  have HL : Hid (boxL s = (bxAt s s.size).2.1 ++ [s.extract (bxAt s s.size).2.2 s.size]) := hide rfl
  obtain ⟨⟨o, outs, bg⟩, hA⟩ : ∃ A, bxAt s s.size = A := ⟨_, rfl⟩
  rw [hA] at C d1 d2 HL
  have q1 : (0 : Int) ≤ bg := by omega
  have q2 : (bg : Int) ≤ s.size := by have : bg ≤ s.size := d2; omega
  have HN : Hid (outs.length + 1 ≤ 8796093022208) := hide (by have : outs.length ≤ s.size := d1; omega)
  clear hA S0 S1 S2 S3 SB d1 d2 hs
  go_enter Tryz.func70, Tryz.ntmps70
  go_wp2_with (go_at_call 112; refine C.out.mono ?_; rintro e w1 ⟨rfl, hx⟩; obtain ⟨v1, ht, hv⟩ := hx.tx; obtain ⟨A1, z1, rfl⟩ := hv.slice_len; have c0 := hx.sx.cell; have c1 := ht.cell; have c2 : w1.cell? ⟨w.heap.size + 2, 0, none⟩ = some (.int .i64 (bg : Int)) := hx.bg.cell; have c5 : (w1.alloc (.cells #[.string (s.extract bg s.size)] 9)).cell? ⟨w.heap.size + 1, 0, none⟩ = some (.slice A1 outs.length z1) := (ht.alloc _).cell; have H2 := hide hv; clear hx ht hv)
  go_region_law (first
    | (refine step_strs_kept rfl _ _ rfl (w.heap.size + 1) (.slice A1 outs.length z1) outs rfl (w.alloc (.cells #[.string s] 9)) (H2.out.alloc _).drew ⟨w1.heap.size, 0, none⟩ rfl (s.extract bg s.size) ?_ HN.out ?_
       · show (w1.alloc _).cell? _ = _
         rw [World.cell?_alloc_at _ _ _ _ rfl]
         rfl
       intro v2 w2 hb2 hk2
       have HB2 := hide hb2
       clear hb2 hk2)
    | fail)
  all_goals
    try go_wp2_with fail
    go_ret
    exact ⟨_, rfl, by rw [HL.out]; exact HB2.out.lower⟩
end Go.Proofs.YtcmmbceacjechaaGreatDoor

/- Rows of api.Box that the call owns: append of one, its cells, kept by calls. No statement is proved here. -/
namespace Go.Proofs.YtcmmbceacjechaaGreatDoor
open Go.RowKit
set_option linter.unusedVariables false
set_option linter.unusedSimpArgs false
abbrev BoxL := List UInt8 × List UInt8
def boxVals (l : List BoxL) : List Value := l.flatMap fun f => [Value.string (str f.1), Value.string (str f.2)]
theorem boxVals_length (l : List BoxL) : (boxVals l).length = l.length * 2 := by
  induction l with
  | nil => rfl
  | cons f r ih => unfold boxVals at *; rw [List.flatMap_cons, List.length_append, ih]; simp; omega
theorem boxVals_at {l : List BoxL} {j : Nat} {f : BoxL} (h : l[j]? = some f) : (boxVals l)[j * 2]? = some (.string (str f.1)) ∧ (boxVals l)[j * 2 + 1]? = some (.string (str f.2)) := by
  induction l generalizing j with
  | nil => simp at h
  | cons g r ih =>
    cases j with
    | zero => simp at h; subst h; exact ⟨rfl, rfl⟩
    | succ j =>
      have := ih (j := j) (by simpa using h)
      have e : boxVals (g :: r) = Value.string (str g.1) :: Value.string (str g.2) :: boxVals r := rfl
      rw [e, show (j + 1) * 2 = j * 2 + 1 + 1 by omega]
      simpa using this
theorem boxVals_append (a b : List BoxL) : boxVals (a ++ b) = boxVals a ++ boxVals b := by unfold boxVals; rw [List.flatMap_append]
/-- in w the []api.Box value v owns the fields l, in a block from B on; below B all is as in W0 -/
def BBuf (B : Nat) (v : Value) (l : List BoxL) (W0 w : World) : Prop :=
  w.ownsRow B 79 2 v l.length (boxVals l) ∧ Below B W0 w ∧ B ≤ w.heap.size
theorem info_box : (Tryz.prog.info? 79).map (fun i => (i.zero, i.size, i.bytes)) = some (some (.agg #[.string ByteArray.empty, .string ByteArray.empty]), 2, 32) := by kernel_rfl
theorem BBuf.nil {B : Nat} {W0 w : World} (hb : Below B W0 w) (hB : B ≤ w.heap.size) : BBuf B (.slice none 0 0) [] W0 w := ⟨World.ownsRow_nil w B _ 2, hb, hB⟩
theorem BBuf.below {B : Nat} {v : Value} {l : List BoxL} {W0 w : World} (h : BBuf B v l W0 w) : Below B W0 w := h.2.1
theorem BBuf.grown {B : Nat} {v v' : Value} {l l' : List BoxL} {W0 w w' : World} (h : BBuf B v l W0 w) (ho : w'.ownsRow B 79 2 v' l'.length (boxVals l')) (hg : w.grownBy w' v.ownBlock) : BBuf B v' l' W0 w' :=
  ⟨ho, h.2.1.grown hg h.2.2 (fun k hk => (h.1.lt k hk).1), Nat.le_trans h.2.2 hg.size⟩
theorem BBuf.alloc {B : Nat} {v : Value} {l : List BoxL} {W0 w : World} (h : BBuf B v l W0 w) (o : Obj) : BBuf B v l W0 (w.alloc o) :=
  ⟨h.1.alloc o, h.2.1.alloc h.2.2 o, Nat.le_trans h.2.2 ((Below.refl 0 w).alloc (Nat.zero_le _) o).size⟩
theorem BBuf.drew {B : Nat} {v : Value} {l : List BoxL} {W0 w : World} (h : BBuf B v l W0 w) : BBuf B v l W0 w.drew := ⟨h.1, h.2.1.drew, h.2.2⟩
theorem BBuf.kept {B : Nat} {v : Value} {l : List BoxL} {W0 w w' : World} (h : BBuf B v l W0 w) (hb : Below w.heap.size w w') : BBuf B v l W0 w' :=
  ⟨h.1.kept (row := none) ⟨hb.os, hb.tape, hb.output, hb.size, fun k hk _ => hb.block k hk⟩ (by cases hv : v.ownBlock <;> simp), h.2.1.trans (hb.mono h.2.2), Nat.le_trans h.2.2 hb.size⟩
theorem BBuf.slice_len {B : Nat} {v : Value} {l : List BoxL} {W0 w : World} (h : BBuf B v l W0 w) : ∃ A c, v = .slice A l.length c := by
  rcases h.1.2 with ⟨rfl, h0⟩ | ⟨g, cap, cur, rfl, _⟩
  · rw [h0]; exact ⟨_, _, rfl⟩
  · exact ⟨_, _, rfl⟩
theorem BBuf.form {B : Nat} {v : Value} {l : List BoxL} {W0 w : World} (h : BBuf B v l W0 w) (hl : l ≠ []) : ∃ g cap, v = .slice (some ⟨g, 0, none⟩) l.length cap ∧ B ≤ g := by
  rcases h.1.2 with ⟨rfl, h0⟩ | ⟨g, cap, cur, rfl, hg, _⟩
  · exact absurd (List.eq_nil_of_length_eq_zero h0) hl
  · exact ⟨g, cap, rfl, hg⟩
/-- append(l, f): the one field lies at ad -/
theorem wpList_boxes {ops : Array Oper} {rest : List Oper} {o : Oper} {a : Act} {Q : Exit → Act → World → Prop} {w : World} (hgd : o.guard = none) (s x : Operand)
    (ho : o.op = .call { callee := .builtin .append, args := #[s, x], argTypes := #[40, 40] })
    (B : Nat) (v : Value) (l : List BoxL) (hs : a.eval s = v) (W0 : World) (f : BoxL) (hb : BBuf B v l W0 w) (ad : Addr)
    (hx : a.eval x = .slice (some ad) 1 1) (h0 : w.cell? (ad.add 0) = some (.string (str f.1))) (h1 : w.cell? (ad.add 1) = some (.string (str f.2))) (hlen : l.length + 1 ≤ 4398046511104)
    (h : ∀ v' w', BBuf B v' (l ++ [f]) W0 w' → wpList Tryz.prog ops Q rest (a.put o.dst v') w') : wpList Tryz.prog ops Q (o :: rest) a w := by
  obtain ⟨i0, hi, hz0, hz1, hz2⟩ := info_parts info_box
  refine wpList_append_own _ hgd s x 40 ho B 79 i0 (.agg #[.string ByteArray.empty, .string ByteArray.empty]) 2 32 Tryz.underlying40 hi hz0 hz1 hz2 rfl (by decide) v l.length (boxVals l) hs hb.1 ad 1 1 [.string (str f.1), .string (str f.2)] hx rfl ?_ ?_ (by unfold maxLen; omega) (by omega) hb.2.2 ?_
  · intro j u hj
    match j, hj with
    | 0, hj => simp at hj; subst hj; exact h0
    | 1, hj => simp at hj; subst hj; exact h1
    | (j + 2), hj => simp at hj
  · intro u hu
    simp at hu
    rcases hu with rfl | rfl
    · rfl
    · rfl
  · intro v' w' ho' hg _
    exact h v' w' (hb.grown (l' := l ++ [f]) (by rw [boxVals_append, List.length_append]; exact ho') hg)
end Go.Proofs.YtcmmbceacjechaaGreatDoor

/- WALK of addr.Parse. No statement is proved here. -/
namespace Go.Proofs.YtcmmbceacjechaaGreatDoor
open Go.RowKit
set_option linter.unusedVariables false
set_option linter.unusedSimpArgs false
set_option maxRecDepth 100000
/-- a box that tells something -/
def tells (b : BoxL) : Bool := !(b.1.isEmpty && b.2.isEmpty)
def boxesOf (l : List ByteArray) : List BoxL := (l.map readBoxL).filter tells
theorem boxesOf_cons (t : ByteArray) (l : List ByteArray) : boxesOf (t :: l) = (if tells (readBoxL t) then [readBoxL t] else []) ++ boxesOf l := by
  unfold boxesOf
  rw [List.map_cons, List.filter_cons]
  split <;> rfl
def parseL (s : ByteArray) : List BoxL := boxesOf (boxL s)
theorem bxAt_sizes (s : ByteArray) (k : Nat) : ∀ t ∈ (bxAt s k).2.1, t.size ≤ s.size := by
  induction k with
  | zero => intro t ht; cases ht
  | succ k ih =>
    by_cases hk : k < s.size
    · rw [bxAt_succ s k hk]
      unfold bxStep
      split
      · exact ih
      · split
        · exact ih
        · split
          · exact ih
          · split
            · split
              · exact ih
              · intro t ht
                rcases List.mem_append.1 ht with ht | ht
                · exact ih t ht
                · simp at ht; rw [ht, ByteArray.size_extract]; omega
            · exact ih
    · have e : bxAt s (k + 1) = bxAt s k := by show (if h : k < s.size then _ else _) = _; rw [dif_neg hk]
      rw [e]; exact ih
theorem boxL_sizes (s : ByteArray) : ∀ t ∈ boxL s, t.size ≤ s.size := by
  intro t ht
  rcases List.mem_append.1 ht with ht | ht
  · exact bxAt_sizes s _ t ht
  · simp at ht; rw [ht, ByteArray.size_extract]; omega
theorem boxL_length (s : ByteArray) : (boxL s).length ≤ s.size + 1 ∧ boxL s ≠ [] := by
  unfold boxL
  refine ⟨?_, by simp⟩
  rw [List.length_append]; simp; exact (bxAt_bd s s.size).1
theorem two_box (w : World) (x y : Value) (t : TypeId) : (w.alloc (.cells #[x, y] t)).cell? ((⟨w.heap.size, 0, none⟩ : Addr).add 0) = some x ∧ (w.alloc (.cells #[x, y] t)).cell? ((⟨w.heap.size, 0, none⟩ : Addr).add 1) = some y := by
  have e0 : (⟨w.heap.size, 0, none⟩ : Addr).add 0 = ⟨w.heap.size, 0, none⟩ := by rw [Addr.add_lit]
  have e1 : (⟨w.heap.size, 0, none⟩ : Addr).add 1 = ⟨w.heap.size, 1, none⟩ := by rw [Addr.add_lit]
  rw [e0, e1, World.cell?_alloc_at _ _ _ _ rfl, World.cell?_alloc_at _ _ _ _ rfl]
  exact ⟨rfl, rfl⟩
theorem BBuf.lower {v : Value} {l : List BoxL} {w w1 w' : World} (h : BBuf w1.heap.size v l w1 w') (hb : Below w.heap.size w w1) : BBuf w.heap.size v l w w' := by
  obtain ⟨⟨h1, h2⟩, hB, hs⟩ := h
  refine ⟨⟨h1, ?_⟩, hb.trans (hB.mono hb.size), Nat.le_trans hb.size hs⟩
  rcases h2 with h2 | ⟨g, cap, cur, e1, hg, e2⟩
  · exact .inl h2
  · exact .inr ⟨g, cap, cur, e1, Nat.le_trans hb.size hg, e2⟩
set_option maxHeartbeats 1600000 in
theorem addrParse_any (s : ByteArray) (w : World) (hs : s.size ≤ 1048576) (hT : Tab w) :
    Calls Tryz.prog 29 #[.string s] w fun e w' => ∃ v, e = .returned v ∧ BBuf w.heap.size v (parseL s) w w' := by
  have CT := hide (boxTexts_any s w hs)
  have HT := hide hT
  have HZ := hide (boxL_sizes s)
  have HS := hide hs
  obtain ⟨zl, zn⟩ := boxL_length s
  have HP : Hid (parseL s = boxesOf (boxL s)) := hide rfl
  obtain ⟨L, hL⟩ : ∃ L, boxL s = L := ⟨_, rfl⟩
  rw [hL] at CT HZ zl zn HP
  obtain ⟨n, hn⟩ : ∃ n, L.length = n := ⟨_, rfl⟩
  have hn2 : n ≤ 1048577 := by omega
  clear hL hs hT zl
  go_enter Tryz.func29, Tryz.ntmps29
  go_wp2_with (go_at_call 70; refine CT.out.mono ?_; rintro e w1 ⟨v, rfl, hv⟩; rcases hv.form with ⟨_, h0⟩ | ⟨g, cap, rfl, hc1, hc2, hg1, hg2, hcell⟩; (exact absurd h0 zn); rw [hn] at hc1 ⊢; have HV := hide hv.below; have HG := hide hg2; have HC := hide hcell; clear hv hg1 hcell hc2)
  go_loopw [3, 10] (fun o i wr => ∃ (k : Nat) (acc : List BoxL), k ≤ n ∧ i = .int .i64 k ∧ acc.length ≤ k ∧ Hid (BBuf w1.heap.size o acc w1 wr) ∧ Hid (acc ++ boxesOf (L.drop k) = boxesOf L)) (fun _ i _ => n - (intOf i).toNat)
  case atStart => exact ⟨0, [], Nat.zero_le _, rfl, Nat.le_refl _, hide (BBuf.nil (Below.refl _ _) (Nat.le_refl _)), hide rfl⟩
  case round =>
    obtain ⟨k, acc, hk, rfl, hal, HB, HE⟩ := hrel
    by_cases hlt : k < n
    · have hl : k < L.length := by omega
      have hd : L.drop k = L[k] :: L.drop (k + 1) := List.drop_eq_getElem_cons hl
      have zt := HZ.out L[k] (List.getElem_mem hl)
      have c1 : wr.cell? ⟨g, k, none⟩ = some (.string L[k]) := by
        have := HC.out k L[k] (List.getElem?_eq_getElem hl)
        rw [Nat.zero_add] at this
        exact (World.cell?_of_block (w := w1) (HB.out.below.block g HG.out)).trans this
      obtain ⟨T, hTT⟩ : ∃ T, L[k] = T := ⟨_, rfl⟩
      rw [hTT] at hd zt c1
      have CB := hide (readBox_any T wr (Nat.le_trans zt HS.out) ((HT.out.below HV.out HT.out.lt).below HB.out.below (Tab.lt (HT.out.below HV.out HT.out.lt))))
      simp only [boxV] at CB
      have HN0 : Hid (acc ++ ((if tells (readBoxL T) then [readBoxL T] else []) ++ boxesOf (L.drop (k + 1))) = boxesOf L) := hide (by rw [← boxesOf_cons, ← hd]; exact HE.out)
      obtain ⟨⟨bn, bm⟩, hb⟩ : ∃ b, readBoxL T = b := ⟨_, rfl⟩
      rw [hb] at CB HN0
      have i0 : (k : Int) < n := by omega
      have HAL : Hid (acc.length + 1 ≤ 4398046511104) := hide (by omega)
      clear hd hb hTT zt
      by_cases g1 : bn = []
      · have s1 : (str bn).toList = [] := by rw [str_list, g1]
        by_cases g2 : bm = []
        · have s2 : (str bm).toList = [] := by rw [str_list, g2]
          have HN : Hid (acc ++ boxesOf (L.drop (k + 1)) = boxesOf L) := hide (by have ht : tells (bn, bm) = false := (by rw [g1, g2]; rfl); have := HN0.out; rw [ht, if_neg (by decide)] at this; exact this)
          clear HN0 g1 g2
          go_wp2_with (go_at_call 71; refine CB.out.mono ?_; rintro e w2 ⟨rfl, hb2⟩; have HB2 := hide (HB.out.kept hb2); have TN := two_box (w2.alloc (.cells #[.string (str bn), .string (str bm)] 79)) (.string (str bn)) (.string (str bm)) 79; rw [World.size_alloc] at TN; have TN2 := hide TN; clear hb2 TN)
          go_roundw
          case rel => exact ⟨k + 1, acc, by omega, by go_num, by omega, hide (HB2.out.alloc _), HN⟩
          case measure => simp [intOf]; omega
        · have s2 : ¬ (str bm).toList = [] := by rw [str_list]; exact g2
          have ht : tells (bn, bm) = true := by cases bm with | nil => exact absurd rfl g2 | cons x r => rw [g1]; rfl
          clear g1 g2
          have HN : Hid ((acc ++ [(bn, bm)]) ++ boxesOf (L.drop (k + 1)) = boxesOf L) := hide (by rw [List.append_assoc]; have := HN0.out; rw [ht, if_pos rfl] at this; exact this)
          clear ht HN0
          go_wp2_with (first
            | (go_at_call 71; refine CB.out.mono ?_; rintro e w2 ⟨rfl, hb2⟩; have HB2 := hide (HB.out.kept hb2); have TN := two_box (w2.alloc (.cells #[.string (str bn), .string (str bm)] 79)) (.string (str bn)) (.string (str bm)) 79; rw [World.size_alloc] at TN; have TN2 := hide TN; clear hb2 TN)
            | (at_builtin; go_must (refine wpList_boxes rfl _ _ rfl w1.heap.size u3 acc rfl w1 (bn, bm) ((HB2.out.alloc _).alloc _) ⟨w2.heap.size + 1, 0, none⟩ rfl TN2.out.1 TN2.out.2 HAL.out ?_; intro v4 w4 hb4; have HB4 := hide hb4; clear hb4)))
          go_roundw
          case rel => exact ⟨k + 1, acc ++ [(bn, bm)], by omega, by go_num, by simp; omega, HB4, HN⟩
          case measure => simp [intOf]; omega
      · have s1 : ¬ (str bn).toList = [] := by rw [str_list]; exact g1
        have ht : tells (bn, bm) = true := by cases bn with | nil => exact absurd rfl g1 | cons x r => rfl
        clear g1
        have HN : Hid ((acc ++ [(bn, bm)]) ++ boxesOf (L.drop (k + 1)) = boxesOf L) := hide (by rw [List.append_assoc]; have := HN0.out; rw [ht, if_pos rfl] at this; exact this)
        clear ht HN0
        go_wp2_with (first
          | (go_at_call 71; refine CB.out.mono ?_; rintro e w2 ⟨rfl, hb2⟩; have HB2 := hide (HB.out.kept hb2); have TN := two_box (w2.alloc (.cells #[.string (str bn), .string (str bm)] 79)) (.string (str bn)) (.string (str bm)) 79; rw [World.size_alloc] at TN; have TN2 := hide TN; clear hb2 TN)
          | (at_builtin; go_must (refine wpList_boxes rfl _ _ rfl w1.heap.size u3 acc rfl w1 (bn, bm) ((HB2.out.alloc _).alloc _) ⟨w2.heap.size + 1, 0, none⟩ rfl TN2.out.1 TN2.out.2 HAL.out ?_; intro v4 w4 hb4; have HB4 := hide hb4; clear hb4)))
        go_roundw
        case rel => exact ⟨k + 1, acc ++ [(bn, bm)], by omega, by go_num, by simp; omega, HB4, HN⟩
        case measure => simp [intOf]; omega
    · have hk2 : k = n := by omega
      have HE2 : Hid (acc = parseL s) := hide (by rw [HP.out, ← HE.out, List.drop_eq_nil_of_le (by omega : L.length ≤ k)]; exact (List.append_nil acc).symm)
      clear hlt
      go_wp2_with fail
      go_ret
      exact ⟨_, rfl, by rw [← HE2.out]; exact HB.out.lower HV.out⟩
end Go.Proofs.YtcmmbceacjechaaGreatDoor

/- The memory of strings.Replacer at quote's four texts. No statement is proved here. -/
namespace Go.Proofs.YtcmmbceacjechaaGreatDoor
open Go.RowKit
set_option linter.unusedVariables false
set_option linter.unusedSimpArgs false
set_option maxRecDepth 100000
/-- the four texts -/
def OldNew (g : Nat) (w : World) : Prop :=
  w.cell? ⟨g, 0, none⟩ = some (.string ⟨#[34]⟩) ∧ w.cell? ⟨g, 1, none⟩ = some (.string ⟨#[92, 34]⟩) ∧ w.cell? ⟨g, 2, none⟩ = some (.string ⟨#[92]⟩) ∧ w.cell? ⟨g, 3, none⟩ = some (.string ⟨#[92, 92]⟩)
def nilS : Value := .slice none 0 0
theorem zero_rep : Tryz.zeroCells214.toList = List.replicate 257 nilS := by kernel_rfl
/-- a replacer of two signs: block R; the texts to replace: block G -/
def RepSt (w0 : World) (R G : Nat) (c34 c92 : Value) (l : Nat) (x y : ByteArray) (wr : World) : Prop :=
  Below w0.heap.size w0 wr ∧ w0.heap.size ≤ R ∧ w0.heap.size ≤ G ∧ R ≠ G ∧
  (∀ i : Nat, i < 256 → wr.cell? ⟨R, i, none⟩ = some (if i = 34 then c34 else if i = 92 then c92 else nilS)) ∧ (∀ i : Nat, wr.frozen? ⟨R, i, none⟩ = false) ∧
  wr.cell? ⟨R, 256, none⟩ = some (.slice (some ⟨G, 0, none⟩) l 2) ∧ wr.cell? ⟨G, 0, none⟩ = some (.string x) ∧ wr.cell? ⟨G, 1, none⟩ = some (.string y) ∧ (∀ i : Nat, wr.frozen? ⟨G, i, none⟩ = false)
def TwoAt (w : World) (g : Nat) (x y : Int) (B : Nat) : Prop := w.cell? ⟨g, 0, none⟩ = some (.int .u8 x) ∧ w.cell? ⟨g, 1, none⟩ = some (.int .u8 y) ∧ B + 2 ≤ g

theorem ne_off {g i j : Nat} (h : i ≠ j) : (⟨g, i, none⟩ : Addr) ≠ ⟨g, j, none⟩ := fun e => h (by injection e)
theorem ne_blk {g g' i j : Nat} (h : g ≠ g') : (⟨g, i, none⟩ : Addr) ≠ ⟨g', j, none⟩ := fun e => h (by injection e)
section
variable {w0 wr : World} {R G l : Nat} {c34 c92 : Value} {x y : ByteArray}
theorem RepSt.ltR (h : RepSt w0 R G c34 c92 l x y wr) : R < wr.heap.size := World.block_lt_of_cell? wr _ h.2.2.2.2.2.2.1
theorem RepSt.ltG (h : RepSt w0 R G c34 c92 l x y wr) : G < wr.heap.size := World.block_lt_of_cell? wr _ h.2.2.2.2.2.2.2.1
theorem RepSt.below (h : RepSt w0 R G c34 c92 l x y wr) : Below w0.heap.size w0 wr := h.1
theorem RepSt.setG0 (h : RepSt w0 R G c34 c92 l x y wr) (x' : ByteArray) : RepSt w0 R G c34 c92 l x' y (wr.setCell ⟨G, 0, none⟩ (.string x')) := by
  obtain ⟨B0, hR, hG, hne, hc, hf, h256, hG0, hG1, hfG⟩ := h
  exact ⟨B0.setCell hG _, hR, hG, hne, fun i hi => (World.cell?_setCell_other _ _ _ _ (ne_blk hne.symm)).trans (hc i hi), fun i => by rw [World.frozen?_setCell]; exact hf i,
    (World.cell?_setCell_other _ _ _ _ (ne_blk hne.symm)).trans h256, World.cell?_setCell_same _ _ _ hG0, (World.cell?_setCell_other _ _ _ _ (ne_off (by decide))).trans hG1, fun i => by rw [World.frozen?_setCell]; exact hfG i⟩
theorem RepSt.setG1 (h : RepSt w0 R G c34 c92 l x y wr) (y' : ByteArray) : RepSt w0 R G c34 c92 l x y' (wr.setCell ⟨G, 1, none⟩ (.string y')) := by
  obtain ⟨B0, hR, hG, hne, hc, hf, h256, hG0, hG1, hfG⟩ := h
  exact ⟨B0.setCell hG _, hR, hG, hne, fun i hi => (World.cell?_setCell_other _ _ _ _ (ne_blk hne.symm)).trans (hc i hi), fun i => by rw [World.frozen?_setCell]; exact hf i,
    (World.cell?_setCell_other _ _ _ _ (ne_blk hne.symm)).trans h256, (World.cell?_setCell_other _ _ _ _ (ne_off (by decide))).trans hG0, World.cell?_setCell_same _ _ _ hG1, fun i => by rw [World.frozen?_setCell]; exact hfG i⟩
theorem RepSt.setL (h : RepSt w0 R G c34 c92 l x y wr) (l' : Nat) : RepSt w0 R G c34 c92 l' x y (wr.setCell ⟨R, 256, none⟩ (.slice (some ⟨G, 0, none⟩) l' 2)) := by
  obtain ⟨B0, hR, hG, hne, hc, hf, h256, hG0, hG1, hfG⟩ := h
  exact ⟨B0.setCell hR _, hR, hG, hne, fun i hi => (World.cell?_setCell_other _ _ _ _ (ne_off (by omega))).trans (hc i hi), fun i => by rw [World.frozen?_setCell]; exact hf i,
    World.cell?_setCell_same _ _ _ h256, (World.cell?_setCell_other _ _ _ _ (ne_blk hne)).trans hG0, (World.cell?_setCell_other _ _ _ _ (ne_blk hne)).trans hG1, fun i => by rw [World.frozen?_setCell]; exact hfG i⟩
theorem RepSt.set92 (h : RepSt w0 R G c34 c92 l x y wr) (v : Value) : RepSt w0 R G c34 v l x y (wr.setCell ⟨R, 92, none⟩ v) := by
  obtain ⟨B0, hR, hG, hne, hc, hf, h256, hG0, hG1, hfG⟩ := h
  refine ⟨B0.setCell hR _, hR, hG, hne, fun i hi => ?_, fun i => by rw [World.frozen?_setCell]; exact hf i,
    (World.cell?_setCell_other _ _ _ _ (ne_off (by decide))).trans h256, (World.cell?_setCell_other _ _ _ _ (ne_blk hne)).trans hG0, (World.cell?_setCell_other _ _ _ _ (ne_blk hne)).trans hG1, fun i => by rw [World.frozen?_setCell]; exact hfG i⟩
  by_cases e : i = 92
  · subst e
    exact World.cell?_setCell_same _ _ _ (hc 92 hi)
  · refine (World.cell?_setCell_other _ _ _ _ (ne_off (Ne.symm e))).trans ?_
    rw [hc i hi, if_neg e, if_neg e]
theorem RepSt.set34 (h : RepSt w0 R G c34 c92 l x y wr) (v : Value) : RepSt w0 R G v c92 l x y (wr.setCell ⟨R, 34, none⟩ v) := by
  obtain ⟨B0, hR, hG, hne, hc, hf, h256, hG0, hG1, hfG⟩ := h
  refine ⟨B0.setCell hR _, hR, hG, hne, fun i hi => ?_, fun i => by rw [World.frozen?_setCell]; exact hf i,
    (World.cell?_setCell_other _ _ _ _ (ne_off (by decide))).trans h256, (World.cell?_setCell_other _ _ _ _ (ne_blk hne)).trans hG0, (World.cell?_setCell_other _ _ _ _ (ne_blk hne)).trans hG1, fun i => by rw [World.frozen?_setCell]; exact hfG i⟩
  by_cases e : i = 34
  · subst e
    exact World.cell?_setCell_same _ _ _ (hc 34 hi)
  · refine (World.cell?_setCell_other _ _ _ _ (ne_off (Ne.symm e))).trans ?_
    rw [hc i hi, if_neg e, if_neg e]
theorem RepSt.kept {w' : World} (h : RepSt w0 R G c34 c92 l x y wr) (hb : Below wr.heap.size wr w') : RepSt w0 R G c34 c92 l x y w' := by
  have lR := h.ltR
  have lG := h.ltG
  obtain ⟨B0, hR, hG, hne, hc, hf, h256, hG0, hG1, hfG⟩ := h
  exact ⟨B0.trans (hb.mono (Nat.le_of_lt (Nat.lt_of_le_of_lt hR lR))), hR, hG, hne, fun i hi => (hb.cell (p := ⟨R, i, none⟩) lR).trans (hc i hi), fun i => (hb.frozen (p := ⟨R, i, none⟩) lR).trans (hf i),
    (hb.cell (p := ⟨R, 256, none⟩) lR).trans h256, (hb.cell (p := ⟨G, 0, none⟩) lG).trans hG0, (hb.cell (p := ⟨G, 1, none⟩) lG).trans hG1, fun i => (hb.frozen (p := ⟨G, i, none⟩) lG).trans (hfG i)⟩
theorem RepSt.alloc (h : RepSt w0 R G c34 c92 l x y wr) (o : Obj) : RepSt w0 R G c34 c92 l x y (wr.alloc o) := h.kept ((Below.refl _ wr).alloc (Nat.le_refl _) _)
end
theorem TwoAt.set {w : World} {g B : Nat} {x y : Int} (h : TwoAt w g x y B) {p : Addr} (hp : p.block ≠ g) (v : Value) : TwoAt (w.setCell p v) g x y B :=
  ⟨(World.cell?_setCell_other _ _ _ _ (fun e => hp (by rw [e]))).trans h.1, (World.cell?_setCell_other _ _ _ _ (fun e => hp (by rw [e]))).trans h.2.1, h.2.2⟩
theorem TwoAt.kept {w w' : World} {g B : Nat} {x y : Int} (h : TwoAt w g x y B) (hb : Below w.heap.size w w') : TwoAt w' g x y B := by
  have lg : g < w.heap.size := World.block_lt_of_cell? w _ h.1
  exact ⟨(hb.cell (p := ⟨g, 0, none⟩) lg).trans h.1, (hb.cell (p := ⟨g, 1, none⟩) lg).trans h.2.1, h.2.2⟩
theorem TwoAt.alloc {w : World} {g B : Nat} {x y : Int} (h : TwoAt w g x y B) (o : Obj) : TwoAt (w.alloc o) g x y B := h.kept ((Below.refl _ w).alloc (Nat.le_refl _) _)
/-- the row that []byte(s) of two bytes has made -/
theorem two_arr {w w5 : World} {g B : Nat} {a b : UInt8} (h : Arr w.heap.size g [a, b] w w5) (hB : B + 2 ≤ w.heap.size) : TwoAt w5 g a.toNat b.toNat B :=
  ⟨h.cell 0 (by simp), h.cell 1 (by simp), Nat.le_trans hB h.2.2.1⟩
/-- the replacer as it is built -/
def RepEnd (w0 : World) (R : Nat) (wr : World) : Prop :=
  ∃ G g1 c1 g2 c2 : Nat, RepSt w0 R G (.slice (some ⟨g1, 0, none⟩) 2 c1) (.slice (some ⟨g2, 0, none⟩) 2 c2) 2 ⟨#[92]⟩ ⟨#[34]⟩ wr ∧ TwoAt wr g1 92 34 w0.heap.size ∧ TwoAt wr g2 92 92 w0.heap.size
theorem RepEnd.below {w0 wr : World} {R : Nat} (h : RepEnd w0 R wr) : Below w0.heap.size w0 wr := by obtain ⟨_, _, _, _, _, h, _⟩ := h; exact h.below
theorem RepEnd.kept {w0 wr w' : World} {R : Nat} (h : RepEnd w0 R wr) (hb : Below wr.heap.size wr w') : RepEnd w0 R w' := by
  obtain ⟨G, g1, c1, g2, c2, h, t1, t2⟩ := h
  exact ⟨G, g1, c1, g2, c2, h.kept hb, t1.kept hb, t2.kept hb⟩
/-- the replacer as it is built, seen from an elder world W; block b, which holds its strings.Replacer, lies below its parts -/
def RepAt (W : World) (b R : Nat) (wr : World) : Prop :=
  ∃ G g1 c1 g2 c2 : Nat, RepSt W R G (.slice (some ⟨g1, 0, none⟩) 2 c1) (.slice (some ⟨g2, 0, none⟩) 2 c2) 2 ⟨#[92]⟩ ⟨#[34]⟩ wr ∧ TwoAt wr g1 92 34 0 ∧ TwoAt wr g2 92 92 0 ∧ W.heap.size ≤ b ∧ b < R ∧ b < G ∧ b < g1 ∧ b < g2
theorem RepEnd.at {W w0 wr : World} {R b : Nat} (h : RepEnd w0 R wr) (hb : Below W.heap.size W w0) (hW : W.heap.size ≤ b) (hl : b < w0.heap.size) : RepAt W b R wr := by
  obtain ⟨G, g1, c1, g2, c2, ⟨B0, hR, hG, hr⟩, t1, t2⟩ := h
  exact ⟨G, g1, c1, g2, c2, ⟨hb.trans (B0.mono hb.size), Nat.le_trans hb.size hR, Nat.le_trans hb.size hG, hr⟩, ⟨t1.1, t1.2.1, by have := t1.2.2; omega⟩, ⟨t2.1, t2.2.1, by have := t2.2.2; omega⟩, hW, by omega, by omega, by have := t1.2.2; omega, by have := t2.2.2; omega⟩
theorem RepAt.below {W wr : World} {b R : Nat} (h : RepAt W b R wr) : Below W.heap.size W wr := by obtain ⟨_, _, _, _, _, h, _⟩ := h; exact h.below
theorem RepAt.set {W wr : World} {b R : Nat} (h : RepAt W b R wr) (i : Nat) (v : Value) : RepAt W b R (wr.setCell ⟨b, i, none⟩ v) := by
  obtain ⟨G, g1, c1, g2, c2, ⟨B0, hR, hG, hne, hc, hf, h256, hG0, hG1, hfG⟩, t1, t2, hW, l1, l2, l3, l4⟩ := h
  have nR : b ≠ R := Nat.ne_of_lt l1
  have nG : b ≠ G := Nat.ne_of_lt l2
  exact ⟨G, g1, c1, g2, c2, ⟨B0.setCell hW _, hR, hG, hne, fun j hj => (World.cell?_setCell_other _ _ _ _ (ne_blk nR)).trans (hc j hj), fun j => by rw [World.frozen?_setCell]; exact hf j,
    (World.cell?_setCell_other _ _ _ _ (ne_blk nR)).trans h256, (World.cell?_setCell_other _ _ _ _ (ne_blk nG)).trans hG0, (World.cell?_setCell_other _ _ _ _ (ne_blk nG)).trans hG1, fun j => by rw [World.frozen?_setCell]; exact hfG j⟩,
    t1.set (p := ⟨b, i, none⟩) (Nat.ne_of_lt l3) v, t2.set (p := ⟨b, i, none⟩) (Nat.ne_of_lt l4) v, hW, l1, l2, l3, l4⟩
theorem RepAt.kept {W wr w' : World} {b R : Nat} (h : RepAt W b R wr) (hb : Below wr.heap.size wr w') : RepAt W b R w' := by
  obtain ⟨G, g1, c1, g2, c2, h, t1, t2, hr⟩ := h
  exact ⟨G, g1, c1, g2, c2, h.kept hb, t1.kept hb, t2.kept hb, hr⟩
theorem RepAt.drew {W wr : World} {b R : Nat} (h : RepAt W b R wr) : RepAt W b R wr.drew := h.kept ((Below.refl _ wr).drew)
/-- a strings.Replacer that has replaced nothing yet -/
def NewAt (b : Nat) (w : World) : Prop :=
  w.cell? ⟨b, 0, none⟩ = some (.int .u32 0) ∧ w.cell? ⟨b, 1, none⟩ = some (.int .i32 0) ∧ w.cell? ⟨b, 3, none⟩ = some .nilIface ∧ (∀ i : Nat, w.frozen? ⟨b, i, none⟩ = false) ∧ ∃ g c : Nat, w.cell? ⟨b, 4, none⟩ = some (.slice (some ⟨g, 0, none⟩) 4 c) ∧ OldNew g w ∧ b ≠ g
/-- the replacer as it is made -/
theorem RepSt.start (w : World) (t1 t2 : TypeId) : RepSt w (w.heap.size + 1) w.heap.size nilS nilS 0 ⟨#[]⟩ ⟨#[]⟩
    ((w.alloc (.cells #[.string ⟨#[]⟩, .string ⟨#[]⟩] t1)).alloc (.cells (List.replicate 256 nilS ++ [Value.slice (some ⟨w.heap.size, 0, none⟩) 0 2]).toArray t2)) := by
  have es : (w.alloc (.cells #[.string ⟨#[]⟩, .string ⟨#[]⟩] t1)).heap.size = w.heap.size + 1 := World.size_alloc ..
  have lG : w.heap.size < (w.alloc (.cells #[.string ⟨#[]⟩, .string ⟨#[]⟩] t1)).heap.size := by rw [es]; omega
  refine ⟨((Below.refl _ w).alloc (Nat.le_refl _) _).alloc (Nat.le_of_lt lG) _, Nat.le_succ _, Nat.le_refl _, by omega, fun i hi => ?_, fun i => ?_, ?_, ?_, ?_, fun i => ?_⟩
  · rw [World.cell?_alloc_at _ _ _ _ es.symm, List.getElem?_toArray, List.getElem?_append_left (by rw [List.length_replicate]; exact hi), List.getElem?_replicate, if_pos hi]
    simp
  · exact World.frozen?_alloc_at _ _ _ _ es.symm
  · rw [World.cell?_alloc_at _ _ _ _ es.symm, List.getElem?_toArray, List.getElem?_append_right (by rw [List.length_replicate]; exact Nat.le_refl _), List.length_replicate]
    rfl
  · rw [World.cell?_alloc_past _ _ _ lG, World.cell?_alloc_at _ _ _ _ rfl]; rfl
  · rw [World.cell?_alloc_past _ _ _ lG, World.cell?_alloc_at _ _ _ _ rfl]; rfl
  · rw [World.frozen?_alloc_past _ _ _ lG]; exact World.frozen?_alloc_at _ _ _ _ rfl
theorem str92 : strOfNums [(((⟨#[92]⟩ : ByteArray)[0]'(by decide)).toNat : Int)] = ⟨#[92]⟩ := nums_str (l := [92]) rfl
theorem str34 : strOfNums [(((⟨#[34]⟩ : ByteArray)[0]'(by decide)).toNat : Int)] = ⟨#[34]⟩ := nums_str (l := [34]) rfl
end Go.Proofs.YtcmmbceacjechaaGreatDoor

/- WALKS of strings.Replacer's build at quote's four texts. No statement is proved here. -/
namespace Go.Proofs.YtcmmbceacjechaaGreatDoor
open Go.RowKit
set_option linter.unusedVariables false
set_option linter.unusedSimpArgs false
set_option maxRecDepth 100000
theorem made_two (w : World) : (Instr.makeSlice 50 (.int .i64 0) (.int .i64 2)).run Tryz.prog w = .ok (.slice (some ⟨w.heap.size, 0, none⟩) 0 2) (w.alloc (.cells #[.string ⟨#[]⟩, .string ⟨#[]⟩] 9)) := by
  obtain ⟨i0, hi, hz0, hz1, hz2⟩ := info_parts info_str
  have h := run_make (P := Tryz.prog) w 50 9 i0 _ Tryz.underlying50 hi hz0 .i64 .i64 0 2 (by omega) (by omega) (by rw [hz2]; omega) (by omega)
  rw [hz1] at h
  rw [h]
  have e : madeCells (Value.string ByteArray.empty).cells (Int.toNat 2 * 1) = #[.string ⟨#[]⟩, .string ⟨#[]⟩] := by
    show madeCells #[.string ByteArray.empty] 2 = _
    have e0 : Array.range 0 = (#[] : Array Nat) := by simp [Array.range]
    simp [madeCells, Array.range_succ, e0]
    rfl
  rw [e]; rfl
theorem store_rep (w : World) (sl : Value) (h1 : sl.oneCell' = true) : 
    (storeCells ⟨w.heap.size, 0, none⟩ (Tryz.zeroCells214.toList.set 256 sl) 0).run Tryz.prog (w.alloc (.cells Tryz.zeroCells214 214)) = .ok () (w.alloc (.cells (List.replicate 256 nilS ++ [sl]).toArray 214)) := by
  have e : Tryz.zeroCells214.toList.set 256 sl = List.replicate 256 nilS ++ [sl] := by
    rw [zero_rep, show (257 : Nat) = 256 + 1 from rfl, List.replicate_succ', List.set_append_right _ _ (by simp)]
    simp
  have hl : Tryz.zeroCells214.size = 257 := by rw [← Array.length_toList, zero_rep, List.length_replicate]
  have h := run_storeCells_new (P := Tryz.prog) w 214 Tryz.zeroCells214 (List.replicate 256 nilS ++ [sl]).toArray (by
    rw [show (List.replicate 256 nilS ++ [sl]).toArray.size = 257 by simp]; kernel_rfl) (by rw [hl]; simp) (by
    rw [List.all_toArray, List.all_append, Bool.and_eq_true]
    exact ⟨by rw [List.all_replicate]; rfl, by simp [h1]⟩)
  rw [e]
  exact h
set_option maxHeartbeats 1600000 in
theorem build_any (b g c : Nat) (w : World) (ho : w.cell? ⟨b, 4, none⟩ = some (.slice (some ⟨g, 0, none⟩) 4 c)) (hg : OldNew g w) :
    Calls Tryz.prog 227 #[.pointer (some ⟨b, 0, none⟩)] w fun e w' => e = .returned (.iface 215 (.pointer (some ⟨w.heap.size + 1, 0, none⟩))) ∧ RepEnd w (w.heap.size + 1) w' := by
  obtain ⟨h0, h1, h2, h3⟩ := hg
  have hgl : g < w.heap.size := World.block_lt_of_cell? w _ h0
  go_enter Tryz.func227, Tryz.ntmps227
  go_wp2_with fail
  go_loop [4, 5] (fun a i => (i = .int .i64 0 ∧ a = .bool true) ∨ (i = .int .i64 2 ∧ a = .bool false) ∨ (i = .int .i64 4 ∧ a = .bool false)) (fun _ i => 4 - (intOf i).toNat)
  case atStart => exact .inl ⟨rfl, rfl⟩
  case round =>
    rcases hrel with ⟨rfl, rfl⟩ | ⟨rfl, rfl⟩ | ⟨rfl, rfl⟩
    · go_wp2_with fail
      exact ⟨.inr (.inl ⟨rfl, rfl⟩), by decide⟩
    · go_wp2_with fail
      exact ⟨.inr (.inr ⟨rfl, rfl⟩), by decide⟩
    · have hms := made_two w
      have hst := store_rep (w.alloc (.cells #[.string ⟨#[]⟩, .string ⟨#[]⟩] 9)) (.slice (some ⟨w.heap.size, 0, none⟩) 0 2) rfl
      rw [World.size_alloc] at hst
      go_wp2_with fail
      go_loopw [12] (fun i wr => (i = .int .i64 2 ∧ Hid (RepSt w (w.heap.size + 1) w.heap.size nilS nilS 0 ⟨#[]⟩ ⟨#[]⟩ wr)) ∨
        (i = .int .i64 0 ∧ ∃ g2 c2 : Nat, Hid (RepSt w (w.heap.size + 1) w.heap.size nilS (.slice (some ⟨g2, 0, none⟩) 2 c2) 1 ⟨#[92]⟩ ⟨#[]⟩ wr ∧ TwoAt wr g2 92 92 w.heap.size)) ∨
        (i = .int .i64 (-2) ∧ Hid (∃ g1 c1 g2 c2 : Nat, RepSt w (w.heap.size + 1) w.heap.size (.slice (some ⟨g1, 0, none⟩) 2 c1) (.slice (some ⟨g2, 0, none⟩) 2 c2) 2 ⟨#[92]⟩ ⟨#[34]⟩ wr ∧ TwoAt wr g1 92 34 w.heap.size ∧ TwoAt wr g2 92 92 w.heap.size))) (fun i _ => (intOf i + 2).toNat)
      case atStart => exact .inl ⟨rfl, hide (RepSt.start _ _ _)⟩
      case round =>
        rcases hrel with ⟨rfl, HS⟩ | ⟨rfl, g2, c2, HS⟩ | ⟨rfl, HS⟩
        · obtain ⟨B0, hR, hG, hne, hc, hf, h256, hG0, hG1, hfG⟩ := HS.out
          have h92 : wr.cell? ⟨w.heap.size + 1, ((⟨#[92]⟩ : ByteArray)[0]'(by decide)).toNat, none⟩ = some (.slice none 0 0) := hc 92 (by decide)
          have z92 : wr.frozen? ⟨w.heap.size + 1, ((⟨#[92]⟩ : ByteArray)[0]'(by decide)).toNat, none⟩ = false := hf 92
          have z256 := hf 256
          have hnil : ∀ w1, (binOp .eql 67 (.slice none 0 0) (.slice none 0 0)).run Tryz.prog w1 = .ok (.bool true) w1 := fun w1 => Go.Lib.run_eql_slice_nil w1 67 5 none 0 0 0 0 Tryz.underlying67
          have hGl : w.heap.size < wr.heap.size := World.block_lt_of_cell? wr _ hG0
          have hRl : w.heap.size + 1 < wr.heap.size := World.block_lt_of_cell? wr _ h256
          have hggl : g < wr.heap.size := Nat.lt_trans hgl hGl
          have l1 := Nat.lt_succ_of_lt hGl
          have l2 := Nat.lt_succ_of_lt l1
          have l3 := Nat.lt_succ_of_lt hRl
          have l4 := Nat.lt_succ_of_lt l3
          have hcv := conv1 wr (((⟨#[92]⟩ : ByteArray)[0]'(by decide)).toNat : Int)
          have zG0 := hfG 0
          have e2 : wr.cell? ⟨g, 2, none⟩ = some (.string ⟨#[92]⟩) := (B0.cell (p := ⟨g, 2, none⟩) hgl).trans h2
          have e3 : wr.cell? ⟨g, 3, none⟩ = some (.string ⟨#[92, 92]⟩) := (B0.cell (p := ⟨g, 3, none⟩) hgl).trans h3
          have HS1 := hide ((HS.out.setG0 ⟨#[92]⟩).setL 1)
          have e92 := str92
          go_wp2_with (refine wpList_bytes rfl _ rfl ⟨#[92, 92]⟩ rfl ?_; intro cap w5 ha; have HS5 := hide (((HS1.out.alloc _).alloc _).kept ha.below); have HT5 := hide (two_arr (B := w.heap.size) ha (by rw [World.size_alloc, World.size_alloc, World.size_setCell, World.size_setCell]; omega)); rw [World.size_alloc, World.size_alloc, World.size_setCell, World.size_setCell] at HT5; clear ha; have k92 : w5.cell? ⟨w.heap.size + 1, ((⟨#[92]⟩ : ByteArray)[0]'(by decide)).toNat, none⟩ = some (.slice none 0 0) := HS5.out.2.2.2.2.1 92 (by decide); have y92 : w5.frozen? ⟨w.heap.size + 1, ((⟨#[92]⟩ : ByteArray)[0]'(by decide)).toNat, none⟩ = false := HS5.out.2.2.2.2.2.1 92)
          exact ⟨.inr (.inl ⟨rfl, _, cap, hide ⟨HS5.out.set92 _, HT5.out.set (by show w.heap.size + 1 ≠ wr.heap.size + 1 + 1; omega) _⟩⟩), by decide⟩
        · obtain ⟨B0, hR, hG, hne, hc, hf, h256, hG0, hG1, hfG⟩ := HS.out.1
          have HT := hide HS.out.2
          have h92 : wr.cell? ⟨w.heap.size + 1, ((⟨#[34]⟩ : ByteArray)[0]'(by decide)).toNat, none⟩ = some (.slice none 0 0) := hc 34 (by decide)
          have z92 : wr.frozen? ⟨w.heap.size + 1, ((⟨#[34]⟩ : ByteArray)[0]'(by decide)).toNat, none⟩ = false := hf 34
          have z256 := hf 256
          have hnil : ∀ w1, (binOp .eql 67 (.slice none 0 0) (.slice none 0 0)).run Tryz.prog w1 = .ok (.bool true) w1 := fun w1 => Go.Lib.run_eql_slice_nil w1 67 5 none 0 0 0 0 Tryz.underlying67
          have hGl : w.heap.size < wr.heap.size := World.block_lt_of_cell? wr _ hG0
          have hRl : w.heap.size + 1 < wr.heap.size := World.block_lt_of_cell? wr _ h256
          have hggl : g < wr.heap.size := Nat.lt_trans hgl hGl
          have l1 := Nat.lt_succ_of_lt hGl
          have l2 := Nat.lt_succ_of_lt l1
          have l3 := Nat.lt_succ_of_lt hRl
          have l4 := Nat.lt_succ_of_lt l3
          have hcv := conv1 wr (((⟨#[34]⟩ : ByteArray)[0]'(by decide)).toNat : Int)
          have zG0 := hfG 1
          have e2 : wr.cell? ⟨g, 0, none⟩ = some (.string ⟨#[34]⟩) := (B0.cell (p := ⟨g, 0, none⟩) hgl).trans h0
          have e3 : wr.cell? ⟨g, 1, none⟩ = some (.string ⟨#[92, 34]⟩) := (B0.cell (p := ⟨g, 1, none⟩) hgl).trans h1
          have HS1 := hide ((HS.out.1.setG1 ⟨#[34]⟩).setL 2)
          have e92 := str34
          go_wp2_with (refine wpList_bytes rfl _ rfl ⟨#[92, 34]⟩ rfl ?_; intro cap w5 ha; have HS5 := hide (((HS1.out.alloc _).alloc _).kept ha.below); have HT5 := hide (two_arr (B := w.heap.size) ha (by rw [World.size_alloc, World.size_alloc, World.size_setCell, World.size_setCell]; omega)); rw [World.size_alloc, World.size_alloc, World.size_setCell, World.size_setCell] at HT5; have HT6 := hide (((((HT.out.set (p := ⟨w.heap.size, 1, none⟩) (by have := HT.out.2.2; show w.heap.size ≠ g2; omega) _).set (p := ⟨w.heap.size + 1, 256, none⟩) (by have := HT.out.2.2; show w.heap.size + 1 ≠ g2; omega) _).alloc _).alloc _).kept ha.below); clear ha; have k92 : w5.cell? ⟨w.heap.size + 1, ((⟨#[34]⟩ : ByteArray)[0]'(by decide)).toNat, none⟩ = some (.slice none 0 0) := HS5.out.2.2.2.2.1 34 (by decide); have y92 : w5.frozen? ⟨w.heap.size + 1, ((⟨#[34]⟩ : ByteArray)[0]'(by decide)).toNat, none⟩ = false := HS5.out.2.2.2.2.2.1 34)
          exact ⟨.inr (.inr ⟨rfl, hide ⟨_, cap, g2, c2, HS5.out.set34 _, HT5.out.set (by show w.heap.size + 1 ≠ wr.heap.size + 1 + 1; omega) _, HT6.out.set (by have := HT6.out.2.2; show w.heap.size + 1 ≠ g2; omega) _⟩⟩), by decide⟩
        · have HE : Hid (RepEnd w (w.heap.size + 1) wr) := hide ⟨_, HS.out⟩
          go_wp2_with fail
          go_ret
          exact ⟨rfl, HE.out⟩
end Go.Proofs.YtcmmbceacjechaaGreatDoor

/- WALKS of sync.Once in one goroutine: Do with a function that the caller knows by a contract. No statement is proved here. -/
namespace Go.Proofs.YtcmmbceacjechaaGreatDoor
open Go.RowKit
set_option linter.unusedVariables false
set_option linter.unusedSimpArgs false
set_option maxRecDepth 100000

theorem race_off (w : World) : (callFunc 257 #[]).run Tryz.prog w = .ok (.value (.tuple #[])) w := run_call_mark0 Tryz.func257 (by kernel_rfl) (by kernel_rfl) (by kernel_rfl) .disable (by kernel_rfl) w
theorem race_on (w : World) : (callFunc 259 #[]).run Tryz.prog w = .ok (.value (.tuple #[])) w := run_call_mark0 Tryz.func259 (by kernel_rfl) (by kernel_rfl) (by kernel_rfl) .enable (by kernel_rfl) w
theorem race_got (a : Addr) (w : World) : (callFunc 260 #[.pointer (some a)]).run Tryz.prog w = .ok (.value (.tuple #[])) w := run_call_marked Tryz.func260 (by kernel_rfl) (by kernel_rfl) (by kernel_rfl) .acquire (by kernel_rfl) a w
theorem race_let (a : Addr) (w : World) : (callFunc 262 #[.pointer (some a)]).run Tryz.prog w = .ok (.value (.tuple #[])) w := run_call_marked Tryz.func262 (by kernel_rfl) (by kernel_rfl) (by kernel_rfl) .releaseMerge (by kernel_rfl) a w

/-- the Once's word is set, as a deferred call -/
theorem done_set (a : Addr) (x : Value) (u : FrameMode) (w : World) (hc : w.cell? a = some x) (hz : w.frozen? a = false) :
    CallsD Tryz.prog 239 #[.pointer (some a), .bool true] u w fun e u' w' => u' = u ∧ (e = .returned (.tuple #[]) ∧ w' = w.drew.setCell a (.int .u32 1)) := by
  have hc' : w.drew.cell? a = some x := by go_simp
  have hz' : w.drew.frozen? a = false := by go_simp
  have hst := run_call_store (P := Tryz.prog) Tryz.func249 (by kernel_rfl) (by kernel_rfl) (by kernel_rfl) (by kernel_rfl) (k := .u32) (y := 1) hc' hz'
  go_enter_d Tryz.func239, Tryz.ntmps239
  go_wp2
  go_region_calls
  all_goals (go_end0; exact ⟨rfl, rfl⟩)

/-- the lock is let go, as a deferred call -/
theorem lock_let (a : Addr) (u : FrameMode) (w : World) (hc : w.cell? a = some (.int .i32 1)) (hz : w.frozen? a = false) :
    CallsD Tryz.prog 238 #[.pointer (some a)] u w fun e u' w' => u' = u ∧ (e = .returned (.tuple #[]) ∧ w' = w.setCell a (.int .i32 0)) := by
  have hd := race_off
  have he := race_on
  have hr := race_let
  have hadd := run_call_add (P := Tryz.prog) Tryz.func263 (by kernel_rfl) (by kernel_rfl) (by kernel_rfl) .i32 (by kernel_rfl) (y := -1) (s := 0) hc hz (by simp [go_sem]; rfl)
  have hcv := run_convert_to_unsafe (P := Tryz.prog) (src := 241) (dst := 139) Tryz.underlying241 Tryz.underlying139 (by kernel_rfl) hc
  go_enter_d Tryz.func238, Tryz.ntmps238
  go_wp2
  go_end0
  go_wp2
  go_end0
  exact ⟨rfl, rfl⟩

/-- the lock, free: taken -/
theorem lock_got (a : Addr) (w : World) (hc : w.cell? a = some (.int .i32 0)) (hz : w.frozen? a = false) :
    Calls Tryz.prog 237 #[.pointer (some a)] w fun e w' => e = .returned (.tuple #[]) ∧ w' = w.setCell a (.int .i32 1) := by
  have hd := race_off
  have he := race_on
  have ha := race_got
  have hcas := run_call_cas_hit (P := Tryz.prog) Tryz.func258 (by kernel_rfl) (by kernel_rfl) (by kernel_rfl) .i32 (by kernel_rfl) (y := 1) hc hz
  have hc' : (w.setCell a (.int .i32 1)).cell? a = some (.int .i32 1) := World.cell?_setCell_same w a _ hc
  have hcv := run_convert_to_unsafe (P := Tryz.prog) (src := 241) (dst := 139) Tryz.underlying241 Tryz.underlying139 (by kernel_rfl) hc'
  go_enter Tryz.func237, Tryz.ntmps237
  go_wp2
  first | go_end0 | (simp only [Exit.inBlock, Exit.then]; refine bodyPost_ret (results_none rfl _ _ _) rfl ?_) | refine bodyPost_ret (results_none rfl _ _ _) rfl ?_
  go_wp2
  go_end0
  exact ⟨rfl, rfl⟩
end Go.Proofs.YtcmmbceacjechaaGreatDoor

/- WALKS of sync.Once.Do with strings.Replacer's buildOnce, not yet done. No statement is proved here. -/
namespace Go.Proofs.YtcmmbceacjechaaGreatDoor
open Go.RowKit
set_option linter.unusedVariables false
set_option linter.unusedSimpArgs false
set_option maxRecDepth 100000

theorem done_get (a : Addr) (w : World) (h0 : w.cell? a = some (.int .u32 0)) :
    Calls Tryz.prog 225 #[.pointer (some a)] w fun e w' => e = .returned (.bool false) ∧ w = w' := by
  have hl := run_call_load (P := Tryz.prog) Tryz.func236 (by kernel_rfl) (by kernel_rfl) (by kernel_rfl) .u32 (by kernel_rfl) h0
  go_enter Tryz.func225, Tryz.ntmps225
  go_wp2
  go_ret
  exact ⟨rfl, rfl⟩

set_option maxHeartbeats 1600000 in
theorem slow_build (b : Nat) (w : World) (Q : World → Prop)
    (h0 : w.cell? ⟨b, 0, none⟩ = some (.int .u32 0)) (h1 : w.cell? ⟨b, 1, none⟩ = some (.int .i32 0)) (f0 : w.frozen? ⟨b, 0, none⟩ = false) (f1 : w.frozen? ⟨b, 1, none⟩ = false)
    (hC : Calls Tryz.prog 202 #[.pointer (some ⟨b, 0, none⟩)] (w.setCell ⟨b, 1, none⟩ (.int .i32 1)) fun e w' => e = .returned (.tuple #[]) ∧ Q w')
    (hQ : ∀ w', Q w' → w'.cell? ⟨b, 0, none⟩ = some (.int .u32 0) ∧ w'.cell? ⟨b, 1, none⟩ = some (.int .i32 1) ∧ w'.frozen? ⟨b, 0, none⟩ = false ∧ w'.frozen? ⟨b, 1, none⟩ = false) :
    Calls Tryz.prog 226 #[.pointer (some ⟨b, 0, none⟩), .func (.func 202) #[.pointer (some ⟨b, 0, none⟩)] #[]] w fun e w' => e = .returned (.tuple #[]) ∧
      ∃ w1, Q w1 ∧ w' = (w1.drew.setCell ⟨b, 0, none⟩ (.int .u32 1)).setCell ⟨b, 1, none⟩ (.int .i32 0) := by
  have hd1 : (w.setCell ⟨b, 1, none⟩ (.int .i32 1)).cell? ⟨b, 0, none⟩ = some (.int .u32 0) := (World.cell?_setCell_other _ ⟨b, 1, none⟩ ⟨b, 0, none⟩ _ (by simp)).trans h0
  have hnot : ∀ (x : Bool) (w : World), (Op.unary .not (.bool x)).run Tryz.prog w = .ok (.bool (!x)) w := fun _ _ => rfl
  go_enter_defers Tryz.func226, Tryz.ntmps226
  go_wp2_with (go_at_call 237; refine (lock_got ⟨b, 1, none⟩ _ (by go_simp) (by go_simp)).mono ?_; rintro e w' ⟨rfl, rfl⟩)
  go_wp2_with (first
    | (go_at_call 225; refine (done_get ⟨b, 0, none⟩ _ hd1).mono ?_; rintro e w' ⟨rfl, rfl⟩)
    | (go_at_call 202; refine hC.mono ?_; rintro e w2 ⟨rfl, hq⟩))
  refine leaves_cons (f := 239) (args := #[.pointer (some ⟨b, 0, none⟩), .bool true]) (by simp) (by simp [go_sem]) ?_
  refine (done_set ⟨b, 0, none⟩ (.int .u32 0) .returning _ (hQ _ hq).1 (hQ _ hq).2.2.1).mono ?_
  rintro e u' w'' ⟨rfl, rfl, rfl⟩
  refine leaves_cons (f := 238) (args := #[.pointer (some ⟨b, 1, none⟩)]) (by simp [settle]) (by simp [go_sem]) ?_
  refine (lock_let ⟨b, 1, none⟩ _ _ ?_ ?_).mono ?_
  · refine (World.cell?_setCell_other _ ⟨b, 0, none⟩ ⟨b, 1, none⟩ _ (by simp)).trans ?_
    rw [World.cell?_drew]
    exact (hQ _ hq).2.1
  · simp [(hQ _ hq).2.2.2]
  rintro e u' w'' ⟨rfl, rfl, rfl⟩
  simp [Leaves, settle, results, Tryz.results226]
  exact ⟨w2, hq, rfl⟩

set_option maxHeartbeats 1600000 in
theorem once_build (b : Nat) (w : World) (Q : World → Prop)
    (h0 : w.cell? ⟨b, 0, none⟩ = some (.int .u32 0)) (h1 : w.cell? ⟨b, 1, none⟩ = some (.int .i32 0)) (f0 : w.frozen? ⟨b, 0, none⟩ = false) (f1 : w.frozen? ⟨b, 1, none⟩ = false)
    (hC : Calls Tryz.prog 202 #[.pointer (some ⟨b, 0, none⟩)] (w.setCell ⟨b, 1, none⟩ (.int .i32 1)) fun e w' => e = .returned (.tuple #[]) ∧ Q w')
    (hQ : ∀ w', Q w' → w'.cell? ⟨b, 0, none⟩ = some (.int .u32 0) ∧ w'.cell? ⟨b, 1, none⟩ = some (.int .i32 1) ∧ w'.frozen? ⟨b, 0, none⟩ = false ∧ w'.frozen? ⟨b, 1, none⟩ = false) :
    Calls Tryz.prog 201 #[.pointer (some ⟨b, 0, none⟩), .func (.func 202) #[.pointer (some ⟨b, 0, none⟩)] #[]] w fun e w' => e = .returned (.tuple #[]) ∧
      ∃ w1, Q w1 ∧ w' = (w1.drew.setCell ⟨b, 0, none⟩ (.int .u32 1)).setCell ⟨b, 1, none⟩ (.int .i32 0) := by
  have hnot : ∀ (x : Bool) (w : World), (Op.unary .not (.bool x)).run Tryz.prog w = .ok (.bool (!x)) w := fun _ _ => rfl
  go_enter Tryz.func201, Tryz.ntmps201
  go_wp2_with (first
    | (go_at_call 225; refine (done_get ⟨b, 0, none⟩ _ h0).mono ?_; rintro e w' ⟨rfl, rfl⟩)
    | (go_at_call 226; refine (slow_build b _ Q h0 h1 f0 f1 hC hQ).mono ?_; rintro e w' ⟨rfl, hq⟩))
  go_end0
  exact ⟨rfl, hq⟩
end Go.Proofs.YtcmmbceacjechaaGreatDoor

/- WALKS of strings.Replacer's buildOnce and of its Do. No statement is proved here. -/
namespace Go.Proofs.YtcmmbceacjechaaGreatDoor
open Go.RowKit
set_option linter.unusedVariables false
set_option linter.unusedSimpArgs false
set_option maxRecDepth 100000
/-- behind buildOnce -/
def BuiltQ (W : World) (b : Nat) (w w' : World) : Prop :=
  RepAt W b (w.heap.size + 1) w' ∧ w'.cell? ⟨b, 3, none⟩ = some (.iface 215 (.pointer (some ⟨w.heap.size + 1, 0, none⟩))) ∧
  w'.cell? ⟨b, 0, none⟩ = some (.int .u32 0) ∧ w'.cell? ⟨b, 1, none⟩ = some (.int .i32 1) ∧ w'.frozen? ⟨b, 0, none⟩ = false ∧ w'.frozen? ⟨b, 1, none⟩ = false
set_option maxHeartbeats 1600000 in
theorem buildOnce_any (b g c : Nat) (W w : World) (hW : Below W.heap.size W w) (hWb : W.heap.size ≤ b) (h0 : w.cell? ⟨b, 0, none⟩ = some (.int .u32 0)) (h1 : w.cell? ⟨b, 1, none⟩ = some (.int .i32 1)) (h3 : w.cell? ⟨b, 3, none⟩ = some .nilIface)
    (hf : ∀ i : Nat, w.frozen? ⟨b, i, none⟩ = false) (h4 : w.cell? ⟨b, 4, none⟩ = some (.slice (some ⟨g, 0, none⟩) 4 c)) (hg : OldNew g w) :
    Calls Tryz.prog 202 #[.pointer (some ⟨b, 0, none⟩)] w fun e w' => e = .returned (.tuple #[]) ∧ BuiltQ W b w w' := by
  have hbl : b < w.heap.size := World.block_lt_of_cell? w _ h0
  go_enter Tryz.func202, Tryz.ntmps202
  go_wp2_with (go_at_call 227; refine (build_any b g c _ h4 hg).mono ?_; rintro e w2 ⟨rfl, hr⟩; have HR := hide hr; have hb2 := hr.below; have k3 := (hb2.cell (p := ⟨b, 3, none⟩) hbl).trans h3; have k4 := (hb2.cell (p := ⟨b, 4, none⟩) hbl).trans h4; have z3 := (hb2.frozen (p := ⟨b, 3, none⟩) hbl).trans (hf 3); have z4 := (hb2.frozen (p := ⟨b, 4, none⟩) hbl).trans (hf 4); have HB2 := hide hb2; clear hr hb2)
  go_end0
  have k0 := (HB2.out.cell (p := ⟨b, 0, none⟩) hbl).trans h0
  have k1 := (HB2.out.cell (p := ⟨b, 1, none⟩) hbl).trans h1
  have z0 := (HB2.out.frozen (p := ⟨b, 0, none⟩) hbl).trans (hf 0)
  have z1 := (HB2.out.frozen (p := ⟨b, 1, none⟩) hbl).trans (hf 1)
  refine ⟨rfl, ((HR.out.at hW hWb hbl).set 3 _).set 4 _, ?_, ?_, ?_, ?_, ?_⟩
  · exact (World.cell?_setCell_other _ _ _ _ (ne_off (by decide))).trans (World.cell?_setCell_same _ _ _ k3)
  · exact ((World.cell?_setCell_other _ _ _ _ (ne_off (by decide))).trans (World.cell?_setCell_other _ _ _ _ (ne_off (by decide)))).trans k0
  · exact ((World.cell?_setCell_other _ _ _ _ (ne_off (by decide))).trans (World.cell?_setCell_other _ _ _ _ (ne_off (by decide)))).trans k1
  · rw [World.frozen?_setCell, World.frozen?_setCell]; exact z0
  · rw [World.frozen?_setCell, World.frozen?_setCell]; exact z1
theorem do_build (b : Nat) (W w : World) (hW : Below W.heap.size W w) (hWb : W.heap.size ≤ b) (hn : NewAt b w) :
    Calls Tryz.prog 201 #[.pointer (some ⟨b, 0, none⟩), .func (.func 202) #[.pointer (some ⟨b, 0, none⟩)] #[]] w fun e w' => e = .returned (.tuple #[]) ∧
      RepAt W b (w.heap.size + 1) w' ∧ w'.cell? ⟨b, 3, none⟩ = some (.iface 215 (.pointer (some ⟨w.heap.size + 1, 0, none⟩))) := by
  obtain ⟨h0, h1, h3, hf, g, c, h4, ⟨o0, o1, o2, o3⟩, hbg⟩ := hn
  have es : (w.setCell ⟨b, 1, none⟩ (.int .i32 1)).heap.size = w.heap.size := World.size_setCell ..
  have hb := buildOnce_any b g c W (w.setCell ⟨b, 1, none⟩ (.int .i32 1)) (hW.setCell hWb _) hWb
    ((World.cell?_setCell_other _ _ _ _ (ne_off (by decide))).trans h0) (World.cell?_setCell_same _ _ _ h1) ((World.cell?_setCell_other _ _ _ _ (ne_off (by decide))).trans h3)
    (fun i => by rw [World.frozen?_setCell]; exact hf i) ((World.cell?_setCell_other _ _ _ _ (ne_off (by decide))).trans h4)
    ⟨(World.cell?_setCell_other _ _ _ _ (ne_blk hbg)).trans o0, (World.cell?_setCell_other _ _ _ _ (ne_blk hbg)).trans o1, (World.cell?_setCell_other _ _ _ _ (ne_blk hbg)).trans o2, (World.cell?_setCell_other _ _ _ _ (ne_blk hbg)).trans o3⟩
  refine (once_build b w _ h0 h1 (hf 0) (hf 1) hb (fun w' hq => ⟨hq.2.2.1, hq.2.2.2.1, hq.2.2.2.2.1, hq.2.2.2.2.2⟩)).mono ?_
  rintro e w' ⟨rfl, w1, hq, rfl⟩
  refine ⟨rfl, ?_, ?_⟩
  · have := (hq.1.drew.set 0 (.int .u32 1)).set 1 (.int .i32 0)
    rw [es] at this
    exact this
  · have := hq.2.1
    rw [es] at this
    refine ((World.cell?_setCell_other _ _ _ _ (ne_off (by decide))).trans (World.cell?_setCell_other _ _ _ _ (ne_off (by decide)))).trans ?_
    rw [World.cell?_drew]; exact this
end Go.Proofs.YtcmmbceacjechaaGreatDoor

/- How many signs a quoted stretch pairs. No statement is proved here. -/
namespace Go.Proofs.YtcmmbceacjechaaGreatDoor
set_option linter.unusedVariables false
set_option linter.unusedSimpArgs false
def cnB (c : UInt8) (l : List UInt8) : Nat := l.count c
def qn (l : List UInt8) : Nat := cnB 92 l + cnB 34 l
theorem qn_snoc (l : List UInt8) (c : UInt8) : qn (l ++ [c]) = qn l + (escC c).length - 1 := by
  unfold qn cnB escC
  rw [List.count_append, List.count_append, List.count_singleton, List.count_singleton]
  by_cases h1 : c = 34
  · subst h1; simp; omega
  · by_cases h2 : c = 92
    · subst h2; simp; omega
    · simp [h1, h2]
theorem escL_len (l : List UInt8) : (escL l).length = l.length + qn l := by
  induction l with
  | nil => rfl
  | cons c t ih =>
    show (escC c ++ escL t).length = _
    rw [List.length_append, ih]
    unfold qn cnB escC
    rw [List.count_cons, List.count_cons, List.length_cons]
    by_cases h1 : c = 34
    · subst h1; simp; omega
    · by_cases h2 : c = 92
      · subst h2; simp; omega
      · simp [h1, h2]; omega
theorem escL_same (l : List UInt8) (h : qn l = 0) : escL l = l := by
  unfold qn cnB at h
  induction l with
  | nil => rfl
  | cons c t ih =>
    rw [List.count_cons, List.count_cons] at h
    have h1 : ¬ c = 34 := fun e => by subst e; simp at h
    have h2 : ¬ c = 92 := fun e => by subst e; simp at h
    show escC c ++ escL t = _
    rw [ih (by omega)]
    simp [escC, h1, h2]
theorem escL_snoc (l : List UInt8) (c : UInt8) : escL (l ++ [c]) = escL l ++ escC c := by simp [escL]
theorem escL_take (s : ByteArray) (k : Nat) (h : k < s.size) : escL (s.data.toList.take (k + 1)) = escL (s.data.toList.take k) ++ escC s[k] := by rw [take_snoc s k h, escL_snoc]
theorem qn_take (s : ByteArray) (k : Nat) (h : k < s.size) : qn (s.data.toList.take (k + 1)) = qn (s.data.toList.take k) + (escC s[k]).length - 1 := by rw [take_snoc s k h, qn_snoc]
theorem qn_le (l : List UInt8) : qn l ≤ l.length := by
  have h1 := escL_len l
  have h2 := escL_length l
  omega
theorem escL_part (s : ByteArray) (k : Nat) : (escL (s.data.toList.take k)).length ≤ (escL s.data.toList).length := by
  have e : escL s.data.toList = escL (s.data.toList.take k) ++ escL (s.data.toList.drop k) := by
    unfold escL
    rw [← List.flatMap_append, List.take_append_drop]
  rw [e, List.length_append]; exact Nat.le_add_right _ _
/-- o, then as many zeroes as N wants -/
def padL (N : Nat) (o : List UInt8) : List UInt8 := o ++ List.replicate (N - o.length) 0
theorem padL_length {N : Nat} {o : List UInt8} (h : o.length ≤ N) : (padL N o).length = N := by unfold padL; simp; omega
theorem padL_set {N : Nat} {o : List UInt8} (c : UInt8) (h : o.length < N) : (padL N o).set o.length c = padL N (o ++ [c]) := by
  unfold padL
  rw [List.set_append_right _ _ (Nat.le_refl _), Nat.sub_self]
  obtain ⟨m, hm⟩ : ∃ m, N - o.length = m + 1 := ⟨N - o.length - 1, by omega⟩
  have hm2 : N - (o ++ [c]).length = m := by simp; omega
  rw [hm, hm2, List.replicate_succ]
  simp
theorem padL_full (o : List UInt8) : padL o.length o = o := by unfold padL; simp
end Go.Proofs.YtcmmbceacjechaaGreatDoor

