/- WALK of the law StampZones. The statement itself: the row's text. -/
import Derived.Test.YtiojfknphpnlhaaDoorStampLaw0
import Derived.Test.YtiojfknphpnlhaaDoorStampLawT
import Derived.Test.YtiojfknphpnlhaaDoorStampX
import Derived.Deep.DeepMust
namespace Go.Proofs.YtiojfknphpnlhaaDoor
set_option maxRecDepth 100000
open Go.RowKit
set_option linter.unusedVariables false
set_option linter.unusedSimpArgs false

theorem conv4 (w : World) (x y z u : Int) : (convert 34 9 (.slice (some ⟨w.heap.size, 0, none⟩) 4 4)).run Tryd.prog (w.alloc (.cells #[.int .u8 x, .int .u8 y, .int .u8 z, .int .u8 u] 5)) = .ok (.string (strOfNums [x, y, z, u])) (w.alloc (.cells #[.int .u8 x, .int .u8 y, .int .u8 z, .int .u8 u] 5)) :=
  run_convert_bytes_arg (P := Tryd.prog) _ 34 5 Tryd.underlying34 Tryd.underlying5 w.heap.size 0 4 4 [x, y, z, u] rfl (fun i hi => by
    rw [World.cell?_alloc_at _ _ _ _ (by simp)]
    obtain rfl | rfl | rfl | rfl : i = 0 ∨ i = 1 ∨ i = 2 ∨ i = 3 := by omega
    all_goals rfl) 9 Tryd.underlying9
theorem ext0 (l : List UInt8) (k : Nat) : (str l).extract 0 k = str (l.take k) := ext_list (by rw [extract_list, str_toList, str_toList, List.drop_zero])
theorem text_26 (q y m d t : Int) (h : 1 ≤ m) (h' : m ≤ 12) : (textL q y m d t).take 26 = dateL q y m d ++ [32] ++ timeL t ++ [32] := by
  have hl := dateL_len q y m d h h'
  have ht : (timeL t).length = 8 := rfl
  unfold textL
  rw [show dateL q y m d ++ [32] ++ timeL t ++ [32, 43, 48, 48, 48, 48] = (dateL q y m d ++ [32] ++ timeL t ++ [32]) ++ [43, 48, 48, 48, 48] by simp, List.take_append_of_le_length (by simp [hl, ht]), List.take_of_length_le (by simp [hl, ht])]
theorem text_25 (q y m d t : Int) (h : 1 ≤ m) (h' : m ≤ 12) : (textL q y m d t).take 25 = dateL q y m d ++ [32] ++ timeL t := by
  have hl := dateL_len q y m d h h'
  have ht : (timeL t).length = 8 := rfl
  unfold textL
  rw [List.take_append_of_le_length (by simp [hl, ht]), List.take_of_length_le (by simp [hl, ht])]
theorem zoned_text (g : UInt8) (h m : Int) (h0 : 0 ≤ h) (h1 : h < 24) (m0 : 0 ≤ m) (m1 : m < 60) (hg : g = 43 ∨ g = 45) : (g :: two h ++ two m).all (fun c => !isSep c) = true ∧ lowL (g :: two h ++ two m) = g :: two h ++ two m ∧ notRem (g :: two h ++ two m) = true := by
  have a := two_dg h h0 (by omega)
  have b := two_dg m m0 (by omega)
  rcases hg with rfl | rfl
  · refine ⟨?_, ?_, rfl⟩
    · rw [List.cons_append, List.all_cons, List.all_append, allDg_sep a, allDg_sep b]; rfl
    · rw [List.cons_append, lowL_cons, lowL_app, allDg_low a, allDg_low b]; rfl
  · refine ⟨?_, ?_, rfl⟩
    · rw [List.cons_append, List.all_cons, List.all_append, allDg_sep a, allDg_sep b]; rfl
    · rw [List.cons_append, lowL_cons, lowL_app, allDg_low a, allDg_low b]; rfl
set_option maxHeartbeats 2000000 in
theorem law_StampZones (n hh mm : Int) (west : Bool) (w : World) (hE : EnvS w) :
    Calls Tryd.prog 8 #[.agg #[.int .i64 n, .int .i64 hh, .int .i64 mm, .bool west]] w fun e w' => e = .returned (.bool true) ∧ Below w.heap.size w w' := by
  have HE := hide hE
  have hb0 := (Below.refl w.heap.size w).alloc (Nat.le_refl _) (.cells #[.int .i64 n, .int .i64 hh, .int .i64 mm, .bool west] 33)
  have HB0 := hide hb0
  have r0 : (w.alloc (.cells #[.int .i64 n, .int .i64 hh, .int .i64 mm, .bool west] 33)).cell? ⟨w.heap.size, 0, none⟩ = some (.int .i64 n) := by rw [World.cell?_alloc_at _ _ _ _ rfl]; rfl
  have r1 : (w.alloc (.cells #[.int .i64 n, .int .i64 hh, .int .i64 mm, .bool west] 33)).cell? ⟨w.heap.size, 1, none⟩ = some (.int .i64 hh) := by rw [World.cell?_alloc_at _ _ _ _ rfl]; rfl
  have r2 : (w.alloc (.cells #[.int .i64 n, .int .i64 hh, .int .i64 mm, .bool west] 33)).cell? ⟨w.heap.size, 2, none⟩ = some (.int .i64 mm) := by rw [World.cell?_alloc_at _ _ _ _ rfl]; rfl
  have r3 : (w.alloc (.cells #[.int .i64 n, .int .i64 hh, .int .i64 mm, .bool west] 33)).cell? ⟨w.heap.size, 3, none⟩ = some (.bool west) := by rw [World.cell?_alloc_at _ _ _ _ rfl]; rfl
  clear hE hb0
  by_cases h : n < -2208988800 ∨ 253402300800 ≤ n
  · have H := hide h
    clear h
    go_enter Tryd.func8, Tryd.ntmps8
    go_wp2_with fail
    go_quiet (fail)
    have HB1 := hide (Below.drews HB0.out nq)
    clear r0 r1 r2 r3
    go_wp2_with fail
    refine (writeNo_any n _ H.out).mono ?_
    rintro e w1 ⟨rfl, hw⟩
    subst hw
    go_wp2_with fail
    refine (live9_any _ (HE.out.kept HB1.out)).mono ?_
    rintro e wl ⟨rfl, hbl⟩
    have HBL := hide (HB1.out.trans (hbl.mono HB1.out.size))
    clear hbl
    go_wp2_with fail
    go_ret
    exact ⟨rfl, HBL.out⟩
  have n1 : -2208988800 ≤ n := by omega
  have n2 : n < 253402300800 := by omega
  clear h
  by_cases a1 : hh < 0
  · have t_a1 : decide (hh < 0) = true := decide_eq_true a1
    go_enter Tryd.func8, Tryd.ntmps8
    go_wp2_with fail
    go_quiet (fail)
    have HB1 := hide (Below.drews HB0.out nq)
    clear r0 r1 r2 r3
    go_wp2_with fail
    refine (writeYes_any n _ (HE.out.kept HB1.out) n1 n2).mono ?_
    rintro e w2 ⟨y, m, d, hm, hd, rfl, hb⟩
    obtain ⟨S, hS⟩ : ∃ S, S = str (textL (n / 86400) y m d (n % 86400)) := ⟨_, rfl⟩
    rw [← hS]
    have sS : S.size = 31 := by rw [hS, str_size, textL_len _ _ _ _ _ hm.2.2.1 hm.2.2.2.1]
    have HB2 := hide (HB1.out.trans (hb.mono HB1.out.size))
    clear hS hm hd hb
    go_wp2_with fail
    refine (live9_any _ (HE.out.kept HB2.out)).mono ?_
    rintro e wl ⟨rfl, hbl⟩
    have HBL := hide (HB2.out.trans (hbl.mono HB2.out.size))
    clear hbl
    go_wp2_with fail
    go_ret
    exact ⟨rfl, HBL.out⟩
  have t_a1 : decide (hh < 0) = false := decide_eq_false a1
  by_cases a2 : 23 < hh
  · have t_a2 : decide (23 < hh) = true := decide_eq_true a2
    go_enter Tryd.func8, Tryd.ntmps8
    go_wp2_with fail
    go_quiet (fail)
    have HB1 := hide (Below.drews HB0.out nq)
    clear r0 r1 r2 r3
    go_wp2_with fail
    refine (writeYes_any n _ (HE.out.kept HB1.out) n1 n2).mono ?_
    rintro e w2 ⟨y, m, d, hm, hd, rfl, hb⟩
    obtain ⟨S, hS⟩ : ∃ S, S = str (textL (n / 86400) y m d (n % 86400)) := ⟨_, rfl⟩
    rw [← hS]
    have sS : S.size = 31 := by rw [hS, str_size, textL_len _ _ _ _ _ hm.2.2.1 hm.2.2.2.1]
    have HB2 := hide (HB1.out.trans (hb.mono HB1.out.size))
    clear hS hm hd hb
    go_wp2_with fail
    refine (live9_any _ (HE.out.kept HB2.out)).mono ?_
    rintro e wl ⟨rfl, hbl⟩
    have HBL := hide (HB2.out.trans (hbl.mono HB2.out.size))
    clear hbl
    go_wp2_with fail
    go_ret
    exact ⟨rfl, HBL.out⟩
  have t_a2 : decide (23 < hh) = false := decide_eq_false a2
  by_cases a3 : mm < 0
  · have t_a3 : decide (mm < 0) = true := decide_eq_true a3
    go_enter Tryd.func8, Tryd.ntmps8
    go_wp2_with fail
    go_quiet (fail)
    have HB1 := hide (Below.drews HB0.out nq)
    clear r0 r1 r2 r3
    go_wp2_with fail
    refine (writeYes_any n _ (HE.out.kept HB1.out) n1 n2).mono ?_
    rintro e w2 ⟨y, m, d, hm, hd, rfl, hb⟩
    obtain ⟨S, hS⟩ : ∃ S, S = str (textL (n / 86400) y m d (n % 86400)) := ⟨_, rfl⟩
    rw [← hS]
    have sS : S.size = 31 := by rw [hS, str_size, textL_len _ _ _ _ _ hm.2.2.1 hm.2.2.2.1]
    have HB2 := hide (HB1.out.trans (hb.mono HB1.out.size))
    clear hS hm hd hb
    go_wp2_with fail
    refine (live9_any _ (HE.out.kept HB2.out)).mono ?_
    rintro e wl ⟨rfl, hbl⟩
    have HBL := hide (HB2.out.trans (hbl.mono HB2.out.size))
    clear hbl
    go_wp2_with fail
    go_ret
    exact ⟨rfl, HBL.out⟩
  have t_a3 : decide (mm < 0) = false := decide_eq_false a3
  by_cases a4 : 59 < mm
  · have t_a4 : decide (59 < mm) = true := decide_eq_true a4
    go_enter Tryd.func8, Tryd.ntmps8
    go_wp2_with fail
    go_quiet (fail)
    have HB1 := hide (Below.drews HB0.out nq)
    clear r0 r1 r2 r3
    go_wp2_with fail
    refine (writeYes_any n _ (HE.out.kept HB1.out) n1 n2).mono ?_
    rintro e w2 ⟨y, m, d, hm, hd, rfl, hb⟩
    obtain ⟨S, hS⟩ : ∃ S, S = str (textL (n / 86400) y m d (n % 86400)) := ⟨_, rfl⟩
    rw [← hS]
    have sS : S.size = 31 := by rw [hS, str_size, textL_len _ _ _ _ _ hm.2.2.1 hm.2.2.2.1]
    have HB2 := hide (HB1.out.trans (hb.mono HB1.out.size))
    clear hS hm hd hb
    go_wp2_with fail
    refine (live9_any _ (HE.out.kept HB2.out)).mono ?_
    rintro e wl ⟨rfl, hbl⟩
    have HBL := hide (HB2.out.trans (hbl.mono HB2.out.size))
    clear hbl
    go_wp2_with fail
    go_ret
    exact ⟨rfl, HBL.out⟩
  have t_a4 : decide (59 < mm) = false := decide_eq_false a4
  have b1 : 0 ≤ hh := by omega
  have b2 : hh < 24 := by omega
  have b3 : 0 ≤ mm := by omega
  have b4 : mm < 60 := by omega
  clear a1 a2 a3 a4
  cases west
  · obtain ⟨Z, hZ⟩ : ∃ Z, Z = str (two hh ++ two mm) := ⟨_, rfl⟩
    have sZ : Z.size = 4 := by rw [hZ]; rfl
    have hcv : ∀ w : World, (convert 34 9 (.slice (some ⟨w.heap.size, 0, none⟩) 4 4)).run Tryd.prog (w.alloc (.cells #[.int .u8 (48 + hh / 10), .int .u8 (48 + hh % 10), .int .u8 (48 + mm / 10), .int .u8 (48 + mm % 10)] 5)) = .ok (.string Z) (w.alloc (.cells #[.int .u8 (48 + hh / 10), .int .u8 (48 + hh % 10), .int .u8 (48 + mm / 10), .int .u8 (48 + mm % 10)] 5)) := fun w => by
      rw [conv4, hZ, nums_str (l := two hh ++ two mm)]
      simp only [List.map_cons, List.map_nil, two, dg, List.cons_append, List.nil_append]
      rw [show (48 + hh / 10).toNat = 48 + (hh / 10).toNat by omega, show (48 + hh % 10).toNat = 48 + (hh % 10).toNat by omega, show (48 + mm / 10).toNat = 48 + (mm / 10).toNat by omega, show (48 + mm % 10).toNat = 48 + (mm % 10).toNat by omega]
    obtain ⟨z1, z2, z3⟩ := zoned_text 43 hh mm b1 b2 b3 b4 (by decide)
    have hzv := zone_two 43 hh mm b1 b2 b3 b4 (by decide)
    have HZ1 := hide z1
    have HZ2 := hide z2
    have HZ3 := hide z3
    have HZV := hide hzv
    have HZ := hide hZ
    have HCV := hide hcv
    clear z1 z2 z3 hzv hZ hcv
    go_enter Tryd.func8, Tryd.ntmps8
    go_wp2_with fail
    go_quiet (fail)
    have HB1 := hide (Below.drews HB0.out nq)
    clear r0 r1 r2 r3
    go_wp2_with fail
    refine (writeYes_any n _ (HE.out.kept HB1.out) n1 n2).mono ?_
    rintro e w2 ⟨y, m, d, hm, hd, rfl, hb⟩
    obtain ⟨S, hS⟩ : ∃ S, S = str (textL (n / 86400) y m d (n % 86400)) := ⟨_, rfl⟩
    rw [← hS]
    have sS : S.size = 31 := by rw [hS, str_size, textL_len _ _ _ _ _ hm.2.2.1 hm.2.2.2.1]
    have HB2 := hide (HB1.out.trans (hb.mono HB1.out.size))
    have e26 : S.extract 0 26 = str (dateL (n / 86400) y m d ++ [32] ++ timeL (n % 86400) ++ [32]) := by rw [hS, ext0, text_26 _ _ _ _ _ hm.2.2.1 hm.2.2.2.1]
    have e25 : S.extract 0 25 = str (dateL (n / 86400) y m d ++ [32] ++ timeL (n % 86400)) := by rw [hS, ext0, text_25 _ _ _ _ _ hm.2.2.1 hm.2.2.2.1]
    obtain ⟨A, hA⟩ : ∃ A, A = S.extract 0 26 := ⟨_, rfl⟩
    obtain ⟨B, hB⟩ : ∃ B, B = S.extract 0 25 := ⟨_, rfl⟩
    have sA : A.size = 26 := by rw [hA, ByteArray.size_extract, sS]; rfl
    have sB : B.size = 25 := by rw [hB, ByteArray.size_extract, sS]; rfl
    have hA2 : S.extract 0 26 = A := hA.symm
    have hB2 : S.extract 0 25 = B := hB.symm
    have HP : Hid (parV (parseO (A ++ ⟨#[43]⟩ ++ Z).data.toList) = .tuple #[.int .i64 (n - (hh * 3600 + mm * 60)), .int .i64 0]) := hide (by
      have he : (A ++ ⟨#[43]⟩ ++ Z).data.toList = dateL (n / 86400) y m d ++ [32] ++ timeL (n % 86400) ++ 32 :: (43 :: two hh ++ two mm) := by
        rw [hA, e26, HZ.out]; simp [str]
      rw [he, parse_zone (n / 86400) y m d (n % 86400) _ _ hm hd (by omega) (by omega) HZ1.out (by simp) HZ2.out HZ3.out HZV.out, show n / 86400 * 86400 + n % 86400 = n by omega]; rfl)
    have HQ : Hid (parV (parseO B.data.toList) = .tuple #[.int .i64 n, .int .i64 0]) := hide (by
      rw [hB, e25, str_toList, parse_bare (n / 86400) y m d (n % 86400) hm hd (by omega) (by omega), show n / 86400 * 86400 + n % 86400 = n by omega]; rfl)
    have hcv := HCV.out w2
    have sP : (A ++ ⟨#[43]⟩ ++ Z).size ≤ 1000 := by rw [ByteArray.size_append, ByteArray.size_append, sA, sZ]; decide
    have HSP := hide sP
    clear hS hm hd hb e26 e25 hA hB sP
    go_wp2_with fail
    have HB3 := hide (HB2.out.alloc HB2.out.size (.cells #[.int .u8 (48 + hh / 10), .int .u8 (48 + hh % 10), .int .u8 (48 + mm / 10), .int .u8 (48 + mm % 10)] 5))
    clear hcv
    with_reducible refine (parse_any _ _ (HE.out.kept HB3.out) ?_).mono ?_
    · exact HSP.out
    rintro e w3 ⟨rfl, hb3⟩
    rw [HP.out]
    have HB4 := hide (HB3.out.trans (hb3.mono HB3.out.size))
    clear hb3
    go_wp2_with fail
    refine (parse_any B _ (HE.out.kept HB4.out) (by omega)).mono ?_
    rintro e w4 ⟨rfl, hb4⟩
    rw [HQ.out]
    have HB5 := hide (HB4.out.trans (hb4.mono HB4.out.size))
    clear hb4
    have q1 : (n - (hh * 3600 + mm * 60) == n - (3600 * hh + 60 * mm)) = true := by rw [beq_iff_eq]; omega
    go_wp2_with fail
    refine (live9_any _ (HE.out.kept HB5.out)).mono ?_
    rintro e wl ⟨rfl, hbl⟩
    have HBL := hide (HB5.out.trans (hbl.mono HB5.out.size))
    clear hbl
    go_wp2_with fail
    go_ret
    exact ⟨rfl, HBL.out⟩
  · obtain ⟨Z, hZ⟩ : ∃ Z, Z = str (two hh ++ two mm) := ⟨_, rfl⟩
    have sZ : Z.size = 4 := by rw [hZ]; rfl
    have hcv : ∀ w : World, (convert 34 9 (.slice (some ⟨w.heap.size, 0, none⟩) 4 4)).run Tryd.prog (w.alloc (.cells #[.int .u8 (48 + hh / 10), .int .u8 (48 + hh % 10), .int .u8 (48 + mm / 10), .int .u8 (48 + mm % 10)] 5)) = .ok (.string Z) (w.alloc (.cells #[.int .u8 (48 + hh / 10), .int .u8 (48 + hh % 10), .int .u8 (48 + mm / 10), .int .u8 (48 + mm % 10)] 5)) := fun w => by
      rw [conv4, hZ, nums_str (l := two hh ++ two mm)]
      simp only [List.map_cons, List.map_nil, two, dg, List.cons_append, List.nil_append]
      rw [show (48 + hh / 10).toNat = 48 + (hh / 10).toNat by omega, show (48 + hh % 10).toNat = 48 + (hh % 10).toNat by omega, show (48 + mm / 10).toNat = 48 + (mm / 10).toNat by omega, show (48 + mm % 10).toNat = 48 + (mm % 10).toNat by omega]
    obtain ⟨z1, z2, z3⟩ := zoned_text 45 hh mm b1 b2 b3 b4 (by decide)
    have hzv := zone_two 45 hh mm b1 b2 b3 b4 (by decide)
    have HZ1 := hide z1
    have HZ2 := hide z2
    have HZ3 := hide z3
    have HZV := hide hzv
    have HZ := hide hZ
    have HCV := hide hcv
    clear z1 z2 z3 hzv hZ hcv
    go_enter Tryd.func8, Tryd.ntmps8
    go_wp2_with fail
    go_quiet (fail)
    have HB1 := hide (Below.drews HB0.out nq)
    clear r0 r1 r2 r3
    go_wp2_with fail
    refine (writeYes_any n _ (HE.out.kept HB1.out) n1 n2).mono ?_
    rintro e w2 ⟨y, m, d, hm, hd, rfl, hb⟩
    obtain ⟨S, hS⟩ : ∃ S, S = str (textL (n / 86400) y m d (n % 86400)) := ⟨_, rfl⟩
    rw [← hS]
    have sS : S.size = 31 := by rw [hS, str_size, textL_len _ _ _ _ _ hm.2.2.1 hm.2.2.2.1]
    have HB2 := hide (HB1.out.trans (hb.mono HB1.out.size))
    have e26 : S.extract 0 26 = str (dateL (n / 86400) y m d ++ [32] ++ timeL (n % 86400) ++ [32]) := by rw [hS, ext0, text_26 _ _ _ _ _ hm.2.2.1 hm.2.2.2.1]
    have e25 : S.extract 0 25 = str (dateL (n / 86400) y m d ++ [32] ++ timeL (n % 86400)) := by rw [hS, ext0, text_25 _ _ _ _ _ hm.2.2.1 hm.2.2.2.1]
    obtain ⟨A, hA⟩ : ∃ A, A = S.extract 0 26 := ⟨_, rfl⟩
    obtain ⟨B, hB⟩ : ∃ B, B = S.extract 0 25 := ⟨_, rfl⟩
    have sA : A.size = 26 := by rw [hA, ByteArray.size_extract, sS]; rfl
    have sB : B.size = 25 := by rw [hB, ByteArray.size_extract, sS]; rfl
    have hA2 : S.extract 0 26 = A := hA.symm
    have hB2 : S.extract 0 25 = B := hB.symm
    have HP : Hid (parV (parseO (A ++ ⟨#[45]⟩ ++ Z).data.toList) = .tuple #[.int .i64 (n - (-(hh * 3600 + mm * 60))), .int .i64 0]) := hide (by
      have he : (A ++ ⟨#[45]⟩ ++ Z).data.toList = dateL (n / 86400) y m d ++ [32] ++ timeL (n % 86400) ++ 32 :: (45 :: two hh ++ two mm) := by
        rw [hA, e26, HZ.out]; simp [str]
      rw [he, parse_zone (n / 86400) y m d (n % 86400) _ _ hm hd (by omega) (by omega) HZ1.out (by simp) HZ2.out HZ3.out HZV.out, show n / 86400 * 86400 + n % 86400 = n by omega]; rfl)
    have HQ : Hid (parV (parseO B.data.toList) = .tuple #[.int .i64 n, .int .i64 0]) := hide (by
      rw [hB, e25, str_toList, parse_bare (n / 86400) y m d (n % 86400) hm hd (by omega) (by omega), show n / 86400 * 86400 + n % 86400 = n by omega]; rfl)
    have hcv := HCV.out w2
    have sP : (A ++ ⟨#[45]⟩ ++ Z).size ≤ 1000 := by rw [ByteArray.size_append, ByteArray.size_append, sA, sZ]; decide
    have HSP := hide sP
    clear hS hm hd hb e26 e25 hA hB sP
    go_wp2_with fail
    have HB3 := hide (HB2.out.alloc HB2.out.size (.cells #[.int .u8 (48 + hh / 10), .int .u8 (48 + hh % 10), .int .u8 (48 + mm / 10), .int .u8 (48 + mm % 10)] 5))
    clear hcv
    with_reducible refine (parse_any _ _ (HE.out.kept HB3.out) ?_).mono ?_
    · exact HSP.out
    rintro e w3 ⟨rfl, hb3⟩
    rw [HP.out]
    have HB4 := hide (HB3.out.trans (hb3.mono HB3.out.size))
    clear hb3
    go_wp2_with fail
    refine (parse_any B _ (HE.out.kept HB4.out) (by omega)).mono ?_
    rintro e w4 ⟨rfl, hb4⟩
    rw [HQ.out]
    have HB5 := hide (HB4.out.trans (hb4.mono HB4.out.size))
    clear hb4
    have q1 : (n - (-(hh * 3600 + mm * 60)) == n - -(3600 * hh + 60 * mm)) = true := by rw [beq_iff_eq]; omega
    go_wp2_with fail
    refine (live9_any _ (HE.out.kept HB5.out)).mono ?_
    rintro e wl ⟨rfl, hbl⟩
    have HBL := hide (HB5.out.trans (hbl.mono HB5.out.size))
    clear hbl
    go_wp2_with fail
    go_ret
    exact ⟨rfl, HBL.out⟩
end Go.Proofs.YtiojfknphpnlhaaDoor
