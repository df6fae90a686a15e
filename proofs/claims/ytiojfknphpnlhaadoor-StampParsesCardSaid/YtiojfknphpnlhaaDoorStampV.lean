/- WALKS of the reference's two, name, Write. No statement is proved here. -/
import Derived.Test.YtiojfknphpnlhaaDoorStampW
namespace Go.Proofs.YtiojfknphpnlhaaDoor
open Go.RowKit
set_option linter.unusedVariables false
set_option linter.unusedSimpArgs false

theorem conv2 (w : World) (x y : Int) : (convert 34 9 (.slice (some ⟨w.heap.size, 0, none⟩) 2 2)).run Tryd.prog (w.alloc (.cells #[.int .u8 x, .int .u8 y] 5)) = .ok (.string (strOfNums [x, y])) (w.alloc (.cells #[.int .u8 x, .int .u8 y] 5)) :=
  run_convert_bytes_arg (P := Tryd.prog) _ 34 5 Tryd.underlying34 Tryd.underlying5 w.heap.size 0 2 2 [x, y] rfl (fun i hi => by
    rw [World.cell?_alloc_at _ _ _ _ (by simp)]
    obtain rfl | rfl : i = 0 ∨ i = 1 := by omega
    all_goals rfl) 9 Tryd.underlying9
theorem conv1d (w : World) (x : Int) : (convert 34 9 (.slice (some ⟨w.heap.size, 0, none⟩) 1 1)).run Tryd.prog (w.alloc (.cells #[.int .u8 x] 5)).drew = .ok (.string (strOfNums [x])) (w.alloc (.cells #[.int .u8 x] 5)).drew :=
  run_convert_bytes_arg (P := Tryd.prog) _ 34 5 Tryd.underlying34 Tryd.underlying5 w.heap.size 0 1 1 [x] rfl (fun i hi => by
    show (w.alloc (.cells #[.int .u8 x] 5)).cell? _ = _
    rw [World.cell?_alloc_at _ _ _ _ (by simp)]
    obtain rfl : i = 0 := by omega
    all_goals rfl) 9 Tryd.underlying9
theorem refTwo_any (n : Int) (S : ByteArray) (hS : S = str [dg (n / 10 % 10), dg (n % 10)]) (w : World) (h0 : 0 ≤ n) (h1 : n ≤ 100000) :
    Calls Tryd.prog 33 #[.int .i64 n] w fun e w' => e = .returned (.string S) ∧ Below w.heap.size w w' := by
  have hc := conv2 w (48 + n / 10 % 10) (48 + n % 10)
  rw [nums_str (l := [dg (n / 10 % 10), dg (n % 10)]) (by
    simp only [List.map_cons, List.map_nil, dg]
    rw [show (48 + n / 10 % 10).toNat = 48 + (n / 10 % 10).toNat by omega, show (48 + n % 10).toNat = 48 + (n % 10).toNat by omega]), ← hS] at hc
  clear hS
  go_enter Tryd.func33, Tryd.ntmps33
  go_wp2_with fail
  go_ret
  exact ⟨rfl, (Below.refl _ _).alloc (Nat.le_refl _) _⟩
set_option maxHeartbeats 400000 in
theorem refName_any (l : ByteArray) (k : Nat) (S : ByteArray) (w : World) (hl : l.size ≤ 1000) (hk : 4 * k + 3 ≤ l.size) (h0 : 97 ≤ (l[4 * k]'(by omega)).toNat) (h1 : (l[4 * k]'(by omega)).toNat ≤ 122)
    (hS : S = str [UInt8.ofNat ((l[4 * k]'(by omega)).toNat - 32)] ++ l.extract (4 * k + 1) (4 * k + 3)) :
    Calls Tryd.prog 32 #[.string l, .int .i64 k] w fun e w' => e = .returned (.string S) ∧ Below w.heap.size w w' := by
  have hk' : 4 * k < l.size := by omega
  obtain ⟨c, hc⟩ : ∃ c, c = l[4 * k]'hk' := ⟨_, rfl⟩
  rw [← hc] at h0 h1 hS
  have hcv := conv1d w ((c.toNat : Int) - 32)
  rw [nums_str (l := [UInt8.ofNat (c.toNat - 32)]) (by simp only [List.map_cons, List.map_nil]; rw [show ((c.toNat : Int) - 32).toNat = c.toNat - 32 by omega])] at hcv
  obtain ⟨A, hA⟩ : ∃ A, A = str [UInt8.ofNat (c.toNat - 32)] := ⟨_, rfl⟩
  rw [← hA] at hcv hS
  have sA : A.size = 1 := by rw [hA]; rfl
  have sE : (l.extract (4 * k + 1) (4 * k + 3)).size = 2 := by rw [ByteArray.size_extract]; omega
  have HS := hide hS
  have a1 : IntKind.i64.wrap (4 * (k : Int)) = 4 * k := IntWalk.i64_in _ (by omega)
  have a2 : IntKind.i64.wrap (4 * (k : Int) + 1) = 4 * k + 1 := IntWalk.i64_in _ (by omega)
  have a3 : IntKind.i64.wrap (4 * (k : Int) + 3) = 4 * k + 3 := IntWalk.i64_in _ (by omega)
  have b1 : 0 ≤ 4 * (k : Int) := by omega
  have b2 : 4 * (k : Int) < l.size := by omega
  have b3 : (4 * (k : Int)).toNat = 4 * k := by omega
  have b4 : (4 * (k : Int) + 1).toNat = 4 * k + 1 := by omega
  have b5 : (4 * (k : Int) + 3).toNat = 4 * k + 3 := by omega
  have b6 : 0 ≤ 4 * (k : Int) + 1 := by omega
  have b7 : 4 * (k : Int) + 1 ≤ 4 * (k : Int) + 3 := by omega
  have b8 : 4 * (k : Int) + 3 ≤ l.size := by omega
  have hc2 : l[4 * k]'hk' = c := hc.symm
  clear hS hA hc
  go_enter Tryd.func32, Tryd.ntmps32
  go_wp2_with fail
  go_region
  go_wp2_with fail
  go_ret
  exact ⟨ret_str HS.out.symm, ((Below.refl _ _).alloc (Nat.le_refl _) _).drew⟩
def dayTxt : ByteArray := ⟨#[116, 104, 117, 32, 102, 114, 105, 32, 115, 97, 116, 32, 115, 117, 110, 32, 109, 111, 110, 32, 116, 117, 101, 32, 119, 101, 100, 32]⟩
def monTxt : ByteArray := ⟨#[106, 97, 110, 32, 102, 101, 98, 32, 109, 97, 114, 32, 97, 112, 114, 32, 109, 97, 121, 32, 106, 117, 110, 32, 106, 117, 108, 32, 97, 117, 103, 32, 115, 101, 112, 32, 111, 99, 116, 32, 110, 111, 118, 32, 100, 101, 99, 32]⟩
theorem refDay_any (k : Nat) (S : ByteArray) (w : World) (hk : k < 7) (hS : S = str (dayTab.getD k [])) :
    Calls Tryd.prog 32 #[.string ⟨#[116, 104, 117, 32, 102, 114, 105, 32, 115, 97, 116, 32, 115, 117, 110, 32, 109, 111, 110, 32, 116, 117, 101, 32, 119, 101, 100, 32]⟩, .int .i64 k] w fun e w' => e = .returned (.string S) ∧ Below w.heap.size w w' := by
  subst hS
  refine refName_any dayTxt k _ w (by decide) (by show 4 * k + 3 ≤ 28; omega) ?_ ?_ ?_
  all_goals
    obtain rfl | rfl | rfl | rfl | rfl | rfl | rfl : k = 0 ∨ k = 1 ∨ k = 2 ∨ k = 3 ∨ k = 4 ∨ k = 5 ∨ k = 6 := by omega
    all_goals first | (refine ext_list ?_; decide +kernel +revert) | decide +kernel +revert
theorem refMon_any (k : Nat) (S : ByteArray) (w : World) (hk : k < 12) (hS : S = str (monTab.getD k [])) :
    Calls Tryd.prog 32 #[.string ⟨#[106, 97, 110, 32, 102, 101, 98, 32, 109, 97, 114, 32, 97, 112, 114, 32, 109, 97, 121, 32, 106, 117, 110, 32, 106, 117, 108, 32, 97, 117, 103, 32, 115, 101, 112, 32, 111, 99, 116, 32, 110, 111, 118, 32, 100, 101, 99, 32]⟩, .int .i64 k] w fun e w' => e = .returned (.string S) ∧ Below w.heap.size w w' := by
  subst hS
  refine refName_any monTxt k _ w (by decide) (by show 4 * k + 3 ≤ 48; omega) ?_ ?_ ?_
  all_goals
    obtain rfl | rfl | rfl | rfl | rfl | rfl | rfl | rfl | rfl | rfl | rfl | rfl : k = 0 ∨ k = 1 ∨ k = 2 ∨ k = 3 ∨ k = 4 ∨ k = 5 ∨ k = 6 ∨ k = 7 ∨ k = 8 ∨ k = 9 ∨ k = 10 ∨ k = 11 := by omega
    all_goals first | (refine ext_list ?_; decide +kernel +revert) | decide +kernel +revert

theorem daysV_first : daysV 1900 1 1 = .tuple #[.int .i64 (-25567), .int .i64 0] := by unfold daysV; rw [if_pos (by decide +kernel), show daysZ 1900 1 1 = -25567 by decide +kernel]
theorem daysV_last : daysV 9999 12 31 = .tuple #[.int .i64 2932896, .int .i64 0] := by unfold daysV; rw [if_pos (by decide +kernel), show daysZ 9999 12 31 = 2932896 by decide +kernel]
theorem refWriteNo_any (n : Int) (w : World) (h : n < -2208988800 ∨ 253402300800 ≤ n) :
    Calls Tryd.prog 14 #[.int .i64 n] w fun e w' => e = .returned (.tuple #[.string ⟨#[]⟩, .int .i64 1]) ∧ w = w' := by
  have N1 := hide daysV_first
  have N2 := hide daysV_last
  by_cases c : n < -2208988800
  · have t1 : decide (n < -2208988800) = true := decide_eq_true c
    clear h
    go_enter Tryd.func14, Tryd.ntmps14
    go_wp2_with fail
    refine (refDays_any 1900 1 1 _).mono ?_
    rintro e w1 ⟨rfl, rfl⟩
    rw [N1.out]
    go_wp2_with fail
    refine (refDays_any 9999 12 31 _).mono ?_
    rintro e w1 ⟨rfl, rfl⟩
    rw [N2.out]
    go_wp2_with fail
    go_ret2
    exact ⟨rfl, rfl⟩
  · have t1 : decide (n < -2208988800) = false := decide_eq_false c
    have c2 : 253402300800 ≤ n := by omega
    have t2 : decide (253402300800 ≤ n) = true := decide_eq_true c2
    clear h c
    go_enter Tryd.func14, Tryd.ntmps14
    go_wp2_with fail
    refine (refDays_any 1900 1 1 _).mono ?_
    rintro e w1 ⟨rfl, rfl⟩
    rw [N1.out]
    go_wp2_with fail
    refine (refDays_any 9999 12 31 _).mono ?_
    rintro e w1 ⟨rfl, rfl⟩
    rw [N2.out]
    go_wp2_with fail
    go_ret2
    exact ⟨rfl, rfl⟩
set_option maxRecDepth 100000 in
set_option maxHeartbeats 1000000 in
theorem refWriteYes_any (n : Int) (w : World) (h1 : -2208988800 ≤ n) (h2 : n < 253402300800) :
    Calls Tryd.prog 14 #[.int .i64 n] w (WriteP n w) := by
  have N1 := hide daysV_first
  have N2 := hide daysV_last
  have t1 : decide (n < -2208988800) = false := decide_eq_false (by omega)
  have t2 : decide (253402300800 ≤ n) = false := decide_eq_false (by omega)
  obtain ⟨q, hq⟩ : ∃ q, q = n / 86400 := ⟨_, rfl⟩
  have q0 : -25567 ≤ q := by omega
  have q1 : q < 2932897 := by omega
  have e1 : (n + 2208988800) / 86400 = q + 25567 := by omega
  obtain ⟨t, ht⟩ : ∃ t, t = n % 86400 := ⟨_, rfl⟩
  have e2 : (n + 2208988800) % 86400 = t := by omega
  have t0 : 0 ≤ t := by omega
  have t9 : t < 86400 := by omega
  have HHT := hide ht
  clear ht
  have HQ := hide hq
  have NF := hide newY_first
  have NL := hide newY_last
  clear hq
  go_enter Tryd.func14, Tryd.ntmps14
  go_wp2_with fail
  refine (refDays_any 1900 1 1 _).mono ?_
  rintro e w1 ⟨rfl, rfl⟩
  rw [N1.out]
  go_wp2_with fail
  refine (refDays_any 9999 12 31 _).mono ?_
  rintro e w1 ⟨rfl, rfl⟩
  rw [N2.out]
  go_wp2_with fail
  obtain ⟨W, hW⟩ : ∃ W : Nat, (W : Int) = q % 7 := ⟨(q % 7).toNat, by omega⟩
  have w7 : W < 7 := by omega
  rw [e1, e2, show (q + 25567 + -25567 + 70000) % 7 = (W : Int) by omega]
  obtain ⟨N, hN⟩ : ∃ N, N = str (dayTab.getD W []) := ⟨_, rfl⟩
  have sN : N.size ≤ 3 := by rw [hN, dayTab_size _ w7]; exact Nat.le_refl _
  have HN := hide hN
  have HW := hide hW
  clear e1 e2 hN hW
  go_loop [8, 11] (fun dd yy => ∃ y : Int, 1900 ≤ y ∧ y ≤ 9999 ∧ yy = .int .i64 y ∧ dd = .int .i64 (q - newY y) ∧ newY y ≤ q) (fun _ yy => (9999 - intOf yy).toNat)
  case atStart => exact ⟨1900, by omega, by omega, rfl, by rw [NF.out]; go_num, by rw [NF.out]; exact q0⟩
  case round =>
    obtain ⟨y, y0, y1, rfl, rfl, hy⟩ := hrel
    have hbd := newY_bd y (by omega) (by omega)
    have h99 : y = 9999 → q < newY y + yl y := fun e => by
      rw [← newY_succ, e]; exact (show newY (9999 + 1) = 2932897 by decide) ▸ q1
    have hcase : (leapB y = false ∧ yl y = 365) ∨ (leapB y = true ∧ yl y = 366) := by
      unfold yl; cases leapB y <;> simp
    have HSU := hide (newY_succ y)
    obtain ⟨L, hL⟩ : ∃ L, L = yl y := ⟨_, rfl⟩
    rw [← hL] at h99 hcase
    have HYL := hide hL
    clear hL
    by_cases hlt : q - newY y < L
    · clear h99
      rcases hcase with ⟨hl, rfl⟩ | ⟨hl, rfl⟩
      all_goals
        have HL := hide hl
        clear hl
        go_wp2_with fail
        refine (refLeap_any y _ (by omega) (by omega)).mono ?_
        rintro e w1 ⟨rfl, rfl⟩
        rw [HL.out]
        go_wp2_with fail
        go_loop [8, 13] (fun dd mm => ∃ j : Nat, j < 12 ∧ mm = .int .i64 ((j : Int) + 1) ∧ dd = .int .i64 (q - newY y - cumN y j) ∧ cumN y j ≤ q - newY y) (fun _ mm => (12 - intOf mm).toNat)
        case atStart => exact ⟨0, by omega, rfl, by rw [show cumN y 0 = 0 from rfl]; go_num, by rw [show cumN y 0 = 0 from rfl]; omega⟩
        case round =>
          obtain ⟨j, j1, rfl, rfl, hj⟩ := hrel
          have hcl := cumN_le y j (by omega)
          have hcn := cumN_nn y j
          have hcs := cumN_succ y j
          have HS := hide (cumN_succ y j)
          have hdk := dim_bd y ((j : Int) + 1)
          have hlast : j = 11 → cumN y (j + 1) = _ := fun e => by subst e; exact (cumN_12 y).trans HYL.out.symm
          by_cases hlt2 : dim y ((j : Int) + 1) ≤ q - newY y - cumN y j
          · have h11 : j < 11 := by
              rcases Nat.lt_or_ge j 11 with h | h
              · exact h
              · have := hlast (by omega); omega
            clear hlast hcs
            go_wp2_with fail
            refine (refLong_any y ((j : Int) + 1) _ (by omega) (by omega)).mono ?_
            rintro e w1 ⟨rfl, rfl⟩
            go_wp2_with fail
            refine (refLong_any y ((j : Int) + 1) _ (by omega) (by omega)).mono ?_
            rintro e w1 ⟨rfl, rfl⟩
            go_wp2_with fail
            go_round
            case rel => exact ⟨j + 1, by omega, by go_num, by rw [HS.out]; go_num, by rw [HS.out]; omega⟩
            case measure => simp [intOf]; omega
          · obtain ⟨d, hd⟩ : ∃ d, d = q - newY y - cumN y j + 1 := ⟨_, rfl⟩
            obtain ⟨m, hm⟩ : ∃ m : Int, m = (j : Int) + 1 := ⟨_, rfl⟩
            have HM : Hid (MayD y m d) := hide (by rw [hm]; unfold MayD; omega)
            have HD : Hid (daysZ y m d = q) := hide (by rw [hm, hd]; unfold daysZ; rw [show ((j : Int) + 1 - 1).toNat = j by omega]; omega)
            obtain ⟨D, hDD⟩ : ∃ D, D = str [dg (d / 10 % 10), dg (d % 10)] := ⟨_, rfl⟩
            obtain ⟨M, hMM⟩ : ∃ M, M = str (monTab.getD j []) := ⟨_, rfl⟩
            obtain ⟨Y, hYY⟩ : ∃ Y, Y = str [dg (y / 100 / 10 % 10), dg (y / 100 % 10)] := ⟨_, rfl⟩
            obtain ⟨Z, hZZ⟩ : ∃ Z, Z = str [dg (y / 10 % 10), dg (y % 10)] := ⟨_, rfl⟩
            obtain ⟨A, hAA⟩ : ∃ A, A = str [dg (t / 3600 / 10 % 10), dg (t / 3600 % 10)] := ⟨_, rfl⟩
            obtain ⟨B, hBB⟩ : ∃ B, B = str [dg (t / 60 % 60 / 10 % 10), dg (t / 60 % 60 % 10)] := ⟨_, rfl⟩
            obtain ⟨C, hCC⟩ : ∃ C, C = str [dg (t % 60 / 10 % 10), dg (t % 60 % 10)] := ⟨_, rfl⟩
            have sD : D.size = 2 := by rw [hDD]; rfl
            have sM : M.size = 3 := by rw [hMM, monTab_size _ j1]
            have sY : Y.size = 2 := by rw [hYY]; rfl
            have sZ : Z.size = 2 := by rw [hZZ]; rfl
            have sA : A.size = 2 := by rw [hAA]; rfl
            have sB : B.size = 2 := by rw [hBB]; rfl
            have sC : C.size = 2 := by rw [hCC]; rfl
            have d0 : 1 ≤ d := by omega
            have d9 : d ≤ 31 := by omega
            have HR : Hid (N ++ ⟨#[44, 32]⟩ ++ D ++ ⟨#[32]⟩ ++ M ++ ⟨#[32]⟩ ++ Y ++ Z ++ ⟨#[32]⟩ ++ A ++ ⟨#[58]⟩ ++ B ++ ⟨#[58]⟩ ++ C ++ ⟨#[32, 43, 48, 48, 48, 48]⟩ = str (textL (n / 86400) y m d (n % 86400))) := hide (by
              rw [← HQ.out, ← HHT.out]
              unfold textL dateL timeL dayUp monUp
              rw [show (m - 1).toNat = j by omega, show (q % 7).toNat = W by have := HW.out; omega]
              have e1 : two d = [dg (d / 10 % 10), dg (d % 10)] := by unfold two; rw [show d / 10 % 10 = d / 10 by omega]
              have e2 : four y = [dg (y / 100 / 10 % 10), dg (y / 100 % 10)] ++ [dg (y / 10 % 10), dg (y % 10)] := by unfold four; rw [show y / 100 / 10 % 10 = y / 1000 by omega]; rfl
              have e3 : two (t / 3600) = [dg (t / 3600 / 10 % 10), dg (t / 3600 % 10)] := by unfold two; rw [show t / 3600 / 10 % 10 = t / 3600 / 10 by omega]
              have e4 : two (t / 60 % 60) = [dg (t / 60 % 60 / 10 % 10), dg (t / 60 % 60 % 10)] := by unfold two; rw [show t / 60 % 60 / 10 % 10 = t / 60 % 60 / 10 by omega]
              have e5 : two (t % 60) = [dg (t % 60 / 10 % 10), dg (t % 60 % 10)] := by unfold two; rw [show t % 60 / 10 % 10 = t % 60 / 10 by omega]
              rw [e1, e2, e3, e4, e5, HN.out, hDD, hMM, hYY, hZZ, hAA, hBB, hCC]
              simp only [str_append, ← List.cons_append]
              apply ext_list
              simp [str, dayTab, monTab])
            have HDD := hide hDD
            have HMM := hide hMM
            have HYY := hide hYY
            have HZZ := hide hZZ
            have HAA := hide hAA
            have HBB := hide hBB
            have HCC := hide hCC
            have Hd := hide hd
            clear hlast hcs hDD hMM hYY hZZ hAA hBB hCC hd hm
            go_wp2_with fail
            refine (refLong_any y ((j : Int) + 1) _ (by omega) (by omega)).mono ?_
            rintro e w1 ⟨rfl, rfl⟩
            go_wp2_with fail
            refine (refDay_any W N _ w7 HN.out).mono ?_
            rintro e w1 ⟨rfl, hb1⟩
            go_wp2_with fail
            refine (refTwo_any (q - newY y - cumN y j + 1) D (by rw [← Hd.out]; exact HDD.out) _ (by omega) (by omega)).mono ?_
            rintro e w2 ⟨rfl, hb2⟩
            go_wp2_with fail
            refine (refMon_any j M _ j1 HMM.out).mono ?_
            rintro e w3 ⟨rfl, hb3⟩
            go_wp2_with fail
            refine (refTwo_any (y / 100) Y HYY.out _ (by omega) (by omega)).mono ?_
            rintro e w4 ⟨rfl, hb4⟩
            go_wp2_with fail
            refine (refTwo_any y Z HZZ.out _ (by omega) (by omega)).mono ?_
            rintro e w5 ⟨rfl, hb5⟩
            go_wp2_with fail
            refine (refTwo_any (t / 3600) A HAA.out _ (by omega) (by omega)).mono ?_
            rintro e w6 ⟨rfl, hb6⟩
            go_wp2_with fail
            refine (refTwo_any (t / 60 % 60) B HBB.out _ (by omega) (by omega)).mono ?_
            rintro e w7 ⟨rfl, hb7⟩
            go_wp2_with fail
            refine (refTwo_any (t % 60) C HCC.out _ (by omega) (by omega)).mono ?_
            rintro e w8 ⟨rfl, hb8⟩
            have k2 := hb1.trans (hb2.mono hb1.size)
            have k3 := k2.trans (hb3.mono k2.size)
            have k4 := k3.trans (hb4.mono k3.size)
            have k5 := k4.trans (hb5.mono k4.size)
            have k6 := k5.trans (hb6.mono k5.size)
            have k7 := k6.trans (hb7.mono k6.size)
            have k8 := k7.trans (hb8.mono k7.size)
            have K8 := hide k8
            clear hb1 hb2 hb3 hb4 hb5 hb6 hb7 hb8 k2 k3 k4 k5 k6 k7 k8
            go_wp2_with fail
            go_ret2
            exact ⟨y, m, d, HM.out, HD.out.trans HQ.out, by rw [← HR.out]; rfl, K8.out⟩
    · have hy8 : y < 9999 := by omega
      clear h99
      rcases hcase with ⟨hl, rfl⟩ | ⟨hl, rfl⟩
      all_goals
        have HL := hide hl
        clear hl
        go_wp2_with fail
        refine (refLeap_any y _ (by omega) (by omega)).mono ?_
        rintro e w1 ⟨rfl, rfl⟩
        rw [HL.out]
        go_wp2_with fail
        go_round
        case rel => exact ⟨y + 1, by omega, by omega, rfl, by rw [HSU.out, ← HYL.out]; go_num, by rw [HSU.out, ← HYL.out]; omega⟩
        case measure => simp [intOf]; omega
end Go.Proofs.YtiojfknphpnlhaaDoor
