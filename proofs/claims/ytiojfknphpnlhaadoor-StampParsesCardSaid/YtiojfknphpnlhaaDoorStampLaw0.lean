/- WALK of muslinlaw09's live. No statement is proved here. -/
import Derived.Test.YtiojfknphpnlhaaDoorStampY
import Derived.Test.YtiojfknphpnlhaaDoorStampW
namespace Go.Proofs.YtiojfknphpnlhaaDoor
set_option maxRecDepth 100000
open Go.RowKit
set_option linter.unusedVariables false
set_option linter.unusedSimpArgs false

theorem live9a : parseO [70, 114, 105, 44, 32, 50, 32, 74, 97, 110, 32, 49, 57, 55, 48, 32, 48, 49, 58, 48, 48, 58, 48, 48, 32, 43, 48, 49, 48, 48, 32, 40, 120, 41] = some 86400 := by decide +kernel
theorem live9b : parseO [49, 32, 109, 97, 114, 32, 48, 48, 32, 48, 48, 58, 48, 48, 32, 69, 83, 84] = some 951886800 := by decide +kernel
theorem live9c : parseO [50, 57, 32, 70, 101, 98, 32, 50, 48, 48, 49, 32, 48, 48, 58, 48, 48] = none := by decide +kernel
theorem live9d : textL 1 1970 1 2 0 = [70, 114, 105, 44, 32, 48, 50, 32, 74, 97, 110, 32, 49, 57, 55, 48, 32, 48, 48, 58, 48, 48, 58, 48, 48, 32, 43, 48, 48, 48, 48] := by decide +kernel
theorem live9e : daysV 1969 12 31 = .tuple #[.int .i64 (-1), .int .i64 0] := by unfold daysV; rw [if_pos (by decide +kernel), show daysZ 1969 12 31 = -1 by decide +kernel]
theorem live9f : daysV 1899 12 31 = .tuple #[.int .i64 0, .int .i64 1] := by unfold daysV; rw [if_neg (by decide +kernel)]
/-- what Write answers at a number whose date is known -/
theorem write_at (n y m d : Int) (w : World) (hE : EnvS w) (h1 : -2208988800 ≤ n) (h2 : n < 253402300800) (hm : MayD y m d) (hd : daysZ y m d = n / 86400) :
    Calls Tryd.prog 13 #[.int .i64 n] w fun e w' => e = .returned (.tuple #[.string (str (textL (n / 86400) y m d (n % 86400))), .int .i64 0]) ∧ Below w.heap.size w w' := by
  refine (writeYes_any n w hE h1 h2).mono ?_
  rintro e w' ⟨y', m', d', hm', hd', rfl, hb⟩
  obtain ⟨rfl, rfl, rfl⟩ := days_one hm hm' (hd.trans hd'.symm)
  exact ⟨rfl, hb⟩
set_option maxHeartbeats 1000000 in
theorem live9_any (w : World) (hE : EnvS w) : Calls Tryd.prog 10 #[] w fun e w' => e = .returned (.bool true) ∧ Below w.heap.size w w' := by
  have HE := hide hE
  clear hE
  have H1 : Hid (parV (parseO (⟨#[70, 114, 105, 44, 32, 50, 32, 74, 97, 110, 32, 49, 57, 55, 48, 32, 48, 49, 58, 48, 48, 58, 48, 48, 32, 43, 48, 49, 48, 48, 32, 40, 120, 41]⟩ : ByteArray).data.toList) = .tuple #[.int .i64 86400, .int .i64 0]) := hide (by rw [show parseO _ = _ from live9a]; rfl)
  have H2 : Hid (parV (parseO (⟨#[49, 32, 109, 97, 114, 32, 48, 48, 32, 48, 48, 58, 48, 48, 32, 69, 83, 84]⟩ : ByteArray).data.toList) = .tuple #[.int .i64 951886800, .int .i64 0]) := hide (by rw [show parseO _ = _ from live9b]; rfl)
  have H3 : Hid (parV (parseO (⟨#[50, 57, 32, 70, 101, 98, 32, 50, 48, 48, 49, 32, 48, 48, 58, 48, 48]⟩ : ByteArray).data.toList) = .tuple #[.int .i64 0, .int .i64 2]) := hide (by rw [show parseO _ = _ from live9c]; rfl)
  have H4 : Hid (str (textL ((86400 : Int) / 86400) 1970 1 2 ((86400 : Int) % 86400)) = ⟨#[70, 114, 105, 44, 32, 48, 50, 32, 74, 97, 110, 32, 49, 57, 55, 48, 32, 48, 48, 58, 48, 48, 58, 48, 48, 32, 43, 48, 48, 48, 48]⟩) := hide (congrArg str live9d)
  have H5 := hide live9e
  have H6 := hide live9f
  go_enter Tryd.func10, Tryd.ntmps10
  go_wp2_with fail
  refine (parse_any _ _ HE.out (by decide)).mono ?_
  rintro e w1 ⟨rfl, hb1⟩
  rw [H1.out]
  go_wp2_with fail
  refine (parse_any _ _ (HE.out.kept hb1) (by decide)).mono ?_
  rintro e w2 ⟨rfl, hb2⟩
  rw [H2.out]
  have k2 := hb1.trans (hb2.mono hb1.size)
  go_wp2_with fail
  refine (parse_any _ _ (HE.out.kept k2) (by decide)).mono ?_
  rintro e w3 ⟨rfl, hb3⟩
  rw [H3.out]
  have k3 := k2.trans (hb3.mono k2.size)
  go_wp2_with fail
  refine (write_at 86400 1970 1 2 _ (HE.out.kept k3) (by decide) (by decide) (by decide +kernel) (by decide +kernel)).mono ?_
  rintro e w4 ⟨rfl, hb4⟩
  rw [H4.out]
  have k4 := k3.trans (hb4.mono k3.size)
  go_wp2_with fail
  refine (days_any 1969 12 31 _ (HE.out.kept k4)).mono ?_
  rintro e w5 ⟨rfl, hw5⟩
  subst hw5
  rw [H5.out]
  go_wp2_with fail
  refine (days_any 1899 12 31 _ (HE.out.kept k4)).mono ?_
  rintro e w6 ⟨rfl, hw6⟩
  subst hw6
  rw [H6.out]
  have K4 := hide k4
  clear hb1 hb2 hb3 hb4 k2 k3 k4
  go_wp2_with fail
  go_ret
  exact ⟨rfl, K4.out⟩
end Go.Proofs.YtiojfknphpnlhaaDoor
