/- WALKS of ascii.Letter, ascii.Plain and ascii.AllPlain. No statement is proved here. Own work of the verifier. -/
import Derived.Test.YtlhjdjjbmljilaaDoorLetter
import Derived.Test.YtlhjdjjbmljilaaDoorShelf
namespace Go.Proofs.YtlhjdjjbmljilaaDoor
open Go.RowKit
set_option linter.unusedVariables false
set_option linter.unusedSimpArgs false
set_option maxRecDepth 100000

theorem asciiLetter_any (c : UInt8) (w : World) :
    Calls Tryd.prog 53 #[.int .u8 c.toNat] w fun e w' => e = .returned (.bool (letterB c)) ∧ w = w' := by
  have hc := byte_lt c
  rcases letter_case c with ⟨c1, c2, e⟩ | ⟨c1, c2, c3, e⟩ | ⟨c1, c2, e⟩ | ⟨c1, c2, c3, e⟩ | ⟨c1, c2, e⟩
  all_goals
    rw [e]; clear e
    go_enter Tryd.func53, Tryd.ntmps53
    go_wp2
    go_ret
    exact ⟨ret_bool (by first | rfl | (simp; omega)), rfl⟩
/-- a letter, a digit, or one of m -/
def markB (m : List UInt8) (c : UInt8) : Bool := letterB c || digitB c || decide (0 ≤ Lib.indexByte m c)
theorem asciiPlain_any (c : UInt8) (m : ByteArray) (w : World) :
    Calls Tryd.prog 54 #[.int .u8 c.toNat, .string m] w fun e w' => e = .returned (.bool (markB m.data.toList c)) ∧ w = w' := by
  have hc := byte_lt c
  have hu : (c.toNat : Int).toNat.toUInt8 = c := by rw [Int.toNat_natCast]; exact UInt8.ofNat_toNat
  have HU := hide hu
  clear hu
  cases hl : letterB c with
  | true =>
    have HB : Hid (markB m.data.toList c = true) := by unfold markB; rw [hl]; exact hide rfl
    have HL := hide hl
    clear hl
    go_enter Tryd.func54, Tryd.ntmps54
    go_wp2_with fail
    refine (asciiLetter_any c _).mono ?_
    rintro e w1 ⟨rfl, rfl⟩
    rw [HL.out]
    go_wp2_with fail
    go_ret
    exact ⟨ret_bool HB.out.symm, rfl⟩
  | false =>
    have HL := hide hl
    rcases digit_case c with ⟨c1, c2, e⟩ | ⟨c1, e⟩ | ⟨c1, c2, e⟩
    · have HB : Hid (markB m.data.toList c = true) := by unfold markB; rw [hl, e]; exact hide rfl
      clear hl e
      go_enter Tryd.func54, Tryd.ntmps54
      go_wp2_with fail
      refine (asciiLetter_any c _).mono ?_
      rintro e w1 ⟨rfl, rfl⟩
      rw [HL.out]
      go_wp2_with fail
      go_ret
      exact ⟨ret_bool HB.out.symm, rfl⟩
    all_goals
      have HB : Hid (markB m.data.toList c = decide (0 ≤ Lib.indexByte m.data.toList c)) := by unfold markB; rw [hl, e]; exact hide rfl
      clear hl e
      go_enter Tryd.func54, Tryd.ntmps54
      go_wp2_with fail
      refine (asciiLetter_any c _).mono ?_
      rintro e w1 ⟨rfl, rfl⟩
      rw [HL.out]
      go_wp2_with fail
      refine (Tryd.strings_IndexByte _ _ _).mono ?_
      rintro e w1 ⟨rfl, rfl⟩
      rw [HU.out]
      go_wp2_with fail
      go_ret
      exact ⟨ret_bool (by first | (rw [HB.out]; done) | (rw [HB.out, show decide ((c.toNat : Int) ≤ 57) = false from decide_eq_false (by omega)]; rfl)), rfl⟩
end Go.Proofs.YtlhjdjjbmljilaaDoor
