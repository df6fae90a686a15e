/- WALK of plain.Level. No statement is proved here. Own work of the verifier. -/
import Derived.Test.YtdeaofnhdbhknaaPnV
import Derived.Test.YtdeaofnhdbhknaaBaseM
import Derived.Test.YtdeaofnhdbhknaaShelf
namespace Go.Proofs.Ytdeaofnhdbhknaa
open Go.RowKit
set_option linter.unusedVariables false
set_option linter.unusedSimpArgs false
set_option maxRecDepth 100000
theorem hasPrefix_sign (l : List UInt8) : Lib.hasPrefix l [62] = true ↔ l.head? = some 62 := by
  unfold Lib.hasPrefix
  cases l with
  | nil => simp
  | cons c r => simp [List.isPrefixOf]; exact eq_comm
theorem trimPrefix_blank (l : List UInt8) : Lib.trimPrefix l [32] = dropB l := by
  unfold Lib.trimPrefix Lib.hasPrefix
  cases l with
  | nil => simp [dropB]
  | cons c r =>
    by_cases h : c = 32
    · subst h; simp [dropB]
    · have : ([32] : List UInt8).isPrefixOf (c :: r) = false := by simp [List.isPrefixOf]; exact fun e => h e.symm
      rw [this, if_neg (by decide)]; simp [dropB, h]
def levelV (p : Nat × List UInt8) : Value := .tuple #[.int .i64 (p.1 : Int), .string (str p.2)]
set_option maxHeartbeats 1000000 in
theorem level_any (s : ByteArray) (w : World) (hs : s.size ≤ 70368744177664) :
    Calls Try.prog 10 #[.string s] w fun e w' => e = .returned (levelV (levelL s.data.toList)) ∧ w' = w := by
  go_enter Try.func10, Try.ntmps10
  go_wp2
  go_loopw [0, 4] (fun p n wr => ∃ (k : Nat) (r : ByteArray), k ≤ 20 ∧ p = .string r ∧ n = .int .i64 k ∧ r.size ≤ s.size ∧ Hid (levelL s.data.toList = (k + (lvP (20 - k) r.data.toList).1, (lvP (20 - k) r.data.toList).2)) ∧ Hid (wr = w)) (fun p n _ => 20 - (intOf n).toNat)
  case atStart => exact ⟨0, s, by omega, rfl, rfl, Nat.le_refl _, hide (by unfold levelL; simp), hide rfl⟩
  case round =>
    obtain ⟨k, r, hk, rfl, rfl, hr, HD, HW⟩ := hrel
    by_cases hlt : k < 20
    · have t1 : decide ((k : Int) < 20) = true := decide_eq_true (by omega)
      by_cases hp : r.data.toList.head? = some 62
      · have HP : Hid (Calls Try.prog 19 #[.string r, .string ⟨#[62]⟩] wr fun e w' => e = .returned (.bool true) ∧ w' = wr) := hide (by
          have := Try.strings_HasPrefix r ⟨#[62]⟩ wr
          rw [show Lib.hasPrefix r.data.toList (⟨#[62]⟩ : ByteArray).data.toList = true from (hasPrefix_sign _).2 hp] at this
          exact this)
        obtain ⟨q, hq⟩ : ∃ q, r.data.toList = 62 :: q := by
          cases h : r.data.toList with
          | nil => rw [h] at hp; cases hp
          | cons c q => rw [h] at hp; exact ⟨q, by rw [Option.some.inj hp]⟩
        have hpos : 1 ≤ r.size := by have := toList_length r; rw [hq] at this; simp at this; omega
        obtain ⟨R, hR⟩ : ∃ R, R = r.extract 1 r.size := ⟨_, rfl⟩
        have hRL : R.data.toList = q := by rw [hR, extract_end, hq]; rfl
        have HT : Hid (Calls Try.prog 20 #[.string R, .string ⟨#[32]⟩] wr fun e w' => e = .returned (.string (str (dropB q))) ∧ w' = wr) := hide (by
          have := Try.strings_TrimPrefix R ⟨#[32]⟩ wr
          rw [show Lib.trimPrefix R.data.toList (⟨#[32]⟩ : ByteArray).data.toList = dropB q from by rw [hRL]; exact trimPrefix_blank q] at this
          exact this)
        have HN : Hid (levelL s.data.toList = (k + 1 + (lvP (20 - (k + 1)) (dropB q)).1, (lvP (20 - (k + 1)) (dropB q)).2)) := hide (by
          rw [HD.out, hq, show 20 - k = 20 - (k + 1) + 1 by omega, lvP_sign]
          simp only
          rw [Nat.add_assoc, Nat.add_comm 1])
        have HSZ : Hid ((str (dropB q)).size ≤ s.size) := hide (by
          have h1 := dropB_le q
          have h2 := toList_length r
          rw [hq, List.length_cons] at h2
          rw [str_size]; omega)
        obtain ⟨X, hX⟩ : ∃ X, X = str (dropB q) := ⟨_, rfl⟩
        have HXL : Hid (X.data.toList = dropB q) := hide (by rw [hX, str_toList])
        rw [← hX] at HT HSZ
        have HR := hide hR
        clear hX hRL hq hR hp
        go_wp2_with fail
        refine HP.out.mono ?_
        rintro e w1 ⟨rfl, rfl⟩
        go_wp2_with fail
        rw [← HR.out]
        refine HT.out.mono ?_
        rintro e w2 ⟨rfl, rfl⟩
        go_wp2_with fail
        go_roundw
        case rel => exact ⟨k + 1, X, by omega, rfl, by go_num, HSZ.out, hide (by rw [HXL.out]; exact HN.out), HW⟩
        case measure => simp [intOf]; omega
      · have HP : Hid (Calls Try.prog 19 #[.string r, .string ⟨#[62]⟩] wr fun e w' => e = .returned (.bool false) ∧ w' = wr) := hide (by
          have := Try.strings_HasPrefix r ⟨#[62]⟩ wr
          rw [show Lib.hasPrefix r.data.toList (⟨#[62]⟩ : ByteArray).data.toList = false from by
            cases h : Lib.hasPrefix r.data.toList (⟨#[62]⟩ : ByteArray).data.toList with
            | false => rfl
            | true => exact absurd ((hasPrefix_sign _).1 h) hp] at this
          exact this)
        have HE : Hid (levelL s.data.toList = (k, r.data.toList)) := hide (by rw [HD.out, lvP_none _ _ hp]; simp)
        clear hp
        go_wp2_with fail
        refine HP.out.mono ?_
        rintro e w1 ⟨rfl, rfl⟩
        go_wp2_with fail
        go_ret2
        exact ⟨by rw [HE.out]; unfold levelV; rw [str_of]; rfl, HW.out⟩
    · obtain rfl : k = 20 := by omega
      have t1 : decide (((20 : Nat) : Int) < 20) = false := decide_eq_false (by omega)
      have HE : Hid (levelL s.data.toList = (20, r.data.toList)) := hide (by rw [HD.out, Nat.sub_self, lvP_zero]; rfl)
      go_wp2_with fail
      go_ret2
      exact ⟨by rw [HE.out]; unfold levelV; rw [str_of]; rfl, HW.out⟩
end Go.Proofs.Ytdeaofnhdbhknaa
