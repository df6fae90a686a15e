/- WALKS of quote.Read, ascii.Control. No statement is proved here. -/
import Derived.Test.YtcmmbceacjechaaGreatDoorBaseN
import Derived.Test.YtcmmbceacjechaaGreatDoorShelf
namespace Go.Proofs.YtcmmbceacjechaaGreatDoor
open Go.RowKit
set_option linter.unusedVariables false
set_option linter.unusedSimpArgs false
set_option maxRecDepth 100000

def ctlL (l : List UInt8) : Bool := l.any ctlB
theorem ctl_step (s : ByteArray) (k : Nat) (h : k < s.size) : ctlL (s.data.toList.drop k) = (ctlB s[k] || ctlL (s.data.toList.drop (k + 1))) := by rw [drop_cons s k h]; rfl
set_option maxHeartbeats 1000000 in
theorem control_any (s : ByteArray) (w : World) (hs : s.size ≤ 70368744177664) :
    Calls Tryz.prog 62 #[.string s] w fun e w' => e = .returned (.bool (ctlL s.data.toList)) ∧ w = w' := by
  have hsm : s.size < 9223372036854775807 := by omega
  go_enter Tryz.func62, Tryz.ntmps62
  go_wp2
  go_loop [6] (fun i => ∃ k : Nat, k ≤ s.size ∧ i = .int .i64 k ∧ Hid (ctlL (s.data.toList.drop k) = ctlL s.data.toList)) (fun i => s.size - (intOf i).toNat)
  case atStart => exact ⟨0, Nat.zero_le _, rfl, hide rfl⟩
  case round =>
    obtain ⟨k, hk, rfl, HG⟩ := hrel
    by_cases hlt : k < s.size
    · have hst := ctl_step s k hlt
      rw [HG.out] at hst
      by_cases h1 : s[k].toNat < 32
      · have t1 : decide ((s[k].toNat : Int) < 32) = true := decide_eq_true (by omega)
        have HR : Hid (ctlL s.data.toList = true) := hide (by rw [hst]; unfold ctlB; rw [decide_eq_true h1]; rfl)
        clear hst h1
        go_wp2_with fail
        go_ret
        exact ⟨ret_bool HR.out.symm, rfl⟩
      · have t1 : decide ((s[k].toNat : Int) < 32) = false := decide_eq_false (by omega)
        by_cases h2 : s[k] = 127
        · have t2 : ((s[k].toNat : Int) == 127) = true := tT 127 h2 (by omega)
          have HR : Hid (ctlL s.data.toList = true) := hide (by rw [hst]; unfold ctlB; rw [h2]; rfl)
          clear hst h1 h2
          go_wp2_with fail
          go_ret
          exact ⟨ret_bool HR.out.symm, rfl⟩
        · have t2 : ((s[k].toNat : Int) == 127) = false := tF 127 h2 (by omega)
          have HN : Hid (ctlL (s.data.toList.drop (k + 1)) = ctlL s.data.toList) := hide (by
            rw [hst]; unfold ctlB; rw [decide_eq_false h1, beq_eq_false_iff_ne.2 h2]; rfl)
          clear hst h1 h2
          go_wp2_with fail
          go_round
          case rel => exact ⟨k + 1, by omega, by go_num, HN⟩
          case measure => simp [intOf]; omega
    · have HR : Hid (ctlL s.data.toList = false) := hide (by rw [← HG.out, List.drop_eq_nil_of_le (by rw [toList_length]; omega)]; rfl)
      go_wp2_with fail
      go_ret
      exact ⟨ret_bool HR.out.symm, rfl⟩
/-- what Read answers -/
def readV (o : List UInt8 × Nat) : Value := .tuple #[.string (str o.1), .int .i64 o.2]
set_option maxHeartbeats 1000000 in
theorem readQ_any (s : ByteArray) (w : World) (hs : s.size ≤ 70368744177664) :
    Calls Tryz.prog 92 #[.string s] w fun e w' => e = .returned (readV (readQ s.data.toList)) ∧ Below w.heap.size w w' := by
  cases hp : Lib.hasPrefix s.data.toList [34] with
  | false =>
    have HR : Hid (readQ s.data.toList = ([], 0)) := hide (by
      cases hl : s.data.toList with
      | nil => rfl
      | cons c r =>
        rw [hl] at hp
        have : (c == 34) = false := by
          rw [beq_eq_false_iff_ne]
          intro e
          rw [e] at hp
          exact absurd hp (by unfold Lib.hasPrefix; simp)
        unfold readQ; simp only []; rw [this]; rfl)
    have HP := hide hp
    clear hp
    go_enter Tryz.func92, Tryz.ntmps92
    go_wp2_with fail
    refine (Tryz.strings_HasPrefix s ⟨#[34]⟩ _).mono ?_
    rintro e w1 ⟨rfl, hw1⟩
    obtain rfl : w = w1 := hw1.symm
    rw [show (⟨#[34]⟩ : ByteArray).data.toList = [34] from rfl, HP.out]
    go_wp2_with fail
    go_ret2
    exact ⟨by rw [HR.out]; rfl, Below.refl _ _⟩
  | true =>
    obtain ⟨r, hr⟩ : ∃ r, s.data.toList = 34 :: r := by
      cases hl : s.data.toList with
      | nil => rw [hl] at hp; cases hp
      | cons c r =>
        rw [hl] at hp
        by_cases e : c = 34
        · exact ⟨r, by rw [e]⟩
        · exact absurd hp (by unfold Lib.hasPrefix; simp [Ne.symm e])
    have h1s : 1 ≤ s.size := by rw [← toList_length, hr]; exact Nat.succ_pos _
    have HR : Hid (readQ s.data.toList = ((qrd false r).1, (qrd false r).2 + 1)) := hide (by rw [hr]; rfl)
    have HT : Hid (s.data.toList.drop 1 = r) := hide (by rw [hr]; rfl)
    have HP := hide hp
    clear hp hr
    go_enter Tryz.func92, Tryz.ntmps92
    go_wp2_with fail
    refine (Tryz.strings_HasPrefix s ⟨#[34]⟩ _).mono ?_
    rintro e w1 ⟨rfl, hw1⟩
    obtain rfl : w = w1 := hw1.symm
    rw [show (⟨#[34]⟩ : ByteArray).data.toList = [34] from rfl, HP.out]
    go_wp2_with fail
    go_loopw [4, 5, 6] (fun o p i wr => ∃ (k : Nat) (pb : Bool) (acc : List UInt8), 1 ≤ k ∧ k ≤ s.size ∧ i = .int .i64 k ∧ p = .bool pb ∧ acc.length ≤ k ∧ Hid (Buf w.heap.size o acc w wr) ∧ Hid ((acc ++ (qrd pb (s.data.toList.drop k)).1, k + (qrd pb (s.data.toList.drop k)).2) = readQ s.data.toList)) (fun _ _ i _ => s.size - (intOf i).toNat)
    case atStart => exact ⟨1, false, [], Nat.le_refl _, by omega, rfl, rfl, Nat.zero_le _, hide (Buf.nil (Below.refl _ _) (Nat.le_refl _)), hide (by rw [HT.out, HR.out, Nat.add_comm]; rfl)⟩
    case round =>
      obtain ⟨k, pb, acc, hk1, hk, rfl, rfl, hal, HB, HG⟩ := hrel
      by_cases hlt : k < s.size
      · have hd := drop_cons s k hlt
        cases pb with
        | true =>
          have HN : Hid (((acc ++ [s[k]]) ++ (qrd false (s.data.toList.drop (k + 1))).1, (k + 1) + (qrd false (s.data.toList.drop (k + 1))).2) = readQ s.data.toList) := hide (by
            rw [← HG.out, hd]
            have e : qrd true (s[k] :: s.data.toList.drop (k + 1)) = (s[k] :: (qrd false (s.data.toList.drop (k + 1))).1, (qrd false (s.data.toList.drop (k + 1))).2 + 1) := rfl
            rw [e]
            exact Prod.ext (by simp) (by show k + 1 + _ = k + (_ + 1); omega))
          have HAL : Hid (acc.length + 1 ≤ 140737488355328) := hide (by omega)
          obtain ⟨c, hc⟩ : ∃ c, c = s[k] := ⟨_, rfl⟩
          clear hd
          go_wp2_with (refine wpList_buf_byte rfl _ _ rfl w.heap.size u4 acc rfl w wr (s[k]) HB.out rfl HAL.out ?_; intro v4 w4 hb4; have HB4 := hide hb4; clear hb4)
          go_round
          case rel => exact ⟨k + 1, false, acc ++ [s[k]], by omega, by omega, by go_num, rfl, by simp; omega, HB4, HN⟩
          case measure => simp [intOf]; omega
        | false =>
          by_cases h1 : s[k] = 34
          · have t1 : ((s[k].toNat : Int) == (((⟨#[34]⟩ : ByteArray)[0]'(by decide)).toNat : Int)) = true := tT 34 h1 (by omega)
            have HE : Hid ((acc, k + 1) = readQ s.data.toList) := hide (by
              rw [← HG.out, hd, h1]
              have e : qrd false (34 :: s.data.toList.drop (k + 1)) = ([], 1) := rfl
              rw [e]; simp)
            have hcv := HB.out.convert
            clear hd h1
            go_wp2_with fail
            go_ret2
            exact ⟨by rw [← HE.out]; rfl, HB.out.below⟩
          · have t1 : ((s[k].toNat : Int) == (((⟨#[34]⟩ : ByteArray)[0]'(by decide)).toNat : Int)) = false := tF 34 h1 (by omega)
            by_cases h2 : s[k] = 92
            · have t2 : ((s[k].toNat : Int) == (((⟨#[92]⟩ : ByteArray)[0]'(by decide)).toNat : Int)) = true := tT 92 h2 (by omega)
              have HN : Hid ((acc ++ (qrd true (s.data.toList.drop (k + 1))).1, (k + 1) + (qrd true (s.data.toList.drop (k + 1))).2) = readQ s.data.toList) := hide (by
                rw [← HG.out, hd, h2]
                have e : qrd false (92 :: s.data.toList.drop (k + 1)) = ((qrd true (s.data.toList.drop (k + 1))).1, (qrd true (s.data.toList.drop (k + 1))).2 + 1) := rfl
                rw [e]
                exact Prod.ext rfl (by show k + 1 + _ = k + (_ + 1); omega))
              clear hd h1 h2
              go_wp2_with fail
              go_round
              case rel => exact ⟨k + 1, true, acc, by omega, by omega, by go_num, rfl, by omega, HB, HN⟩
              case measure => simp [intOf]; omega
            · have t2 : ((s[k].toNat : Int) == (((⟨#[92]⟩ : ByteArray)[0]'(by decide)).toNat : Int)) = false := tF 92 h2 (by omega)
              have HN : Hid (((acc ++ [s[k]]) ++ (qrd false (s.data.toList.drop (k + 1))).1, (k + 1) + (qrd false (s.data.toList.drop (k + 1))).2) = readQ s.data.toList) := hide (by
                rw [← HG.out, hd]
                have e : qrd false (s[k] :: s.data.toList.drop (k + 1)) = (s[k] :: (qrd false (s.data.toList.drop (k + 1))).1, (qrd false (s.data.toList.drop (k + 1))).2 + 1) := by
                  rw [qrd]
                  rw [beq_eq_false_iff_ne.2 h1, beq_eq_false_iff_ne.2 h2]; rfl
                rw [e]
                exact Prod.ext (by simp) (by show k + 1 + _ = k + (_ + 1); omega))
              have HAL : Hid (acc.length + 1 ≤ 140737488355328) := hide (by omega)
              clear hd h1 h2
              go_wp2_with (refine wpList_buf_byte rfl _ _ rfl w.heap.size u4 acc rfl w wr (s[k]) HB.out rfl HAL.out ?_; intro v4 w4 hb4; have HB4 := hide hb4; clear hb4)
              go_round
              case rel => exact ⟨k + 1, false, acc ++ [s[k]], by omega, by omega, by go_num, rfl, by simp; omega, HB4, HN⟩
              case measure => simp [intOf]; omega
      · have hk2 : k = s.size := by omega
        have HE : Hid ((acc, s.size) = readQ s.data.toList) := hide (by
          rw [← HG.out, List.drop_eq_nil_of_le (by rw [toList_length]; omega)]
          cases pb <;> (simp [qrd]; try omega))
        have hcv := HB.out.convert
        go_wp2_with fail
        go_ret2
        exact ⟨by rw [← HE.out]; rfl, HB.out.below⟩
end Go.Proofs.YtcmmbceacjechaaGreatDoor
