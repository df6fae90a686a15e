/- WALKS of b64.number, the reference's place and bit. No statement is proved here. -/
import Derived.Test.YtcmmbceacjechaaGreatDoorBaseM
namespace Go.Proofs.YtcmmbceacjechaaGreatDoor
open Go.RowKit
set_option linter.unusedVariables false
set_option linter.unusedSimpArgs false

/-- what 'number' answers -/
def numV (n : Nat) : Value := .tuple #[.int .u64 (if n < 64 then n else 0 : Nat), .bool (decide (n < 64))]
theorem numV_yes {n : Nat} (h : n < 64) : numV n = .tuple #[.int .u64 n, .bool true] := by simp [numV, h]
theorem numV_no {n : Nat} (h : ¬ n < 64) : numV n = .tuple #[.int .u64 0, .bool false] := by simp [numV, h]
theorem ret_num {a : Int} {b : Bool} {n : Nat} (h : n < 64 ∧ a = n ∧ b = true ∨ ¬ n < 64 ∧ a = 0 ∧ b = false) : Ending.returned (.tuple #[.int .u64 a, .bool b]) = .returned (numV n) := by
  rcases h with ⟨h, rfl, rfl⟩ | ⟨h, rfl, rfl⟩
  · rw [numV_yes h]
  · rw [numV_no h]

set_option maxHeartbeats 2000000 in
theorem number64_any (c : UInt8) (w : World) :
    Calls Tryz.prog 243 #[.int .u8 c.toNat] w fun e w' => e = .returned (numV (val c)) ∧ w = w' := by
  have hc := byte_lt c
  have hv := val_ranges c
  generalize val c = v at hv
  have hcase : (65 ≤ c.toNat ∧ c.toNat ≤ 90) ∨ (97 ≤ c.toNat ∧ c.toNat ≤ 122) ∨ (48 ≤ c.toNat ∧ c.toNat ≤ 57) ∨ c.toNat = 43 ∨ c.toNat = 47 ∨
      (c.toNat < 43) ∨ (43 < c.toNat ∧ c.toNat < 47) ∨ (57 < c.toNat ∧ c.toNat < 65) ∨ (90 < c.toNat ∧ c.toNat < 97) ∨ 122 < c.toNat := by omega
  have HV := hide hv
  clear hv
  rcases hcase with ⟨h1, h2⟩ | ⟨h1, h2⟩ | ⟨h1, h2⟩ | h1 | h1 | h1 | ⟨h1, h2⟩ | ⟨h1, h2⟩ | ⟨h1, h2⟩ | h1
  · go_enter Tryz.func243, Tryz.ntmps243
    go_wp2
    go_ret2
    refine ⟨ret_num (.inl ?_), rfl⟩
    have hv := HV.out
    rw [if_pos ⟨h1, h2⟩] at hv
    exact ⟨by omega, by omega, rfl⟩
  · go_enter Tryz.func243, Tryz.ntmps243
    go_wp2
    go_ret2
    refine ⟨ret_num (.inl ?_), rfl⟩
    have hv := HV.out
    rw [if_neg (by omega), if_pos ⟨h1, h2⟩] at hv
    exact ⟨by omega, by omega, rfl⟩
  · go_enter Tryz.func243, Tryz.ntmps243
    go_wp2
    go_ret2
    refine ⟨ret_num (.inl ?_), rfl⟩
    have hv := HV.out
    rw [if_neg (by omega), if_neg (by omega), if_pos ⟨h1, h2⟩] at hv
    exact ⟨by omega, by omega, rfl⟩
  · have t1 : ((c.toNat : Int) == 43) = true := by rw [beq_iff_eq]; omega
    have H1 := hide h1
    have h2 : c.toNat < 48 := by omega
    clear h1
    go_enter Tryz.func243, Tryz.ntmps243
    go_wp2
    go_ret2
    refine ⟨ret_num (.inl ?_), rfl⟩
    have hv := HV.out
    have h1 := H1.out
    rw [if_neg (by omega), if_neg (by omega), if_neg (by omega), if_pos h1] at hv
    exact ⟨by omega, by omega, rfl⟩
  · have t1 : ((c.toNat : Int) == 43) = false := by rw [beq_eq_false_iff_ne]; omega
    have t2 : ((c.toNat : Int) == 47) = true := by rw [beq_iff_eq]; omega
    have H1 := hide h1
    have h2 : c.toNat < 48 := by omega
    clear h1
    go_enter Tryz.func243, Tryz.ntmps243
    go_wp2
    go_ret2
    refine ⟨ret_num (.inl ?_), rfl⟩
    have hv := HV.out
    have h1 := H1.out
    rw [if_neg (by omega), if_neg (by omega), if_neg (by omega), if_neg (by omega), if_pos h1] at hv
    exact ⟨by omega, by omega, rfl⟩
  all_goals
    have t1 : ((c.toNat : Int) == 43) = false := by rw [beq_eq_false_iff_ne]; omega
    have t2 : ((c.toNat : Int) == 47) = false := by rw [beq_eq_false_iff_ne]; omega
    go_enter Tryz.func243, Tryz.ntmps243
    go_wp2
    go_ret2
    refine ⟨ret_num (.inr ?_), rfl⟩
    have hv := HV.out
    rw [if_neg (by omega), if_neg (by omega), if_neg (by omega), if_neg (by omega), if_neg (by omega)] at hv
    exact ⟨by omega, by omega, rfl⟩

/-- what the reference's place answers -/
def placeI (c : UInt8) : Int := if val c < 64 then val c else -1
theorem idx64_eq {x : UInt8} {l r : List UInt8} (h : l = x :: r) : l.idxOf x = 0 := by
  subst h; simp
theorem idx64_ne {d x : UInt8} {l r : List UInt8} (h : l = x :: r) (e : x ≠ d) : l.idxOf d = r.idxOf d + 1 := by
  subst h
  rw [List.idxOf_cons]
  have : (x == d) = false := by simp [e]
  rw [this]; rfl

set_option maxHeartbeats 1000000 in
theorem place_any (c : UInt8) (w : World) :
    Calls Tryz.prog 223 #[.int .u8 c.toNat] w fun e w' => e = .returned (.int .i64 (placeI c)) ∧ w = w' := by
  have hc := byte_lt c
  obtain ⟨L, hL⟩ : ∃ L : ByteArray, L = ⟨#[65, 66, 67, 68, 69, 70, 71, 72, 73, 74, 75, 76, 77, 78, 79, 80, 81, 82, 83, 84, 85, 86, 87, 88, 89, 90, 97, 98, 99, 100, 101, 102, 103, 104, 105, 106, 107, 108, 109, 110, 111, 112, 113, 114, 115, 116, 117, 118, 119, 120, 121, 122, 48, 49, 50, 51, 52, 53, 54, 55, 56, 57, 43, 47]⟩ := ⟨_, rfl⟩
  have hz : L.size = 64 := by rw [hL]; rfl
  have hd : letters64 = L.data.toList := by rw [hL]; rfl
  have HL := hide hL
  have HD := hide hd
  clear hL hd
  go_enter Tryz.func223, Tryz.ntmps223
  go_wp2
  go_loop [3] (fun i => ∃ k : Nat, k ≤ 64 ∧ i = .int .i64 k ∧ val c = k + (letters64.drop k).idxOf c) (fun i => 64 - (intOf i).toNat)
  case atStart => exact ⟨0, by omega, rfl, by simp [val]⟩
  case round =>
    obtain ⟨k, hk, rfl, hi⟩ := hrel
    have HI := hide hi
    clear hi
    by_cases hlt : k < 64
    · have hkz : k < L.size := by omega
      have HX := hide (drop_cons L k hkz)
      obtain ⟨x, hx⟩ : ∃ x, x = L[k] := ⟨_, rfl⟩
      have HX2 := hide hx
      have hidx : ∀ h, (⟨#[65, 66, 67, 68, 69, 70, 71, 72, 73, 74, 75, 76, 77, 78, 79, 80, 81, 82, 83, 84, 85, 86, 87, 88, 89, 90, 97, 98, 99, 100, 101, 102, 103, 104, 105, 106, 107, 108, 109, 110, 111, 112, 113, 114, 115, 116, 117, 118, 119, 120, 121, 122, 48, 49, 50, 51, 52, 53, 54, 55, 56, 57, 43, 47]⟩ : ByteArray)[k]'h = x := by
        intro h
        have h1 := HL.out
        subst h1
        exact hx.symm
      rw [← HX2.out] at HX
      clear hx
      by_cases he : x = c
      · have t : ((x.toNat : Int) == c.toNat) = true := by rw [he]; simp
        have HE := hide he
        clear he
        go_wp2
        go_ret
        refine ⟨ret_int ?_, rfl⟩
        have h1 := HI.out
        rw [HD.out] at h1
        rw [idx64_eq (x := c) (by rw [HX.out, HE.out])] at h1
        unfold placeI
        rw [h1, if_pos (by omega)]
        rfl
      · have t : ((x.toNat : Int) == c.toNat) = false := by
          rw [beq_eq_false_iff_ne]; intro e; exact he (UInt8.toNat_inj.1 (by omega))
        have HE := hide he
        clear he
        go_wp2
        go_round
        case rel =>
          refine ⟨k + 1, by omega, by go_num, ?_⟩
          have h1 := HI.out
          rw [HD.out] at h1 ⊢
          rw [idx64_ne HX.out HE.out] at h1
          omega
        case measure => simp [intOf]; omega
    · go_wp2
      go_ret
      refine ⟨ret_int ?_, rfl⟩
      have h1 := HI.out
      unfold placeI
      rw [if_neg (by omega)]
end Go.Proofs.YtcmmbceacjechaaGreatDoor
