/- WALKS of ParseUint at bases 10 and 16. No statement is proved here. -/
import Derived.Test.YtnnlhcjcdpdfcaaGreatDoorBaseM
import Derived.Test.YtnnlhcjcdpdfcaaGreatDoorWordC
namespace Go.Proofs.YtnnlhcjcdpdfcaaGreatDoor
open Go.RowKit
set_option linter.unusedVariables false
set_option linter.unusedSimpArgs false
set_option maxRecDepth 100000
/-- a letter's or a digit's number -/
def dgV (c : UInt8) : Nat := if 48 ≤ c.toNat ∧ c.toNat ≤ 57 then c.toNat - 48 else if 97 ≤ (c ||| 32).toNat ∧ (c ||| 32).toNat ≤ 122 then (c ||| 32).toNat - 87 else 255
def digB (b : Nat) (c : UInt8) : Option Nat := if dgV c < b then some (dgV c) else none
/-- the number that digits tell, n behind -/
def parseB (b : Nat) : Nat → List UInt8 → Option Nat
  | n, [] => some n
  | n, c :: r => match digB b c with
    | none => none
    | some d => parseB b (n * b + d) r
def uTup : Option Nat → Value
  | some n => .tuple #[.int .u64 n, .nilIface]
  | none => .tuple #[.int .u64 0, .iface 164 (.int .i64 2)]
theorem par_step {b n d k : Nat} (h : n + 1 ≤ b ^ k) (hd : d < b) : n * b + d + 1 ≤ b ^ (k + 1) := by
  have h1 : (n + 1) * b ≤ b ^ k * b := Nat.mul_le_mul_right b h
  rw [Nat.pow_succ]
  rw [Nat.succ_mul] at h1
  omega
theorem or32 (c : UInt8) : bits .or .u8 (c.toNat : Int) 32 = ((c ||| 32).toNat : Int) := u8_all (p := fun c => bits .or .u8 (c.toNat : Int) 32 = ((c ||| 32).toNat : Int)) (by decide +kernel) c

set_option maxHeartbeats 4000000 in
theorem iparse10_any (s : ByteArray) (w : World) (hs : s.size ≤ 8) (h0 : s.size ≠ 0) :
    Calls Tryz.prog 157 #[.string s, .int .i64 10, .int .i64 32] w fun e w' => e = .returned (uTup (parseB 10 0 s.data.toList)) ∧ Below w.heap.size w w' := by
  have hemp : s.toList.isEmpty = false := (sizeP h0).2
  go_enter Tryz.func157, Tryz.ntmps157
  go_wp2_with (refine wpList_bytes rfl _ rfl s rfl ?_; intro cap w0 ha0; have HA0 := hide ha0; clear ha0)
  go_loopw [12, 13, 101] (fun un nv i wr => ∃ k n : Nat, un = .bool false ∧ k ≤ s.size ∧ i = .int .i64 k ∧ nv = .int .u64 n ∧ Hid (n + 1 ≤ 10 ^ k) ∧ Hid (parseB 10 n (s.data.toList.drop k) = parseB 10 0 s.data.toList) ∧ Hid (wr = w0)) (fun _ _ i _ => s.size - (intOf i).toNat)
  case atStart => exact ⟨0, 0, rfl, Nat.zero_le _, rfl, rfl, hide (Nat.le_refl _), hide rfl, hide rfl⟩
  case round =>
    obtain ⟨k, n, rfl, hk, rfl, rfl, HP, HG, HW⟩ := hrel
    obtain rfl := HW.out
    by_cases hlt : k < s.size
    · have hst := HG.out
      rw [drop_cons s k hlt, parseB] at hst
      have c1 : wr.cell? ⟨w.heap.size, k, none⟩ = some (.int .u8 s[k].toNat) := HA0.out.cell k (by rw [toList_length]; exact hlt)
      by_cases g1 : 48 ≤ s[k].toNat ∧ s[k].toNat ≤ 57
      · obtain ⟨d, hd⟩ : ∃ d, s[k].toNat = 48 + d := ⟨s[k].toNat - 48, by omega⟩
        have t1 : decide ((48 : Int) ≤ s[k].toNat) = true := decide_eq_true (by omega)
        have t2 : decide ((s[k].toNat : Int) ≤ 57) = true := decide_eq_true (by omega)
        have t3 : ((s[k].toNat : Int) == 95) = false := beq_eq_false_iff_ne.2 (by omega)
        have wd : IntKind.u8.wrap ((s[k].toNat : Int) - 48) = (d : Int) := by rw [hd]; rw [show ((48 + d : Nat) : Int) - 48 = d by omega]; exact IntWalk.u8_in _ (by omega)
        have hdl : d < 10 := by omega
        have hdb : digB 10 s[k] = some d := by unfold digB dgV; rw [if_pos g1]; rw [if_pos (by omega)]; exact congrArg some (by omega)
        rw [hdb] at hst
        have HN : Hid (parseB 10 (n * 10 + d) (s.data.toList.drop (k + 1)) = parseB 10 0 s.data.toList) := hide hst
        have HB1 : Hid (n * 10 + d + 1 ≤ 10 ^ (k + 1)) := hide (par_step HP.out hdl)
        have hb2 : n * 10 + d + 1 ≤ 4294967296 := Nat.le_trans HB1.out (Nat.le_trans (Nat.pow_le_pow_right (by decide) (by omega : k + 1 ≤ 8)) (by decide))
        have x0 : IntKind.u64.wrap (d : Int) = (d : Int) := IntWalk.u64_in _ (by omega)
        have x1 : IntKind.u64.wrap ((n : Int) * 10) = (n : Int) * 10 := IntWalk.u64_in _ (by omega)
        have x2 : IntKind.u64.wrap ((n : Int) * 10 + (d : Int)) = (n : Int) * 10 + d := IntWalk.u64_in _ (by omega)
        have x3 : decide ((n : Int) * 10 + (d : Int) < (n : Int) * 10) = false := decide_eq_false (by omega)
        have x4 : decide ((4294967295 : Int) < (n : Int) * 10 + (d : Int)) = false := decide_eq_false (by omega)
        have x5 : decide ((10 : Int) ≤ (d : Int)) = false := decide_eq_false (by omega)
        have x6 : decide ((1844674407370955162 : Int) ≤ (n : Int)) = false := decide_eq_false (by omega)
        clear hst hdb hdl hb2
        clear hd g1
        go_wp2_with fail
        go_roundw
        case rel => exact ⟨k + 1, n * 10 + d, rfl, by omega, by go_num, by first | rfl | simp, HB1, HN, by first | exact trivial | exact hide rfl⟩
        case measure => simp [intOf]; omega
      · have t1 : (decide ((48 : Int) ≤ s[k].toNat) && decide ((s[k].toNat : Int) ≤ 57)) = false := by
          cases q1 : decide ((48 : Int) ≤ s[k].toNat) with
          | false => rfl
          | true =>
            have := of_decide_eq_true q1
            rw [Bool.true_and]; exact decide_eq_false (by omega)
        obtain ⟨L, hL⟩ : ∃ L, (s[k] ||| 32).toNat = L := ⟨_, rfl⟩
        have ho : bits .or .u8 (s[k].toNat : Int) 32 = (L : Int) := by rw [or32, hL]
        have HC := hide (fun w1 => Tryz.internal_strconv_lower (s[k].toNat : Int) w1)
        rw [ho] at HC
        have t3 : (decide ((s[k].toNat : Int) = 95)) = decide (s[k].toNat = 95) := by congr 1; exact propext (by omega)
        have hdv : dgV s[k] = if 97 ≤ L ∧ L ≤ 122 then L - 87 else 255 := by unfold dgV; rw [if_neg g1, hL]
        have hLl : L < 256 := by rw [← hL]; exact byte_lt _
        by_cases q1 : (48 : Int) ≤ s[k].toNat
        · have q1' : decide ((48 : Int) ≤ s[k].toNat) = true := decide_eq_true q1
          have q2' : decide ((s[k].toNat : Int) ≤ 57) = false := decide_eq_false (by omega)
          clear t1 t3
          by_cases u : s[k].toNat = 95
          · have u' : ((s[k].toNat : Int) == 95) = true := by rw [beq_iff_eq]; omega
            have hL95 : L = 127 := by rw [← hL, show s[k] = 95 from UInt8.toNat_inj.1 u]; rfl
            have hv : dgV s[k] = 255 := by rw [hdv, if_neg (by omega)]
            have hbad : digB 10 s[k] = none := by unfold digB; rw [hv]; rfl
            rw [hbad] at hst
            have HR : Hid (parseB 10 0 s.data.toList = none) := hide hst.symm
            have l1 : decide ((97 : Int) ≤ L) = true := decide_eq_true (by omega)
            have l2 : decide ((L : Int) ≤ 122) = false := decide_eq_false (by omega)
            clear hst hbad hv hdv hL ho u g1 q1
            go_wp2_with (go_at_call 182; refine (HC.out _).mono ?_; rintro e w1 ⟨rfl, hw1⟩; obtain rfl := hw1.symm)
            go_ret2
            exact ⟨by rw [HR.out]; rfl, HA0.out.below⟩
          have u' : ((s[k].toNat : Int) == 95) = false := beq_eq_false_iff_ne.2 (by omega)
          by_cases l1 : 97 ≤ L
          · have l1' : decide ((97 : Int) ≤ L) = true := decide_eq_true (by omega)
            by_cases l2 : L ≤ 122
            · have l2' : decide ((L : Int) ≤ 122) = true := decide_eq_true (by omega)
              rw [if_pos ⟨l1, l2⟩] at hdv
              obtain ⟨d, hd⟩ : ∃ d, L = 87 + d := ⟨L - 87, by omega⟩
              have y1 : IntKind.u8.wrap ((L : Int) - 97) = ((d - 10 : Nat) : Int) := by rw [show (L : Int) - 97 = ((d - 10 : Nat) : Int) by omega]; exact IntWalk.u8_in _ (by omega)
              have y2 : IntKind.u8.wrap (((d - 10 : Nat) : Int) + 10) = (d : Int) := by rw [show ((d - 10 : Nat) : Int) + 10 = (d : Int) by omega]; exact IntWalk.u8_in _ (by omega)
              by_cases hdl : d < 10
              · clear q1
                have hdb : digB 10 s[k] = some d := by unfold digB; rw [hdv, if_pos (by omega)]; exact congrArg some (by omega)
                rw [hdb] at hst
                have HN : Hid (parseB 10 (n * 10 + d) (s.data.toList.drop (k + 1)) = parseB 10 0 s.data.toList) := hide hst
                have HB1 : Hid (n * 10 + d + 1 ≤ 10 ^ (k + 1)) := hide (par_step HP.out hdl)
                have hb2 : n * 10 + d + 1 ≤ 4294967296 := Nat.le_trans HB1.out (Nat.le_trans (Nat.pow_le_pow_right (by decide) (by omega : k + 1 ≤ 8)) (by decide))
                have x0 : IntKind.u64.wrap (d : Int) = (d : Int) := IntWalk.u64_in _ (by omega)
                have x1 : IntKind.u64.wrap ((n : Int) * 10) = (n : Int) * 10 := IntWalk.u64_in _ (by omega)
                have x2 : IntKind.u64.wrap ((n : Int) * 10 + (d : Int)) = (n : Int) * 10 + d := IntWalk.u64_in _ (by omega)
                have x3 : decide ((n : Int) * 10 + (d : Int) < (n : Int) * 10) = false := decide_eq_false (by omega)
                have x4 : decide ((4294967295 : Int) < (n : Int) * 10 + (d : Int)) = false := decide_eq_false (by omega)
                have x5 : decide ((10 : Int) ≤ (d : Int)) = false := decide_eq_false (by omega)
                have x6 : decide ((1844674407370955162 : Int) ≤ (n : Int)) = false := decide_eq_false (by omega)
                clear hst hdb hdl hb2
                clear hdv hL ho u g1 hd
                go_wp2_with (go_at_call 182; refine (HC.out _).mono ?_; rintro e w1 ⟨rfl, hw1⟩; obtain rfl := hw1.symm)
                go_roundw
                case rel => exact ⟨k + 1, n * 10 + d, rfl, by omega, by go_num, by first | rfl | simp, HB1, HN, by first | exact trivial | exact hide rfl⟩
                case measure => simp [intOf]; omega
              · have hbad : digB 10 s[k] = none := by unfold digB; rw [hdv, if_neg (by omega)]
                rw [hbad] at hst
                have HR : Hid (parseB 10 0 s.data.toList = none) := hide hst.symm
                have x5 : decide ((10 : Int) ≤ (d : Int)) = true := decide_eq_true (by omega)
                clear hst hbad hdv hL ho u g1 q1 hdl hd
                go_wp2_with (go_at_call 182; refine (HC.out _).mono ?_; rintro e w1 ⟨rfl, hw1⟩; obtain rfl := hw1.symm)
                go_ret2
                exact ⟨by rw [HR.out]; rfl, HA0.out.below⟩
            · have l2' : decide ((L : Int) ≤ 122) = false := decide_eq_false (by omega)
              have hv : dgV s[k] = 255 := by rw [hdv, if_neg (by omega)]
              have hbad : digB 10 s[k] = none := by unfold digB; rw [hv]; rfl
              rw [hbad] at hst
              have HR : Hid (parseB 10 0 s.data.toList = none) := hide hst.symm
              clear hst hbad hv hdv hL ho u g1 q1
              go_wp2_with (go_at_call 182; refine (HC.out _).mono ?_; rintro e w1 ⟨rfl, hw1⟩; obtain rfl := hw1.symm)
              go_ret2
              exact ⟨by rw [HR.out]; rfl, HA0.out.below⟩
          · have l1' : decide ((97 : Int) ≤ L) = false := decide_eq_false (by omega)
            have hv : dgV s[k] = 255 := by rw [hdv, if_neg (by omega)]
            have hbad : digB 10 s[k] = none := by unfold digB; rw [hv]; rfl
            rw [hbad] at hst
            have HR : Hid (parseB 10 0 s.data.toList = none) := hide hst.symm
            clear hst hbad hv hdv hL ho u g1 q1
            go_wp2_with (go_at_call 182; refine (HC.out _).mono ?_; rintro e w1 ⟨rfl, hw1⟩; obtain rfl := hw1.symm)
            go_ret2
            exact ⟨by rw [HR.out]; rfl, HA0.out.below⟩
        · have q1' : decide ((48 : Int) ≤ s[k].toNat) = false := decide_eq_false q1
          clear t1 t3
          by_cases u : s[k].toNat = 95
          · have u' : ((s[k].toNat : Int) == 95) = true := by rw [beq_iff_eq]; omega
            have hL95 : L = 127 := by rw [← hL, show s[k] = 95 from UInt8.toNat_inj.1 u]; rfl
            have hv : dgV s[k] = 255 := by rw [hdv, if_neg (by omega)]
            have hbad : digB 10 s[k] = none := by unfold digB; rw [hv]; rfl
            rw [hbad] at hst
            have HR : Hid (parseB 10 0 s.data.toList = none) := hide hst.symm
            have l1 : decide ((97 : Int) ≤ L) = true := decide_eq_true (by omega)
            have l2 : decide ((L : Int) ≤ 122) = false := decide_eq_false (by omega)
            clear hst hbad hv hdv hL ho u g1 q1
            go_wp2_with (go_at_call 182; refine (HC.out _).mono ?_; rintro e w1 ⟨rfl, hw1⟩; obtain rfl := hw1.symm)
            go_ret2
            exact ⟨by rw [HR.out]; rfl, HA0.out.below⟩
          have u' : ((s[k].toNat : Int) == 95) = false := beq_eq_false_iff_ne.2 (by omega)
          by_cases l1 : 97 ≤ L
          · have l1' : decide ((97 : Int) ≤ L) = true := decide_eq_true (by omega)
            by_cases l2 : L ≤ 122
            · have l2' : decide ((L : Int) ≤ 122) = true := decide_eq_true (by omega)
              rw [if_pos ⟨l1, l2⟩] at hdv
              obtain ⟨d, hd⟩ : ∃ d, L = 87 + d := ⟨L - 87, by omega⟩
              have y1 : IntKind.u8.wrap ((L : Int) - 97) = ((d - 10 : Nat) : Int) := by rw [show (L : Int) - 97 = ((d - 10 : Nat) : Int) by omega]; exact IntWalk.u8_in _ (by omega)
              have y2 : IntKind.u8.wrap (((d - 10 : Nat) : Int) + 10) = (d : Int) := by rw [show ((d - 10 : Nat) : Int) + 10 = (d : Int) by omega]; exact IntWalk.u8_in _ (by omega)
              by_cases hdl : d < 10
              · clear q1
                have hdb : digB 10 s[k] = some d := by unfold digB; rw [hdv, if_pos (by omega)]; exact congrArg some (by omega)
                rw [hdb] at hst
                have HN : Hid (parseB 10 (n * 10 + d) (s.data.toList.drop (k + 1)) = parseB 10 0 s.data.toList) := hide hst
                have HB1 : Hid (n * 10 + d + 1 ≤ 10 ^ (k + 1)) := hide (par_step HP.out hdl)
                have hb2 : n * 10 + d + 1 ≤ 4294967296 := Nat.le_trans HB1.out (Nat.le_trans (Nat.pow_le_pow_right (by decide) (by omega : k + 1 ≤ 8)) (by decide))
                have x0 : IntKind.u64.wrap (d : Int) = (d : Int) := IntWalk.u64_in _ (by omega)
                have x1 : IntKind.u64.wrap ((n : Int) * 10) = (n : Int) * 10 := IntWalk.u64_in _ (by omega)
                have x2 : IntKind.u64.wrap ((n : Int) * 10 + (d : Int)) = (n : Int) * 10 + d := IntWalk.u64_in _ (by omega)
                have x3 : decide ((n : Int) * 10 + (d : Int) < (n : Int) * 10) = false := decide_eq_false (by omega)
                have x4 : decide ((4294967295 : Int) < (n : Int) * 10 + (d : Int)) = false := decide_eq_false (by omega)
                have x5 : decide ((10 : Int) ≤ (d : Int)) = false := decide_eq_false (by omega)
                have x6 : decide ((1844674407370955162 : Int) ≤ (n : Int)) = false := decide_eq_false (by omega)
                clear hst hdb hdl hb2
                clear hdv hL ho u g1 hd
                go_wp2_with (go_at_call 182; refine (HC.out _).mono ?_; rintro e w1 ⟨rfl, hw1⟩; obtain rfl := hw1.symm)
                go_roundw
                case rel => exact ⟨k + 1, n * 10 + d, rfl, by omega, by go_num, by first | rfl | simp, HB1, HN, by first | exact trivial | exact hide rfl⟩
                case measure => simp [intOf]; omega
              · have hbad : digB 10 s[k] = none := by unfold digB; rw [hdv, if_neg (by omega)]
                rw [hbad] at hst
                have HR : Hid (parseB 10 0 s.data.toList = none) := hide hst.symm
                have x5 : decide ((10 : Int) ≤ (d : Int)) = true := decide_eq_true (by omega)
                clear hst hbad hdv hL ho u g1 q1 hdl hd
                go_wp2_with (go_at_call 182; refine (HC.out _).mono ?_; rintro e w1 ⟨rfl, hw1⟩; obtain rfl := hw1.symm)
                go_ret2
                exact ⟨by rw [HR.out]; rfl, HA0.out.below⟩
            · have l2' : decide ((L : Int) ≤ 122) = false := decide_eq_false (by omega)
              have hv : dgV s[k] = 255 := by rw [hdv, if_neg (by omega)]
              have hbad : digB 10 s[k] = none := by unfold digB; rw [hv]; rfl
              rw [hbad] at hst
              have HR : Hid (parseB 10 0 s.data.toList = none) := hide hst.symm
              clear hst hbad hv hdv hL ho u g1 q1
              go_wp2_with (go_at_call 182; refine (HC.out _).mono ?_; rintro e w1 ⟨rfl, hw1⟩; obtain rfl := hw1.symm)
              go_ret2
              exact ⟨by rw [HR.out]; rfl, HA0.out.below⟩
          · have l1' : decide ((97 : Int) ≤ L) = false := decide_eq_false (by omega)
            have hv : dgV s[k] = 255 := by rw [hdv, if_neg (by omega)]
            have hbad : digB 10 s[k] = none := by unfold digB; rw [hv]; rfl
            rw [hbad] at hst
            have HR : Hid (parseB 10 0 s.data.toList = none) := hide hst.symm
            clear hst hbad hv hdv hL ho u g1 q1
            go_wp2_with (go_at_call 182; refine (HC.out _).mono ?_; rintro e w1 ⟨rfl, hw1⟩; obtain rfl := hw1.symm)
            go_ret2
            exact ⟨by rw [HR.out]; rfl, HA0.out.below⟩
    · have hk2 : k = s.size := by omega
      have HR : Hid (parseB 10 0 s.data.toList = some n) := hide (by rw [← HG.out, drop_nil s k (by omega)]; rfl)
      clear hk2
      go_wp2_with fail
      go_ret2
      exact ⟨by rw [HR.out]; rfl, HA0.out.below⟩

set_option maxHeartbeats 4000000 in
theorem iparse16_any (s : ByteArray) (w : World) (hs : s.size ≤ 8) (h0 : s.size ≠ 0) :
    Calls Tryz.prog 157 #[.string s, .int .i64 16, .int .i64 32] w fun e w' => e = .returned (uTup (parseB 16 0 s.data.toList)) ∧ Below w.heap.size w w' := by
  have hemp : s.toList.isEmpty = false := (sizeP h0).2
  go_enter Tryz.func157, Tryz.ntmps157
  go_wp2_with (refine wpList_bytes rfl _ rfl s rfl ?_; intro cap w0 ha0; have HA0 := hide ha0; clear ha0)
  go_loopw [12, 13, 101] (fun un nv i wr => ∃ k n : Nat, un = .bool false ∧ k ≤ s.size ∧ i = .int .i64 k ∧ nv = .int .u64 n ∧ Hid (n + 1 ≤ 16 ^ k) ∧ Hid (parseB 16 n (s.data.toList.drop k) = parseB 16 0 s.data.toList) ∧ Hid (wr = w0)) (fun _ _ i _ => s.size - (intOf i).toNat)
  case atStart => exact ⟨0, 0, rfl, Nat.zero_le _, rfl, rfl, hide (Nat.le_refl _), hide rfl, hide rfl⟩
  case round =>
    obtain ⟨k, n, rfl, hk, rfl, rfl, HP, HG, HW⟩ := hrel
    obtain rfl := HW.out
    by_cases hlt : k < s.size
    · have hst := HG.out
      rw [drop_cons s k hlt, parseB] at hst
      have c1 : wr.cell? ⟨w.heap.size, k, none⟩ = some (.int .u8 s[k].toNat) := HA0.out.cell k (by rw [toList_length]; exact hlt)
      by_cases g1 : 48 ≤ s[k].toNat ∧ s[k].toNat ≤ 57
      · obtain ⟨d, hd⟩ : ∃ d, s[k].toNat = 48 + d := ⟨s[k].toNat - 48, by omega⟩
        have t1 : decide ((48 : Int) ≤ s[k].toNat) = true := decide_eq_true (by omega)
        have t2 : decide ((s[k].toNat : Int) ≤ 57) = true := decide_eq_true (by omega)
        have t3 : ((s[k].toNat : Int) == 95) = false := beq_eq_false_iff_ne.2 (by omega)
        have wd : IntKind.u8.wrap ((s[k].toNat : Int) - 48) = (d : Int) := by rw [hd]; rw [show ((48 + d : Nat) : Int) - 48 = d by omega]; exact IntWalk.u8_in _ (by omega)
        have hdl : d < 16 := by omega
        have hdb : digB 16 s[k] = some d := by unfold digB dgV; rw [if_pos g1]; rw [if_pos (by omega)]; exact congrArg some (by omega)
        rw [hdb] at hst
        have HN : Hid (parseB 16 (n * 16 + d) (s.data.toList.drop (k + 1)) = parseB 16 0 s.data.toList) := hide hst
        have HB1 : Hid (n * 16 + d + 1 ≤ 16 ^ (k + 1)) := hide (par_step HP.out hdl)
        have hb2 : n * 16 + d + 1 ≤ 4294967296 := Nat.le_trans HB1.out (Nat.le_trans (Nat.pow_le_pow_right (by decide) (by omega : k + 1 ≤ 8)) (by decide))
        have x0 : IntKind.u64.wrap (d : Int) = (d : Int) := IntWalk.u64_in _ (by omega)
        have x1 : IntKind.u64.wrap ((n : Int) * 16) = (n : Int) * 16 := IntWalk.u64_in _ (by omega)
        have x2 : IntKind.u64.wrap ((n : Int) * 16 + (d : Int)) = (n : Int) * 16 + d := IntWalk.u64_in _ (by omega)
        have x3 : decide ((n : Int) * 16 + (d : Int) < (n : Int) * 16) = false := decide_eq_false (by omega)
        have x4 : decide ((4294967295 : Int) < (n : Int) * 16 + (d : Int)) = false := decide_eq_false (by omega)
        have x5 : decide ((16 : Int) ≤ (d : Int)) = false := decide_eq_false (by omega)
        have x6 : decide ((1152921504606846976 : Int) ≤ (n : Int)) = false := decide_eq_false (by omega)
        clear hst hdb hdl hb2
        clear hd g1
        go_wp2_with fail
        go_roundw
        case rel => exact ⟨k + 1, n * 16 + d, rfl, by omega, by go_num, by first | rfl | simp, HB1, HN, by first | exact trivial | exact hide rfl⟩
        case measure => simp [intOf]; omega
      · have t1 : (decide ((48 : Int) ≤ s[k].toNat) && decide ((s[k].toNat : Int) ≤ 57)) = false := by
          cases q1 : decide ((48 : Int) ≤ s[k].toNat) with
          | false => rfl
          | true =>
            have := of_decide_eq_true q1
            rw [Bool.true_and]; exact decide_eq_false (by omega)
        obtain ⟨L, hL⟩ : ∃ L, (s[k] ||| 32).toNat = L := ⟨_, rfl⟩
        have ho : bits .or .u8 (s[k].toNat : Int) 32 = (L : Int) := by rw [or32, hL]
        have HC := hide (fun w1 => Tryz.internal_strconv_lower (s[k].toNat : Int) w1)
        rw [ho] at HC
        have t3 : (decide ((s[k].toNat : Int) = 95)) = decide (s[k].toNat = 95) := by congr 1; exact propext (by omega)
        have hdv : dgV s[k] = if 97 ≤ L ∧ L ≤ 122 then L - 87 else 255 := by unfold dgV; rw [if_neg g1, hL]
        have hLl : L < 256 := by rw [← hL]; exact byte_lt _
        by_cases q1 : (48 : Int) ≤ s[k].toNat
        · have q1' : decide ((48 : Int) ≤ s[k].toNat) = true := decide_eq_true q1
          have q2' : decide ((s[k].toNat : Int) ≤ 57) = false := decide_eq_false (by omega)
          clear t1 t3
          by_cases u : s[k].toNat = 95
          · have u' : ((s[k].toNat : Int) == 95) = true := by rw [beq_iff_eq]; omega
            have hL95 : L = 127 := by rw [← hL, show s[k] = 95 from UInt8.toNat_inj.1 u]; rfl
            have hv : dgV s[k] = 255 := by rw [hdv, if_neg (by omega)]
            have hbad : digB 16 s[k] = none := by unfold digB; rw [hv]; rfl
            rw [hbad] at hst
            have HR : Hid (parseB 16 0 s.data.toList = none) := hide hst.symm
            have l1 : decide ((97 : Int) ≤ L) = true := decide_eq_true (by omega)
            have l2 : decide ((L : Int) ≤ 122) = false := decide_eq_false (by omega)
            clear hst hbad hv hdv hL ho u g1 q1
            go_wp2_with (go_at_call 182; refine (HC.out _).mono ?_; rintro e w1 ⟨rfl, hw1⟩; obtain rfl := hw1.symm)
            go_ret2
            exact ⟨by rw [HR.out]; rfl, HA0.out.below⟩
          have u' : ((s[k].toNat : Int) == 95) = false := beq_eq_false_iff_ne.2 (by omega)
          by_cases l1 : 97 ≤ L
          · have l1' : decide ((97 : Int) ≤ L) = true := decide_eq_true (by omega)
            by_cases l2 : L ≤ 122
            · have l2' : decide ((L : Int) ≤ 122) = true := decide_eq_true (by omega)
              rw [if_pos ⟨l1, l2⟩] at hdv
              obtain ⟨d, hd⟩ : ∃ d, L = 87 + d := ⟨L - 87, by omega⟩
              have y1 : IntKind.u8.wrap ((L : Int) - 97) = ((d - 10 : Nat) : Int) := by rw [show (L : Int) - 97 = ((d - 10 : Nat) : Int) by omega]; exact IntWalk.u8_in _ (by omega)
              have y2 : IntKind.u8.wrap (((d - 10 : Nat) : Int) + 10) = (d : Int) := by rw [show ((d - 10 : Nat) : Int) + 10 = (d : Int) by omega]; exact IntWalk.u8_in _ (by omega)
              by_cases hdl : d < 16
              · clear q1
                have hdb : digB 16 s[k] = some d := by unfold digB; rw [hdv, if_pos (by omega)]; exact congrArg some (by omega)
                rw [hdb] at hst
                have HN : Hid (parseB 16 (n * 16 + d) (s.data.toList.drop (k + 1)) = parseB 16 0 s.data.toList) := hide hst
                have HB1 : Hid (n * 16 + d + 1 ≤ 16 ^ (k + 1)) := hide (par_step HP.out hdl)
                have hb2 : n * 16 + d + 1 ≤ 4294967296 := Nat.le_trans HB1.out (Nat.le_trans (Nat.pow_le_pow_right (by decide) (by omega : k + 1 ≤ 8)) (by decide))
                have x0 : IntKind.u64.wrap (d : Int) = (d : Int) := IntWalk.u64_in _ (by omega)
                have x1 : IntKind.u64.wrap ((n : Int) * 16) = (n : Int) * 16 := IntWalk.u64_in _ (by omega)
                have x2 : IntKind.u64.wrap ((n : Int) * 16 + (d : Int)) = (n : Int) * 16 + d := IntWalk.u64_in _ (by omega)
                have x3 : decide ((n : Int) * 16 + (d : Int) < (n : Int) * 16) = false := decide_eq_false (by omega)
                have x4 : decide ((4294967295 : Int) < (n : Int) * 16 + (d : Int)) = false := decide_eq_false (by omega)
                have x5 : decide ((16 : Int) ≤ (d : Int)) = false := decide_eq_false (by omega)
                have x6 : decide ((1152921504606846976 : Int) ≤ (n : Int)) = false := decide_eq_false (by omega)
                clear hst hdb hdl hb2
                clear hdv hL ho u g1 hd
                go_wp2_with (go_at_call 182; refine (HC.out _).mono ?_; rintro e w1 ⟨rfl, hw1⟩; obtain rfl := hw1.symm)
                go_roundw
                case rel => exact ⟨k + 1, n * 16 + d, rfl, by omega, by go_num, by first | rfl | simp, HB1, HN, by first | exact trivial | exact hide rfl⟩
                case measure => simp [intOf]; omega
              · have hbad : digB 16 s[k] = none := by unfold digB; rw [hdv, if_neg (by omega)]
                rw [hbad] at hst
                have HR : Hid (parseB 16 0 s.data.toList = none) := hide hst.symm
                have x5 : decide ((16 : Int) ≤ (d : Int)) = true := decide_eq_true (by omega)
                clear hst hbad hdv hL ho u g1 q1 hdl hd
                go_wp2_with (go_at_call 182; refine (HC.out _).mono ?_; rintro e w1 ⟨rfl, hw1⟩; obtain rfl := hw1.symm)
                go_ret2
                exact ⟨by rw [HR.out]; rfl, HA0.out.below⟩
            · have l2' : decide ((L : Int) ≤ 122) = false := decide_eq_false (by omega)
              have hv : dgV s[k] = 255 := by rw [hdv, if_neg (by omega)]
              have hbad : digB 16 s[k] = none := by unfold digB; rw [hv]; rfl
              rw [hbad] at hst
              have HR : Hid (parseB 16 0 s.data.toList = none) := hide hst.symm
              clear hst hbad hv hdv hL ho u g1 q1
              go_wp2_with (go_at_call 182; refine (HC.out _).mono ?_; rintro e w1 ⟨rfl, hw1⟩; obtain rfl := hw1.symm)
              go_ret2
              exact ⟨by rw [HR.out]; rfl, HA0.out.below⟩
          · have l1' : decide ((97 : Int) ≤ L) = false := decide_eq_false (by omega)
            have hv : dgV s[k] = 255 := by rw [hdv, if_neg (by omega)]
            have hbad : digB 16 s[k] = none := by unfold digB; rw [hv]; rfl
            rw [hbad] at hst
            have HR : Hid (parseB 16 0 s.data.toList = none) := hide hst.symm
            clear hst hbad hv hdv hL ho u g1 q1
            go_wp2_with (go_at_call 182; refine (HC.out _).mono ?_; rintro e w1 ⟨rfl, hw1⟩; obtain rfl := hw1.symm)
            go_ret2
            exact ⟨by rw [HR.out]; rfl, HA0.out.below⟩
        · have q1' : decide ((48 : Int) ≤ s[k].toNat) = false := decide_eq_false q1
          clear t1 t3
          by_cases u : s[k].toNat = 95
          · have u' : ((s[k].toNat : Int) == 95) = true := by rw [beq_iff_eq]; omega
            have hL95 : L = 127 := by rw [← hL, show s[k] = 95 from UInt8.toNat_inj.1 u]; rfl
            have hv : dgV s[k] = 255 := by rw [hdv, if_neg (by omega)]
            have hbad : digB 16 s[k] = none := by unfold digB; rw [hv]; rfl
            rw [hbad] at hst
            have HR : Hid (parseB 16 0 s.data.toList = none) := hide hst.symm
            have l1 : decide ((97 : Int) ≤ L) = true := decide_eq_true (by omega)
            have l2 : decide ((L : Int) ≤ 122) = false := decide_eq_false (by omega)
            clear hst hbad hv hdv hL ho u g1 q1
            go_wp2_with (go_at_call 182; refine (HC.out _).mono ?_; rintro e w1 ⟨rfl, hw1⟩; obtain rfl := hw1.symm)
            go_ret2
            exact ⟨by rw [HR.out]; rfl, HA0.out.below⟩
          have u' : ((s[k].toNat : Int) == 95) = false := beq_eq_false_iff_ne.2 (by omega)
          by_cases l1 : 97 ≤ L
          · have l1' : decide ((97 : Int) ≤ L) = true := decide_eq_true (by omega)
            by_cases l2 : L ≤ 122
            · have l2' : decide ((L : Int) ≤ 122) = true := decide_eq_true (by omega)
              rw [if_pos ⟨l1, l2⟩] at hdv
              obtain ⟨d, hd⟩ : ∃ d, L = 87 + d := ⟨L - 87, by omega⟩
              have y1 : IntKind.u8.wrap ((L : Int) - 97) = ((d - 10 : Nat) : Int) := by rw [show (L : Int) - 97 = ((d - 10 : Nat) : Int) by omega]; exact IntWalk.u8_in _ (by omega)
              have y2 : IntKind.u8.wrap (((d - 10 : Nat) : Int) + 10) = (d : Int) := by rw [show ((d - 10 : Nat) : Int) + 10 = (d : Int) by omega]; exact IntWalk.u8_in _ (by omega)
              by_cases hdl : d < 16
              · clear q1
                have hdb : digB 16 s[k] = some d := by unfold digB; rw [hdv, if_pos (by omega)]; exact congrArg some (by omega)
                rw [hdb] at hst
                have HN : Hid (parseB 16 (n * 16 + d) (s.data.toList.drop (k + 1)) = parseB 16 0 s.data.toList) := hide hst
                have HB1 : Hid (n * 16 + d + 1 ≤ 16 ^ (k + 1)) := hide (par_step HP.out hdl)
                have hb2 : n * 16 + d + 1 ≤ 4294967296 := Nat.le_trans HB1.out (Nat.le_trans (Nat.pow_le_pow_right (by decide) (by omega : k + 1 ≤ 8)) (by decide))
                have x0 : IntKind.u64.wrap (d : Int) = (d : Int) := IntWalk.u64_in _ (by omega)
                have x1 : IntKind.u64.wrap ((n : Int) * 16) = (n : Int) * 16 := IntWalk.u64_in _ (by omega)
                have x2 : IntKind.u64.wrap ((n : Int) * 16 + (d : Int)) = (n : Int) * 16 + d := IntWalk.u64_in _ (by omega)
                have x3 : decide ((n : Int) * 16 + (d : Int) < (n : Int) * 16) = false := decide_eq_false (by omega)
                have x4 : decide ((4294967295 : Int) < (n : Int) * 16 + (d : Int)) = false := decide_eq_false (by omega)
                have x5 : decide ((16 : Int) ≤ (d : Int)) = false := decide_eq_false (by omega)
                have x6 : decide ((1152921504606846976 : Int) ≤ (n : Int)) = false := decide_eq_false (by omega)
                clear hst hdb hdl hb2
                clear hdv hL ho u g1 hd
                go_wp2_with (go_at_call 182; refine (HC.out _).mono ?_; rintro e w1 ⟨rfl, hw1⟩; obtain rfl := hw1.symm)
                go_roundw
                case rel => exact ⟨k + 1, n * 16 + d, rfl, by omega, by go_num, by first | rfl | simp, HB1, HN, by first | exact trivial | exact hide rfl⟩
                case measure => simp [intOf]; omega
              · have hbad : digB 16 s[k] = none := by unfold digB; rw [hdv, if_neg (by omega)]
                rw [hbad] at hst
                have HR : Hid (parseB 16 0 s.data.toList = none) := hide hst.symm
                have x5 : decide ((16 : Int) ≤ (d : Int)) = true := decide_eq_true (by omega)
                clear hst hbad hdv hL ho u g1 q1 hdl hd
                go_wp2_with (go_at_call 182; refine (HC.out _).mono ?_; rintro e w1 ⟨rfl, hw1⟩; obtain rfl := hw1.symm)
                go_ret2
                exact ⟨by rw [HR.out]; rfl, HA0.out.below⟩
            · have l2' : decide ((L : Int) ≤ 122) = false := decide_eq_false (by omega)
              have hv : dgV s[k] = 255 := by rw [hdv, if_neg (by omega)]
              have hbad : digB 16 s[k] = none := by unfold digB; rw [hv]; rfl
              rw [hbad] at hst
              have HR : Hid (parseB 16 0 s.data.toList = none) := hide hst.symm
              clear hst hbad hv hdv hL ho u g1 q1
              go_wp2_with (go_at_call 182; refine (HC.out _).mono ?_; rintro e w1 ⟨rfl, hw1⟩; obtain rfl := hw1.symm)
              go_ret2
              exact ⟨by rw [HR.out]; rfl, HA0.out.below⟩
          · have l1' : decide ((97 : Int) ≤ L) = false := decide_eq_false (by omega)
            have hv : dgV s[k] = 255 := by rw [hdv, if_neg (by omega)]
            have hbad : digB 16 s[k] = none := by unfold digB; rw [hv]; rfl
            rw [hbad] at hst
            have HR : Hid (parseB 16 0 s.data.toList = none) := hide hst.symm
            clear hst hbad hv hdv hL ho u g1 q1
            go_wp2_with (go_at_call 182; refine (HC.out _).mono ?_; rintro e w1 ⟨rfl, hw1⟩; obtain rfl := hw1.symm)
            go_ret2
            exact ⟨by rw [HR.out]; rfl, HA0.out.below⟩
    · have hk2 : k = s.size := by omega
      have HR : Hid (parseB 16 0 s.data.toList = some n) := hide (by rw [← HG.out, drop_nil s k (by omega)]; rfl)
      clear hk2
      go_wp2_with fail
      go_ret2
      exact ⟨by rw [HR.out]; rfl, HA0.out.below⟩

/-- the number of a text, if it is one -/
def parseU (b : Nat) (l : List UInt8) : Option Nat := if l = [] then none else parseB b 0 l
/-- what ParseUint answers -/
def UOut (o : Option Nat) (e : Ending) : Prop :=
  match o with
  | some n => e = .returned (.tuple #[.int .u64 n, .nilIface])
  | none => ∃ N : Nat, e = .returned (.tuple #[.int .u64 0, .iface 166 (.pointer (some ⟨N, 0, none⟩))])

theorem iempty10_any (w : World) : Calls Tryz.prog 157 #[.string ⟨#[]⟩, .int .i64 10, .int .i64 32] w (fun e w' => e = .returned (uTup none) ∧ Below w.heap.size w w') := by
  go_enter Tryz.func157, Tryz.ntmps157
  go_wp2_with fail
  go_ret2
  exact ⟨rfl, Below.refl _ _⟩
set_option maxHeartbeats 2000000 in
theorem parse10_any (s : ByteArray) (ev : Value) (w : World) (hs : s.size ≤ 8) (hv : w.cell? ⟨4, 0, none⟩ = some ev) (hev : ev = .nilIface ∨ ∃ te pe, ev = .iface te pe) :
    Calls Tryz.prog 125 #[.string s, .int .i64 10, .int .i64 32] w fun e w' => UOut (parseU 10 s.data.toList) e ∧ Below w.heap.size w w' := by
  have HV := hide hv
  have HEV := hide hev
  have HS := hide hs
  have hlt : 4 < w.heap.size := by
    rcases Nat.lt_or_ge 4 w.heap.size with h1 | h1
    · exact h1
    · simp [World.cell?, Array.getElem?_eq_none h1] at hv
  have HLT := hide hlt
  clear hv hev hlt
  have bad : parseU 10 s.data.toList = none → Calls Tryz.prog 157 #[.string s, .int .i64 10, .int .i64 32] w (fun e w' => e = .returned (uTup none) ∧ Below w.heap.size w w') → Calls Tryz.prog 125 #[.string s, .int .i64 10, .int .i64 32] w fun e w' => UOut (parseU 10 s.data.toList) e ∧ Below w.heap.size w w' := by
    intro hn hc
    have HN := hide hn
    have HC := hide hc
    clear hn hc
    go_enter Tryz.func125, Tryz.ntmps125
    go_wp2_with (first
      | (go_at_call 157; refine HC.out.mono ?_; rintro e w1 ⟨rfl, hb1⟩; rw [show uTup none = .tuple #[.int .u64 0, .iface 164 (.int .i64 2)] from rfl]; have HB1 := hide hb1; clear hb1)
      | (go_at_call 158; refine (Tryz.strconv_toError_syntax _ s 10 32 ev _ (Nat.le_trans HS.out (by decide)) ((HB1.out.cell (p := ⟨4, 0, none⟩) HLT.out).trans HV.out) HEV.out).mono ?_; rintro e w2 ⟨N, rfl, _, _, hb2⟩; have HB2 := hide (HB1.out.trans (hb2.mono HB1.out.size)); clear hb2))
    go_ret2
    rw [HN.out]
    exact ⟨⟨N, rfl⟩, HB2.out⟩
  by_cases h0 : s.size = 0
  · have he : s = ⟨#[]⟩ := ext_list (size0 h0).1
    have hp : parseU 10 s.data.toList = none := by unfold parseU; rw [if_pos (size0 h0).1]
    refine bad hp ?_
    rw [he]
    exact iempty10_any w
  · have hp : parseU 10 s.data.toList = parseB 10 0 s.data.toList := by unfold parseU; rw [if_neg (sizeP h0).1]
    have hc := iparse10_any s w hs h0
    cases hr : parseB 10 0 s.data.toList with
    | none => rw [hr] at hp hc; exact bad hp hc
    | some n =>
      rw [hr] at hp hc
      have HP := hide hp
      have HC := hide hc
      clear hp hc bad hr
      go_enter Tryz.func125, Tryz.ntmps125
      go_wp2_with (go_at_call 157; refine HC.out.mono ?_; rintro e w1 ⟨rfl, hb1⟩; rw [show uTup (some n) = .tuple #[.int .u64 n, .nilIface] from rfl]; have HB1 := hide hb1; clear hb1)
      go_ret2
      rw [HP.out]
      exact ⟨rfl, HB1.out⟩

theorem iempty16_any (w : World) : Calls Tryz.prog 157 #[.string ⟨#[]⟩, .int .i64 16, .int .i64 32] w (fun e w' => e = .returned (uTup none) ∧ Below w.heap.size w w') := by
  go_enter Tryz.func157, Tryz.ntmps157
  go_wp2_with fail
  go_ret2
  exact ⟨rfl, Below.refl _ _⟩
set_option maxHeartbeats 2000000 in
theorem parse16_any (s : ByteArray) (ev : Value) (w : World) (hs : s.size ≤ 8) (hv : w.cell? ⟨4, 0, none⟩ = some ev) (hev : ev = .nilIface ∨ ∃ te pe, ev = .iface te pe) :
    Calls Tryz.prog 125 #[.string s, .int .i64 16, .int .i64 32] w fun e w' => UOut (parseU 16 s.data.toList) e ∧ Below w.heap.size w w' := by
  have HV := hide hv
  have HEV := hide hev
  have HS := hide hs
  have hlt : 4 < w.heap.size := by
    rcases Nat.lt_or_ge 4 w.heap.size with h1 | h1
    · exact h1
    · simp [World.cell?, Array.getElem?_eq_none h1] at hv
  have HLT := hide hlt
  clear hv hev hlt
  have bad : parseU 16 s.data.toList = none → Calls Tryz.prog 157 #[.string s, .int .i64 16, .int .i64 32] w (fun e w' => e = .returned (uTup none) ∧ Below w.heap.size w w') → Calls Tryz.prog 125 #[.string s, .int .i64 16, .int .i64 32] w fun e w' => UOut (parseU 16 s.data.toList) e ∧ Below w.heap.size w w' := by
    intro hn hc
    have HN := hide hn
    have HC := hide hc
    clear hn hc
    go_enter Tryz.func125, Tryz.ntmps125
    go_wp2_with (first
      | (go_at_call 157; refine HC.out.mono ?_; rintro e w1 ⟨rfl, hb1⟩; rw [show uTup none = .tuple #[.int .u64 0, .iface 164 (.int .i64 2)] from rfl]; have HB1 := hide hb1; clear hb1)
      | (go_at_call 158; refine (Tryz.strconv_toError_syntax _ s 16 32 ev _ (Nat.le_trans HS.out (by decide)) ((HB1.out.cell (p := ⟨4, 0, none⟩) HLT.out).trans HV.out) HEV.out).mono ?_; rintro e w2 ⟨N, rfl, _, _, hb2⟩; have HB2 := hide (HB1.out.trans (hb2.mono HB1.out.size)); clear hb2))
    go_ret2
    rw [HN.out]
    exact ⟨⟨N, rfl⟩, HB2.out⟩
  by_cases h0 : s.size = 0
  · have he : s = ⟨#[]⟩ := ext_list (size0 h0).1
    have hp : parseU 16 s.data.toList = none := by unfold parseU; rw [if_pos (size0 h0).1]
    refine bad hp ?_
    rw [he]
    exact iempty16_any w
  · have hp : parseU 16 s.data.toList = parseB 16 0 s.data.toList := by unfold parseU; rw [if_neg (sizeP h0).1]
    have hc := iparse16_any s w hs h0
    cases hr : parseB 16 0 s.data.toList with
    | none => rw [hr] at hp hc; exact bad hp hc
    | some n =>
      rw [hr] at hp hc
      have HP := hide hp
      have HC := hide hc
      clear hp hc bad hr
      go_enter Tryz.func125, Tryz.ntmps125
      go_wp2_with (go_at_call 157; refine HC.out.mono ?_; rintro e w1 ⟨rfl, hb1⟩; rw [show uTup (some n) = .tuple #[.int .u64 n, .nilIface] from rfl]; have HB1 := hide hb1; clear hb1)
      go_ret2
      rw [HP.out]
      exact ⟨rfl, HB1.out⟩

end Go.Proofs.YtnnlhcjcdpdfcaaGreatDoor
