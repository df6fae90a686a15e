/- WALKS of the reference of layer 5: White, until, quoted. No statement is proved here. -/
import Derived.Test.YtienjpelmbldpaaGreatDoorBaseM
namespace Go.Proofs.YtienjpelmbldpaaGreatDoor
open Go.RowKit
set_option linter.unusedVariables false
set_option linter.unusedSimpArgs false
set_option maxRecDepth 100000

theorem white05_any (c : UInt8) (w : World) :
    Calls Tryz.prog 50 #[.int .u8 c.toNat] w fun e w' => e = .returned (.bool (wsB c)) ∧ w = w' := by
  by_cases h1 : c = 32
  · have t1 : ((c.toNat : Int) == 32) = true := tT 32 h1 (by omega)
    have HE : Hid (wsB c = true) := hide (by rw [h1]; decide)
    clear h1
    go_enter Tryz.func50, Tryz.ntmps50
    go_wp2
    go_ret
    exact ⟨ret_bool HE.out.symm, rfl⟩
  have t1 : ((c.toNat : Int) == 32) = false := tF 32 h1 (by omega)
  by_cases h2 : c = 9
  · have t2 : ((c.toNat : Int) == 9) = true := tT 9 h2 (by omega)
    have HE : Hid (wsB c = true) := hide (by rw [h2]; decide)
    clear h1 h2
    go_enter Tryz.func50, Tryz.ntmps50
    go_wp2
    go_ret
    exact ⟨ret_bool HE.out.symm, rfl⟩
  have t2 : ((c.toNat : Int) == 9) = false := tF 9 h2 (by omega)
  by_cases h3 : c = 10
  · have t3 : ((c.toNat : Int) == 10) = true := tT 10 h3 (by omega)
    have HE : Hid (wsB c = true) := hide (by rw [h3]; decide)
    clear h1 h2 h3
    go_enter Tryz.func50, Tryz.ntmps50
    go_wp2
    go_ret
    exact ⟨ret_bool HE.out.symm, rfl⟩
  have t3 : ((c.toNat : Int) == 10) = false := tF 10 h3 (by omega)
  have hb : ((c.toNat : Int) == 13) = wsB c := by
    by_cases h4 : c = 13
    · have e : ((c.toNat : Int) == 13) = true := tT 13 h4 (by omega)
      rw [e, h4]; rfl
    · have e : ((c.toNat : Int) == 13) = false := tF 13 h4 (by omega)
      rw [e]
      simp [wsB, h1, h2, h3, h4]
  have HB := hide hb
  clear h1 h2 h3 hb
  go_enter Tryz.func50, Tryz.ntmps50
  go_wp2
  go_ret
  exact ⟨ret_bool HB.out, rfl⟩

/-- the place of the next `?`; none: a white byte, or the end, is ahead of it -/
def untilN : List UInt8 → Option Nat
  | [] => none
  | c :: r => if wsB c then none else if c = 63 then some 0 else (untilN r).map (· + 1)
def untilI (l : List UInt8) (k : Nat) : Int := (untilN (l.drop k)).elim (-1) (fun n => ((k + n : Nat) : Int))
theorem until_nil {l : List UInt8} {k : Nat} (h : l.drop k = []) : untilI l k = -1 := by unfold untilI; rw [h]; rfl
theorem until_ws {l r : List UInt8} {k : Nat} {c : UInt8} (h : l.drop k = c :: r) (hc : wsB c = true) : untilI l k = -1 := by
  unfold untilI; rw [h, untilN, if_pos hc]; rfl
theorem until_hit {l r : List UInt8} {k : Nat} (h : l.drop k = 63 :: r) : untilI l k = k := by
  unfold untilI; rw [h, untilN, if_neg (by decide), if_pos rfl]; rfl
theorem until_next {l r : List UInt8} {k : Nat} {c : UInt8} (h : l.drop k = c :: r) (hc : wsB c = false) (h63 : c ≠ 63) : untilI l k = untilI l (k + 1) := by
  have hd : l.drop (k + 1) = r := by rw [← List.drop_drop, h]; rfl
  unfold untilI
  rw [h, hd, untilN, if_neg (by rw [hc]; decide), if_neg h63]
  cases untilN r with
  | none => rfl
  | some n => show ((k + (n + 1) : Nat) : Int) = ((k + 1 + n : Nat) : Int); omega
set_option maxHeartbeats 1000000 in
theorem until_any (s : ByteArray) (k0 : Nat) (z : Int) (w : World) (hz : z = k0) (hs : s.size ≤ 70368744177664) (hk0 : k0 ≤ s.size) :
    Calls Tryz.prog 106 #[.string s, .int .i64 z] w fun e w' => e = .returned (.int .i64 (untilI s.data.toList k0)) ∧ w = w' := by
  subst hz
  go_enter Tryz.func106, Tryz.ntmps106
  go_wp2
  go_loop [1] (fun i => ∃ k : Nat, k0 ≤ k ∧ k ≤ s.size ∧ i = .int .i64 k ∧ untilI s.data.toList k = untilI s.data.toList k0) (fun i => s.size - (intOf i).toNat)
  case atStart => exact ⟨k0, Nat.le_refl _, hk0, rfl, rfl⟩
  case round =>
    obtain ⟨k, hk1, hk2, rfl, hd⟩ := hrel
    have HD := hide hd
    clear hd
    by_cases hlt : k < s.size
    · have hc := drop_cons s k hlt
      cases hw : wsB s[k] with
      | true =>
        have HR : Hid (untilI s.data.toList k0 = -1) := hide (by rw [← HD.out]; exact until_ws hc hw)
        have HW := hide hw
        clear hc hw
        go_wp2_with fail
        refine (white05_any _ _).mono ?_
        rintro e w1 ⟨rfl, rfl⟩
        rw [HW.out]
        go_wp2_with fail
        go_ret
        exact ⟨ret_int HR.out.symm, rfl⟩
      | false =>
        have HW := hide hw
        by_cases h63 : s[k] = 63
        · have HR : Hid (untilI s.data.toList k0 = k) := hide (by rw [← HD.out]; exact until_hit (by rw [hc, h63]))
          have t0 : ((s[k].toNat : Int) == 63) = true := tT 63 h63 (by omega)
          clear hc hw h63
          go_wp2_with fail
          refine (white05_any _ _).mono ?_
          rintro e w1 ⟨rfl, rfl⟩
          rw [HW.out]
          go_wp2_with fail
          go_ret
          exact ⟨ret_int HR.out.symm, rfl⟩
        · have HN : Hid (untilI s.data.toList (k + 1) = untilI s.data.toList k0) := hide (by rw [← HD.out, until_next hc hw h63])
          have t0 : ((s[k].toNat : Int) == 63) = false := tF 63 h63 (by omega)
          clear hc hw h63
          go_wp2_with fail
          refine (white05_any _ _).mono ?_
          rintro e w1 ⟨rfl, rfl⟩
          rw [HW.out]
          go_wp2_with fail
          go_round
          case rel => exact ⟨k + 1, by omega, by omega, by go_num, HN.out⟩
          case measure => simp [intOf]; omega
    · have HR : Hid (untilI s.data.toList k0 = -1) := hide (by rw [← HD.out]; exact until_nil (drop_nil s k (by omega)))
      go_wp2_with fail
      go_ret
      exact ⟨ret_int HR.out.symm, rfl⟩
end Go.Proofs.YtienjpelmbldpaaGreatDoor
