/- WALKS of the reference's bit and Encode for package b64, and what they compute. No statement is proved here. -/
import Derived.Test.YtnckbdkofbhilaaGreatDoorB64Ref
import Derived.Test.YtnckbdkofbhilaaGreatDoorBaseM
namespace Go.Proofs.YtnckbdkofbhilaaGreatDoor
open Go.RowKit
set_option linter.unusedVariables false
set_option maxRecDepth 100000
set_option linter.unusedSimpArgs false

/-- the i-th bit of a row of bytes, the highest of each byte first -/
def bitAt (l : List UInt8) (i : Nat) : Nat := (l.getD (i / 8) 0).toNat / 2 ^ (7 - i % 8) % 2
theorem bitAt_lt (l : List UInt8) (i : Nat) : bitAt l i < 2 := Nat.mod_lt _ (by omega)
/-- the number of the first k bits from i on -/
def pre (l : List UInt8) (i : Nat) : Nat → Nat
  | 0 => 0
  | k + 1 => 2 * pre l i k + bitAt l (i + k)
theorem pre_lt (l : List UInt8) (i k : Nat) : pre l i k < 2 ^ k := by
  induction k with
  | zero => simp [pre]
  | succ k ih =>
    have := bitAt_lt l (i + k)
    rw [pre, Nat.pow_succ]; omega
theorem pre6_at (l : List UInt8) (q r : Nat) : pre l (8 * q + r) 6 = 2 * (2 * (2 * (2 * (2 * (2 * 0 + bitAt l (8 * q + r + 0)) + bitAt l (8 * q + r + 1)) + bitAt l (8 * q + r + 2)) + bitAt l (8 * q + r + 3)) + bitAt l (8 * q + r + 4)) + bitAt l (8 * q + r + 5) := rfl
theorem bitAt_at (l : List UInt8) (q r i : Nat) (hr : r < 8) (hi : i = 8 * q + r) : bitAt l i = (l.getD q 0).toNat / 2 ^ (7 - r) % 2 := by
  subst hi
  have h1 : (8 * q + r) / 8 = q := by omega
  have h2 : (8 * q + r) % 8 = r := by omega
  rw [bitAt, h1, h2]
theorem pre_0 (l : List UInt8) (q : Nat) : pre l (8 * q) 6 = (l.getD q 0).toNat / 4 := by
  have hc := byte_lt (l.getD q 0)
  rw [show 8 * q = 8 * q + 0 from rfl, pre6_at, bitAt_at l q 0 _ (by omega) (by omega), bitAt_at l q 1 _ (by omega) (by omega), bitAt_at l q 2 _ (by omega) (by omega), bitAt_at l q 3 _ (by omega) (by omega), bitAt_at l q 4 _ (by omega) (by omega), bitAt_at l q 5 _ (by omega) (by omega)]
  omega
theorem pre_6 (l : List UInt8) (q : Nat) : pre l (8 * q + 6) 6 = (l.getD q 0).toNat % 4 * 16 + (l.getD (q + 1) 0).toNat / 16 := by
  have hc := byte_lt (l.getD q 0)
  have hd := byte_lt (l.getD (q + 1) 0)
  rw [pre6_at, bitAt_at l q 6 _ (by omega) (by omega), bitAt_at l q 7 _ (by omega) (by omega), bitAt_at l (q + 1) 0 _ (by omega) (by omega), bitAt_at l (q + 1) 1 _ (by omega) (by omega), bitAt_at l (q + 1) 2 _ (by omega) (by omega), bitAt_at l (q + 1) 3 _ (by omega) (by omega)]
  omega
theorem pre_4 (l : List UInt8) (q : Nat) : pre l (8 * q + 4) 6 = (l.getD q 0).toNat % 16 * 4 + (l.getD (q + 1) 0).toNat / 64 := by
  have hc := byte_lt (l.getD q 0)
  have hd := byte_lt (l.getD (q + 1) 0)
  rw [pre6_at, bitAt_at l q 4 _ (by omega) (by omega), bitAt_at l q 5 _ (by omega) (by omega), bitAt_at l q 6 _ (by omega) (by omega), bitAt_at l q 7 _ (by omega) (by omega), bitAt_at l (q + 1) 0 _ (by omega) (by omega), bitAt_at l (q + 1) 1 _ (by omega) (by omega)]
  omega
theorem pre_2 (l : List UInt8) (q : Nat) : pre l (8 * q + 2) 6 = (l.getD q 0).toNat % 64 := by
  have hc := byte_lt (l.getD q 0)
  rw [pre6_at, bitAt_at l q 2 _ (by omega) (by omega), bitAt_at l q 3 _ (by omega) (by omega), bitAt_at l q 4 _ (by omega) (by omega), bitAt_at l q 5 _ (by omega) (by omega), bitAt_at l q 6 _ (by omega) (by omega), bitAt_at l q 7 _ (by omega) (by omega)]
  omega

/-- the letters from bit i on -/
def refFrom (l : List UInt8) (i : Nat) : List UInt8 := if h : i < 8 * l.length then letter (pre l i 6) :: refFrom l (i + 6) else []
termination_by 8 * l.length - i
theorem refFrom_go {l : List UInt8} {i : Nat} (h : i < 8 * l.length) : refFrom l i = letter (pre l i 6) :: refFrom l (i + 6) := by rw [refFrom, dif_pos h]
theorem refFrom_end {l : List UInt8} {i : Nat} (h : ¬ i < 8 * l.length) : refFrom l i = [] := by rw [refFrom, dif_neg h]

theorem bitAt_shift (a b c : UInt8) (r : List UInt8) (i : Nat) : bitAt (a :: b :: c :: r) (i + 24) = bitAt r i := by
  rw [bitAt, bitAt, show (i + 24) / 8 = i / 8 + 3 by omega, show (i + 24) % 8 = i % 8 by omega]
  rfl
theorem pre_shift (a b c : UInt8) (r : List UInt8) (i k : Nat) : pre (a :: b :: c :: r) (i + 24) k = pre r i k := by
  induction k with
  | zero => rfl
  | succ k ih => rw [pre, pre, ih, show i + 24 + k = i + k + 24 by omega, bitAt_shift]
theorem refFrom_shift (a b c : UInt8) (r : List UInt8) (m : Nat) : ∀ i, 8 * r.length - i ≤ m → refFrom (a :: b :: c :: r) (i + 24) = refFrom r i := by
  induction m with
  | zero => intro i hi; rw [refFrom_end (by simp; omega), refFrom_end (by omega)]
  | succ m ih =>
    intro i hi
    by_cases h : i < 8 * r.length
    · rw [refFrom_go (by simp <;> omega), refFrom_go h, pre_shift, show i + 24 + 6 = i + 6 + 24 by omega, ih (i + 6) (by omega)]
    · rw [refFrom_end (by simp; omega), refFrom_end h]

def padN (n : Nat) : Nat := (4 - n % 4) % 4
theorem ref_enc : ∀ l : List UInt8, refFrom l 0 ++ List.replicate (padN (refFrom l 0).length) 61 = encB l
  | [] => by rw [refFrom_end (by simp)]; rfl
  | [a] => by
    have e : refFrom [a] 0 = [letter (a.toNat / 4), letter (a.toNat % 4 * 16)] := by
      have p0 := pre_0 [a] 0
      have p6 := pre_6 [a] 0
      rw [refFrom_go (by simp), show 0 + 6 = 6 from rfl, refFrom_go (by simp), show 6 + 6 = 12 from rfl, refFrom_end (by simp)]
      simp at p0 p6
      rw [p0, p6]
    rw [e]; rfl
  | [a, b] => by
    have e : refFrom [a, b] 0 = [letter (a.toNat / 4), letter (a.toNat % 4 * 16 + b.toNat / 16), letter (b.toNat % 16 * 4)] := by
      have p0 := pre_0 [a, b] 0
      have p6 := pre_6 [a, b] 0
      have p4 := pre_4 [a, b] 1
      rw [refFrom_go (by simp), show 0 + 6 = 6 from rfl, refFrom_go (by simp), show 6 + 6 = 12 from rfl, refFrom_go (by simp), show 12 + 6 = 18 from rfl, refFrom_end (by simp)]
      simp at p0 p6 p4
      rw [p0, p6, p4]
    rw [e]; rfl
  | a :: b :: c :: r => by
    have e : refFrom (a :: b :: c :: r) 0 = letter (a.toNat / 4) :: letter (a.toNat % 4 * 16 + b.toNat / 16) :: letter (b.toNat % 16 * 4 + c.toNat / 64) :: letter (c.toNat % 64) :: refFrom r 0 := by
      have p0 := pre_0 (a :: b :: c :: r) 0
      have p6 := pre_6 (a :: b :: c :: r) 0
      have p4 := pre_4 (a :: b :: c :: r) 1
      have p2 := pre_2 (a :: b :: c :: r) 2
      rw [refFrom_go (by simp <;> omega), show 0 + 6 = 6 from rfl, refFrom_go (by simp <;> omega), show 6 + 6 = 12 from rfl, refFrom_go (by simp <;> omega), show 12 + 6 = 18 from rfl, refFrom_go (by simp <;> omega), show 18 + 6 = 0 + 24 from rfl, refFrom_shift a b c r _ 0 (Nat.le_refl _)]
      simp at p0 p6 p4 p2
      rw [p0, p6, p4, p2]
    have hp : padN (refFrom (a :: b :: c :: r) 0).length = padN (refFrom r 0).length := by rw [e]; simp [padN]; omega
    rw [hp, e, show encB (a :: b :: c :: r) = letter (a.toNat / 4) :: letter (a.toNat % 4 * 16 + b.toNat / 16) :: letter (b.toNat % 16 * 4 + c.toNat / 64) :: letter (c.toNat % 64) :: encB r from rfl, ← ref_enc r]
    rfl

set_option maxHeartbeats 2000000 in
theorem bit_any (s : ByteArray) (i : Nat) (w : World) (hs : s.size ≤ 1048576) (hi : i ≤ 10000000) :
    Calls Tryz.prog 119 #[.string s, .int .i64 i] w fun e w' => e = .returned (.int .i64 (bitAt s.data.toList i : Nat)) ∧ w = w' := by
  obtain ⟨q, hq⟩ : ∃ q, q = i / 8 := ⟨_, rfl⟩
  have t1 : (i : Int) / 8 = q := by omega
  by_cases hlt : q < s.size
  · have hg : s.data.toList.getD q 0 = s[q] := by
      rw [List.getD_eq_getElem?_getD, List.getElem?_eq_getElem (by rw [toList_length]; exact hlt)]; rfl
    have hb : bitAt s.data.toList i = s[q].toNat / 2 ^ (7 - i % 8) % 2 := by rw [bitAt, ← hq, hg]
    have hc := byte_lt s[q]
    have hr : i % 8 = 0 ∨ i % 8 = 1 ∨ i % 8 = 2 ∨ i % 8 = 3 ∨ i % 8 = 4 ∨ i % 8 = 5 ∨ i % 8 = 6 ∨ i % 8 = 7 := by omega
    rcases hr with hr | hr | hr | hr | hr | hr | hr | hr
    all_goals
      rw [hr] at hb
      have t2 : (i : Int) % 8 = ((i % 8 : Nat) : Int) := by omega
      rw [hr] at t2
      simp at t2
      have HB := hide hb
      clear hb hr hg hq
      go_enter Tryz.func119, Tryz.ntmps119
      go_wp2
      go_ret
      exact ⟨ret_int (by rw [HB.out]; omega), rfl⟩
  · have hb : bitAt s.data.toList i = 0 := by
      rw [bitAt, ← hq, List.getD_eq_getElem?_getD, List.getElem?_eq_none (by rw [toList_length]; omega)]
      simp
    have HB := hide hb
    clear hb hq
    go_enter Tryz.func119, Tryz.ntmps119
    go_wp2
    go_ret
    exact ⟨ret_int (by rw [HB.out]; rfl), rfl⟩
end Go.Proofs.YtnckbdkofbhilaaGreatDoor
