/- WALKS of package addr's machine. No statement is proved here. -/
import Derived.Test.YtnckbdkofbhilaaGreatDoorAddrP
namespace Go.Proofs.YtnckbdkofbhilaaGreatDoor
open Go.RowKit
set_option linter.unusedVariables false
set_option linter.unusedSimpArgs false
set_option maxRecDepth 100000
/-- the machine in memory -/
def MAt (b : Nat) (m : MSt) (w : World) : Prop :=
  w.cell? ⟨b, 0, none⟩ = some (.bool m.q) ∧ w.cell? ⟨b, 1, none⟩ = some (.int .i64 m.r) ∧ w.cell? ⟨b, 2, none⟩ = some (.bool m.p) ∧ ∀ i : Nat, w.frozen? ⟨b, i, none⟩ = false
theorem mne {b i j : Nat} (h : i ≠ j) : (⟨b, i, none⟩ : Addr) ≠ ⟨b, j, none⟩ := fun e => h (by injection e)
theorem MAt.setP {b : Nat} {m : MSt} {w : World} (h : MAt b m w) (p : Bool) : MAt b { m with p := p } (w.setCell ⟨b, 2, none⟩ (.bool p)) :=
  ⟨(World.cell?_setCell_other _ _ _ _ (mne (by decide))).trans h.1, (World.cell?_setCell_other _ _ _ _ (mne (by decide))).trans h.2.1, World.cell?_setCell_same _ _ _ h.2.2.1, fun i => by rw [World.frozen?_setCell]; exact h.2.2.2 i⟩
theorem MAt.setR {b : Nat} {m : MSt} {w : World} (h : MAt b m w) (r : Nat) : MAt b { m with r := r } (w.setCell ⟨b, 1, none⟩ (.int .i64 r)) :=
  ⟨(World.cell?_setCell_other _ _ _ _ (mne (by decide))).trans h.1, World.cell?_setCell_same _ _ _ h.2.1, (World.cell?_setCell_other _ _ _ _ (mne (by decide))).trans h.2.2.1, fun i => by rw [World.frozen?_setCell]; exact h.2.2.2 i⟩
theorem MAt.setQ {b : Nat} {m : MSt} {w : World} (h : MAt b m w) (q : Bool) : MAt b { m with q := q } (w.setCell ⟨b, 0, none⟩ (.bool q)) :=
  ⟨World.cell?_setCell_same _ _ _ h.1, (World.cell?_setCell_other _ _ _ _ (mne (by decide))).trans h.2.1, (World.cell?_setCell_other _ _ _ _ (mne (by decide))).trans h.2.2.1, fun i => by rw [World.frozen?_setCell]; exact h.2.2.2 i⟩
set_option maxHeartbeats 1000000 in
theorem inPair_any (b : Nat) (m : MSt) (c : UInt8) (w : World) (h : MAt b m w) :
    Calls Tryz.prog 132 #[.pointer (some ⟨b, 0, none⟩), .int .u8 c.toNat] w fun e w' => e = .returned (.bool (inPairB m.p c)) ∧ MAt b { m with p := nextP m.p c } w' ∧ w' = w.setCell ⟨b, 2, none⟩ (.bool (nextP m.p c)) := by
  have HM := hide h
  obtain ⟨q, r, p⟩ := m
  obtain ⟨h0, h1, h2, hf⟩ := h
  have f2 := hf 2
  have HP := fun v => hide (HM.out.setP v)
  clear h0 h1 hf
  go_enter Tryz.func132, Tryz.ntmps132
  cases p with
  | true =>
    go_wp2_with fail
    go_ret
    exact ⟨rfl, (HP false).out, rfl⟩
  | false =>
    by_cases e : c = 92
    · have t1 : ((c.toNat : Int) == 92) = true := tT 92 e (by omega)
      have n1 : nextP false c = true := by rw [e]; rfl
      have i1 : inPairB false c = true := by rw [e]; rfl
      clear e
      go_wp2_with fail
      go_ret
      exact ⟨rfl, (HP true).out, rfl⟩
    · have t1 : ((c.toNat : Int) == 92) = false := tF 92 e (by omega)
      have n1 : nextP false c = false := by unfold nextP; rw [beq_eq_false_iff_ne.2 e]; rfl
      have i1 : inPairB false c = false := by unfold inPairB; rw [beq_eq_false_iff_ne.2 e]; rfl
      clear e
      go_wp2_with fail
      go_ret
      exact ⟨rfl, (HP false).out, rfl⟩
set_option maxHeartbeats 1600000 in
theorem takeR_any (b : Nat) (m : MSt) (c : UInt8) (P : World → Prop) (hP : ∀ w i v, P w → P (w.setCell ⟨b, i, none⟩ v)) (w : World) (h : MAt b m w) (hB : P w) (hr : m.r ≤ 70368744177664) (hr0 : 0 < m.r) :
    Calls Tryz.prog 133 #[.pointer (some ⟨b, 0, none⟩), .int .u8 c.toNat] w fun e w' => e = .returned (.int .i64 (takeR m c).1) ∧ MAt b (takeR m c).2 w' ∧ P w' := by
  have HC := hide (inPair_any b m c w h)
  have HB := hide hB
  cases hi : inPairB m.p c with
  | true =>
    have HT : Hid (takeR m c = (2, { m with p := nextP m.p c })) := hide (by unfold takeR; rw [hi]; rfl)
    rw [hi] at HC
    clear h hi hr0 hr hB
    go_enter Tryz.func133, Tryz.ntmps133
    go_wp2_with (go_at_call 132; refine HC.out.mono ?_; rintro e w1 ⟨rfl, hm1, rfl⟩; have HM1 := hide hm1; clear hm1)
    go_ret
    exact ⟨by rw [HT.out]; rfl, by rw [HT.out]; exact HM1.out, hP _ _ _ HB.out⟩
  | false =>
    rw [hi] at HC
    obtain ⟨q, r, p⟩ := m
    have HT : Hid (takeR ⟨q, r, p⟩ c = (if (if c = 40 then r + 1 else if c = 41 then r - 1 else r) = 0 then 3 else 2, ⟨q, (if c = 40 then r + 1 else if c = 41 then r - 1 else r), nextP p c⟩)) := hide (by unfold takeR; rw [hi]; rfl)
    clear h hi hB
    obtain ⟨k, rfl⟩ : ∃ k, r = k + 1 := ⟨r - 1, (Nat.sub_add_cancel hr0).symm⟩
    have hk : k ≤ 70368744177664 := Nat.le_trans (Nat.le_succ k) hr
    clear hr hr0
    by_cases e1 : c = 40
    · have t1 : ((c.toNat : Int) == 40) = true := tT 40 e1 (by decide)
      rw [if_pos e1, if_neg (Nat.succ_ne_zero _)] at HT
      clear e1
      go_enter Tryz.func133, Tryz.ntmps133
      go_wp2_with (go_at_call 132; refine HC.out.mono ?_; rintro e w1 ⟨rfl, hm1, hw1⟩; have HM1 := hide hm1; have HW1 := hide hw1; have k1 := hm1.2.1; have z1 := hm1.2.2.2 1; clear hm1 hw1)
      have hset := HM1.out.setR (k + 1 + 1)
      rw [show ((k + 1 + 1 : Nat) : Int) = (k : Int) + 1 + 1 from rfl] at hset
      have HW := hide (HW1.out ▸ hP _ 2 _ HB.out)
      go_ret
      exact ⟨by rw [HT.out]; rfl, by rw [HT.out]; exact hset, hP _ _ _ HW.out⟩
    · have t1 : ((c.toNat : Int) == 40) = false := tF 40 e1 (by decide)
      rw [if_neg e1] at HT
      by_cases e2 : c = 41
      · have t2 : ((c.toNat : Int) == 41) = true := tT 41 e2 (by decide)
        rw [if_pos e2, Nat.add_sub_cancel] at HT
        clear e1 e2
        cases k with
        | zero =>
          go_enter Tryz.func133, Tryz.ntmps133
          go_wp2_with (go_at_call 132; refine HC.out.mono ?_; rintro e w1 ⟨rfl, hm1, hw1⟩; have HM1 := hide hm1; have HW1 := hide hw1; have k1 : w1.cell? ⟨b, 1, none⟩ = some (.int .i64 1) := hm1.2.1; have z1 := hm1.2.2.2 1; clear hm1 hw1)
          have hset := HM1.out.setR 0
          have HW := hide (HW1.out ▸ hP _ 2 _ HB.out)
          go_ret
          exact ⟨by rw [HT.out]; rfl, by rw [HT.out]; exact hset, hP _ _ _ HW.out⟩
        | succ k =>
          rw [if_neg (Nat.succ_ne_zero _)] at HT
          go_enter Tryz.func133, Tryz.ntmps133
          go_wp2_with (go_at_call 132; refine HC.out.mono ?_; rintro e w1 ⟨rfl, hm1, hw1⟩; have HM1 := hide hm1; have HW1 := hide hw1; have k1 : w1.cell? ⟨b, 1, none⟩ = some (.int .i64 ((k : Int) + 1 + 1)) := hm1.2.1; have z1 := hm1.2.2.2 1; clear hm1 hw1)
          have hset := HM1.out.setR (k + 1)
          rw [show ((k + 1 : Nat) : Int) = (k : Int) + 1 from rfl] at hset
          have HW := hide (HW1.out ▸ hP _ 2 _ HB.out)
          go_ret
          exact ⟨by rw [HT.out]; rfl, by rw [HT.out]; exact hset, hP _ _ _ HW.out⟩
      · have t2 : ((c.toNat : Int) == 41) = false := tF 41 e2 (by decide)
        rw [if_neg e2, if_neg (Nat.succ_ne_zero _)] at HT
        clear e1 e2
        go_enter Tryz.func133, Tryz.ntmps133
        go_wp2_with (go_at_call 132; refine HC.out.mono ?_; rintro e w1 ⟨rfl, hm1, hw1⟩; have HM1 := hide hm1; have HW1 := hide hw1; have k1 : w1.cell? ⟨b, 1, none⟩ = some (.int .i64 ((k : Int) + 1)) := hm1.2.1; have z1 := hm1.2.2.2 1; clear hm1 hw1)
        have HW := hide (HW1.out ▸ hP _ 2 _ HB.out)
        go_ret
        exact ⟨by rw [HT.out]; rfl, by rw [HT.out]; exact HM1.out, HW.out⟩
set_option maxHeartbeats 1600000 in
/-- one byte -/
theorem take_any (b : Nat) (m : MSt) (c : UInt8) (P : World → Prop) (hP : ∀ w i v, P w → P (w.setCell ⟨b, i, none⟩ v)) (w : World) (h : MAt b m w) (hB : P w) (hr : m.r ≤ 70368744177664) :
    Calls Tryz.prog 94 #[.pointer (some ⟨b, 0, none⟩), .int .u8 c.toNat] w fun e w' => e = .returned (.int .i64 (takeB m c).1) ∧ MAt b (takeB m c).2 w' ∧ P w' := by
  have HB := hide hB
  have HM := hide h
  cases hq : m.q with
  | true =>
    have HC := hide (inPair_any b m c w h)
    have HT : Hid (takeB m c = (1, { m with q := inPairB m.p c || c != 34, p := nextP m.p c })) := hide (by unfold takeB; rw [hq]; rfl)
    have k0 : w.cell? ⟨b, 0, none⟩ = some (.bool true) := by rw [← hq]; exact h.1
    clear h hq hr hB
    obtain ⟨q, r, p⟩ := m
    have e34 : ((c.toNat : Int) != 34) = (c != 34) := by
      by_cases e : c = 34
      · rw [e]; rfl
      · have : ((c.toNat : Int) == 34) = false := tF (c := c) 34 e (by decide)
        show (!((c.toNat : Int) == 34)) = (!(c == 34))
        rw [this, beq_eq_false_iff_ne.2 e]
    cases hi : inPairB p c with
    | true =>
      rw [show inPairB (MSt.mk q r p).p c = true from hi] at HC HT
      go_enter Tryz.func94, Tryz.ntmps94
      go_wp2_with (go_at_call 132; refine HC.out.mono ?_; rintro e w1 ⟨rfl, hm1, hw1⟩; have HM1 := hide hm1; have HW1 := hide hw1; have k1 := hm1.1; have z1 := hm1.2.2.2 0; clear hm1 hw1)
      have HW := hide (HW1.out ▸ hP _ 2 _ HB.out)
      have hset := HM1.out.setQ true
      go_ret
      exact ⟨by rw [HT.out]; rfl, by rw [HT.out]; exact hset, hP _ _ _ HW.out⟩
    | false =>
      rw [show inPairB (MSt.mk q r p).p c = false from hi] at HC HT
      go_enter Tryz.func94, Tryz.ntmps94
      go_wp2_with (go_at_call 132; refine HC.out.mono ?_; rintro e w1 ⟨rfl, hm1, hw1⟩; have HM1 := hide hm1; have HW1 := hide hw1; have k1 := hm1.1; have z1 := hm1.2.2.2 0; clear hm1 hw1)
      have HW := hide (HW1.out ▸ hP _ 2 _ HB.out)
      have hset := HM1.out.setQ (c != 34)
      go_ret
      exact ⟨by rw [HT.out]; rfl, by rw [HT.out]; exact hset, hP _ _ _ HW.out⟩
  | false =>
    have k0 : w.cell? ⟨b, 0, none⟩ = some (.bool false) := by rw [← hq]; exact h.1
    have k1 := h.2.1
    have z0 := h.2.2.2 0
    have z1 := h.2.2.2 1
    by_cases h0 : 0 < m.r
    · have HC := hide (takeR_any b m c P hP w h hB hr h0)
      have HT : Hid (takeB m c = takeR m c) := hide (by unfold takeB; rw [hq, if_neg (by decide), if_pos h0])
      have t0 : decide ((m.r : Int) > 0) = true := decide_eq_true (by omega)
      clear hr hB h hq
      go_enter Tryz.func94, Tryz.ntmps94
      go_wp2_with (go_at_call 133; refine HC.out.mono ?_; rintro e w1 ⟨rfl, hm1, hb1⟩; have HM1 := hide hm1; have HB1 := hide hb1; clear hm1 hb1)
      go_ret
      exact ⟨by rw [HT.out]; rfl, by rw [HT.out]; exact HM1.out, HB1.out⟩
    · have r0 : m.r = 0 := Nat.eq_zero_of_not_pos h0
      rw [r0] at k1
      by_cases e1 : c = 34
      · have HT : Hid (takeB m c = (1, { m with q := true })) := hide (by unfold takeB; rw [hq, if_neg (by decide), if_neg h0, if_pos e1])
        have t1 : ((c.toNat : Int) == 34) = true := tT 34 e1 (by decide)
        clear e1 hr h hB hq h0
        go_enter Tryz.func94, Tryz.ntmps94
        go_wp2_with fail
        have hset := HM.out.setQ true
        go_ret
        exact ⟨by rw [HT.out]; rfl, by rw [HT.out]; exact hset, hP _ _ _ HB.out⟩
      · have t1 : ((c.toNat : Int) == 34) = false := tF 34 e1 (by decide)
        by_cases e2 : c = 40
        · have HT : Hid (takeB m c = (3, { m with r := 1 })) := hide (by unfold takeB; rw [hq, if_neg (by decide), if_neg h0, if_neg e1, if_pos e2])
          have t2 : ((c.toNat : Int) == 40) = true := tT 40 e2 (by decide)
          clear e1 e2 hr h hB hq h0
          go_enter Tryz.func94, Tryz.ntmps94
          go_wp2_with fail
          have hset := HM.out.setR 1
          go_ret
          exact ⟨by rw [HT.out]; rfl, by rw [HT.out]; exact hset, hP _ _ _ HB.out⟩
        · have HT : Hid (takeB m c = (0, m)) := hide (by unfold takeB; rw [hq, if_neg (by decide), if_neg h0, if_neg e1, if_neg e2])
          have t2 : ((c.toNat : Int) == 40) = false := tF 40 e2 (by decide)
          clear e1 e2 hr h hB hq h0
          go_enter Tryz.func94, Tryz.ntmps94
          go_wp2_with fail
          go_ret
          exact ⟨by rw [HT.out]; rfl, by rw [HT.out]; exact HM.out, HB.out⟩
end Go.Proofs.YtnckbdkofbhilaaGreatDoor
