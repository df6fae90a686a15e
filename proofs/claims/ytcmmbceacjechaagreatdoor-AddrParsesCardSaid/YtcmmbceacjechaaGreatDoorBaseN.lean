/- More of the first texts of this claim in one: each with its own head. No statement is proved here. -/
import Derived.Test.YtcmmbceacjechaaGreatDoorBaseM
import Derived.Deep.RegionWith
import Derived.Deep.AppendLies
import Derived.Test.YtcmmbceacjechaaGreatDoorShelf
import Derived.Laws.Runes
import Derived.WalkMore
import Derived.Laws.RangeAny
import Derived.Shelf.Strings.IndexAnyAll
import Derived.Shelf.Strings.SlTrimAscii
import Derived.StillTailTactics
import Derived.Lib.OthersKept
import Derived.Deep.Cut
/- What package addr's machine computes. No statement is proved here. -/
namespace Go.Proofs.YtcmmbceacjechaaGreatDoor
set_option linter.unusedVariables false
set_option linter.unusedSimpArgs false
/-- what is open: quotes, how many remarks, does the byte that comes belong to a pair -/
structure MSt where
  q : Bool
  r : Nat
  p : Bool
/-- does a byte in a stretch begin a pair or belong to one -/
def inPairB (p : Bool) (c : UInt8) : Bool := p || c == 92
def nextP (p : Bool) (c : UInt8) : Bool := !p && c == 92
/-- a byte while a remark is open: where it stands, what is open behind it -/
def takeR (m : MSt) (c : UInt8) : Nat × MSt :=
  if inPairB m.p c then (2, { m with p := nextP m.p c })
  else
    let r' := if c = 40 then m.r + 1 else if c = 41 then m.r - 1 else m.r
    (if r' = 0 then 3 else 2, { m with r := r', p := nextP m.p c })
def takeB (m : MSt) (c : UInt8) : Nat × MSt :=
  if m.q then (1, { m with q := inPairB m.p c || c != 34, p := nextP m.p c })
  else if 0 < m.r then takeR m c
  else if c = 34 then (1, { m with q := true })
  else if c = 40 then (3, { m with r := 1 })
  else (0, m)
/-- where each byte of a text stands -/
def placesM : MSt → List UInt8 → List Nat
  | _, [] => []
  | m, c :: l => (takeB m c).1 :: placesM (takeB m c).2 l
end Go.Proofs.YtcmmbceacjechaaGreatDoor

/- WALKS of package addr's machine. No statement is proved here. -/
namespace Go.Proofs.YtcmmbceacjechaaGreatDoor
open Go.RowKit
set_option linter.unusedVariables false
set_option linter.unusedSimpArgs false
set_option maxRecDepth 100000
/-- the machine in memory -/
def MAt (b : Nat) (m : MSt) (w : World) : Prop :=
  w.cell? ⟨b, 0, none⟩ = some (.bool m.q) ∧ w.cell? ⟨b, 1, none⟩ = some (.int .i64 m.r) ∧ w.cell? ⟨b, 2, none⟩ = some (.bool m.p) ∧ ∀ i : Nat, w.frozen? ⟨b, i, none⟩ = false
theorem mne {b i j : Nat} (h : i ≠ j) : (⟨b, i, none⟩ : Addr) ≠ ⟨b, j, none⟩ := fun e => h (by injection e)
theorem MAt.setP {b : Nat} {m : MSt} {w : World} (h : MAt b m w) (p : Bool) : MAt b { m with p := p } (w.setCell ⟨b, 2, none⟩ (.bool p)) :=
  ⟨(World.cell?_setCell_other _ _ _ _ (mne (by decide))).trans h.1, (World.cell?_setCell_other _ _ _ _ (mne (by decide))).trans h.2.1, World.cell?_setCell_same _ _ _ h.2.2.1, fun i => by rw [World.frozen?_setCell]; exact h.2.2.2 i⟩
theorem MAt.setR {b : Nat} {m : MSt} {w : World} (h : MAt b m w) (r : Nat) : MAt b { m with r := r } (w.setCell ⟨b, 1, none⟩ (.int .i64 r)) :=
  ⟨(World.cell?_setCell_other _ _ _ _ (mne (by decide))).trans h.1, World.cell?_setCell_same _ _ _ h.2.1, (World.cell?_setCell_other _ _ _ _ (mne (by decide))).trans h.2.2.1, fun i => by rw [World.frozen?_setCell]; exact h.2.2.2 i⟩
theorem MAt.setQ {b : Nat} {m : MSt} {w : World} (h : MAt b m w) (q : Bool) : MAt b { m with q := q } (w.setCell ⟨b, 0, none⟩ (.bool q)) :=
  ⟨World.cell?_setCell_same _ _ _ h.1, (World.cell?_setCell_other _ _ _ _ (mne (by decide))).trans h.2.1, (World.cell?_setCell_other _ _ _ _ (mne (by decide))).trans h.2.2.1, fun i => by rw [World.frozen?_setCell]; exact h.2.2.2 i⟩
set_option maxHeartbeats 1000000 in
theorem inPair_any (b : Nat) (m : MSt) (c : UInt8) (w : World) (h : MAt b m w) :
    Calls Tryz.prog 206 #[.pointer (some ⟨b, 0, none⟩), .int .u8 c.toNat] w fun e w' => e = .returned (.bool (inPairB m.p c)) ∧ MAt b { m with p := nextP m.p c } w' ∧ w' = w.setCell ⟨b, 2, none⟩ (.bool (nextP m.p c)) := by
  have HM := hide h
  obtain ⟨q, r, p⟩ := m
  obtain ⟨h0, h1, h2, hf⟩ := h
  have f2 := hf 2
  have HP := fun v => hide (HM.out.setP v)
  clear h0 h1 hf
  go_enter Tryz.func206, Tryz.ntmps206
  cases p with
  | true =>
    go_wp2_with fail
    go_ret
    exact ⟨rfl, (HP false).out, rfl⟩
  | false =>
    by_cases e : c = 92
    · have t1 : ((c.toNat : Int) == 92) = true := tT 92 e (by omega)
      have n1 : nextP false c = true := by rw [e]; rfl
      have i1 : inPairB false c = true := by rw [e]; rfl
      clear e
      go_wp2_with fail
      go_ret
      exact ⟨rfl, (HP true).out, rfl⟩
    · have t1 : ((c.toNat : Int) == 92) = false := tF 92 e (by omega)
      have n1 : nextP false c = false := by unfold nextP; rw [beq_eq_false_iff_ne.2 e]; rfl
      have i1 : inPairB false c = false := by unfold inPairB; rw [beq_eq_false_iff_ne.2 e]; rfl
      clear e
      go_wp2_with fail
      go_ret
      exact ⟨rfl, (HP false).out, rfl⟩
set_option maxHeartbeats 1600000 in
theorem takeR_any (b : Nat) (m : MSt) (c : UInt8) (P : World → Prop) (hP : ∀ w i v, P w → P (w.setCell ⟨b, i, none⟩ v)) (w : World) (h : MAt b m w) (hB : P w) (hr : m.r ≤ 70368744177664) (hr0 : 0 < m.r) :
    Calls Tryz.prog 207 #[.pointer (some ⟨b, 0, none⟩), .int .u8 c.toNat] w fun e w' => e = .returned (.int .i64 (takeR m c).1) ∧ MAt b (takeR m c).2 w' ∧ P w' := by
  have HC := hide (inPair_any b m c w h)
  have HB := hide hB
  cases hi : inPairB m.p c with
  | true =>
    have HT : Hid (takeR m c = (2, { m with p := nextP m.p c })) := hide (by unfold takeR; rw [hi]; rfl)
    rw [hi] at HC
    clear h hi hr0 hr hB
    go_enter Tryz.func207, Tryz.ntmps207
    go_wp2_with (go_at_call 206; refine HC.out.mono ?_; rintro e w1 ⟨rfl, hm1, rfl⟩; have HM1 := hide hm1; clear hm1)
    go_ret
    exact ⟨by rw [HT.out]; rfl, by rw [HT.out]; exact HM1.out, hP _ _ _ HB.out⟩
  | false =>
    rw [hi] at HC
    obtain ⟨q, r, p⟩ := m
    have HT : Hid (takeR ⟨q, r, p⟩ c = (if (if c = 40 then r + 1 else if c = 41 then r - 1 else r) = 0 then 3 else 2, ⟨q, (if c = 40 then r + 1 else if c = 41 then r - 1 else r), nextP p c⟩)) := hide (by unfold takeR; rw [hi]; rfl)
    clear h hi hB
    obtain ⟨k, rfl⟩ : ∃ k, r = k + 1 := ⟨r - 1, (Nat.sub_add_cancel hr0).symm⟩
    have hk : k ≤ 70368744177664 := Nat.le_trans (Nat.le_succ k) hr
    clear hr hr0
    by_cases e1 : c = 40
    · have t1 : ((c.toNat : Int) == 40) = true := tT 40 e1 (by decide)
      rw [if_pos e1, if_neg (Nat.succ_ne_zero _)] at HT
      clear e1
      go_enter Tryz.func207, Tryz.ntmps207
      go_wp2_with (go_at_call 206; refine HC.out.mono ?_; rintro e w1 ⟨rfl, hm1, hw1⟩; have HM1 := hide hm1; have HW1 := hide hw1; have k1 := hm1.2.1; have z1 := hm1.2.2.2 1; clear hm1 hw1)
      have hset := HM1.out.setR (k + 1 + 1)
      rw [show ((k + 1 + 1 : Nat) : Int) = (k : Int) + 1 + 1 from rfl] at hset
      have HW := hide (HW1.out ▸ hP _ 2 _ HB.out)
      go_ret
      exact ⟨by rw [HT.out]; rfl, by rw [HT.out]; exact hset, hP _ _ _ HW.out⟩
    · have t1 : ((c.toNat : Int) == 40) = false := tF 40 e1 (by decide)
      rw [if_neg e1] at HT
      by_cases e2 : c = 41
      · have t2 : ((c.toNat : Int) == 41) = true := tT 41 e2 (by decide)
        rw [if_pos e2, Nat.add_sub_cancel] at HT
        clear e1 e2
        cases k with
        | zero =>
          go_enter Tryz.func207, Tryz.ntmps207
          go_wp2_with (go_at_call 206; refine HC.out.mono ?_; rintro e w1 ⟨rfl, hm1, hw1⟩; have HM1 := hide hm1; have HW1 := hide hw1; have k1 : w1.cell? ⟨b, 1, none⟩ = some (.int .i64 1) := hm1.2.1; have z1 := hm1.2.2.2 1; clear hm1 hw1)
          have hset := HM1.out.setR 0
          have HW := hide (HW1.out ▸ hP _ 2 _ HB.out)
          go_ret
          exact ⟨by rw [HT.out]; rfl, by rw [HT.out]; exact hset, hP _ _ _ HW.out⟩
        | succ k =>
          rw [if_neg (Nat.succ_ne_zero _)] at HT
          go_enter Tryz.func207, Tryz.ntmps207
          go_wp2_with (go_at_call 206; refine HC.out.mono ?_; rintro e w1 ⟨rfl, hm1, hw1⟩; have HM1 := hide hm1; have HW1 := hide hw1; have k1 : w1.cell? ⟨b, 1, none⟩ = some (.int .i64 ((k : Int) + 1 + 1)) := hm1.2.1; have z1 := hm1.2.2.2 1; clear hm1 hw1)
          have hset := HM1.out.setR (k + 1)
          rw [show ((k + 1 : Nat) : Int) = (k : Int) + 1 from rfl] at hset
          have HW := hide (HW1.out ▸ hP _ 2 _ HB.out)
          go_ret
          exact ⟨by rw [HT.out]; rfl, by rw [HT.out]; exact hset, hP _ _ _ HW.out⟩
      · have t2 : ((c.toNat : Int) == 41) = false := tF 41 e2 (by decide)
        rw [if_neg e2, if_neg (Nat.succ_ne_zero _)] at HT
        clear e1 e2
        go_enter Tryz.func207, Tryz.ntmps207
        go_wp2_with (go_at_call 206; refine HC.out.mono ?_; rintro e w1 ⟨rfl, hm1, hw1⟩; have HM1 := hide hm1; have HW1 := hide hw1; have k1 : w1.cell? ⟨b, 1, none⟩ = some (.int .i64 ((k : Int) + 1)) := hm1.2.1; have z1 := hm1.2.2.2 1; clear hm1 hw1)
        have HW := hide (HW1.out ▸ hP _ 2 _ HB.out)
        go_ret
        exact ⟨by rw [HT.out]; rfl, by rw [HT.out]; exact HM1.out, HW.out⟩
set_option maxHeartbeats 1600000 in
/-- one byte -/
theorem take_any (b : Nat) (m : MSt) (c : UInt8) (P : World → Prop) (hP : ∀ w i v, P w → P (w.setCell ⟨b, i, none⟩ v)) (w : World) (h : MAt b m w) (hB : P w) (hr : m.r ≤ 70368744177664) :
    Calls Tryz.prog 163 #[.pointer (some ⟨b, 0, none⟩), .int .u8 c.toNat] w fun e w' => e = .returned (.int .i64 (takeB m c).1) ∧ MAt b (takeB m c).2 w' ∧ P w' := by
  have HB := hide hB
  have HM := hide h
  cases hq : m.q with
  | true =>
    have HC := hide (inPair_any b m c w h)
    have HT : Hid (takeB m c = (1, { m with q := inPairB m.p c || c != 34, p := nextP m.p c })) := hide (by unfold takeB; rw [hq]; rfl)
    have k0 : w.cell? ⟨b, 0, none⟩ = some (.bool true) := by rw [← hq]; exact h.1
    clear h hq hr hB
    obtain ⟨q, r, p⟩ := m
    have e34 : ((c.toNat : Int) != 34) = (c != 34) := by
      by_cases e : c = 34
      · rw [e]; rfl
      · have : ((c.toNat : Int) == 34) = false := tF (c := c) 34 e (by decide)
        show (!((c.toNat : Int) == 34)) = (!(c == 34))
        rw [this, beq_eq_false_iff_ne.2 e]
    cases hi : inPairB p c with
    | true =>
      rw [show inPairB (MSt.mk q r p).p c = true from hi] at HC HT
      go_enter Tryz.func163, Tryz.ntmps163
      go_wp2_with (go_at_call 206; refine HC.out.mono ?_; rintro e w1 ⟨rfl, hm1, hw1⟩; have HM1 := hide hm1; have HW1 := hide hw1; have k1 := hm1.1; have z1 := hm1.2.2.2 0; clear hm1 hw1)
      have HW := hide (HW1.out ▸ hP _ 2 _ HB.out)
      have hset := HM1.out.setQ true
      go_ret
      exact ⟨by rw [HT.out]; rfl, by rw [HT.out]; exact hset, hP _ _ _ HW.out⟩
    | false =>
      rw [show inPairB (MSt.mk q r p).p c = false from hi] at HC HT
      go_enter Tryz.func163, Tryz.ntmps163
      go_wp2_with (go_at_call 206; refine HC.out.mono ?_; rintro e w1 ⟨rfl, hm1, hw1⟩; have HM1 := hide hm1; have HW1 := hide hw1; have k1 := hm1.1; have z1 := hm1.2.2.2 0; clear hm1 hw1)
      have HW := hide (HW1.out ▸ hP _ 2 _ HB.out)
      have hset := HM1.out.setQ (c != 34)
      go_ret
      exact ⟨by rw [HT.out]; rfl, by rw [HT.out]; exact hset, hP _ _ _ HW.out⟩
  | false =>
    have k0 : w.cell? ⟨b, 0, none⟩ = some (.bool false) := by rw [← hq]; exact h.1
    have k1 := h.2.1
    have z0 := h.2.2.2 0
    have z1 := h.2.2.2 1
    by_cases h0 : 0 < m.r
    · have HC := hide (takeR_any b m c P hP w h hB hr h0)
      have HT : Hid (takeB m c = takeR m c) := hide (by unfold takeB; rw [hq, if_neg (by decide), if_pos h0])
      have t0 : decide ((m.r : Int) > 0) = true := decide_eq_true (by omega)
      clear hr hB h hq
      go_enter Tryz.func163, Tryz.ntmps163
      go_wp2_with (go_at_call 207; refine HC.out.mono ?_; rintro e w1 ⟨rfl, hm1, hb1⟩; have HM1 := hide hm1; have HB1 := hide hb1; clear hm1 hb1)
      go_ret
      exact ⟨by rw [HT.out]; rfl, by rw [HT.out]; exact HM1.out, HB1.out⟩
    · have r0 : m.r = 0 := Nat.eq_zero_of_not_pos h0
      rw [r0] at k1
      by_cases e1 : c = 34
      · have HT : Hid (takeB m c = (1, { m with q := true })) := hide (by unfold takeB; rw [hq, if_neg (by decide), if_neg h0, if_pos e1])
        have t1 : ((c.toNat : Int) == 34) = true := tT 34 e1 (by decide)
        clear e1 hr h hB hq h0
        go_enter Tryz.func163, Tryz.ntmps163
        go_wp2_with fail
        have hset := HM.out.setQ true
        go_ret
        exact ⟨by rw [HT.out]; rfl, by rw [HT.out]; exact hset, hP _ _ _ HB.out⟩
      · have t1 : ((c.toNat : Int) == 34) = false := tF 34 e1 (by decide)
        by_cases e2 : c = 40
        · have HT : Hid (takeB m c = (3, { m with r := 1 })) := hide (by unfold takeB; rw [hq, if_neg (by decide), if_neg h0, if_neg e1, if_pos e2])
          have t2 : ((c.toNat : Int) == 40) = true := tT 40 e2 (by decide)
          clear e1 e2 hr h hB hq h0
          go_enter Tryz.func163, Tryz.ntmps163
          go_wp2_with fail
          have hset := HM.out.setR 1
          go_ret
          exact ⟨by rw [HT.out]; rfl, by rw [HT.out]; exact hset, hP _ _ _ HB.out⟩
        · have HT : Hid (takeB m c = (0, m)) := hide (by unfold takeB; rw [hq, if_neg (by decide), if_neg h0, if_neg e1, if_neg e2])
          have t2 : ((c.toNat : Int) == 40) = false := tF 40 e2 (by decide)
          clear e1 e2 hr h hB hq h0
          go_enter Tryz.func163, Tryz.ntmps163
          go_wp2_with fail
          go_ret
          exact ⟨by rw [HT.out]; rfl, by rw [HT.out]; exact HM.out, HB.out⟩
end Go.Proofs.YtcmmbceacjechaaGreatDoor

/- WALK of addr.walk with a function that the caller knows by a contract. No statement is proved here. -/
namespace Go.Proofs.YtcmmbceacjechaaGreatDoor
open Go.RowKit
set_option linter.unusedVariables false
set_option linter.unusedSimpArgs false
set_option maxRecDepth 100000
/-- what is open ahead of byte k -/
def stAt (l : List UInt8) : MSt := l.foldl (fun m c => (takeB m c).2) ⟨false, 0, false⟩
theorem stAt_snoc (l : List UInt8) (c : UInt8) : stAt (l ++ [c]) = (takeB (stAt l) c).2 := by unfold stAt; rw [List.foldl_append]; rfl
theorem takeB_r (m : MSt) (c : UInt8) : (takeB m c).2.r ≤ m.r + 1 := by
  unfold takeB
  split
  · exact Nat.le_succ _
  · split
    · unfold takeR
      split
      · exact Nat.le_succ _
      · simp only []
        split
        · exact Nat.le_refl _
        · split
          · exact Nat.le_trans (Nat.sub_le _ _) (Nat.le_succ _)
          · exact Nat.le_succ _
    · split
      · exact Nat.le_succ _
      · split
        · exact Nat.succ_le_succ (Nat.zero_le _)
        · exact Nat.le_succ _
theorem stAt_r (s : ByteArray) (k : Nat) (h : k ≤ s.size) : (stAt (s.data.toList.take k)).r ≤ k := by
  induction k with
  | zero => exact Nat.le_refl _
  | succ n ih =>
    rw [take_snoc s n h, stAt_snoc]
    exact Nat.le_trans (takeB_r _ _) (Nat.succ_le_succ (ih (Nat.le_of_lt h)))
/-- where byte k stands -/
def placeAt (s : ByteArray) (k : Nat) (h : k < s.size) : Nat := (takeB (stAt (s.data.toList.take k)) s[k]).1
theorem MAt.block {b : Nat} {m : MSt} {w w' : World} (h : MAt b m w) (hb : w'.heap[b]? = w.heap[b]?) : MAt b m w' :=
  ⟨(World.cell?_of_block (w := w) hb).trans h.1, (World.cell?_of_block (w := w) hb).trans h.2.1, (World.cell?_of_block (w := w) hb).trans h.2.2.1, fun i => (World.frozen?_of_block (w := w) hb).trans (h.2.2.2 i)⟩
theorem MAt.drew {b : Nat} {m : MSt} {w : World} (h : MAt b m w) : MAt b m w.drew := h
set_option maxHeartbeats 1600000 in
theorem walk_box (s : ByteArray) (cap : Array Value) (w : World) (I : Nat → World → Prop) (hs : s.size ≤ 1048576)
    (h0 : I 0 (w.alloc (.cells #[.bool false, .int .i64 0, .bool false] 147)))
    (hI : ∀ k w' i v, I k w' → I k (w'.setCell ⟨w.heap.size, i, none⟩ v)) (hD : ∀ k w', I k w' → I k w'.drew)
    (hstep : ∀ k (h : k < s.size) w', I k w' → Calls Tryz.prog 113 (#[.int .i64 k, .int .u8 s[k].toNat, .int .i64 (placeAt s k h)] ++ cap) w' fun e w2 => e = .returned (.tuple #[]) ∧ I (k + 1) w2 ∧ w2.heap[w.heap.size]? = w'.heap[w.heap.size]?) :
    Calls Tryz.prog 112 #[.string s, .func (.func 113) #[] cap] w fun e w' => e = .returned (.tuple #[]) ∧ I s.size w' := by
  go_enter Tryz.func112, Tryz.ntmps112
  go_wp2_with fail
  go_loopw [8] (fun i wr => ∃ k : Nat, k ≤ s.size ∧ i = .int .i64 k ∧ Hid (MAt w.heap.size (stAt (s.data.toList.take k)) wr) ∧ Hid (I k wr)) (fun i _ => s.size - (intOf i).toNat)
  case atStart => exact ⟨0, Nat.zero_le _, rfl, hide ⟨by rw [World.cell?_alloc_at _ _ _ _ rfl]; rfl, by rw [World.cell?_alloc_at _ _ _ _ rfl]; rfl, by rw [World.cell?_alloc_at _ _ _ _ rfl]; rfl, fun i => World.frozen?_alloc_at _ _ _ _ rfl⟩, hide h0⟩
  case round =>
    obtain ⟨k, hk, rfl, HM, HI⟩ := hrel
    by_cases hlt : k < s.size
    · have HT := fun (w1 : World) (h : MAt w.heap.size (stAt (s.data.toList.take k)) w1) (hi : I k w1) => hide (take_any w.heap.size (stAt (s.data.toList.take k)) s[k] (I k) (hI k) w1 h hi (Nat.le_trans (stAt_r s k hk) (Nat.le_trans hk (Nat.le_trans hs (by decide)))))
      have HS := hide (hstep k hlt)
      have hst : Hid ((takeB (stAt (s.data.toList.take k)) s[k]).2 = stAt (s.data.toList.take (k + 1))) := hide (by rw [take_snoc s k hlt, stAt_snoc])
      have HD := hide hD
      clear hI hstep h0 hD
      go_wp2_with fail
      go_region_with (first
        | (refine (HT _ HM.out.drew (HD.out _ _ HI.out)).out.mono ?_; rintro e w1 ⟨rfl, hm1, hi1⟩; have HM1 := hide hm1; have HI1 := hide hi1; clear hm1 hi1)
        | (refine (HS.out _ HI1.out).mono ?_; rintro e w2 ⟨rfl, hi2, hm2⟩; have HM2 := hide (HM1.out.block hm2); have HI2 := hide hi2; clear hi2 hm2))
      all_goals
        rw [hst.out] at HM2
        go_wp2_with fail
        go_round
        case rel => exact ⟨k + 1, by omega, by go_num, HM2, HI2⟩
        case measure => simp [intOf]; omega
    · have hk2 : k = s.size := by omega
      subst hk2
      have HE : Hid (I s.size wr) := HI
      go_wp2_with fail
      go_end0
      exact ⟨rfl, HE.out⟩
set_option maxHeartbeats 1600000 in
theorem walk_angled (s : ByteArray) (cap : Array Value) (w : World) (I : Nat → World → Prop) (hs : s.size ≤ 1048576)
    (h0 : I 0 (w.alloc (.cells #[.bool false, .int .i64 0, .bool false] 147)))
    (hI : ∀ k w' i v, I k w' → I k (w'.setCell ⟨w.heap.size, i, none⟩ v)) (hD : ∀ k w', I k w' → I k w'.drew)
    (hstep : ∀ k (h : k < s.size) w', I k w' → Calls Tryz.prog 164 (#[.int .i64 k, .int .u8 s[k].toNat, .int .i64 (placeAt s k h)] ++ cap) w' fun e w2 => e = .returned (.tuple #[]) ∧ I (k + 1) w2 ∧ w2.heap[w.heap.size]? = w'.heap[w.heap.size]?) :
    Calls Tryz.prog 112 #[.string s, .func (.func 164) #[] cap] w fun e w' => e = .returned (.tuple #[]) ∧ I s.size w' := by
  go_enter Tryz.func112, Tryz.ntmps112
  go_wp2_with fail
  go_loopw [8] (fun i wr => ∃ k : Nat, k ≤ s.size ∧ i = .int .i64 k ∧ Hid (MAt w.heap.size (stAt (s.data.toList.take k)) wr) ∧ Hid (I k wr)) (fun i _ => s.size - (intOf i).toNat)
  case atStart => exact ⟨0, Nat.zero_le _, rfl, hide ⟨by rw [World.cell?_alloc_at _ _ _ _ rfl]; rfl, by rw [World.cell?_alloc_at _ _ _ _ rfl]; rfl, by rw [World.cell?_alloc_at _ _ _ _ rfl]; rfl, fun i => World.frozen?_alloc_at _ _ _ _ rfl⟩, hide h0⟩
  case round =>
    obtain ⟨k, hk, rfl, HM, HI⟩ := hrel
    by_cases hlt : k < s.size
    · have HT := fun (w1 : World) (h : MAt w.heap.size (stAt (s.data.toList.take k)) w1) (hi : I k w1) => hide (take_any w.heap.size (stAt (s.data.toList.take k)) s[k] (I k) (hI k) w1 h hi (Nat.le_trans (stAt_r s k hk) (Nat.le_trans hk (Nat.le_trans hs (by decide)))))
      have HS := hide (hstep k hlt)
      have hst : Hid ((takeB (stAt (s.data.toList.take k)) s[k]).2 = stAt (s.data.toList.take (k + 1))) := hide (by rw [take_snoc s k hlt, stAt_snoc])
      have HD := hide hD
      clear hI hstep h0 hD
      go_wp2_with fail
      go_region_with (first
        | (refine (HT _ HM.out.drew (HD.out _ _ HI.out)).out.mono ?_; rintro e w1 ⟨rfl, hm1, hi1⟩; have HM1 := hide hm1; have HI1 := hide hi1; clear hm1 hi1)
        | (refine (HS.out _ HI1.out).mono ?_; rintro e w2 ⟨rfl, hi2, hm2⟩; have HM2 := hide (HM1.out.block hm2); have HI2 := hide hi2; clear hi2 hm2))
      all_goals
        rw [hst.out] at HM2
        go_wp2_with fail
        go_round
        case rel => exact ⟨k + 1, by omega, by go_num, HM2, HI2⟩
        case measure => simp [intOf]; omega
    · have hk2 : k = s.size := by omega
      subst hk2
      have HE : Hid (I s.size wr) := HI
      go_wp2_with fail
      go_end0
      exact ⟨rfl, HE.out⟩
set_option maxHeartbeats 1600000 in
theorem walk_remarked (s : ByteArray) (cap : Array Value) (w : World) (I : Nat → World → Prop) (hs : s.size ≤ 1048576)
    (h0 : I 0 (w.alloc (.cells #[.bool false, .int .i64 0, .bool false] 147)))
    (hI : ∀ k w' i v, I k w' → I k (w'.setCell ⟨w.heap.size, i, none⟩ v)) (hD : ∀ k w', I k w' → I k w'.drew)
    (hstep : ∀ k (h : k < s.size) w', I k w' → Calls Tryz.prog 165 (#[.int .i64 k, .int .u8 s[k].toNat, .int .i64 (placeAt s k h)] ++ cap) w' fun e w2 => e = .returned (.tuple #[]) ∧ I (k + 1) w2 ∧ w2.heap[w.heap.size]? = w'.heap[w.heap.size]?) :
    Calls Tryz.prog 112 #[.string s, .func (.func 165) #[] cap] w fun e w' => e = .returned (.tuple #[]) ∧ I s.size w' := by
  go_enter Tryz.func112, Tryz.ntmps112
  go_wp2_with fail
  go_loopw [8] (fun i wr => ∃ k : Nat, k ≤ s.size ∧ i = .int .i64 k ∧ Hid (MAt w.heap.size (stAt (s.data.toList.take k)) wr) ∧ Hid (I k wr)) (fun i _ => s.size - (intOf i).toNat)
  case atStart => exact ⟨0, Nat.zero_le _, rfl, hide ⟨by rw [World.cell?_alloc_at _ _ _ _ rfl]; rfl, by rw [World.cell?_alloc_at _ _ _ _ rfl]; rfl, by rw [World.cell?_alloc_at _ _ _ _ rfl]; rfl, fun i => World.frozen?_alloc_at _ _ _ _ rfl⟩, hide h0⟩
  case round =>
    obtain ⟨k, hk, rfl, HM, HI⟩ := hrel
    by_cases hlt : k < s.size
    · have HT := fun (w1 : World) (h : MAt w.heap.size (stAt (s.data.toList.take k)) w1) (hi : I k w1) => hide (take_any w.heap.size (stAt (s.data.toList.take k)) s[k] (I k) (hI k) w1 h hi (Nat.le_trans (stAt_r s k hk) (Nat.le_trans hk (Nat.le_trans hs (by decide)))))
      have HS := hide (hstep k hlt)
      have hst : Hid ((takeB (stAt (s.data.toList.take k)) s[k]).2 = stAt (s.data.toList.take (k + 1))) := hide (by rw [take_snoc s k hlt, stAt_snoc])
      have HD := hide hD
      clear hI hstep h0 hD
      go_wp2_with fail
      go_region_with (first
        | (refine (HT _ HM.out.drew (HD.out _ _ HI.out)).out.mono ?_; rintro e w1 ⟨rfl, hm1, hi1⟩; have HM1 := hide hm1; have HI1 := hide hi1; clear hm1 hi1)
        | (refine (HS.out _ HI1.out).mono ?_; rintro e w2 ⟨rfl, hi2, hm2⟩; have HM2 := hide (HM1.out.block hm2); have HI2 := hide hi2; clear hi2 hm2))
      all_goals
        rw [hst.out] at HM2
        go_wp2_with fail
        go_round
        case rel => exact ⟨k + 1, by omega, by go_num, HM2, HI2⟩
        case measure => simp [intOf]; omega
    · have hk2 : k = s.size := by omega
      subst hk2
      have HE : Hid (I s.size wr) := HI
      go_wp2_with fail
      go_end0
      exact ⟨rfl, HE.out⟩
end Go.Proofs.YtcmmbceacjechaaGreatDoor

/- WALK of addr.angled. No statement is proved here. -/
namespace Go.Proofs.YtcmmbceacjechaaGreatDoor
open Go.RowKit
set_option linter.unusedVariables false
set_option linter.unusedSimpArgs false
set_option maxRecDepth 100000
/-- where the first `<` and its `>` stand, one byte more -/
def angStep (st : Option Nat × Option Nat) (k : Nat) (c : UInt8) (pl : Nat) : Option Nat × Option Nat :=
  if pl ≠ 0 then st
  else if c = 60 ∧ st.1 = none then (some k, st.2)
  else if c = 62 ∧ st.1 ≠ none ∧ st.2 = none then (st.1, some k)
  else st
def encO : Option Nat → Int
  | none => -1
  | some k => k
def angAt (s : ByteArray) : Nat → Option Nat × Option Nat
  | 0 => (none, none)
  | k + 1 => if h : k < s.size then angStep (angAt s k) k s[k] (placeAt s k h) else angAt s k
theorem angAt_succ (s : ByteArray) (k : Nat) (h : k < s.size) : angAt s (k + 1) = angStep (angAt s k) k s[k] (placeAt s k h) := by
  show (if h : k < s.size then _ else _) = _
  rw [dif_pos h]
/-- both lie within, in their order -/
theorem angAt_bd (s : ByteArray) (k : Nat) : (∀ b, (angAt s k).1 = some b → b < k) ∧ (∀ e, (angAt s k).2 = some e → e < k ∧ ∃ b, (angAt s k).1 = some b ∧ b < e) := by
  induction k with
  | zero => exact ⟨fun b h => (by cases h), fun e h => (by cases h)⟩
  | succ k ih =>
    obtain ⟨i1, i2⟩ := ih
    have base : (∀ b, (angAt s k).1 = some b → b < k + 1) ∧ (∀ e, (angAt s k).2 = some e → e < k + 1 ∧ ∃ b, (angAt s k).1 = some b ∧ b < e) :=
      ⟨fun b h => Nat.lt_succ_of_lt (i1 b h), fun e h => ⟨Nat.lt_succ_of_lt (i2 e h).1, (i2 e h).2⟩⟩
    by_cases hk : k < s.size
    · rw [angAt_succ s k hk]
      unfold angStep
      split
      · exact base
      · split
        · rename_i h
          refine ⟨fun b hb => by injection hb with hb; omega, fun e he => ?_⟩
          obtain ⟨_, b, hb, _⟩ := i2 e he
          rw [h.2] at hb; cases hb
        · split
          · rename_i h
            refine ⟨base.1, fun e he => ?_⟩
            injection he with he
            subst he
            obtain ⟨b, hb⟩ := Option.ne_none_iff_exists'.1 h.2.1
            exact ⟨Nat.lt_succ_self _, b, hb, i1 b hb⟩
          · exact base
    · have e : angAt s (k + 1) = angAt s k := by show (if h : k < s.size then _ else _) = _; rw [dif_neg hk]
      rw [e]; exact base
set_option maxHeartbeats 1000000 in
theorem ang_step (k : Nat) (c : UInt8) (pl : Nat) (st : Option Nat × Option Nat) (b1 b2 : Nat) (w : World) (h1 : Box w b1 3 (.int .i64 (encO st.1))) (h2 : Box w b2 3 (.int .i64 (encO st.2))) (hne : b1 ≠ b2) :
    Calls Tryz.prog 164 #[.int .i64 k, .int .u8 c.toNat, .int .i64 pl, .pointer (some ⟨b1, 0, none⟩), .pointer (some ⟨b2, 0, none⟩)] w fun e w' => e = .returned (.tuple #[]) ∧
      (Box w' b1 3 (.int .i64 (encO (angStep st k c pl).1)) ∧ Box w' b2 3 (.int .i64 (encO (angStep st k c pl).2))) ∧
      ∀ P : World → Prop, (∀ w b v, b = b1 ∨ b = b2 → P w → P (w.setCell ⟨b, 0, none⟩ v)) → P w → P w' := by
  have H1 := hide h1
  have H2 := hide h2
  have HN := hide hne
  have c1 := h1.cell
  have f1 := h1.free
  have c2 := h2.cell
  have f2 := h2.free
  have stay : ∀ st' : Option Nat × Option Nat, st' = st → (Box w b1 3 (.int .i64 (encO st'.1)) ∧ Box w b2 3 (.int .i64 (encO st'.2))) ∧ ∀ P : World → Prop, (∀ w b v, b = b1 ∨ b = b2 → P w → P (w.setCell ⟨b, 0, none⟩ v)) → P w → P w :=
    fun st' e => by subst e; exact ⟨⟨h1, h2⟩, fun P _ hP => hP⟩
  have ST := hide stay
  obtain ⟨x, y⟩ := st
  have S1 : Hid (∀ v : Int, v = k → (Box (w.setCell ⟨b1, 0, none⟩ (.int .i64 v)) b1 3 (.int .i64 (encO (some k, y).1)) ∧ Box (w.setCell ⟨b1, 0, none⟩ (.int .i64 v)) b2 3 (.int .i64 (encO (some k, y).2))) ∧ ∀ P : World → Prop, (∀ w b v, b = b1 ∨ b = b2 → P w → P (w.setCell ⟨b, 0, none⟩ v)) → P w → P (w.setCell ⟨b1, 0, none⟩ (.int .i64 v))) :=
    hide fun v hv => by subst hv; exact ⟨⟨h1.set _, h2.far (Ne.symm hne) _⟩, fun P hS hP => hS _ _ _ (.inl rfl) hP⟩
  have S2 : Hid (∀ v : Int, v = k → (Box (w.setCell ⟨b2, 0, none⟩ (.int .i64 v)) b1 3 (.int .i64 (encO (x, some k).1)) ∧ Box (w.setCell ⟨b2, 0, none⟩ (.int .i64 v)) b2 3 (.int .i64 (encO (x, some k).2))) ∧ ∀ P : World → Prop, (∀ w b v, b = b1 ∨ b = b2 → P w → P (w.setCell ⟨b, 0, none⟩ v)) → P w → P (w.setCell ⟨b2, 0, none⟩ (.int .i64 v))) :=
    hide fun v hv => by subst hv; exact ⟨⟨h1.far hne _, h2.set _⟩, fun P hS hP => hS _ _ _ (.inr rfl) hP⟩
  clear h1 h2 hne stay
  by_cases p0 : pl = 0
  · subst p0
    by_cases e1 : c = 60
    · have hc1 : ((c.toNat : Int) == 60) = true := tT 60 e1 (by decide)
      have hc2 : ((c.toNat : Int) == 62) = false := tF 62 (by rw [e1]; decide) (by decide)
      cases x with
      | none =>
        have HS : Hid (angStep (none, y) k c 0 = (some k, y)) := hide (by unfold angStep; rw [if_neg (by decide), if_pos ⟨e1, rfl⟩])
        have c1' : w.cell? ⟨b1, 0, none⟩ = some (.int .i64 (-1)) := c1
        clear e1 c1
        go_enter Tryz.func164, Tryz.ntmps164
        go_wp2_with fail
        go_end0
        exact ⟨rfl, by rw [HS.out]; exact S1.out _ rfl⟩
      | some b =>
        have HS : Hid (angStep (some b, y) k c 0 = (some b, y)) := hide (by unfold angStep; rw [if_neg (by decide), if_neg (fun h => by cases h.2), if_neg (fun h => by rw [e1] at h; exact absurd h.1 (by decide))])
        have c1' : w.cell? ⟨b1, 0, none⟩ = some (.int .i64 (b : Int)) := c1
        have t1 : decide ((b : Int) < 0) = false := decide_eq_false (by omega)
        clear e1 c1
        go_enter Tryz.func164, Tryz.ntmps164
        go_wp2_with fail
        go_end0
        exact ⟨rfl, ST.out _ HS.out⟩
    · have hc1 : ((c.toNat : Int) == 60) = false := tF 60 e1 (by decide)
      by_cases e2 : c = 62
      · have hc2 : ((c.toNat : Int) == 62) = true := tT 62 e2 (by decide)
        cases x with
        | none =>
          have HS : Hid (angStep (none, y) k c 0 = (none, y)) := hide (by unfold angStep; rw [if_neg (by decide), if_neg (fun h => e1 h.1), if_neg (fun h => h.2.1 rfl)])
          have c1' : w.cell? ⟨b1, 0, none⟩ = some (.int .i64 (-1)) := c1
          clear e1 e2 c1
          go_enter Tryz.func164, Tryz.ntmps164
          go_wp2_with fail
          go_end0
          exact ⟨rfl, ST.out _ HS.out⟩
        | some b =>
          have c1' : w.cell? ⟨b1, 0, none⟩ = some (.int .i64 (b : Int)) := c1
          have t1 : decide ((b : Int) ≥ 0) = true := decide_eq_true (by omega)
          cases y with
          | none =>
            have HS : Hid (angStep (some b, none) k c 0 = (some b, some k)) := hide (by unfold angStep; rw [if_neg (by decide), if_neg (fun h => e1 h.1), if_pos ⟨e2, by simp, rfl⟩])
            have c2' : w.cell? ⟨b2, 0, none⟩ = some (.int .i64 (-1)) := c2
            clear e1 e2 c1 c2
            go_enter Tryz.func164, Tryz.ntmps164
            go_wp2_with fail
            go_end0
            exact ⟨rfl, by rw [HS.out]; exact S2.out _ rfl⟩
          | some d =>
            have HS : Hid (angStep (some b, some d) k c 0 = (some b, some d)) := hide (by unfold angStep; rw [if_neg (by decide), if_neg (fun h => e1 h.1), if_neg (fun h => by cases h.2.2)])
            have c2' : w.cell? ⟨b2, 0, none⟩ = some (.int .i64 (d : Int)) := c2
            have t2 : decide ((d : Int) < 0) = false := decide_eq_false (by omega)
            clear e1 e2 c1 c2
            go_enter Tryz.func164, Tryz.ntmps164
            go_wp2_with fail
            go_end0
            exact ⟨rfl, ST.out _ HS.out⟩
      · have hc2 : ((c.toNat : Int) == 62) = false := tF 62 e2 (by decide)
        have HS : Hid (angStep (x, y) k c 0 = (x, y)) := hide (by unfold angStep; rw [if_neg (by decide), if_neg (fun h => e1 h.1), if_neg (fun h => e2 h.1)])
        clear e1 e2
        go_enter Tryz.func164, Tryz.ntmps164
        go_wp2_with fail
        go_end0
        exact ⟨rfl, ST.out _ HS.out⟩
  · have t0 : ((pl : Int) != 0) = true := by rw [bne_iff_ne]; omega
    have HS : Hid (angStep (x, y) k c pl = (x, y)) := hide (by unfold angStep; rw [if_pos p0])
    clear p0
    go_enter Tryz.func164, Tryz.ntmps164
    go_wp2_with fail
    go_end0
    exact ⟨rfl, ST.out _ HS.out⟩
/-- walk with angled's function -/
theorem walk_ang (s : ByteArray) (b1 b2 B : Nat) (W0 w : World) (hs : s.size ≤ 1048576) (h1 : Box w b1 3 (.int .i64 (-1))) (h2 : Box w b2 3 (.int .i64 (-1))) (hne : b1 ≠ b2) (hB1 : B ≤ b1) (hB2 : B ≤ b2) (hB : Below B W0 w) :
    Calls Tryz.prog 112 #[.string s, .func (.func 164) #[] #[.pointer (some ⟨b1, 0, none⟩), .pointer (some ⟨b2, 0, none⟩)]] w fun e w' => e = .returned (.tuple #[]) ∧
      (Box w' b1 3 (.int .i64 (encO (angAt s s.size).1)) ∧ Box w' b2 3 (.int .i64 (encO (angAt s s.size).2)) ∧ Below B W0 w') := by
  have l1 := h1.lt
  have l2 := h2.lt
  have n1 : b1 ≠ w.heap.size := Nat.ne_of_lt l1
  have n2 : b2 ≠ w.heap.size := Nat.ne_of_lt l2
  have hBw : B ≤ w.heap.size := Nat.le_of_lt (Nat.lt_of_le_of_lt hB1 l1)
  refine walk_angled s _ w (fun k w' => Box w' b1 3 (.int .i64 (encO (angAt s k).1)) ∧ Box w' b2 3 (.int .i64 (encO (angAt s k).2)) ∧ Below B W0 w') hs ?_ ?_ ?_ ?_
  · exact ⟨h1.alloc _, h2.alloc _, hB.alloc hBw _⟩
  · rintro k w' i v ⟨i1, i2, i3⟩
    exact ⟨i1.far n1 v, i2.far n2 v, i3.setCell hBw v⟩
  · rintro k w' ⟨i1, i2, i3⟩
    exact ⟨i1.drew, i2.drew, i3.drew⟩
  · rintro k hk w' ⟨i1, i2, i3⟩
    refine (ang_step k s[k] (placeAt s k hk) (angAt s k) b1 b2 w' i1 i2 hne).mono ?_
    rintro e w2 ⟨rfl, ⟨j1, j2⟩, j3⟩
    rw [← angAt_succ s k hk] at j1 j2
    refine ⟨rfl, ⟨j1, j2, j3 (fun x => Below B W0 x) (fun x b v hb hx => hx.setCell ?_ v) i3⟩, j3 (fun x => x.heap[w.heap.size]? = w'.heap[w.heap.size]?) (fun x b v hb hx => (Below.heap_setCell x _ v _ ?_).trans hx) rfl⟩
    · rcases hb with rfl | rfl
      · exact hB1
      · exact hB2
    · rcases hb with rfl | rfl
      · exact Ne.symm n1
      · exact Ne.symm n2
/-- what angled tells -/
def angOut (s : ByteArray) : ByteArray × ByteArray × Bool :=
  match angAt s s.size with
  | (none, _) => (⟨#[]⟩, ⟨#[]⟩, false)
  | (some b, y) => (s.extract 0 b, s.extract (b + 1) (y.getD s.size), true)
set_option maxHeartbeats 1000000 in
theorem angled_any (s : ByteArray) (w : World) (hs : s.size ≤ 1048576) :
    Calls Tryz.prog 114 #[.string s] w fun e w' => e = .returned (.tuple #[.string (angOut s).1, .string (angOut s).2.1, .bool (angOut s).2.2]) ∧ Below w.heap.size w w' := by
  have B1 := (Box.new w 3 (.int .i64 (-1))).alloc (.cells #[.int .i64 (-1)] 3)
  have B2 := Box.new (w.alloc (.cells #[.int .i64 (-1)] 3)) 3 (.int .i64 (-1))
  rw [World.size_alloc] at B2
  have C := hide (walk_ang s w.heap.size (w.heap.size + 1) w.heap.size w _ hs B1 B2 (Nat.ne_of_lt (Nat.lt_succ_self _)) (Nat.le_refl _) (Nat.le_succ _) (((Below.refl w.heap.size w).alloc (Nat.le_refl _) _).alloc (by rw [World.size_alloc]; exact Nat.le_succ _) _))
  obtain ⟨bd1, bd2⟩ := angAt_bd s s.size
  have HO : Hid (angOut s = match angAt s s.size with | (none, _) => (⟨#[]⟩, ⟨#[]⟩, false) | (some b, y) => (s.extract 0 b, s.extract (b + 1) (y.getD s.size), true)) := hide rfl
  obtain ⟨⟨x, y⟩, hA⟩ : ∃ A, angAt s s.size = A := ⟨_, rfl⟩
  rw [hA] at C bd1 bd2 HO
  clear hA B1 B2
  cases x with
  | none =>
    clear bd1 bd2 hs
    go_enter Tryz.func114, Tryz.ntmps114
    go_wp2_with (go_at_call 112; refine C.out.mono ?_; rintro e w1 ⟨rfl, hb1, hb2, hbw⟩; have HW := hide hbw; have c1 : w1.cell? ⟨w.heap.size, 0, none⟩ = some (.int .i64 (-1)) := hb1.cell; clear hb1 hb2 hbw)
    go_ret3
    exact ⟨by rw [HO.out]; rfl, HW.out⟩
  | some b =>
    have hb := bd1 b rfl
    have q1 : decide ((b : Int) < 0) = false := decide_eq_false (by omega)
    have o1 : (b : Int) + 1 ≤ s.size := by omega
    have o0 : (0 : Int) ≤ b := by omega
    have o2 : (b : Int) ≤ s.size := by omega
    have o3 : (0 : Int) ≤ (b : Int) + 1 := by omega
    have o4 : ((b : Int) + 1).toNat = b + 1 := by omega
    cases y with
    | none =>
      clear bd1 bd2
      go_enter Tryz.func114, Tryz.ntmps114
      go_wp2_with (go_at_call 112; refine C.out.mono ?_; rintro e w1 ⟨rfl, hb1, hb2, hbw⟩; have HW : Hid (Below w.heap.size w (w1.setCell ⟨w.heap.size + 1, 0, none⟩ (.int .i64 s.size))) := hide (hbw.setCell (Nat.le_succ _) _); have c1 : w1.cell? ⟨w.heap.size, 0, none⟩ = some (.int .i64 (b : Int)) := hb1.cell; have c2 : w1.cell? ⟨w.heap.size + 1, 0, none⟩ = some (.int .i64 (-1)) := hb2.cell; have f2 := hb2.free; have c3 : (w1.setCell ⟨w.heap.size + 1, 0, none⟩ (.int .i64 s.size)).cell? ⟨w.heap.size, 0, none⟩ = some (.int .i64 (b : Int)) := (hb1.far (Nat.ne_of_lt (Nat.lt_succ_self _)) _).cell; have c4 := (hb2.set (.int .i64 s.size)).cell; clear hb1 hb2 hbw)
      go_region
      all_goals (try go_wp2)
      all_goals
        go_ret3
        exact ⟨by rw [HO.out]; rfl, HW.out.drew⟩
    | some d =>
      obtain ⟨hd, b', hb', hlt⟩ := bd2 d rfl
      obtain rfl : b = b' := by injection hb'
      have q2 : decide ((d : Int) < 0) = false := decide_eq_false (by omega)
      have p1 : (d : Int) ≤ s.size := by omega
      have p2 : (b : Int) + 1 ≤ d := by omega
      have p3 : (0 : Int) ≤ d := by omega
      clear bd1 bd2 hb'
      go_enter Tryz.func114, Tryz.ntmps114
      go_wp2_with (go_at_call 112; refine C.out.mono ?_; rintro e w1 ⟨rfl, hb1, hb2, hbw⟩; have HW := hide hbw; have c1 : w1.cell? ⟨w.heap.size, 0, none⟩ = some (.int .i64 (b : Int)) := hb1.cell; have c2 : w1.cell? ⟨w.heap.size + 1, 0, none⟩ = some (.int .i64 (d : Int)) := hb2.cell; clear hb1 hb2 hbw)
      go_region
      all_goals (try go_wp2)
      all_goals
        go_ret3
        exact ⟨by rw [HO.out]; rfl, HW.out.drew⟩
end Go.Proofs.YtcmmbceacjechaaGreatDoor

/- WALK of addr.unpaired. No statement is proved here. -/
namespace Go.Proofs.YtcmmbceacjechaaGreatDoor
open Go.RowKit
set_option linter.unusedVariables false
set_option linter.unusedSimpArgs false
set_option maxRecDepth 100000
/-- a text without each `\` that belongs to a byte behind it -/
def unpairL : List UInt8 → List UInt8
  | [] => []
  | [c] => [c]
  | c :: d :: r => if c = 92 then d :: unpairL r else c :: unpairL (d :: r)
theorem unpairL_pair (d : UInt8) (r : List UInt8) : unpairL (92 :: d :: r) = d :: unpairL r := by rw [unpairL, if_pos rfl]
theorem unpairL_one (c : UInt8) : unpairL [c] = [c] := by rw [unpairL]
theorem unpairL_other (c : UInt8) (r : List UInt8) (h : c ≠ 92) : unpairL (c :: r) = c :: unpairL r := by
  cases r with
  | nil => rw [unpairL, unpairL]
  | cons d r => rw [unpairL, if_neg h]
theorem dropL_cons (l : List UInt8) (k : Nat) (h : k < l.length) : l.drop k = l[k] :: l.drop (k + 1) := List.drop_eq_getElem_cons h
set_option maxHeartbeats 1600000 in
theorem unpaired_row (g n cap : Nat) (l : List UInt8) (w : World) (hn : l.length = n) (hg : g < w.heap.size) (hc : ∀ j (h : j < l.length), w.cell? ⟨g, j, none⟩ = some (.int .u8 l[j].toNat)) (hs : n ≤ 1048576) :
    Calls Tryz.prog 166 #[.slice (some ⟨g, 0, none⟩) n cap] w fun e w' => e = .returned (.string (str (unpairL l))) ∧ Below w.heap.size w w' := by
  have HG := hide hg
  have HC := hide hc
  clear hg hc
  go_enter Tryz.func166, Tryz.ntmps166
  go_wp2_with (refine wpList_buf_make rfl _ _ rfl w.heap.size w (Below.refl _ _) (Nat.le_refl _) n n rfl rfl rfl (by omega) ?_; intro v0 w0 hb0)
  go_loopw [3, 4] (fun o i wr => ∃ (k : Nat) (acc : List UInt8), k ≤ n ∧ i = .int .i64 k ∧ acc.length ≤ k ∧ Hid (Buf w.heap.size o acc w wr) ∧ Hid (acc ++ unpairL (l.drop k) = unpairL l)) (fun _ i _ => n - (intOf i).toNat)
  case atStart => exact ⟨0, [], Nat.zero_le _, rfl, Nat.le_refl _, hb0, rfl⟩
  case round =>
    obtain ⟨k, acc, hk, rfl, hal, HB, HE⟩ := hrel
    by_cases hlt : k < n
    · have hl : k < l.length := by omega
      have c1 : wr.cell? ⟨g, k, none⟩ = some (.int .u8 l[k].toNat) := (World.cell?_of_block (w := w) (HB.out.below.block g HG.out)).trans (HC.out k hl)
      have i0 : (k : Int) < n := by omega
      have w1 : IntKind.i64.wrap ((k : Int) + 1) = (k : Int) + 1 := IntWalk.i64_in _ (by omega)
      have w2 : IntKind.i64.wrap ((k : Int) + 1 + 1) = (k : Int) + 1 + 1 := IntWalk.i64_in _ (by omega)
      have HAL : Hid (acc.length + 1 ≤ 140737488355328) := hide (by omega)
      have hd := dropL_cons l k hl
      by_cases e1 : l[k] = 92
      · have t1 : ((l[k].toNat : Int) == 92) = true := tT 92 e1 (by decide)
        by_cases h2 : k + 1 < n
        · have hl2 : k + 1 < l.length := by omega
          have c2 : wr.cell? ⟨g, k + 1, none⟩ = some (.int .u8 l[k + 1].toNat) := (World.cell?_of_block (w := w) (HB.out.below.block g HG.out)).trans (HC.out (k + 1) hl2)
          have i1 : (k : Int) + 1 < n := by omega
          have i2 : (0 : Int) ≤ (k : Int) + 1 := by omega
          have n1 : ((k : Int) + 1).toNat = k + 1 := by omega
          have HN : Hid ((acc ++ [l[k + 1]]) ++ unpairL (l.drop (k + 2)) = unpairL l) := hide (by rw [← HE.out, hd, dropL_cons l (k + 1) hl2, e1, unpairL_pair]; simp)
          clear e1 hd
          go_wp2_with (refine wpList_buf_byte rfl _ _ rfl w.heap.size u3 acc rfl w wr (l[k + 1]) HB.out rfl HAL.out ?_; intro v4 w4 hb4; have HB4 := hide hb4; clear hb4)
          go_roundw
          case rel => exact ⟨k + 2, acc ++ [l[k + 1]], by omega, by go_num, by simp; omega, HB4, HN⟩
          case measure => simp [intOf]; omega
        · have hk2 : k + 1 = n := by omega
          have i1 : decide ((k : Int) + 1 < n) = false := decide_eq_false (by omega)
          have HN : Hid ((acc ++ [l[k]]) ++ unpairL (l.drop (k + 1)) = unpairL l) := hide (by rw [← HE.out, hd, List.drop_eq_nil_of_le (by omega : l.length ≤ k + 1), unpairL_one, unpairL]; simp)
          clear e1 hd h2
          go_wp2_with (refine wpList_buf_byte rfl _ _ rfl w.heap.size u3 acc rfl w wr (l[k]) HB.out rfl HAL.out ?_; intro v4 w4 hb4; have HB4 := hide hb4; clear hb4)
          go_roundw
          case rel => exact ⟨k + 1, acc ++ [l[k]], by omega, by go_num, by simp; omega, HB4, HN⟩
          case measure => simp [intOf]; omega
      · have t1 : ((l[k].toNat : Int) == 92) = false := tF 92 e1 (by decide)
        have HN : Hid ((acc ++ [l[k]]) ++ unpairL (l.drop (k + 1)) = unpairL l) := hide (by rw [← HE.out, hd, unpairL_other _ _ e1]; simp)
        clear e1 hd
        go_wp2_with (refine wpList_buf_byte rfl _ _ rfl w.heap.size u3 acc rfl w wr (l[k]) HB.out rfl HAL.out ?_; intro v4 w4 hb4; have HB4 := hide hb4; clear hb4)
        go_roundw
        case rel => exact ⟨k + 1, acc ++ [l[k]], by omega, by go_num, by simp; omega, HB4, HN⟩
        case measure => simp [intOf]; omega
    · have hk2 : k = n := by omega
      have HE2 : Hid (acc = unpairL l) := hide (by rw [← HE.out, List.drop_eq_nil_of_le (by omega : l.length ≤ k), unpairL]; simp)
      have hcv := HB.out.convert
      clear hlt
      go_wp2_with fail
      go_ret
      exact ⟨by rw [← HE2.out]; rfl, HB.out.below⟩
set_option maxHeartbeats 1000000 in
theorem unpaired_nil (A : Option Addr) (cap : Nat) (w : World) :
    Calls Tryz.prog 166 #[.slice A 0 cap] w fun e w' => e = .returned (.string (str (unpairL []))) ∧ Below w.heap.size w w' := by
  go_enter Tryz.func166, Tryz.ntmps166
  go_wp2_with (refine wpList_buf_make rfl _ _ rfl w.heap.size w (Below.refl _ _) (Nat.le_refl _) 0 0 rfl rfl rfl (by omega) ?_; intro v0 w0 hb0)
  go_loopw [3, 4] (fun o i wr => i = .int .i64 0 ∧ Hid (Buf w.heap.size o [] w wr)) (fun _ i _ => 0)
  case atStart => exact ⟨rfl, hb0⟩
  case round =>
    obtain ⟨rfl, HB⟩ := hrel
    have hcv := HB.out.convert
    go_wp2_with fail
    go_ret
    exact ⟨rfl, HB.out.below⟩
theorem unpaired_any {B : Nat} {v : Value} {l : List UInt8} {W0 w : World} (h : Buf B v l W0 w) (hs : l.length ≤ 1048576) :
    Calls Tryz.prog 166 #[v] w fun e w' => e = .returned (.string (str (unpairL l))) ∧ Below w.heap.size w w' := by
  cases l with
  | nil =>
    obtain ⟨A, c, rfl⟩ := h.slice_len
    exact unpaired_nil A c w
  | cons x r =>
    obtain ⟨g, cap, rfl, _, _, _, hg⟩ := h.form (by simp)
    exact unpaired_row g _ cap _ w rfl hg (fun j hj => h.cellAt j hj) hs
end Go.Proofs.YtcmmbceacjechaaGreatDoor

/- WALK of addr.remarked. No statement is proved here. -/
namespace Go.Proofs.YtcmmbceacjechaaGreatDoor
open Go.RowKit
set_option linter.unusedVariables false
set_option linter.unusedSimpArgs false
set_option maxRecDepth 100000
/-- blocks of other types than uint8 are as they were -/
def Kept8 (w w' : World) : Prop := ∀ (b : Nat) (cs : Array Value) (t : TypeId) (fr : Nat × Nat), t ≠ 5 → w.heap[b]? = some (.cells cs t fr) → w'.heap[b]? = w.heap[b]?
theorem Kept8.alloc {w w' : World} (o : Obj) (h : Kept8 (w.alloc o) w') : Kept8 w w' := fun b cs t fr ht hb => by
  have hlt := lt_of_block hb
  have e := Below.heap_alloc w o b hlt
  exact (h b cs t fr ht (e.trans hb)).trans e
theorem Kept8.box {w w' : World} (h : Kept8 w w') {b : Nat} {t : TypeId} {v : Value} (hb : Box w b t v) (ht : t ≠ 5) : Box w' b t v := (h b _ t _ ht hb).trans hb
theorem Buf.ne_cells {B b : Nat} {v : Value} {l : List UInt8} {W0 w : World} {cs : Array Value} {t : TypeId} {fr : Nat × Nat} (h : Buf B v l W0 w) (hb : w.heap[b]? = some (.cells cs t fr)) (ht : t ≠ 5) : v.ownBlock ≠ some b := by
  rcases h.1.2 with ⟨rfl, _⟩ | ⟨g, cap, cur, rfl, _, hh, _⟩
  · simp [Value.ownBlock]
  · intro he
    have e : g = b := by simpa [Value.ownBlock] using he
    subst e
    rw [hh] at hb
    injection hb with hb
    injection hb with _ e
    exact ht e.symm
theorem Buf.setCells {B b : Nat} {v : Value} {l : List UInt8} {W0 w : World} {cs : Array Value} {t : TypeId} {fr : Nat × Nat} (h : Buf B v l W0 w) (hb : w.heap[b]? = some (.cells cs t fr)) (ht : t ≠ 5) (hB : B ≤ b) (i : Nat) (x : Value) : Buf B v l W0 (w.setCell ⟨b, i, none⟩ x) :=
  ⟨ownsRow_setCell_other h.1 (h.ne_cells hb ht) x, h.2.1.setCell hB x, by simpa [World.setCell] using h.2.2⟩
theorem kept8_own {B : Nat} {v : Value} {l : List UInt8} {W0 w w' : World} (h : Buf B v l W0 w) (hg : w.grownBy w' v.ownBlock) : Kept8 w w' :=
  fun b cs t fr ht hx => hg.block b (lt_of_block hx) (fun e => h.ne_cells hx ht e.symm)
/-- two rows lie in two blocks -/
def Sep (v1 v2 : Value) : Prop := ∀ b, v1.ownBlock = some b → v2.ownBlock ≠ some b
theorem Sep.symm {v1 v2 : Value} (h : Sep v1 v2) : Sep v2 v1 := fun b h2 h1 => h b h1 h2
/-- append(buf, c), with another row kept apart -/
theorem wpList_two_byte {ops : Array Oper} {rest : List Oper} {o : Oper} {a : Act} {Q : Exit → Act → World → Prop} (hgd : o.guard = none) (s x : Operand)
    (ho : o.op = .call { callee := .builtin .append, args := #[s, x], argTypes := #[67, 67] })
    (B : Nat) (v v2 : Value) (l l2 : List UInt8) (hs : a.eval s = v) (W0 w0 : World) (c : UInt8) (hb : Buf B v l W0 w0) (hb2 : Buf B v2 l2 W0 w0) (hsep : Sep v v2)
    (hx : a.eval x = .slice (some ⟨w0.heap.size, 0, none⟩) 1 1) (hlen : l.length + 1 ≤ 140737488355328)
    (h : ∀ v' w', Buf B v' (l ++ [c]) W0 w' → Buf B v2 l2 W0 w' → Sep v' v2 → Kept8 w0 w' → wpList Tryz.prog ops Q rest (a.put o.dst v') w') : wpList Tryz.prog ops Q (o :: rest) a (w0.alloc (.cells #[.int .u8 c.toNat] 5)) := by
  obtain ⟨i0, hi, hz0, hz1, hz2⟩ := info_parts info_u8
  have hb' := hb.alloc (.cells #[.int .u8 c.toNat] 5)
  have hb2' := hb2.alloc (.cells #[.int .u8 c.toNat] 5)
  refine wpList_append_lies _ hgd s x 67 ho B 5 i0 (.int .u8 0) 1 1 Tryz.underlying67 hi hz0 hz1 hz2 rfl (by decide) v l.length (cellsOf l) hs hb'.1 ⟨w0.heap.size, 0, none⟩ 1 1 [.int .u8 c.toNat] hx rfl ?_ ?_ (by decide) (by unfold maxLen; omega) (by omega) hb'.2.2 _ rfl ?_
  · intro j u hj
    match j, hj with
    | 0, hj => simp at hj; subst hj; simp [Addr.add]
    | (j + 1), hj => simp at hj
  · intro u hu; simp at hu; subst hu; rfl
  · intro g cap w' ho' hg hat hlt
    have n1 : Buf B (.slice (some ⟨g, 0, none⟩) (l.length + 1) cap) (l ++ [c]) W0 w' := hb'.grown (l' := l ++ [c]) (by simpa [cellsOf] using ho') hg
    refine h _ w' n1 ⟨hb2'.1.kept hg ?_, n1.2.1, n1.2.2⟩ ?_ ((kept8_own hb' hg).alloc _)
    · cases e : v2.ownBlock with
      | none => exact .inl rfl
      | some b => exact .inr (fun e2 => hsep b e2.symm e)
    · intro b hbk
      have e : g = b := by simpa [Value.ownBlock] using hbk
      subst e
      rcases hat with hat | hat
      · exact hsep g hat
      · intro e2
        have := (hb2'.1.lt g e2).2
        omega
/-! ### the function -/
abbrev RmSt := Nat × List UInt8 × List UInt8
def rmStep (st : RmSt) (c : UInt8) (pl : Nat) : RmSt :=
  if pl = 3 then (st.1 + 1, st.2)
  else if pl ≠ 2 then (st.1, st.2.1 ++ [c], st.2.2)
  else if st.1 = 1 then (st.1, st.2.1, st.2.2 ++ [c])
  else st
def rmAt (s : ByteArray) : Nat → RmSt
  | 0 => (0, [], [])
  | k + 1 => if h : k < s.size then rmStep (rmAt s k) s[k] (placeAt s k h) else rmAt s k
theorem rmAt_succ (s : ByteArray) (k : Nat) (h : k < s.size) : rmAt s (k + 1) = rmStep (rmAt s k) s[k] (placeAt s k h) := by
  show (if h : k < s.size then _ else _) = _
  rw [dif_pos h]
theorem rmStep_bd (st : RmSt) (c : UInt8) (pl k : Nat) (h1 : st.1 ≤ k) (h2 : st.2.1.length ≤ k) (h3 : st.2.2.length ≤ k) : (rmStep st c pl).1 ≤ k + 1 ∧ (rmStep st c pl).2.1.length ≤ k + 1 ∧ (rmStep st c pl).2.2.length ≤ k + 1 := by
  unfold rmStep
  split
  · exact ⟨Nat.succ_le_succ h1, Nat.le_succ_of_le h2, Nat.le_succ_of_le h3⟩
  · split
    · exact ⟨Nat.le_succ_of_le h1, by simp; exact h2, Nat.le_succ_of_le h3⟩
    · split
      · exact ⟨Nat.le_succ_of_le h1, Nat.le_succ_of_le h2, by simp; exact h3⟩
      · exact ⟨Nat.le_succ_of_le h1, Nat.le_succ_of_le h2, Nat.le_succ_of_le h3⟩
theorem rmAt_bd (s : ByteArray) (k : Nat) : (rmAt s k).1 ≤ k ∧ (rmAt s k).2.1.length ≤ k ∧ (rmAt s k).2.2.length ≤ k := by
  induction k with
  | zero => exact ⟨Nat.le_refl _, Nat.le_refl _, Nat.le_refl _⟩
  | succ k ih =>
    by_cases hk : k < s.size
    · rw [rmAt_succ s k hk]; exact rmStep_bd _ _ _ k ih.1 ih.2.1 ih.2.2
    · have e : rmAt s (k + 1) = rmAt s k := by show (if h : k < s.size then _ else _) = _; rw [dif_neg hk]
      rw [e]; exact ⟨Nat.le_succ_of_le ih.1, Nat.le_succ_of_le ih.2.1, Nat.le_succ_of_le ih.2.2⟩
/-- remarked's variables in memory: signs, rest, said -/
structure RmAt (bg br bs B : Nat) (W0 : World) (st : RmSt) (w : World) : Prop where
  sg : Box w bg 3 (.int .i64 st.1)
  rows : ∃ v1 v2, Box w br 67 v1 ∧ Box w bs 67 v2 ∧ Buf B v1 st.2.1 W0 w ∧ Buf B v2 st.2.2 W0 w ∧ Sep v1 v2
theorem RmAt.drew {bg br bs B : Nat} {W0 : World} {st : RmSt} {w : World} (h : RmAt bg br bs B W0 st w) : RmAt bg br bs B W0 st w.drew := by
  obtain ⟨v1, v2, r1, r2, r3, r4, r5⟩ := h.rows
  exact ⟨h.sg.drew, v1, v2, r1.drew, r2.drew, r3.drew, r4.drew, r5⟩
theorem RmAt.alloc {bg br bs B : Nat} {W0 : World} {st : RmSt} {w : World} (h : RmAt bg br bs B W0 st w) (o : Obj) : RmAt bg br bs B W0 st (w.alloc o) := by
  obtain ⟨v1, v2, r1, r2, r3, r4, r5⟩ := h.rows
  exact ⟨h.sg.alloc o, v1, v2, r1.alloc o, r2.alloc o, r3.alloc o, r4.alloc o, r5⟩
theorem RmAt.setOther {bg br bs B m : Nat} {W0 : World} {st : RmSt} {w : World} {cs : Array Value} {T : TypeId} {fr : Nat × Nat} (h : RmAt bg br bs B W0 st w) (hm : w.heap[m]? = some (.cells cs T fr)) (hT : T ≠ 5) (n1 : bg ≠ m) (n2 : br ≠ m) (n3 : bs ≠ m) (hB : B ≤ m) (i : Nat) (x : Value) : RmAt bg br bs B W0 st (w.setCell ⟨m, i, none⟩ x) := by
  obtain ⟨v1, v2, r1, r2, r3, r4, r5⟩ := h.rows
  exact ⟨h.sg.far n1 _, v1, v2, r1.far n2 _, r2.far n3 _, r3.setCells hm hT hB i _, r4.setCells hm hT hB i _, r5⟩
theorem RmAt.sign {bg br bs B : Nat} {W0 : World} {sg : Nat} {rest said : List UInt8} {w : World} (h : RmAt bg br bs B W0 (sg, rest, said) w) (hB : B ≤ bg) (n : Nat) : RmAt bg br bs B W0 (n, rest, said) (w.setCell ⟨bg, 0, none⟩ (.int .i64 (n : Int))) := by
  obtain ⟨v1, v2, r1, r2, r3, r4, r5⟩ := h.rows
  exact ⟨h.sg.set _, v1, v2, r1.far (a := ⟨bg, 0, none⟩) (r1.ne h.sg (by decide)) _, r2.far (a := ⟨bg, 0, none⟩) (r2.ne h.sg (by decide)) _, r3.setCells h.sg (by decide) hB 0 _, r4.setCells h.sg (by decide) hB 0 _, r5⟩
theorem RmAt.more {bg br bs B : Nat} {W0 : World} {st : RmSt} {w w2 : World} {v1 v2 : Value} {rest said : List UInt8} (h : RmAt bg br bs B W0 st w) (hk : Kept8 w w2) (hne : br ≠ bs) (hBr : B ≤ br) (hu : Box w bs 67 v2) (h1 : Buf B v1 rest W0 w2) (h2 : Buf B v2 said W0 w2) (hs : Sep v1 v2) :
    RmAt bg br bs B W0 (st.1, rest, said) (w2.setCell ⟨br, 0, none⟩ v1) := by
  obtain ⟨x1, x2, r1, r2, _⟩ := h.rows
  have b1 := hk.box r1 (by decide)
  have b2 := hk.box hu (by decide)
  have g2 := hk.box h.sg (by decide)
  exact ⟨g2.far (a := ⟨br, 0, none⟩) (g2.ne b1 (by decide)) _, v1, v2, b1.set _, b2.far (a := ⟨br, 0, none⟩) (Ne.symm hne) _, h1.setCells b1 (by decide) hBr 0 _, h2.setCells b1 (by decide) hBr 0 _, hs⟩
theorem RmAt.swap {bg br bs B : Nat} {W0 : World} {sg : Nat} {rest said : List UInt8} {w : World} (h : RmAt bg br bs B W0 (sg, rest, said) w) : RmAt bg bs br B W0 (sg, said, rest) w := by
  obtain ⟨v1, v2, r1, r2, r3, r4, r5⟩ := h.rows
  exact ⟨h.sg, v2, v1, r2, r1, r4, r3, r5.symm⟩
set_option maxHeartbeats 1600000 in
theorem rm_step (k : Nat) (c : UInt8) (pl : Nat) (st : RmSt) (bg br bs B m : Nat) (W0 w : World) (cs : Array Value) (T : TypeId) (fr : Nat × Nat) (h : RmAt bg br bs B W0 st w) (hne : br ≠ bs)
    (hBg : B ≤ bg) (hBr : B ≤ br) (hBs : B ≤ bs) (hm : w.heap[m]? = some (.cells cs T fr)) (hT : T ≠ 5) (n1 : m ≠ bg) (n2 : m ≠ br) (n3 : m ≠ bs) (hk : k ≤ 1048576) (b1 : st.1 ≤ k) (b2 : st.2.1.length ≤ k) (b3 : st.2.2.length ≤ k) :
    Calls Tryz.prog 165 #[.int .i64 k, .int .u8 c.toNat, .int .i64 pl, .pointer (some ⟨bg, 0, none⟩), .pointer (some ⟨br, 0, none⟩), .pointer (some ⟨bs, 0, none⟩)] w fun e w' => e = .returned (.tuple #[]) ∧
      RmAt bg br bs B W0 (rmStep st c pl) w' ∧ w'.heap[m]? = w.heap[m]? := by
  obtain ⟨sg, rest, said⟩ := st
  obtain ⟨v1, v2, r1, r2, r3, r4, r5⟩ := h.rows
  have H := hide h
  have HM := hide hm
  have c0 : w.cell? ⟨bg, 0, none⟩ = some (.int .i64 (sg : Int)) := h.sg.cell
  have f0 := h.sg.free
  have c1 := r1.cell
  have f1 := r1.free
  have c2 := r2.cell
  have f2 := r2.free
  obtain ⟨A1, z1, rfl⟩ := r3.slice_len
  obtain ⟨A2, z2, rfl⟩ := r4.slice_len
  have R1 : Hid (Box w br 67 (.slice A1 rest.length z1)) := hide r1
  have R2 : Hid (Box w bs 67 (.slice A2 said.length z2)) := hide r2
  have R3 : Hid (Buf B (.slice A1 rest.length z1) rest W0 w) := hide r3
  have R4 : Hid (Buf B (.slice A2 said.length z2) said W0 w) := hide r4
  have R5 : Hid (Sep (.slice A1 rest.length z1) (.slice A2 said.length z2)) := hide r5
  have q0 : IntKind.i64.wrap ((sg : Int) + 1) = (sg : Int) + 1 := IntWalk.i64_in _ (by have : sg ≤ k := b1; omega)
  have HL1 : Hid (rest.length + 1 ≤ 140737488355328) := hide (by have : rest.length ≤ k := b2; omega)
  have HL2 : Hid (said.length + 1 ≤ 140737488355328) := hide (by have : said.length ≤ k := b3; omega)
  have HNE := hide hne
  have HN1 : Hid ((rest ++ [c]).length = rest.length + 1) := hide (by rw [List.length_append]; rfl)
  have HN2 : Hid ((said ++ [c]).length = said.length + 1) := hide (by rw [List.length_append]; rfl)
  clear h r1 r2 r3 r4 r5 hm hk b1 b2 b3 hne
  by_cases p3 : pl = 3
  · subst p3
    have HS : Hid (rmStep (sg, rest, said) c 3 = (sg + 1, rest, said)) := hide (by unfold rmStep; rw [if_pos rfl])
    go_enter Tryz.func165, Tryz.ntmps165
    go_wp2_with fail
    go_end0
    exact ⟨rfl, by rw [HS.out]; exact H.out.sign hBg (sg + 1), Below.heap_setCell _ _ _ m n1⟩
  · have t3 : ((pl : Int) == 3) = false := by rw [beq_eq_false_iff_ne]; omega
    by_cases p2 : pl = 2
    · subst p2
      by_cases e1 : sg = 1
      · subst e1
        have HS : Hid (rmStep (1, rest, said) c 2 = (1, rest, said ++ [c])) := hide (by unfold rmStep; rw [if_neg (by decide), if_neg (by decide), if_pos rfl])
        clear p3 t3
        go_enter Tryz.func165, Tryz.ntmps165
        go_wp2_with (at_builtin; go_must (refine wpList_two_byte rfl _ _ rfl B (.slice A2 said.length z2) (.slice A1 rest.length z1) said rest rfl W0 w c R4.out R3.out R5.out.symm rfl HL2.out ?_; intro v4 w4 hb4 hb5 hs4 hk4; obtain ⟨A4, z4, rfl⟩ := hb4.slice_len; rw [HN2.out] at hb4 hs4 ⊢; have hf4 := (hk4.box R2.out (by decide)).free; have hc4 := (hk4.box R2.out (by decide)).cell; have HB4 := hide hb4; have HB5 := hide hb5; have HS4 := hide hs4; have HK4 := hide hk4; clear hb4 hb5 hs4 hk4))
        go_end0
        exact ⟨rfl, by rw [HS.out]; exact (H.out.swap.more HK4.out (Ne.symm HNE.out) hBs R1.out HB4.out HB5.out HS4.out).swap, (Below.heap_setCell _ _ _ m n3).trans (HK4.out m cs T fr hT HM.out)⟩
      · have HS : Hid (rmStep (sg, rest, said) c 2 = (sg, rest, said)) := hide (by unfold rmStep; rw [if_neg (by decide), if_neg (by decide), if_neg e1])
        have t1 : ((sg : Int) == 1) = false := by rw [beq_eq_false_iff_ne]; omega
        clear p3 t3 e1
        go_enter Tryz.func165, Tryz.ntmps165
        go_wp2_with fail
        go_end0
        exact ⟨rfl, by rw [HS.out]; exact H.out, rfl⟩
    · have t2 : ((pl : Int) != 2) = true := by rw [bne_iff_ne]; omega
      have HS : Hid (rmStep (sg, rest, said) c pl = (sg, rest ++ [c], said)) := hide (by unfold rmStep; rw [if_neg p3, if_pos p2])
      clear p3 p2
      go_enter Tryz.func165, Tryz.ntmps165
      go_wp2_with (at_builtin; go_must (refine wpList_two_byte rfl _ _ rfl B (.slice A1 rest.length z1) (.slice A2 said.length z2) rest said rfl W0 w c R3.out R4.out R5.out rfl HL1.out ?_; intro v4 w4 hb4 hb5 hs4 hk4; obtain ⟨A4, z4, rfl⟩ := hb4.slice_len; rw [HN1.out] at hb4 hs4 ⊢; have hf4 := (hk4.box R1.out (by decide)).free; have hc4 := (hk4.box R1.out (by decide)).cell; have HB4 := hide hb4; have HB5 := hide hb5; have HS4 := hide hs4; have HK4 := hide hk4; clear hb4 hb5 hs4 hk4))
      go_end0
      exact ⟨rfl, by rw [HS.out]; exact H.out.more HK4.out HNE.out hBr R2.out HB4.out HB5.out HS4.out, (Below.heap_setCell _ _ _ m n2).trans (HK4.out m cs T fr hT HM.out)⟩
end Go.Proofs.YtcmmbceacjechaaGreatDoor

/- WALK of addr.remarked: the whole. No statement is proved here. -/
namespace Go.Proofs.YtcmmbceacjechaaGreatDoor
open Go.RowKit
set_option linter.unusedVariables false
set_option linter.unusedSimpArgs false
set_option maxRecDepth 100000
theorem cells_set8 {w : World} {g j : Nat} {cur : Array Value} {e : TypeId} {fr : Nat × Nat} (u : Value) (h : w.heap[g]? = some (.cells cur e fr)) : (w.setCell ⟨g, j, none⟩ u).heap[g]? = some (.cells (cur.setIfInBounds j u) e fr) := by
  have hlt := lt_of_block h
  have h' : w.heap[g] = .cells cur e fr := by simpa [Array.getElem?_eq_getElem hlt] using h
  show (w.heap.modify g _)[g]? = _
  rw [Array.getElem?_eq_getElem (by simpa using hlt), Array.getElem_modify_self, h']
  rfl
/-- walk with remarked's function -/
theorem walk_rm (s : ByteArray) (bg br bs B : Nat) (W0 w : World) (hs : s.size ≤ 1048576) (h : RmAt bg br bs B W0 (0, [], []) w) (hne : br ≠ bs) (hBg : B ≤ bg) (hBr : B ≤ br) (hBs : B ≤ bs) :
    Calls Tryz.prog 112 #[.string s, .func (.func 165) #[] #[.pointer (some ⟨bg, 0, none⟩), .pointer (some ⟨br, 0, none⟩), .pointer (some ⟨bs, 0, none⟩)]] w fun e w' => e = .returned (.tuple #[]) ∧
      RmAt bg br bs B W0 (rmAt s s.size) w' := by
  obtain ⟨v1, v2, t1, t2, t3, t4, _⟩ := h.rows
  have n1 : bg ≠ w.heap.size := Nat.ne_of_lt h.sg.lt
  have n2 : br ≠ w.heap.size := Nat.ne_of_lt t1.lt
  have n3 : bs ≠ w.heap.size := Nat.ne_of_lt t2.lt
  have hBw : B ≤ w.heap.size := t3.2.2
  refine (walk_remarked s _ w (fun k w' => RmAt bg br bs B W0 (rmAt s k) w' ∧ ∃ cs fr, w'.heap[w.heap.size]? = some (.cells cs 147 fr)) hs ?_ ?_ ?_ ?_).mono ?_
  · exact ⟨h.alloc _, _, _, heap_alloc_new w _⟩
  · rintro k w' i v ⟨i1, cs, fr, i2⟩
    exact ⟨i1.setOther i2 (by decide) n1 n2 n3 hBw i v, _, _, cells_set8 v i2⟩
  · rintro k w' ⟨i1, i2⟩
    exact ⟨i1.drew, i2⟩
  · rintro k hk w' ⟨i1, cs, fr, i2⟩
    obtain ⟨d1, d2, d3⟩ := rmAt_bd s k
    refine (rm_step k s[k] (placeAt s k hk) (rmAt s k) bg br bs B w.heap.size W0 w' cs _ fr i1 hne hBg hBr hBs i2 (by decide) (Ne.symm n1) (Ne.symm n2) (Ne.symm n3) (Nat.le_trans (Nat.le_of_lt hk) hs) d1 d2 d3).mono ?_
    rintro e w2 ⟨rfl, j1, j2⟩
    rw [← rmAt_succ s k hk] at j1
    exact ⟨rfl, ⟨j1, cs, fr, j2.trans i2⟩, j2⟩
  · rintro e w' ⟨rfl, i1, _⟩
    exact ⟨rfl, i1⟩
/-- what the first remark says, and the text without its remarks -/
def rmOut (s : ByteArray) : List UInt8 × List UInt8 := (unpairL (rmAt s s.size).2.2, (rmAt s s.size).2.1)
set_option maxHeartbeats 1600000 in
theorem remarked_any (s : ByteArray) (w : World) (hs : s.size ≤ 1048576) :
    Calls Tryz.prog 115 #[.string s] w fun e w' => e = .returned (.tuple #[.string (str (rmOut s).1), .string (str (rmOut s).2)]) ∧ Below w.heap.size w w' := by
  have S0 := Box.new w 67 (.slice none 0 0)
  have S1 := Box.new (w.alloc (.cells #[.slice none 0 0] 67)) 67 (.slice none 0 0)
  rw [World.size_alloc] at S1
  have S2 := Box.new ((w.alloc (.cells #[.slice none 0 0] 67)).alloc (.cells #[.slice none 0 0] 67)) 3 (.int .i64 0)
  rw [World.size_alloc, World.size_alloc] at S2
  have SB : Buf w.heap.size (.slice none 0 0) [] w (((w.alloc (.cells #[.slice none 0 0] 67)).alloc (.cells #[.slice none 0 0] 67)).alloc (.cells #[.int .i64 0] 3)) :=
    (((Buf.nil (B := w.heap.size) (Below.refl _ _) (Nat.le_refl _)).alloc _).alloc _).alloc _
  have C := hide (walk_rm s (w.heap.size + 2) (w.heap.size + 1) w.heap.size w.heap.size w _ hs ⟨S2, _, _, S1.alloc _, (S0.alloc _).alloc _, SB, SB, fun b h => by cases h⟩ (by omega) (by omega) (by omega) (Nat.le_refl _))
  obtain ⟨d1, d2, d3⟩ := rmAt_bd s s.size
  have HO : Hid (rmOut s = (unpairL (rmAt s s.size).2.2, (rmAt s s.size).2.1)) := hide rfl
  obtain ⟨⟨sg, rest, said⟩, hA⟩ : ∃ A, rmAt s s.size = A := ⟨_, rfl⟩
  rw [hA] at C d1 d2 d3 HO
  have HL : Hid (said.length ≤ 1048576) := hide (Nat.le_trans d3 hs)
  clear hA S0 S1 S2 SB d1 d2 d3 hs
  go_enter Tryz.func115, Tryz.ntmps115
  go_wp2_with (go_at_call 112; refine C.out.mono ?_; rintro e w1 ⟨rfl, hx⟩; obtain ⟨v1, v2, r1, r2, r3, r4, _⟩ := hx.rows; obtain ⟨A1, z1, rfl⟩ := r3.slice_len; obtain ⟨A2, z2, rfl⟩ := r4.slice_len; have c1 := r1.cell; have c2 := r2.cell; have cv1 := r3.drew.convert; have R1 := hide r1; have R2 := hide r2; have R3 : Hid (Buf w.heap.size (.slice A1 rest.length z1) rest w w1) := hide r3; have R4 : Hid (Buf w.heap.size (.slice A2 said.length z2) said w w1) := hide r4; clear r1 r2 r3 r4 hx)
  go_region_with (
    (refine (unpaired_any (R4.out.drew) HL.out).mono ?_; rintro e w2 ⟨rfl, hb2⟩; have c3 := (R1.out.drew.below hb2 R1.out.drew.lt).cell; have cv2 := (R3.out.drew.kept hb2).convert; have HB2 := hide hb2; clear hb2))
  all_goals
    try go_wp2_with fail
    go_ret2
    exact ⟨by rw [HO.out]; rfl, R3.out.drew.below.trans (HB2.out.mono R3.out.2.2)⟩
end Go.Proofs.YtcmmbceacjechaaGreatDoor

/- WALK of strings.IndexRune beyond ASCII; a sign's bytes. No statement is proved here. -/
namespace Go.Proofs.YtcmmbceacjechaaGreatDoor
open Go.RowKit
set_option linter.unusedVariables false
set_option linter.unusedSimpArgs false

theorem indexByte_high (l : List UInt8) (c : UInt8) (h : ∀ x ∈ l, x.toNat < 128) (hc : 128 ≤ c.toNat) : Lib.indexByte l c = -1 := by
  induction l with
  | nil => rfl
  | cons a r ih =>
    have ha := h a (List.mem_cons_self ..)
    have hne : (a == c) = false := by
      rw [beq_eq_false_iff_ne]; rintro rfl; omega
    simp [Lib.indexByte, hne, ih (fun x hx => h x (List.mem_cons_of_mem _ hx))]

/-- a quiet call behind a quiet region -/
theorem quiet_add_same {P : Program} {f : FuncId} {args : Array Value} {w : World} {a n : Nat} {v : Value}
    (h : Calls P f args (w.drewN (a + n)) fun e w' => e = .returned v ∧ w' = w.drewN (a + n)) :
    Calls P f args (w.drewN (a + n)) fun e w'' => e = .returned v ∧ ∃ m, w'' = w.drewN (a + m) :=
  h.mono fun _ _ ⟨he, hm⟩ => ⟨he, n, hm⟩

set_option maxRecDepth 100000 in
set_option maxHeartbeats 1000000 in
/-- a sign beyond ASCII is in no text of ASCII bytes -/
theorem indexRune_high (s : ByteArray) (r : Int) (w : World) (hs : s.size ≤ 100) (ha : s.data.toList.all (fun c => decide (c.toNat < 128)) = true) (h1 : 128 ≤ r) (h2 : r ≤ 2147483647) :
    Calls Tryz.prog 171 #[.string s, .int .i32 r] w fun e w' => e = .returned (.int .i64 (-1)) ∧ Below w.heap.size w w' := by
  have h3 : ¬ r < 128 := by omega
  have h4 : 0 ≤ r := by omega
  by_cases he : r = 65533
  · subst he
    have HA := hide ha
    clear ha
    go_enter Tryz.func171, Tryz.ntmps171
    go_wp2
    go_loopw [5, 6] (fun _ _ wr => ∃ pos : Nat, pos ≤ s.size ∧ wr = w.iter s pos) (fun _ _ wr => s.size - wr.iterPos w.heap.size)
    case atStart => exact ⟨0, Nat.zero_le _, rfl⟩
    case round =>
      obtain ⟨pos, hp, rfl⟩ := hrel
      by_cases hlt : pos < s.size
      · obtain ⟨x, hx, hx1, hnx⟩ := next_ascii (P := Tryz.prog) w s pos hlt HA.out
        clear hx
        have hne : ((x.toNat : Int) == 65533) = false := by rw [beq_eq_false_iff_ne]; omega
        go_wp2
        go_roundw
        case rel => exact ⟨pos + 1, by omega, rfl⟩
        case measure => simp; omega
      · obtain rfl : pos = s.size := by omega
        have hnx := run_next_end (P := Tryz.prog) w s s.size
        go_wp2
        go_ret
        exact ⟨rfl, iter_below _ _ _⟩
  · have hne : (r == 65533) = false := by rw [beq_eq_false_iff_ne]; exact he
    cases hv : Utf8.valid r with
    | false =>
      have HV : Hid (Lib.validRune r = false) := hide (by rw [show Lib.validRune r = Go.validRune r from rfl, ← validRune_eq]; exact hv)
      clear hv he
      go_enter Tryz.func171, Tryz.ntmps171
      go_wp2_with fail
      refine (Tryz.utf8_ValidRune r _).mono ?_
      rintro e w' ⟨rfl, hw⟩
      subst hw
      rw [HV.out]
      go_wp2_with fail
      go_ret
      exact ⟨rfl, Below.refl _ _⟩
    | true =>
      obtain ⟨e1, e2, e3⟩ := encode_facts r hv h1
      have HV : Hid (Lib.validRune r = true) := hide (by rw [show Lib.validRune r = Go.validRune r from rfl, ← validRune_eq]; exact hv)
      clear hv he
      obtain ⟨E, hE⟩ : ∃ E, E = Utf8.encode r := ⟨_, rfl⟩
      rw [← hE] at e1 e2 e3
      have hcv : ∀ w : World, (convert 21 9 (.int .i32 r)).run Tryz.prog w = .ok (.string E) w := fun w => by
        rw [hE]; exact run_convert_int_string w 21 9 .i32 r (by rw [Tryz.underlying21]; rfl) Tryz.underlying9
      clear hE
      obtain ⟨m, hm⟩ : ∃ m : Nat, E.size = m + 1 := ⟨E.size - 1, by omega⟩
      have hm1 : m < E.size := by omega
      have hb : 128 ≤ (E[m]'hm1).toNat := by
        have : ∀ j (h : j < E.size), j = E.size - 1 → 128 ≤ (E[j]'h).toNat := fun j h e => by subst e; exact e3 h
        exact this m hm1 (by omega)
      have hmm : (m : Int) < (m : Int) + 1 := by omega
      have hw : IntKind.i64.wrap ((m : Int) + 1) = (m : Int) + 1 := IntWalk.i64_in _ (by omega)
      clear e3
      by_cases hlt : m < s.size
      · have hsm : (s[m]'hlt).toNat < 128 := by
          have := List.all_eq_true.1 ha s[m] (by rw [← Array.mem_def]; exact Array.getElem_mem (by exact hlt))
          simpa using this
        have hne2 : ((s[m].toNat : Int) != (E[m].toNat : Int)) = true := by
          rw [bne_iff_ne]; omega
        have hix : Lib.indexByte (s.extract (m + 1) s.size).data.toList (E[m].toNat : Int).toNat.toUInt8 = -1 := by
          refine indexByte_high _ _ (fun x hx => ?_) (by simp; exact hb)
          have := List.all_eq_true.1 ha x (mem_extract hx)
          simpa using this
        have HIX := hide hix
        have o0 : (0 : Int) ≤ m := by omega
        have o1 : (m : Int) + 1 ≤ s.size := by omega
        have o3 : (0 : Int) ≤ (m : Int) + 1 := by omega
        have o4 : ((m : Int) + 1).toNat = m + 1 := by omega
        clear ha hb hix
        go_enter Tryz.func171, Tryz.ntmps171
        go_wp2_with fail
        refine (Tryz.utf8_ValidRune r _).mono ?_
        rintro e w' ⟨rfl, hw⟩
        subst hw
        rw [HV.out]
        go_wp2_with fail
        go_step3
        go_wp2
        go_loop [9, 10, 11, 12] (fun i f _ _ => i = .int .i64 m ∧ f = .int .i64 0) (fun _ _ _ _ => 0)
        case atStart => exact ⟨rfl, rfl⟩
        case round =>
          obtain ⟨rfl, rfl⟩ := hrel
          go_wp2
          go_step3
          go_wp2
          go_quiet (fail)
          go_wp2
          go_quiet ((go_at_call 161; exact quiet_add_same (Tryz.strings_IndexByte _ _ _)))
          rw [HIX.out]
          go_wp2
          simp +zetaDelta only [Exit.noGoto_ret, go_sem]
          go_ret
          exact ⟨rfl, ⟨rfl, rfl, rfl, Nat.le_refl _, fun _ _ => rfl⟩⟩
      · have o4 : ((m : Int) + 1).toNat = m + 1 := by omega
        clear ha hb
        go_enter Tryz.func171, Tryz.ntmps171
        go_wp2_with fail
        refine (Tryz.utf8_ValidRune r _).mono ?_
        rintro e w' ⟨rfl, hw⟩
        subst hw
        rw [HV.out]
        go_wp2_with fail
        go_step3
        go_wp2
        go_loop [9, 10, 11, 12] (fun i f _ _ => i = .int .i64 m ∧ f = .int .i64 0) (fun _ _ _ _ => 0)
        case atStart => exact ⟨rfl, rfl⟩
        case round =>
          obtain ⟨rfl, rfl⟩ := hrel
          go_wp2
          try simp +zetaDelta only [Exit.noGoto_ret, go_sem]
          go_ret
          exact ⟨rfl, Below.refl _ _⟩

theorem decode_high_or (s : ByteArray) (pos : Nat) (h : pos < s.size) : (s[pos].toNat < 128 ∧ Utf8.decode s pos = (s[pos].toNat, 1)) ∨ (128 ≤ s[pos].toNat ∧ 128 ≤ (Utf8.decode s pos).1 ∧ 1 ≤ (Utf8.decode s pos).2) := by
  by_cases ha : s[pos].toNat < 128
  · refine .inl ⟨ha, ?_⟩
    simp only [Utf8.decode, get_at s pos h, ha, if_true]
  · exact .inr ⟨by omega, decode_high s pos h (by omega)⟩

theorem not_contains_high {l : List UInt8} (h : l.all (fun c => decide (c.toNat < 128)) = true) {c : UInt8} (hc : 128 ≤ c.toNat) : l.contains c = false := by
  cases hm : l.contains c with
  | false => rfl
  | true =>
    have := List.all_eq_true.1 h c (by simpa using hm)
    have h2 : c.toNat < 128 := by simpa using this
    omega

/-- the bytes of a sign that is read are its first byte and bytes beyond ASCII -/
theorem decode_span (s : ByteArray) (pos : Nat) (h : pos < s.size) (ha : 128 ≤ s[pos].toNat) : ∀ j, pos ≤ j → j < pos + (Utf8.decode s pos).2 → ∀ b, s.data.toList[j]? = some b → 128 ≤ b.toNat := by
  intro j h1 h2 b hb
  rcases Nat.eq_or_lt_of_le h1 with rfl | h1
  · rw [List.getElem?_eq_getElem (by rw [toList_length]; exact h)] at hb
    rw [← Option.some.inj hb]; exact ha
  · have hj : j < s.size := by have := (List.getElem?_eq_some_iff.1 hb).1; rwa [toList_length] at this
    have e := decode_decL s pos h
    have hsp := decL_spec (s.data.toList.drop pos) (by rw [drop_cons s pos h]; simp)
    rw [e, hsp.2.1] at h2
    by_cases hz : wholeN (s.data.toList.drop pos) = 0
    · rw [vStep_zero hz] at h2
      simp at h2; omega
    · rw [vStep_pos rfl hz] at h2
      simp only at h2
      have hw := whole_first hz
      have := hw.2 (j - pos) (by omega) (by omega)
      rw [List.getD_eq_getElem?_getD, List.getElem?_drop, Nat.add_sub_cancel' (by omega), hb] at this
      have := (contB_iff b).1 this
      omega

theorem decode_end (s : ByteArray) (pos : Nat) (h : pos < s.size) : pos + (Utf8.decode s pos).2 ≤ s.size := by
  have hne : s.data.toList.drop pos ≠ [] := by rw [drop_cons s pos h]; simp
  have hsp := decL_spec _ hne
  have hst := vStep_pos' _ hne
  rw [List.length_drop, toList_length] at hst
  rw [decode_decL s pos h, hsp.2.1]; omega
end Go.Proofs.YtcmmbceacjechaaGreatDoor

/- WALKS of strings.IndexAny and ContainsAny at any text and a set of ASCII bytes. No statement is proved here. -/
namespace Go.Proofs.YtcmmbceacjechaaGreatDoor
open Go.RowKit
set_option linter.unusedVariables false
set_option linter.unusedSimpArgs false

/-- is one of the bytes of cs in l? -/
def hasAny (cs l : List UInt8) : Bool := l.any fun c => cs.contains c

theorem noAny_step {s : ByteArray} {cs : List UInt8} {pos n : Nat} (h : Lib.NoAny s.data.toList cs pos) (hn : ∀ j, pos ≤ j → j < pos + n → ∀ b, s.data.toList[j]? = some b → cs.contains b = false) : Lib.NoAny s.data.toList cs (pos + n) := by
  intro j b hj hb
  rcases Nat.lt_or_ge j pos with h1 | h1
  · exact h j b h1 hb
  · exact hn j h1 hj b hb
set_option maxRecDepth 100000 in
set_option maxHeartbeats 1000000 in
theorem indexAny_short (s cs : ByteArray) (w : World) (h2 : 2 ≤ cs.size) (hcs : cs.size ≤ 100) (h8 : s.size ≤ 8) (ha : cs.data.toList.all (fun c => decide (c.toNat < 128)) = true) :
    Calls Tryz.prog 122 #[.string s, .string cs] w fun e w' => e = .returned (.int .i64 (Lib.indexAny s.data.toList cs.data.toList)) ∧ Below w.heap.size w w' := by
  have hemp : cs.toList.isEmpty = false := by
    rw [Lib.toList_data]
    cases h : cs.data.toList with
    | nil => have := Lib.size_eq cs; rw [h, List.length_nil] at this; omega
    | cons _ _ => rfl
  have hn1 : ((cs.size : Int) == 1) = false := beq_eq_false_iff_ne.2 (by omega)
  have h8z : decide ((8 : Int) < (s.size : Int)) = false := decide_eq_false (by omega)
  have HA := hide ha
  clear ha
  go_enter Tryz.func122, Tryz.ntmps122
  go_wp2_with fail
  refine (Tryz.strings_shouldUseASCIISet _ _).mono ?_
  rintro e w1 ⟨rfl, hw1⟩
  subst hw1
  rw [h8z]
  go_wp2_with fail
  have hit : (w1.iter s 0).heap[w1.heap.size]? = some (Obj.stringIter s 0) := heap_alloc_new w1 _
  have hb0 : Below w1.heap.size w1 (w1.iter s 0) := iter_below w1 s 0
  have hg0 : w1.heap.size < (w1.iter s 0).heap.size := (Array.getElem?_eq_some_iff.1 hit).1
  go_loopw [9, 10] (fun _ _ wr => ∃ pos : Nat, pos ≤ s.size ∧ wr.heap[w1.heap.size]? = some (Obj.stringIter s pos) ∧ Below w1.heap.size w1 wr ∧ Lib.NoAny s.data.toList cs.data.toList pos) (fun _ _ wr => s.size - wr.iterPos w1.heap.size)
  case atStart => exact ⟨0, Nat.zero_le _, hit, hb0, Lib.NoAny.zero _ _⟩
  case round =>
    obtain ⟨pos, hpos, hk, hb, hno⟩ := hrel
    have HK := hide hk
    have HB := hide hb
    have HN := hide hno
    have hsz : w1.heap.size < wr.heap.size := (Array.getElem?_eq_some_iff.1 hk).1
    clear hk hb hno
    by_cases hlt : pos < s.size
    · have hnx := fun ty => Lib.run_next_any_at (P := Tryz.prog) wr w1.heap.size s pos ty HK.out hlt
      have hle := decode_le s pos
      rcases decode_high_or s pos hlt with ⟨hx, hdec⟩ | ⟨hx, hd1, hd2⟩
      · rw [hdec] at hnx
        have hg : s.data.toList[pos]? = some s[pos] := by rw [List.getElem?_eq_getElem (by rw [toList_length]; exact hlt)]; rfl
        have hcon := Lib.contains_iff_indexByte cs.data.toList s[pos]
        have hback : ((s[pos].toNat : Int)).toNat.toUInt8 = s[pos] := by simp
        have HI := hide (Lib.iterAt_heap wr w1.heap.size s pos (pos + 1) HK.out)
        have HB1 := hide (Lib.below_iterAt HB.out (Nat.le_refl _) s (pos + 1))
        have HG := hide hg
        clear hdec hg
        cases hin : cs.data.toList.contains s[pos]
        · rw [hin] at hcon
          have hlt2 : ¬ ((0 : Int) ≤ Lib.indexByte cs.data.toList s[pos]) := of_decide_eq_false hcon.symm
          have HIN := hide hin
          clear hcon hin
          go_wp2_with fail
          refine (Tryz.strings_IndexRune_ascii _ _ _ (by omega) (by omega)).mono ?_
          rintro e w2 ⟨rfl, hw2⟩
          subst hw2
          rw [hback]
          go_wp2_with fail
          go_roundw
          case rel => exact ⟨pos + 1, by omega, HI.out, HB1.out, HN.out.succ HG.out HIN.out⟩
          case measure =>
            rw [show World.iterPos (World.iterAt wr w1.heap.size s (pos + 1)) w1.heap.size = pos + 1 by unfold World.iterPos; rw [HI.out], show World.iterPos wr w1.heap.size = pos by unfold World.iterPos; rw [HK.out]]
            omega
        · rw [hin] at hcon
          have hge : (0 : Int) ≤ Lib.indexByte cs.data.toList s[pos] := of_decide_eq_true hcon.symm
          have HIN := hide hin
          clear hcon hin
          go_wp2_with fail
          refine (Tryz.strings_IndexRune_ascii _ _ _ (by omega) (by omega)).mono ?_
          rintro e w2 ⟨rfl, hw2⟩
          subst hw2
          rw [hback]
          go_wp2_with fail
          go_ret
          exact ⟨ret_int (by rw [Lib.indexAny_hit HN.out HG.out HIN.out]), HB1.out⟩
      · have hsp := decode_span s pos hlt hx
        have hle2 := decode_end s pos hlt
        generalize Utf8.decode s pos = dl at hnx hd1 hd2 hle hsp hle2
        obtain ⟨r, n⟩ := dl
        simp only at hnx hd1 hd2 hle hsp hle2
        have HI := hide (Lib.iterAt_heap wr w1.heap.size s pos (pos + n) HK.out)
        have HB1 := hide (Lib.below_iterAt HB.out (Nat.le_refl _) s (pos + n))
        have HN2 := hide (noAny_step HN.out fun j h1 h2 b hb => not_contains_high HA.out (hsp j h1 h2 b hb))
        clear hsp
        go_wp2_with fail
        refine (indexRune_high cs (r : Int) _ (by omega) HA.out (by omega) (by omega)).mono ?_
        rintro e w2 ⟨rfl, hb2⟩
        have HI2 := hide ((hb2.block _ (by rw [Lib.iterAt_size]; exact hsz)).trans HI.out)
        have HB2 := hide (HB1.out.trans (hb2.mono (by rw [Lib.iterAt_size]; exact HB.out.size)))
        clear hb2
        go_wp2_with fail
        go_roundw
        case rel => exact ⟨pos + n, by omega, HI2.out, HB2.out, HN2.out⟩
        case measure =>
          have e1 : World.iterPos w2 w1.heap.size = pos + n := by unfold World.iterPos; rw [HI2.out]
          have e2 : World.iterPos wr w1.heap.size = pos := by unfold World.iterPos; rw [HK.out]
          rw [e1, e2]; omega
    · have hnx := fun ty => Lib.run_next_end_at (P := Tryz.prog) wr w1.heap.size s pos ty HK.out hlt
      go_wp2
      go_ret
      exact ⟨ret_int (by rw [Lib.indexAny_none (by rw [← Lib.size_eq]; exact fun j b hj => HN.out j b (by omega))]), HB.out⟩
theorem hasAny_index (cs l : List UInt8) : Lib.containsAny l cs = hasAny cs l := by
  unfold Lib.containsAny hasAny
  induction l with
  | nil => rfl
  | cons a r ih =>
    rw [List.any_cons, ← ih]
    have hge := Lib.indexAny_ge cs r
    by_cases h : cs.contains a = true
    · have e : Lib.indexAny (a :: r) cs = 0 := by simp only [Lib.indexAny]; exact if_pos h
      rw [decide_eq_true (show 0 ≤ Lib.indexAny (a :: r) cs by omega), h]; rfl
    · have hf : cs.contains a = false := by simpa using h
      rw [hf, Bool.false_or]
      have e : Lib.indexAny (a :: r) cs = if (Lib.indexAny r cs == -1) = true then -1 else Lib.indexAny r cs + 1 := by simp only [Lib.indexAny]; exact if_neg h
      by_cases h0 : Lib.indexAny r cs = -1
      · rw [if_pos (beq_iff_eq.2 h0)] at e
        rw [decide_eq_false (show ¬ 0 ≤ Lib.indexAny (a :: r) cs by omega), decide_eq_false (show ¬ 0 ≤ Lib.indexAny r cs by omega)]
      · rw [if_neg (fun x => h0 (beq_iff_eq.1 x))] at e
        rw [decide_eq_true (show 0 ≤ Lib.indexAny (a :: r) cs by omega), decide_eq_true (show 0 ≤ Lib.indexAny r cs by omega)]

set_option maxRecDepth 100000 in
set_option maxHeartbeats 1000000 in
theorem containsAny_any (s cs : ByteArray) (w : World) (h2 : 2 ≤ cs.size) (hcs : cs.size ≤ 100) (hs : s.size ≤ 1048576) (ha : cs.data.toList.all (fun c => decide (c.toNat < 128)) = true) :
    Calls Tryz.prog 75 #[.string s, .string cs] w fun e w' => e = .returned (.bool (hasAny cs.data.toList s.data.toList)) ∧ Below w.heap.size w w' := by
  have key : Calls Tryz.prog 122 #[.string s, .string cs] w fun e w' => e = .returned (.int .i64 (Lib.indexAny s.data.toList cs.data.toList)) ∧ Below w.heap.size w w' := by
    by_cases h8 : s.size ≤ 8
    · exact indexAny_short s cs w h2 hcs h8 ha
    · exact (Tryz.strings_IndexAny_long (zero_of_info (n := 256) (by kernel_rfl)).1 s cs w h2 (by omega) (by omega) (by omega) (ascii_of_all ha)).mono fun e w' ⟨he, hw⟩ => ⟨he, by rw [hw]; exact ((Below.refl _ _).alloc (Nat.le_refl _) _).alloc (by simp) _⟩
  have HK := hide key
  have HR := hide (hasAny_index cs.data.toList s.data.toList)
  clear key ha
  go_enter Tryz.func75, Tryz.ntmps75
  go_wp2_with fail
  refine HK.out.mono ?_
  rintro e w1 ⟨rfl, hb1⟩
  go_wp2_with fail
  go_ret
  exact ⟨ret_bool (by rw [← HR.out]; rfl), hb1⟩
end Go.Proofs.YtcmmbceacjechaaGreatDoor

/- WALK of strings.Cut at a text of one byte. No statement is proved here. -/
namespace Go.Proofs.YtcmmbceacjechaaGreatDoor
open Go.RowKit
set_option linter.unusedVariables false
set_option linter.unusedSimpArgs false

theorem index_cut (c : UInt8) (l : List UInt8) : (Lib.indexByte l c = -1 ∧ c ∉ l ∧ beforeC c l = l ∧ afterC c l = []) ∨ ∃ o : Nat, Lib.indexByte l c = o ∧ o < l.length ∧ c ∈ l ∧ beforeC c l = l.take o ∧ afterC c l = l.drop (o + 1) := by
  induction l with
  | nil => exact .inl ⟨rfl, by simp, rfl, rfl⟩
  | cons a r ih =>
    by_cases h : a = c
    · subst h
      have := cut_at a (a :: r) 0 (by simp) rfl (fun j hj => absurd hj (by omega))
      exact .inr ⟨0, by simp [Lib.indexByte], by simp, this.1, this.2.1, this.2.2⟩
    · have h1 : (a == c) = false := by simp [h]
      have h2 : (a != c) = true := by simp [h]
      have eb : beforeC c (a :: r) = a :: beforeC c r := by simp [beforeC, List.takeWhile_cons, h2]
      have ea : afterC c (a :: r) = afterC c r := by simp [afterC, List.dropWhile_cons, h2]
      rcases ih with ⟨i1, i2, i3, i4⟩ | ⟨o, i1, i2, i3, i4, i5⟩
      · refine .inl ⟨by simp [Lib.indexByte, h1, i1], ?_, by rw [eb, i3], by rw [ea, i4]⟩
        intro hm
        rcases List.mem_cons.1 hm with e | e
        · exact h e.symm
        · exact i2 e
      · have hne : ((o : Int) == -1) = false := by rw [beq_eq_false_iff_ne]; omega
        refine .inr ⟨o + 1, by simp [Lib.indexByte, h1, i1, hne], by simp; omega, List.mem_cons_of_mem _ i3, by rw [eb, i4]; rfl, by rw [ea, i5]; rfl⟩

/-- what Cut answers -/
def cutV (c : UInt8) (l : List UInt8) : Value := .tuple #[.string (str (beforeC c l)), .string (str (afterC c l)), .bool (hasC c l)]
theorem ret_cut {a b x y : ByteArray} {d e : Bool} (h : a = b) (h' : x = y) (h'' : d = e) : Ending.returned (.tuple #[.string a, .string x, .bool d]) = .returned (.tuple #[.string b, .string y, .bool e]) := by rw [h, h', h'']
set_option maxHeartbeats 1000000 in
theorem cut_any (s : ByteArray) (c : UInt8) (w : World) (hs : s.size ≤ 70368744177664) :
    Calls Tryz.prog 123 #[.string s, .string ⟨#[c]⟩] w fun e w' => e = .returned (cutV c s.data.toList) ∧ Below w.heap.size w w' := by
  have hz : (⟨#[c]⟩ : ByteArray).size = 1 := rfl
  rcases index_cut c s.data.toList with ⟨i1, i2, i3, i4⟩ | ⟨o, i1, i2, i3, i4, i5⟩
  · have I1 := hide i1
    have I2 := hide i2
    have I3 := hide i3
    have I4 := hide i4
    clear i1 i2 i3 i4
    go_enter Tryz.func123, Tryz.ntmps123
    go_wp2_with fail
    refine (Tryz.stringslite_Index_one s c _).mono ?_
    rintro e w1 ⟨rfl, hw⟩
    subst hw
    rw [I1.out]
    go_wp2_with fail
    go_ret3
    exact ⟨ret_cut (by rw [I3.out, str_of]) (by rw [I4.out]; rfl) (by rw [hasC_false I2.out]), Below.refl _ _⟩
  · have I1 := hide i1
    have I3 := hide i3
    have I4 := hide i4
    have I5 := hide i5
    rw [toList_length] at i2
    have o1 : (o : Int) + 1 ≤ s.size := by omega
    have o0 : (0 : Int) ≤ o := by omega
    have o2 : (o : Int) ≤ s.size := by omega
    have o3 : (0 : Int) ≤ (o : Int) + 1 := by omega
    have o4 : ((o : Int) + 1).toNat = o + 1 := by omega
    clear i1 i3 i4 i5
    go_enter Tryz.func123, Tryz.ntmps123
    go_wp2_with fail
    refine (Tryz.stringslite_Index_one s c _).mono ?_
    rintro e w1 ⟨rfl, hw⟩
    subst hw
    rw [I1.out]
    go_wp2_with fail
    go_region
    all_goals (try go_wp2)
    all_goals
      go_ret3
      exact ⟨ret_cut (ext_list (by rw [extract_list, List.drop_zero, str_toList, I4.out])) (ext_list (by rw [extract_end, str_toList, I5.out])) (by rw [hasC_true I3.out]), (Below.refl _ _).drew⟩

set_option maxHeartbeats 1000000 in
theorem strCut_any (s : ByteArray) (c : UInt8) (w : World) (hs : s.size ≤ 70368744177664) :
    Calls Tryz.prog 76 #[.string s, .string ⟨#[c]⟩] w fun e w' => e = .returned (cutV c s.data.toList) ∧ Below w.heap.size w w' := by
  go_enter Tryz.func76, Tryz.ntmps76
  go_wp2_with fail
  refine (cut_any s c _ hs).mono ?_
  rintro e w1 ⟨rfl, hb⟩
  unfold cutV
  go_wp2_with fail
  go_ret3
  exact ⟨rfl, hb⟩
end Go.Proofs.YtcmmbceacjechaaGreatDoor

/- WALK of addr.Good. No statement is proved here. -/
namespace Go.Proofs.YtcmmbceacjechaaGreatDoor
open Go.RowKit
set_option linter.unusedVariables false
set_option linter.unusedSimpArgs false
set_option maxRecDepth 100000
def notOne : List UInt8 := [60, 62, 40, 41, 44, 59, 58, 92, 34]
def hasAt (l : List UInt8) : Bool := decide (0 ≤ Lib.indexByte l 64)
def goodL (l : List UInt8) : Bool :=
  if withinB 33 126 l && !hasAny notOne l then beforeC 64 l != [] && (afterC 64 l != [] && !hasAt (afterC 64 l)) else false
set_option maxHeartbeats 1000000 in
theorem good_any (s : ByteArray) (w : World) (hs : s.size ≤ 1048576) :
    Calls Tryz.prog 31 #[.string s] w fun e w' => e = .returned (.bool (goodL s.data.toList)) ∧ Below w.heap.size w w' := by
  have HS : Hid (s.size ≤ 1048576) := hide hs
  have C1 := hide (within_any s 33 126 w (Nat.le_trans hs (by decide)))
  have C2 := fun w1 => hide (containsAny_any s ⟨#[60, 62, 40, 41, 44, 59, 58, 92, 34]⟩ w1 (by decide) (by decide) hs (by decide))
  have C3 := fun w1 => hide (strCut_any s 64 w1 (Nat.le_trans hs (by decide)))
  clear hs
  have HG : Hid (goodL s.data.toList = if withinB 33 126 s.data.toList && !hasAny notOne s.data.toList then beforeC 64 s.data.toList != [] && (afterC 64 s.data.toList != [] && !hasAt (afterC 64 s.data.toList)) else false) := hide rfl
  cases h1 : withinB 33 126 s.data.toList with
  | false =>
    rw [h1] at C1 HG
    go_enter Tryz.func31, Tryz.ntmps31
    go_wp2_with (go_at_call 74; refine C1.out.mono ?_; rintro e w1 ⟨rfl, hw1⟩; obtain rfl : w = w1 := hw1)
    go_ret
    exact ⟨by rw [HG.out]; rfl, Below.refl _ _⟩
  | true =>
    cases h2 : hasAny notOne s.data.toList with
    | true =>
      rw [h1] at C1
      rw [h1, h2] at HG
      have C2' := fun w1 => hide (show Calls Tryz.prog 75 #[.string s, .string ⟨#[60, 62, 40, 41, 44, 59, 58, 92, 34]⟩] w1 fun e w' => e = .returned (.bool true) ∧ Below w1.heap.size w1 w' by rw [← h2]; exact (C2 w1).out)
      go_enter Tryz.func31, Tryz.ntmps31
      go_wp2_with (first
        | (go_at_call 74; refine C1.out.mono ?_; rintro e w1 ⟨rfl, hw1⟩; obtain rfl : w = w1 := hw1)
        | (go_at_call 75; refine (C2' _).out.mono ?_; rintro e w2 ⟨rfl, hb2⟩; have HB2 := hide hb2; clear hb2))
      go_ret
      exact ⟨by rw [HG.out]; rfl, HB2.out⟩
    | false =>
      rw [h1] at C1
      rw [h1, h2] at HG
      have C2' := fun w1 => hide (show Calls Tryz.prog 75 #[.string s, .string ⟨#[60, 62, 40, 41, 44, 59, 58, 92, 34]⟩] w1 fun e w' => e = .returned (.bool false) ∧ Below w1.heap.size w1 w' by rw [← h2]; exact (C2 w1).out)
      obtain ⟨U, hU⟩ : ∃ U, U = beforeC 64 s.data.toList := ⟨_, rfl⟩
      obtain ⟨V, hV⟩ : ∃ V, V = afterC 64 s.data.toList := ⟨_, rfl⟩
      have C4 := fun w1 => hide (Tryz.strings_Contains_one (str V) 64 w1)
      rw [← hU, ← hV] at HG
      have HU := hide hU
      have HV := hide hV
      clear h1 h2 hU hV
      have e0 : (str []).toList = [] := str_list []
      cases U with
      | nil =>
        go_enter Tryz.func31, Tryz.ntmps31
        go_wp2_with (first
          | (go_at_call 74; refine C1.out.mono ?_; rintro e w1 ⟨rfl, hw1⟩; obtain rfl : w = w1 := hw1)
          | (go_at_call 75; refine (C2' _).out.mono ?_; rintro e w2 ⟨rfl, hb2⟩; have HB2 := hide hb2; clear hb2)
          | (go_at_call 76; refine (C3 _).out.mono ?_; unfold cutV; rw [← HU.out, ← HV.out]; rintro e w3 ⟨rfl, hb3⟩; have HB3 := hide (HB2.out.trans (hb3.mono HB2.out.size)); clear hb3))
        go_ret
        exact ⟨by rw [HG.out]; rfl, HB3.out⟩
      | cons a r =>
        have e1 : (str (a :: r)).toList = a :: r := str_list _
        cases V with
        | nil =>
          go_enter Tryz.func31, Tryz.ntmps31
          go_wp2_with (first
            | (go_at_call 74; refine C1.out.mono ?_; rintro e w1 ⟨rfl, hw1⟩; obtain rfl : w = w1 := hw1)
            | (go_at_call 75; refine (C2' _).out.mono ?_; rintro e w2 ⟨rfl, hb2⟩; have HB2 := hide hb2; clear hb2)
            | (go_at_call 76; refine (C3 _).out.mono ?_; unfold cutV; rw [← HU.out, ← HV.out]; rintro e w3 ⟨rfl, hb3⟩; have HB3 := hide (HB2.out.trans (hb3.mono HB2.out.size)); clear hb3))
          go_ret
          exact ⟨by rw [HG.out]; rfl, HB3.out⟩
        | cons b t =>
          have e2 : (str (b :: t)).toList = b :: t := str_list _
          have HG2 : Hid (goodL s.data.toList = !hasAt (b :: t)) := hide (by rw [HG.out]; rfl)
          go_enter Tryz.func31, Tryz.ntmps31
          go_wp2_with (first
            | (go_at_call 74; refine C1.out.mono ?_; rintro e w1 ⟨rfl, hw1⟩; obtain rfl : w = w1 := hw1)
            | (go_at_call 75; refine (C2' _).out.mono ?_; rintro e w2 ⟨rfl, hb2⟩; have HB2 := hide hb2; clear hb2)
            | (go_at_call 76; refine (C3 _).out.mono ?_; unfold cutV; rw [← HU.out, ← HV.out]; rintro e w3 ⟨rfl, hb3⟩; have HB3 := hide (HB2.out.trans (hb3.mono HB2.out.size)); clear hb3)
            | (go_at_call 77; refine (C4 _).out.mono ?_; rintro e w4 ⟨rfl, hw4⟩; obtain rfl : w3 = w4 := hw4.symm; rw [str_toList, show decide (0 ≤ Lib.indexByte (b :: t) 64) = hasAt (b :: t) from rfl]))
          go_ret
          exact ⟨by rw [HG2.out]; rfl, HB3.out⟩
end Go.Proofs.YtcmmbceacjechaaGreatDoor

/- What package quote computes, as functions on lists of bytes, and facts on them. No statement is proved here. -/
namespace Go.Proofs.YtcmmbceacjechaaGreatDoor
set_option linter.unusedVariables false
set_option linter.unusedSimpArgs false

/-- a quoted stretch behind its sign: what it says, how many bytes it has with the sign that ends it; p: does the byte ahead pair the next one? -/
def qrd : Bool → List UInt8 → List UInt8 × Nat
  | _, [] => ([], 0)
  | p, c :: r =>
    if !p && c == 34 then ([], 1)
    else if !p && c == 92 then ((qrd true r).1, (qrd true r).2 + 1)
    else (c :: (qrd false r).1, (qrd false r).2 + 1)
def readQ (l : List UInt8) : List UInt8 × Nat :=
  match l with
  | [] => ([], 0)
  | c :: r => if c == 34 then ((qrd false r).1, (qrd false r).2 + 1) else ([], 0)
def escC (c : UInt8) : List UInt8 := if c = 34 ∨ c = 92 then [92, c] else [c]
def escL (l : List UInt8) : List UInt8 := l.flatMap escC
def quoteL (l : List UInt8) : List UInt8 := 34 :: (escL l ++ [34])
theorem qrd_le (p : Bool) (l : List UInt8) : (qrd p l).1.length ≤ l.length ∧ (qrd p l).2 ≤ l.length := by
  induction l generalizing p with
  | nil => exact ⟨Nat.le_refl _, Nat.le_refl _⟩
  | cons c r ih =>
    unfold qrd
    split
    · simp
    · split
      · have := ih true; simp; omega
      · have := ih false; simp; omega
theorem readQ_le (l : List UInt8) : (readQ l).1.length ≤ l.length ∧ (readQ l).2 ≤ l.length := by
  cases l with
  | nil => exact ⟨Nat.le_refl _, Nat.le_refl _⟩
  | cons c r =>
    have := qrd_le false r
    unfold readQ
    simp only []
    split
    · simp; omega
    · simp
theorem qrd_esc (x r : List UInt8) : qrd false (escL x ++ 34 :: r) = (x, (escL x).length + 1) := by
  induction x with
  | nil => rfl
  | cons c t ih =>
    have e : escL (c :: t) = escC c ++ escL t := rfl
    rw [e]
    by_cases h : c = 34 ∨ c = 92
    · rw [show escC c = [92, c] from if_pos h]
      show qrd false (92 :: c :: (escL t ++ 34 :: r)) = _
      have h1 : qrd false (92 :: c :: (escL t ++ 34 :: r)) = ((qrd true (c :: (escL t ++ 34 :: r))).1, (qrd true (c :: (escL t ++ 34 :: r))).2 + 1) := rfl
      have h2 : qrd true (c :: (escL t ++ 34 :: r)) = (c :: (qrd false (escL t ++ 34 :: r)).1, (qrd false (escL t ++ 34 :: r)).2 + 1) := rfl
      rw [h1, h2, ih]
      simp
    · rw [show escC c = [c] from if_neg h]
      have h34 : (c == 34) = false := beq_eq_false_iff_ne.2 (fun e => h (.inl e))
      have h92 : (c == 92) = false := beq_eq_false_iff_ne.2 (fun e => h (.inr e))
      show qrd false (c :: (escL t ++ 34 :: r)) = _
      unfold qrd
      rw [h34, h92, ih]
      simp
/-- what is written is read, whatever follows -/
theorem readQ_quote (x r : List UInt8) : readQ (quoteL x ++ r) = (x, (quoteL x).length) := by
  have e : quoteL x ++ r = 34 :: (escL x ++ 34 :: r) := by simp [quoteL]
  rw [e]
  show ((qrd false (escL x ++ 34 :: r)).1, (qrd false (escL x ++ 34 :: r)).2 + 1) = _
  rw [qrd_esc]
  simp [quoteL]
theorem escC_length (c : UInt8) : (escC c).length ≤ 2 := by unfold escC; split <;> simp
theorem escL_length (l : List UInt8) : (escL l).length ≤ 2 * l.length := by
  induction l with
  | nil => exact Nat.le_refl _
  | cons c r ih =>
    have := escC_length c
    show (escC c ++ escL r).length ≤ _
    rw [List.length_append, List.length_cons]; omega
/-- a control sign: below 32, or 127 -/
def ctlB (c : UInt8) : Bool := decide (c.toNat < 32) || c == 127
end Go.Proofs.YtcmmbceacjechaaGreatDoor

/- WALKS of quote.Read, ascii.Control. No statement is proved here. -/
namespace Go.Proofs.YtcmmbceacjechaaGreatDoor
open Go.RowKit
set_option linter.unusedVariables false
set_option linter.unusedSimpArgs false
set_option maxRecDepth 100000

def ctlL (l : List UInt8) : Bool := l.any ctlB
theorem ctl_step (s : ByteArray) (k : Nat) (h : k < s.size) : ctlL (s.data.toList.drop k) = (ctlB s[k] || ctlL (s.data.toList.drop (k + 1))) := by rw [drop_cons s k h]; rfl
set_option maxHeartbeats 1000000 in
theorem control_any (s : ByteArray) (w : World) (hs : s.size ≤ 70368744177664) :
    Calls Tryz.prog 62 #[.string s] w fun e w' => e = .returned (.bool (ctlL s.data.toList)) ∧ w = w' := by
  have hsm : s.size < 9223372036854775807 := by omega
  go_enter Tryz.func62, Tryz.ntmps62
  go_wp2
  go_loop [6] (fun i => ∃ k : Nat, k ≤ s.size ∧ i = .int .i64 k ∧ Hid (ctlL (s.data.toList.drop k) = ctlL s.data.toList)) (fun i => s.size - (intOf i).toNat)
  case atStart => exact ⟨0, Nat.zero_le _, rfl, hide rfl⟩
  case round =>
    obtain ⟨k, hk, rfl, HG⟩ := hrel
    by_cases hlt : k < s.size
    · have hst := ctl_step s k hlt
      rw [HG.out] at hst
      by_cases h1 : s[k].toNat < 32
      · have t1 : decide ((s[k].toNat : Int) < 32) = true := decide_eq_true (by omega)
        have HR : Hid (ctlL s.data.toList = true) := hide (by rw [hst]; unfold ctlB; rw [decide_eq_true h1]; rfl)
        clear hst h1
        go_wp2_with fail
        go_ret
        exact ⟨ret_bool HR.out.symm, rfl⟩
      · have t1 : decide ((s[k].toNat : Int) < 32) = false := decide_eq_false (by omega)
        by_cases h2 : s[k] = 127
        · have t2 : ((s[k].toNat : Int) == 127) = true := tT 127 h2 (by omega)
          have HR : Hid (ctlL s.data.toList = true) := hide (by rw [hst]; unfold ctlB; rw [h2]; rfl)
          clear hst h1 h2
          go_wp2_with fail
          go_ret
          exact ⟨ret_bool HR.out.symm, rfl⟩
        · have t2 : ((s[k].toNat : Int) == 127) = false := tF 127 h2 (by omega)
          have HN : Hid (ctlL (s.data.toList.drop (k + 1)) = ctlL s.data.toList) := hide (by
            rw [hst]; unfold ctlB; rw [decide_eq_false h1, beq_eq_false_iff_ne.2 h2]; rfl)
          clear hst h1 h2
          go_wp2_with fail
          go_round
          case rel => exact ⟨k + 1, by omega, by go_num, HN⟩
          case measure => simp [intOf]; omega
    · have HR : Hid (ctlL s.data.toList = false) := hide (by rw [← HG.out, List.drop_eq_nil_of_le (by rw [toList_length]; omega)]; rfl)
      go_wp2_with fail
      go_ret
      exact ⟨ret_bool HR.out.symm, rfl⟩
/-- what Read answers -/
def readV (o : List UInt8 × Nat) : Value := .tuple #[.string (str o.1), .int .i64 o.2]
set_option maxHeartbeats 1000000 in
theorem readQ_any (s : ByteArray) (w : World) (hs : s.size ≤ 70368744177664) :
    Calls Tryz.prog 92 #[.string s] w fun e w' => e = .returned (readV (readQ s.data.toList)) ∧ Below w.heap.size w w' := by
  cases hp : Lib.hasPrefix s.data.toList [34] with
  | false =>
    have HR : Hid (readQ s.data.toList = ([], 0)) := hide (by
      cases hl : s.data.toList with
      | nil => rfl
      | cons c r =>
        rw [hl] at hp
        have : (c == 34) = false := by
          rw [beq_eq_false_iff_ne]
          intro e
          rw [e] at hp
          exact absurd hp (by unfold Lib.hasPrefix; simp)
        unfold readQ; simp only []; rw [this]; rfl)
    have HP := hide hp
    clear hp
    go_enter Tryz.func92, Tryz.ntmps92
    go_wp2_with fail
    refine (Tryz.strings_HasPrefix s ⟨#[34]⟩ _).mono ?_
    rintro e w1 ⟨rfl, hw1⟩
    obtain rfl : w = w1 := hw1.symm
    rw [show (⟨#[34]⟩ : ByteArray).data.toList = [34] from rfl, HP.out]
    go_wp2_with fail
    go_ret2
    exact ⟨by rw [HR.out]; rfl, Below.refl _ _⟩
  | true =>
    obtain ⟨r, hr⟩ : ∃ r, s.data.toList = 34 :: r := by
      cases hl : s.data.toList with
      | nil => rw [hl] at hp; cases hp
      | cons c r =>
        rw [hl] at hp
        by_cases e : c = 34
        · exact ⟨r, by rw [e]⟩
        · exact absurd hp (by unfold Lib.hasPrefix; simp [Ne.symm e])
    have h1s : 1 ≤ s.size := by rw [← toList_length, hr]; exact Nat.succ_pos _
    have HR : Hid (readQ s.data.toList = ((qrd false r).1, (qrd false r).2 + 1)) := hide (by rw [hr]; rfl)
    have HT : Hid (s.data.toList.drop 1 = r) := hide (by rw [hr]; rfl)
    have HP := hide hp
    clear hp hr
    go_enter Tryz.func92, Tryz.ntmps92
    go_wp2_with fail
    refine (Tryz.strings_HasPrefix s ⟨#[34]⟩ _).mono ?_
    rintro e w1 ⟨rfl, hw1⟩
    obtain rfl : w = w1 := hw1.symm
    rw [show (⟨#[34]⟩ : ByteArray).data.toList = [34] from rfl, HP.out]
    go_wp2_with fail
    go_loopw [4, 5, 6] (fun o p i wr => ∃ (k : Nat) (pb : Bool) (acc : List UInt8), 1 ≤ k ∧ k ≤ s.size ∧ i = .int .i64 k ∧ p = .bool pb ∧ acc.length ≤ k ∧ Hid (Buf w.heap.size o acc w wr) ∧ Hid ((acc ++ (qrd pb (s.data.toList.drop k)).1, k + (qrd pb (s.data.toList.drop k)).2) = readQ s.data.toList)) (fun _ _ i _ => s.size - (intOf i).toNat)
    case atStart => exact ⟨1, false, [], Nat.le_refl _, by omega, rfl, rfl, Nat.zero_le _, hide (Buf.nil (Below.refl _ _) (Nat.le_refl _)), hide (by rw [HT.out, HR.out, Nat.add_comm]; rfl)⟩
    case round =>
      obtain ⟨k, pb, acc, hk1, hk, rfl, rfl, hal, HB, HG⟩ := hrel
      by_cases hlt : k < s.size
      · have hd := drop_cons s k hlt
        cases pb with
        | true =>
          have HN : Hid (((acc ++ [s[k]]) ++ (qrd false (s.data.toList.drop (k + 1))).1, (k + 1) + (qrd false (s.data.toList.drop (k + 1))).2) = readQ s.data.toList) := hide (by
            rw [← HG.out, hd]
            have e : qrd true (s[k] :: s.data.toList.drop (k + 1)) = (s[k] :: (qrd false (s.data.toList.drop (k + 1))).1, (qrd false (s.data.toList.drop (k + 1))).2 + 1) := rfl
            rw [e]
            exact Prod.ext (by simp) (by show k + 1 + _ = k + (_ + 1); omega))
          have HAL : Hid (acc.length + 1 ≤ 140737488355328) := hide (by omega)
          obtain ⟨c, hc⟩ : ∃ c, c = s[k] := ⟨_, rfl⟩
          clear hd
          go_wp2_with (refine wpList_buf_byte rfl _ _ rfl w.heap.size u4 acc rfl w wr (s[k]) HB.out rfl HAL.out ?_; intro v4 w4 hb4; have HB4 := hide hb4; clear hb4)
          go_round
          case rel => exact ⟨k + 1, false, acc ++ [s[k]], by omega, by omega, by go_num, rfl, by simp; omega, HB4, HN⟩
          case measure => simp [intOf]; omega
        | false =>
          by_cases h1 : s[k] = 34
          · have t1 : ((s[k].toNat : Int) == (((⟨#[34]⟩ : ByteArray)[0]'(by decide)).toNat : Int)) = true := tT 34 h1 (by omega)
            have HE : Hid ((acc, k + 1) = readQ s.data.toList) := hide (by
              rw [← HG.out, hd, h1]
              have e : qrd false (34 :: s.data.toList.drop (k + 1)) = ([], 1) := rfl
              rw [e]; simp)
            have hcv := HB.out.convert
            clear hd h1
            go_wp2_with fail
            go_ret2
            exact ⟨by rw [← HE.out]; rfl, HB.out.below⟩
          · have t1 : ((s[k].toNat : Int) == (((⟨#[34]⟩ : ByteArray)[0]'(by decide)).toNat : Int)) = false := tF 34 h1 (by omega)
            by_cases h2 : s[k] = 92
            · have t2 : ((s[k].toNat : Int) == (((⟨#[92]⟩ : ByteArray)[0]'(by decide)).toNat : Int)) = true := tT 92 h2 (by omega)
              have HN : Hid ((acc ++ (qrd true (s.data.toList.drop (k + 1))).1, (k + 1) + (qrd true (s.data.toList.drop (k + 1))).2) = readQ s.data.toList) := hide (by
                rw [← HG.out, hd, h2]
                have e : qrd false (92 :: s.data.toList.drop (k + 1)) = ((qrd true (s.data.toList.drop (k + 1))).1, (qrd true (s.data.toList.drop (k + 1))).2 + 1) := rfl
                rw [e]
                exact Prod.ext rfl (by show k + 1 + _ = k + (_ + 1); omega))
              clear hd h1 h2
              go_wp2_with fail
              go_round
              case rel => exact ⟨k + 1, true, acc, by omega, by omega, by go_num, rfl, by omega, HB, HN⟩
              case measure => simp [intOf]; omega
            · have t2 : ((s[k].toNat : Int) == (((⟨#[92]⟩ : ByteArray)[0]'(by decide)).toNat : Int)) = false := tF 92 h2 (by omega)
              have HN : Hid (((acc ++ [s[k]]) ++ (qrd false (s.data.toList.drop (k + 1))).1, (k + 1) + (qrd false (s.data.toList.drop (k + 1))).2) = readQ s.data.toList) := hide (by
                rw [← HG.out, hd]
                have e : qrd false (s[k] :: s.data.toList.drop (k + 1)) = (s[k] :: (qrd false (s.data.toList.drop (k + 1))).1, (qrd false (s.data.toList.drop (k + 1))).2 + 1) := by
                  rw [qrd]
                  rw [beq_eq_false_iff_ne.2 h1, beq_eq_false_iff_ne.2 h2]; rfl
                rw [e]
                exact Prod.ext (by simp) (by show k + 1 + _ = k + (_ + 1); omega))
              have HAL : Hid (acc.length + 1 ≤ 140737488355328) := hide (by omega)
              clear hd h1 h2
              go_wp2_with (refine wpList_buf_byte rfl _ _ rfl w.heap.size u4 acc rfl w wr (s[k]) HB.out rfl HAL.out ?_; intro v4 w4 hb4; have HB4 := hide hb4; clear hb4)
              go_round
              case rel => exact ⟨k + 1, false, acc ++ [s[k]], by omega, by omega, by go_num, rfl, by simp; omega, HB4, HN⟩
              case measure => simp [intOf]; omega
      · have hk2 : k = s.size := by omega
        have HE : Hid ((acc, s.size) = readQ s.data.toList) := hide (by
          rw [← HG.out, List.drop_eq_nil_of_le (by rw [toList_length]; omega)]
          cases pb <;> (simp [qrd]; try omega))
        have hcv := HB.out.convert
        go_wp2_with fail
        go_ret2
        exact ⟨by rw [← HE.out]; rfl, HB.out.below⟩
end Go.Proofs.YtcmmbceacjechaaGreatDoor

/- WALK of word.fromQ. No statement is proved here. -/
namespace Go.Proofs.YtcmmbceacjechaaGreatDoor
open Go.RowKit
set_option linter.unusedVariables false
set_option linter.unusedSimpArgs false

set_option maxRecDepth 100000 in
set_option maxHeartbeats 1000000 in
theorem fromQ_any (s : ByteArray) (w : World) (hs : s.size ≤ 70368744177664) :
    Calls Tryz.prog 231 #[.string s] w fun e w' => e = .returned (.string (str (qdec s.data.toList))) ∧ Below w.heap.size w w' := by
  go_enter Tryz.func231, Tryz.ntmps231
  go_wp2_with (refine wpList_buf_make rfl _ _ rfl w.heap.size w (Below.refl _ _) (Nat.le_refl _) s.size s.size rfl rfl rfl (by omega) ?_; intro v0 w0 hb0)
  go_loopw [3, 4] (fun v i wr => ∃ (k : Nat) (acc : List UInt8), k ≤ s.size ∧ i = .int .i64 k ∧ Buf w.heap.size v acc w wr ∧ acc.length ≤ k ∧ acc ++ qdec (s.data.toList.drop k) = qdec s.data.toList) (fun _ i _ => s.size - (intOf i).toNat)
  case atStart => exact ⟨0, [], Nat.zero_le _, rfl, hb0, Nat.zero_le _, rfl⟩
  case round =>
    obtain ⟨k, acc, hk, rfl, hb, hacc, hd⟩ := hrel
    have HB := hide hb
    clear hb
    by_cases hlt : k < s.size
    · have hne := drop_cons s k hlt
      have hR := qdec_round hd hne
      have hle := qStep_le s[k] (s.data.toList.drop (k + 1))
      rw [List.length_drop, toList_length] at hle
      have hdd : ∀ n, (s.data.toList.drop k).drop n = s.data.toList.drop (k + n) := fun n => by rw [List.drop_drop]
      rcases qStep_cases s[k] (s.data.toList.drop (k + 1)) with ⟨h95, hp⟩ | ⟨h61, b, hx, hp, hl⟩ | ⟨h61, hx, hp⟩ | ⟨h95, h61, hp⟩
      · rw [hp, hdd] at hR
        have HR := hide hR
        have t0 : ((s[k].toNat : Int) == 95) = true := tT 95 h95 (by omega)
        clear hR hp hne hd hle hdd h95
        go_wp2_with (refine wpList_buf_const rfl _ _ rfl w.heap.size u3 acc rfl w wr 32 32 rfl HB.out rfl (by omega) ?_; intro v2 w2 hb2 _; have HB2 := hide hb2; clear hb2)
        go_roundw
        case rel => exact ⟨k + 1, acc ++ [32], by omega, by go_num, HB2.out, by simp; omega, HR.out⟩
        case measure => simp [intOf]; omega
      · rw [hp, hdd] at hR
        rw [hp] at hle
        rw [List.length_drop, toList_length] at hl
        have HR := hide hR
        have t0 : ((s[k].toNat : Int) == 61) = true := tT 61 h61 (by omega)
        have t1 : ((s[k].toNat : Int) == 95) = false := tF 95 (by rw [h61]; decide) (by omega)
        have HV : Hid (fromHexV (s.data.toList.drop (k + 1)) = .tuple #[.int .u8 b.toNat, .bool true]) := by unfold fromHexV; rw [hx]; exact hide rfl
        have HX1 := hide (extract_end s (k + 1))
        have HX := hide (show (s.extract (k + 1) s.size).size ≤ maxLen by rw [ByteArray.size_extract]; unfold maxLen; omega)
        clear hR hp hne hd hle hdd h61 hx
        go_wp2_with fail
        refine (fromHex_any _ _ HX.out).mono ?_
        rintro e w1 ⟨rfl, hb1⟩
        rw [HX1.out, HV.out]
        have HB1 := hide (HB.out.kept hb1)
        go_wp2_with (refine wpList_buf_byte rfl _ _ rfl w.heap.size u3 acc rfl w w1 b HB1.out rfl (by omega) ?_; intro v2 w2 hb2; have HB2 := hide hb2; clear hb2)
        go_roundw
        case rel => exact ⟨k + 3, acc ++ [b], by omega, by go_num, HB2.out, by simp; omega, HR.out⟩
        case measure => simp [intOf]; omega
      · rw [hp, hdd] at hR
        have HR := hide hR
        have t0 : ((s[k].toNat : Int) == 61) = true := tT 61 h61 (by omega)
        have t1 : ((s[k].toNat : Int) == 95) = false := tF 95 (by rw [h61]; decide) (by omega)
        have HV : Hid (fromHexV (s.data.toList.drop (k + 1)) = .tuple #[.int .u8 0, .bool false]) := by unfold fromHexV; rw [hx]; exact hide rfl
        have HX1 := hide (extract_end s (k + 1))
        have HX := hide (show (s.extract (k + 1) s.size).size ≤ maxLen by rw [ByteArray.size_extract]; unfold maxLen; omega)
        have H61 := hide h61
        clear hR hp hne hd hle hdd h61 hx
        go_wp2_with fail
        refine (fromHex_any _ _ HX.out).mono ?_
        rintro e w1 ⟨rfl, hb1⟩
        rw [HX1.out, HV.out]
        have HB1 := hide (HB.out.kept hb1)
        go_wp2_with (refine wpList_buf_byte rfl _ _ rfl w.heap.size u3 acc rfl w w1 s[k] HB1.out rfl (by omega) ?_; intro v2 w2 hb2; have HB2 := hide hb2; clear hb2)
        go_roundw
        case rel => exact ⟨k + 1, acc ++ [s[k]], by omega, by go_num, HB2.out, by simp; omega, HR.out⟩
        case measure => simp [intOf]; omega
      · rw [hp, hdd] at hR
        have HR := hide hR
        have t0 : ((s[k].toNat : Int) == 61) = false := tF 61 h61 (by omega)
        have t1 : ((s[k].toNat : Int) == 95) = false := tF 95 h95 (by omega)
        clear hR hp hne hd hle hdd h61 h95
        go_wp2_with (refine wpList_buf_byte rfl _ _ rfl w.heap.size u3 acc rfl w wr s[k] HB.out rfl (by omega) ?_; intro v2 w2 hb2; have HB2 := hide hb2; clear hb2)
        go_roundw
        case rel => exact ⟨k + 1, acc ++ [s[k]], by omega, by go_num, HB2.out, by simp; omega, HR.out⟩
        case measure => simp [intOf]; omega
    · have hcv := HB.out.convert
      go_wp2
      go_ret
      refine ⟨?_, HB.out.below⟩
      rw [drop_nil s k (by omega), qdec_nil, List.append_nil] at hd
      exact ret_str (by rw [hd])
end Go.Proofs.YtcmmbceacjechaaGreatDoor

/- WALK of the closure of package b64 that gathers bits. No statement is proved here. -/
namespace Go.Proofs.YtcmmbceacjechaaGreatDoor
open Go.RowKit
set_option linter.unusedVariables false
set_option maxRecDepth 100000
set_option linter.unusedSimpArgs false

namespace WalkArithU64
theorem u64_in' (n : Nat) (h : n < 18446744073709551616) : IntKind.u64.wrap (n : Int) = n := by rw [IntKind.wrap_u64]; omega
end WalkArithU64
/-- where the gathering closure keeps its variables, and what they hold -/
structure Gat (size : Nat) (hf : FuncId) (B bw bh bs bd bo : Nat) (h wv : Nat) (w : World) : Prop where
  w1 : Box w bw 145 (.int .u64 wv)
  h1 : Box w bh 3 (.int .i64 h)
  s1 : Box w bs 3 (.int .i64 size)
  d1 : Box w bd 166 (.func (.func hf) #[] #[.pointer (some ⟨bo, 0, none⟩)])
  hs : bh ≠ bs
  lw : B ≤ bw
  lh : B ≤ bh
  no : bh ≠ bo
  wo : bw ≠ bo
  so : bs ≠ bo
  eo : bd ≠ bo

/-- pieces are handed on as long as there are enough bits -/
def runBits (size : Nat) (f : Nat → UInt8) (h wv : Nat) (acc : List UInt8) : Nat × Nat × List UInt8 :=
  if h0 : 0 < size ∧ size ≤ h then runBits size f (h - size) (wv % 2 ^ (h - size)) (acc ++ [f (wv / 2 ^ (h - size))]) else (h, wv, acc)
termination_by h
decreasing_by omega

theorem Gat.bw_bh {size : Nat} {hf : FuncId} {B bw bh bs bd bo h wv : Nat} {w : World} (g : Gat size hf B bw bh bs bd bo h wv w) : bw ≠ bh ∧ bw ≠ bs ∧ bw ≠ bd ∧ bh ≠ bd :=
  ⟨g.w1.ne g.h1 (by decide), g.w1.ne g.s1 (by decide), g.w1.ne g.d1 (by decide), g.h1.ne g.d1 (by decide)⟩
theorem Gat.setW {size : Nat} {hf : FuncId} {B bw bh bs bd bo h wv : Nat} {w : World} (g : Gat size hf B bw bh bs bd bo h wv w) (x : Nat) : Gat size hf B bw bh bs bd bo h x (w.setCell ⟨bw, 0, none⟩ (.int .u64 x)) := by
  obtain ⟨n1, n2, n3, n4⟩ := g.bw_bh
  exact ⟨g.w1.set _, g.h1.far (Ne.symm n1) _, g.s1.far (Ne.symm n2) _, g.d1.far (Ne.symm n3) _, g.hs, g.lw, g.lh, g.no, g.wo, g.so, g.eo⟩
theorem Gat.setH {size : Nat} {hf : FuncId} {B bw bh bs bd bo h wv : Nat} {w : World} (g : Gat size hf B bw bh bs bd bo h wv w) (x : Nat) : Gat size hf B bw bh bs bd bo x wv (w.setCell ⟨bh, 0, none⟩ (.int .i64 x)) := by
  obtain ⟨n1, n2, n3, n4⟩ := g.bw_bh
  exact ⟨g.w1.far n1 _, g.h1.set _, g.s1.far (Ne.symm g.hs) _, g.d1.far (Ne.symm n4) _, g.hs, g.lw, g.lh, g.no, g.wo, g.so, g.eo⟩
theorem Gat.drew {size : Nat} {hf : FuncId} {B bw bh bs bd bo h wv : Nat} {w : World} (g : Gat size hf B bw bh bs bd bo h wv w) : Gat size hf B bw bh bs bd bo h wv w.drew :=
  ⟨g.w1, g.h1, g.s1, g.d1, g.hs, g.lw, g.lh, g.no, g.wo, g.so, g.eo⟩
theorem Gat.drewN {size : Nat} {hf : FuncId} {B bw bh bs bd bo h wv : Nat} {w : World} (g : Gat size hf B bw bh bs bd bo h wv w) (n : Nat) : Gat size hf B bw bh bs bd bo h wv (w.drewN n) :=
  ⟨g.w1, g.h1, g.s1, g.d1, g.hs, g.lw, g.lh, g.no, g.wo, g.so, g.eo⟩
theorem Gat.kept {size : Nat} {hf : FuncId} {B bw bh bs bd bo h wv : Nat} {w w' : World} (g : Gat size hf B bw bh bs bd bo h wv w) (k : KeptBut bo w w') : Gat size hf B bw bh bs bd bo h wv w' :=
  ⟨k _ _ _ (by decide) g.wo g.w1, k _ _ _ (by decide) g.no g.h1, k _ _ _ (by decide) g.so g.s1, k _ _ _ (by decide) g.eo g.d1, g.hs, g.lw, g.lh, g.no, g.wo, g.so, g.eo⟩
theorem Gat.alloc {size : Nat} {hf : FuncId} {B bw bh bs bd bo h wv : Nat} {w : World} (g : Gat size hf B bw bh bs bd bo h wv w) (o : Obj) : Gat size hf B bw bh bs bd bo h wv (w.alloc o) :=
  ⟨g.w1.alloc o, g.h1.alloc o, g.s1.alloc o, g.d1.alloc o, g.hs, g.lw, g.lh, g.no, g.wo, g.so, g.eo⟩
theorem Out.setW {size : Nat} {hf : FuncId} {B bw bh bs bd bo h wv : Nat} {l : List UInt8} {W0 w : World} (o : Out B bo l W0 w) (g : Gat size hf B bw bh bs bd bo h wv w) (x : Value) : Out B bo l W0 (w.setCell ⟨bw, 0, none⟩ x) := o.set g.w1 (by decide) g.wo g.lw x
theorem Out.setH {size : Nat} {hf : FuncId} {B bw bh bs bd bo h wv : Nat} {l : List UInt8} {W0 w : World} (o : Out B bo l W0 w) (g : Gat size hf B bw bh bs bd bo h wv w) (x : Value) : Out B bo l W0 (w.setCell ⟨bh, 0, none⟩ x) := o.set g.h1 (by decide) g.no g.lh x

theorem or_low (k a n : Nat) (hn : n < 2 ^ k) (h : a * 2 ^ k + n < 18446744073709551616) : bits .or .u64 ((a : Int) * 2 ^ k) (n : Int) = ((a * 2 ^ k + n : Nat) : Int) := by
  have e : ((a : Int) * 2 ^ k) = ((a * 2 ^ k : Nat) : Int) := by simp
  rw [e, bits_or_u64_nat _ _ (by omega) (by omega)]
  congr 1
  rw [Nat.mul_comm, Nat.two_pow_add_eq_or_of_lt hn]
theorem wrap_shl (k a : Nat) (h : a * 2 ^ k < 18446744073709551616) : IntKind.u64.wrap ((a : Int) * 2 ^ k) = (a : Int) * 2 ^ k := by
  have e : ((a : Int) * 2 ^ k) = ((a * 2 ^ k : Nat) : Int) := by simp
  rw [e]
  exact WalkArithU64.u64_in' _ (by omega)
theorem and_low (k a : Nat) (hk : k < 60) (ha : a < 18446744073709551616) : bits .and .u64 (a : Int) (IntKind.u64.wrap (IntKind.u64.wrap (2 ^ k) - 1)) = ((a % 2 ^ k : Nat) : Int) := by
  have hp := Nat.two_pow_pos k
  have hp2 : 2 ^ k < 18446744073709551616 := Nat.lt_of_lt_of_le (Nat.pow_lt_pow_right (by omega) hk) (by decide)
  have e : ((2 : Int) ^ k) = ((2 ^ k : Nat) : Int) := by simp
  rw [e, WalkArithU64.u64_in' _ hp2]
  have e2 : (((2 ^ k : Nat) : Int) - 1) = ((2 ^ k - 1 : Nat) : Int) := by omega
  rw [e2, WalkArithU64.u64_in' _ (by omega), bits_and_u64_nat _ _ ha (by omega), Nat.and_two_pow_sub_one_eq_mod]

set_option maxHeartbeats 2000000 in
theorem gatDec (B bw bh bs bd bo : Nat) (b h wv n : Nat) (acc : List UInt8) (W0 w : World) (hhb : h + b ≤ 13) (hw : wv < 2 ^ h) (hn : n < 2 ^ b)
    (hg : Gat 8 242 B bw bh bs bd bo h wv w) (ho : Out B bo acc W0 w) (hl : acc.length ≤ 1048576) :
    Calls Tryz.prog 224 #[.int .u64 n, .int .i64 b, .pointer (some ⟨bw, 0, none⟩), .pointer (some ⟨bh, 0, none⟩), .pointer (some ⟨bs, 0, none⟩), .pointer (some ⟨bd, 0, none⟩)] w fun e w' =>
      ∃ h' wv' acc', runBits 8 UInt8.ofNat (h + b) (wv * 2 ^ b + n) acc = (h', wv', acc') ∧ e = .returned (.int .i64 h') ∧ Gat 8 242 B bw bh bs bd bo h' wv' w' ∧ Out B bo acc' W0 w' := by
  have hm2 : wv * 2 ^ b + n < 2 ^ (h + b) := by
    rw [Nat.pow_add]
    have h1 : (wv + 1) * 2 ^ b ≤ 2 ^ h * 2 ^ b := Nat.mul_le_mul_right _ hw
    rw [Nat.add_mul] at h1
    omega
  have hm3 : 2 ^ (h + b) ≤ 8192 := Nat.pow_le_pow_right (n := 2) (i := h + b) (j := 13) (by omega) hhb
  have hor := or_low b wv n hn (by omega)
  have hwr := wrap_shl b wv (by omega)
  have hb0 : (0 : Int) ≤ b := by omega
  obtain ⟨m, hm⟩ : ∃ m, m = wv * 2 ^ b + n := ⟨_, rfl⟩
  rw [← hm] at hm2 hor ⊢
  have c1 := hg.w1.cell
  have f1 := hg.w1.free
  have hg1 := hg.setW m
  have ho1 := ho.setW hg (.int .u64 m)
  have c2 := hg1.h1.cell
  have f2 := hg1.h1.free
  have hg2 := hg1.setH (h + b)
  have ho2 := ho1.setH hg1 (.int .i64 (h + b : Nat))
  have HG := hide hg2
  have HO := hide ho2
  have HM := hide hm
  have HM2 := hide hm2
  clear hg ho hg1 ho1 hg2 ho2 hm hm2 hm3
  go_enter Tryz.func224, Tryz.ntmps224
  go_wp2_with fail
  go_loopw [17] (fun _ wr => ∃ (h' wv' : Nat) (acc' : List UInt8), runBits 8 UInt8.ofNat (h + b) m acc = runBits 8 UInt8.ofNat h' wv' acc' ∧ Gat 8 242 B bw bh bs bd bo h' wv' wr ∧ Out B bo acc' W0 wr ∧ h' ≤ 13 ∧ wv' < 2 ^ h' ∧ acc'.length + h' ≤ acc.length + h + b) (fun _ wr => (intOf ((wr.cell? ⟨bh, 0, none⟩).getD undef)).toNat)
  case atStart => exact ⟨h + b, m, acc, rfl, by simpa using HG.out, by simpa using HO.out, by omega, HM2.out, by omega⟩
  case round =>
    obtain ⟨h', wv', acc', hr, hg, ho, hh', hw', hl'⟩ := hrel
    have HR := hide hr
    clear hr
    have c1 := hg.w1.cell
    have c2 := hg.h1.cell
    have c3 := hg.s1.cell
    have c4 := hg.d1.cell
    have f2 := hg.h1.free
    by_cases h8 : 8 ≤ h'
    · obtain ⟨k, rfl⟩ : ∃ k, h' = k + 8 := ⟨h' - 8, by omega⟩
      have hg1 := hg.setH k
      have ho1 := ho.setH hg (.int .i64 k)
      have d1 := hg1.w1.cell
      have d2 := hg1.h1.cell
      have d4 := hg1.d1.cell
      have HG1 := hide hg1
      have HO1 := hide ho1
      have hp13 : wv' < 8192 := Nat.lt_of_lt_of_le hw' (Nat.pow_le_pow_right (n := 2) (j := 13) (by omega) hh')
      have HAND := hide (and_low k wv' (by omega) (by omega))
      have hmod : wv' % 2 ^ k < 2 ^ k := Nat.mod_lt _ (Nat.two_pow_pos k)
      have hq : wv' / 2 ^ k < 256 := by rw [Nat.div_lt_iff_lt_mul (Nat.two_pow_pos k)]; rw [Nat.pow_add] at hw'; omega
      have HMOD := hide hmod
      clear hg ho hg1 ho1 hmod
      go_wp2_with fail
      generalize wr.setCell ⟨bh, 0, none⟩ (.int .i64 k) = wx at *
      have k0 : (0 : Int) ≤ k := by omega
      have hpc : ((wv' : Int) / 2 ^ k) = ((UInt8.ofNat (wv' / 2 ^ k)).toNat : Int) := by
        rw [UInt8.toNat_ofNat', Nat.mod_eq_of_lt hq]
        simp
      have HPC := hide hpc
      clear hpc
      go_still_tail 4, (by kernel_rfl)
      change wpList _ _ _ _ _ wx.drew
      go_wp2_with fail
      rw [HPC.out]
      refine (decHand_any B bo acc' W0 wx.drew (UInt8.ofNat (wv' / 2 ^ k)) HO1.out.drew (by omega)).mono ?_
      rintro e w3 ⟨rfl, ho3, hk3⟩
      have hg3 := (HG1.out.drew).kept hk3
      have g1 := hg3.w1.cell
      have g2 := hg3.h1.cell
      have g3 := hg3.w1.free
      have HG4 := hide (hg3.setW (wv' % 2 ^ k))
      have HO4 := hide (ho3.setW hg3 (.int .u64 (wv' % 2 ^ k : Nat)))
      have hd4 : (w3.setCell ⟨bw, 0, none⟩ (.int .u64 (wv' % 2 ^ k : Nat))).cell? ⟨bh, 0, none⟩ = some (.int .i64 k) := HG4.out.h1.cell
      have HD4 := hide hd4
      clear hg3 ho3 hk3 d1 d2 d4 c1 c3 c4 f2 hd4
      have C2 := hide c2
      clear c2
      go_wp2_with fail
      have hand := HAND.out
      go_still_tail 5, (by kernel_rfl)
      change wpList _ _ _ _ _ w3.drew
      clear hand
      go_wp2_with fail
      go_roundw
      case rel => exact ⟨k, wv' % 2 ^ k, acc' ++ [UInt8.ofNat (wv' / 2 ^ k)], by rw [HR.out, runBits, dif_pos (by omega)]; simp, by simpa using HG4.out.drew, by simpa using HO4.out.drew, by omega, HMOD.out, by simp; omega⟩
      case measure =>
        have h1 := HD4.out
        have h2 := C2.out
        simp at h1
        simp [h1, h2, intOf]
        omega
    · have HG1 := hide hg
      have HO1 := hide ho
      clear hg ho
      go_wp2_with fail
      go_ret
      exact ⟨h', wv', acc', by rw [HR.out, runBits, dif_neg (by omega)], rfl, HG1.out, HO1.out⟩

set_option maxHeartbeats 2000000 in
theorem gatEnc (B bw bh bs bd bo : Nat) (b h wv n : Nat) (acc : List UInt8) (W0 w : World) (hhb : h + b ≤ 13) (hw : wv < 2 ^ h) (hn : n < 2 ^ b)
    (hg : Gat 6 200 B bw bh bs bd bo h wv w) (ho : Out B bo acc W0 w) (hl : acc.length ≤ 1048576) :
    Calls Tryz.prog 224 #[.int .u64 n, .int .i64 b, .pointer (some ⟨bw, 0, none⟩), .pointer (some ⟨bh, 0, none⟩), .pointer (some ⟨bs, 0, none⟩), .pointer (some ⟨bd, 0, none⟩)] w fun e w' =>
      ∃ h' wv' acc', runBits 6 letter (h + b) (wv * 2 ^ b + n) acc = (h', wv', acc') ∧ e = .returned (.int .i64 h') ∧ Gat 6 200 B bw bh bs bd bo h' wv' w' ∧ Out B bo acc' W0 w' := by
  have hm2 : wv * 2 ^ b + n < 2 ^ (h + b) := by
    rw [Nat.pow_add]
    have h1 : (wv + 1) * 2 ^ b ≤ 2 ^ h * 2 ^ b := Nat.mul_le_mul_right _ hw
    rw [Nat.add_mul] at h1
    omega
  have hm3 : 2 ^ (h + b) ≤ 8192 := Nat.pow_le_pow_right (n := 2) (i := h + b) (j := 13) (by omega) hhb
  have hor := or_low b wv n hn (by omega)
  have hwr := wrap_shl b wv (by omega)
  have hb0 : (0 : Int) ≤ b := by omega
  obtain ⟨m, hm⟩ : ∃ m, m = wv * 2 ^ b + n := ⟨_, rfl⟩
  rw [← hm] at hm2 hor ⊢
  have c1 := hg.w1.cell
  have f1 := hg.w1.free
  have hg1 := hg.setW m
  have ho1 := ho.setW hg (.int .u64 m)
  have c2 := hg1.h1.cell
  have f2 := hg1.h1.free
  have hg2 := hg1.setH (h + b)
  have ho2 := ho1.setH hg1 (.int .i64 (h + b : Nat))
  have HG := hide hg2
  have HO := hide ho2
  have HM := hide hm
  have HM2 := hide hm2
  clear hg ho hg1 ho1 hg2 ho2 hm hm2 hm3
  go_enter Tryz.func224, Tryz.ntmps224
  go_wp2_with fail
  go_loopw [17] (fun _ wr => ∃ (h' wv' : Nat) (acc' : List UInt8), runBits 6 letter (h + b) m acc = runBits 6 letter h' wv' acc' ∧ Gat 6 200 B bw bh bs bd bo h' wv' wr ∧ Out B bo acc' W0 wr ∧ h' ≤ 13 ∧ wv' < 2 ^ h' ∧ acc'.length + h' ≤ acc.length + h + b) (fun _ wr => (intOf ((wr.cell? ⟨bh, 0, none⟩).getD undef)).toNat)
  case atStart => exact ⟨h + b, m, acc, rfl, by simpa using HG.out, by simpa using HO.out, by omega, HM2.out, by omega⟩
  case round =>
    obtain ⟨h', wv', acc', hr, hg, ho, hh', hw', hl'⟩ := hrel
    have HR := hide hr
    clear hr
    have c1 := hg.w1.cell
    have c2 := hg.h1.cell
    have c3 := hg.s1.cell
    have c4 := hg.d1.cell
    have f2 := hg.h1.free
    by_cases h8 : 6 ≤ h'
    · obtain ⟨k, rfl⟩ : ∃ k, h' = k + 6 := ⟨h' - 6, by omega⟩
      have hg1 := hg.setH k
      have ho1 := ho.setH hg (.int .i64 k)
      have d1 := hg1.w1.cell
      have d2 := hg1.h1.cell
      have d4 := hg1.d1.cell
      have HG1 := hide hg1
      have HO1 := hide ho1
      have hp13 : wv' < 8192 := Nat.lt_of_lt_of_le hw' (Nat.pow_le_pow_right (n := 2) (j := 13) (by omega) hh')
      have HAND := hide (and_low k wv' (by omega) (by omega))
      have hmod : wv' % 2 ^ k < 2 ^ k := Nat.mod_lt _ (Nat.two_pow_pos k)
      have hq : wv' / 2 ^ k < 64 := by rw [Nat.div_lt_iff_lt_mul (Nat.two_pow_pos k)]; rw [Nat.pow_add] at hw'; omega
      have HMOD := hide hmod
      clear hg ho hg1 ho1 hmod
      go_wp2_with fail
      generalize wr.setCell ⟨bh, 0, none⟩ (.int .i64 k) = wx at *
      have k0 : (0 : Int) ≤ k := by omega
      have hpc : ((wv' : Int) / 2 ^ k) = ((wv' / 2 ^ k : Nat) : Int) := by simp
      have HPC := hide hpc
      clear hpc
      go_still_tail 4, (by kernel_rfl)
      change wpList _ _ _ _ _ wx.drew
      go_wp2_with fail
      rw [HPC.out]
      refine (encHand_any B bo acc' W0 wx.drew (wv' / 2 ^ k) hq HO1.out.drew (by omega)).mono ?_
      rintro e w3 ⟨rfl, ho3, hk3⟩
      have hg3 := (HG1.out.drew).kept hk3
      have g1 := hg3.w1.cell
      have g2 := hg3.h1.cell
      have g3 := hg3.w1.free
      have HG4 := hide (hg3.setW (wv' % 2 ^ k))
      have HO4 := hide (ho3.setW hg3 (.int .u64 (wv' % 2 ^ k : Nat)))
      have hd4 : (w3.setCell ⟨bw, 0, none⟩ (.int .u64 (wv' % 2 ^ k : Nat))).cell? ⟨bh, 0, none⟩ = some (.int .i64 k) := HG4.out.h1.cell
      have HD4 := hide hd4
      clear hg3 ho3 hk3 d1 d2 d4 c1 c3 c4 f2 hd4
      have C2 := hide c2
      clear c2
      go_wp2_with fail
      have hand := HAND.out
      go_still_tail 5, (by kernel_rfl)
      change wpList _ _ _ _ _ w3.drew
      clear hand
      go_wp2_with fail
      go_roundw
      case rel => exact ⟨k, wv' % 2 ^ k, acc' ++ [letter (wv' / 2 ^ k)], by rw [HR.out, runBits, dif_pos (by omega)]; simp, by simpa using HG4.out.drew, by simpa using HO4.out.drew, by omega, HMOD.out, by simp; omega⟩
      case measure =>
        have h1 := HD4.out
        have h2 := C2.out
        simp at h1
        simp [h1, h2, intOf]
        omega
    · have HG1 := hide hg
      have HO1 := hide ho
      clear hg ho
      go_wp2_with fail
      go_ret
      exact ⟨h', wv', acc', by rw [HR.out, runBits, dif_neg (by omega)], rfl, HG1.out, HO1.out⟩
end Go.Proofs.YtcmmbceacjechaaGreatDoor

/- WALKS of b64.gather and b64.Encode. No statement is proved here. -/
namespace Go.Proofs.YtcmmbceacjechaaGreatDoor
open Go.RowKit
set_option linter.unusedVariables false
set_option maxRecDepth 100000
set_option linter.unusedSimpArgs false

theorem makeFunc_run (fn : Fn) (first cap : Array Value) (w : World) : (Instr.makeFunc fn first cap).run Tryz.prog w = .ok (.func fn first cap) w := rfl

set_option maxHeartbeats 1000000 in
theorem gather_any (size : Nat) (hf : FuncId) (B bo : Nat) (acc : List UInt8) (W0 w : World) (ho : Out B bo acc W0 w) :
    Calls Tryz.prog 199 #[.int .i64 size, .func (.func hf) #[] #[.pointer (some ⟨bo, 0, none⟩)]] w fun e w' =>
      e = .returned (.func (.func 224) #[] #[.pointer (some ⟨w.heap.size + 2, 0, none⟩), .pointer (some ⟨w.heap.size + 3, 0, none⟩), .pointer (some ⟨w.heap.size, 0, none⟩), .pointer (some ⟨w.heap.size + 1, 0, none⟩)]) ∧
      Gat size hf B (w.heap.size + 2) (w.heap.size + 3) w.heap.size (w.heap.size + 1) bo 0 0 w' ∧ Out B bo acc W0 w' := by
  have hmf := makeFunc_run
  have hB : B ≤ w.heap.size := by obtain ⟨v, _, h, _⟩ := ho; exact h.2.2
  have hbo : bo < w.heap.size := by obtain ⟨v, h, _⟩ := ho; exact h.lt
  go_enter Tryz.func199, Tryz.ntmps199
  go_wp2_with fail
  go_ret
  refine ⟨rfl, ⟨?_, ?_, ?_, ?_, by omega, by omega, by omega, by omega, by omega, by omega, by omega⟩, (((ho.alloc _).alloc _).alloc _).alloc _⟩
  · have h := Box.new ((w.alloc (Obj.cells #[Value.int IntKind.i64 ↑size] 3)).alloc (Obj.cells #[Value.func (Fn.func hf) #[] #[Value.pointer (some ⟨bo, 0, none⟩)]] 166)) 145 (.int .u64 0)
    rw [show ((w.alloc (Obj.cells #[Value.int IntKind.i64 ↑size] 3)).alloc (Obj.cells #[Value.func (Fn.func hf) #[] #[Value.pointer (some ⟨bo, 0, none⟩)]] 166)).heap.size = w.heap.size + 2 by simp] at h
    exact h.alloc _
  · have h := Box.new (((w.alloc (Obj.cells #[Value.int IntKind.i64 ↑size] 3)).alloc (Obj.cells #[Value.func (Fn.func hf) #[] #[Value.pointer (some ⟨bo, 0, none⟩)]] 166)).alloc (Obj.cells #[Value.int IntKind.u64 0] 145)) 3 (.int .i64 0)
    rw [show (((w.alloc (Obj.cells #[Value.int IntKind.i64 ↑size] 3)).alloc (Obj.cells #[Value.func (Fn.func hf) #[] #[Value.pointer (some ⟨bo, 0, none⟩)]] 166)).alloc (Obj.cells #[Value.int IntKind.u64 0] 145)).heap.size = w.heap.size + 3 by simp] at h
    exact h
  · exact (((Box.new w 3 (.int .i64 size)).alloc _).alloc _).alloc _
  · have h := Box.new (w.alloc (Obj.cells #[Value.int IntKind.i64 ↑size] 3)) 166 (Value.func (Fn.func hf) #[] #[Value.pointer (some ⟨bo, 0, none⟩)])
    rw [show (w.alloc (Obj.cells #[Value.int IntKind.i64 ↑size] 3)).heap.size = w.heap.size + 1 by simp] at h
    exact (h.alloc _).alloc _

theorem gather_ex (size : Nat) (hf : FuncId) (B bo : Nat) (acc : List UInt8) (W0 w : World) (ho : Out B bo acc W0 w) :
    Calls Tryz.prog 199 #[.int .i64 size, .func (.func hf) #[] #[.pointer (some ⟨bo, 0, none⟩)]] w fun e w' => ∃ bw bh bs bd : Nat,
      e = .returned (.func (.func 224) #[] #[.pointer (some ⟨bw, 0, none⟩), .pointer (some ⟨bh, 0, none⟩), .pointer (some ⟨bs, 0, none⟩), .pointer (some ⟨bd, 0, none⟩)]) ∧
      Gat size hf B bw bh bs bd bo 0 0 w' ∧ Out B bo acc W0 w' :=
  (gather_any size hf B bo acc W0 w ho).mono fun _ _ h => ⟨_, _, _, _, h⟩

/-! ### what one byte brings, three times in turn -/
theorem run_stop (size : Nat) (f : Nat → UInt8) (h wv : Nat) (acc : List UInt8) (hs : h < size) : runBits size f h wv acc = (h, wv, acc) := by
  rw [runBits, dif_neg (by omega)]
theorem run_go (size : Nat) (f : Nat → UInt8) (k wv : Nat) (acc : List UInt8) (hs : 0 < size) : runBits size f (k + size) wv acc = runBits size f k (wv % 2 ^ k) (acc ++ [f (wv / 2 ^ k)]) := by
  rw [runBits, dif_pos (by omega), Nat.add_sub_cancel]
theorem enc0 (c : Nat) (acc : List UInt8) : runBits 6 letter (0 + 8) (0 * 2 ^ 8 + c) acc = (2, c % 4, acc ++ [letter (c / 4)]) := by
  rw [show 0 + 8 = 2 + 6 from rfl, run_go 6 letter 2 _ _ (by omega), run_stop _ _ _ _ _ (by omega)]
  simp
theorem enc2 (w c : Nat) (acc : List UInt8) : runBits 6 letter (2 + 8) (w * 2 ^ 8 + c) acc = (4, c % 16, acc ++ [letter (w * 16 + c / 16)]) := by
  rw [show 2 + 8 = 4 + 6 from rfl, run_go 6 letter 4 _ _ (by omega), run_stop _ _ _ _ _ (by omega)]
  have e1 : (w * 2 ^ 8 + c) % 2 ^ 4 = c % 16 := by omega
  have e2 : (w * 2 ^ 8 + c) / 2 ^ 4 = w * 16 + c / 16 := by omega
  rw [e1, e2]
theorem enc4 (w c : Nat) (acc : List UInt8) : runBits 6 letter (4 + 8) (w * 2 ^ 8 + c) acc = (0, 0, acc ++ [letter (w * 4 + c / 64), letter (c % 64)]) := by
  rw [show 4 + 8 = 6 + 6 from rfl, run_go 6 letter 6 _ _ (by omega), show runBits 6 letter 6 = runBits 6 letter (0 + 6) from rfl, run_go 6 letter 0 _ _ (by omega), run_stop _ _ _ _ _ (by omega)]
  have e1 : (w * 2 ^ 8 + c) % 2 ^ 6 = c % 64 := by omega
  have e2 : (w * 2 ^ 8 + c) / 2 ^ 6 = w * 4 + c / 64 := by omega
  rw [e1, e2]
  simp
  omega
theorem encEnd2 (w : Nat) (acc : List UInt8) : runBits 6 letter (2 + 4) (w * 2 ^ 4 + 0) acc = (0, 0, acc ++ [letter (w * 16)]) := by
  rw [show 2 + 4 = 0 + 6 from rfl, run_go 6 letter 0 _ _ (by omega), run_stop _ _ _ _ _ (by omega)]
  simp
  omega
theorem encEnd4 (w : Nat) (acc : List UInt8) : runBits 6 letter (4 + 2) (w * 2 ^ 2 + 0) acc = (0, 0, acc ++ [letter (w * 4)]) := by
  rw [show 4 + 2 = 0 + 6 from rfl, run_go 6 letter 0 _ _ (by omega), run_stop _ _ _ _ _ (by omega)]
  simp
  omega

/-- how many signs of the end fill up -/
def pads (n : Nat) : Nat := (4 - n % 4) % 4
/-- how long the slice in a box is -/
def lenAt (w : World) (b : Nat) : Nat := match w.cell? ⟨b, 0, none⟩ with
  | some (.slice _ n _) => n
  | _ => 0
theorem lenAt_box {w : World} {b n c : Nat} {A : Option Addr} (h : Box w b 67 (.slice A n c)) : lenAt w b = n := by unfold lenAt; rw [h.cell]

/-- the state of Encode: how many bits wait, what they are, how long the letters are -/
def EncSt (h wv : Nat) (acc : List UInt8) : Prop := (h = 0 ∧ wv = 0 ∧ acc.length % 4 = 0) ∨ (h = 2 ∧ wv < 4 ∧ acc.length % 4 = 1) ∨ (h = 4 ∧ wv < 16 ∧ acc.length % 4 = 2)
theorem EncSt.lt {h wv : Nat} {acc : List UInt8} (s : EncSt h wv acc) : wv < 2 ^ h ∧ h ≤ 4 := by
  rcases s with ⟨rfl, rfl, _⟩ | ⟨rfl, h1, _⟩ | ⟨rfl, h1, _⟩
  · exact ⟨by decide, by omega⟩
  · exact ⟨h1, by omega⟩
  · exact ⟨h1, by omega⟩
theorem EncSt.step {h wv h' wv' : Nat} {acc acc' r R : List UInt8} {c : UInt8} (s : EncSt h wv acc) (hr : runBits 6 letter (h + 8) (wv * 2 ^ 8 + c.toNat) acc = (h', wv', acc')) (hR : acc ++ encFrom h wv (c :: r) = R) :
    EncSt h' wv' acc' ∧ acc' ++ encFrom h' wv' r = R ∧ acc'.length ≤ acc.length + 2 := by
  have hc := byte_lt c
  rcases s with ⟨rfl, rfl, hl⟩ | ⟨rfl, hw, hl⟩ | ⟨rfl, hw, hl⟩
  · rw [enc0] at hr
    injection hr with h1 hr; injection hr with h2 h3
    subst h1; subst h2; subst h3; subst hR
    exact ⟨.inr (.inl ⟨rfl, by omega, by simp; omega⟩), by simp [encFrom], by simp⟩
  · rw [enc2] at hr
    injection hr with h1 hr; injection hr with h2 h3
    subst h1; subst h2; subst h3; subst hR
    exact ⟨.inr (.inr ⟨rfl, by omega, by simp; omega⟩), by simp [encFrom], by simp⟩
  · rw [enc4] at hr
    injection hr with h1 hr; injection hr with h2 h3
    subst h1; subst h2; subst h3; subst hR
    exact ⟨.inl ⟨rfl, rfl, by simp; omega⟩, by simp [encFrom], by simp⟩

set_option maxHeartbeats 2000000 in
theorem encode64_any (s : ByteArray) (w : World) (hs : s.size ≤ 100000) :
    Calls Tryz.prog 156 #[.string s] w fun e w' => e = .returned (.string (str (encB s.data.toList))) ∧ Below w.heap.size w w' := by
  have hmf := makeFunc_run
  have hc8 : (0 : Int) ≤ s.size := by omega
  go_enter Tryz.func156, Tryz.ntmps156
  go_wp2_with (refine wpList_buf_make rfl _ _ rfl w.heap.size w (Below.refl _ _) (Nat.le_refl _) ((s.size + 2) / 3 * 4) (((s.size : Int) + 2) / 3 * 4) rfl rfl (by omega) (by omega) ?_; intro v0 w0 hb0; obtain ⟨A0, c0, rfl⟩ := hb0.slice_len; have HB0 := hide hb0; clear hb0)
  have ho0 : Out w.heap.size w0.heap.size [] w (w0.alloc (Obj.cells #[Value.slice A0 0 c0] 67)) := ⟨_, Box.new w0 _ _, HB0.out.alloc _, HB0.out.2.2⟩
  refine (gather_ex 6 200 w.heap.size w0.heap.size [] w _ ho0).mono ?_
  rintro e w1 ⟨bw, bh, bs, bd, rfl, hg, ho⟩
  clear ho0
  have HG := hide hg
  have HO := hide ho
  clear hg ho
  generalize w0.heap.size = bo at *
  go_wp2_with fail
  go_loopw [5, 17] (fun n i wr => ∃ (k h wv : Nat) (acc : List UInt8), k ≤ s.size ∧ i = .int .i64 k ∧ n = .int .i64 h ∧ Gat 6 200 w.heap.size bw bh bs bd bo h wv wr ∧ Out w.heap.size bo acc w wr ∧ EncSt h wv acc ∧ acc ++ encFrom h wv (s.data.toList.drop k) = encB s.data.toList ∧ acc.length ≤ 2 * k) (fun _ i _ => s.size - (intOf i).toNat)
  case atStart => exact ⟨0, 0, 0, [], Nat.zero_le _, rfl, rfl, HG.out, HO.out, .inl ⟨rfl, rfl, rfl⟩, by simp [encB], Nat.le_refl _⟩
  case round =>
    obtain ⟨k, h, wv, acc, hk, rfl, rfl, hg, ho, hst, hR, hl⟩ := hrel
    have HG1 := hide hg
    have HO1 := hide ho
    have HS := hide hst
    have HR := hide hR
    clear hg ho hst hR
    by_cases hlt : k < s.size
    · have HD := hide (drop_cons s k hlt)
      obtain ⟨c, hc⟩ : ∃ c, c = s[k] := ⟨_, rfl⟩
      have HC := hide hc
      have hcb := byte_lt s[k]
      clear hc
      go_wp2_with fail
      refine (gatEnc w.heap.size bw bh bs bd bo 8 h wv s[k].toNat acc w _ (by have := HS.out.lt.2; omega) HS.out.lt.1 hcb HG1.out HO1.out (by omega)).mono ?_
      rintro e w2 ⟨h', wv', acc', hr, rfl, hg2, ho2⟩
      have hstep := EncSt.step (r := s.data.toList.drop (k + 1)) (R := encB s.data.toList) HS.out hr (by rw [← HD.out]; exact HR.out)
      obtain ⟨s1, s2, s3⟩ := hstep
      have HG2 := hide hg2
      have HO2 := hide ho2
      have HS1 := hide s1
      have HS2 := hide s2
      clear hr hg2 ho2 s1 s2
      go_wp2_with fail
      go_roundw
      case rel => exact ⟨k + 1, h', wv', acc', by omega, by go_num, rfl, HG2.out, HO2.out, HS1.out, HS2.out, by omega⟩
      case measure => simp [intOf]; omega
    · have hend : ∃ h2 : s.data.toList.drop k = [], True := ⟨drop_nil s k (by omega), trivial⟩
      obtain ⟨hdn, -⟩ := hend
      have hR := HR.out
      rw [hdn] at hR
      have HR2 := hide hR
      clear hdn hR
      rcases HS.out with ⟨rfl, rfl, h3⟩ | ⟨rfl, h2, h3⟩ | ⟨rfl, h2, h3⟩
      all_goals first
        | (have g0 : acc.length % 4 = 0 := h3
           rw [show (((0 : Nat)) : Int) = 0 from rfl]
           have hfin : acc ++ List.replicate (pads acc.length) 61 = encB s.data.toList := by
             have := HR2.out
             rw [show encFrom 0 0 [] = [] from rfl] at this
             rw [← this, pads, h3]
             rfl
           have HF := hide hfin
           have HO4 := HO1
           have hl4 : acc.length ≤ 500000 := by omega
           obtain ⟨l4, hl5⟩ : ∃ l, l = acc := ⟨_, rfl⟩
           rw [← hl5] at HF HO4 hl4
           clear hfin hl5
           go_wp2_with fail)
        | (have g0 : acc.length % 4 = 1 := h3
           rw [show (((2 : Nat)) : Int) = 2 from rfl]
           go_wp2_with fail
           refine (gatEnc w.heap.size bw bh bs bd bo 4 2 wv 0 acc w _ (by omega) h2 (by decide) HG1.out HO1.out (by omega)).mono ?_
           rintro e w2 ⟨h', wv', acc', hr, rfl, hg2, ho2⟩
           rw [encEnd2] at hr
           injection hr with e1 hr
           injection hr with e2 e3
           have hfin : acc' ++ List.replicate (pads acc'.length) 61 = encB s.data.toList := by
             have := HR2.out
             rw [show encFrom 2 wv [] = [letter (wv * 16), 61, 61] from rfl] at this
             have hlen : acc'.length = acc.length + 1 := by rw [← e3]; simp
             have hp : pads acc'.length = 2 := by rw [hlen, pads]; omega
             rw [hp, ← this, ← e3]; simp [List.replicate_succ]
           have HF : Hid (acc' ++ List.replicate (pads acc'.length) 61 = encB s.data.toList) := hfin
           have HO4 : Hid (Out w.heap.size bo acc' w w2) := ho2
           have hl4 : acc'.length ≤ 500000 := by rw [← e3]; simp; omega
           obtain ⟨l4, hl5⟩ : ∃ l, l = acc' := ⟨_, rfl⟩
           rw [← hl5] at HF HO4 hl4
           clear hfin e1 e2 e3 ho2 hg2 hl5
           go_wp2_with fail)
        | (have g0 : acc.length % 4 = 2 := h3
           rw [show (((4 : Nat)) : Int) = 4 from rfl]
           go_wp2_with fail
           refine (gatEnc w.heap.size bw bh bs bd bo 2 4 wv 0 acc w _ (by omega) h2 (by decide) HG1.out HO1.out (by omega)).mono ?_
           rintro e w2 ⟨h', wv', acc', hr, rfl, hg2, ho2⟩
           rw [encEnd4] at hr
           injection hr with e1 hr
           injection hr with e2 e3
           have hfin : acc' ++ List.replicate (pads acc'.length) 61 = encB s.data.toList := by
             have := HR2.out
             rw [show encFrom 4 wv [] = [letter (wv * 4), 61] from rfl] at this
             have hlen : acc'.length = acc.length + 1 := by rw [← e3]; simp
             have hp : pads acc'.length = 1 := by rw [hlen, pads]; omega
             rw [hp, ← this, ← e3]; simp [List.replicate_succ]
           have HF : Hid (acc' ++ List.replicate (pads acc'.length) 61 = encB s.data.toList) := hfin
           have HO4 : Hid (Out w.heap.size bo acc' w w2) := ho2
           have hl4 : acc'.length ≤ 500000 := by rw [← e3]; simp; omega
           obtain ⟨l4, hl5⟩ : ∃ l, l = acc' := ⟨_, rfl⟩
           rw [← hl5] at HF HO4 hl4
           clear hfin e1 e2 e3 ho2 hg2 hl5
           go_wp2_with fail)
      all_goals
        go_loopw [37] (fun _ wr => ∃ l : List UInt8, Out w.heap.size bo l w wr ∧ l ++ List.replicate (pads l.length) 61 = encB s.data.toList ∧ l.length ≤ l4.length + 4 - pads l.length) (fun _ wr => pads (lenAt wr bo))
        case atStart => exact ⟨l4, HO4.out, HF.out, (by unfold pads; omega)⟩
        case round =>
          obtain ⟨l, ⟨v, hbx, hbf, hB⟩, hfin, hll⟩ := hrel
          obtain ⟨A, cc, rfl⟩ := hbf.slice_len
          have HBX := hide hbx
          have HBF := hide hbf
          have HFI := hide hfin
          have c1 := hbx.cell
          have f1 := hbx.free
          have hla := lenAt_box hbx
          have HLA := hide hla
          clear hbx hbf hfin hla
          by_cases h0 : l.length % 4 = 0
          · have t : (((l.length : Int) % 4) != 0) = false := by simp; omega
            have H0 := hide h0
            have hcv := HBF.out.convert
            clear h0
            go_wp2_with fail
            go_ret
            refine ⟨ret_str ?_, HBF.out.below⟩
            have := HFI.out
            rw [show pads l.length = 0 by unfold pads; rw [H0.out]] at this
            simp at this
            rw [this]
          · have t : (((l.length : Int) % 4) != 0) = true := by simp; omega
            have H0 := hide h0
            clear h0
            go_wp2_with (refine wpList_buf_const rfl _ _ rfl w.heap.size (.slice A l.length cc) l rfl w _ 61 61 rfl HBF.out rfl (by omega) ?_; intro v2 w2 hb2 hk2; obtain ⟨A2, c2, rfl⟩ := hb2.slice_len; have hx2 := hk2 _ _ _ (by decide) HBX.out; have d2 := hx2.cell; have g2 := hx2.free; have HB2 := hide hb2; have HX2 := hide hx2; clear hb2 hx2 hk2)
            go_roundw
            case rel => 
              have hp : pads l.length = pads (l.length + 1) + 1 := by have := H0.out; unfold pads; omega
              have hp3 : pads (l.length + 1) ≤ 3 := by unfold pads; omega
              have hB2 := HB2.out
              rw [show (l ++ [(61 : UInt8)]).length = l.length + 1 by simp] at hB2
              refine ⟨l ++ [61], ⟨_, HX2.out.set _, hB2.setBox HX2.out (by decide) hB _, hB⟩, ?_, ?_⟩
              · rw [← HFI.out, List.length_append, hp, List.replicate_succ]; simp
              · simp; omega
            case measure =>
              have hp : pads l.length = pads (l.length + 1) + 1 := by have := H0.out; unfold pads; omega
              have e1 := HLA.out
              have e2 := lenAt_box (HX2.out.set (.slice A2 (l ++ [61]).length c2))
              simp at e2 ⊢
              rw [e1, e2]
              omega
end Go.Proofs.YtcmmbceacjechaaGreatDoor

/- WALKS of b64.number, the reference's place and bit. No statement is proved here. -/
namespace Go.Proofs.YtcmmbceacjechaaGreatDoor
open Go.RowKit
set_option linter.unusedVariables false
set_option linter.unusedSimpArgs false

/-- what 'number' answers -/
def numV (n : Nat) : Value := .tuple #[.int .u64 (if n < 64 then n else 0 : Nat), .bool (decide (n < 64))]
theorem numV_yes {n : Nat} (h : n < 64) : numV n = .tuple #[.int .u64 n, .bool true] := by simp [numV, h]
theorem numV_no {n : Nat} (h : ¬ n < 64) : numV n = .tuple #[.int .u64 0, .bool false] := by simp [numV, h]
theorem ret_num {a : Int} {b : Bool} {n : Nat} (h : n < 64 ∧ a = n ∧ b = true ∨ ¬ n < 64 ∧ a = 0 ∧ b = false) : Ending.returned (.tuple #[.int .u64 a, .bool b]) = .returned (numV n) := by
  rcases h with ⟨h, rfl, rfl⟩ | ⟨h, rfl, rfl⟩
  · rw [numV_yes h]
  · rw [numV_no h]

set_option maxHeartbeats 2000000 in
theorem number64_any (c : UInt8) (w : World) :
    Calls Tryz.prog 243 #[.int .u8 c.toNat] w fun e w' => e = .returned (numV (val c)) ∧ w = w' := by
  have hc := byte_lt c
  have hv := val_ranges c
  generalize val c = v at hv
  have hcase : (65 ≤ c.toNat ∧ c.toNat ≤ 90) ∨ (97 ≤ c.toNat ∧ c.toNat ≤ 122) ∨ (48 ≤ c.toNat ∧ c.toNat ≤ 57) ∨ c.toNat = 43 ∨ c.toNat = 47 ∨
      (c.toNat < 43) ∨ (43 < c.toNat ∧ c.toNat < 47) ∨ (57 < c.toNat ∧ c.toNat < 65) ∨ (90 < c.toNat ∧ c.toNat < 97) ∨ 122 < c.toNat := by omega
  have HV := hide hv
  clear hv
  rcases hcase with ⟨h1, h2⟩ | ⟨h1, h2⟩ | ⟨h1, h2⟩ | h1 | h1 | h1 | ⟨h1, h2⟩ | ⟨h1, h2⟩ | ⟨h1, h2⟩ | h1
  · go_enter Tryz.func243, Tryz.ntmps243
    go_wp2
    go_ret2
    refine ⟨ret_num (.inl ?_), rfl⟩
    have hv := HV.out
    rw [if_pos ⟨h1, h2⟩] at hv
    exact ⟨by omega, by omega, rfl⟩
  · go_enter Tryz.func243, Tryz.ntmps243
    go_wp2
    go_ret2
    refine ⟨ret_num (.inl ?_), rfl⟩
    have hv := HV.out
    rw [if_neg (by omega), if_pos ⟨h1, h2⟩] at hv
    exact ⟨by omega, by omega, rfl⟩
  · go_enter Tryz.func243, Tryz.ntmps243
    go_wp2
    go_ret2
    refine ⟨ret_num (.inl ?_), rfl⟩
    have hv := HV.out
    rw [if_neg (by omega), if_neg (by omega), if_pos ⟨h1, h2⟩] at hv
    exact ⟨by omega, by omega, rfl⟩
  · have t1 : ((c.toNat : Int) == 43) = true := by rw [beq_iff_eq]; omega
    have H1 := hide h1
    have h2 : c.toNat < 48 := by omega
    clear h1
    go_enter Tryz.func243, Tryz.ntmps243
    go_wp2
    go_ret2
    refine ⟨ret_num (.inl ?_), rfl⟩
    have hv := HV.out
    have h1 := H1.out
    rw [if_neg (by omega), if_neg (by omega), if_neg (by omega), if_pos h1] at hv
    exact ⟨by omega, by omega, rfl⟩
  · have t1 : ((c.toNat : Int) == 43) = false := by rw [beq_eq_false_iff_ne]; omega
    have t2 : ((c.toNat : Int) == 47) = true := by rw [beq_iff_eq]; omega
    have H1 := hide h1
    have h2 : c.toNat < 48 := by omega
    clear h1
    go_enter Tryz.func243, Tryz.ntmps243
    go_wp2
    go_ret2
    refine ⟨ret_num (.inl ?_), rfl⟩
    have hv := HV.out
    have h1 := H1.out
    rw [if_neg (by omega), if_neg (by omega), if_neg (by omega), if_neg (by omega), if_pos h1] at hv
    exact ⟨by omega, by omega, rfl⟩
  all_goals
    have t1 : ((c.toNat : Int) == 43) = false := by rw [beq_eq_false_iff_ne]; omega
    have t2 : ((c.toNat : Int) == 47) = false := by rw [beq_eq_false_iff_ne]; omega
    go_enter Tryz.func243, Tryz.ntmps243
    go_wp2
    go_ret2
    refine ⟨ret_num (.inr ?_), rfl⟩
    have hv := HV.out
    rw [if_neg (by omega), if_neg (by omega), if_neg (by omega), if_neg (by omega), if_neg (by omega)] at hv
    exact ⟨by omega, by omega, rfl⟩

/-- what the reference's place answers -/
def placeI (c : UInt8) : Int := if val c < 64 then val c else -1
theorem idx64_eq {x : UInt8} {l r : List UInt8} (h : l = x :: r) : l.idxOf x = 0 := by
  subst h; simp
theorem idx64_ne {d x : UInt8} {l r : List UInt8} (h : l = x :: r) (e : x ≠ d) : l.idxOf d = r.idxOf d + 1 := by
  subst h
  rw [List.idxOf_cons]
  have : (x == d) = false := by simp [e]
  rw [this]; rfl

set_option maxHeartbeats 1000000 in
theorem place_any (c : UInt8) (w : World) :
    Calls Tryz.prog 223 #[.int .u8 c.toNat] w fun e w' => e = .returned (.int .i64 (placeI c)) ∧ w = w' := by
  have hc := byte_lt c
  obtain ⟨L, hL⟩ : ∃ L : ByteArray, L = ⟨#[65, 66, 67, 68, 69, 70, 71, 72, 73, 74, 75, 76, 77, 78, 79, 80, 81, 82, 83, 84, 85, 86, 87, 88, 89, 90, 97, 98, 99, 100, 101, 102, 103, 104, 105, 106, 107, 108, 109, 110, 111, 112, 113, 114, 115, 116, 117, 118, 119, 120, 121, 122, 48, 49, 50, 51, 52, 53, 54, 55, 56, 57, 43, 47]⟩ := ⟨_, rfl⟩
  have hz : L.size = 64 := by rw [hL]; rfl
  have hd : letters64 = L.data.toList := by rw [hL]; rfl
  have HL := hide hL
  have HD := hide hd
  clear hL hd
  go_enter Tryz.func223, Tryz.ntmps223
  go_wp2
  go_loop [3] (fun i => ∃ k : Nat, k ≤ 64 ∧ i = .int .i64 k ∧ val c = k + (letters64.drop k).idxOf c) (fun i => 64 - (intOf i).toNat)
  case atStart => exact ⟨0, by omega, rfl, by simp [val]⟩
  case round =>
    obtain ⟨k, hk, rfl, hi⟩ := hrel
    have HI := hide hi
    clear hi
    by_cases hlt : k < 64
    · have hkz : k < L.size := by omega
      have HX := hide (drop_cons L k hkz)
      obtain ⟨x, hx⟩ : ∃ x, x = L[k] := ⟨_, rfl⟩
      have HX2 := hide hx
      have hidx : ∀ h, (⟨#[65, 66, 67, 68, 69, 70, 71, 72, 73, 74, 75, 76, 77, 78, 79, 80, 81, 82, 83, 84, 85, 86, 87, 88, 89, 90, 97, 98, 99, 100, 101, 102, 103, 104, 105, 106, 107, 108, 109, 110, 111, 112, 113, 114, 115, 116, 117, 118, 119, 120, 121, 122, 48, 49, 50, 51, 52, 53, 54, 55, 56, 57, 43, 47]⟩ : ByteArray)[k]'h = x := by
        intro h
        have h1 := HL.out
        subst h1
        exact hx.symm
      rw [← HX2.out] at HX
      clear hx
      by_cases he : x = c
      · have t : ((x.toNat : Int) == c.toNat) = true := by rw [he]; simp
        have HE := hide he
        clear he
        go_wp2
        go_ret
        refine ⟨ret_int ?_, rfl⟩
        have h1 := HI.out
        rw [HD.out] at h1
        rw [idx64_eq (x := c) (by rw [HX.out, HE.out])] at h1
        unfold placeI
        rw [h1, if_pos (by omega)]
        rfl
      · have t : ((x.toNat : Int) == c.toNat) = false := by
          rw [beq_eq_false_iff_ne]; intro e; exact he (UInt8.toNat_inj.1 (by omega))
        have HE := hide he
        clear he
        go_wp2
        go_round
        case rel =>
          refine ⟨k + 1, by omega, by go_num, ?_⟩
          have h1 := HI.out
          rw [HD.out] at h1 ⊢
          rw [idx64_ne HX.out HE.out] at h1
          omega
        case measure => simp [intOf]; omega
    · go_wp2
      go_ret
      refine ⟨ret_int ?_, rfl⟩
      have h1 := HI.out
      unfold placeI
      rw [if_neg (by omega)]
end Go.Proofs.YtcmmbceacjechaaGreatDoor

/- WALKS of strings.Cut at the sign of the end, and of b64.Decode. No statement is proved here. -/
namespace Go.Proofs.YtcmmbceacjechaaGreatDoor
open Go.RowKit
set_option linter.unusedVariables false
set_option maxRecDepth 100000
set_option linter.unusedSimpArgs false

theorem index61 (l : List UInt8) : (Lib.indexByte l 61 = -1 ∧ ahead l = l) ∨ ∃ o : Nat, Lib.indexByte l 61 = o ∧ o < l.length ∧ l.take o = ahead l := by
  induction l with
  | nil => exact .inl ⟨rfl, rfl⟩
  | cons c r ih =>
    by_cases h : c = 61
    · subst h
      exact .inr ⟨0, by simp [Lib.indexByte], by simp, by simp [ahead]⟩
    · have h1 : (c == 61) = false := by simp [h]
      have h2 : (c != 61) = true := by simp [h]
      have ea : ahead (c :: r) = c :: ahead r := by simp [ahead, h]
      rcases ih with ⟨i1, i2⟩ | ⟨o, i1, i2, i3⟩
      · refine .inl ⟨?_, by rw [ea, i2]⟩
        simp [Lib.indexByte, h1, i1]
      · refine .inr ⟨o + 1, ?_, by simp; omega, by rw [ea, ← i3]; rfl⟩
        have hne : ((o : Int) == -1) = false := by rw [beq_eq_false_iff_ne]; omega
        simp [Lib.indexByte, h1, i1, hne]

theorem ret_cut61 {a b x : ByteArray} {c : Bool} (h : a = b) : Ending.returned (.tuple #[.string a, .string x, .bool c]) = .returned (.tuple #[.string b, .string x, .bool c]) := by rw [h]
set_option maxHeartbeats 1000000 in
theorem cut61_any (s : ByteArray) (w : World) (hs : s.size ≤ 1048576) :
    Calls Tryz.prog 123 #[.string s, .string ⟨#[61]⟩] w fun e w' => ∃ x b, e = .returned (.tuple #[.string (str (ahead s.data.toList)), .string x, .bool b]) ∧ Below w.heap.size w w' := by
  have hz : (⟨#[61]⟩ : ByteArray).size = 1 := rfl
  rcases index61 s.data.toList with ⟨i1, i2⟩ | ⟨o, i1, i2, i3⟩
  · have I1 := hide i1
    have I2 := hide i2
    clear i1 i2
    go_enter Tryz.func123, Tryz.ntmps123
    go_wp2_with fail
    refine (Tryz.stringslite_Index_one s 61 _).mono ?_
    rintro e w1 ⟨rfl, hw⟩
    subst hw
    rw [I1.out]
    go_wp2_with fail
    go_ret3
    exact ⟨_, _, ret_cut61 (by rw [I2.out, str_of]), Below.refl _ _⟩
  · have I1 := hide i1
    have I3 := hide i3
    rw [toList_length] at i2
    have o1 : (o : Int) + 1 ≤ s.size := by omega
    have o0 : (0 : Int) ≤ o := by omega
    have o2 : (o : Int) ≤ s.size := by omega
    have o3 : (0 : Int) ≤ (o : Int) + 1 := by omega
    clear i1 i3
    go_enter Tryz.func123, Tryz.ntmps123
    go_wp2_with fail
    refine (Tryz.stringslite_Index_one s 61 _).mono ?_
    rintro e w1 ⟨rfl, hw⟩
    subst hw
    rw [I1.out]
    go_wp2_with fail
    go_region
    all_goals (try go_wp2)
    all_goals
      go_ret3
      exact ⟨_, _, ret_cut61 (ext_list (by rw [extract_list, List.drop_zero, str_toList, I3.out])), (Below.refl _ _).drew⟩

set_option maxHeartbeats 1000000 in
theorem strCut61_any (s : ByteArray) (w : World) (hs : s.size ≤ 1048576) :
    Calls Tryz.prog 76 #[.string s, .string ⟨#[61]⟩] w fun e w' => ∃ x b, e = .returned (.tuple #[.string (str (ahead s.data.toList)), .string x, .bool b]) ∧ Below w.heap.size w w' := by
  go_enter Tryz.func76, Tryz.ntmps76
  go_wp2_with fail
  refine (cut61_any s _ hs).mono ?_
  rintro e w1 ⟨x, b, rfl, hb⟩
  go_wp2_with fail
  go_ret3
  exact ⟨_, _, rfl, hb⟩

theorem runDec (h w n : Nat) (acc : List UInt8) (hh : h < 8) : runBits 8 UInt8.ofNat (h + 6) (w * 2 ^ 6 + n) acc =
    if h + 6 < 8 then (h + 6, w * 64 + n, acc) else (h - 2, (w * 64 + n) % 2 ^ (h - 2), acc ++ [UInt8.ofNat ((w * 64 + n) / 2 ^ (h - 2))]) := by
  by_cases h2 : h + 6 < 8
  · rw [if_pos h2, run_stop _ _ _ _ _ h2]
  · rw [if_neg h2]
    obtain ⟨k, rfl⟩ : ∃ k, h = k + 2 := ⟨h - 2, by omega⟩
    rw [show k + 2 + 6 = k + 8 from rfl, run_go 8 UInt8.ofNat k _ _ (by omega), run_stop _ _ _ _ _ (by omega), Nat.add_sub_cancel]

theorem ahead_length (l : List UInt8) : (ahead l).length ≤ l.length := (List.takeWhile_sublist _).length_le

set_option maxRecDepth 100000 in
set_option maxHeartbeats 2000000 in
theorem decode64_any (s : ByteArray) (w : World) (hs : s.size ≤ 1048576) :
    Calls Tryz.prog 230 #[.string s] w fun e w' => e = .returned (.string (str (decB s.data.toList))) ∧ Below w.heap.size w w' := by
  have hmf := makeFunc_run
  have hal := ahead_length s.data.toList
  rw [toList_length] at hal
  obtain ⟨bd, hbd⟩ : ∃ b : ByteArray, b = str (ahead s.data.toList) := ⟨_, rfl⟩
  have hbz : bd.size ≤ s.size := by rw [hbd, str_size]; exact hal
  have hbt : bd.data.toList = ahead s.data.toList := by rw [hbd, str_toList]
  have HBD := hide hbd
  have HBT := hide hbt
  clear hbd hbt hal
  have hc0 : (0 : Int) ≤ bd.size := by omega
  go_enter Tryz.func230, Tryz.ntmps230
  go_wp2_with fail
  refine (strCut61_any s _ hs).mono ?_
  rintro e w0 ⟨x, b, rfl, hb0⟩
  rw [← HBD.out]
  have HB0 := hide hb0
  have hsz0 := hb0.size
  clear hb0
  go_wp2_with (refine wpList_buf_make rfl _ _ rfl w.heap.size w HB0.out hsz0 (bd.size / 4 * 3 + 2) (((bd.size : Int)) / 4 * 3 + 2) rfl rfl (by omega) (by omega) ?_; intro v0 w1 hb1; obtain ⟨A0, c0, rfl⟩ := hb1.slice_len; have HB1 := hide hb1; clear hb1)
  have ho0 : Out w.heap.size w1.heap.size [] w (w1.alloc (Obj.cells #[Value.slice A0 0 c0] 67)) := ⟨_, Box.new w1 _ _, HB1.out.alloc _, HB1.out.2.2⟩
  refine (gather_ex 8 242 w.heap.size w1.heap.size [] w _ ho0).mono ?_
  rintro e w2 ⟨bw, bh, bs, bdd, rfl, hg, ho⟩
  clear ho0
  have HG := hide hg
  have HO := hide ho
  clear hg ho
  generalize w1.heap.size = bo at *
  go_wp2_with fail
  go_loopw [27] (fun i wr => ∃ (k h wv : Nat) (acc : List UInt8), k ≤ bd.size ∧ i = .int .i64 k ∧ Gat 8 242 w.heap.size bw bh bs bdd bo h wv wr ∧ Out w.heap.size bo acc w wr ∧ h < 8 ∧ wv < 2 ^ h ∧ acc ++ decFrom h wv (bd.data.toList.drop k) = decB s.data.toList ∧ acc.length ≤ k) (fun i _ => bd.size - (intOf i).toNat)
  case atStart => exact ⟨0, 0, 0, [], Nat.zero_le _, rfl, HG.out, HO.out, by omega, by decide, by rw [HBT.out]; rfl, Nat.le_refl _⟩
  case round =>
    obtain ⟨k, h, wv, acc, hk, rfl, hg, ho, hh, hw, hR, hl⟩ := hrel
    have HG1 := hide hg
    have HO1 := hide ho
    have HR := hide hR
    have HW := hide hw
    clear hg ho hR hw
    by_cases hlt : k < bd.size
    · have HD := hide (drop_cons bd k hlt)
      have hR := HR.out
      rw [HD.out, decFrom] at hR
      by_cases hv : val bd[k] < 64
      · have HV := hide (numV_yes hv)
        rw [if_neg (by omega)] at hR
        have HR1 := hide hR
        clear hR
        go_wp2_with fail
        refine (number64_any _ _).mono ?_
        rintro e w3 ⟨rfl, rfl⟩
        rw [HV.out]
        go_wp2_with fail
        refine (gatDec w.heap.size bw bh bs bdd bo 6 h wv (val bd[k]) acc w _ (by omega) HW.out hv HG1.out HO1.out (by omega)).mono ?_
        rintro e w4 ⟨h', wv', acc', hr, rfl, hg2, ho2⟩
        rw [runDec _ _ _ _ hh] at hr
        have hst : h' < 8 ∧ wv' < 2 ^ h' ∧ acc' ++ decFrom h' wv' (bd.data.toList.drop (k + 1)) = decB s.data.toList ∧ acc'.length ≤ k + 1 := by
          have hw := HW.out
          by_cases h2 : h + 6 < 8
          · have hR := HR1.out
            rw [if_pos h2] at hr hR
            injection hr with e1 hr
            injection hr with e2 e3
            subst e1; subst e2; subst e3
            refine ⟨h2, ?_, hR, by omega⟩
            rw [Nat.pow_add]; omega
          · have hR := HR1.out
            rw [if_neg h2] at hr hR
            injection hr with e1 hr
            injection hr with e2 e3
            subst e1; subst e2; subst e3
            refine ⟨by omega, Nat.mod_lt _ (Nat.two_pow_pos _), ?_, by simp; omega⟩
            rw [← hR]; simp
        obtain ⟨s1, s2, s3, s4⟩ := hst
        have HG2 := hide hg2
        have HO2 := hide ho2
        have HS2 := hide s2
        have HS3 := hide s3
        clear hr hg2 ho2 s2 s3
        go_wp2_with fail
        go_roundw
        case rel => exact ⟨k + 1, h', wv', acc', by omega, by go_num, HG2.out, HO2.out, s1, HS2.out, HS3.out, by omega⟩
        case measure => simp [intOf]; omega
      · have HV := hide (numV_no hv)
        have hvl := val_le bd[k]
        rw [if_pos (by omega)] at hR
        have HR1 := hide hR
        clear hR
        go_wp2_with fail
        refine (number64_any _ _).mono ?_
        rintro e w3 ⟨rfl, rfl⟩
        rw [HV.out]
        go_wp2_with fail
        go_roundw
        case rel => exact ⟨k + 1, h, wv, acc, by omega, by go_num, HG1.out, HO1.out, hh, HW.out, HR1.out, by omega⟩
        case measure => simp [intOf]; omega
    · obtain ⟨v, hbx, hbf, hB⟩ := HO1.out
      have c1 := hbx.cell
      have hcv := hbf.convert
      have HBF := hide hbf
      clear hbx hbf
      go_wp2_with fail
      go_ret
      refine ⟨ret_str ?_, HBF.out.below⟩
      have h1 := HR.out
      rw [drop_nil bd k (by omega), decFrom, List.append_nil] at h1
      rw [h1]
end Go.Proofs.YtcmmbceacjechaaGreatDoor

/- utf8.AppendRune onto a row that the call owns, beside a text's iterator; strings.Trim of white. No statement is proved here. -/
namespace Go.Proofs.YtcmmbceacjechaaGreatDoor
open Go.RowKit
set_option linter.unusedVariables false
set_option linter.unusedSimpArgs false

/-- what is no row of cells stays as it was -/
def IterKept (w w' : World) : Prop := ∀ (b : Nat) (s : ByteArray) (p : Nat), w.heap[b]? = some (Obj.stringIter s p) → w'.heap[b]? = some (Obj.stringIter s p)
theorem buf_not_iter {B : Nat} {v : Value} {l : List UInt8} {W0 w : World} (h : Buf B v l W0 w) {b : Nat} {s : ByteArray} {p : Nat} (hb : w.heap[b]? = some (Obj.stringIter s p)) : v.ownBlock ≠ some b := by
  rcases h.1.2 with ⟨rfl, _⟩ | ⟨g, cap, cur, rfl, _, hh, _⟩
  · simp [Value.ownBlock]
  · intro he
    have e : g = b := by simpa [Value.ownBlock] using he
    subst e
    rw [hh] at hb; cases hb
theorem iter_own {B : Nat} {v : Value} {l : List UInt8} {W0 w w' : World} (h : Buf B v l W0 w) (hg : w.grownBy w' v.ownBlock) : IterKept w w' := fun b s p hb =>
  (hg.block b (Array.getElem?_eq_some_iff.1 hb).1 (fun e => buf_not_iter h hb e.symm)).trans hb

theorem appendRune_any (B : Nat) (v : Value) (l : List UInt8) (W0 w : World) (hb : Buf B v l W0 w) (r : Int) (h0 : 0 ≤ r) (h1 : r ≤ 1114111) (hl : l.length ≤ 70368744177664) :
    Calls Tryz.prog 68 #[v, .int .i32 r] w fun e w' => ∃ v', e = .returned v' ∧ Buf B v' (l ++ runeL r) W0 w' ∧ IterKept w w' := by
  refine (Tryz.utf8_AppendRune_plain B v l.length (cellsOf l) r (by omega) (by omega) w hb.1 (by omega) hb.2.2).mono ?_
  rintro e w' ⟨v', rfl, ho, o, hg⟩
  have hb' := hb.alloc o
  refine ⟨v', rfl, hb'.grown (l' := l ++ runeL r) ?_ hg, fun b s p hx => iter_own hb' hg b s p ?_⟩
  · have e : Lib.runeCells r = cellsOf (runeL r) := (Lib.byteCells_encodeRune r).symm
    have e2 : (Lib.runeCells r).length = (runeL r).length := by rw [e, cellsOf_length]
    rw [e2, e] at ho
    rw [List.length_append, cellsOf, List.map_append]
    exact ho
  · exact (Below.heap_alloc w o b (Array.getElem?_eq_some_iff.1 hx).1).trans hx

theorem Buf.iterAt {B : Nat} {v : Value} {l : List UInt8} {W0 w : World} (h : Buf B v l W0 w) {k : Nat} {s : ByteArray} {p : Nat} (hk : w.heap[k]? = some (Obj.stringIter s p)) (hB : B ≤ k) (p' : Nat) : Buf B v l W0 (w.iterAt k s p') := by
  have hne := buf_not_iter h hk
  refine ⟨⟨h.1.1, ?_⟩, Lib.below_iterAt h.2.1 hB s p', by rw [Lib.iterAt_size]; exact h.2.2⟩
  rcases h.1.2 with ⟨rfl, h0⟩ | ⟨g, cap, cur, rfl, h1, h2, h3⟩
  · exact .inl ⟨rfl, h0⟩
  · refine .inr ⟨g, cap, cur, rfl, h1, ?_, h3⟩
    rw [Lib.iterAt_other _ _ _ _ _ (fun e => hne (by simp [Value.ownBlock, e]))]
    exact h2

theorem trim_any (s : ByteArray) (w : World) (hs : s.size ≤ maxLen) :
    Calls Tryz.prog 96 #[.string s, .string ⟨#[32, 9, 10, 12, 13]⟩] w fun e w' => e = .returned (.string (str (Lib.trimS s.data.toList whiteSet))) ∧ Below w.heap.size w w' :=
  Any.strings_Trim_laid Tryz.lays160 (by kernel_rfl) s ⟨#[32, 9, 10, 12, 13]⟩ w (by unfold maxLen at hs; omega) (by decide) (ascii_of_all (by decide))
end Go.Proofs.YtcmmbceacjechaaGreatDoor

/- WALK of chars.Known. No statement is proved here. -/
namespace Go.Proofs.YtcmmbceacjechaaGreatDoor
open Go.RowKit
set_option linter.unusedVariables false
set_option linter.unusedSimpArgs false

set_option maxRecDepth 100000 in
set_option maxHeartbeats 4000000 in
theorem known_any (s : ByteArray) (w : World) (hs : s.size ≤ 70368744177664) :
    Calls Tryz.prog 216 #[.string s] w fun e w' => e = .returned (knownV (kindL s.data.toList)) ∧ Below w.heap.size w w' := by
  obtain ⟨x, hx⟩ : ∃ x, x = cleanL s.data.toList := ⟨_, rfl⟩
  obtain ⟨X, hX⟩ : ∃ X, X = str x := ⟨_, rfl⟩
  have HX : Hid (str (cleanL s.data.toList) = X) := hide (by rw [hX, hx])
  have hk : kindL s.data.toList = kindOf x := by rw [hx]; rfl
  rw [hk]
  have HXX := hide hX
  have HSZ : Hid ((str (Lib.trimS s.data.toList whiteSet)).size ≤ 70368744177664) := hide (by
    rw [str_size]
    have h := trimS_length s.data.toList whiteSet
    rw [toList_length] at h; omega)
  clear hx hX hk
  by_cases h0 : x = [117, 116, 102, 45, 56]
  · have HV : Hid (knownV (kindOf x) = .tuple #[.string ⟨#[117, 116, 102, 45, 56]⟩, .bool true]) := hide (by rw [h0, show kindOf [117, 116, 102, 45, 56] = 1 from by decide +kernel]; rfl)
    have t0 : (X.toList == [117, 116, 102, 45, 56]) = true := listT HXX.out h0
    clear h0
    go_enter Tryz.func216, Tryz.ntmps216
    go_wp2_with fail
    refine (trim_any s _ (by unfold maxLen; omega)).mono ?_
    rintro e w1 ⟨rfl, hb1⟩
    go_wp2_with fail
    refine (lower_any _ _ HSZ.out).mono ?_
    rintro e w2 ⟨rfl, hb2⟩
    rw [str_toList, show lowL (Lib.trimS s.data.toList whiteSet) = cleanL s.data.toList from rfl, HX.out]
    have hbb := hb1.trans (hb2.mono hb1.size)
    go_wp2_with fail
    go_ret2
    exact ⟨by rw [HV.out]; rfl, hbb⟩
  have t0 : (X.toList == [117, 116, 102, 45, 56]) = false := listF HXX.out h0
  by_cases h1 : x = [117, 116, 102, 56]
  · have HV : Hid (knownV (kindOf x) = .tuple #[.string ⟨#[117, 116, 102, 45, 56]⟩, .bool true]) := hide (by rw [h1, show kindOf [117, 116, 102, 56] = 1 from by decide +kernel]; rfl)
    have t1 : (X.toList == [117, 116, 102, 56]) = true := listT HXX.out h1
    clear h0 h1
    go_enter Tryz.func216, Tryz.ntmps216
    go_wp2_with fail
    refine (trim_any s _ (by unfold maxLen; omega)).mono ?_
    rintro e w1 ⟨rfl, hb1⟩
    go_wp2_with fail
    refine (lower_any _ _ HSZ.out).mono ?_
    rintro e w2 ⟨rfl, hb2⟩
    rw [str_toList, show lowL (Lib.trimS s.data.toList whiteSet) = cleanL s.data.toList from rfl, HX.out]
    have hbb := hb1.trans (hb2.mono hb1.size)
    go_wp2_with fail
    go_ret2
    exact ⟨by rw [HV.out]; rfl, hbb⟩
  have t1 : (X.toList == [117, 116, 102, 56]) = false := listF HXX.out h1
  by_cases h2 : x = [117, 110, 105, 99, 111, 100, 101, 45, 49, 45, 49, 45, 117, 116, 102, 45, 56]
  · have HV : Hid (knownV (kindOf x) = .tuple #[.string ⟨#[117, 116, 102, 45, 56]⟩, .bool true]) := hide (by rw [h2, show kindOf [117, 110, 105, 99, 111, 100, 101, 45, 49, 45, 49, 45, 117, 116, 102, 45, 56] = 1 from by decide +kernel]; rfl)
    have t2 : (X.toList == [117, 110, 105, 99, 111, 100, 101, 45, 49, 45, 49, 45, 117, 116, 102, 45, 56]) = true := listT HXX.out h2
    clear h0 h1 h2
    go_enter Tryz.func216, Tryz.ntmps216
    go_wp2_with fail
    refine (trim_any s _ (by unfold maxLen; omega)).mono ?_
    rintro e w1 ⟨rfl, hb1⟩
    go_wp2_with fail
    refine (lower_any _ _ HSZ.out).mono ?_
    rintro e w2 ⟨rfl, hb2⟩
    rw [str_toList, show lowL (Lib.trimS s.data.toList whiteSet) = cleanL s.data.toList from rfl, HX.out]
    have hbb := hb1.trans (hb2.mono hb1.size)
    go_wp2_with fail
    go_ret2
    exact ⟨by rw [HV.out]; rfl, hbb⟩
  have t2 : (X.toList == [117, 110, 105, 99, 111, 100, 101, 45, 49, 45, 49, 45, 117, 116, 102, 45, 56]) = false := listF HXX.out h2
  by_cases h3 : x = [119, 105, 110, 100, 111, 119, 115, 45, 49, 50, 53, 50]
  · have HV : Hid (knownV (kindOf x) = .tuple #[.string ⟨#[119, 105, 110, 100, 111, 119, 115, 45, 49, 50, 53, 50]⟩, .bool true]) := hide (by rw [h3, show kindOf [119, 105, 110, 100, 111, 119, 115, 45, 49, 50, 53, 50] = 2 from by decide +kernel]; rfl)
    have t3 : (X.toList == [119, 105, 110, 100, 111, 119, 115, 45, 49, 50, 53, 50]) = true := listT HXX.out h3
    clear h0 h1 h2 h3
    go_enter Tryz.func216, Tryz.ntmps216
    go_wp2_with fail
    refine (trim_any s _ (by unfold maxLen; omega)).mono ?_
    rintro e w1 ⟨rfl, hb1⟩
    go_wp2_with fail
    refine (lower_any _ _ HSZ.out).mono ?_
    rintro e w2 ⟨rfl, hb2⟩
    rw [str_toList, show lowL (Lib.trimS s.data.toList whiteSet) = cleanL s.data.toList from rfl, HX.out]
    have hbb := hb1.trans (hb2.mono hb1.size)
    go_wp2_with fail
    go_ret2
    exact ⟨by rw [HV.out]; rfl, hbb⟩
  have t3 : (X.toList == [119, 105, 110, 100, 111, 119, 115, 45, 49, 50, 53, 50]) = false := listF HXX.out h3
  by_cases h4 : x = [99, 112, 49, 50, 53, 50]
  · have HV : Hid (knownV (kindOf x) = .tuple #[.string ⟨#[119, 105, 110, 100, 111, 119, 115, 45, 49, 50, 53, 50]⟩, .bool true]) := hide (by rw [h4, show kindOf [99, 112, 49, 50, 53, 50] = 2 from by decide +kernel]; rfl)
    have t4 : (X.toList == [99, 112, 49, 50, 53, 50]) = true := listT HXX.out h4
    clear h0 h1 h2 h3 h4
    go_enter Tryz.func216, Tryz.ntmps216
    go_wp2_with fail
    refine (trim_any s _ (by unfold maxLen; omega)).mono ?_
    rintro e w1 ⟨rfl, hb1⟩
    go_wp2_with fail
    refine (lower_any _ _ HSZ.out).mono ?_
    rintro e w2 ⟨rfl, hb2⟩
    rw [str_toList, show lowL (Lib.trimS s.data.toList whiteSet) = cleanL s.data.toList from rfl, HX.out]
    have hbb := hb1.trans (hb2.mono hb1.size)
    go_wp2_with fail
    go_ret2
    exact ⟨by rw [HV.out]; rfl, hbb⟩
  have t4 : (X.toList == [99, 112, 49, 50, 53, 50]) = false := listF HXX.out h4
  by_cases h5 : x = [117, 115, 45, 97, 115, 99, 105, 105]
  · have HV : Hid (knownV (kindOf x) = .tuple #[.string ⟨#[119, 105, 110, 100, 111, 119, 115, 45, 49, 50, 53, 50]⟩, .bool true]) := hide (by rw [h5, show kindOf [117, 115, 45, 97, 115, 99, 105, 105] = 2 from by decide +kernel]; rfl)
    have t5 : (X.toList == [117, 115, 45, 97, 115, 99, 105, 105]) = true := listT HXX.out h5
    clear h0 h1 h2 h3 h4 h5
    go_enter Tryz.func216, Tryz.ntmps216
    go_wp2_with fail
    refine (trim_any s _ (by unfold maxLen; omega)).mono ?_
    rintro e w1 ⟨rfl, hb1⟩
    go_wp2_with fail
    refine (lower_any _ _ HSZ.out).mono ?_
    rintro e w2 ⟨rfl, hb2⟩
    rw [str_toList, show lowL (Lib.trimS s.data.toList whiteSet) = cleanL s.data.toList from rfl, HX.out]
    have hbb := hb1.trans (hb2.mono hb1.size)
    go_wp2_with fail
    go_ret2
    exact ⟨by rw [HV.out]; rfl, hbb⟩
  have t5 : (X.toList == [117, 115, 45, 97, 115, 99, 105, 105]) = false := listF HXX.out h5
  by_cases h6 : x = [97, 115, 99, 105, 105]
  · have HV : Hid (knownV (kindOf x) = .tuple #[.string ⟨#[119, 105, 110, 100, 111, 119, 115, 45, 49, 50, 53, 50]⟩, .bool true]) := hide (by rw [h6, show kindOf [97, 115, 99, 105, 105] = 2 from by decide +kernel]; rfl)
    have t6 : (X.toList == [97, 115, 99, 105, 105]) = true := listT HXX.out h6
    clear h0 h1 h2 h3 h4 h5 h6
    go_enter Tryz.func216, Tryz.ntmps216
    go_wp2_with fail
    refine (trim_any s _ (by unfold maxLen; omega)).mono ?_
    rintro e w1 ⟨rfl, hb1⟩
    go_wp2_with fail
    refine (lower_any _ _ HSZ.out).mono ?_
    rintro e w2 ⟨rfl, hb2⟩
    rw [str_toList, show lowL (Lib.trimS s.data.toList whiteSet) = cleanL s.data.toList from rfl, HX.out]
    have hbb := hb1.trans (hb2.mono hb1.size)
    go_wp2_with fail
    go_ret2
    exact ⟨by rw [HV.out]; rfl, hbb⟩
  have t6 : (X.toList == [97, 115, 99, 105, 105]) = false := listF HXX.out h6
  by_cases h7 : x = [105, 115, 111, 45, 56, 56, 53, 57, 45, 49]
  · have HV : Hid (knownV (kindOf x) = .tuple #[.string ⟨#[119, 105, 110, 100, 111, 119, 115, 45, 49, 50, 53, 50]⟩, .bool true]) := hide (by rw [h7, show kindOf [105, 115, 111, 45, 56, 56, 53, 57, 45, 49] = 2 from by decide +kernel]; rfl)
    have t7 : (X.toList == [105, 115, 111, 45, 56, 56, 53, 57, 45, 49]) = true := listT HXX.out h7
    clear h0 h1 h2 h3 h4 h5 h6 h7
    go_enter Tryz.func216, Tryz.ntmps216
    go_wp2_with fail
    refine (trim_any s _ (by unfold maxLen; omega)).mono ?_
    rintro e w1 ⟨rfl, hb1⟩
    go_wp2_with fail
    refine (lower_any _ _ HSZ.out).mono ?_
    rintro e w2 ⟨rfl, hb2⟩
    rw [str_toList, show lowL (Lib.trimS s.data.toList whiteSet) = cleanL s.data.toList from rfl, HX.out]
    have hbb := hb1.trans (hb2.mono hb1.size)
    go_wp2_with fail
    go_ret2
    exact ⟨by rw [HV.out]; rfl, hbb⟩
  have t7 : (X.toList == [105, 115, 111, 45, 56, 56, 53, 57, 45, 49]) = false := listF HXX.out h7
  by_cases h8 : x = [105, 115, 111, 56, 56, 53, 57, 45, 49]
  · have HV : Hid (knownV (kindOf x) = .tuple #[.string ⟨#[119, 105, 110, 100, 111, 119, 115, 45, 49, 50, 53, 50]⟩, .bool true]) := hide (by rw [h8, show kindOf [105, 115, 111, 56, 56, 53, 57, 45, 49] = 2 from by decide +kernel]; rfl)
    have t8 : (X.toList == [105, 115, 111, 56, 56, 53, 57, 45, 49]) = true := listT HXX.out h8
    clear h0 h1 h2 h3 h4 h5 h6 h7 h8
    go_enter Tryz.func216, Tryz.ntmps216
    go_wp2_with fail
    refine (trim_any s _ (by unfold maxLen; omega)).mono ?_
    rintro e w1 ⟨rfl, hb1⟩
    go_wp2_with fail
    refine (lower_any _ _ HSZ.out).mono ?_
    rintro e w2 ⟨rfl, hb2⟩
    rw [str_toList, show lowL (Lib.trimS s.data.toList whiteSet) = cleanL s.data.toList from rfl, HX.out]
    have hbb := hb1.trans (hb2.mono hb1.size)
    go_wp2_with fail
    go_ret2
    exact ⟨by rw [HV.out]; rfl, hbb⟩
  have t8 : (X.toList == [105, 115, 111, 56, 56, 53, 57, 45, 49]) = false := listF HXX.out h8
  by_cases h9 : x = [108, 97, 116, 105, 110, 49]
  · have HV : Hid (knownV (kindOf x) = .tuple #[.string ⟨#[119, 105, 110, 100, 111, 119, 115, 45, 49, 50, 53, 50]⟩, .bool true]) := hide (by rw [h9, show kindOf [108, 97, 116, 105, 110, 49] = 2 from by decide +kernel]; rfl)
    have t9 : (X.toList == [108, 97, 116, 105, 110, 49]) = true := listT HXX.out h9
    clear h0 h1 h2 h3 h4 h5 h6 h7 h8 h9
    go_enter Tryz.func216, Tryz.ntmps216
    go_wp2_with fail
    refine (trim_any s _ (by unfold maxLen; omega)).mono ?_
    rintro e w1 ⟨rfl, hb1⟩
    go_wp2_with fail
    refine (lower_any _ _ HSZ.out).mono ?_
    rintro e w2 ⟨rfl, hb2⟩
    rw [str_toList, show lowL (Lib.trimS s.data.toList whiteSet) = cleanL s.data.toList from rfl, HX.out]
    have hbb := hb1.trans (hb2.mono hb1.size)
    go_wp2_with fail
    go_ret2
    exact ⟨by rw [HV.out]; rfl, hbb⟩
  have t9 : (X.toList == [108, 97, 116, 105, 110, 49]) = false := listF HXX.out h9
  by_cases h10 : x = [108, 49]
  · have HV : Hid (knownV (kindOf x) = .tuple #[.string ⟨#[119, 105, 110, 100, 111, 119, 115, 45, 49, 50, 53, 50]⟩, .bool true]) := hide (by rw [h10, show kindOf [108, 49] = 2 from by decide +kernel]; rfl)
    have t10 : (X.toList == [108, 49]) = true := listT HXX.out h10
    clear h0 h1 h2 h3 h4 h5 h6 h7 h8 h9 h10
    go_enter Tryz.func216, Tryz.ntmps216
    go_wp2_with fail
    refine (trim_any s _ (by unfold maxLen; omega)).mono ?_
    rintro e w1 ⟨rfl, hb1⟩
    go_wp2_with fail
    refine (lower_any _ _ HSZ.out).mono ?_
    rintro e w2 ⟨rfl, hb2⟩
    rw [str_toList, show lowL (Lib.trimS s.data.toList whiteSet) = cleanL s.data.toList from rfl, HX.out]
    have hbb := hb1.trans (hb2.mono hb1.size)
    go_wp2_with fail
    go_ret2
    exact ⟨by rw [HV.out]; rfl, hbb⟩
  have t10 : (X.toList == [108, 49]) = false := listF HXX.out h10
  by_cases h11 : x = [117, 116, 102, 45, 49, 54, 108, 101]
  · have HV : Hid (knownV (kindOf x) = .tuple #[.string ⟨#[117, 116, 102, 45, 49, 54, 108, 101]⟩, .bool true]) := hide (by rw [h11, show kindOf [117, 116, 102, 45, 49, 54, 108, 101] = 3 from by decide +kernel]; rfl)
    have t11 : (X.toList == [117, 116, 102, 45, 49, 54, 108, 101]) = true := listT HXX.out h11
    clear h0 h1 h2 h3 h4 h5 h6 h7 h8 h9 h10 h11
    go_enter Tryz.func216, Tryz.ntmps216
    go_wp2_with fail
    refine (trim_any s _ (by unfold maxLen; omega)).mono ?_
    rintro e w1 ⟨rfl, hb1⟩
    go_wp2_with fail
    refine (lower_any _ _ HSZ.out).mono ?_
    rintro e w2 ⟨rfl, hb2⟩
    rw [str_toList, show lowL (Lib.trimS s.data.toList whiteSet) = cleanL s.data.toList from rfl, HX.out]
    have hbb := hb1.trans (hb2.mono hb1.size)
    go_wp2_with fail
    go_ret2
    exact ⟨by rw [HV.out]; rfl, hbb⟩
  have t11 : (X.toList == [117, 116, 102, 45, 49, 54, 108, 101]) = false := listF HXX.out h11
  by_cases h12 : x = [117, 116, 102, 45, 49, 54]
  · have HV : Hid (knownV (kindOf x) = .tuple #[.string ⟨#[117, 116, 102, 45, 49, 54, 108, 101]⟩, .bool true]) := hide (by rw [h12, show kindOf [117, 116, 102, 45, 49, 54] = 3 from by decide +kernel]; rfl)
    have t12 : (X.toList == [117, 116, 102, 45, 49, 54]) = true := listT HXX.out h12
    clear h0 h1 h2 h3 h4 h5 h6 h7 h8 h9 h10 h11 h12
    go_enter Tryz.func216, Tryz.ntmps216
    go_wp2_with fail
    refine (trim_any s _ (by unfold maxLen; omega)).mono ?_
    rintro e w1 ⟨rfl, hb1⟩
    go_wp2_with fail
    refine (lower_any _ _ HSZ.out).mono ?_
    rintro e w2 ⟨rfl, hb2⟩
    rw [str_toList, show lowL (Lib.trimS s.data.toList whiteSet) = cleanL s.data.toList from rfl, HX.out]
    have hbb := hb1.trans (hb2.mono hb1.size)
    go_wp2_with fail
    go_ret2
    exact ⟨by rw [HV.out]; rfl, hbb⟩
  have t12 : (X.toList == [117, 116, 102, 45, 49, 54]) = false := listF HXX.out h12
  by_cases h13 : x = [117, 110, 105, 99, 111, 100, 101]
  · have HV : Hid (knownV (kindOf x) = .tuple #[.string ⟨#[117, 116, 102, 45, 49, 54, 108, 101]⟩, .bool true]) := hide (by rw [h13, show kindOf [117, 110, 105, 99, 111, 100, 101] = 3 from by decide +kernel]; rfl)
    have t13 : (X.toList == [117, 110, 105, 99, 111, 100, 101]) = true := listT HXX.out h13
    clear h0 h1 h2 h3 h4 h5 h6 h7 h8 h9 h10 h11 h12 h13
    go_enter Tryz.func216, Tryz.ntmps216
    go_wp2_with fail
    refine (trim_any s _ (by unfold maxLen; omega)).mono ?_
    rintro e w1 ⟨rfl, hb1⟩
    go_wp2_with fail
    refine (lower_any _ _ HSZ.out).mono ?_
    rintro e w2 ⟨rfl, hb2⟩
    rw [str_toList, show lowL (Lib.trimS s.data.toList whiteSet) = cleanL s.data.toList from rfl, HX.out]
    have hbb := hb1.trans (hb2.mono hb1.size)
    go_wp2_with fail
    go_ret2
    exact ⟨by rw [HV.out]; rfl, hbb⟩
  have t13 : (X.toList == [117, 110, 105, 99, 111, 100, 101]) = false := listF HXX.out h13
  by_cases h14 : x = [117, 99, 115, 45, 50]
  · have HV : Hid (knownV (kindOf x) = .tuple #[.string ⟨#[117, 116, 102, 45, 49, 54, 108, 101]⟩, .bool true]) := hide (by rw [h14, show kindOf [117, 99, 115, 45, 50] = 3 from by decide +kernel]; rfl)
    have t14 : (X.toList == [117, 99, 115, 45, 50]) = true := listT HXX.out h14
    clear h0 h1 h2 h3 h4 h5 h6 h7 h8 h9 h10 h11 h12 h13 h14
    go_enter Tryz.func216, Tryz.ntmps216
    go_wp2_with fail
    refine (trim_any s _ (by unfold maxLen; omega)).mono ?_
    rintro e w1 ⟨rfl, hb1⟩
    go_wp2_with fail
    refine (lower_any _ _ HSZ.out).mono ?_
    rintro e w2 ⟨rfl, hb2⟩
    rw [str_toList, show lowL (Lib.trimS s.data.toList whiteSet) = cleanL s.data.toList from rfl, HX.out]
    have hbb := hb1.trans (hb2.mono hb1.size)
    go_wp2_with fail
    go_ret2
    exact ⟨by rw [HV.out]; rfl, hbb⟩
  have t14 : (X.toList == [117, 99, 115, 45, 50]) = false := listF HXX.out h14
  by_cases h15 : x = [117, 116, 102, 45, 49, 54, 98, 101]
  · have HV : Hid (knownV (kindOf x) = .tuple #[.string ⟨#[117, 116, 102, 45, 49, 54, 98, 101]⟩, .bool true]) := hide (by rw [h15, show kindOf [117, 116, 102, 45, 49, 54, 98, 101] = 4 from by decide +kernel]; rfl)
    have t15 : (X.toList == [117, 116, 102, 45, 49, 54, 98, 101]) = true := listT HXX.out h15
    clear h0 h1 h2 h3 h4 h5 h6 h7 h8 h9 h10 h11 h12 h13 h14 h15
    go_enter Tryz.func216, Tryz.ntmps216
    go_wp2_with fail
    refine (trim_any s _ (by unfold maxLen; omega)).mono ?_
    rintro e w1 ⟨rfl, hb1⟩
    go_wp2_with fail
    refine (lower_any _ _ HSZ.out).mono ?_
    rintro e w2 ⟨rfl, hb2⟩
    rw [str_toList, show lowL (Lib.trimS s.data.toList whiteSet) = cleanL s.data.toList from rfl, HX.out]
    have hbb := hb1.trans (hb2.mono hb1.size)
    go_wp2_with fail
    go_ret2
    exact ⟨by rw [HV.out]; rfl, hbb⟩
  have t15 : (X.toList == [117, 116, 102, 45, 49, 54, 98, 101]) = false := listF HXX.out h15
  by_cases h16 : x = [117, 110, 105, 99, 111, 100, 101, 102, 102, 102, 101]
  · have HV : Hid (knownV (kindOf x) = .tuple #[.string ⟨#[117, 116, 102, 45, 49, 54, 98, 101]⟩, .bool true]) := hide (by rw [h16, show kindOf [117, 110, 105, 99, 111, 100, 101, 102, 102, 102, 101] = 4 from by decide +kernel]; rfl)
    have t16 : (X.toList == [117, 110, 105, 99, 111, 100, 101, 102, 102, 102, 101]) = true := listT HXX.out h16
    clear h0 h1 h2 h3 h4 h5 h6 h7 h8 h9 h10 h11 h12 h13 h14 h15 h16
    go_enter Tryz.func216, Tryz.ntmps216
    go_wp2_with fail
    refine (trim_any s _ (by unfold maxLen; omega)).mono ?_
    rintro e w1 ⟨rfl, hb1⟩
    go_wp2_with fail
    refine (lower_any _ _ HSZ.out).mono ?_
    rintro e w2 ⟨rfl, hb2⟩
    rw [str_toList, show lowL (Lib.trimS s.data.toList whiteSet) = cleanL s.data.toList from rfl, HX.out]
    have hbb := hb1.trans (hb2.mono hb1.size)
    go_wp2_with fail
    go_ret2
    exact ⟨by rw [HV.out]; rfl, hbb⟩
  have t16 : (X.toList == [117, 110, 105, 99, 111, 100, 101, 102, 102, 102, 101]) = false := listF HXX.out h16
  have HV : Hid (knownV (kindOf x) = .tuple #[.string ⟨#[]⟩, .bool false]) := hide (by
    rw [kind_none (x := x) (by
      intro y hy
      simp only [labels, List.mem_cons, List.mem_nil_iff, or_false] at hy
      rcases hy with rfl | rfl | rfl | rfl | rfl | rfl | rfl | rfl | rfl | rfl | rfl | rfl | rfl | rfl | rfl | rfl | rfl
      all_goals assumption)]
    rfl)
  clear h0 h1 h2 h3 h4 h5 h6 h7 h8 h9 h10 h11 h12 h13 h14 h15 h16
  go_enter Tryz.func216, Tryz.ntmps216
  go_wp2_with fail
  refine (trim_any s _ (by unfold maxLen; omega)).mono ?_
  rintro e w1 ⟨rfl, hb1⟩
  go_wp2_with fail
  refine (lower_any _ _ HSZ.out).mono ?_
  rintro e w2 ⟨rfl, hb2⟩
  rw [str_toList, show lowL (Lib.trimS s.data.toList whiteSet) = cleanL s.data.toList from rfl, HX.out]
  have hbb := hb1.trans (hb2.mono hb1.size)
  go_wp2_with fail
  go_ret2
  exact ⟨by rw [HV.out]; rfl, hbb⟩
end Go.Proofs.YtcmmbceacjechaaGreatDoor

/- WALKS of chars.Valid, fromWindows, number, firstSign, fromPairs. No statement is proved here. -/
namespace Go.Proofs.YtcmmbceacjechaaGreatDoor
open Go.RowKit
set_option linter.unusedVariables false
set_option linter.unusedSimpArgs false

set_option maxHeartbeats 1000000 in
theorem valid_any (s : ByteArray) (w : World) (hs : s.size ≤ 1048576) :
    Calls Tryz.prog 25 #[.string s] w fun e w' => e = .returned (.string (str (validL s.data.toList))) ∧ Below w.heap.size w w' := by
  go_enter Tryz.func25, Tryz.ntmps25
  go_wp2_with (refine wpList_buf_make rfl _ _ rfl w.heap.size w (Below.refl _ _) (Nat.le_refl _) s.size s.size rfl rfl rfl (by omega) ?_; intro v0 w0 hb0)
  have hbz := hb0.2.2
  have hit : (w0.iter s 0).heap[w0.heap.size]? = some (Obj.stringIter s 0) := heap_alloc_new w0 _
  go_loopw [3] (fun v wr => ∃ (pos : Nat) (acc : List UInt8), pos ≤ s.size ∧ wr.heap[w0.heap.size]? = some (Obj.stringIter s pos) ∧ Buf w.heap.size v acc w wr ∧ acc.length ≤ 3 * pos ∧ acc ++ validL (s.data.toList.drop pos) = validL s.data.toList) (fun _ wr => s.size - wr.iterPos w0.heap.size)
  case atStart => exact ⟨0, [], Nat.zero_le _, hit, hb0.alloc _, Nat.le_refl _, by simp⟩
  case round =>
    obtain ⟨pos, acc, hpos, hk, hb, hacc, hd⟩ := hrel
    have HB := hide hb
    have HK := hide hk
    clear hb hk
    by_cases hlt : pos < s.size
    · have hnx := fun ty => Lib.run_next_any_at (P := Tryz.prog) wr w0.heap.size s pos ty HK.out hlt
      have hne : s.data.toList.drop pos ≠ [] := by rw [drop_cons s pos hlt]; simp
      have hsp := decL_spec _ hne
      have hst := vStep_pos' _ hne
      have hR := valid_round hd hne
      rw [List.drop_drop] at hR
      rw [decode_decL s pos hlt] at hnx
      rw [List.length_drop, toList_length] at hst
      generalize decL (s.data.toList.drop pos) = dl at hnx hsp
      obtain ⟨r, n⟩ := dl
      simp only at hsp hnx
      rw [← hsp.1, ← hsp.2.1] at hR
      rw [← hsp.1, ← hsp.2.1] at hst
      have hr := hsp.2.2
      clear hsp
      obtain ⟨hn1, hn2, hn3, hn4⟩ := hst
      have HR := hide hR
      have HI := hide (Lib.iterAt_heap wr w0.heap.size s pos (pos + n) HK.out)
      have HB1 := hide (HB.out.iterAt HK.out (by omega) (pos + n))
      clear hR hd hne
      go_wp2_with fail
      refine (appendRune_any w.heap.size u3 acc w _ HB1.out (r : Int) (by omega) (by omega) (by omega)).mono ?_
      rintro e w1 ⟨v1, rfl, hb1, hi1⟩
      have HB2 := hide hb1
      have HI2 := hide (hi1 _ _ _ HI.out)
      clear hb1 hi1
      go_wp2_with fail
      go_roundw
      case rel => exact ⟨pos + n, acc ++ _, by omega, HI2.out, HB2.out, by rw [List.length_append]; omega, HR.out⟩
      case measure =>
        have e1 : World.iterPos w1 w0.heap.size = pos + n := by unfold World.iterPos; rw [HI2.out]
        have e2 : World.iterPos wr w0.heap.size = pos := by unfold World.iterPos; rw [HK.out]
        rw [e1, e2]; omega
    · have hnx := fun ty => Lib.run_next_end_at (P := Tryz.prog) wr w0.heap.size s pos ty HK.out hlt
      have hcv := HB.out.convert
      go_wp2
      go_ret
      refine ⟨?_, HB.out.below⟩
      rw [drop_nil s pos (by omega), validL_nil, List.append_nil] at hd
      exact ret_str (by rw [hd])

/-- the table in memory -/
def Tab (w : World) : Prop := ∀ j : Nat, j < 32 → w.cell? ⟨1, j, none⟩ = some (.int .i32 (winTab.getD j 0))
theorem Tab.lt {w : World} (h : Tab w) : 1 < w.heap.size := by
  have := h 0 (by omega)
  rcases Nat.lt_or_ge 1 w.heap.size with h1 | h1
  · exact h1
  · unfold World.cell? at this
    rw [Array.getElem?_eq_none h1] at this; cases this
theorem Tab.below {B : Nat} {w w' : World} (h : Tab w) (hb : Below B w w') (hB : 1 < B) : Tab w' := fun j hj => by
  rw [← h j hj]
  exact hb.cell (by exact hB)

set_option maxHeartbeats 1000000 in
theorem fromWindows_any (s : ByteArray) (w : World) (hs : s.size ≤ 1048576) (hT : Tab w) :
    Calls Tryz.prog 217 #[.string s] w fun e w' => e = .returned (.string (str (winL s.data.toList))) ∧ Below w.heap.size w w' := by
  have HT := hide hT
  have h0 := hT.lt
  clear hT
  go_enter Tryz.func217, Tryz.ntmps217
  go_wp2_with (refine wpList_buf_make rfl _ _ rfl w.heap.size w (Below.refl _ _) (Nat.le_refl _) s.size s.size rfl rfl rfl (by omega) ?_; intro v0 w0 hb0)
  go_loopw [3, 12] (fun v i wr => ∃ (k : Nat) (acc : List UInt8), k ≤ s.size ∧ i = .int .i64 k ∧ Buf w.heap.size v acc w wr ∧ acc.length ≤ 3 * k ∧ acc ++ winL (s.data.toList.drop k) = winL s.data.toList) (fun _ i _ => s.size - (intOf i).toNat)
  case atStart => exact ⟨0, [], Nat.zero_le _, rfl, hb0, Nat.le_refl _, by simp⟩
  case round =>
    obtain ⟨k, acc, hk, rfl, hb, hacc, hd⟩ := hrel
    have HB := hide hb
    clear hb
    by_cases hlt : k < s.size
    · rw [drop_cons s k hlt, winL_cons, ← List.append_assoc] at hd
      have HR := hide hd
      have hcase := winR_case s[k]
      have hl3 := winR_length s[k]
      have hrg := winR_range s[k]
      have hbl := byte_lt s[k]
      generalize hc : s[k] = c at hd hcase hl3 hrg hbl
      rw [hc] at HR
      clear hd
      rcases hcase with ⟨c1, e⟩ | ⟨c1, c2, e⟩ | ⟨c1, e⟩
      · rw [e] at HR hl3
        clear e
        go_wp2_with fail
        refine (appendRune_any w.heap.size u3 acc w wr HB.out c.toNat (by omega) (by omega) (by omega)).mono ?_
        rintro e w1 ⟨v1, rfl, hb1, _⟩
        have HB1 := hide hb1
        clear hb1
        go_wp2_with fail
        go_roundw
        case rel => exact ⟨k + 1, acc ++ _, by omega, by go_num, HB1.out, by rw [List.length_append]; omega, HR.out⟩
        case measure => simp [intOf]; omega
      · have hcell := (HT.out.below HB.out.below h0) (c.toNat - 128) (by omega)
        rw [← e] at hcell
        have q1 : ((c.toNat : Int) - 128).toNat = c.toNat - 128 := by omega
        generalize winR c = rr at HR hl3 hrg hcell e
        clear e
        go_wp2_with fail
        refine (appendRune_any w.heap.size u3 acc w wr HB.out rr (by omega) (by omega) (by omega)).mono ?_
        rintro e w1 ⟨v1, rfl, hb1, _⟩
        have HB1 := hide hb1
        clear hb1
        go_wp2_with fail
        go_roundw
        case rel => exact ⟨k + 1, acc ++ _, by omega, by go_num, HB1.out, by rw [List.length_append]; omega, HR.out⟩
        case measure => simp [intOf]; omega
      · rw [e] at HR hl3
        clear e
        go_wp2_with fail
        refine (appendRune_any w.heap.size u3 acc w wr HB.out c.toNat (by omega) (by omega) (by omega)).mono ?_
        rintro e w1 ⟨v1, rfl, hb1, _⟩
        have HB1 := hide hb1
        clear hb1
        go_wp2_with fail
        go_roundw
        case rel => exact ⟨k + 1, acc ++ _, by omega, by go_num, HB1.out, by rw [List.length_append]; omega, HR.out⟩
        case measure => simp [intOf]; omega
    · have hcv := HB.out.convert
      go_wp2
      go_ret
      refine ⟨?_, HB.out.below⟩
      rw [drop_nil s k (by omega)] at hd
      rw [show winL [] = [] from rfl, List.append_nil] at hd
      exact ret_str (by rw [hd])
end Go.Proofs.YtcmmbceacjechaaGreatDoor

/- WALKS of chars.number, firstSign, fromPairs. No statement is proved here. -/
namespace Go.Proofs.YtcmmbceacjechaaGreatDoor
open Go.RowKit
set_option linter.unusedVariables false
set_option linter.unusedSimpArgs false

theorem or_bytes (a b : Nat) (ha : a < 256) (hb : b < 256) : bits .or .i32 ((a : Int) * 256) (b : Int) = ((256 * a + b : Nat) : Int) := by
  have h1 : (BitVec.ofInt 32 ((a : Int) * 256)).toNat = a * 256 := by
    rw [show (a : Int) * 256 = ((a * 256 : Nat) : Int) from by omega, BitVec.ofInt_natCast, BitVec.toNat_ofNat]; exact Nat.mod_eq_of_lt (by omega)
  have h2 : (BitVec.ofInt 32 (b : Int)).toNat = b := by
    rw [BitVec.ofInt_natCast, BitVec.toNat_ofNat]; exact Nat.mod_eq_of_lt (by omega)
  show IntKind.i32.wrap ((BitVec.ofInt 32 ((a : Int) * 256) ||| BitVec.ofInt 32 (b : Int)).toNat : Int) = _
  rw [BitVec.toNat_or, h1, h2]
  have e : a * 256 ||| b = 256 * a + b := by
    have := Nat.two_pow_add_eq_or_of_lt (i := 8) (b := b) (by omega) a
    rw [Nat.mul_comm a 256]
    exact this.symm
  rw [e]
  exact IntWalk.i32_in _ (by omega)

/-- the place of the higher byte -/
def hiAt (big : Bool) : Int := if big then 0 else 1
set_option maxHeartbeats 1000000 in
theorem number_any (s : ByteArray) (big : Bool) (w : World) (hs : s.size ≤ maxLen) (h2 : 1 < s.size) :
    Calls Tryz.prog 244 #[.string s, .int .i64 (hiAt big)] w fun e w' => e = .returned (.int .i32 (num big s[0] s[1])) ∧ Below w.heap.size w w' := by
  unfold maxLen at hs
  have ha := byte_lt s[0]
  have hb := byte_lt s[1]
  have i0 : (0 : Int) < s.size := by omega
  have i1 : (1 : Int) < s.size := by omega
  have n0 : 0 < s.size := by omega
  cases big
  · have ho := or_bytes s[1].toNat s[0].toNat hb ha
    show Calls _ _ #[.string s, .int .i64 1] _ _
    go_enter Tryz.func244, Tryz.ntmps244
    go_wp2_with fail
    go_region
    all_goals (try go_wp2)
    all_goals
      go_ret
      exact ⟨ret_int (by unfold num; simp), (Below.refl _ _).drew⟩
  · have ho := or_bytes s[0].toNat s[1].toNat ha hb
    show Calls _ _ #[.string s, .int .i64 0] _ _
    go_enter Tryz.func244, Tryz.ntmps244
    go_wp2_with fail
    go_region
    all_goals (try go_wp2)
    all_goals
      go_ret
      exact ⟨ret_int (by unfold num; simp), (Below.refl _ _).drew⟩
theorem number_list (s : ByteArray) (big : Bool) (a b : UInt8) (r : List UInt8) (w : World) (hs : s.size ≤ maxLen) (h : s.data.toList = a :: b :: r) :
    Calls Tryz.prog 244 #[.string s, .int .i64 (hiAt big)] w fun e w' => e = .returned (.int .i32 (num big a b)) ∧ Below w.heap.size w w' := by
  have hl := toList_length s
  rw [h] at hl
  simp only [List.length_cons] at hl
  have h1 : 1 < s.size := by omega
  have e := drop_cons s 0 (by omega)
  rw [List.drop_zero, drop_cons s 1 h1, h] at e
  injection e with e1 e
  injection e with e2 e
  have := number_any s big w hs h1
  rw [← e1, ← e2] at this
  exact this

/-- what firstSign answers -/
def fsV (big : Bool) (l : List UInt8) : Value := .tuple #[.int .i32 (fsS big l).1, .int .i64 (fsS big l).2]
theorem fsV_of {big : Bool} {l : List UInt8} {z : Int} {n : Nat} (h : fsS big l = (z, n)) : fsV big l = .tuple #[.int .i32 z, .int .i64 n] := by unfold fsV; rw [h]
set_option maxRecDepth 100000 in
set_option maxHeartbeats 2000000 in
theorem firstSign_any (s : ByteArray) (big : Bool) (w : World) (hs : s.size ≤ maxLen) (h2 : 1 < s.size) :
    Calls Tryz.prog 233 #[.string s, .int .i64 (hiAt big)] w fun e w' => e = .returned (fsV big s.data.toList) ∧ Below w.heap.size w w' := by
  have hs' := hs
  unfold maxLen at hs
  obtain ⟨a, b, r, hl⟩ : ∃ a b r, s.data.toList = a :: b :: r := by
    have e := drop_cons s 0 (by omega)
    rw [List.drop_zero, drop_cons s 1 h2] at e
    exact ⟨_, _, _, e⟩
  have hlen := toList_length s
  rw [hl] at hlen
  simp only [List.length_cons] at hlen
  have HN := hide (fun (w : World) => number_list s big a b r w hs' hl)
  have hlt := num_lt big a b
  obtain ⟨x, hx⟩ : ∃ x, x = num big a b := ⟨_, rfl⟩
  rw [hl]
  have hi : ∃ z, z = hiAt big := ⟨_, rfl⟩
  obtain ⟨z, hz⟩ := hi
  rw [← hz]
  have HZ := hide hz
  rw [← hz, ← hx] at HN
  rw [← hx] at hlt
  have HX := hide hx
  clear hx hz
  by_cases c1 : x < 55296
  · have HV := hide (fsV_of (big := big) (l := a :: b :: r) (z := x) (n := 2) (by rw [fsS, ← HX.out, if_pos (.inl c1)]))
    clear hlen
    go_enter Tryz.func233, Tryz.ntmps233
    go_wp2_with fail
    refine (HN.out _).mono ?_
    rintro e w1 ⟨rfl, hb1⟩
    go_wp2_with fail
    go_ret2
    exact ⟨by rw [HV.out]; rfl, hb1⟩
  by_cases c2 : 57344 ≤ x
  · have HV := hide (fsV_of (big := big) (l := a :: b :: r) (z := x) (n := 2) (by rw [fsS, ← HX.out, if_pos (.inr c2)]))
    clear hlen
    go_enter Tryz.func233, Tryz.ntmps233
    go_wp2_with fail
    refine (HN.out _).mono ?_
    rintro e w1 ⟨rfl, hb1⟩
    go_wp2_with fail
    go_ret2
    exact ⟨by rw [HV.out]; rfl, hb1⟩
  have c12 : ¬ (x < 55296 ∨ 57344 ≤ x) := by omega
  have t1 : decide ((x : Int) < 55296) = false := decide_eq_false (by omega)
  have t2 : decide ((57344 : Int) ≤ x) = false := decide_eq_false (by omega)
  have C12 := hide c12
  have K1 : Hid (55296 ≤ x) := hide (by omega)
  clear c12 c1 c2
  by_cases c3 : x < 56320
  · have t3 : decide ((x : Int) < 56320) = true := decide_eq_true (by omega)
    have C3 := hide c3
    clear c3
    by_cases c4 : 3 < s.size
    · have t4 : decide ((3 : Int) < s.size) = true := decide_eq_true (by omega)
      have s2 : (2 : Int) ≤ s.size := by omega
      obtain ⟨c, d, r', hr⟩ : ∃ c d r', r = c :: d :: r' := by
        match r, hlen with
        | c :: d :: r', _ => exact ⟨c, d, r', rfl⟩
        | [c], h => simp at h; omega
        | [], h => simp at h; omega
      subst hr
      have hx2 : (s.extract 2 s.size).data.toList = c :: d :: r' := by rw [extract_end, hl]; rfl
      have HN2 := hide (fun (w : World) => number_list (s.extract 2 s.size) big c d r' w (by have := extract_size_le s 2 s.size; unfold maxLen; omega) hx2)
      have hlt2 := num_lt big c d
      obtain ⟨y, hy⟩ : ∃ y, y = num big c d := ⟨_, rfl⟩
      rw [← HZ.out, ← hy] at HN2
      rw [← hy] at hlt2
      have HY := hide hy
      clear hy hx2 hl c4
      by_cases c5 : 56320 ≤ y ∧ y < 57344
      · have HV := hide (fsV_of (big := big) (l := a :: b :: c :: d :: r') (z := pairV x y) (n := 4) (by rw [fsS, ← HX.out, if_neg C12.out, if_pos C3.out, fsT, ← HY.out, if_pos c5]))
        have t5 : decide ((56320 : Int) ≤ y) = true := decide_eq_true (by omega)
        have t6 : decide ((y : Int) < 57344) = true := decide_eq_true (by omega)
        have k1 := K1.out
        have k3 := C3.out
        obtain ⟨k5, k6⟩ := c5
        clear hlen
        go_enter Tryz.func233, Tryz.ntmps233
        go_wp2_with fail
        refine (HN.out _).mono ?_
        rintro e w1 ⟨rfl, hb1⟩
        go_wp2_with fail
        refine (HN2.out _).mono ?_
        rintro e w2 ⟨rfl, hb2⟩
        go_upto_region 7 with (fail)
        clear t1 t2 t3 t4 t5 t6 hlt hlt2 h2 s2 hs'
        go_wp2_with fail
        go_ret2
        refine ⟨?_, hb1.trans (hb2.mono hb1.size)⟩
        rw [HV.out]
        show Ending.returned (.tuple #[.int .i32 _, .int .i64 _]) = _
        congr 5
        unfold pairV; omega
      · have HV := hide (fsV_of (big := big) (l := a :: b :: c :: d :: r') (z := 65533) (n := 2) (by rw [fsS, ← HX.out, if_neg C12.out, if_pos C3.out, fsT, ← HY.out, if_neg c5]))
        have c6 : y < 56320 ∨ (56320 ≤ y ∧ 57344 ≤ y) := by omega
        have c7 : decide ((56320 : Int) ≤ y) = false ∨ (decide ((56320 : Int) ≤ y) = true ∧ decide ((y : Int) < 57344) = false) := by
          rcases c6 with c | ⟨c, c'⟩
          · exact .inl (decide_eq_false (by omega))
          · exact .inr ⟨decide_eq_true (by omega), decide_eq_false (by omega)⟩
        clear c5 c6
        rcases c7 with t5 | ⟨t5, t6⟩
        all_goals
          clear hlen
          go_enter Tryz.func233, Tryz.ntmps233
          go_wp2_with fail
          refine (HN.out _).mono ?_
          rintro e w1 ⟨rfl, hb1⟩
          go_wp2_with fail
          refine (HN2.out _).mono ?_
          rintro e w2 ⟨rfl, hb2⟩
          go_wp2_with fail
          go_ret2
          exact ⟨by rw [HV.out]; rfl, hb1.trans (hb2.mono hb1.size)⟩
    · have HV := hide (fsV_of (big := big) (l := a :: b :: r) (z := 65533) (n := 2) (by
        rw [fsS, ← HX.out, if_neg C12.out, if_pos C3.out]
        match r, hlen with
        | [], _ => rfl
        | [_], _ => rfl
        | _ :: _ :: r', h => simp at h; omega))
      have t4 : decide ((3 : Int) < s.size) = false := decide_eq_false (by omega)
      clear c4
      clear hlen
      go_enter Tryz.func233, Tryz.ntmps233
      go_wp2_with fail
      refine (HN.out _).mono ?_
      rintro e w1 ⟨rfl, hb1⟩
      go_wp2_with fail
      go_ret2
      exact ⟨by rw [HV.out]; rfl, hb1⟩
  · have HV := hide (fsV_of (big := big) (l := a :: b :: r) (z := 65533) (n := 2) (by rw [fsS, ← HX.out, if_neg C12.out, if_neg c3]))
    have t3 : decide ((x : Int) < 56320) = false := decide_eq_false (by omega)
    clear c3
    clear hlen
    go_enter Tryz.func233, Tryz.ntmps233
    go_wp2_with fail
    refine (HN.out _).mono ?_
    rintro e w1 ⟨rfl, hb1⟩
    go_wp2_with fail
    go_ret2
    exact ⟨by rw [HV.out]; rfl, hb1⟩

def szOf4 : Value → Nat
  | .string t => t.size
  | _ => 0
set_option maxRecDepth 100000 in
set_option maxHeartbeats 2000000 in
theorem fromPairs_any (s : ByteArray) (big : Bool) (w : World) (hs : s.size ≤ 1048576) :
    Calls Tryz.prog 218 #[.string s, .int .i64 (hiAt big)] w fun e w' => e = .returned (.string (str (pairsL big s.data.toList))) ∧ Below w.heap.size w w' := by
  have HFS := hide (fun (t : ByteArray) (w : World) (ht : t.size ≤ maxLen) (h2 : 1 < t.size) => firstSign_any t big w ht h2)
  obtain ⟨z, hz⟩ : ∃ z, z = hiAt big := ⟨_, rfl⟩
  rw [← hz] at HFS ⊢
  clear hz
  go_enter Tryz.func218, Tryz.ntmps218
  go_wp2_with (refine wpList_buf_make rfl _ _ rfl w.heap.size w (Below.refl _ _) (Nat.le_refl _) s.size s.size rfl rfl rfl (by omega) ?_; intro v0 w0 hb0)
  go_loopw [0, 5] (fun x v wr => ∃ (t : ByteArray) (acc : List UInt8), x = .string t ∧ Buf w.heap.size v acc w wr ∧ acc.length + 3 * t.size ≤ 3 * s.size ∧ acc ++ pairsL big t.data.toList = pairsL big s.data.toList) (fun x _ _ => szOf4 x)
  case atStart => exact ⟨s, [], rfl, hb0, by simp, by simp⟩
  case round =>
    obtain ⟨t, acc, rfl, hb, hacc, hd⟩ := hrel
    have HB := hide hb
    clear hb
    by_cases hlt : 1 < t.size
    · obtain ⟨p1, p2, p3, p4, p5⟩ := pairs_step big t.data.toList (by rw [toList_length]; omega)
      have p6 := runeL_length (fsS big t.data.toList).1
      rw [p1, ← List.append_assoc] at hd
      rw [toList_length] at p3
      have hF : fsV big t.data.toList = .tuple #[.int .i32 (fsS big t.data.toList).1, .int .i64 (fsS big t.data.toList).2] := rfl
      generalize fsS big t.data.toList = st at hd hF p2 p3 p4 p5 p6
      obtain ⟨r, n⟩ := st
      simp only at hd hF p2 p3 p4 p5 p6
      have p7 : (runeL r).length ≤ 3 * n := by omega
      have p8 : 2 ≤ n := by omega
      have HR := hide hd
      have HF := hide hF
      clear hd hF p1 p2 p6
      go_wp2_with fail
      refine (HFS.out t _ (by unfold maxLen; omega) hlt).mono ?_
      rintro e w1 ⟨rfl, hb1⟩
      rw [HF.out]
      have HB1 := hide (HB.out.kept hb1)
      go_wp2_with fail
      refine (appendRune_any w.heap.size u5 acc w _ HB1.out r (by omega) (by omega) (by omega)).mono ?_
      rintro e w2 ⟨v2, rfl, hb2, _⟩
      have HB2 := hide hb2
      clear hb2
      go_wp2_with fail
      go_roundw
      case rel => exact ⟨t.extract n t.size, acc ++ _, rfl, HB2.out, by rw [ByteArray.size_extract, List.length_append]; omega, by rw [extract_end]; exact HR.out⟩
      case measure => simp [szOf4]; omega
    · have hl := toList_length t
      have hp := pairs_short big t.data.toList (by omega)
      rw [hl] at hp
      by_cases h1 : 0 < t.size
      · rw [hp, if_pos (by omega)] at hd
        have HR := hide hd
        clear hd hp hl
        go_wp2_with fail
        refine (appendRune_any w.heap.size u5 acc w _ HB.out 65533 (by omega) (by omega) (by omega)).mono ?_
        rintro e w2 ⟨v2, rfl, hb2, _⟩
        rw [runeL_bad'] at hb2
        have HB2 := hide hb2
        have hcv := hb2.convert
        clear hb2
        go_wp2_with fail
        go_ret
        exact ⟨ret_str (by rw [HR.out]), HB2.out.below⟩
      · rw [hp, if_neg (by omega), List.append_nil] at hd
        have HR := hide hd
        have hcv := HB.out.convert
        clear hd hp hl
        go_wp2_with fail
        go_ret
        exact ⟨ret_str (by rw [HR.out]), HB.out.below⟩
end Go.Proofs.YtcmmbceacjechaaGreatDoor

/- WALK of chars.Decode. No statement is proved here. -/
namespace Go.Proofs.YtcmmbceacjechaaGreatDoor
open Go.RowKit
set_option linter.unusedVariables false
set_option linter.unusedSimpArgs false

/-- what Decode answers -/
def decV (k : Nat) (l : List UInt8) : Value := .tuple #[.string (str (decodeL k l)), .bool (decide (0 < k))]
set_option maxHeartbeats 2000000 in
theorem charsDecode_any (label s : ByteArray) (w : World) (hl : label.size ≤ 70368744177664) (hs : s.size ≤ 1048576) (hT : Tab w) :
    Calls Tryz.prog 186 #[.string label, .string s] w fun e w' => e = .returned (decV (kindL label.data.toList) s.data.toList) ∧ Below w.heap.size w w' := by
  have HT := hide hT
  have H0 := hide hT.lt
  clear hT
  have HK := hide (fun (w : World) => known_any label w hl)
  have hk5 := kind_lt label.data.toList
  generalize kindL label.data.toList = k at HK hk5
  have hk : k = 0 ∨ k = 1 ∨ k = 2 ∨ k = 3 ∨ k = 4 := by omega
  clear hk5
  have KV0 : Hid (knownV 0 = .tuple #[.string ⟨#[]⟩, .bool false]) := hide rfl
  have KV1 : Hid (knownV 1 = .tuple #[.string ⟨#[117, 116, 102, 45, 56]⟩, .bool true]) := hide rfl
  have KV2 : Hid (knownV 2 = .tuple #[.string ⟨#[119, 105, 110, 100, 111, 119, 115, 45, 49, 50, 53, 50]⟩, .bool true]) := hide rfl
  have KV3 : Hid (knownV 3 = .tuple #[.string ⟨#[117, 116, 102, 45, 49, 54, 108, 101]⟩, .bool true]) := hide rfl
  have KV4 : Hid (knownV 4 = .tuple #[.string ⟨#[117, 116, 102, 45, 49, 54, 98, 101]⟩, .bool true]) := hide rfl
  have P3 := hide (fun (w : World) => fromPairs_any s false w hs)
  have P4 := hide (fun (w : World) => fromPairs_any s true w hs)
  rw [show hiAt false = 1 from rfl] at P3
  rw [show hiAt true = 0 from rfl] at P4
  rcases hk with rfl | rfl | rfl | rfl | rfl
  · go_enter Tryz.func186, Tryz.ntmps186
    go_wp2_with fail
    refine (HK.out _).mono ?_
    rintro e w1 ⟨rfl, hb1⟩
    rw [KV0.out]
    go_wp2_with fail
    refine (valid_any s _ hs).mono ?_
    rintro e w2 ⟨rfl, hb2⟩
    go_wp2_with fail
    go_ret2
    exact ⟨rfl, hb1.trans (hb2.mono hb1.size)⟩
  · go_enter Tryz.func186, Tryz.ntmps186
    go_wp2_with fail
    refine (HK.out _).mono ?_
    rintro e w1 ⟨rfl, hb1⟩
    rw [KV1.out]
    go_wp2_with fail
    refine (valid_any s _ hs).mono ?_
    rintro e w2 ⟨rfl, hb2⟩
    go_wp2_with fail
    go_ret2
    exact ⟨rfl, hb1.trans (hb2.mono hb1.size)⟩
  · go_enter Tryz.func186, Tryz.ntmps186
    go_wp2_with fail
    refine (HK.out _).mono ?_
    rintro e w1 ⟨rfl, hb1⟩
    rw [KV2.out]
    go_wp2_with fail
    refine (fromWindows_any s _ hs (HT.out.below hb1 H0.out)).mono ?_
    rintro e w2 ⟨rfl, hb2⟩
    go_wp2_with fail
    go_ret2
    exact ⟨rfl, hb1.trans (hb2.mono hb1.size)⟩
  · go_enter Tryz.func186, Tryz.ntmps186
    go_wp2_with fail
    refine (HK.out _).mono ?_
    rintro e w1 ⟨rfl, hb1⟩
    rw [KV3.out]
    go_wp2_with fail
    refine (P3.out _).mono ?_
    rintro e w2 ⟨rfl, hb2⟩
    go_wp2_with fail
    go_ret2
    exact ⟨rfl, hb1.trans (hb2.mono hb1.size)⟩
  · go_enter Tryz.func186, Tryz.ntmps186
    go_wp2_with fail
    refine (HK.out _).mono ?_
    rintro e w1 ⟨rfl, hb1⟩
    rw [KV4.out]
    go_wp2_with fail
    refine (P4.out _).mono ?_
    rintro e w2 ⟨rfl, hb2⟩
    go_wp2_with fail
    go_ret2
    exact ⟨rfl, hb1.trans (hb2.mono hb1.size)⟩
end Go.Proofs.YtcmmbceacjechaaGreatDoor

/- WALKS of word.labelOf, bytesOf, One. No statement is proved here. -/
namespace Go.Proofs.YtcmmbceacjechaaGreatDoor
open Go.RowKit
set_option linter.unusedVariables false
set_option linter.unusedSimpArgs false
set_option maxRecDepth 100000

theorem hasAny_ws (l : List UInt8) : hasAny [32, 9, 10, 13] l = !noWs l := by
  unfold hasAny noWs
  induction l with
  | nil => rfl
  | cons a r ih =>
    have : ∀ c : UInt8, [32, 9, 10, 13].contains c = wsB c := u8_all (p := fun c => [32, 9, 10, 13].contains c = wsB c) (by decide +kernel)
    rw [List.any_cons, List.all_cons, ih, this, Bool.not_and, Bool.not_not]
theorem containsWs_any (s : ByteArray) (w : World) (hs : s.size ≤ 1048576) :
    Calls Tryz.prog 75 #[.string s, .string ⟨#[32, 9, 10, 13]⟩] w fun e w' => e = .returned (.bool (!noWs s.data.toList)) ∧ Below w.heap.size w w' :=
  (containsAny_any s ⟨#[32, 9, 10, 13]⟩ w (by decide) (by decide) hs (by decide)).mono fun e w' ⟨he, hb⟩ => ⟨by rw [he, ← hasAny_ws], hb⟩
theorem prefix_take (l p : List UInt8) : Lib.hasPrefix l p = decide (l.take p.length = p) := by
  unfold Lib.hasPrefix
  cases h : p.isPrefixOf l with
  | true => exact (decide_eq_true (List.prefix_iff_eq_take.1 (List.isPrefixOf_iff_prefix.1 h)).symm).symm
  | false =>
    refine (decide_eq_false fun e => ?_).symm
    have := List.isPrefixOf_iff_prefix.2 (List.prefix_iff_eq_take.2 e.symm)
    rw [h] at this; cases this
theorem cutPrefix_yes (s : ByteArray) (p : List UInt8) (w : World) (h : s.data.toList.take p.length = p) :
    Calls Tryz.prog 130 #[.string s, .string (str p)] w fun e w' => e = .returned (.tuple #[.string (str (s.data.toList.drop p.length)), .bool true]) ∧ w = w' :=
  (Tryz.strings_CutPrefix s (str p) w).mono fun e w' ⟨he, hw⟩ => ⟨by
    have e1 : Lib.hasPrefix s.data.toList p = true := by rw [prefix_take]; exact decide_eq_true h
    rw [he, str_toList, Lib.trimPrefix, e1]; rfl, hw.symm⟩
theorem cutPrefix_no (s : ByteArray) (p : List UInt8) (w : World) (h : s.data.toList.take p.length ≠ p) :
    Calls Tryz.prog 130 #[.string s, .string (str p)] w fun e w' => e = .returned (.tuple #[.string s, .bool false]) ∧ w = w' :=
  (Tryz.strings_CutPrefix s (str p) w).mono fun e w' ⟨he, hw⟩ => ⟨by
    have e1 : Lib.hasPrefix s.data.toList p = false := by rw [prefix_take]; exact decide_eq_false h
    rw [he, str_toList, Lib.trimPrefix, e1]
    show Ending.returned (.tuple #[.string (str s.data.toList), .bool false]) = _
    rw [str_of], hw.symm⟩

/-- what labelOf answers -/
def labelV (l : List UInt8) : Value := if l.length ≤ 40 ∧ noWs l = true then .tuple #[.string (str (beforeC 42 l)), .bool (decide (0 < kindL (beforeC 42 l)))] else .tuple #[.string ⟨#[]⟩, .bool false]
theorem labelV_no {l : List UInt8} (h : labelK l = 0) : ∃ y, labelV l = .tuple #[.string y, .bool false] := by
  unfold labelV
  unfold labelK at h
  split
  · rename_i hc
    rw [if_pos hc] at h
    exact ⟨_, by rw [h]; rfl⟩
  · exact ⟨_, rfl⟩
theorem labelV_yes {l : List UInt8} (h : labelK l ≠ 0) : labelV l = .tuple #[.string (str (beforeC 42 l)), .bool true] ∧ kindL (beforeC 42 l) = labelK l := by
  unfold labelV
  unfold labelK at h ⊢
  by_cases hc : l.length ≤ 40 ∧ noWs l = true
  · rw [if_pos hc] at h
    rw [if_pos hc, if_pos hc]
    exact ⟨by rw [decide_eq_true (by omega)], rfl⟩
  · rw [if_neg hc] at h
    exact absurd rfl h

set_option maxHeartbeats 1000000 in
theorem labelOf_any (s : ByteArray) (w : World) (hs : s.size ≤ 1048576) :
    Calls Tryz.prog 208 #[.string s] w fun e w' => e = .returned (labelV s.data.toList) ∧ Below w.heap.size w w' := by
  have hl := toList_length s
  by_cases h40 : 40 < s.size
  · have HV : Hid (labelV s.data.toList = .tuple #[.string ⟨#[]⟩, .bool false]) := hide (if_neg (fun h => by have := h.1; omega))
    have t0 : decide ((40 : Int) < s.size) = true := decide_eq_true (by omega)
    clear hl h40
    go_enter Tryz.func208, Tryz.ntmps208
    go_wp2_with fail
    go_ret2
    exact ⟨by rw [HV.out]; rfl, Below.refl _ _⟩
  · have t0 : decide ((40 : Int) < s.size) = false := decide_eq_false (by omega)
    cases hw : noWs s.data.toList with
    | false =>
      have HV : Hid (labelV s.data.toList = .tuple #[.string ⟨#[]⟩, .bool false]) := hide (if_neg (fun h => by rw [hw] at h; exact absurd h.2 (by decide)))
      have HW := hide hw
      clear hl h40 hw
      go_enter Tryz.func208, Tryz.ntmps208
      go_wp2_with fail
      refine (containsWs_any _ _ hs).mono ?_
      rintro e w1 ⟨rfl, hb1⟩
      rw [HW.out]
      go_wp2_with fail
      go_ret2
      exact ⟨by rw [HV.out]; rfl, hb1⟩
    | true =>
      have HV : Hid (labelV s.data.toList = .tuple #[.string (str (beforeC 42 s.data.toList)), .bool (decide (0 < kindL (beforeC 42 s.data.toList)))]) := hide (if_pos ⟨by omega, hw⟩)
      have HW := hide hw
      have HZ := hide (show (str (beforeC 42 s.data.toList)).size ≤ 70368744177664 by rw [str_size]; have := beforeC_le 42 s.data.toList; omega)
      clear hl h40 hw
      go_enter Tryz.func208, Tryz.ntmps208
      go_wp2_with fail
      refine (containsWs_any _ _ hs).mono ?_
      rintro e w1 ⟨rfl, hb1⟩
      rw [HW.out]
      go_wp2_with fail
      refine (strCut_any _ 42 _ (by omega)).mono ?_
      rintro e w2 ⟨rfl, hb2⟩
      unfold cutV
      go_wp2_with fail
      refine (known_any _ _ HZ.out).mono ?_
      rintro e w3 ⟨rfl, hb3⟩
      rw [str_toList]
      unfold knownV
      go_wp2_with fail
      go_ret2
      have k2 := hb1.trans (hb2.mono hb1.size)
      exact ⟨by rw [HV.out]; rfl, k2.trans (hb3.mono k2.size)⟩

/-- what bytesOf answers -/
def bytesV : Option (List UInt8) → Value
  | some b => .tuple #[.string (str b), .bool true]
  | none => .tuple #[.string ⟨#[]⟩, .bool false]
theorem listE {x : ByteArray} {l : List UInt8} (h : x.data.toList = l) : (x.toList == l) = true := by
  rw [bytes_list, h]; exact beq_self_eq_true l
theorem listN {x : ByteArray} {l : List UInt8} (h : x.data.toList ≠ l) : (x.toList == l) = false := by
  rw [bytes_list]; exact beq_eq_false_iff_ne.2 h
set_option maxHeartbeats 1000000 in
theorem bytesOf_any (x t : ByteArray) (w : World) (ht : t.size ≤ 1048576) :
    Calls Tryz.prog 209 #[.string x, .string t] w fun e w' => e = .returned (bytesV (bytesO x.data.toList t.data.toList)) ∧ Below w.heap.size w w' := by
  cases hw : noWs t.data.toList with
  | false =>
    have HV : Hid (bytesO x.data.toList t.data.toList = none) := hide (if_neg (by rw [hw]; decide))
    have HW := hide hw
    clear hw
    go_enter Tryz.func209, Tryz.ntmps209
    go_wp2_with fail
    refine (containsWs_any _ _ ht).mono ?_
    rintro e w1 ⟨rfl, hb1⟩
    rw [HW.out]
    go_wp2_with fail
    go_ret2
    exact ⟨by rw [HV.out]; rfl, hb1⟩
  | true =>
    have HW := hide hw
    have h0 : bytesO x.data.toList t.data.toList = if x.data.toList = [66] ∨ x.data.toList = [98] then some (decB t.data.toList) else if x.data.toList = [81] ∨ x.data.toList = [113] then some (qdec t.data.toList) else none := if_pos hw
    clear hw
    by_cases h66 : x.data.toList = [66]
    · have HV : Hid (bytesO x.data.toList t.data.toList = some (decB t.data.toList)) := hide (by rw [h0, if_pos (.inl h66)])
      have t1 := listE h66
      clear h0 h66
      go_enter Tryz.func209, Tryz.ntmps209
      go_wp2_with fail
      refine (containsWs_any _ _ ht).mono ?_
      rintro e w1 ⟨rfl, hb1⟩
      rw [HW.out]
      go_wp2_with fail
      refine (decode64_any _ _ ht).mono ?_
      rintro e w2 ⟨rfl, hb2⟩
      go_wp2_with fail
      go_ret2
      exact ⟨by rw [HV.out]; rfl, hb1.trans (hb2.mono hb1.size)⟩
    have t1 := listN h66
    by_cases h98 : x.data.toList = [98]
    · have HV : Hid (bytesO x.data.toList t.data.toList = some (decB t.data.toList)) := hide (by rw [h0, if_pos (.inr h98)])
      have t2 := listE h98
      clear h0 h66 h98
      go_enter Tryz.func209, Tryz.ntmps209
      go_wp2_with fail
      refine (containsWs_any _ _ ht).mono ?_
      rintro e w1 ⟨rfl, hb1⟩
      rw [HW.out]
      go_wp2_with fail
      refine (decode64_any _ _ ht).mono ?_
      rintro e w2 ⟨rfl, hb2⟩
      go_wp2_with fail
      go_ret2
      exact ⟨by rw [HV.out]; rfl, hb1.trans (hb2.mono hb1.size)⟩
    have t2 := listN h98
    rw [if_neg (fun h => h.elim h66 h98)] at h0
    by_cases h81 : x.data.toList = [81]
    · have HV : Hid (bytesO x.data.toList t.data.toList = some (qdec t.data.toList)) := hide (by rw [h0, if_pos (.inl h81)])
      have t3 := listE h81
      clear h0 h66 h98 h81
      go_enter Tryz.func209, Tryz.ntmps209
      go_wp2_with fail
      refine (containsWs_any _ _ ht).mono ?_
      rintro e w1 ⟨rfl, hb1⟩
      rw [HW.out]
      go_wp2_with fail
      refine (fromQ_any _ _ (by omega)).mono ?_
      rintro e w2 ⟨rfl, hb2⟩
      go_wp2_with fail
      go_ret2
      exact ⟨by rw [HV.out]; rfl, hb1.trans (hb2.mono hb1.size)⟩
    have t3 := listN h81
    by_cases h113 : x.data.toList = [113]
    · have HV : Hid (bytesO x.data.toList t.data.toList = some (qdec t.data.toList)) := hide (by rw [h0, if_pos (.inr h113)])
      have t4 := listE h113
      clear h0 h66 h98 h81 h113
      go_enter Tryz.func209, Tryz.ntmps209
      go_wp2_with fail
      refine (containsWs_any _ _ ht).mono ?_
      rintro e w1 ⟨rfl, hb1⟩
      rw [HW.out]
      go_wp2_with fail
      refine (fromQ_any _ _ (by omega)).mono ?_
      rintro e w2 ⟨rfl, hb2⟩
      go_wp2_with fail
      go_ret2
      exact ⟨by rw [HV.out]; rfl, hb1.trans (hb2.mono hb1.size)⟩
    have t4 := listN h113
    have HV : Hid (bytesO x.data.toList t.data.toList = none) := hide (by rw [h0, if_neg (fun h => h.elim h81 h113)])
    clear h0 h66 h98 h81 h113
    go_enter Tryz.func209, Tryz.ntmps209
    go_wp2_with fail
    refine (containsWs_any _ _ ht).mono ?_
    rintro e w1 ⟨rfl, hb1⟩
    rw [HW.out]
    go_wp2_with fail
    go_ret2
    exact ⟨by rw [HV.out]; rfl, hb1⟩
end Go.Proofs.YtcmmbceacjechaaGreatDoor

