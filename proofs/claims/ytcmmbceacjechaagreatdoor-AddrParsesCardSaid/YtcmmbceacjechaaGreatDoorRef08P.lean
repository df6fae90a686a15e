/- WALK of the reference of layer 8: places. No statement is proved here. -/
import Derived.Test.YtcmmbceacjechaaGreatDoorBaseN
import Derived.Test.YtcmmbceacjechaaGreatDoorInts
import Derived.Test.YtcmmbceacjechaaGreatDoorRepR
namespace Go.Proofs.YtcmmbceacjechaaGreatDoor
open Go.RowKit
set_option linter.unusedVariables false
set_option linter.unusedSimpArgs false
set_option maxRecDepth 100000
/-! ### a row of ints that the call has made -/
def IArr (B g : Nat) (l : List Nat) (W0 w : World) : Prop :=
  (∀ j (h : j < l.length), w.cell? ⟨g, j, none⟩ = some (.int .i64 ((l[j]'h : Nat) : Int)) ∧ w.frozen? ⟨g, j, none⟩ = false) ∧ Below B W0 w ∧ B ≤ g ∧ g < w.heap.size
theorem IArr.kept {B g : Nat} {l : List Nat} {W0 w w' : World} (h : IArr B g l W0 w) (hb : Below w.heap.size w w') : IArr B g l W0 w' :=
  ⟨fun j hj => ⟨(hb.cell (by exact h.2.2.2)).trans (h.1 j hj).1, (hb.frozen (by exact h.2.2.2)).trans (h.1 j hj).2⟩, h.2.1.trans (hb.mono (Nat.le_trans h.2.2.1 (Nat.le_of_lt h.2.2.2))), h.2.2.1, Nat.lt_of_lt_of_le h.2.2.2 hb.size⟩
theorem IArr.set {B g : Nat} {l : List Nat} {W0 w : World} (h : IArr B g l W0 w) (j : Nat) (hj : j < l.length) (c : Nat) (n : Int) (hn : n = c) : IArr B g (l.set j c) W0 (w.setCell ⟨g, j, none⟩ (.int .i64 n)) := by
  subst hn
  refine ⟨fun i hi => ?_, h.2.1.setCell h.2.2.1 _, h.2.2.1, by simpa [World.setCell] using h.2.2.2⟩
  have hi' : i < l.length := by simpa using hi
  rw [World.frozen?_setCell]
  refine ⟨?_, (h.1 i hi').2⟩
  by_cases e : i = j
  · subst e
    rw [World.cell?_setCell_same _ _ _ (h.1 i hi').1]
    simp
  · rw [World.cell?_setCell_other _ _ _ _ (by intro e'; injection e' with _ e2; exact e e2.symm), (h.1 i hi').1]
    rw [List.getElem_set_ne (Ne.symm e)]
theorem made_ints (w : World) (n : Nat) (h : n ≤ 1048576) : ∃ w2, (Instr.makeSlice 120 (.int .i64 n) (.int .i64 n)).run Tryz.prog w = .ok (.slice (some ⟨w.heap.size, 0, none⟩) n n) w2 ∧ IArr w.heap.size w.heap.size (List.replicate n 0) w w2 := by
  obtain ⟨i0, hi, hz0, hz1, hz2⟩ := info_parts info_i64
  have hm := run_make (P := Tryz.prog) w 120 3 i0 _ Tryz.underlying120 hi hz0 .i64 .i64 n n (by omega) (Int.le_refl _) (by rw [hz2]; omega) (by omega)
  simp only [Int.toNat_natCast] at hm
  refine ⟨_, hm, fun j hj => ⟨?_, World.frozen?_alloc_at _ _ _ _ rfl⟩, (Below.refl _ w).alloc (Nat.le_refl _) _, Nat.le_refl _, by rw [World.size_alloc]; omega⟩
  have hj' : j < n := by simpa using hj
  rw [World.cell?_alloc_at _ _ _ _ rfl, hz1, Nat.mul_one]
  simp [madeCells, hj', Value.cells, Nat.mod_one]
/-! ### what each byte is in -/
def gP (n : Nat) : Nat := if n = 3 then 2 else n
theorem placesM_snoc (l : List UInt8) (c : UInt8) : ∀ m, placesM m (l ++ [c]) = placesM m l ++ [(takeB (l.foldl (fun m c => (takeB m c).2) m) c).1] := by
  induction l with
  | nil => intro m; rfl
  | cons a r ih => intro m; rw [List.cons_append, placesM, placesM, ih]; rfl
theorem placesM_length (l : List UInt8) : ∀ m, (placesM m l).length = l.length := by
  induction l with
  | nil => intro m; rfl
  | cons a r ih => intro m; rw [placesM, List.length_cons, List.length_cons, ih]
/-- the row ahead of byte k -/
def plAt (l : List UInt8) (k : Nat) : List Nat := (placesM ⟨false, 0, false⟩ (l.take k)).map gP ++ List.replicate (l.length - k) 0
theorem plAt_length (l : List UInt8) (k : Nat) (hk : k ≤ l.length) : (plAt l k).length = l.length := by
  unfold plAt
  rw [List.length_append, List.length_map, placesM_length, List.length_take, List.length_replicate]; omega
theorem plAt_set (s : ByteArray) (k : Nat) (h : k < s.size) (v : Nat) (hv : v = gP (takeB (stAt (s.data.toList.take k)) s[k]).1) : (plAt s.data.toList k).set k v = plAt s.data.toList (k + 1) := by
  subst hv
  unfold plAt
  rw [take_snoc s k h, placesM_snoc, List.map_append, List.append_assoc]
  have hl : ((placesM ⟨false, 0, false⟩ (s.data.toList.take k)).map gP).length = k := by
    rw [List.length_map, placesM_length, List.length_take, toList_length]; omega
  rw [List.set_append_right _ _ (by omega), hl, Nat.sub_self, toList_length, show s.size - k = (s.size - (k + 1)) + 1 by omega, List.replicate_succ]
  rfl
/-- what a byte of a text is in, as the reference has it -/
def plR (l : List UInt8) : List Nat := (placesM ⟨false, 0, false⟩ l).map gP
theorem plAt_end (l : List UInt8) : plAt l l.length = plR l := by unfold plAt plR; rw [List.take_length]; simp
theorem plAt_zero (l : List UInt8) : plAt l 0 = List.replicate l.length 0 := by unfold plAt; rfl
/-- the machine between two steps of the reference -/
def stS : Nat → Nat → MSt
  | 0, _ => ⟨false, 0, false⟩
  | 1, _ => ⟨true, 0, false⟩
  | _, d => ⟨false, d, false⟩
theorem take0_q (d : Nat) {c : UInt8} (h : c = 34) : takeB (stS 0 d) c = (1, stS 1 d) := by subst h; rfl
theorem take0_r (d : Nat) {c : UInt8} (h : c = 40) : takeB (stS 0 d) c = (3, stS 2 1) := by subst h; rfl
theorem take0_o (d : Nat) {c : UInt8} (h : c ≠ 34) (h2 : c ≠ 40) : takeB (stS 0 d) c = (0, stS 0 d) := by
  unfold takeB stS
  simp [h, h2]
theorem take1_e (d : Nat) {c : UInt8} (h : c = 92) : takeB (stS 1 d) c = (1, ⟨true, 0, true⟩) := by subst h; rfl
theorem take1_p (c : UInt8) : takeB ⟨true, 0, true⟩ c = (1, ⟨true, 0, false⟩) := by unfold takeB inPairB nextP; simp
theorem take1_q (d : Nat) {c : UInt8} (h : c = 34) : takeB (stS 1 d) c = (1, stS 0 d) := by subst h; rfl
theorem take1_o (d : Nat) {c : UInt8} (h : c ≠ 92) (h2 : c ≠ 34) : takeB (stS 1 d) c = (1, stS 1 d) := by
  unfold takeB stS inPairB nextP
  simp [h, h2]
theorem take2_e (d : Nat) (hd : 1 ≤ d) {c : UInt8} (h : c = 92) : takeB (stS 2 d) c = (2, ⟨false, d, true⟩) := by
  subst h
  have hd' : 0 < d := by omega
  unfold takeB stS takeR inPairB nextP
  simp [hd']
theorem take2_p (d : Nat) (hd : 1 ≤ d) (c : UInt8) : takeB ⟨false, d, true⟩ c = (2, stS 2 d) := by
  have hd' : 0 < d := by omega
  unfold takeB stS takeR inPairB nextP
  simp [hd']
theorem take2_o (d : Nat) (hd : 1 ≤ d) {c : UInt8} (h : c ≠ 92) (h2 : c ≠ 40) (h3 : c ≠ 41) : takeB (stS 2 d) c = (2, stS 2 d) := by
  have hd' : 0 < d := by omega
  unfold takeB stS takeR inPairB nextP
  have : d ≠ 0 := by omega
  simp [h, h2, h3, this, hd']
theorem take2_i (d : Nat) (hd : 1 ≤ d) {c : UInt8} (h : c = 40) : takeB (stS 2 d) c = (2, stS 2 (d + 1)) := by
  subst h
  have hd' : 0 < d := by omega
  unfold takeB stS takeR inPairB nextP
  simp [hd']
theorem take2_c (d : Nat) (hd : 2 ≤ d) {c : UInt8} (h : c = 41) : takeB (stS 2 d) c = (2, stS 2 (d - 1)) := by
  subst h
  have hd' : 0 < d := by omega
  unfold takeB stS takeR inPairB nextP
  have : d - 1 ≠ 0 := by omega
  simp [this, hd']
theorem take2_x {c : UInt8} (h : c = 41) : takeB (stS 2 1) c = (3, stS 0 0) := by subst h; rfl
theorem st_step (s : ByteArray) (k : Nat) (hk : k < s.size) : (takeB (stAt (s.data.toList.take k)) s[k]).2 = stAt (s.data.toList.take (k + 1)) := by rw [take_snoc s k hk, stAt_snoc]
set_option maxHeartbeats 16000000 in
theorem places_any (s : ByteArray) (w : World) (hs : s.size ≤ 1048576) :
    Calls Tryz.prog 117 #[.string s] w fun e w' => ∃ g, e = .returned (.slice (some ⟨g, 0, none⟩) s.size s.size) ∧ IArr w.heap.size g (plR s.data.toList) w w' := by
  obtain ⟨w2, hm, ha⟩ := made_ints w s.size hs
  have HA := hide ha
  obtain ⟨G, hG⟩ : ∃ G, G = w.heap.size := ⟨_, rfl⟩
  clear ha
  go_enter Tryz.func117, Tryz.ntmps117
  go_wp2_with fail
  go_loopw [4, 5, 6] (fun nv dv iv wr => ∃ (k i d : Nat), k ≤ s.size ∧ i ≤ 2 ∧ (i = 2 → 1 ≤ d) ∧ d ≤ k ∧ nv = .int .i64 i ∧ dv = .int .i64 d ∧ iv = .int .i64 k ∧ Hid (k < s.size → stAt (s.data.toList.take k) = stS i d) ∧ Hid (IArr w.heap.size w.heap.size (plAt s.data.toList k) w wr)) (fun _ _ iv _ => s.size - (intOf iv).toNat)
  case atStart => exact ⟨0, 0, 0, Nat.zero_le _, by omega, by omega, Nat.le_refl _, rfl, rfl, rfl, hide (fun _ => rfl), hide (by rw [plAt_zero, toList_length]; exact HA.out)⟩
  case round =>
    obtain ⟨k, i, d, hk, hi2, hd1, hdk, rfl, rfl, rfl, HST, HI⟩ := hrel
    by_cases hlt : k < s.size
    · have hl : k < (plAt s.data.toList k).length := by rw [plAt_length _ _ (by rw [toList_length]; omega), toList_length]; exact hlt
      have hcell := (HI.out.1 k hl).1
      have hfree := (HI.out.1 k hl).2
      have HSET := hide (fun (v : Nat) (n : Int) (hn : n = v) (hv : v = gP (takeB (stAt (s.data.toList.take k)) s[k]).1) => (plAt_set s k hlt v hv) ▸ HI.out.set k hl v n hn)
      have HSN := hide (st_step s k hlt)
      have hst := HST.out hlt
      rw [hst] at HSET HSN
      have HST0 := hide hst
      obtain ⟨pv, hpv⟩ : ∃ pv : Int, pv = (((plAt s.data.toList k)[k]'hl : Nat) : Int) := ⟨_, rfl⟩
      rw [← hpv] at hcell
      clear hst hpv
      have k6 : k < 1048576 := by omega
      obtain rfl | rfl | rfl : i = 0 ∨ i = 1 ∨ i = 2 := by omega
      · by_cases h34 : s[k] = 34
        · have t34 : ((s[k].toNat : Int) == 34) = true := tT 34 h34 (by decide)
          have HN := hide (HSET.out 1 1 rfl (by rw [take0_q d h34]; rfl))
          have HS : Hid (k + 1 < s.size → stAt (s.data.toList.take (k + 1)) = stS 1 d) := hide (fun _ => by rw [← HSN.out, take0_q d h34])
          clear h34
          go_wp2_with fail
          go_roundw
          case rel => exact ⟨k + 1, 1, d, by omega, by omega, by omega, by omega, rfl, rfl, by go_num, HS, HN⟩
          case measure => simp [intOf]; omega
        · by_cases h40 : s[k] = 40
          · have t34 : ((s[k].toNat : Int) == 34) = false := tF 34 h34 (by decide)
            have t40 : ((s[k].toNat : Int) == 40) = true := tT 40 h40 (by decide)
            have HN := hide (HSET.out 2 2 rfl (by rw [take0_r d h40]; rfl))
            have HS : Hid (k + 1 < s.size → stAt (s.data.toList.take (k + 1)) = stS 2 1) := hide (fun _ => by rw [← HSN.out, take0_r d h40])
            clear h34 h40
            go_wp2_with fail
            go_roundw
            case rel => exact ⟨k + 1, 2, 1, by omega, by omega, by omega, by omega, rfl, rfl, by go_num, HS, HN⟩
            case measure => simp [intOf]; omega
          · have t34 : ((s[k].toNat : Int) == 34) = false := tF 34 h34 (by decide)
            have t40 : ((s[k].toNat : Int) == 40) = false := tF 40 h40 (by decide)
            have HN := hide (HSET.out 0 0 rfl (by rw [take0_o d h34 h40]; rfl))
            have HS : Hid (k + 1 < s.size → stAt (s.data.toList.take (k + 1)) = stS 0 d) := hide (fun _ => by rw [← HSN.out, take0_o d h34 h40])
            clear h34 h40
            go_wp2_with fail
            go_roundw
            case rel => exact ⟨k + 1, 0, d, by omega, by omega, by omega, by omega, rfl, rfl, by go_num, HS, HN⟩
            case measure => simp [intOf]; omega
      · by_cases h92 : s[k] = 92
        · have t92 : ((s[k].toNat : Int) == 92) = true := tT 92 h92 (by decide)
          by_cases hx : k + 1 < s.size
          · have tx : decide ((k : Int) + 1 < s.size) = true := decide_eq_true (by omega)
            have hl2 : k + 1 < (plAt s.data.toList (k + 1)).length := by rw [plAt_length _ _ (by rw [toList_length]; omega), toList_length]; exact hx
            have HN1 := hide (HSET.out 1 1 rfl (by rw [take1_e d h92]; rfl))
            have HS1 : Hid (stAt (s.data.toList.take (k + 1)) = (takeB (stS 1 d) s[k]).2) := hide HSN.out.symm
            have HN2 := hide (fun (w' : World) (h : IArr w.heap.size w.heap.size (plAt s.data.toList (k + 1)) w w') => (plAt_set s (k + 1) hx 1 (by rw [HS1.out, take1_e d h92]; show _ = gP (takeB _ _).1; rw [take1_p]; rfl)) ▸ h.set (k + 1) hl2 1 1 rfl)
            have HS : Hid (k + 2 < s.size → stAt (s.data.toList.take (k + 2)) = stS 1 d) := hide (fun _ => by rw [← st_step s (k + 1) hx, HS1.out, take1_e d h92]; show (takeB _ _).2 = _; rw [take1_p] <;> rfl)
            have hc2 := (HN1.out.1 (k + 1) hl2).1
            have hf2 := (HN1.out.1 (k + 1) hl2).2
            obtain ⟨pv2, hpv2⟩ : ∃ pv : Int, pv = (((plAt s.data.toList (k + 1))[k + 1]'hl2 : Nat) : Int) := ⟨_, rfl⟩
            rw [← hpv2] at hc2
            have n1 : ((k : Int) + 1).toNat = k + 1 := by omega
            have n2 : (k : Int) + 1 < s.size := by omega
            have n3 : (0 : Int) ≤ (k : Int) + 1 := by omega
            have HNN := hide (HN2.out _ HN1.out)
            clear hpv2 h92 hl2
            go_wp2_with fail
            go_roundw
            case rel => exact ⟨k + 2, 1, d, by omega, by omega, by omega, by omega, rfl, rfl, by go_num, HS, HNN⟩
            case measure => simp [intOf]; omega
          · have tx : decide ((k : Int) + 1 < s.size) = false := decide_eq_false (by omega)
            have t34 : ((s[k].toNat : Int) == 34) = false := tF 34 (by rw [h92]; decide) (by decide)
            have t40 : ((s[k].toNat : Int) == 40) = false := tF 40 (by rw [h92]; decide) (by decide)
            have t41 : ((s[k].toNat : Int) == 41) = false := tF 41 (by rw [h92]; decide) (by decide)
            have HN := hide (HSET.out 1 1 rfl (by rw [take1_e d h92]; rfl))
            have HS : Hid (k + 1 < s.size → stAt (s.data.toList.take (k + 1)) = stS 1 d) := hide (fun h => absurd h hx)
            clear h92
            go_wp2_with fail
            go_roundw
            case rel => exact ⟨k + 1, 1, d, by omega, by omega, by omega, by omega, rfl, rfl, by go_num, HS, HN⟩
            case measure => simp [intOf]; omega
        · have t92 : ((s[k].toNat : Int) == 92) = false := tF 92 h92 (by decide)
          by_cases h34 : s[k] = 34
          · have t34 : ((s[k].toNat : Int) == 34) = true := tT 34 h34 (by decide)
            have HN := hide (HSET.out 1 1 rfl (by rw [take1_q d h34]; rfl))
            have HS : Hid (k + 1 < s.size → stAt (s.data.toList.take (k + 1)) = stS 0 d) := hide (fun _ => by rw [← HSN.out, take1_q d h34])
            clear h92 h34
            go_wp2_with fail
            go_roundw
            case rel => exact ⟨k + 1, 0, d, by omega, by omega, by omega, by omega, rfl, rfl, by go_num, HS, HN⟩
            case measure => simp [intOf]; omega
          · have t34 : ((s[k].toNat : Int) == 34) = false := tF 34 h34 (by decide)
            have HN := hide (HSET.out 1 1 rfl (by rw [take1_o d h92 h34]; rfl))
            have HS : Hid (k + 1 < s.size → stAt (s.data.toList.take (k + 1)) = stS 1 d) := hide (fun _ => by rw [← HSN.out, take1_o d h92 h34])
            clear h92 h34
            go_wp2_with fail
            go_roundw
            case rel => exact ⟨k + 1, 1, d, by omega, by omega, by omega, by omega, rfl, rfl, by go_num, HS, HN⟩
            case measure => simp [intOf]; omega
      · have hd := hd1 rfl
        by_cases h92 : s[k] = 92
        · have t92 : ((s[k].toNat : Int) == 92) = true := tT 92 h92 (by decide)
          by_cases hx : k + 1 < s.size
          · have tx : decide ((k : Int) + 1 < s.size) = true := decide_eq_true (by omega)
            have hl2 : k + 1 < (plAt s.data.toList (k + 1)).length := by rw [plAt_length _ _ (by rw [toList_length]; omega), toList_length]; exact hx
            have HN1 := hide (HSET.out 2 2 rfl (by rw [take2_e d hd h92]; rfl))
            have HS1 : Hid (stAt (s.data.toList.take (k + 1)) = (takeB (stS 2 d) s[k]).2) := hide HSN.out.symm
            have HN2 := hide (fun (w' : World) (h : IArr w.heap.size w.heap.size (plAt s.data.toList (k + 1)) w w') => (plAt_set s (k + 1) hx 2 (by rw [HS1.out, take2_e d hd h92]; show _ = gP (takeB _ _).1; rw [take2_p d hd]; rfl)) ▸ h.set (k + 1) hl2 2 2 rfl)
            have HS : Hid (k + 2 < s.size → stAt (s.data.toList.take (k + 2)) = stS 2 d) := hide (fun _ => by rw [← st_step s (k + 1) hx, HS1.out, take2_e d hd h92]; show (takeB _ _).2 = _; rw [take2_p d hd] <;> rfl)
            have hc2 := (HN1.out.1 (k + 1) hl2).1
            have hf2 := (HN1.out.1 (k + 1) hl2).2
            obtain ⟨pv2, hpv2⟩ : ∃ pv : Int, pv = (((plAt s.data.toList (k + 1))[k + 1]'hl2 : Nat) : Int) := ⟨_, rfl⟩
            rw [← hpv2] at hc2
            have n1 : ((k : Int) + 1).toNat = k + 1 := by omega
            have n2 : (k : Int) + 1 < s.size := by omega
            have n3 : (0 : Int) ≤ (k : Int) + 1 := by omega
            have HNN := hide (HN2.out _ HN1.out)
            clear hpv2 h92 hl2
            go_wp2_with fail
            go_roundw
            case rel => exact ⟨k + 2, 2, d, by omega, by omega, by omega, by omega, rfl, rfl, by go_num, HS, HNN⟩
            case measure => simp [intOf]; omega
          · have tx : decide ((k : Int) + 1 < s.size) = false := decide_eq_false (by omega)
            have t34 : ((s[k].toNat : Int) == 34) = false := tF 34 (by rw [h92]; decide) (by decide)
            have t40 : ((s[k].toNat : Int) == 40) = false := tF 40 (by rw [h92]; decide) (by decide)
            have t41 : ((s[k].toNat : Int) == 41) = false := tF 41 (by rw [h92]; decide) (by decide)
            have HN := hide (HSET.out 2 2 rfl (by rw [take2_e d hd h92]; rfl))
            have HS : Hid (k + 1 < s.size → stAt (s.data.toList.take (k + 1)) = stS 2 d) := hide (fun h => absurd h hx)
            clear h92
            go_wp2_with fail
            go_roundw
            case rel => exact ⟨k + 1, 2, d, by omega, by omega, by omega, by omega, rfl, rfl, by go_num, HS, HN⟩
            case measure => simp [intOf]; omega
        · have t92 : ((s[k].toNat : Int) == 92) = false := tF 92 h92 (by decide)
          by_cases h40 : s[k] = 40
          · have t41 : ((s[k].toNat : Int) == 41) = false := tF 41 (by rw [h40]; decide) (by decide)
            have t40 : ((s[k].toNat : Int) == 40) = true := tT 40 h40 (by decide)
            have HN := hide (HSET.out 2 2 rfl (by rw [take2_i d hd h40]; rfl))
            have HS : Hid (k + 1 < s.size → stAt (s.data.toList.take (k + 1)) = stS 2 (d + 1)) := hide (fun _ => by rw [← HSN.out, take2_i d hd h40])
            clear h92 h40
            go_wp2_with fail
            go_roundw
            case rel => exact ⟨k + 1, 2, (d + 1), by omega, by omega, by omega, by omega, rfl, by go_num, by go_num, HS, HN⟩
            case measure => simp [intOf]; omega
          · have t40 : ((s[k].toNat : Int) == 40) = false := tF 40 h40 (by decide)
            by_cases h41 : s[k] = 41
            · have t41 : ((s[k].toNat : Int) == 41) = true := tT 41 h41 (by decide)
              by_cases hd2 : d = 1
              · subst hd2
                have HN := hide (HSET.out 2 2 rfl (by rw [take2_x h41]; rfl))
                have HS : Hid (k + 1 < s.size → stAt (s.data.toList.take (k + 1)) = stS 0 0) := hide (fun _ => by rw [← HSN.out, take2_x h41])
                clear h92 h40 h41
                go_wp2_with fail
                go_roundw
                case rel => exact ⟨k + 1, 0, 0, by omega, by omega, by omega, by omega, rfl, by go_num, by go_num, HS, HN⟩
                case measure => simp [intOf]; omega
              · have tz : ((d : Int) - 1 == 0) = false := by rw [beq_eq_false_iff_ne]; omega
                have HN := hide (HSET.out 2 2 rfl (by rw [take2_c d (by omega) h41]; rfl))
                have HS : Hid (k + 1 < s.size → stAt (s.data.toList.take (k + 1)) = stS 2 (d - 1)) := hide (fun _ => by rw [← HSN.out, take2_c d (by omega) h41])
                clear h92 h40 h41
                go_wp2_with fail
                go_roundw
                case rel => exact ⟨k + 1, 2, (d - 1), by omega, by omega, by omega, by omega, rfl, by congr 1; omega, by go_num, HS, HN⟩
                case measure => simp [intOf]; omega
            · have t41 : ((s[k].toNat : Int) == 41) = false := tF 41 h41 (by decide)
              have HN := hide (HSET.out 2 2 rfl (by rw [take2_o d hd h92 h40 h41]; rfl))
              have HS : Hid (k + 1 < s.size → stAt (s.data.toList.take (k + 1)) = stS 2 d) := hide (fun _ => by rw [← HSN.out, take2_o d hd h92 h40 h41])
              clear h92 h40 h41
              go_wp2_with fail
              go_roundw
              case rel => exact ⟨k + 1, 2, d, by omega, by omega, by omega, by omega, rfl, rfl, by go_num, HS, HN⟩
              case measure => simp [intOf]; omega
    · have HE : Hid (IArr w.heap.size w.heap.size (plR s.data.toList) w wr) := hide (by
        have := HI.out
        rwa [show k = s.data.toList.length by rw [toList_length]; omega, plAt_end] at this)
      go_wp2_with fail
      go_ret
      exact ⟨_, rfl, HE.out⟩
end Go.Proofs.YtcmmbceacjechaaGreatDoor
