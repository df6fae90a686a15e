/- WALK of addr.walk with a function that the caller knows by a contract. No statement is proved here. -/
import Derived.Test.YtnckbdkofbhilaaGreatDoorAddrM
import Derived.Deep.RegionWith
namespace Go.Proofs.YtnckbdkofbhilaaGreatDoor
open Go.RowKit
set_option linter.unusedVariables false
set_option linter.unusedSimpArgs false
set_option maxRecDepth 100000
/-- what is open ahead of byte k -/
def stAt (l : List UInt8) : MSt := l.foldl (fun m c => (takeB m c).2) ⟨false, 0, false⟩
theorem stAt_snoc (l : List UInt8) (c : UInt8) : stAt (l ++ [c]) = (takeB (stAt l) c).2 := by unfold stAt; rw [List.foldl_append]; rfl
theorem takeB_r (m : MSt) (c : UInt8) : (takeB m c).2.r ≤ m.r + 1 := by
  unfold takeB
  split
  · exact Nat.le_succ _
  · split
    · unfold takeR
      split
      · exact Nat.le_succ _
      · simp only []
        split
        · exact Nat.le_refl _
        · split
          · exact Nat.le_trans (Nat.sub_le _ _) (Nat.le_succ _)
          · exact Nat.le_succ _
    · split
      · exact Nat.le_succ _
      · split
        · exact Nat.succ_le_succ (Nat.zero_le _)
        · exact Nat.le_succ _
theorem stAt_r (s : ByteArray) (k : Nat) (h : k ≤ s.size) : (stAt (s.data.toList.take k)).r ≤ k := by
  induction k with
  | zero => exact Nat.le_refl _
  | succ n ih =>
    rw [take_snoc s n h, stAt_snoc]
    exact Nat.le_trans (takeB_r _ _) (Nat.succ_le_succ (ih (Nat.le_of_lt h)))
/-- where byte k stands -/
def placeAt (s : ByteArray) (k : Nat) (h : k < s.size) : Nat := (takeB (stAt (s.data.toList.take k)) s[k]).1
theorem MAt.block {b : Nat} {m : MSt} {w w' : World} (h : MAt b m w) (hb : w'.heap[b]? = w.heap[b]?) : MAt b m w' :=
  ⟨(World.cell?_of_block (w := w) hb).trans h.1, (World.cell?_of_block (w := w) hb).trans h.2.1, (World.cell?_of_block (w := w) hb).trans h.2.2.1, fun i => (World.frozen?_of_block (w := w) hb).trans (h.2.2.2 i)⟩
theorem MAt.drew {b : Nat} {m : MSt} {w : World} (h : MAt b m w) : MAt b m w.drew := h
set_option maxHeartbeats 1600000 in
theorem walk_box (s : ByteArray) (cap : Array Value) (w : World) (I : Nat → World → Prop) (hs : s.size ≤ 1048576)
    (h0 : I 0 (w.alloc (.cells #[.bool false, .int .i64 0, .bool false] 105)))
    (hI : ∀ k w' i v, I k w' → I k (w'.setCell ⟨w.heap.size, i, none⟩ v)) (hD : ∀ k w', I k w' → I k w'.drew)
    (hstep : ∀ k (h : k < s.size) w', I k w' → Calls Tryz.prog 63 (#[.int .i64 k, .int .u8 s[k].toNat, .int .i64 (placeAt s k h)] ++ cap) w' fun e w2 => e = .returned (.tuple #[]) ∧ I (k + 1) w2 ∧ w2.heap[w.heap.size]? = w'.heap[w.heap.size]?) :
    Calls Tryz.prog 62 #[.string s, .func (.func 63) #[] cap] w fun e w' => e = .returned (.tuple #[]) ∧ I s.size w' := by
  go_enter Tryz.func62, Tryz.ntmps62
  go_wp2_with fail
  go_loopw [8] (fun i wr => ∃ k : Nat, k ≤ s.size ∧ i = .int .i64 k ∧ Hid (MAt w.heap.size (stAt (s.data.toList.take k)) wr) ∧ Hid (I k wr)) (fun i _ => s.size - (intOf i).toNat)
  case atStart => exact ⟨0, Nat.zero_le _, rfl, hide ⟨by rw [World.cell?_alloc_at _ _ _ _ rfl]; rfl, by rw [World.cell?_alloc_at _ _ _ _ rfl]; rfl, by rw [World.cell?_alloc_at _ _ _ _ rfl]; rfl, fun i => World.frozen?_alloc_at _ _ _ _ rfl⟩, hide h0⟩
  case round =>
    obtain ⟨k, hk, rfl, HM, HI⟩ := hrel
    by_cases hlt : k < s.size
    · have HT := fun (w1 : World) (h : MAt w.heap.size (stAt (s.data.toList.take k)) w1) (hi : I k w1) => hide (take_any w.heap.size (stAt (s.data.toList.take k)) s[k] (I k) (hI k) w1 h hi (Nat.le_trans (stAt_r s k hk) (Nat.le_trans hk (Nat.le_trans hs (by decide)))))
      have HS := hide (hstep k hlt)
      have hst : Hid ((takeB (stAt (s.data.toList.take k)) s[k]).2 = stAt (s.data.toList.take (k + 1))) := hide (by rw [take_snoc s k hlt, stAt_snoc])
      have HD := hide hD
      clear hI hstep h0 hD
      go_wp2_with fail
      go_region_with (first
        | (refine (HT _ HM.out.drew (HD.out _ _ HI.out)).out.mono ?_; rintro e w1 ⟨rfl, hm1, hi1⟩; have HM1 := hide hm1; have HI1 := hide hi1; clear hm1 hi1)
        | (refine (HS.out _ HI1.out).mono ?_; rintro e w2 ⟨rfl, hi2, hm2⟩; have HM2 := hide (HM1.out.block hm2); have HI2 := hide hi2; clear hi2 hm2))
      all_goals
        rw [hst.out] at HM2
        go_wp2_with fail
        go_round
        case rel => exact ⟨k + 1, by omega, by go_num, HM2, HI2⟩
        case measure => simp [intOf]; omega
    · have hk2 : k = s.size := by omega
      subst hk2
      have HE : Hid (I s.size wr) := HI
      go_wp2_with fail
      go_end0
      exact ⟨rfl, HE.out⟩
set_option maxHeartbeats 1600000 in
theorem walk_angled (s : ByteArray) (cap : Array Value) (w : World) (I : Nat → World → Prop) (hs : s.size ≤ 1048576)
    (h0 : I 0 (w.alloc (.cells #[.bool false, .int .i64 0, .bool false] 105)))
    (hI : ∀ k w' i v, I k w' → I k (w'.setCell ⟨w.heap.size, i, none⟩ v)) (hD : ∀ k w', I k w' → I k w'.drew)
    (hstep : ∀ k (h : k < s.size) w', I k w' → Calls Tryz.prog 95 (#[.int .i64 k, .int .u8 s[k].toNat, .int .i64 (placeAt s k h)] ++ cap) w' fun e w2 => e = .returned (.tuple #[]) ∧ I (k + 1) w2 ∧ w2.heap[w.heap.size]? = w'.heap[w.heap.size]?) :
    Calls Tryz.prog 62 #[.string s, .func (.func 95) #[] cap] w fun e w' => e = .returned (.tuple #[]) ∧ I s.size w' := by
  go_enter Tryz.func62, Tryz.ntmps62
  go_wp2_with fail
  go_loopw [8] (fun i wr => ∃ k : Nat, k ≤ s.size ∧ i = .int .i64 k ∧ Hid (MAt w.heap.size (stAt (s.data.toList.take k)) wr) ∧ Hid (I k wr)) (fun i _ => s.size - (intOf i).toNat)
  case atStart => exact ⟨0, Nat.zero_le _, rfl, hide ⟨by rw [World.cell?_alloc_at _ _ _ _ rfl]; rfl, by rw [World.cell?_alloc_at _ _ _ _ rfl]; rfl, by rw [World.cell?_alloc_at _ _ _ _ rfl]; rfl, fun i => World.frozen?_alloc_at _ _ _ _ rfl⟩, hide h0⟩
  case round =>
    obtain ⟨k, hk, rfl, HM, HI⟩ := hrel
    by_cases hlt : k < s.size
    · have HT := fun (w1 : World) (h : MAt w.heap.size (stAt (s.data.toList.take k)) w1) (hi : I k w1) => hide (take_any w.heap.size (stAt (s.data.toList.take k)) s[k] (I k) (hI k) w1 h hi (Nat.le_trans (stAt_r s k hk) (Nat.le_trans hk (Nat.le_trans hs (by decide)))))
      have HS := hide (hstep k hlt)
      have hst : Hid ((takeB (stAt (s.data.toList.take k)) s[k]).2 = stAt (s.data.toList.take (k + 1))) := hide (by rw [take_snoc s k hlt, stAt_snoc])
      have HD := hide hD
      clear hI hstep h0 hD
      go_wp2_with fail
      go_region_with (first
        | (refine (HT _ HM.out.drew (HD.out _ _ HI.out)).out.mono ?_; rintro e w1 ⟨rfl, hm1, hi1⟩; have HM1 := hide hm1; have HI1 := hide hi1; clear hm1 hi1)
        | (refine (HS.out _ HI1.out).mono ?_; rintro e w2 ⟨rfl, hi2, hm2⟩; have HM2 := hide (HM1.out.block hm2); have HI2 := hide hi2; clear hi2 hm2))
      all_goals
        rw [hst.out] at HM2
        go_wp2_with fail
        go_round
        case rel => exact ⟨k + 1, by omega, by go_num, HM2, HI2⟩
        case measure => simp [intOf]; omega
    · have hk2 : k = s.size := by omega
      subst hk2
      have HE : Hid (I s.size wr) := HI
      go_wp2_with fail
      go_end0
      exact ⟨rfl, HE.out⟩
set_option maxHeartbeats 1600000 in
theorem walk_remarked (s : ByteArray) (cap : Array Value) (w : World) (I : Nat → World → Prop) (hs : s.size ≤ 1048576)
    (h0 : I 0 (w.alloc (.cells #[.bool false, .int .i64 0, .bool false] 105)))
    (hI : ∀ k w' i v, I k w' → I k (w'.setCell ⟨w.heap.size, i, none⟩ v)) (hD : ∀ k w', I k w' → I k w'.drew)
    (hstep : ∀ k (h : k < s.size) w', I k w' → Calls Tryz.prog 104 (#[.int .i64 k, .int .u8 s[k].toNat, .int .i64 (placeAt s k h)] ++ cap) w' fun e w2 => e = .returned (.tuple #[]) ∧ I (k + 1) w2 ∧ w2.heap[w.heap.size]? = w'.heap[w.heap.size]?) :
    Calls Tryz.prog 62 #[.string s, .func (.func 104) #[] cap] w fun e w' => e = .returned (.tuple #[]) ∧ I s.size w' := by
  go_enter Tryz.func62, Tryz.ntmps62
  go_wp2_with fail
  go_loopw [8] (fun i wr => ∃ k : Nat, k ≤ s.size ∧ i = .int .i64 k ∧ Hid (MAt w.heap.size (stAt (s.data.toList.take k)) wr) ∧ Hid (I k wr)) (fun i _ => s.size - (intOf i).toNat)
  case atStart => exact ⟨0, Nat.zero_le _, rfl, hide ⟨by rw [World.cell?_alloc_at _ _ _ _ rfl]; rfl, by rw [World.cell?_alloc_at _ _ _ _ rfl]; rfl, by rw [World.cell?_alloc_at _ _ _ _ rfl]; rfl, fun i => World.frozen?_alloc_at _ _ _ _ rfl⟩, hide h0⟩
  case round =>
    obtain ⟨k, hk, rfl, HM, HI⟩ := hrel
    by_cases hlt : k < s.size
    · have HT := fun (w1 : World) (h : MAt w.heap.size (stAt (s.data.toList.take k)) w1) (hi : I k w1) => hide (take_any w.heap.size (stAt (s.data.toList.take k)) s[k] (I k) (hI k) w1 h hi (Nat.le_trans (stAt_r s k hk) (Nat.le_trans hk (Nat.le_trans hs (by decide)))))
      have HS := hide (hstep k hlt)
      have hst : Hid ((takeB (stAt (s.data.toList.take k)) s[k]).2 = stAt (s.data.toList.take (k + 1))) := hide (by rw [take_snoc s k hlt, stAt_snoc])
      have HD := hide hD
      clear hI hstep h0 hD
      go_wp2_with fail
      go_region_with (first
        | (refine (HT _ HM.out.drew (HD.out _ _ HI.out)).out.mono ?_; rintro e w1 ⟨rfl, hm1, hi1⟩; have HM1 := hide hm1; have HI1 := hide hi1; clear hm1 hi1)
        | (refine (HS.out _ HI1.out).mono ?_; rintro e w2 ⟨rfl, hi2, hm2⟩; have HM2 := hide (HM1.out.block hm2); have HI2 := hide hi2; clear hi2 hm2))
      all_goals
        rw [hst.out] at HM2
        go_wp2_with fail
        go_round
        case rel => exact ⟨k + 1, by omega, by go_num, HM2, HI2⟩
        case measure => simp [intOf]; omega
    · have hk2 : k = s.size := by omega
      subst hk2
      have HE : Hid (I s.size wr) := HI
      go_wp2_with fail
      go_end0
      exact ⟨rfl, HE.out⟩
end Go.Proofs.YtnckbdkofbhilaaGreatDoor
