/- WALK of addr.readBox. No statement is proved here. -/
import Derived.Test.YtnckbdkofbhilaaGreatDoorBaseN
import Derived.Test.YtnckbdkofbhilaaGreatDoorWordD
namespace Go.Proofs.YtnckbdkofbhilaaGreatDoor
open Go.RowKit
set_option linter.unusedVariables false
set_option linter.unusedSimpArgs false
set_option maxRecDepth 100000
def tr4 (l : List UInt8) : List UInt8 := Lib.trimS l [32, 9, 10, 13]
theorem trim4_any (s : ByteArray) (w : World) (hs : s.size ≤ maxLen) :
    Calls Tryz.prog 65 #[.string s, .string ⟨#[32, 9, 10, 13]⟩] w fun e w' => e = .returned (.string (str (tr4 s.data.toList))) ∧ Below w.heap.size w w' :=
  Any.strings_Trim_laid Tryz.lays160 (by kernel_rfl) s ⟨#[32, 9, 10, 13]⟩ w (by unfold maxLen at hs; omega) (by decide) (ascii_of_all (by decide))
theorem tr4_length (l : List UInt8) : (tr4 l).length ≤ l.length := trimS_length l _
theorem unpairL_length : ∀ l : List UInt8, (unpairL l).length ≤ l.length
  | [] => by rw [unpairL]; exact Nat.le_refl _
  | [c] => by rw [unpairL]; exact Nat.le_refl _
  | c :: d :: r => by
    rw [unpairL]
    split
    · have := unpairL_length r; simp only [List.length_cons]; omega
    · have := unpairL_length (d :: r); simp only [List.length_cons] at this ⊢; omega
theorem angOut_size (s : ByteArray) : (angOut s).1.size ≤ s.size ∧ (angOut s).2.1.size ≤ s.size := by
  unfold angOut
  split
  · exact ⟨Nat.zero_le _, Nat.zero_le _⟩
  · rename_i b y _
    refine ⟨?_, ?_⟩
    · show (s.extract 0 b).size ≤ _
      rw [ByteArray.size_extract]; omega
    · show (s.extract (b + 1) (y.getD s.size)).size ≤ _
      rw [ByteArray.size_extract]; omega
/-- the name and the address as they stand -/
def nmOut (s : ByteArray) : List UInt8 × List UInt8 :=
  if (angOut s).2.2 then ((if 0 < (readQ (tr4 (angOut s).1.data.toList)).2 then (readQ (tr4 (angOut s).1.data.toList)).1 else tr4 (angOut s).1.data.toList), (angOut s).2.1.data.toList)
  else (tr4 (rmOut s).1, (rmOut s).2)
def readBoxL (s : ByteArray) : List UInt8 × List UInt8 :=
  (decW false [] (nmOut s).1, if goodL (tr4 (nmOut s).2) then tr4 (nmOut s).2 else [])
def boxV (b : List UInt8 × List UInt8) : Value := .agg #[.string (str b.1), .string (str b.2)]
set_option maxHeartbeats 3200000 in
theorem readBox_any (s : ByteArray) (w : World) (hs : s.size ≤ 1048576) (hT : Tab w) :
    Calls Tryz.prog 36 #[.string s] w fun e w' => e = .returned (boxV (readBoxL s)) ∧ Below w.heap.size w w' := by
  have HT : Hid (Tab (w.alloc (.cells #[.string ⟨#[]⟩, .string ⟨#[]⟩] 32))) := hide (hT.below ((Below.refl w.heap.size w).alloc (Nat.le_refl _) _) hT.lt)
  have HTL : Hid (3 < (w.alloc (.cells #[.string ⟨#[]⟩, .string ⟨#[]⟩] 32)).heap.size) := hide HT.out.lt
  have K1 : Hid (Below (w.alloc (.cells #[.string ⟨#[]⟩, .string ⟨#[]⟩] 32)).heap.size (w.alloc (.cells #[.string ⟨#[]⟩, .string ⟨#[]⟩] 32)) (w.alloc (.cells #[.string ⟨#[]⟩, .string ⟨#[]⟩] 32))) := hide (Below.refl _ _)
  have KF : Hid (∀ w' D M, Below (w.alloc (.cells #[.string ⟨#[]⟩, .string ⟨#[]⟩] 32)).heap.size (w.alloc (.cells #[.string ⟨#[]⟩, .string ⟨#[]⟩] 32)) w' → Below w.heap.size w ((w'.setCell ⟨w.heap.size, 0, none⟩ D).setCell ⟨w.heap.size, 1, none⟩ M)) :=
    hide fun w' D M h => (((Below.refl w.heap.size w).alloc (Nat.le_refl _) _).trans (h.mono (by rw [World.size_alloc]; exact Nat.le_succ _))).setCell (Nat.le_refl _) _ |>.setCell (Nat.le_refl _) _
  have KR : Hid (∀ w', Below (w.alloc (.cells #[.string ⟨#[]⟩, .string ⟨#[]⟩] 32)).heap.size (w.alloc (.cells #[.string ⟨#[]⟩, .string ⟨#[]⟩] 32)) w' → w'.heap[w.heap.size]? = some (.cells #[.string ⟨#[]⟩, .string ⟨#[]⟩] 32)) :=
    hide fun w' h => (h.block w.heap.size (by rw [World.size_alloc]; exact Nat.lt_succ_self _)).trans (heap_alloc_new w _)
  have CA := fun w1 => hide (angled_any s w1 hs)
  have CR := fun w1 => hide (remarked_any s w1 hs)
  obtain ⟨z1, z2⟩ := angOut_size s
  have z3 : (rmOut s).1.length ≤ s.size := Nat.le_trans (unpairL_length _) (rmAt_bd s s.size).2.2
  have z4 : (rmOut s).2.length ≤ s.size := (rmAt_bd s s.size).2.1
  have HN : Hid (nmOut s = if (angOut s).2.2 then ((if 0 < (readQ (tr4 (angOut s).1.data.toList)).2 then (readQ (tr4 (angOut s).1.data.toList)).1 else tr4 (angOut s).1.data.toList), (angOut s).2.1.data.toList) else (tr4 (rmOut s).1, (rmOut s).2)) := hide rfl
  have HR : Hid (readBoxL s = (decW false [] (nmOut s).1, if goodL (tr4 (nmOut s).2) then tr4 (nmOut s).2 else [])) := hide rfl
  obtain ⟨⟨a0, m0, is⟩, hA⟩ : ∃ A, angOut s = A := ⟨_, rfl⟩
  obtain ⟨⟨x0, y0⟩, hB⟩ : ∃ A, rmOut s = A := ⟨_, rfl⟩
  rw [hA] at CA HN z1 z2
  rw [hB] at CR HN z3 z4
  clear hA hB
  have KZ : ∀ w2 : World, w2.heap[w.heap.size]? = some (.cells #[.string ⟨#[]⟩, .string ⟨#[]⟩] 32) → ∀ i, w2.frozen? ⟨w.heap.size, i, none⟩ = false := fun w2 h i => by unfold World.frozen?; rw [h]; simp
  cases is with
  | true =>
    have CT1 := fun w1 => hide (trim4_any a0 w1 (Nat.le_trans z1 (Nat.le_trans hs (by decide))))
    have CT2 := fun w1 => hide (trim4_any m0 w1 (Nat.le_trans z2 (Nat.le_trans hs (by decide))))
    have zA : (tr4 a0.data.toList).length ≤ 1048576 := Nat.le_trans (tr4_length _) (Nat.le_trans (by rw [toList_length]; exact z1) hs)
    have zM : (tr4 m0.data.toList).length ≤ 1048576 := Nat.le_trans (tr4_length _) (Nat.le_trans (by rw [toList_length]; exact z2) hs)
    obtain ⟨a1, ha1⟩ : ∃ a1, tr4 a0.data.toList = a1 := ⟨_, rfl⟩
    obtain ⟨m1, hm1⟩ : ∃ m1, tr4 m0.data.toList = m1 := ⟨_, rfl⟩
    rw [ha1] at CT1 HN zA
    rw [hm1] at CT2 zM
    have CQ := fun w1 => hide (readQ_any (str a1) w1 (by rw [str_size]; exact Nat.le_trans zA (by decide)))
    rw [str_toList] at CQ
    have zq := (readQ_le a1).1
    obtain ⟨⟨q, nq⟩, hq⟩ : ∃ A, readQ a1 = A := ⟨_, rfl⟩
    rw [hq] at CQ HN zq
    simp only [readV] at CQ
    have HM2 : Hid ((nmOut s).2 = m0.data.toList) := hide (by rw [HN.out]; rfl)
    have CG := fun w1 => hide (good_any (str m1) w1 (by rw [str_size]; exact zM))
    rw [str_toList] at CG
    clear CR
    by_cases hn : 0 < nq
    · have HN1 : Hid ((nmOut s).1 = q) := hide (by rw [HN.out]; simp [hn])
      have t1 : decide (0 < nq) = true := decide_eq_true hn
      have t2 : decide ((nq : Int) > 0) = true := decide_eq_true (by omega)
      have CD := fun w1 h => hide (wordDecode_any (str q) w1 (by rw [str_size]; exact Nat.le_trans zq zA) h)
      rw [str_toList] at CD
      obtain ⟨D, hD⟩ : ∃ D, decW false [] q = D := ⟨_, rfl⟩
      rw [hD] at CD
      cases hg : goodL m1 with
      | true =>
        rw [hg] at CG
        have HV : Hid (readBoxL s = (D, m1)) := hide (by rw [HR.out, HN1.out, HM2.out, hm1, hg, hD]; rfl)
        clear hs hT z1 z2 z3 z4 zA zM hg hD hm1 ha1 HN HR HN1 HM2 zq hn hq
        go_enter Tryz.func36, Tryz.ntmps36
        go_wp2_with (first
          | (go_at_call 64; with_reducible refine (CA _).out.mono ?_; rintro e w2 ⟨rfl, hb⟩; have K2 := hide (K1.out.trans (hb.mono K1.out.size)); clear hb)
          | (go_at_call 65; with_reducible refine (CT1 _).out.mono ?_; rintro e w3 ⟨rfl, hb⟩; have K3 := hide (K2.out.trans (hb.mono K2.out.size)); clear hb)
          | (go_at_call 66; with_reducible refine (CQ _).out.mono ?_; rintro e w4 ⟨rfl, hb⟩; have K4 := hide (K3.out.trans (hb.mono K3.out.size)); clear hb)
          | (go_at_call 65; with_reducible refine (CT2 _).out.mono ?_; rintro e w5 ⟨rfl, hb⟩; have K5 := hide (K4.out.trans (hb.mono K4.out.size)); clear hb)
          | (go_at_call 20; with_reducible refine (CG _).out.mono ?_; rintro e w6 ⟨rfl, hb⟩; have K6 := hide (K5.out.trans (hb.mono K5.out.size)); clear hb)
          | (go_at_call 68; with_reducible refine (CD _ (HT.out.below K6.out HTL.out)).out.mono ?_; rintro e w7 ⟨rfl, hb⟩; have K7 := hide (K6.out.trans (hb.mono K6.out.size)); have kr := KR.out _ K7.out; have KW := hide kr; have k0 := cell_of_row w7 w.heap.size 0 _ _ _ kr; have k1 := cell_of_row w7 w.heap.size 1 _ _ _ kr; have k2 := KZ w7 kr; clear kr; clear hb))
        have r0 : ((w7.setCell ⟨w.heap.size, 0, none⟩ (.string (str D))).setCell ⟨w.heap.size, 1, none⟩ (.string (str m1))).heap[w.heap.size]? = some (.cells #[.string (str D), .string (str m1)] 32 (0, 0)) := cells_set8 _ (cells_set8 _ KW.out)
        refine bodyPost_ret (results_cell_row rfl _ _ w.heap.size _ _ _ _ rfl r0 Tryz.underlying32 rfl (by kernel_rfl)) rfl ?_
        exact ⟨by rw [HV.out]; rfl, KF.out _ _ _ K7.out⟩
      | false =>
        rw [hg] at CG
        have HV : Hid (readBoxL s = (D, [])) := hide (by rw [HR.out, HN1.out, HM2.out, hm1, hg, hD]; rfl)
        clear hs hT z1 z2 z3 z4 zA zM hg hD hm1 ha1 HN HR HN1 HM2 zq hn hq
        go_enter Tryz.func36, Tryz.ntmps36
        go_wp2_with (first
          | (go_at_call 64; with_reducible refine (CA _).out.mono ?_; rintro e w2 ⟨rfl, hb⟩; have K2 := hide (K1.out.trans (hb.mono K1.out.size)); clear hb)
          | (go_at_call 65; with_reducible refine (CT1 _).out.mono ?_; rintro e w3 ⟨rfl, hb⟩; have K3 := hide (K2.out.trans (hb.mono K2.out.size)); clear hb)
          | (go_at_call 66; with_reducible refine (CQ _).out.mono ?_; rintro e w4 ⟨rfl, hb⟩; have K4 := hide (K3.out.trans (hb.mono K3.out.size)); clear hb)
          | (go_at_call 65; with_reducible refine (CT2 _).out.mono ?_; rintro e w5 ⟨rfl, hb⟩; have K5 := hide (K4.out.trans (hb.mono K4.out.size)); clear hb)
          | (go_at_call 20; with_reducible refine (CG _).out.mono ?_; rintro e w6 ⟨rfl, hb⟩; have K6 := hide (K5.out.trans (hb.mono K5.out.size)); clear hb)
          | (go_at_call 68; with_reducible refine (CD _ (HT.out.below K6.out HTL.out)).out.mono ?_; rintro e w7 ⟨rfl, hb⟩; have K7 := hide (K6.out.trans (hb.mono K6.out.size)); have kr := KR.out _ K7.out; have KW := hide kr; have k0 := cell_of_row w7 w.heap.size 0 _ _ _ kr; have k1 := cell_of_row w7 w.heap.size 1 _ _ _ kr; have k2 := KZ w7 kr; clear kr; clear hb))
        have r0 : ((w7.setCell ⟨w.heap.size, 0, none⟩ (.string (str D))).setCell ⟨w.heap.size, 1, none⟩ (.string ⟨#[]⟩)).heap[w.heap.size]? = some (.cells #[.string (str D), .string ⟨#[]⟩] 32 (0, 0)) := cells_set8 _ (cells_set8 _ KW.out)
        refine bodyPost_ret (results_cell_row rfl _ _ w.heap.size _ _ _ _ rfl r0 Tryz.underlying32 rfl (by kernel_rfl)) rfl ?_
        exact ⟨by rw [HV.out]; rfl, KF.out _ _ _ K7.out⟩
    · have HN1 : Hid ((nmOut s).1 = a1) := hide (by rw [HN.out]; simp [hn])
      have t1 : decide (0 < nq) = false := decide_eq_false hn
      have t2 : decide ((nq : Int) > 0) = false := decide_eq_false (by omega)
      have CD := fun w1 h => hide (wordDecode_any (str a1) w1 (by rw [str_size]; exact zA) h)
      rw [str_toList] at CD
      obtain ⟨D, hD⟩ : ∃ D, decW false [] a1 = D := ⟨_, rfl⟩
      rw [hD] at CD
      cases hg : goodL m1 with
      | true =>
        rw [hg] at CG
        have HV : Hid (readBoxL s = (D, m1)) := hide (by rw [HR.out, HN1.out, HM2.out, hm1, hg, hD]; rfl)
        clear hs hT z1 z2 z3 z4 zA zM hg hD hm1 ha1 HN HR HN1 HM2 zq hn hq
        go_enter Tryz.func36, Tryz.ntmps36
        go_wp2_with (first
          | (go_at_call 64; with_reducible refine (CA _).out.mono ?_; rintro e w2 ⟨rfl, hb⟩; have K2 := hide (K1.out.trans (hb.mono K1.out.size)); clear hb)
          | (go_at_call 65; with_reducible refine (CT1 _).out.mono ?_; rintro e w3 ⟨rfl, hb⟩; have K3 := hide (K2.out.trans (hb.mono K2.out.size)); clear hb)
          | (go_at_call 66; with_reducible refine (CQ _).out.mono ?_; rintro e w4 ⟨rfl, hb⟩; have K4 := hide (K3.out.trans (hb.mono K3.out.size)); clear hb)
          | (go_at_call 65; with_reducible refine (CT2 _).out.mono ?_; rintro e w5 ⟨rfl, hb⟩; have K5 := hide (K4.out.trans (hb.mono K4.out.size)); clear hb)
          | (go_at_call 20; with_reducible refine (CG _).out.mono ?_; rintro e w6 ⟨rfl, hb⟩; have K6 := hide (K5.out.trans (hb.mono K5.out.size)); clear hb)
          | (go_at_call 68; with_reducible refine (CD _ (HT.out.below K6.out HTL.out)).out.mono ?_; rintro e w7 ⟨rfl, hb⟩; have K7 := hide (K6.out.trans (hb.mono K6.out.size)); have kr := KR.out _ K7.out; have KW := hide kr; have k0 := cell_of_row w7 w.heap.size 0 _ _ _ kr; have k1 := cell_of_row w7 w.heap.size 1 _ _ _ kr; have k2 := KZ w7 kr; clear kr; clear hb))
        have r0 : ((w7.setCell ⟨w.heap.size, 0, none⟩ (.string (str D))).setCell ⟨w.heap.size, 1, none⟩ (.string (str m1))).heap[w.heap.size]? = some (.cells #[.string (str D), .string (str m1)] 32 (0, 0)) := cells_set8 _ (cells_set8 _ KW.out)
        refine bodyPost_ret (results_cell_row rfl _ _ w.heap.size _ _ _ _ rfl r0 Tryz.underlying32 rfl (by kernel_rfl)) rfl ?_
        exact ⟨by rw [HV.out]; rfl, KF.out _ _ _ K7.out⟩
      | false =>
        rw [hg] at CG
        have HV : Hid (readBoxL s = (D, [])) := hide (by rw [HR.out, HN1.out, HM2.out, hm1, hg, hD]; rfl)
        clear hs hT z1 z2 z3 z4 zA zM hg hD hm1 ha1 HN HR HN1 HM2 zq hn hq
        go_enter Tryz.func36, Tryz.ntmps36
        go_wp2_with (first
          | (go_at_call 64; with_reducible refine (CA _).out.mono ?_; rintro e w2 ⟨rfl, hb⟩; have K2 := hide (K1.out.trans (hb.mono K1.out.size)); clear hb)
          | (go_at_call 65; with_reducible refine (CT1 _).out.mono ?_; rintro e w3 ⟨rfl, hb⟩; have K3 := hide (K2.out.trans (hb.mono K2.out.size)); clear hb)
          | (go_at_call 66; with_reducible refine (CQ _).out.mono ?_; rintro e w4 ⟨rfl, hb⟩; have K4 := hide (K3.out.trans (hb.mono K3.out.size)); clear hb)
          | (go_at_call 65; with_reducible refine (CT2 _).out.mono ?_; rintro e w5 ⟨rfl, hb⟩; have K5 := hide (K4.out.trans (hb.mono K4.out.size)); clear hb)
          | (go_at_call 20; with_reducible refine (CG _).out.mono ?_; rintro e w6 ⟨rfl, hb⟩; have K6 := hide (K5.out.trans (hb.mono K5.out.size)); clear hb)
          | (go_at_call 68; with_reducible refine (CD _ (HT.out.below K6.out HTL.out)).out.mono ?_; rintro e w7 ⟨rfl, hb⟩; have K7 := hide (K6.out.trans (hb.mono K6.out.size)); have kr := KR.out _ K7.out; have KW := hide kr; have k0 := cell_of_row w7 w.heap.size 0 _ _ _ kr; have k1 := cell_of_row w7 w.heap.size 1 _ _ _ kr; have k2 := KZ w7 kr; clear kr; clear hb))
        have r0 : ((w7.setCell ⟨w.heap.size, 0, none⟩ (.string (str D))).setCell ⟨w.heap.size, 1, none⟩ (.string ⟨#[]⟩)).heap[w.heap.size]? = some (.cells #[.string (str D), .string ⟨#[]⟩] 32 (0, 0)) := cells_set8 _ (cells_set8 _ KW.out)
        refine bodyPost_ret (results_cell_row rfl _ _ w.heap.size _ _ _ _ rfl r0 Tryz.underlying32 rfl (by kernel_rfl)) rfl ?_
        exact ⟨by rw [HV.out]; rfl, KF.out _ _ _ K7.out⟩
  | false =>
    have CT1 := fun w1 => hide (trim4_any (str x0) w1 (by rw [str_size]; exact Nat.le_trans z3 (Nat.le_trans hs (by decide))))
    have CT2 := fun w1 => hide (trim4_any (str y0) w1 (by rw [str_size]; exact Nat.le_trans z4 (Nat.le_trans hs (by decide))))
    rw [str_toList] at CT1 CT2
    have zA : (tr4 x0).length ≤ 1048576 := Nat.le_trans (tr4_length _) (Nat.le_trans z3 hs)
    have zM : (tr4 y0).length ≤ 1048576 := Nat.le_trans (tr4_length _) (Nat.le_trans z4 hs)
    have HN1 : Hid ((nmOut s).1 = tr4 x0) := hide (by rw [HN.out]; rfl)
    have HM2 : Hid ((nmOut s).2 = y0) := hide (by rw [HN.out]; rfl)
    obtain ⟨a1, ha1⟩ : ∃ a1, tr4 x0 = a1 := ⟨_, rfl⟩
    obtain ⟨m1, hm1⟩ : ∃ m1, tr4 y0 = m1 := ⟨_, rfl⟩
    rw [ha1] at CT1 HN1 zA
    rw [hm1] at CT2 zM
    have CG := fun w1 => hide (good_any (str m1) w1 (by rw [str_size]; exact zM))
    rw [str_toList] at CG
    have CD := fun w1 h => hide (wordDecode_any (str a1) w1 (by rw [str_size]; exact zA) h)
    rw [str_toList] at CD
    obtain ⟨D, hD⟩ : ∃ D, decW false [] a1 = D := ⟨_, rfl⟩
    rw [hD] at CD
    cases hg : goodL m1 with
    | true =>
      rw [hg] at CG
      have HV : Hid (readBoxL s = (D, m1)) := hide (by rw [HR.out, HN1.out, HM2.out, hm1, hg, hD]; rfl)
      clear hs hT z1 z2 z3 z4 zA zM hg hD hm1 ha1 HN HR HN1 HM2 
      go_enter Tryz.func36, Tryz.ntmps36
      go_wp2_with (first
        | (go_at_call 64; with_reducible refine (CA _).out.mono ?_; rintro e w2 ⟨rfl, hb⟩; have K2 := hide (K1.out.trans (hb.mono K1.out.size)); clear hb)
        | (go_at_call 67; with_reducible refine (CR _).out.mono ?_; rintro e w3 ⟨rfl, hb⟩; have K3 := hide (K2.out.trans (hb.mono K2.out.size)); clear hb)
        | (go_at_call 65; with_reducible refine (CT1 _).out.mono ?_; rintro e w4 ⟨rfl, hb⟩; have K4 := hide (K3.out.trans (hb.mono K3.out.size)); clear hb)
        | (go_at_call 65; with_reducible refine (CT2 _).out.mono ?_; rintro e w5 ⟨rfl, hb⟩; have K5 := hide (K4.out.trans (hb.mono K4.out.size)); clear hb)
        | (go_at_call 20; with_reducible refine (CG _).out.mono ?_; rintro e w6 ⟨rfl, hb⟩; have K6 := hide (K5.out.trans (hb.mono K5.out.size)); clear hb)
        | (go_at_call 68; with_reducible refine (CD _ (HT.out.below K6.out HTL.out)).out.mono ?_; rintro e w7 ⟨rfl, hb⟩; have K7 := hide (K6.out.trans (hb.mono K6.out.size)); have kr := KR.out _ K7.out; have KW := hide kr; have k0 := cell_of_row w7 w.heap.size 0 _ _ _ kr; have k1 := cell_of_row w7 w.heap.size 1 _ _ _ kr; have k2 := KZ w7 kr; clear kr; clear hb))
      have r0 : ((w7.setCell ⟨w.heap.size, 0, none⟩ (.string (str D))).setCell ⟨w.heap.size, 1, none⟩ (.string (str m1))).heap[w.heap.size]? = some (.cells #[.string (str D), .string (str m1)] 32 (0, 0)) := cells_set8 _ (cells_set8 _ KW.out)
      refine bodyPost_ret (results_cell_row rfl _ _ w.heap.size _ _ _ _ rfl r0 Tryz.underlying32 rfl (by kernel_rfl)) rfl ?_
      exact ⟨by rw [HV.out]; rfl, KF.out _ _ _ K7.out⟩
    | false =>
      rw [hg] at CG
      have HV : Hid (readBoxL s = (D, [])) := hide (by rw [HR.out, HN1.out, HM2.out, hm1, hg, hD]; rfl)
      clear hs hT z1 z2 z3 z4 zA zM hg hD hm1 ha1 HN HR HN1 HM2 
      go_enter Tryz.func36, Tryz.ntmps36
      go_wp2_with (first
        | (go_at_call 64; with_reducible refine (CA _).out.mono ?_; rintro e w2 ⟨rfl, hb⟩; have K2 := hide (K1.out.trans (hb.mono K1.out.size)); clear hb)
        | (go_at_call 67; with_reducible refine (CR _).out.mono ?_; rintro e w3 ⟨rfl, hb⟩; have K3 := hide (K2.out.trans (hb.mono K2.out.size)); clear hb)
        | (go_at_call 65; with_reducible refine (CT1 _).out.mono ?_; rintro e w4 ⟨rfl, hb⟩; have K4 := hide (K3.out.trans (hb.mono K3.out.size)); clear hb)
        | (go_at_call 65; with_reducible refine (CT2 _).out.mono ?_; rintro e w5 ⟨rfl, hb⟩; have K5 := hide (K4.out.trans (hb.mono K4.out.size)); clear hb)
        | (go_at_call 20; with_reducible refine (CG _).out.mono ?_; rintro e w6 ⟨rfl, hb⟩; have K6 := hide (K5.out.trans (hb.mono K5.out.size)); clear hb)
        | (go_at_call 68; with_reducible refine (CD _ (HT.out.below K6.out HTL.out)).out.mono ?_; rintro e w7 ⟨rfl, hb⟩; have K7 := hide (K6.out.trans (hb.mono K6.out.size)); have kr := KR.out _ K7.out; have KW := hide kr; have k0 := cell_of_row w7 w.heap.size 0 _ _ _ kr; have k1 := cell_of_row w7 w.heap.size 1 _ _ _ kr; have k2 := KZ w7 kr; clear kr; clear hb))
      have r0 : ((w7.setCell ⟨w.heap.size, 0, none⟩ (.string (str D))).setCell ⟨w.heap.size, 1, none⟩ (.string ⟨#[]⟩)).heap[w.heap.size]? = some (.cells #[.string (str D), .string ⟨#[]⟩] 32 (0, 0)) := cells_set8 _ (cells_set8 _ KW.out)
      refine bodyPost_ret (results_cell_row rfl _ _ w.heap.size _ _ _ _ rfl r0 Tryz.underlying32 rfl (by kernel_rfl)) rfl ?_
      exact ⟨by rw [HV.out]; rfl, KF.out _ _ _ K7.out⟩
end Go.Proofs.YtnckbdkofbhilaaGreatDoor
