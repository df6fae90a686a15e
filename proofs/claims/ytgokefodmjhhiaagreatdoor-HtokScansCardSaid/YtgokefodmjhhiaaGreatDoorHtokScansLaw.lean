/- WALK of the law HtokScans. Written by wip/tools/htoklaws.py. No statement is proved here. Own work of the verifier. -/
import Derived.Test.YtgokefodmjhhiaaGreatDoorRef13L
import Derived.Test.YtgokefodmjhhiaaGreatDoorHtokQ
import Derived.Test.YtgokefodmjhhiaaGreatDoorRef13K
import Derived.Test.YtgokefodmjhhiaaGreatDoorRef13R
import Derived.Test.YtgokefodmjhhiaaGreatDoorRef13S
namespace Go.Proofs.YtgokefodmjhhiaaGreatDoor
open Go.RowKit
set_option linter.unusedVariables false
set_option linter.unusedSimpArgs false
set_option maxRecDepth 100000
set_option maxHeartbeats 8000000 in
theorem law_HtokScans (s : ByteArray) (hss : s.size ≤ maxLen) (w : World) (hE : EnvX w) :
    Calls Tryz.prog 3 #[.string s] w fun e w' => e = .returned (.bool true) ∧ Below w.heap.size w w' := by
  have HE := hide hE
  clear hE
  unfold maxLen at hss
  rcases Nat.lt_or_ge 1500 s.size with hqs | hs
  · have t0 : decide ((1500 : Int) < s.size) = true := decide_eq_true (by omega)
    go_enter Tryz.func3, Tryz.ntmps3
    go_wp2_with fail
    refine (live13_any _ HE.out).mono ?_
    rintro e wl ⟨rfl, hbl⟩
    have HBL := hide (hbl)
    clear hbl
    go_wp2_with fail
    go_ret
    exact ⟨rfl, HBL.out⟩
  have t0 : decide ((1500 : Int) < s.size) = false := decide_eq_false (by omega)
  obtain ⟨m, hm⟩ := HE.out.2
  have HSC := hide (scan_any s m w (by omega) HE.out.1 hm)
  have HSR := hide (fun w2 => scan13_any s w2 (by omega))
  have HRW := hide (rawW_any s)
  have HRR := hide (raw13_any s)
  obtain ⟨R, hR⟩ : ∃ R, R = rawL.contains s.data.toList := ⟨_, rfl⟩
  obtain ⟨G, hG⟩ : ∃ G, G = scanL decE [] [] s.data.toList := ⟨_, rfl⟩
  obtain ⟨f1, f2⟩ := scan_forms decE _ s.data.toList [] [] (Nat.le_refl _) ⟨fun t ht => (by simp at ht), fun i a b ha => (by simp at ha)⟩ (fun t ht => (by simp at ht))
  rw [toList_length] at f2
  rw [← hR] at HRW HRR
  rw [← hG] at HSC HSR f1 f2
  have HF := hide (fun t ht => (f1.1 t ht).2.2.1)
  have HGL : Hid (G.length ≤ 2000) := hide (by have : sz1 [] = 0 := rfl; simp only [List.length_nil] at f2; omega)
  have tRR : (R == R) = true := beq_self_eq_true _
  clear hm hR hG f1 f2
  go_enter Tryz.func3, Tryz.ntmps3
  go_wp2_with fail
  refine HSC.out.mono ?_
  rintro e w1 ⟨v, vs, rfl, ht, hm, hb⟩
  obtain ⟨A, c, rfl⟩ := ht.slice_len
  have HE1 := hide (HE.out.kept hb)
  have HT := hide ht.in
  have HM := hide hm
  have HB1 := hide hb
  clear ht hm hb
  go_wp2_with fail
  refine (HSR.out w1).mono ?_
  rintro e w2 ⟨v2, vs2, rfl, ht2, hm2, hb2⟩
  obtain ⟨A2, c2, rfl⟩ := ht2.slice_len
  have HT2 := hide ht2.in
  have HTT := hide (HT.out.kept hb2)
  have HB2 := hide (HB1.out.trans (hb2.mono HB1.out.size))
  have HE2 := hide (HE.out.kept HB2.out)
  rw [hm2] at HT2
  rw [HM.out] at HTT
  have HSM := hide (same13_any _ _ _ _ w2 HTT.out HT2.out (by rw [List.length_map]; have := HGL.out; omega) (fun p hp => by
    obtain ⟨z, hz, rfl⟩ := List.mem_map.1 hp
    exact Nat.le_trans (HF.out z hz) (by decide)))
  rw [decide_eq_true rfl] at HSM
  clear ht2 hm2 hb2
  go_wp2_with fail
  refine HSM.out.mono ?_
  rintro e w3 ⟨rfl, hw3⟩
  have HB3 := hide (HB2.out.trans ((below_of13 hw3).mono HB2.out.size))
  have HE3 := hide (HE.out.kept HB3.out)
  clear hw3
  go_wp2_with fail
  refine (HRW.out w3).mono ?_
  rintro e w4 ⟨rfl, rfl⟩
  go_wp2_with fail
  refine (HRR.out _).mono ?_
  rintro e w5 ⟨rfl, rfl⟩
  go_wp2_with fail
  refine (live13_any _ HE3.out).mono ?_
  rintro e wl ⟨rfl, hbl⟩
  have HBL := hide (HB3.out.trans (hbl.mono HB3.out.size))
  clear hbl
  go_wp2_with fail
  go_ret
  exact ⟨rfl, HBL.out⟩
end Go.Proofs.YtgokefodmjhhiaaGreatDoor
