/- WALK of the law AddrWrites. No statement is proved here. -/
import Derived.Test.YtnckbdkofbhilaaGreatDoorRef08V
namespace Go.Proofs.YtnckbdkofbhilaaGreatDoor
open Go.RowKit
set_option linter.unusedVariables false
set_option linter.unusedSimpArgs false
set_option maxRecDepth 100000
set_option maxHeartbeats 4000000 in
theorem law_AddrWrites (v : Value) (l : List BoxL) {w : World} (hl : BoxesIn w v l) (hE : Env w) :
    Calls Tryz.prog 4 #[v] w fun e w' => e = .returned (.bool true) ∧ Below w.heap.size w w' := by
  obtain ⟨A, cap, rfl⟩ := hl.form
  have HE := hide hE
  have HL := hide hl
  clear hl hE
  cases hf_l : fewX l with
  | false =>
    go_enter Tryz.func4, Tryz.ntmps4
    go_wp2_with fail
    refine (few08_any _ l _ HL.out).mono ?_
    rintro e wq ⟨rfl, rfl⟩
    rw [hf_l]
    go_wp2_with fail
    refine (live8_any _ HE.out).mono ?_
    rintro e wl ⟨rfl, hbl⟩
    go_wp2_with fail
    go_ret
    exact ⟨rfl, hbl⟩
  | true =>
  obtain ⟨hz, hn, hj⟩ := few_sizes hf_l
  obtain ⟨_, m, hm⟩ := HE.out
  have CW := hide (addrWrite_any _ l m w HL.out hz hn (Nat.le_trans hj (by decide)) hm)
  have CR := fun w1 (h : BoxesIn w1 (.slice A l.length cap) l) => hide (refWrite_any _ l w1 h hf_l)
  clear hm hz hn hj
  obtain ⟨S, hS⟩ : ∃ S, str (writeAll l).1 = S := ⟨_, rfl⟩
  obtain ⟨E, hE2⟩ : ∃ E, (writeAll l).2 = E := ⟨_, rfl⟩
  rw [hS, hE2] at CW CR
  have q1 : (S.toList == S.toList) = true := beq_self_eq_true _
  have q2 : (E == E) = true := beq_self_eq_true _
  clear hS hE2
  go_enter Tryz.func4, Tryz.ntmps4
  go_wp2_with fail
  refine (few08_any _ l _ HL.out).mono ?_
  rintro e wq ⟨rfl, rfl⟩
  rw [hf_l]
  go_wp2_with fail
  refine CW.out.mono ?_
  rintro e w1 ⟨rfl, hb1⟩
  have K1 := hide hb1
  clear hb1
  go_wp2_with fail
  refine (CR _ (HL.out.kept K1.out)).out.mono ?_
  rintro e w2 ⟨rfl, hb2⟩
  have K2 := hide (K1.out.trans (hb2.mono K1.out.size))
  clear hb2
  go_wp2_with fail
  refine (live8_any _ (HE.out.kept K2.out)).mono ?_
  rintro e wl ⟨rfl, hbl⟩
  go_wp2_with fail
  go_ret
  exact ⟨rfl, K2.out.trans (hbl.mono K2.out.size)⟩
end Go.Proofs.YtnckbdkofbhilaaGreatDoor
