/- WALK of the law HtokWrites. Written by wip/tools/htoklaws.py. No statement is proved here. Own work of the verifier. -/
import Derived.Test.YtmojckphfbcibaaGreatDoorRef13L
import Derived.Test.YtmojckphfbcibaaGreatDoorRef13F
import Derived.Test.YtmojckphfbcibaaGreatDoorRef13W
namespace Go.Proofs.YtmojckphfbcibaaGreatDoor
open Go.RowKit
set_option linter.unusedVariables false
set_option linter.unusedSimpArgs false
set_option maxRecDepth 100000
set_option maxHeartbeats 8000000 in
theorem law_HtokWrites (v : Value) (l : List TokG) {w : World} (hl : ToksIn w v l) (hE : EnvX w) :
    Calls Tryz.prog 4 #[v] w fun e w' => e = .returned (.bool true) ∧ Below w.heap.size w w' := by
  have HE := hide hE
  have H0 := hide hl
  have HFEW := hide (few13_any v l w hl)
  obtain ⟨A, c, rfl⟩ := hl.form
  clear hE hl
  cases hf : fewG l with
  | false =>
    rw [hf] at HFEW
    clear hf
    go_enter Tryz.func4, Tryz.ntmps4
    go_wp2_with fail
    refine HFEW.out.mono ?_
    rintro e w0 ⟨rfl, rfl⟩
    go_wp2_with fail
    refine (live13_any _ HE.out).mono ?_
    rintro e wl ⟨rfl, hbl⟩
    have HBL := hide (hbl)
    clear hbl
    go_wp2_with fail
    go_ret
    exact ⟨rfl, HBL.out⟩
  | true =>
    rw [hf] at HFEW
    obtain ⟨hl60, hfit⟩ := fewG_len hf
    have HW := hide (write_any13 _ l w H0.out (by omega) hfit HE.out)
    have HR := hide (fun w2 h => refWrite13_any (.slice A l.length c) l w2 h (by omega) hfit)
    obtain ⟨S, hS⟩ : ∃ S, S = str (writeG l) := ⟨_, rfl⟩
    rw [← hS] at HW HR
    have tSS : (S.toList == S.toList) = true := beq_self_eq_true _
    obtain ⟨n, hn⟩ : ∃ n, l.length = n := ⟨_, rfl⟩
    rw [hn] at H0 HFEW HW HR ⊢
    clear hf hfit hn hS
    go_enter Tryz.func4, Tryz.ntmps4
    go_wp2_with fail
    refine HFEW.out.mono ?_
    rintro e w0 ⟨rfl, rfl⟩
    go_wp2_with fail
    refine HW.out.mono ?_
    rintro e w1 ⟨rfl, hb1⟩
    have HB1 := hide hb1
    clear hb1
    go_wp2_with fail
    refine (HR.out _ (H0.out.kept HB1.out)).mono ?_
    rintro e w2 ⟨rfl, hb2⟩
    have HB2 := hide (HB1.out.trans (hb2.mono HB1.out.size))
    have HE2 := hide (HE.out.kept HB2.out)
    clear hb2
    go_wp2_with fail
    refine (live13_any _ HE2.out).mono ?_
    rintro e wl ⟨rfl, hbl⟩
    have HBL := hide (HB2.out.trans (hbl.mono HB2.out.size))
    clear hbl
    go_wp2_with fail
    go_ret
    exact ⟨rfl, HBL.out⟩
end Go.Proofs.YtmojckphfbcibaaGreatDoor
