/- WALK of the law RulesAgain. No statement is proved here. Own work of the verifier. -/
import Derived.Test.YtklbdobofclofaaGreatDoorRulesC
namespace Go.Proofs.YtklbdobofclofaaGreatDoor
open Go.RowKit
set_option linter.unusedVariables false
set_option linter.unusedSimpArgs false
set_option maxRecDepth 100000
set_option maxHeartbeats 8000000 in
theorem law_RulesAgain (r s q : Bool) (A : Option Addr) (F : List FileL) (cap : Nat) (e n v : ByteArray) (w : World) (hF : FilesIn w (.slice A F.length cap) F) (hfm : F.length ≤ maxLen) (hn : n.size ≤ maxLen) (hv : v.size ≤ maxLen) (hE : EnvR w) :
    Calls Tryz.prog 5 #[.agg #[.bool r, .bool s, .bool q, .slice A F.length cap, .string e, .string n, .string v]] w fun x w' => x = .returned (.bool true) ∧ Below w.heap.size w w' := by
  have HE0 := hide hE
  have HF0 := hide hF
  have HFM := hide hfm
  have HN := hide hn
  have HV := hide hv
  clear hE hF hfm hn hv
  go_enter Tryz.func5, Tryz.ntmps5
  go_upto_region 1 with (fail)
  obtain ⟨w0, hw0⟩ : ∃ w0, w.alloc (.cells #[.bool r, .bool s, .bool q, .slice A F.length cap, .string e, .string n, .string v] 31) = w0 := ⟨_, rfl⟩
  have c0 : w0.cell? ⟨w.heap.size, 0, none⟩ = some (.bool r) := by rw [← hw0, World.cell?_alloc_at _ _ _ _ rfl]; rfl
  have c1 : w0.cell? ⟨w.heap.size, 1, none⟩ = some (.bool s) := by rw [← hw0, World.cell?_alloc_at _ _ _ _ rfl]; rfl
  have c2 : w0.cell? ⟨w.heap.size, 2, none⟩ = some (.bool q) := by rw [← hw0, World.cell?_alloc_at _ _ _ _ rfl]; rfl
  have c3 : w0.cell? ⟨w.heap.size, 3, none⟩ = some (.slice A F.length cap) := by rw [← hw0, World.cell?_alloc_at _ _ _ _ rfl]; rfl
  have c4 : w0.cell? ⟨w.heap.size, 4, none⟩ = some (.string e) := by rw [← hw0, World.cell?_alloc_at _ _ _ _ rfl]; rfl
  have c5 : w0.cell? ⟨w.heap.size, 5, none⟩ = some (.string n) := by rw [← hw0, World.cell?_alloc_at _ _ _ _ rfl]; rfl
  have c6 : w0.cell? ⟨w.heap.size, 6, none⟩ = some (.string v) := by rw [← hw0, World.cell?_alloc_at _ _ _ _ rfl]; rfl
  have hb0 : Below w.heap.size w w0 := by rw [← hw0]; exact alloc_below _ _
  have hz0 : w.heap.size < w0.heap.size := by rw [← hw0]; simp
  rw [hw0]
  clear hw0
  go_cut [3, 4, 5, 6] (fun s3 s4 s5 s6 wx => CaseSt w r s q A F cap e n v s3 s4 s5 s6 wx)
  case first =>
    have k0 : ∀ o, (w0.alloc o).cell? ⟨w.heap.size, 0, none⟩ = some (.bool r) := fun o => ((alloc_below w0 o).cell (p := ⟨w.heap.size, 0, none⟩) hz0).trans c0
    have k1 : ∀ o, (w0.alloc o).cell? ⟨w.heap.size, 1, none⟩ = some (.bool s) := fun o => ((alloc_below w0 o).cell (p := ⟨w.heap.size, 1, none⟩) hz0).trans c1
    have k2 : ∀ o, (w0.alloc o).cell? ⟨w.heap.size, 2, none⟩ = some (.bool q) := fun o => ((alloc_below w0 o).cell (p := ⟨w.heap.size, 2, none⟩) hz0).trans c2
    have k3 : ∀ o, (w0.alloc o).cell? ⟨w.heap.size, 3, none⟩ = some (.slice A F.length cap) := fun o => ((alloc_below w0 o).cell (p := ⟨w.heap.size, 3, none⟩) hz0).trans c3
    have k4 : ∀ o, (w0.alloc o).cell? ⟨w.heap.size, 4, none⟩ = some (.string e) := fun o => ((alloc_below w0 o).cell (p := ⟨w.heap.size, 4, none⟩) hz0).trans c4
    have k5 : ∀ o, (w0.alloc o).cell? ⟨w.heap.size, 5, none⟩ = some (.string n) := fun o => ((alloc_below w0 o).cell (p := ⟨w.heap.size, 5, none⟩) hz0).trans c5
    have k6 : ∀ o, (w0.alloc o).cell? ⟨w.heap.size, 6, none⟩ = some (.string v) := fun o => ((alloc_below w0 o).cell (p := ⟨w.heap.size, 6, none⟩) hz0).trans c6
    have p0 : ∀ o1 o2, ((w0.alloc o1).alloc o2).cell? ⟨w.heap.size, 0, none⟩ = some (.bool r) := fun o1 o2 => ((alloc_below _ o2).cell (p := ⟨w.heap.size, 0, none⟩) (Nat.lt_trans hz0 (by rw [World.size_alloc]; exact Nat.lt_succ_self _))).trans (k0 o1)
    have p1 : ∀ o1 o2, ((w0.alloc o1).alloc o2).cell? ⟨w.heap.size, 1, none⟩ = some (.bool s) := fun o1 o2 => ((alloc_below _ o2).cell (p := ⟨w.heap.size, 1, none⟩) (Nat.lt_trans hz0 (by rw [World.size_alloc]; exact Nat.lt_succ_self _))).trans (k1 o1)
    have p2 : ∀ o1 o2, ((w0.alloc o1).alloc o2).cell? ⟨w.heap.size, 2, none⟩ = some (.bool q) := fun o1 o2 => ((alloc_below _ o2).cell (p := ⟨w.heap.size, 2, none⟩) (Nat.lt_trans hz0 (by rw [World.size_alloc]; exact Nat.lt_succ_self _))).trans (k2 o1)
    have p3 : ∀ o1 o2, ((w0.alloc o1).alloc o2).cell? ⟨w.heap.size, 3, none⟩ = some (.slice A F.length cap) := fun o1 o2 => ((alloc_below _ o2).cell (p := ⟨w.heap.size, 3, none⟩) (Nat.lt_trans hz0 (by rw [World.size_alloc]; exact Nat.lt_succ_self _))).trans (k3 o1)
    have p4 : ∀ o1 o2, ((w0.alloc o1).alloc o2).cell? ⟨w.heap.size, 4, none⟩ = some (.string e) := fun o1 o2 => ((alloc_below _ o2).cell (p := ⟨w.heap.size, 4, none⟩) (Nat.lt_trans hz0 (by rw [World.size_alloc]; exact Nat.lt_succ_self _))).trans (k4 o1)
    have p5 : ∀ o1 o2, ((w0.alloc o1).alloc o2).cell? ⟨w.heap.size, 5, none⟩ = some (.string n) := fun o1 o2 => ((alloc_below _ o2).cell (p := ⟨w.heap.size, 5, none⟩) (Nat.lt_trans hz0 (by rw [World.size_alloc]; exact Nat.lt_succ_self _))).trans (k5 o1)
    have p6 : ∀ o1 o2, ((w0.alloc o1).alloc o2).cell? ⟨w.heap.size, 6, none⟩ = some (.string v) := fun o1 o2 => ((alloc_below _ o2).cell (p := ⟨w.heap.size, 6, none⟩) (Nat.lt_trans hz0 (by rw [World.size_alloc]; exact Nat.lt_succ_self _))).trans (k6 o1)
    go_region
    all_goals
      go_wp2_with fail
      go_meet
      first | exact caseSt1 hb0 | exact caseSt2 hb0
  obtain ⟨bp, ba, rfl, rfl, rfl, rfl, HP0, HA0, HB0⟩ := hcut
  have HP := hide HP0
  have HA := hide HA0
  have HB := hide HB0
  have HE := hide (HE0.out.kept HB.out)
  have HF := hide (HF0.out.kept HB.out)
  clear HP0 HA0 HB0 HE0 HF0 c0 c1 c2 c3 c4 c5 c6 hb0 hz0
  have HFEW := hide (fun w2 hf => few18_any (.slice A F.length cap) F n v w2 hf HFM.out HN.out HV.out)
  obtain ⟨p0, p1, p2⟩ := HP.out
  obtain ⟨a0, a1⟩ := HA.out
  cases hfb : fewB F n.data.toList v.data.toList with
  | false =>
    rw [hfb] at HFEW
    clear hfb
    go_wp2_with fail
    refine (HFEW.out _ HF.out).mono ?_
    rintro x w2 ⟨rfl, hb⟩
    clear p0 p1 p2 a0 a1
    have HP2 := hide (HP.out.kept hb)
    have HA2 := hide (HA.out.kept hb)
    obtain ⟨p0, p1, p2⟩ := HP2.out
    obtain ⟨a0, a1⟩ := HA2.out
    have HE2 := hide (HE.out.kept hb)
    have HF2 := hide (HF.out.kept hb)
    have HB2 := hide (HB.out.trans (hb.mono HB.out.size))
    clear hb
    go_wp2_with fail
    refine (live18_any _ HE2.out).mono ?_
    rintro x w9 ⟨rfl, hb⟩
    have HB9 := hide (HB2.out.trans (hb.mono HB2.out.size))
    clear hb
    go_wp2_with fail
    go_ret
    exact ⟨rfl, HB9.out⟩
  | true =>
    obtain ⟨f1, f2, f3, f4⟩ := few_facts hfb
    rw [toList_length] at f2 f3
    have HL := hide f1
    have HS := hide (show v.size ≤ 10000 by omega)
    have HZF : Hid (∀ f ∈ F, f.kind.length ≤ 10000) := hide (fun f hf => Nat.le_trans (f4 f hf) (by decide))
    have HV3 := hide f3
    rw [hfb] at HFEW
    clear hfb f1 f2 f3 f4
    cases ho : valL r s F e.data.toList n.data.toList v.data.toList with
    | none =>
      have HVV : Hid (valV (valL r s F e.data.toList n.data.toList v.data.toList) = .tuple #[.string ⟨#[]⟩, .bool false]) := hide (by rw [ho]; rfl)
      clear ho
      go_wp2_with fail
      refine (HFEW.out _ HF.out).mono ?_
      rintro x w2 ⟨rfl, hb⟩
      clear p0 p1 p2 a0 a1
      have HP2 := hide (HP.out.kept hb)
      have HA2 := hide (HA.out.kept hb)
      obtain ⟨p0, p1, p2⟩ := HP2.out
      obtain ⟨a0, a1⟩ := HA2.out
      have HE2 := hide (HE.out.kept hb)
      have HF2 := hide (HF.out.kept hb)
      have HB2 := hide (HB.out.trans (hb.mono HB.out.size))
      clear hb
      go_wp2_with fail
      refine (value_any r s q A F cap e n v _ HF2.out HL.out HS.out HE2.out.1 HE2.out.2.1 HE2.out.2.2).mono ?_
      rintro x w3 ⟨rfl, hb⟩
      rw [HVV.out]
      clear p0 p1 p2 a0 a1
      have HP3 := hide (HP2.out.kept hb)
      have HA3 := hide (HA2.out.kept hb)
      obtain ⟨p0, p1, p2⟩ := HP3.out
      obtain ⟨a0, a1⟩ := HA3.out
      have HE3 := hide (HE2.out.kept hb)
      have HF3 := hide (HF2.out.kept hb)
      have HB3 := hide (HB2.out.trans (hb.mono HB2.out.size))
      clear hb
      go_wp2_with fail
      refine (live18_any _ HE3.out).mono ?_
      rintro x w9 ⟨rfl, hb⟩
      have HB9 := hide (HB3.out.trans (hb.mono HB3.out.size))
      clear hb
      go_wp2_with fail
      go_ret
      exact ⟨rfl, HB9.out⟩
    | some x0 =>
      obtain ⟨S, hS⟩ : ∃ S, str x0 = S := ⟨_, rfl⟩
      have hx0 : x0 = S.data.toList := by rw [← hS, str_toList]
      have HVV : Hid (valV (valL r s F e.data.toList n.data.toList v.data.toList) = .tuple #[.string S, .bool true]) := hide (by rw [ho, ← hS]; rfl)
      have hz := val_len HL.out (by rw [toList_length]; exact HV3.out) ho
      rw [hx0, toList_length] at hz
      have HSZ := hide hz
      obtain ⟨g1, g2, g3⟩ := val_again (Nat.le_trans HL.out (by decide)) ho
      rw [hx0] at g1 g2
      have HV2 : Hid (valV (valL r s F e.data.toList n.data.toList S.data.toList) = .tuple #[.string S, .bool true]) := hide (by rw [g1, valV_some])
      have HG2 := hide g2
      have HG3 := hide g3
      clear ho hS hx0 hz g1 g2 g3
      have t0 : (S.toList == S.toList) = true := beq_self_eq_true _
      go_wp2_with fail
      refine (HFEW.out _ HF.out).mono ?_
      rintro x w2 ⟨rfl, hb⟩
      clear p0 p1 p2 a0 a1
      have HP2 := hide (HP.out.kept hb)
      have HA2 := hide (HA.out.kept hb)
      obtain ⟨p0, p1, p2⟩ := HP2.out
      obtain ⟨a0, a1⟩ := HA2.out
      have HE2 := hide (HE.out.kept hb)
      have HF2 := hide (HF.out.kept hb)
      have HB2 := hide (HB.out.trans (hb.mono HB.out.size))
      clear hb
      go_wp2_with fail
      refine (value_any r s q A F cap e n v _ HF2.out HL.out HS.out HE2.out.1 HE2.out.2.1 HE2.out.2.2).mono ?_
      rintro x w3 ⟨rfl, hb⟩
      rw [HVV.out]
      clear p0 p1 p2 a0 a1
      have HP3 := hide (HP2.out.kept hb)
      have HA3 := hide (HA2.out.kept hb)
      obtain ⟨p0, p1, p2⟩ := HP3.out
      obtain ⟨a0, a1⟩ := HA3.out
      have HE3 := hide (HE2.out.kept hb)
      have HF3 := hide (HF2.out.kept hb)
      have HB3 := hide (HB2.out.trans (hb.mono HB2.out.size))
      clear hb
      have hb := alloc_below w3 (.cells #[.string n, .string S] 29)
      have hNB := ABox.new w3 n S 29
      obtain ⟨q0, q1, q2⟩ := HP3.out.kept hb
      obtain ⟨n0, n1⟩ := hNB
      go_wp2_with fail
      have hNB := ABox.new w3 n S 29
      refine (value_any r s q A F cap e n S _ (HF3.out.kept hb) HL.out HSZ.out (HE3.out.kept hb).1 (HE3.out.kept hb).2.1 (HE3.out.kept hb).2.2).mono ?_
      rintro x w4 ⟨rfl, hb4⟩
      rw [HV2.out]
      have hbb := hb.trans (hb4.mono hb.size)
      clear p0 p1 p2 a0 a1 q0 q1 q2 n0 n1
      have HNB := hide (hNB.kept hb4)
      have HP4 := hide (HP3.out.kept hbb)
      have HA4 := hide (HA3.out.kept hbb)
      have HE4 := hide (HE3.out.kept hbb)
      have HF4 := hide (HF3.out.kept hbb)
      have HB4 := hide (HB3.out.trans (hbb.mono HB3.out.size))
      clear hb hb4 hbb hNB
      obtain ⟨p0, p1, p2⟩ := HP4.out
      obtain ⟨a0, a1⟩ := HA4.out
      obtain ⟨n0, n1⟩ := HNB.out
      go_wp2_with fail
      refine (blocked_any r s q e n S _ HSZ.out HE4.out.1).mono ?_
      rintro x w5 ⟨rfl, hb⟩
      rw [HG2.out]
      clear p0 p1 p2 a0 a1 n0 n1
      have HA5 := hide (HA4.out.kept hb)
      have HE5 := hide (HE4.out.kept hb)
      have HB5 := hide (HB4.out.trans (hb.mono HB4.out.size))
      clear hb
      obtain ⟨a0, a1⟩ := HA5.out
      go_wp2_with fail
      refine (attr_any e n _).mono ?_
      rintro x w6 ⟨rfl, rfl⟩
      rw [HG3.out]
      go_wp2_with fail
      refine (live18_any _ HE5.out).mono ?_
      rintro x w9 ⟨rfl, hb⟩
      have HB9 := hide (HB5.out.trans (hb.mono HB5.out.size))
      clear hb
      go_wp2_with fail
      go_ret
      exact ⟨rfl, HB9.out⟩
end Go.Proofs.YtklbdobofclofaaGreatDoor
