/- WALK of the law RulesSafe. No statement is proved here. Own work of the verifier. -/
import Derived.Test.YtklbdobofclofaaGreatDoorRulesC
namespace Go.Proofs.YtklbdobofclofaaGreatDoor
open Go.RowKit
set_option linter.unusedVariables false
set_option linter.unusedSimpArgs false
set_option maxRecDepth 100000
set_option maxHeartbeats 8000000 in
theorem law_RulesSafe (r s q : Bool) (A : Option Addr) (F : List FileL) (cap : Nat) (e n v : ByteArray) (w : World) (hF : FilesIn w (.slice A F.length cap) F) (hfm : F.length ≤ maxLen) (hn : n.size ≤ maxLen) (hv : v.size ≤ maxLen) (hE : EnvR w) :
    Calls Tryz.prog 6 #[.agg #[.bool r, .bool s, .bool q, .slice A F.length cap, .string e, .string n, .string v]] w fun x w' => x = .returned (.bool true) ∧ Below w.heap.size w w' := by
  have HE0 := hide hE
  have HF0 := hide hF
  have HFM := hide hfm
  have HN := hide hn
  have HV := hide hv
  clear hE hF hfm hn hv
  go_enter Tryz.func6, Tryz.ntmps6
  go_upto_region 1 with (fail)
  obtain ⟨w0, hw0⟩ : ∃ w0, w.alloc (.cells #[.bool r, .bool s, .bool q, .slice A F.length cap, .string e, .string n, .string v] 31) = w0 := ⟨_, rfl⟩
  have c0 : w0.cell? ⟨w.heap.size, 0, none⟩ = some (.bool r) := by rw [← hw0, World.cell?_alloc_at _ _ _ _ rfl]; rfl
  have c1 : w0.cell? ⟨w.heap.size, 1, none⟩ = some (.bool s) := by rw [← hw0, World.cell?_alloc_at _ _ _ _ rfl]; rfl
  have c2 : w0.cell? ⟨w.heap.size, 2, none⟩ = some (.bool q) := by rw [← hw0, World.cell?_alloc_at _ _ _ _ rfl]; rfl
  have c3 : w0.cell? ⟨w.heap.size, 3, none⟩ = some (.slice A F.length cap) := by rw [← hw0, World.cell?_alloc_at _ _ _ _ rfl]; rfl
  have c4 : w0.cell? ⟨w.heap.size, 4, none⟩ = some (.string e) := by rw [← hw0, World.cell?_alloc_at _ _ _ _ rfl]; rfl
  have c5 : w0.cell? ⟨w.heap.size, 5, none⟩ = some (.string n) := by rw [← hw0, World.cell?_alloc_at _ _ _ _ rfl]; rfl
  have c6 : w0.cell? ⟨w.heap.size, 6, none⟩ = some (.string v) := by rw [← hw0, World.cell?_alloc_at _ _ _ _ rfl]; rfl
  have hb0 : Below w.heap.size w w0 := by rw [← hw0]; exact alloc_below _ _
  have hz0 : w.heap.size < w0.heap.size := by rw [← hw0]; simp
  rw [hw0]
  clear hw0
  go_cut [3, 4, 5, 6] (fun s3 s4 s5 s6 wx => CaseSt w r s q A F cap e n v s3 s4 s5 s6 wx)
  case first =>
    have k0 : ∀ o, (w0.alloc o).cell? ⟨w.heap.size, 0, none⟩ = some (.bool r) := fun o => ((alloc_below w0 o).cell (p := ⟨w.heap.size, 0, none⟩) hz0).trans c0
    have k1 : ∀ o, (w0.alloc o).cell? ⟨w.heap.size, 1, none⟩ = some (.bool s) := fun o => ((alloc_below w0 o).cell (p := ⟨w.heap.size, 1, none⟩) hz0).trans c1
    have k2 : ∀ o, (w0.alloc o).cell? ⟨w.heap.size, 2, none⟩ = some (.bool q) := fun o => ((alloc_below w0 o).cell (p := ⟨w.heap.size, 2, none⟩) hz0).trans c2
    have k3 : ∀ o, (w0.alloc o).cell? ⟨w.heap.size, 3, none⟩ = some (.slice A F.length cap) := fun o => ((alloc_below w0 o).cell (p := ⟨w.heap.size, 3, none⟩) hz0).trans c3
    have k4 : ∀ o, (w0.alloc o).cell? ⟨w.heap.size, 4, none⟩ = some (.string e) := fun o => ((alloc_below w0 o).cell (p := ⟨w.heap.size, 4, none⟩) hz0).trans c4
    have k5 : ∀ o, (w0.alloc o).cell? ⟨w.heap.size, 5, none⟩ = some (.string n) := fun o => ((alloc_below w0 o).cell (p := ⟨w.heap.size, 5, none⟩) hz0).trans c5
    have k6 : ∀ o, (w0.alloc o).cell? ⟨w.heap.size, 6, none⟩ = some (.string v) := fun o => ((alloc_below w0 o).cell (p := ⟨w.heap.size, 6, none⟩) hz0).trans c6
    have p0 : ∀ o1 o2, ((w0.alloc o1).alloc o2).cell? ⟨w.heap.size, 0, none⟩ = some (.bool r) := fun o1 o2 => ((alloc_below _ o2).cell (p := ⟨w.heap.size, 0, none⟩) (Nat.lt_trans hz0 (by rw [World.size_alloc]; exact Nat.lt_succ_self _))).trans (k0 o1)
    have p1 : ∀ o1 o2, ((w0.alloc o1).alloc o2).cell? ⟨w.heap.size, 1, none⟩ = some (.bool s) := fun o1 o2 => ((alloc_below _ o2).cell (p := ⟨w.heap.size, 1, none⟩) (Nat.lt_trans hz0 (by rw [World.size_alloc]; exact Nat.lt_succ_self _))).trans (k1 o1)
    have p2 : ∀ o1 o2, ((w0.alloc o1).alloc o2).cell? ⟨w.heap.size, 2, none⟩ = some (.bool q) := fun o1 o2 => ((alloc_below _ o2).cell (p := ⟨w.heap.size, 2, none⟩) (Nat.lt_trans hz0 (by rw [World.size_alloc]; exact Nat.lt_succ_self _))).trans (k2 o1)
    have p3 : ∀ o1 o2, ((w0.alloc o1).alloc o2).cell? ⟨w.heap.size, 3, none⟩ = some (.slice A F.length cap) := fun o1 o2 => ((alloc_below _ o2).cell (p := ⟨w.heap.size, 3, none⟩) (Nat.lt_trans hz0 (by rw [World.size_alloc]; exact Nat.lt_succ_self _))).trans (k3 o1)
    have p4 : ∀ o1 o2, ((w0.alloc o1).alloc o2).cell? ⟨w.heap.size, 4, none⟩ = some (.string e) := fun o1 o2 => ((alloc_below _ o2).cell (p := ⟨w.heap.size, 4, none⟩) (Nat.lt_trans hz0 (by rw [World.size_alloc]; exact Nat.lt_succ_self _))).trans (k4 o1)
    have p5 : ∀ o1 o2, ((w0.alloc o1).alloc o2).cell? ⟨w.heap.size, 5, none⟩ = some (.string n) := fun o1 o2 => ((alloc_below _ o2).cell (p := ⟨w.heap.size, 5, none⟩) (Nat.lt_trans hz0 (by rw [World.size_alloc]; exact Nat.lt_succ_self _))).trans (k5 o1)
    have p6 : ∀ o1 o2, ((w0.alloc o1).alloc o2).cell? ⟨w.heap.size, 6, none⟩ = some (.string v) := fun o1 o2 => ((alloc_below _ o2).cell (p := ⟨w.heap.size, 6, none⟩) (Nat.lt_trans hz0 (by rw [World.size_alloc]; exact Nat.lt_succ_self _))).trans (k6 o1)
    go_region
    all_goals
      go_wp2_with fail
      go_meet
      first | exact caseSt1 hb0 | exact caseSt2 hb0
  obtain ⟨bp, ba, rfl, rfl, rfl, rfl, HP0, HA0, HB0⟩ := hcut
  have HP := hide HP0
  have HA := hide HA0
  have HB := hide HB0
  have HE := hide (HE0.out.kept HB.out)
  have HF := hide (HF0.out.kept HB.out)
  clear HP0 HA0 HB0 HE0 HF0 c0 c1 c2 c3 c4 c5 c6 hb0 hz0
  have HFEW := hide (fun w2 hf => few18_any (.slice A F.length cap) F n v w2 hf HFM.out HN.out HV.out)
  obtain ⟨p0, p1, p2⟩ := HP.out
  obtain ⟨a0, a1⟩ := HA.out
  cases hfb : fewB F n.data.toList v.data.toList with
  | false =>
    rw [hfb] at HFEW
    clear hfb
    go_wp2_with fail
    refine (HFEW.out _ HF.out).mono ?_
    rintro x w2 ⟨rfl, hb⟩
    clear p0 p1 p2 a0 a1
    have HP2 := hide (HP.out.kept hb)
    have HA2 := hide (HA.out.kept hb)
    obtain ⟨p0, p1, p2⟩ := HP2.out
    obtain ⟨a0, a1⟩ := HA2.out
    have HE2 := hide (HE.out.kept hb)
    have HF2 := hide (HF.out.kept hb)
    have HB2 := hide (HB.out.trans (hb.mono HB.out.size))
    clear hb
    go_wp2_with fail
    refine (live18_any _ HE2.out).mono ?_
    rintro x w9 ⟨rfl, hb⟩
    have HB9 := hide (HB2.out.trans (hb.mono HB2.out.size))
    clear hb
    go_wp2_with fail
    go_ret
    exact ⟨rfl, HB9.out⟩
  | true =>
    obtain ⟨f1, f2, f3, f4⟩ := few_facts hfb
    rw [toList_length] at f2 f3
    have HL := hide f1
    have HS := hide (show v.size ≤ 10000 by omega)
    have HZF : Hid (∀ f ∈ F, f.kind.length ≤ 10000) := hide (fun f hf => Nat.le_trans (f4 f hf) (by decide))
    have HV3 := hide f3
    rw [hfb] at HFEW
    clear hfb f1 f2 f3 f4
    cases ho : valL r s F e.data.toList n.data.toList v.data.toList with
    | none =>
      have HVV : Hid (valV (valL r s F e.data.toList n.data.toList v.data.toList) = .tuple #[.string ⟨#[]⟩, .bool false]) := hide (by rw [ho]; rfl)
      clear ho
      go_wp2_with fail
      refine (HFEW.out _ HF.out).mono ?_
      rintro x w2 ⟨rfl, hb⟩
      clear p0 p1 p2 a0 a1
      have HP2 := hide (HP.out.kept hb)
      have HA2 := hide (HA.out.kept hb)
      obtain ⟨p0, p1, p2⟩ := HP2.out
      obtain ⟨a0, a1⟩ := HA2.out
      have HE2 := hide (HE.out.kept hb)
      have HF2 := hide (HF.out.kept hb)
      have HB2 := hide (HB.out.trans (hb.mono HB.out.size))
      clear hb
      go_wp2_with fail
      refine (value_any r s q A F cap e n v _ HF2.out HL.out HS.out HE2.out.1 HE2.out.2.1 HE2.out.2.2).mono ?_
      rintro x w3 ⟨rfl, hb⟩
      rw [HVV.out]
      clear p0 p1 p2 a0 a1
      have HP3 := hide (HP2.out.kept hb)
      have HA3 := hide (HA2.out.kept hb)
      obtain ⟨p0, p1, p2⟩ := HP3.out
      obtain ⟨a0, a1⟩ := HA3.out
      have HE3 := hide (HE2.out.kept hb)
      have HF3 := hide (HF2.out.kept hb)
      have HB3 := hide (HB2.out.trans (hb.mono HB2.out.size))
      clear hb
      go_wp2_with fail
      refine (live18_any _ HE3.out).mono ?_
      rintro x w9 ⟨rfl, hb⟩
      have HB9 := hide (HB3.out.trans (hb.mono HB3.out.size))
      clear hb
      go_wp2_with fail
      go_ret
      exact ⟨rfl, HB9.out⟩
    | some x0 =>
      obtain ⟨S, hS⟩ : ∃ S, str x0 = S := ⟨_, rfl⟩
      have hx0 : x0 = S.data.toList := by rw [← hS, str_toList]
      have HVV : Hid (valV (valL r s F e.data.toList n.data.toList v.data.toList) = .tuple #[.string S, .bool true]) := hide (by rw [ho, ← hS]; rfl)
      have hz := val_len HL.out (by rw [toList_length]; exact HV3.out) ho
      rw [hx0, toList_length] at hz
      have HSZ := hide hz
      clear hS hz
      by_cases hnh : n.data.toList = n_href
      · obtain ⟨g1, g2⟩ := val_href (by rw [hnh] at ho; exact ho)
        have he : (e.toList == [97]) = true := by rw [bytes_list, g2]; exact beq_self_eq_true _
        rw [hx0] at g1
        have tn : (n.toList == [104, 114, 101, 102]) = true := by rw [bytes_list, hnh]; exact beq_self_eq_true _
        clear ho hx0 g2 hnh
        cases k1 : begB S.data.toList b_http with
        | true =>
          have K1 := hide k1
          clear k1 g1
          go_wp2_with fail
          refine (HFEW.out _ HF.out).mono ?_
          rintro x w2 ⟨rfl, hb⟩
          clear p0 p1 p2 a0 a1
          have HP2 := hide (HP.out.kept hb)
          have HA2 := hide (HA.out.kept hb)
          obtain ⟨p0, p1, p2⟩ := HP2.out
          obtain ⟨a0, a1⟩ := HA2.out
          have HE2 := hide (HE.out.kept hb)
          have HF2 := hide (HF.out.kept hb)
          have HB2 := hide (HB.out.trans (hb.mono HB.out.size))
          clear hb
          go_wp2_with fail
          refine (value_any r s q A F cap e n v _ HF2.out HL.out HS.out HE2.out.1 HE2.out.2.1 HE2.out.2.2).mono ?_
          rintro x w3 ⟨rfl, hb⟩
          rw [HVV.out]
          clear p0 p1 p2 a0 a1
          have HP3 := hide (HP2.out.kept hb)
          have HA3 := hide (HA2.out.kept hb)
          obtain ⟨p0, p1, p2⟩ := HP3.out
          obtain ⟨a0, a1⟩ := HA3.out
          have HE3 := hide (HE2.out.kept hb)
          have HF3 := hide (HF2.out.kept hb)
          have HB3 := hide (HB2.out.trans (hb.mono HB2.out.size))
          clear hb
          go_wp2_with fail
          refine (begins_any S ⟨#[104, 116, 116, 112, 58]⟩ _ (Nat.le_trans HSZ.out (by decide)) (by decide)).mono ?_
          rintro x w6 ⟨rfl, rfl⟩
          rw [show begB S.data.toList (⟨#[104, 116, 116, 112, 58]⟩ : ByteArray).data.toList = true from K1.out]
          go_wp2_with fail
          refine (live18_any _ HE3.out).mono ?_
          rintro x w9 ⟨rfl, hb⟩
          have HB9 := hide (HB3.out.trans (hb.mono HB3.out.size))
          clear hb
          go_wp2_with fail
          go_ret
          exact ⟨rfl, HB9.out⟩
        | false =>
          rw [k1, Bool.false_or] at g1
          have K1 := hide k1
          cases k2 : begB S.data.toList b_https with
          | true =>
            have K2 := hide k2
            clear k1 k2 g1
            go_wp2_with fail
            refine (HFEW.out _ HF.out).mono ?_
            rintro x w2 ⟨rfl, hb⟩
            clear p0 p1 p2 a0 a1
            have HP2 := hide (HP.out.kept hb)
            have HA2 := hide (HA.out.kept hb)
            obtain ⟨p0, p1, p2⟩ := HP2.out
            obtain ⟨a0, a1⟩ := HA2.out
            have HE2 := hide (HE.out.kept hb)
            have HF2 := hide (HF.out.kept hb)
            have HB2 := hide (HB.out.trans (hb.mono HB.out.size))
            clear hb
            go_wp2_with fail
            refine (value_any r s q A F cap e n v _ HF2.out HL.out HS.out HE2.out.1 HE2.out.2.1 HE2.out.2.2).mono ?_
            rintro x w3 ⟨rfl, hb⟩
            rw [HVV.out]
            clear p0 p1 p2 a0 a1
            have HP3 := hide (HP2.out.kept hb)
            have HA3 := hide (HA2.out.kept hb)
            obtain ⟨p0, p1, p2⟩ := HP3.out
            obtain ⟨a0, a1⟩ := HA3.out
            have HE3 := hide (HE2.out.kept hb)
            have HF3 := hide (HF2.out.kept hb)
            have HB3 := hide (HB2.out.trans (hb.mono HB2.out.size))
            clear hb
            go_wp2_with fail
            refine (begins_any S ⟨#[104, 116, 116, 112, 58]⟩ _ (Nat.le_trans HSZ.out (by decide)) (by decide)).mono ?_
            rintro x w6 ⟨rfl, rfl⟩
            rw [show begB S.data.toList (⟨#[104, 116, 116, 112, 58]⟩ : ByteArray).data.toList = false from K1.out]
            go_wp2_with fail
            refine (begins_any S ⟨#[104, 116, 116, 112, 115, 58]⟩ _ (Nat.le_trans HSZ.out (by decide)) (by decide)).mono ?_
            rintro x w6 ⟨rfl, rfl⟩
            rw [show begB S.data.toList (⟨#[104, 116, 116, 112, 115, 58]⟩ : ByteArray).data.toList = true from K2.out]
            go_wp2_with fail
            refine (live18_any _ HE3.out).mono ?_
            rintro x w9 ⟨rfl, hb⟩
            have HB9 := hide (HB3.out.trans (hb.mono HB3.out.size))
            clear hb
            go_wp2_with fail
            go_ret
            exact ⟨rfl, HB9.out⟩
          | false =>
            rw [k2, Bool.false_or] at g1
            have K2 := hide k2
            have K3 := hide g1
            clear k1 k2 g1
            go_wp2_with fail
            refine (HFEW.out _ HF.out).mono ?_
            rintro x w2 ⟨rfl, hb⟩
            clear p0 p1 p2 a0 a1
            have HP2 := hide (HP.out.kept hb)
            have HA2 := hide (HA.out.kept hb)
            obtain ⟨p0, p1, p2⟩ := HP2.out
            obtain ⟨a0, a1⟩ := HA2.out
            have HE2 := hide (HE.out.kept hb)
            have HF2 := hide (HF.out.kept hb)
            have HB2 := hide (HB.out.trans (hb.mono HB.out.size))
            clear hb
            go_wp2_with fail
            refine (value_any r s q A F cap e n v _ HF2.out HL.out HS.out HE2.out.1 HE2.out.2.1 HE2.out.2.2).mono ?_
            rintro x w3 ⟨rfl, hb⟩
            rw [HVV.out]
            clear p0 p1 p2 a0 a1
            have HP3 := hide (HP2.out.kept hb)
            have HA3 := hide (HA2.out.kept hb)
            obtain ⟨p0, p1, p2⟩ := HP3.out
            obtain ⟨a0, a1⟩ := HA3.out
            have HE3 := hide (HE2.out.kept hb)
            have HF3 := hide (HF2.out.kept hb)
            have HB3 := hide (HB2.out.trans (hb.mono HB2.out.size))
            clear hb
            go_wp2_with fail
            refine (begins_any S ⟨#[104, 116, 116, 112, 58]⟩ _ (Nat.le_trans HSZ.out (by decide)) (by decide)).mono ?_
            rintro x w6 ⟨rfl, rfl⟩
            rw [show begB S.data.toList (⟨#[104, 116, 116, 112, 58]⟩ : ByteArray).data.toList = false from K1.out]
            go_wp2_with fail
            refine (begins_any S ⟨#[104, 116, 116, 112, 115, 58]⟩ _ (Nat.le_trans HSZ.out (by decide)) (by decide)).mono ?_
            rintro x w6 ⟨rfl, rfl⟩
            rw [show begB S.data.toList (⟨#[104, 116, 116, 112, 115, 58]⟩ : ByteArray).data.toList = false from K2.out]
            go_wp2_with fail
            refine (begins_any S ⟨#[109, 97, 105, 108, 116, 111, 58]⟩ _ (Nat.le_trans HSZ.out (by decide)) (by decide)).mono ?_
            rintro x w6 ⟨rfl, rfl⟩
            rw [show begB S.data.toList (⟨#[109, 97, 105, 108, 116, 111, 58]⟩ : ByteArray).data.toList = true from K3.out]
            go_wp2_with fail
            refine (live18_any _ HE3.out).mono ?_
            rintro x w9 ⟨rfl, hb⟩
            have HB9 := hide (HB3.out.trans (hb.mono HB3.out.size))
            clear hb
            go_wp2_with fail
            go_ret
            exact ⟨rfl, HB9.out⟩
      · by_cases hns : n.data.toList = n_src
        · obtain ⟨g1, g2⟩ := src_hit (Nat.le_trans HL.out (by decide)) (by rw [hns] at ho; exact ho)
          have he : (e.toList == [105, 109, 103]) = true := by rw [bytes_list, g2]; exact beq_self_eq_true _
          rw [hx0] at g1
          have tn : (n.toList == [104, 114, 101, 102]) = false := by rw [bytes_list]; exact beq_eq_false_iff_ne.2 hnh
          have ts : (n.toList == [115, 114, 99]) = true := by rw [bytes_list, hns]; exact beq_self_eq_true _
          have ts2 : (n.toList != [115, 114, 99]) = false := by rw [bne, ts]; rfl
          have HG1 := hide g1
          clear ho hx0 g1 g2 hnh hns
          go_wp2_with fail
          refine (HFEW.out _ HF.out).mono ?_
          rintro x w2 ⟨rfl, hb⟩
          clear p0 p1 p2 a0 a1
          have HP2 := hide (HP.out.kept hb)
          have HA2 := hide (HA.out.kept hb)
          obtain ⟨p0, p1, p2⟩ := HP2.out
          obtain ⟨a0, a1⟩ := HA2.out
          have HE2 := hide (HE.out.kept hb)
          have HF2 := hide (HF.out.kept hb)
          have HB2 := hide (HB.out.trans (hb.mono HB.out.size))
          clear hb
          go_wp2_with fail
          refine (value_any r s q A F cap e n v _ HF2.out HL.out HS.out HE2.out.1 HE2.out.2.1 HE2.out.2.2).mono ?_
          rintro x w3 ⟨rfl, hb⟩
          rw [HVV.out]
          clear p0 p1 p2 a0 a1
          have HP3 := hide (HP2.out.kept hb)
          have HA3 := hide (HA2.out.kept hb)
          obtain ⟨p0, p1, p2⟩ := HP3.out
          obtain ⟨a0, a1⟩ := HA3.out
          have HE3 := hide (HE2.out.kept hb)
          have HF3 := hide (HF2.out.kept hb)
          have HB3 := hide (HB2.out.trans (hb.mono HB2.out.size))
          clear hb
          go_wp2_with fail
          clear p0 p1 p2 a0 a1
          go_loopw [9, 10] (fun pv iv wr => ∃ k : Nat, k ≤ F.length ∧ iv = .int .i64 k ∧ pv = .bool ((List.range k).any (hit2 F S.data.toList)) ∧ Hid (Below w3.heap.size w3 wr)) (fun _ iv _ => F.length - (intOf iv).toNat)
          case atStart => exact ⟨0, Nat.zero_le _, rfl, rfl, hide (Below.refl _ _)⟩
          case round =>
            obtain ⟨k, hk, rfl, rfl, HW⟩ := hrel
            have hk6 : k ≤ 100 := Nat.le_trans hk (Nat.le_trans HL.out (by decide))
            obtain ⟨P, hP⟩ : ∃ P, (List.range k).any (hit2 F S.data.toList) = P := ⟨_, rfl⟩
            rw [hP]
            by_cases hlt : k < F.length
            · have HLT := hide hlt
              have hnx : (List.range (k + 1)).any (hit2 F S.data.toList) = (P || hit2 F S.data.toList k) := by rw [List.range_succ, List.any_append, hP]; simp
              cases P with
              | true =>
                have HPN : Hid ((List.range (k + 1)).any (hit2 F S.data.toList) = true) := hide (by rw [hnx]; rfl)
                have HBN := HW
                clear hnx hP
                go_wp2_with fail
                go_roundw
                case rel => exact ⟨k + 1, HLT.out, by go_num, by first | rfl | (rw [HPN.out]), HBN⟩
                case measure => simp [intOf]; have := HLT.out; omega
              | false =>
                rw [Bool.false_or, hit2_at hlt] at hnx
                obtain ⟨a, rfl, d0, d1, d2, d3⟩ := (HF3.out.kept HW.out).at k _ (List.getElem?_eq_getElem hlt)
                obtain ⟨p, hp⟩ : ∃ p, F[k]'hlt = p := ⟨_, rfl⟩
                rw [hp] at d1 hnx
                obtain ⟨K1, hK1⟩ : ∃ K1, str p.kind = K1 := ⟨_, rfl⟩
                rw [hK1] at d1
                have hkl : p.kind = K1.data.toList := by rw [← hK1, str_toList]
                rw [hkl] at hnx
                have HK1S : Hid (K1.size ≤ maxLen) := hide (by rw [← hK1, str_size]; exact Nat.le_trans (HZF.out p (by rw [← hp]; exact List.getElem_mem hlt)) (by decide))
                have HNB := hide (fun w5 => number18_any k (Nat.lt_of_lt_of_le HLT.out (Nat.le_trans HL.out (by decide))) w5)
                obtain ⟨M, hM⟩ : ∃ M, str (numL k) = M := ⟨_, rfl⟩
                have hMz : M.size ≤ 2 := by rw [← hM, str_size]; unfold numL; split <;> simp
                have hMl : attN k = ((⟨#[97, 116, 116, 58]⟩ : ByteArray) ++ M).toList := by rw [bytes_list, ← hM]; rfl
                rw [hM] at HNB
                have hS1 : (S.data.toList == attN k) = (S.toList == ((⟨#[97, 116, 116, 58]⟩ : ByteArray) ++ M).toList) := by rw [hMl, bytes_list S]
                rw [hS1] at hnx
                have D1 : Hid (∀ wz, Below wr.heap.size wr wz → wz.cell? { block := (a.add (k * 4)).block, off := (a.add (k * 4)).off + 1 } = some (.string K1)) := hide fun wz hz => (hz.cell (World.block_lt_of_cell? _ _ d1)).trans d1
                clear d0 d1 d2 d3 hp hK1 hkl hM hMl hP hS1
                cases t1 : (S.toList == ((⟨#[97, 116, 116, 58]⟩ : ByteArray) ++ M).toList) with
                | false =>
                  have HPN : Hid ((List.range (k + 1)).any (hit2 F S.data.toList) = false) := hide (by rw [hnx, t1]; rfl)
                  clear hnx
                  go_wp2_with fail
                  refine (HNB.out _).mono ?_
                  rintro x w5 ⟨rfl, hb⟩
                  have HBN := hide (HW.out.trans (hb.mono HW.out.size))
                  clear hb
                  go_wp2_with fail
                  go_roundw
                  case rel => exact ⟨k + 1, HLT.out, by go_num, by first | rfl | (rw [HPN.out]), HBN⟩
                  case measure => simp [intOf]; have := HLT.out; omega
                | true =>
                  rw [t1, Bool.true_and] at hnx
                  obtain ⟨bk, hbk⟩ : ∃ bk, begB K1.data.toList imageL = bk := ⟨_, rfl⟩
                  rw [hbk] at hnx
                  have HPN := hide hnx
                  have HBK : Hid (begB K1.data.toList (⟨#[105, 109, 97, 103, 101, 47]⟩ : ByteArray).data.toList = bk) := hide hbk
                  clear hnx hbk
                  go_wp2_with fail
                  refine (HNB.out _).mono ?_
                  rintro x w5 ⟨rfl, hb⟩
                  have HBN := hide (HW.out.trans (hb.mono HW.out.size))
                  have d1 := D1.out _ hb
                  clear hb
                  go_wp2_with fail
                  refine (begins_any K1 ⟨#[105, 109, 97, 103, 101, 47]⟩ _ HK1S.out (by decide)).mono ?_
                  rintro x w6 ⟨rfl, rfl⟩
                  rw [HBK.out]
                  go_wp2_with fail
                  go_roundw
                  case rel => exact ⟨k + 1, HLT.out, by go_num, by first | rfl | (rw [HPN.out]), HBN⟩
                  case measure => simp [intOf]; have := HLT.out; omega
            · obtain rfl : k = F.length := by omega
              have HBX := hide (HB3.out.trans (HW.out.mono HB3.out.size))
              have HEX := hide (HE3.out.kept HW.out)
              obtain ⟨p0, p1, p2⟩ := HP3.out.kept HW.out
              have hg := HG1.out
              rw [hP] at hg
              cases P with
              | true =>
                clear hg hP
                go_wp2_with fail
                refine (live18_any _ HEX.out).mono ?_
                rintro x w9 ⟨rfl, hb⟩
                have HB9 := hide (HBX.out.trans (hb.mono HBX.out.size))
                clear hb
                go_wp2_with fail
                go_ret
                exact ⟨rfl, HB9.out⟩
              | false =>
                have hr : r = true := (hg.resolve_left (by decide)).1
                have K2 := hide (hg.resolve_left (by decide)).2
                clear hg hP
                rw [hr] at p0
                go_wp2_with fail
                refine (begins_any S ⟨#[104, 116, 116, 112, 115, 58]⟩ _ (Nat.le_trans HSZ.out (by decide)) (by decide)).mono ?_
                rintro x w6 ⟨rfl, rfl⟩
                rw [show begB S.data.toList (⟨#[104, 116, 116, 112, 115, 58]⟩ : ByteArray).data.toList = true from K2.out]
                go_wp2_with fail
                refine (live18_any _ HEX.out).mono ?_
                rintro x w9 ⟨rfl, hb⟩
                have HB9 := hide (HBX.out.trans (hb.mono HBX.out.size))
                clear hb
                go_wp2_with fail
                go_ret
                exact ⟨rfl, HB9.out⟩
        · have tn : (n.toList == [104, 114, 101, 102]) = false := by rw [bytes_list]; exact beq_eq_false_iff_ne.2 hnh
          have ts : (n.toList == [115, 114, 99]) = false := by rw [bytes_list]; exact beq_eq_false_iff_ne.2 hns
          have ts2 : (n.toList != [115, 114, 99]) = true := by rw [bne, ts]; rfl
          have hat := val_other ho
          have tx0 : (n.toList == [111, 110, 99, 108, 105, 99, 107]) = false := by
            rw [bytes_list]
            refine beq_eq_false_iff_ne.2 (fun hq => ?_)
            rw [hq] at hat
            exact absurd hat (by decide)
          have ty0 : (n.toList != [111, 110, 99, 108, 105, 99, 107]) = true := by rw [bne, tx0]; rfl
          have tx1 : (n.toList == [115, 114, 99, 115, 101, 116]) = false := by
            rw [bytes_list]
            refine beq_eq_false_iff_ne.2 (fun hq => ?_)
            rw [hq] at hat
            exact absurd hat (by decide)
          have ty1 : (n.toList != [115, 114, 99, 115, 101, 116]) = true := by rw [bne, tx1]; rfl
          have tx2 : (n.toList == [98, 97, 99, 107, 103, 114, 111, 117, 110, 100]) = false := by
            rw [bytes_list]
            refine beq_eq_false_iff_ne.2 (fun hq => ?_)
            rw [hq] at hat
            exact absurd hat (by decide)
          have ty2 : (n.toList != [98, 97, 99, 107, 103, 114, 111, 117, 110, 100]) = true := by rw [bne, tx2]; rfl
          clear hat ho hx0 hnh hns
          go_wp2_with fail
          refine (HFEW.out _ HF.out).mono ?_
          rintro x w2 ⟨rfl, hb⟩
          clear p0 p1 p2 a0 a1
          have HP2 := hide (HP.out.kept hb)
          have HA2 := hide (HA.out.kept hb)
          obtain ⟨p0, p1, p2⟩ := HP2.out
          obtain ⟨a0, a1⟩ := HA2.out
          have HE2 := hide (HE.out.kept hb)
          have HF2 := hide (HF.out.kept hb)
          have HB2 := hide (HB.out.trans (hb.mono HB.out.size))
          clear hb
          go_wp2_with fail
          refine (value_any r s q A F cap e n v _ HF2.out HL.out HS.out HE2.out.1 HE2.out.2.1 HE2.out.2.2).mono ?_
          rintro x w3 ⟨rfl, hb⟩
          rw [HVV.out]
          clear p0 p1 p2 a0 a1
          have HP3 := hide (HP2.out.kept hb)
          have HA3 := hide (HA2.out.kept hb)
          obtain ⟨p0, p1, p2⟩ := HP3.out
          obtain ⟨a0, a1⟩ := HA3.out
          have HE3 := hide (HE2.out.kept hb)
          have HF3 := hide (HF2.out.kept hb)
          have HB3 := hide (HB2.out.trans (hb.mono HB2.out.size))
          clear hb
          go_wp2_with fail
          refine (live18_any _ HE3.out).mono ?_
          rintro x w9 ⟨rfl, hb⟩
          have HB9 := hide (HB3.out.trans (hb.mono HB3.out.size))
          clear hb
          go_wp2_with fail
          go_ret
          exact ⟨rfl, HB9.out⟩
end Go.Proofs.YtklbdobofclofaaGreatDoor
