/- WALK of the law LinesBack. No statement is proved here. -/
import Derived.Test.YtcndklegoadjcaaDoorLinesLaw0
namespace Go.Proofs.YtcndklegoadjcaaDoor
open Go.RowKit
set_option linter.unusedVariables false
set_option linter.unusedSimpArgs false
set_option maxRecDepth 100000

set_option maxHeartbeats 4000000 in
theorem law_LinesBack (v : Value) (l : List FieldL) {w : World} (hl : FieldsIn w v l) (body : ByteArray) : Calls Tryd.prog 5 #[v, .string body] w fun e w' => e = .returned (.bool true) ∧ Below w.heap.size w w' := by
  obtain ⟨A, cap, rfl⟩ := hl.form
  have HL := hide hl
  clear hl
  cases hf_l : fewB l with
  | false =>
    go_enter Tryd.func5, Tryd.ntmps5
    go_wp2_with fail
    refine (few06_any _ l _ HL.out).mono ?_
    rintro e wq ⟨rfl, rfl⟩
    rw [hf_l]
    go_wp2_with fail

    refine (live6_any _).mono ?_
    rintro e wl ⟨rfl, hbl⟩
    go_wp2_with fail
    go_ret
    exact ⟨rfl, (Below.refl w.heap.size w).trans (hbl.mono (Below.refl w.heap.size w).size)⟩

  | true =>
  by_cases h_body : ¬ body.size ≤ 5000
  · go_enter Tryd.func5, Tryd.ntmps5
    go_wp2_with fail
    refine (few06_any _ l _ HL.out).mono ?_
    rintro e wq ⟨rfl, rfl⟩
    rw [hf_l]
    go_wp2_with fail

    refine (short06_any body _).mono ?_
    rintro e wq ⟨rfl, rfl⟩
    rw [show decide (body.size ≤ 5000) = false from decide_eq_false h_body]
    go_wp2_with fail

    refine (live6_any _).mono ?_
    rintro e wl ⟨rfl, hbl⟩
    go_wp2_with fail
    go_ret
    exact ⟨rfl, (Below.refl w.heap.size w).trans (hbl.mono (Below.refl w.heap.size w).size)⟩

  replace h_body := Decidable.not_not.1 h_body
  obtain ⟨h60, h500⟩ := few_fits hf_l
  have hb20 : body.size ≤ 1048576 := by omega
  have hz : ∀ f ∈ l, f.1.length ≤ 1048576 ∧ f.2.length ≤ 1048576 := fun f hf => by have := h500 f hf; omega
  have HZ := hide hz
  have hl20 : l.length ≤ 1048576 := by omega
  have hl46 : l.length ≤ 70368744177664 := by omega
  have HL20 := hide hl20
  have HL46 := hide hl46

  by_cases ho : (writeO l body.data.toList).2 = 0
  · obtain ⟨o1, o2, o3⟩ := writeO_ok ho
    obtain ⟨S, hS⟩ : ∃ S, S = str (writeL l body.data.toList) := ⟨_, rfl⟩
    have HV : Hid (writeV (writeO l body.data.toList) = .tuple #[.string S, .int .i64 0]) := hide (by rw [o1, hS]; rfl)
    have HH : Hid (headL S.data.toList = (l, body.data.toList)) := hide (by rw [hS, str_toList]; exact head_write o2 o3)
    have hSs : S.size ≤ 1048576 := by
      rw [hS, str_size]
      have := writeL_size (l := l) (b := body.data.toList) (n := 500) h500
      rw [toList_length] at this
      have h3 : l.length * 1004 ≤ 60 * 1004 := Nat.mul_le_mul_right _ h60
      omega
    have HSS := hide hSs
    have q1 : (body.toList == body.toList) = true := beq_self_eq_true _
    clear ho o1 o2 o3 hS hSs h60 h500 hz hl20 hl46
    go_enter Tryd.func5, Tryd.ntmps5
    go_wp2_with fail
    refine (few06_any _ l _ HL.out).mono ?_
    rintro e wq ⟨rfl, rfl⟩
    rw [hf_l]
    go_wp2_with fail

    refine (short06_any body _).mono ?_
    rintro e wq ⟨rfl, rfl⟩
    rw [show decide (body.size ≤ 5000) = true from decide_eq_true h_body]
    go_wp2_with fail

    refine (write_any _ l body _ HL.out hb20 HZ.out HL46.out).mono ?_
    rintro e w1 ⟨rfl, hb1⟩
    rw [HV.out]
    have K1 := hide hb1
    have F1 := hide (HL.out.kept hb1)
    clear hb1
    go_wp2_with fail
    refine (head_any S HSS.out _).mono ?_
    rintro e w2 ⟨v2, rfl, hf2⟩
    rw [HH.out] at hf2 ⊢
    rw [show str (l, body.data.toList).2 = body from str_of body]
    obtain ⟨A2, c2, rfl⟩ := hf2.slice_len
    have K2 := hide (K1.out.trans (hf2.below.mono K1.out.size))
    have F12 := hide (F1.out.kept hf2.below)
    have F2 := hide hf2.in
    clear hf2
    go_wp2_with fail
    refine (same06_any _ _ l l _ F2.out F12.out HL20.out).mono ?_
    rintro e w3 ⟨rfl, hb3⟩
    rw [show decide (l = l) = true from decide_eq_true rfl]
    have K3 := hide (K2.out.trans (hb3.mono K2.out.size))
    clear hb3
    go_wp2_with fail
    refine (live6_any _).mono ?_
    rintro e wl ⟨rfl, hbl⟩
    go_wp2_with fail
    go_ret
    exact ⟨rfl, (K3.out).trans (hbl.mono (K3.out).size)⟩

  · obtain ⟨E, hE⟩ : ∃ E, E = (writeO l body.data.toList).2 := ⟨_, rfl⟩
    have HV : Hid (writeV (writeO l body.data.toList) = .tuple #[.string ⟨#[]⟩, .int .i64 E]) := hide (by
      unfold writeV; rw [writeO_no ho, hE]; rfl)
    have q1 : (E == 0) = false := by rw [hE]; exact beq_eq_false_iff_ne.2 ho
    have q2 : (E != 0) = true := by rw [bne, q1]; rfl
    clear ho hE h60 h500 hz hl20 hl46
    go_enter Tryd.func5, Tryd.ntmps5
    go_wp2_with fail
    refine (few06_any _ l _ HL.out).mono ?_
    rintro e wq ⟨rfl, rfl⟩
    rw [hf_l]
    go_wp2_with fail

    refine (short06_any body _).mono ?_
    rintro e wq ⟨rfl, rfl⟩
    rw [show decide (body.size ≤ 5000) = true from decide_eq_true h_body]
    go_wp2_with fail

    refine (write_any _ l body _ HL.out hb20 HZ.out HL46.out).mono ?_
    rintro e w1 ⟨rfl, hb1⟩
    rw [HV.out]
    have K1 := hide hb1
    clear hb1
    go_wp2_with fail
    refine (live6_any _).mono ?_
    rintro e wl ⟨rfl, hbl⟩
    go_wp2_with fail
    go_ret
    exact ⟨rfl, (K1.out).trans (hbl.mono (K1.out).size)⟩

end Go.Proofs.YtcndklegoadjcaaDoor
