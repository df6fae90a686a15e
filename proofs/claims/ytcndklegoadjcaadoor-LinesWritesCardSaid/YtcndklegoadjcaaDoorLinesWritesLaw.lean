/- WALK of the law LinesWrites. No statement is proved here. -/
import Derived.Test.YtcndklegoadjcaaDoorLinesLaw0
import Derived.Test.YtcndklegoadjcaaDoorRef06W
namespace Go.Proofs.YtcndklegoadjcaaDoor
open Go.RowKit
set_option linter.unusedVariables false
set_option linter.unusedSimpArgs false
set_option maxRecDepth 100000

set_option maxHeartbeats 4000000 in
theorem law_LinesWrites (v : Value) (l : List FieldL) {w : World} (hl : FieldsIn w v l) (body : ByteArray) : Calls Tryd.prog 4 #[v, .string body] w fun e w' => e = .returned (.bool true) ∧ Below w.heap.size w w' := by
  obtain ⟨A, cap, rfl⟩ := hl.form
  have HL := hide hl
  clear hl
  cases hf_l : fewB l with
  | false =>
    go_enter Tryd.func4, Tryd.ntmps4
    go_wp2_with fail
    refine (few06_any _ l _ HL.out).mono ?_
    rintro e wq ⟨rfl, rfl⟩
    rw [hf_l]
    go_wp2_with fail

    refine (live6_any _).mono ?_
    rintro e wl ⟨rfl, hbl⟩
    go_wp2_with fail
    go_ret
    exact ⟨rfl, (Below.refl w.heap.size w).trans (hbl.mono (Below.refl w.heap.size w).size)⟩

  | true =>
  by_cases h_body : ¬ body.size ≤ 5000
  · go_enter Tryd.func4, Tryd.ntmps4
    go_wp2_with fail
    refine (few06_any _ l _ HL.out).mono ?_
    rintro e wq ⟨rfl, rfl⟩
    rw [hf_l]
    go_wp2_with fail

    refine (short06_any body _).mono ?_
    rintro e wq ⟨rfl, rfl⟩
    rw [show decide (body.size ≤ 5000) = false from decide_eq_false h_body]
    go_wp2_with fail

    refine (live6_any _).mono ?_
    rintro e wl ⟨rfl, hbl⟩
    go_wp2_with fail
    go_ret
    exact ⟨rfl, (Below.refl w.heap.size w).trans (hbl.mono (Below.refl w.heap.size w).size)⟩

  replace h_body := Decidable.not_not.1 h_body
  obtain ⟨h60, h500⟩ := few_fits hf_l
  have hb20 : body.size ≤ 1048576 := by omega
  have hz : ∀ f ∈ l, f.1.length ≤ 1048576 ∧ f.2.length ≤ 1048576 := fun f hf => by have := h500 f hf; omega
  have HZ := hide hz
  have hl20 : l.length ≤ 1048576 := by omega
  have hl46 : l.length ≤ 70368744177664 := by omega
  have HL20 := hide hl20
  have HL46 := hide hl46

  obtain ⟨o, ho⟩ : ∃ o, o = writeO l body.data.toList := ⟨_, rfl⟩
  have HO := hide ho
  obtain ⟨S, hS⟩ : ∃ S, S = str o.1 := ⟨_, rfl⟩
  obtain ⟨E, hE⟩ : ∃ E, E = o.2 := ⟨_, rfl⟩
  have HV : Hid (writeV (writeO l body.data.toList) = .tuple #[.string S, .int .i64 E]) := hide (by rw [← ho, hS, hE]; rfl)
  have q1 : (S.toList == S.toList) = true := beq_self_eq_true _
  have q2 : (E == E) = true := beq_self_eq_true _
  clear ho hS hE h60 h500 hz hl20 hl46
  go_enter Tryd.func4, Tryd.ntmps4
  go_wp2_with fail
  refine (few06_any _ l _ HL.out).mono ?_
  rintro e wq ⟨rfl, rfl⟩
  rw [hf_l]
  go_wp2_with fail

  refine (short06_any body _).mono ?_
  rintro e wq ⟨rfl, rfl⟩
  rw [show decide (body.size ≤ 5000) = true from decide_eq_true h_body]
  go_wp2_with fail

  refine (write_any _ l body _ HL.out hb20 HZ.out HL46.out).mono ?_
  rintro e w1 ⟨rfl, hb1⟩
  rw [HV.out]
  have K1 := hide hb1
  have F1 := hide (HL.out.kept hb1)
  clear hb1
  go_wp2_with fail
  refine (write06_any _ l body _ F1.out hb20 HZ.out HL20.out).mono ?_
  rintro e w2 ⟨rfl, hb2⟩
  rw [HV.out]
  have K2 := hide (K1.out.trans (hb2.mono K1.out.size))
  clear hb2
  go_wp2_with fail
  refine (live6_any _).mono ?_
  rintro e wl ⟨rfl, hbl⟩
  go_wp2_with fail
  go_ret
  exact ⟨rfl, (K2.out).trans (hbl.mono (K2.out).size)⟩

end Go.Proofs.YtcndklegoadjcaaDoor
