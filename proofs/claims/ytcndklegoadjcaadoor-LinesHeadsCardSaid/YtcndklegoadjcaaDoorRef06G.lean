/- WALK of the reference of layer 6: Get. No statement is proved here. -/
import Derived.Test.YtcndklegoadjcaaDoorFields
namespace Go.Proofs.YtcndklegoadjcaaDoor
open Go.RowKit
set_option linter.unusedVariables false
set_option linter.unusedSimpArgs false
set_option maxRecDepth 100000
set_option maxHeartbeats 1000000 in
theorem get06_any (v : Value) (l : List (List UInt8 × List UInt8)) (s : ByteArray) (w : World) (hl : FieldsIn w v l) (hs : s.size ≤ 70368744177664)
    (hz : ∀ f ∈ l, f.1.length ≤ 70368744177664 ∧ f.2.length ≤ 70368744177664) (hn : l.length ≤ 70368744177664) :
    Calls Tryd.prog 14 #[v, .string s] w fun e w' => e = .returned (getV (getL l s.data.toList)) ∧ Below w.heap.size w w' := by
  obtain ⟨A, cap, rfl⟩ := hl.form
  have HL := hide hl
  have HZ := hide hz
  obtain ⟨S, hS⟩ : ∃ S, S = str (lowL s.data.toList) := ⟨_, rfl⟩
  have HS := hide hS
  clear hl hz hS
  go_enter Tryd.func14, Tryd.ntmps14
  go_wp2_with fail
  go_loopw [6] (fun i wr => ∃ k : Nat, k ≤ l.length ∧ i = .int .i64 k ∧ Hid (Below w.heap.size w wr) ∧ Hid (getFrom l s.data.toList k = getL l s.data.toList)) (fun i _ => l.length - (intOf i).toNat)
  case atStart => exact ⟨0, Nat.zero_le _, rfl, hide (Below.refl _ _), hide rfl⟩
  case round =>
    obtain ⟨k, hk, rfl, HB, HG⟩ := hrel
    by_cases hlt : k < l.length
    · obtain ⟨f, hf⟩ : ∃ f, l[k]? = some f := ⟨_, List.getElem?_eq_getElem hlt⟩
      obtain ⟨a, ha, hc1, hc2⟩ := (HL.out.kept HB.out).cells k f hf
      subst ha
      have e3 : ({ block := (a.add (k * 2)).block, off := (a.add (k * 2)).off + 1 } : Addr) = a.add (k * 2 + 1) := by rw [← Addr.add_add]; rfl
      have hz1 := (HZ.out f (List.mem_of_getElem? hf)).1
      have HF := hide hf
      have HC2 := hide hc2
      clear hf hc2
      go_wp2_with fail
      refine (small_any (str f.1) _ (by rw [str_size]; exact hz1)).mono ?_
      rintro e w2 ⟨rfl, hb2⟩
      rw [str_toList]
      have HB2 : Hid (Below w.heap.size w w2) := hide (HB.out.trans (hb2.mono HB.out.size))
      clear hb2 hc1
      go_wp2_with fail
      refine (small_any s _ hs).mono ?_
      rintro e w3 ⟨rfl, hb3⟩
      rw [← HS.out]
      have HB3 : Hid (Below w.heap.size w w3) := hide (HB2.out.trans (hb3.mono HB2.out.size))
      clear hb3
      obtain ⟨a', ha', hc1, hc2⟩ := (HL.out.kept HB3.out).cells k f HF.out
      injection ha' with ha'
      subst ha'
      have hc3 : w3.cell? { block := (a.add (k * 2)).block, off := (a.add (k * 2)).off + 1 } = some (.string (str f.2)) := by rw [e3]; exact hc2
      clear e3
      by_cases heq : lowL f.1 = lowL s.data.toList
      · have t0 : ((str (lowL f.1)).toList == S.toList) = true := by rw [HS.out, heq]; exact beq_self_eq_true _
        have HR : Hid (getL l s.data.toList = some f.2) := hide (by rw [← HG.out]; exact getFrom_yes HF.out heq)
        clear heq
        go_wp2_with fail
        go_ret2
        exact ⟨by rw [HR.out]; rfl, HB3.out⟩
      · have t0 : ((str (lowL f.1)).toList == S.toList) = false := by
          rw [HS.out, bytes_list, bytes_list, str_toList, str_toList]; exact beq_eq_false_iff_ne.2 heq
        have HN : Hid (getFrom l s.data.toList (k + 1) = getL l s.data.toList) := hide (by rw [← getFrom_no HF.out heq]; exact HG.out)
        clear heq
        go_wp2_with fail
        go_roundw
        case rel => exact ⟨k + 1, by omega, by go_num, HB3, HN⟩
        case measure => simp [intOf]; omega
    · have HR : Hid (getL l s.data.toList = none) := hide (by rw [← HG.out]; exact getFrom_end (by omega))
      go_wp2_with fail
      go_ret2
      exact ⟨by rw [HR.out]; rfl, HB.out⟩
end Go.Proofs.YtcndklegoadjcaaDoor
