/- WALK of the law LinesGet. No statement is proved here. -/
import Derived.Test.YtcndklegoadjcaaDoorLinesLaw0
namespace Go.Proofs.YtcndklegoadjcaaDoor
open Go.RowKit
set_option linter.unusedVariables false
set_option linter.unusedSimpArgs false
set_option maxRecDepth 100000

theorem getL_first (f : FieldL) (l : List FieldL) : getL (f :: l) f.1 = some f.2 := by
  unfold getL; rw [List.find?_cons_of_pos (by simp)]; rfl
theorem getL_other (f : FieldL) (l : List FieldL) (n : List UInt8) (h : getL [f] n = none) : getL (f :: l) n = getL l n := by
  unfold getL at *
  cases hc : (lowL f.1 == lowL n) with
  | true => rw [List.find?_cons_of_pos (by simpa using hc)] at h; cases h
  | false => rw [List.find?_cons_of_neg (by simp [hc])]
set_option maxHeartbeats 4000000 in
theorem law_LinesGet (v : Value) (l : List FieldL) {w : World} (hl : FieldsIn w v l) (a b name : ByteArray) : Calls Tryd.prog 8 #[v, .agg #[.string a, .string b], .string name] w fun e w' => e = .returned (.bool true) ∧ Below w.heap.size w w' := by
  obtain ⟨A, cap, rfl⟩ := hl.form
  have K0 : Hid (Below w.heap.size w (w.alloc (.cells #[.string a, .string b] 40))) := hide ((Below.refl _ _).alloc (Nat.le_refl _) _)
  have HL : Hid (FieldsIn (w.alloc (.cells #[.string a, .string b] 40)) (.slice A l.length cap) l) := hide (hl.kept K0.out)
  have hc0 : (w.alloc (.cells #[.string a, .string b] 40)).cell? { block := w.heap.size, off := 0 } = some (.string a) := by rw [World.cell?_alloc_at _ _ _ _ rfl]; rfl
  have hc1 : (w.alloc (.cells #[.string a, .string b] 40)).cell? { block := w.heap.size, off := 1 } = some (.string b) := by rw [World.cell?_alloc_at _ _ _ _ rfl]; rfl
  clear hl
  cases hf_l : fewB l with
  | false =>
    go_enter Tryd.func8, Tryd.ntmps8
    go_wp2_with fail
    refine (few06_any _ l _ HL.out).mono ?_
    rintro e wq ⟨rfl, rfl⟩
    rw [hf_l]
    go_wp2_with fail

    refine (live6_any _).mono ?_
    rintro e wl ⟨rfl, hbl⟩
    go_wp2_with fail
    go_ret
    exact ⟨rfl, (K0.out).trans (hbl.mono (K0.out).size)⟩

  | true =>
  by_cases h_a : 500 < a.size
  · have t1 : decide ((500 : Int) < a.size) = true := decide_eq_true (by omega)
    go_enter Tryd.func8, Tryd.ntmps8
    go_wp2_with fail
    refine (few06_any _ l _ HL.out).mono ?_
    rintro e wq ⟨rfl, rfl⟩
    rw [hf_l]
    go_wp2_with fail

    refine (live6_any _).mono ?_
    rintro e wl ⟨rfl, hbl⟩
    go_wp2_with fail
    go_ret
    exact ⟨rfl, (K0.out).trans (hbl.mono (K0.out).size)⟩

  have t1 : decide ((500 : Int) < a.size) = false := decide_eq_false (by omega)
  by_cases h_b : 500 < b.size
  · have t2 : decide ((500 : Int) < b.size) = true := decide_eq_true (by omega)
    go_enter Tryd.func8, Tryd.ntmps8
    go_wp2_with fail
    refine (few06_any _ l _ HL.out).mono ?_
    rintro e wq ⟨rfl, rfl⟩
    rw [hf_l]
    go_wp2_with fail

    refine (live6_any _).mono ?_
    rintro e wl ⟨rfl, hbl⟩
    go_wp2_with fail
    go_ret
    exact ⟨rfl, (K0.out).trans (hbl.mono (K0.out).size)⟩

  have t2 : decide ((500 : Int) < b.size) = false := decide_eq_false (by omega)
  by_cases h_name : ¬ name.size ≤ 5000
  · go_enter Tryd.func8, Tryd.ntmps8
    go_wp2_with fail
    refine (few06_any _ l _ HL.out).mono ?_
    rintro e wq ⟨rfl, rfl⟩
    rw [hf_l]
    go_wp2_with fail

    refine (short06_any name _).mono ?_
    rintro e wq ⟨rfl, rfl⟩
    rw [show decide (name.size ≤ 5000) = false from decide_eq_false h_name]
    go_wp2_with fail

    refine (live6_any _).mono ?_
    rintro e wl ⟨rfl, hbl⟩
    go_wp2_with fail
    go_ret
    exact ⟨rfl, (K0.out).trans (hbl.mono (K0.out).size)⟩

  replace h_name := Decidable.not_not.1 h_name
  obtain ⟨h60, h500⟩ := few_fits hf_l
  have hz : ∀ f ∈ l, f.1.length ≤ 70368744177664 ∧ f.2.length ≤ 70368744177664 := fun f hf => by have := h500 f hf; omega
  obtain ⟨f, hf⟩ : ∃ f : FieldL, f = (a.data.toList, b.data.toList) := ⟨_, rfl⟩
  have HA : Hid (a = str f.1) := hide (by rw [hf]; exact (str_of a).symm)
  have HB : Hid (b = str f.2) := hide (by rw [hf]; exact (str_of b).symm)
  have HA2 : Hid (f.1 = a.data.toList) := hide (by rw [hf])
  have hfz : f.1.length ≤ 70368744177664 ∧ f.2.length ≤ 70368744177664 := by rw [hf]; simp only [toList_length]; omega
  have HZ := hide hz
  have HZ1 : Hid (∀ g ∈ f :: l, g.1.length ≤ 70368744177664 ∧ g.2.length ≤ 70368744177664) := hide (fun g hg => by
    rcases List.mem_cons.1 hg with rfl | hg
    · exact hfz
    · exact hz g hg)
  have HZ2 : Hid (∀ g ∈ [f], g.1.length ≤ 70368744177664 ∧ g.2.length ≤ 70368744177664) := hide (fun g hg => by
    rw [List.mem_singleton.1 hg]; exact hfz)
  have ha46 : a.size ≤ 70368744177664 := by omega
  have hn46 : name.size ≤ 70368744177664 := by omega
  have HLN : Hid (l.length ≤ 70368744177664 ∧ (f :: l).length ≤ 70368744177664 ∧ [f].length ≤ 70368744177664 ∧ [f].length + l.length ≤ 4398046511104) := hide (by simp; omega)
  have HG1 : Hid (getV (getL (f :: l) a.data.toList) = .tuple #[.string b, .bool true]) := hide (by rw [← HA2.out, getL_first, HB.out]; rfl)
  obtain ⟨g0, hg0⟩ : ∃ g0, g0 = getL l name.data.toList := ⟨_, rfl⟩
  obtain ⟨g1, hg1⟩ : ∃ g1, g1 = getL (f :: l) name.data.toList := ⟨_, rfl⟩
  obtain ⟨g2, hg2⟩ : ∃ g2, g2 = getL [f] name.data.toList := ⟨_, rfl⟩
  have HG0 := hide hg0
  have HGA := hide hg1
  have HG2 := hide hg2
  have htup : ∀ o : Option (List UInt8), ∃ X Y, getV o = .tuple #[.string X, .bool Y] ∧ Y = o.isSome := fun o => by
    cases o with
    | none => exact ⟨_, _, rfl, rfl⟩
    | some x => exact ⟨_, _, rfl, rfl⟩
  obtain ⟨X0, Y0, he0, hy0⟩ := htup g0
  obtain ⟨X1, Y1, he1, hy1⟩ := htup g1
  obtain ⟨X2, Y2, he2, hy2⟩ := htup g2
  have HE0 := hide he0
  have HE1 := hide he1
  have HE2 := hide he2
  have hsame : Y2 = false → X1 = X0 ∧ Y1 = Y0 := by
    intro hY
    have h2 : g2 = none := by rw [hY] at hy2; cases g2 with
      | none => rfl
      | some x => cases hy2
    have h3 : g1 = g0 := by rw [hg1, hg0]; exact getL_other f l _ (by rw [← hg2]; exact h2)
    rw [h3, he0] at he1
    injection he1 with he1
    simp at he1
    exact ⟨he1.1.symm, he1.2.symm⟩
  have HSAME := hide hsame
  have q1 : (b.toList == b.toList) = true := beq_self_eq_true _
  have q2 : (X0.toList == X0.toList) = true := beq_self_eq_true _
  have q3 : (Y0 == Y0) = true := beq_self_eq_true _
  clear hf hz hfz h60 h500 hg0 hg1 hg2 htup he0 he1 he2 hy0 hy1 hy2 hsame h_a h_b
  obtain ⟨W1, hW1⟩ : ∃ W1, W1 = w.alloc (.cells #[.string a, .string b] 40) := ⟨_, rfl⟩
  have hz1 : W1.heap.size = w.heap.size + 1 := by rw [hW1, World.size_alloc]
  have HB1 : Hid (FBuf W1.heap.size (.slice (some ⟨W1.heap.size + 1, 0, none⟩) 1 ((Question.appendCap 1 0 40).cut (W1.tape W1.drawn (Question.appendCap 1 0 40)))) [f] W1 ((W1.alloc (.cells #[.string a, .string b] 40)).alloc (.cells (#[.string a, .string b] ++ Builtin.zeroCells #[.string ⟨#[]⟩, .string ⟨#[]⟩] (((Question.appendCap 1 0 40).cut (W1.tape W1.drawn (Question.appendCap 1 0 40))) - 1)) 40)).drew) := hide (by
    have hq := fbuf_first W1 (W1.alloc (.cells #[.string a, .string b] 40)) f a b HA.out HB.out _ (cap_one W1 40).1 (cap_one W1 40).2 ((Below.refl _ _).alloc (Nat.le_refl _) _)
    rw [World.size_alloc] at hq
    exact hq)
  have HZ1S := hide hz1
  have HW1 : Hid (w.alloc (.cells #[.string a, .string b] 40) = W1) := hide hW1.symm
  rw [HW1.out] at HL hc0 hc1
  have K0' : Hid (Below w.heap.size w W1) := hide (by rw [← HW1.out]; exact K0.out)
  clear hW1 hz1
  cases hY2 : Y2 with
  | true =>
    subst hY2
    go_enter Tryd.func8, Tryd.ntmps8
    go_wp2_with fail
    rw [HW1.out]
    refine (few06_any _ l _ HL.out).mono ?_
    rintro e wq ⟨rfl, rfl⟩
    rw [hf_l]
    go_wp2_with fail
    refine (short06_any name _).mono ?_
    rintro e wq ⟨rfl, rfl⟩
    rw [show decide (name.size ≤ 5000) = true from decide_eq_true h_name]
    go_wp2_with (refine wpList_fieldsAll rfl _ _ rfl W1.heap.size (.slice (some ⟨W1.heap.size + 1, 0, none⟩) 1 ((Question.appendCap 1 0 40).cut (W1.tape W1.drawn (Question.appendCap 1 0 40)))) [f] rfl W1 HB1.out (.slice A l.length cap) l rfl (HL.out.kept HB1.out.below) HLN.out.2.2.2 ?_; intro v2 w2 hb2; obtain ⟨g2, c2, nM, rfl, hnM, hc2, hfi, hf1⟩ := hb2.parts; have HB2 := hide hb2.below; have HFI := hide hfi; have HF1 := hide hf1; have HNM := hide hnM; have hm1 : 1 ≤ nM := (by rw [hnM]; simp); have hc0' : w2.cell? { block := w.heap.size, off := 0 } = some (.string a) := (hb2.below.cell (p := ⟨w.heap.size, 0, none⟩) (by show w.heap.size < W1.heap.size; rw [HZ1S.out]; omega)).trans hc0; have hc1' : w2.cell? { block := w.heap.size, off := 1 } = some (.string b) := (hb2.below.cell (p := ⟨w.heap.size, 1, none⟩) (by show w.heap.size < W1.heap.size; rw [HZ1S.out]; omega)).trans hc1; clear hb2 hfi hf1 hnM)
    refine (get_any _ (f :: l) a _ HFI.out ha46 HZ1.out HLN.out.2.1).mono ?_
    rintro e w3 ⟨rfl, hb3⟩
    rw [HG1.out]
    have J3 := hide hb3
    clear hb3
    go_wp2_with fail
    refine (get_any _ l name _ ((HL.out.kept HB2.out).kept J3.out) hn46 HZ.out HLN.out.1).mono ?_
    rintro e w4 ⟨rfl, hb4⟩
    rw [← HG0.out, HE0.out]
    have J4 := hide (J3.out.trans (hb4.mono J3.out.size))
    clear hb4
    go_wp2_with fail
    refine (get_any _ (f :: l) name _ (HFI.out.kept J4.out) hn46 HZ1.out HLN.out.2.1).mono ?_
    rintro e w5 ⟨rfl, hb5⟩
    rw [← HGA.out, HE1.out]
    have J5 := hide (J4.out.trans (hb5.mono J4.out.size))
    clear hb5
    go_wp2_with fail
    refine (get_any _ [f] name _ (HF1.out.kept J5.out) hn46 HZ2.out HLN.out.2.2.1).mono ?_
    rintro e w6 ⟨rfl, hb6⟩
    rw [← HG2.out, HE2.out]
    have J6 := hide (J5.out.trans (hb6.mono J5.out.size))
    have hc6 : w6.cell? { block := w.heap.size, off := 1 } = some (.string b) := (J6.out.cell (p := ⟨w.heap.size, 1, none⟩) (World.block_lt_of_cell? _ _ hc1')).trans hc1'
    have K6 := hide ((K0'.out.trans (HB2.out.mono K0'.out.size)).trans (J6.out.mono (K0'.out.trans (HB2.out.mono K0'.out.size)).size))
    clear hb6
    go_wp2_with fail
    refine (live6_any _).mono ?_
    rintro e wl ⟨rfl, hbl⟩
    go_wp2_with fail
    go_ret
    exact ⟨rfl, K6.out.trans (hbl.mono K6.out.size)⟩

  | false =>
    obtain ⟨rfl, rfl⟩ := HSAME.out hY2
    subst hY2
    go_enter Tryd.func8, Tryd.ntmps8
    go_wp2_with fail
    rw [HW1.out]
    refine (few06_any _ l _ HL.out).mono ?_
    rintro e wq ⟨rfl, rfl⟩
    rw [hf_l]
    go_wp2_with fail
    refine (short06_any name _).mono ?_
    rintro e wq ⟨rfl, rfl⟩
    rw [show decide (name.size ≤ 5000) = true from decide_eq_true h_name]
    go_wp2_with (refine wpList_fieldsAll rfl _ _ rfl W1.heap.size (.slice (some ⟨W1.heap.size + 1, 0, none⟩) 1 ((Question.appendCap 1 0 40).cut (W1.tape W1.drawn (Question.appendCap 1 0 40)))) [f] rfl W1 HB1.out (.slice A l.length cap) l rfl (HL.out.kept HB1.out.below) HLN.out.2.2.2 ?_; intro v2 w2 hb2; obtain ⟨g2, c2, nM, rfl, hnM, hc2, hfi, hf1⟩ := hb2.parts; have HB2 := hide hb2.below; have HFI := hide hfi; have HF1 := hide hf1; have HNM := hide hnM; have hm1 : 1 ≤ nM := (by rw [hnM]; simp); have hc0' : w2.cell? { block := w.heap.size, off := 0 } = some (.string a) := (hb2.below.cell (p := ⟨w.heap.size, 0, none⟩) (by show w.heap.size < W1.heap.size; rw [HZ1S.out]; omega)).trans hc0; have hc1' : w2.cell? { block := w.heap.size, off := 1 } = some (.string b) := (hb2.below.cell (p := ⟨w.heap.size, 1, none⟩) (by show w.heap.size < W1.heap.size; rw [HZ1S.out]; omega)).trans hc1; clear hb2 hfi hf1 hnM)
    refine (get_any _ (f :: l) a _ HFI.out ha46 HZ1.out HLN.out.2.1).mono ?_
    rintro e w3 ⟨rfl, hb3⟩
    rw [HG1.out]
    have J3 := hide hb3
    clear hb3
    go_wp2_with fail
    refine (get_any _ l name _ ((HL.out.kept HB2.out).kept J3.out) hn46 HZ.out HLN.out.1).mono ?_
    rintro e w4 ⟨rfl, hb4⟩
    rw [← HG0.out, HE0.out]
    have J4 := hide (J3.out.trans (hb4.mono J3.out.size))
    clear hb4
    go_wp2_with fail
    refine (get_any _ (f :: l) name _ (HFI.out.kept J4.out) hn46 HZ1.out HLN.out.2.1).mono ?_
    rintro e w5 ⟨rfl, hb5⟩
    rw [← HGA.out, HE1.out]
    have J5 := hide (J4.out.trans (hb5.mono J4.out.size))
    clear hb5
    go_wp2_with fail
    refine (get_any _ [f] name _ (HF1.out.kept J5.out) hn46 HZ2.out HLN.out.2.2.1).mono ?_
    rintro e w6 ⟨rfl, hb6⟩
    rw [← HG2.out, HE2.out]
    have J6 := hide (J5.out.trans (hb6.mono J5.out.size))
    have hc6 : w6.cell? { block := w.heap.size, off := 1 } = some (.string b) := (J6.out.cell (p := ⟨w.heap.size, 1, none⟩) (World.block_lt_of_cell? _ _ hc1')).trans hc1'
    have K6 := hide ((K0'.out.trans (HB2.out.mono K0'.out.size)).trans (J6.out.mono (K0'.out.trans (HB2.out.mono K0'.out.size)).size))
    clear hb6
    go_wp2_with fail
    refine (live6_any _).mono ?_
    rintro e wl ⟨rfl, hbl⟩
    go_wp2_with fail
    go_ret
    exact ⟨rfl, K6.out.trans (hbl.mono K6.out.size)⟩

end Go.Proofs.YtcndklegoadjcaaDoor
