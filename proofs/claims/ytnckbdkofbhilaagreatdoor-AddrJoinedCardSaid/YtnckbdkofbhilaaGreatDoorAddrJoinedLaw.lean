/- WALK of the law AddrJoined. No statement is proved here. -/
import Derived.Test.YtnckbdkofbhilaaGreatDoorAddrBackLaw
namespace Go.Proofs.YtnckbdkofbhilaaGreatDoor
open Go.RowKit
set_option linter.unusedVariables false
set_option linter.unusedSimpArgs false
set_option maxRecDepth 100000
/-- append(l, m...): m is a row that the call owns, too -/
theorem wpList_boxes_more {ops : Array Oper} {rest : List Oper} {o : Oper} {a : Act} {Q : Exit → Act → World → Prop} {w : World} (hgd : o.guard = none) (s x : Operand)
    (ho : o.op = .call { callee := .builtin .append, args := #[s, x], argTypes := #[25, 25] })
    (B : Nat) (v : Value) (l : List BoxL) (hs : a.eval s = v) (W0 : World) (hb : BBuf B v l W0 w) (B2 : Nat) (v2 : Value) (m : List BoxL) (W2 : World) (h2 : BBuf B2 v2 m W2 w)
    (hx : a.eval x = v2) (hlen : l.length + m.length ≤ 4398046511104)
    (h : ∀ v' w', BBuf B v' (l ++ m) W0 w' → wpList Tryz.prog ops Q rest (a.put o.dst v') w') : wpList Tryz.prog ops Q (o :: rest) a w := by
  obtain ⟨i0, hi, hz0, hz1, hz2⟩ := info_parts info_box
  rcases h2.1.2 with ⟨rfl, h0⟩ | ⟨g, cap, cur, rfl, hg, hh, hc, hm, _⟩
  · obtain rfl : m = [] := List.eq_nil_of_length_eq_zero h0
    refine wpList_append_own_none hgd s x 25 ho B 32 i0 2 Tryz.underlying25 hi v l.length (boxVals l) hs hb.1 hx ?_
    exact h v w (by rw [List.append_nil]; exact hb)
  · have h1 := h2.1
    refine wpList_append_own _ hgd s x 25 ho B 32 i0 (.agg #[.string ByteArray.empty, .string ByteArray.empty]) 2 32 Tryz.underlying25 hi hz0 hz1 hz2 rfl (by decide) v l.length (boxVals l) hs hb.1 ⟨g, 0, none⟩ m.length cap (boxVals m) hx (boxVals_length m) ?_ ?_ (by unfold maxLen; omega) (by omega) hb.2.2 ?_
    · intro j u hj
      exact h1.cells (g := g) rfl _ _ hj
    · intro u hu
      unfold boxVals at hu
      obtain ⟨f, _, hf⟩ := List.mem_flatMap.1 hu
      simp at hf
      rcases hf with rfl | rfl
      · rfl
      · rfl
    · intro v' w' ho' hg _
      exact h v' w' (hb.grown (l' := l ++ m) (by rw [boxVals_append, List.length_append]; exact ho') hg)
theorem okAll {l : List BoxL} (h : l.all okBox = true) : ∀ b ∈ l, okBox b = true := List.all_eq_true.1 h
set_option maxHeartbeats 4000000 in
theorem law_AddrJoined (v1 : Value) (l1 : List BoxL) {w : World} (hl1 : BoxesIn w v1 l1) (v2 : Value) (l2 : List BoxL) (hl2 : BoxesIn w v2 l2) (hE : Env w) :
    Calls Tryz.prog 7 #[v1, v2] w fun e w' => e = .returned (.bool true) ∧ Below w.heap.size w w' := by
  obtain ⟨A1, cap1, rfl⟩ := hl1.form
  obtain ⟨A2, cap2, rfl⟩ := hl2.form
  have HE := hide hE
  have HL1 := hide hl1
  have HL2 := hide hl2
  clear hl1 hl2 hE
  cases hf1 : fewX l1 with
  | false =>
    go_enter Tryz.func7, Tryz.ntmps7
    go_wp2_with fail
    refine (few08_any _ l1 _ HL1.out).mono ?_
    rintro e wq ⟨rfl, rfl⟩
    rw [hf1]
    go_wp2_with fail
    refine (live8_any _ HE.out).mono ?_
    rintro e wl ⟨rfl, hbl⟩
    go_wp2_with fail
    go_ret
    exact ⟨rfl, hbl⟩
  | true =>
  cases hf2 : fewX l2 with
  | false =>
    go_enter Tryz.func7, Tryz.ntmps7
    go_wp2_with fail
    refine (few08_any _ l1 _ HL1.out).mono ?_
    rintro e wq ⟨rfl, rfl⟩
    rw [hf1]
    go_wp2_with fail
    refine (few08_any _ l2 _ HL2.out).mono ?_
    rintro e wq ⟨rfl, rfl⟩
    rw [hf2]
    go_wp2_with fail
    refine (live8_any _ HE.out).mono ?_
    rintro e wl ⟨rfl, hbl⟩
    go_wp2_with fail
    go_ret
    exact ⟨rfl, hbl⟩
  | true =>
  obtain ⟨hz1, hn1, hj1⟩ := few_sizes hf1
  obtain ⟨hz2, hn2, hj2⟩ := few_sizes hf2
  have CW1 := hide (addrWrite_any _ l1 _ w HL1.out hz1 hn1 (Nat.le_trans hj1 (by decide)) HE.out.2.choose_spec)
  have CW2 := fun w2 (hb : Below w.heap.size w w2) => hide (addrWrite_any _ l2 _ w2 (HL2.out.kept hb) hz2 hn2 (Nat.le_trans hj2 (by decide)) (HE.out.kept hb).2.choose_spec)
  cases ho1 : l1.all okBox with
  | false =>
    rw [writeAll_no ho1] at CW1
    simp only [] at CW1
    obtain ⟨P, hP⟩ : ∃ P, str (writeAll l2).1 = P := ⟨_, rfl⟩
    obtain ⟨Q, hQ⟩ : ∃ Q, (writeAll l2).2 = Q := ⟨_, rfl⟩
    rw [hP, hQ] at CW2
    clear hz1 hn1 hj1 hz2 hn2 hj2 ho1 hP hQ
    go_enter Tryz.func7, Tryz.ntmps7
    go_wp2_with fail
    refine (few08_any _ l1 _ HL1.out).mono ?_
    rintro e wq ⟨rfl, rfl⟩
    rw [hf1]
    go_wp2_with fail
    refine (few08_any _ l2 _ HL2.out).mono ?_
    rintro e wq ⟨rfl, rfl⟩
    rw [hf2]
    go_wp2_with fail
    refine CW1.out.mono ?_
    rintro e w1 ⟨rfl, hb1⟩
    have K1 := hide hb1
    clear hb1
    go_wp2_with fail
    refine (CW2 _ K1.out).out.mono ?_
    rintro e w2 ⟨rfl, hb2⟩
    have K2 := hide (K1.out.trans (hb2.mono K1.out.size))
    clear hb2
    go_wp2_with fail
    refine (live8_any _ (HE.out.kept K2.out)).mono ?_
    rintro e wl ⟨rfl, hbl⟩
    go_wp2_with fail
    go_ret
    exact ⟨rfl, K2.out.trans (hbl.mono K2.out.size)⟩
  | true =>
  rw [writeAll_ok ho1] at CW1
  simp only [] at CW1
  cases ho2 : l2.all okBox with
  | false =>
    rw [writeAll_no ho2] at CW2
    simp only [] at CW2
    obtain ⟨P, hP⟩ : ∃ P, str (Lib.join (l1.map wBox) [44, 32]) = P := ⟨_, rfl⟩
    rw [hP] at CW1
    clear hz1 hn1 hj1 hz2 hn2 hj2 ho1 ho2 hP
    go_enter Tryz.func7, Tryz.ntmps7
    go_wp2_with fail
    refine (few08_any _ l1 _ HL1.out).mono ?_
    rintro e wq ⟨rfl, rfl⟩
    rw [hf1]
    go_wp2_with fail
    refine (few08_any _ l2 _ HL2.out).mono ?_
    rintro e wq ⟨rfl, rfl⟩
    rw [hf2]
    go_wp2_with fail
    refine CW1.out.mono ?_
    rintro e w1 ⟨rfl, hb1⟩
    have K1 := hide hb1
    clear hb1
    go_wp2_with fail
    refine (CW2 _ K1.out).out.mono ?_
    rintro e w2 ⟨rfl, hb2⟩
    have K2 := hide (K1.out.trans (hb2.mono K1.out.size))
    clear hb2
    go_wp2_with fail
    refine (live8_any _ (HE.out.kept K2.out)).mono ?_
    rintro e wl ⟨rfl, hbl⟩
    go_wp2_with fail
    go_ret
    exact ⟨rfl, K2.out.trans (hbl.mono K2.out.size)⟩
  | true =>
  rw [writeAll_ok ho2] at CW2
  simp only [] at CW2
  obtain ⟨S, hS⟩ : ∃ S, S = str (Lib.join (l1.map wBox) [44, 32]) := ⟨_, rfl⟩
  obtain ⟨T, hT⟩ : ∃ T, T = str (Lib.join (l2.map wBox) [44, 32]) := ⟨_, rfl⟩
  rw [← hS] at CW1
  rw [← hT] at CW2
  have zS : S.size ≤ 200000 := by rw [hS, str_size]; exact hj1
  have zT : T.size ≤ 200000 := by rw [hT, str_size]; exact hj2
  obtain ⟨p1, p2⟩ := parse_joined l1 (okAll ho1) (Lib.join (l2.map wBox) [44, 32])
  have e1 : ∀ x, (S ++ (⟨#[x]⟩ : ByteArray) ++ T).data.toList = S.data.toList ++ x :: T.data.toList := fun x => by simp
  have e2 : (S ++ (⟨#[44, 32]⟩ : ByteArray) ++ T).data.toList = S.data.toList ++ 44 :: 32 :: T.data.toList := by simp
  have P1 : parseL (S ++ (⟨#[44, 32]⟩ : ByteArray) ++ T) = parseL S ++ parseL T := by
    rw [parseL_F, parseL_F, parseL_F, e2, hS, hT, str_toList, str_toList]; exact p1
  have P2 : parseL (S ++ (⟨#[59]⟩ : ByteArray) ++ T) = parseL S ++ parseL T := by
    rw [parseL_F, parseL_F, parseL_F, e1, hS, hT, str_toList, str_toList]; exact p2
  have n1 := parse_count S
  have n2 := parse_count T
  have CP1 := fun w1 h => hide (addrParse_any S w1 (by omega) h)
  have CP2 := fun w1 h => hide (addrParse_any T w1 (by omega) h)
  have CP3 := fun w1 h => hide (addrParse_any (S ++ (⟨#[44, 32]⟩ : ByteArray) ++ T) w1 (by simp [ByteArray.size_append]; show S.size + (⟨#[44, 32]⟩ : ByteArray).size + T.size ≤ _; rw [show (⟨#[44, 32]⟩ : ByteArray).size = 2 from rfl]; omega) h)
  have CP4 := fun w1 h => hide (addrParse_any (S ++ (⟨#[59]⟩ : ByteArray) ++ T) w1 (by simp [ByteArray.size_append]; show S.size + (⟨#[59]⟩ : ByteArray).size + T.size ≤ _; rw [show (⟨#[59]⟩ : ByteArray).size = 1 from rfl]; omega) h)
  rw [P1] at CP3
  rw [P2] at CP4
  obtain ⟨L1, hL1⟩ : ∃ L, parseL S = L := ⟨_, rfl⟩
  obtain ⟨L2, hL2⟩ : ∃ L, parseL T = L := ⟨_, rfl⟩
  rw [hL1] at CP1 CP3 CP4 n1
  rw [hL2] at CP2 CP3 CP4 n2
  have HN1 : Hid (([] : List BoxL).length + L1.length ≤ 4398046511104) := hide (by simp; omega)
  have HN2 : Hid (([] ++ L1).length + L2.length ≤ 4398046511104) := hide (by simp; omega)
  have HN3 : Hid ((L1 ++ L2).length ≤ 1048576) := hide (by simp; omega)
  clear hz1 hn1 hj1 hz2 hn2 hj2 ho1 ho2 hS hT p1 p2 e1 e2 P1 P2 hL1 hL2 n1 n2
  go_enter Tryz.func7, Tryz.ntmps7
  go_wp2_with fail
  refine (few08_any _ l1 _ HL1.out).mono ?_
  rintro e wq ⟨rfl, rfl⟩
  rw [hf1]
  go_wp2_with fail
  refine (few08_any _ l2 _ HL2.out).mono ?_
  rintro e wq ⟨rfl, rfl⟩
  rw [hf2]
  go_wp2_with fail
  refine CW1.out.mono ?_
  rintro e w1 ⟨rfl, hb1⟩
  have K1 := hide hb1
  clear hb1
  go_wp2_with fail
  refine (CW2 _ K1.out).out.mono ?_
  rintro e w2 ⟨rfl, hb2⟩
  have K2 := hide (K1.out.trans (hb2.mono K1.out.size))
  clear hb2
  go_wp2_with fail
  refine (CP1 _ (HE.out.kept K2.out).1).out.mono ?_
  rintro e w3 ⟨u3, rfl, hb3⟩
  have K3 := hide (K2.out.trans (hb3.below.mono K2.out.size))
  have B3 := hide hb3
  clear hb3
  go_wp2_with (at_builtin; go_must (refine wpList_boxes_more rfl _ _ rfl w3.heap.size (.slice none 0 0) [] rfl w3 (BBuf.nil (Below.refl _ _) (Nat.le_refl _)) w2.heap.size _ L1 w2 B3.out rfl HN1.out ?_; intro v4 w4 hb4; have B4 := hide hb4; have K4 := hide (K3.out.trans (hb4.below.mono K3.out.size)); clear hb4))
  refine (CP2 _ (HE.out.kept K4.out).1).out.mono ?_
  rintro e w5 ⟨u5, rfl, hb5⟩
  have K5 := hide (K4.out.trans (hb5.below.mono K4.out.size))
  have B5 := hide hb5
  have B4' := hide (B4.out.kept hb5.below)
  clear hb5
  go_wp2_with (at_builtin; go_must (refine wpList_boxes_more rfl _ _ rfl w3.heap.size v4 ([] ++ L1) rfl w3 B4'.out w4.heap.size _ L2 w4 B5.out rfl HN2.out ?_; intro v6 w6 hb6; have B6 := hide hb6; have K6 := hide (K3.out.trans (hb6.below.mono K3.out.size)); clear hb6))
  refine (CP3 _ (HE.out.kept K6.out).1).out.mono ?_
  rintro e w7 ⟨u7, rfl, hb7⟩
  have K7 := hide (K6.out.trans (hb7.below.mono K6.out.size))
  have B7 := hide (B6.out.kept hb7.below)
  have F7 := hide hb7.in
  clear hb7
  go_wp2_with fail
  refine (same08_any _ _ (L1 ++ L2) (L1 ++ L2) _ F7.out (by have := B7.out.in; rwa [List.nil_append] at this) HN3.out).mono ?_
  rintro e w8 ⟨rfl, hb8⟩
  rw [show decide (L1 ++ L2 = L1 ++ L2) = true from decide_eq_true rfl]
  have K8 := hide (K7.out.trans (hb8.mono K7.out.size))
  have B8 := hide (B7.out.kept hb8)
  clear hb8
  go_wp2_with fail
  refine (CP4 _ (HE.out.kept K8.out).1).out.mono ?_
  rintro e w9 ⟨u9, rfl, hb9⟩
  have K9 := hide (K8.out.trans (hb9.below.mono K8.out.size))
  have B9 := hide (B8.out.kept hb9.below)
  have F9 := hide hb9.in
  clear hb9
  go_wp2_with fail
  refine (same08_any _ _ (L1 ++ L2) (L1 ++ L2) _ F9.out (by have := B9.out.in; rwa [List.nil_append] at this) HN3.out).mono ?_
  rintro e w10 ⟨rfl, hb10⟩
  rw [show decide (L1 ++ L2 = L1 ++ L2) = true from decide_eq_true rfl]
  have K10 := hide (K9.out.trans (hb10.mono K9.out.size))
  clear hb10
  go_wp2_with fail
  refine (live8_any _ (HE.out.kept K10.out)).mono ?_
  rintro e wl ⟨rfl, hbl⟩
  go_wp2_with fail
  go_ret
  exact ⟨rfl, K10.out.trans (hbl.mono K10.out.size)⟩
end Go.Proofs.YtnckbdkofbhilaaGreatDoor
