/- WALK of muslinref20.Text. Written by wip/tools/pnrd.py. No statement is proved here. Own work of the verifier. -/
import Derived.Test.YtdeaofnhdbhknaaPnRc
import Derived.Test.YtdeaofnhdbhknaaPnRb
import Derived.Test.YtdeaofnhdbhknaaRef06C
import Derived.Test.YtdeaofnhdbhknaaPnT
import Derived.Test.YtdeaofnhdbhknaaPlainQuotedLaw
import Derived.Test.YtdeaofnhdbhknaaPlnS
namespace Go.Proofs.Ytdeaofnhdbhknaa
open Go.RowKit
set_option linter.unusedVariables false
set_option linter.unusedSimpArgs false
set_option maxRecDepth 100000
theorem cost_at {t : Tr} {n : Nat} {p : NdH} {k : Tr} (h : t.list[n]? = some (p, k)) : p.text.length + costT k ≤ costT t ∧ k.depth ≤ t.depth := by
  induction n generalizing t with
  | zero => cases t with
    | nil => cases h
    | cons q K R =>
      have e : (q, K) = (p, k) := Option.some.inj h
      injection e with e1 e2
      subst e1 e2
      simp only [costT, Tr.depth]; omega
  | succ n ih => cases t with
    | nil => cases h
    | cons q K R =>
      have := ih (t := R) h
      simp only [costT, Tr.depth]; omega
theorem lfIf_ge (out : List UInt8) : out.length ≤ (lfIf out).length := by unfold lfIf; split <;> simp
theorem textR_ge (T : Tr) (out : List UInt8) : out.length ≤ (textR T out).length := by
  induction T generalizing out with
  | nil => exact Nat.le_refl _
  | cons h K R ihK ihR =>
    rw [textR]
    refine Nat.le_trans ?_ (ihR _)
    have := lfIf_ge out
    split
    · simp
    · split
      · simp
      · split
        · rw [List.length_append]; omega
        · simp
def RefTextQ (N : Nat) : Prop := ∀ (v : Value) (T : Tr) (w : World), T.count < N → N ≤ 1048576 → costT T * (3 * T.depth + 1) ≤ 4000000 → NodesIn w v T →
    Calls Try.prog 17 #[v] w fun e w' => e = .returned (.string (str (textR T []))) ∧ Below w.heap.size w w'
set_option maxHeartbeats 8000000 in
theorem refText_step (n : Nat) (IH : RefTextQ n) : RefTextQ (n + 1) := by
  intro v T w hn hN hcost hT
  have hlen : T.len ≤ 1048576 := Nat.le_trans (Tr.len_count T) (by omega)
  have hfin := textR_len T []
  rw [List.length_nil, Nat.zero_add] at hfin
  have HFIN : Hid ((textR T []).length ≤ 4000000) := hide (Nat.le_trans hfin hcost)
  have HIH : Hid (∀ (k : Nat) (p : NdH) (K : Tr), T.list[k]? = some (p, K) → (textR K []).length ≤ 4000000 ∧ ∀ (u : Value) (w1 : World), NodesIn w1 u K → Calls Try.prog 17 #[u] w1 fun e w' => e = .returned (.string (str (textR K []))) ∧ Below w1.heap.size w1 w') := hide (fun k p K h => by
    obtain ⟨c1, c2⟩ := cost_at h
    have c3 := Tr.at_count h
    have c4 : costT K * (3 * K.depth + 1) ≤ costT T * (3 * T.depth + 1) := Nat.mul_le_mul (by omega) (by omega)
    have c5 := textR_len K []
    rw [List.length_nil, Nat.zero_add] at c5
    exact ⟨by omega, fun u w1 hu => IH u K w1 (by omega) (by omega) (by omega) hu⟩)
  obtain ⟨A, c, rfl⟩ := NodesC.form hT
  have H := hide hT
  clear hT hfin hcost hn hN IH
  go_enter Try.func17, Try.ntmps17
  go_wp2_with fail
  go_loopw [3, 4] (fun ov i wr => ∃ (k : Nat) (O : ByteArray), k ≤ T.len ∧ i = .int .i64 k ∧ ov = .string O ∧ Hid (Below w.heap.size w wr) ∧ Hid (textR (Tr.of (T.list.drop k)) O.data.toList = textR T [])) (fun _ i _ => T.len - (intOf i).toNat)
  case atStart =>
    have h0 : textR (Tr.of (T.list.drop 0)) [] = textR T [] := by rw [List.drop_zero, Tr.of_list]
    exact ⟨0, _, Nat.zero_le _, rfl, rfl, hide (Below.refl _ _), hide h0⟩
  case round =>
    obtain ⟨k, O, hk, rfl, rfl, HB, HG⟩ := hrel
    by_cases hlt : k < T.len
    · obtain ⟨⟨h, K⟩, hf⟩ : ∃ f, T.list[k]? = some f := ⟨_, List.getElem?_eq_getElem (by rw [Tr.len_list]; exact hlt)⟩
      obtain ⟨a, d, x, y, z, m, ha, -, p1, p2, -, p3, p4, hm, hK⟩ := NodesC.at (NodesIn.kept H.out HB.out) k h K hf
      subst ha hm
      obtain ⟨hXL, hIK⟩ := HIH.out k h K hf
      have HKT := hide (hIK _ wr hK)
      have HXL := hide hXL
      have HF := hide hf
      have HSTEP : Hid (textR (Tr.of (T.list.drop (k + 1))) (if h.name = [] then O.data.toList ++ h.text else if h.name = brN then O.data.toList ++ [10] else if h.name = quoN then lfIf O.data.toList ++ quotedL (cutL (textR K [])) else O.data.toList ++ textR K []) = textR T []) := hide (by
        rw [← HG.out, drop_at hf, Tr.of, textR])
      have HOS : Hid (∀ P : List UInt8, textR (Tr.of (T.list.drop (k + 1))) P = textR T [] → P.length ≤ 4000000) := hide (fun P e => by
        have := textR_ge (Tr.of (T.list.drop (k + 1))) P
        rw [e] at this
        exact Nat.le_trans this HFIN.out)
      have hOz : O.size ≤ 4000000 := by
        have := textR_ge (Tr.of (T.list.drop k)) O.data.toList
        rw [HG.out, toList_length] at this
        exact Nat.le_trans this HFIN.out
      obtain ⟨NM, hNM⟩ : ∃ X, X = str h.name := ⟨_, rfl⟩
      obtain ⟨TX, hTX⟩ : ∃ X, X = str h.text := ⟨_, rfl⟩
      rw [← hNM] at p1
      rw [← hTX] at p3
      have HTX : Hid (TX.data.toList = h.text) := hide (by rw [hTX, str_toList])
      clear hK hf hXL hIK
      by_cases c0 : h.name = []
      · have n0 : NM.toList.isEmpty = true := by rw [hNM, str_list, c0]; rfl
        have HS : Hid (textR (Tr.of (T.list.drop (k + 1))) (O.data.toList ++ h.text) = textR T []) := hide (by have := HSTEP.out; rw [if_pos c0] at this; exact this)
        have hz := HOS.out _ HS.out
        rw [List.length_append, toList_length, ← HTX.out, toList_length] at hz
        have z1 : ¬ (9223372036854775807 < O.size + TX.size) := by omega
        clear hz c0 hNM hTX HSTEP HOS
        go_wp2_with fail
        go_roundw
        case rel => exact ⟨k + 1, _, by omega, by go_num, rfl, HB, hide (by rw [show (O ++ TX).data.toList = O.data.toList ++ h.text by rw [ByteArray.data_append, Array.toList_append, HTX.out]]; exact HS.out)⟩
        case measure => simp [intOf]; omega
      · have n0 : NM.toList.isEmpty = false := by rw [hNM, str_list]; simp [c0]
        by_cases c1 : h.name = brN
        · have n1 : (NM.toList == [98, 114]) = true := by rw [hNM, str_list, c1]; rfl
          have HS : Hid (textR (Tr.of (T.list.drop (k + 1))) (O.data.toList ++ [10]) = textR T []) := hide (by have := HSTEP.out; rw [if_neg c0, if_pos c1] at this; exact this)
          have z1 : ¬ (9223372036854775807 < O.size + 1) := by omega
          clear c0 c1 hNM hTX HSTEP HOS
          go_wp2_with fail
          go_roundw
          case rel => exact ⟨k + 1, _, by omega, by go_num, rfl, HB, hide (by rw [show (O ++ ⟨#[10]⟩).data.toList = O.data.toList ++ [10] by rw [ByteArray.data_append, Array.toList_append]]; exact HS.out)⟩
          case measure => simp [intOf]; omega
        · have n1 : (NM.toList == [98, 114]) = false := by rw [hNM, str_list]; exact beq_eq_false_iff_ne.2 c1
          by_cases c2 : h.name = quoN
          · have n2 : (NM.toList == [98, 108, 111, 99, 107, 113, 117, 111, 116, 101]) = true := by rw [hNM, str_list, c2]; rfl
            have HS : Hid (textR (Tr.of (T.list.drop (k + 1))) (lfIf O.data.toList ++ quotedL (cutL (textR K []))) = textR T []) := hide (by have := HSTEP.out; rw [if_neg c0, if_neg c1, if_pos c2] at this; exact this)
            obtain ⟨X, hX⟩ : ∃ X, X = textR K [] := ⟨_, rfl⟩
            rw [← hX] at HKT HXL HS
            have HCT := hide (fun w1 : World => cut06_any (str X) w1 (by rw [str_size]; have := HXL.out; omega))
            rw [str_toList] at HCT
            obtain ⟨LL, hLL⟩ : ∃ L, L = cutL X := ⟨_, rfl⟩
            have hll : LL.length ≤ 4000000 := by have := (cutL_sizes X).1; rw [← hLL] at this; have := HXL.out; omega
            rw [← hLL] at HS HCT
            have hQ := HOS.out _ HS.out
            have HQS : Hid (∀ j, (lfIf O.data.toList).length + (quotedL (LL.take j)).length ≤ 4000000) := hide (fun j => by have := quotedL_take LL j; rw [List.length_append] at hQ; omega)
            have z0 : ¬ (9223372036854775807 < O.size + 1) := by omega
            clear c0 c1 c2 hNM hTX HSTEP HOS hX hLL hQ
            by_cases hO : O.data.toList = []
            · have t1 : O.toList.isEmpty = true := by rw [bytes_list, hO]; rfl
              have HLF : Hid ((O : ByteArray).data.toList = lfIf O.data.toList) := hide (by rw [hO]; rfl)
              go_wp2_with fail
              refine HKT.out.mono ?_
              rintro e w2 ⟨rfl, hb2⟩
              have HB2 := hide (bl_two HB.out hb2)
              clear hb2 HKT
              go_wp2_with fail
              refine (HCT.out w2).mono ?_
              rintro e w3 ⟨v3, rfl, hb3⟩
              have HB3 := hide (bl_two HB2.out hb3.below)
              have HTX3 := hide (TxIn.of_buf hb3)
              obtain ⟨o3, c3, rfl⟩ := HTX3.out.form
              clear hb3 HCT
              go_wp2_with fail
              go_loopw [3, 6] (fun ov i wq => ∃ (j : Nat) (P : ByteArray), j ≤ LL.length ∧ i = .int .i64 j ∧ ov = .string P ∧ Hid (wq = w3) ∧ Hid (P.data.toList = lfIf O.data.toList ++ quotedL (LL.take j))) (fun _ i _ => LL.length - (intOf i).toNat)
              case atStart => exact ⟨0, _, Nat.zero_le _, rfl, rfl, hide rfl, hide (HLF.out.trans (by rw [List.take_zero]; simp [quotedL]))⟩
              case round =>
                obtain ⟨j, P, hj, rfl, rfl, HW3, HP⟩ := hrel
                by_cases hlj : j < LL.length
                · obtain ⟨y2, hy2⟩ : ∃ y, LL[j]? = some y := ⟨_, List.getElem?_eq_getElem hlj⟩
                  obtain ⟨a3, rfl, hc3⟩ : ∃ a, o3 = some a ∧ wr.cell? (a.add j) = some (.string (str y2)) := by
                    rcases HTX3.out with ⟨_, h⟩ | ⟨a, cap, h1, _, _, h4⟩
                    · rw [h] at hlj; exact absurd hlj (Nat.not_lt_zero _)
                    · injection h1 with h1 _ _
                      exact ⟨a, h1, by rw [HW3.out]; exact h4 j y2 hy2⟩
                  obtain ⟨Y, hY⟩ : ∃ X, X = str y2 := ⟨_, rfl⟩
                  rw [← hY] at hc3
                  have HN : Hid ((P ++ ⟨#[62, 32]⟩ ++ Y ++ ⟨#[10]⟩).data.toList = lfIf O.data.toList ++ quotedL (LL.take (j + 1))) := hide (by
                    rw [quotedL_next _ _ _ hy2, hY]
                    simp [ByteArray.data_append, str_toList, HP.out])
                  have hz := HQS.out (j + 1)
                  have hz2 := congrArg List.length HN.out
                  rw [toList_length, List.length_append] at hz2
                  have hz3 : (P ++ ⟨#[62, 32]⟩ ++ Y ++ ⟨#[10]⟩ : ByteArray).size = P.size + 2 + Y.size + 1 := by simp [ByteArray.size_append]; rfl
                  have z1 : ¬ (9223372036854775807 < P.size + 2) := by omega
                  have z2 : ¬ (9223372036854775807 < P.size + 2 + Y.size) := by omega
                  have z3 : ¬ (9223372036854775807 < P.size + 2 + Y.size + 1) := by omega
                  clear hz hz2 hz3 hY hy2
                  go_wp2_with fail
                  go_roundw
                  case rel => exact ⟨j + 1, _, by omega, by go_num, rfl, HW3, HN⟩
                  case measure => simp [intOf]; omega
                · obtain rfl : j = LL.length := by omega
                  have HPF : Hid (P.data.toList = lfIf O.data.toList ++ quotedL LL) := hide (by have := HP.out; rw [List.take_length] at this; exact this)
                  have HBR : Hid (Below w.heap.size w wr) := hide (by rw [HW3.out]; exact HB3.out)
                  go_wp2_with fail
                  go_roundw
                  case rel => exact ⟨k + 1, _, by omega, by go_num, rfl, HBR, hide (by rw [HPF.out]; exact HS.out)⟩
                  case measure => simp [intOf]; omega
            · have t1 : O.toList.isEmpty = false := emptyN hO
              have hpos : 0 < O.size := by have := List.length_pos_iff.2 hO; rw [toList_length] at this; exact this
              have e5 : O.size - 1 < O.size := by omega
              have hlast : O.data.toList.getLast? = some (O[O.size - 1]'e5) := by
                rw [List.getLast?_eq_getElem?, toList_length, List.getElem?_eq_getElem (by rw [toList_length]; exact e5), at_listJ]
              have e1 : ((O.size : Int) - 1).toNat = O.size - 1 := by omega
              have e3 : (0 : Int) ≤ (O.size : Int) - 1 := by omega
              have e4 : (O.size : Int) - 1 < (O.size : Int) := by omega
              have e2 : wrap64 ((O.size : Int) - 1) = (O.size : Int) - 1 := by clear z0 hll hk hlt hlen; unfold wrap64; omega
              have HLST := hide hlast
              have HNE := hide hO
              clear hlast hO
              by_cases h10 : O[O.size - 1] = 10
              · have u4 : ((O[O.size - 1].toNat : Int) == 10) = true := tT 10 h10 (by decide)
                have HLFE : Hid (lfIf O.data.toList = O.data.toList) := hide (by unfold lfIf; rw [if_neg (fun e => e.2 (by rw [HLST.out, h10]))])
                clear h10
                have HLF : Hid ((O : ByteArray).data.toList = lfIf O.data.toList) := hide (by rw [HLFE.out])
                go_wp2_with fail
                refine HKT.out.mono ?_
                rintro e w2 ⟨rfl, hb2⟩
                have HB2 := hide (bl_two HB.out hb2)
                clear hb2 HKT
                go_wp2_with fail
                refine (HCT.out w2).mono ?_
                rintro e w3 ⟨v3, rfl, hb3⟩
                have HB3 := hide (bl_two HB2.out hb3.below)
                have HTX3 := hide (TxIn.of_buf hb3)
                obtain ⟨o3, c3, rfl⟩ := HTX3.out.form
                clear hb3 HCT
                go_wp2_with fail
                go_loopw [3, 6] (fun ov i wq => ∃ (j : Nat) (P : ByteArray), j ≤ LL.length ∧ i = .int .i64 j ∧ ov = .string P ∧ Hid (wq = w3) ∧ Hid (P.data.toList = lfIf O.data.toList ++ quotedL (LL.take j))) (fun _ i _ => LL.length - (intOf i).toNat)
                case atStart => exact ⟨0, _, Nat.zero_le _, rfl, rfl, hide rfl, hide (HLF.out.trans (by rw [List.take_zero]; simp [quotedL]))⟩
                case round =>
                  obtain ⟨j, P, hj, rfl, rfl, HW3, HP⟩ := hrel
                  by_cases hlj : j < LL.length
                  · obtain ⟨y2, hy2⟩ : ∃ y, LL[j]? = some y := ⟨_, List.getElem?_eq_getElem hlj⟩
                    obtain ⟨a3, rfl, hc3⟩ : ∃ a, o3 = some a ∧ wr.cell? (a.add j) = some (.string (str y2)) := by
                      rcases HTX3.out with ⟨_, h⟩ | ⟨a, cap, h1, _, _, h4⟩
                      · rw [h] at hlj; exact absurd hlj (Nat.not_lt_zero _)
                      · injection h1 with h1 _ _
                        exact ⟨a, h1, by rw [HW3.out]; exact h4 j y2 hy2⟩
                    obtain ⟨Y, hY⟩ : ∃ X, X = str y2 := ⟨_, rfl⟩
                    rw [← hY] at hc3
                    have HN : Hid ((P ++ ⟨#[62, 32]⟩ ++ Y ++ ⟨#[10]⟩).data.toList = lfIf O.data.toList ++ quotedL (LL.take (j + 1))) := hide (by
                      rw [quotedL_next _ _ _ hy2, hY]
                      simp [ByteArray.data_append, str_toList, HP.out])
                    have hz := HQS.out (j + 1)
                    have hz2 := congrArg List.length HN.out
                    rw [toList_length, List.length_append] at hz2
                    have hz3 : (P ++ ⟨#[62, 32]⟩ ++ Y ++ ⟨#[10]⟩ : ByteArray).size = P.size + 2 + Y.size + 1 := by simp [ByteArray.size_append]; rfl
                    have z1 : ¬ (9223372036854775807 < P.size + 2) := by clear e2; omega
                    have z2 : ¬ (9223372036854775807 < P.size + 2 + Y.size) := by clear e2; omega
                    have z3 : ¬ (9223372036854775807 < P.size + 2 + Y.size + 1) := by clear e2; omega
                    clear hz hz2 hz3 hY hy2
                    go_wp2_with fail
                    go_roundw
                    case rel => exact ⟨j + 1, _, by clear e2; omega, by go_num, rfl, HW3, HN⟩
                    case measure => simp [intOf]; omega
                  · obtain rfl : j = LL.length := by clear e2; omega
                    have HPF : Hid (P.data.toList = lfIf O.data.toList ++ quotedL LL) := hide (by have := HP.out; rw [List.take_length] at this; exact this)
                    have HBR : Hid (Below w.heap.size w wr) := hide (by rw [HW3.out]; exact HB3.out)
                    go_wp2_with fail
                    go_roundw
                    case rel => exact ⟨k + 1, _, by clear e2; omega, by go_num, rfl, HBR, hide (by rw [HPF.out]; exact HS.out)⟩
                    case measure => simp [intOf]; omega
              · have u4 : ((O[O.size - 1].toNat : Int) == 10) = false := tF 10 h10 (by decide)
                have HLFE : Hid (lfIf O.data.toList = O.data.toList ++ [10]) := hide (by unfold lfIf; rw [if_pos ⟨HNE.out, by rw [HLST.out]; intro e; exact h10 (Option.some.inj e)⟩])
                clear h10
                have HLF : Hid ((O ++ ⟨#[10]⟩ : ByteArray).data.toList = lfIf O.data.toList) := hide (by rw [HLFE.out, ByteArray.data_append, Array.toList_append])
                go_wp2_with fail
                refine HKT.out.mono ?_
                rintro e w2 ⟨rfl, hb2⟩
                have HB2 := hide (bl_two HB.out hb2)
                clear hb2 HKT
                go_wp2_with fail
                refine (HCT.out w2).mono ?_
                rintro e w3 ⟨v3, rfl, hb3⟩
                have HB3 := hide (bl_two HB2.out hb3.below)
                have HTX3 := hide (TxIn.of_buf hb3)
                obtain ⟨o3, c3, rfl⟩ := HTX3.out.form
                clear hb3 HCT
                go_wp2_with fail
                go_loopw [3, 6] (fun ov i wq => ∃ (j : Nat) (P : ByteArray), j ≤ LL.length ∧ i = .int .i64 j ∧ ov = .string P ∧ Hid (wq = w3) ∧ Hid (P.data.toList = lfIf O.data.toList ++ quotedL (LL.take j))) (fun _ i _ => LL.length - (intOf i).toNat)
                case atStart => exact ⟨0, _, Nat.zero_le _, rfl, rfl, hide rfl, hide (HLF.out.trans (by rw [List.take_zero]; simp [quotedL]))⟩
                case round =>
                  obtain ⟨j, P, hj, rfl, rfl, HW3, HP⟩ := hrel
                  by_cases hlj : j < LL.length
                  · obtain ⟨y2, hy2⟩ : ∃ y, LL[j]? = some y := ⟨_, List.getElem?_eq_getElem hlj⟩
                    obtain ⟨a3, rfl, hc3⟩ : ∃ a, o3 = some a ∧ wr.cell? (a.add j) = some (.string (str y2)) := by
                      rcases HTX3.out with ⟨_, h⟩ | ⟨a, cap, h1, _, _, h4⟩
                      · rw [h] at hlj; exact absurd hlj (Nat.not_lt_zero _)
                      · injection h1 with h1 _ _
                        exact ⟨a, h1, by rw [HW3.out]; exact h4 j y2 hy2⟩
                    obtain ⟨Y, hY⟩ : ∃ X, X = str y2 := ⟨_, rfl⟩
                    rw [← hY] at hc3
                    have HN : Hid ((P ++ ⟨#[62, 32]⟩ ++ Y ++ ⟨#[10]⟩).data.toList = lfIf O.data.toList ++ quotedL (LL.take (j + 1))) := hide (by
                      rw [quotedL_next _ _ _ hy2, hY]
                      simp [ByteArray.data_append, str_toList, HP.out])
                    have hz := HQS.out (j + 1)
                    have hz2 := congrArg List.length HN.out
                    rw [toList_length, List.length_append] at hz2
                    have hz3 : (P ++ ⟨#[62, 32]⟩ ++ Y ++ ⟨#[10]⟩ : ByteArray).size = P.size + 2 + Y.size + 1 := by simp [ByteArray.size_append]; rfl
                    have z1 : ¬ (9223372036854775807 < P.size + 2) := by clear e2; omega
                    have z2 : ¬ (9223372036854775807 < P.size + 2 + Y.size) := by clear e2; omega
                    have z3 : ¬ (9223372036854775807 < P.size + 2 + Y.size + 1) := by clear e2; omega
                    clear hz hz2 hz3 hY hy2
                    go_wp2_with fail
                    go_roundw
                    case rel => exact ⟨j + 1, _, by clear e2; omega, by go_num, rfl, HW3, HN⟩
                    case measure => simp [intOf]; omega
                  · obtain rfl : j = LL.length := by clear e2; omega
                    have HPF : Hid (P.data.toList = lfIf O.data.toList ++ quotedL LL) := hide (by have := HP.out; rw [List.take_length] at this; exact this)
                    have HBR : Hid (Below w.heap.size w wr) := hide (by rw [HW3.out]; exact HB3.out)
                    go_wp2_with fail
                    go_roundw
                    case rel => exact ⟨k + 1, _, by clear e2; omega, by go_num, rfl, HBR, hide (by rw [HPF.out]; exact HS.out)⟩
                    case measure => simp [intOf]; omega
          · have n2 : (NM.toList == [98, 108, 111, 99, 107, 113, 117, 111, 116, 101]) = false := by rw [hNM, str_list]; exact beq_eq_false_iff_ne.2 c2
            have HS : Hid (textR (Tr.of (T.list.drop (k + 1))) (O.data.toList ++ textR K []) = textR T []) := hide (by have := HSTEP.out; rw [if_neg c0, if_neg c1, if_neg c2] at this; exact this)
            obtain ⟨X, hX⟩ : ∃ X, X = str (textR K []) := ⟨_, rfl⟩
            have hXs : X.size ≤ 4000000 := by rw [hX, str_size]; exact HXL.out
            have z1 : ¬ (9223372036854775807 < O.size + X.size) := by omega
            have HXX : Hid (X.data.toList = textR K []) := hide (by rw [hX, str_toList])
            rw [← hX] at HKT
            clear c0 c1 c2 hNM hTX HSTEP HOS hX
            go_wp2_with fail
            refine HKT.out.mono ?_
            rintro e w2 ⟨rfl, hb2⟩
            have HB2 := hide (bl_two HB.out hb2)
            clear hb2 HKT
            go_wp2_with fail
            go_roundw
            case rel => exact ⟨k + 1, _, by omega, by go_num, rfl, HB2, hide (by rw [show (O ++ X).data.toList = O.data.toList ++ textR K [] by rw [ByteArray.data_append, Array.toList_append, HXX.out]]; exact HS.out)⟩
            case measure => simp [intOf]; omega
    · obtain rfl : k = T.len := by omega
      have HE : Hid (O = str (textR T [])) := hide (ext_list (by
        have := HG.out
        rw [List.drop_of_length_le (by rw [Tr.len_list]; exact Nat.le_refl _)] at this
        rw [str_toList, ← this]; rfl))
      go_wp2_with fail
      go_ret
      exact ⟨congrArg (fun z => Ending.returned (Value.string z)) HE.out, HB.out⟩
theorem refText_all : ∀ n, RefTextQ n
  | 0 => fun v T w h => absurd h (Nat.not_lt_zero _)
  | n + 1 => refText_step n (refText_all n)
theorem refText_any (v : Value) (T : Tr) (w : World) (hn : T.count < 1048576) (hc : costT T * (3 * T.depth + 1) ≤ 4000000) (hT : NodesIn w v T) :
    Calls Try.prog 17 #[v] w fun e w' => e = .returned (.string (str (textR T []))) ∧ Below w.heap.size w w' :=
  refText_all (T.count + 1) v T w (Nat.lt_succ_self _) hn hc hT
end Go.Proofs.Ytdeaofnhdbhknaa
