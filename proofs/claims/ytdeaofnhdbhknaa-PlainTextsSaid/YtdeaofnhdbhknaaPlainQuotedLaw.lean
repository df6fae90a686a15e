/- WALK of the law PlainQuoted. Written by wip/tools/plainquoted.py. No statement is proved here. Own work of the verifier. -/
import Derived.Test.YtdeaofnhdbhknaaPnLv
import Derived.Test.YtdeaofnhdbhknaaRef06C
import Derived.Test.YtdeaofnhdbhknaaPlainJoinedLaw
namespace Go.Proofs.Ytdeaofnhdbhknaa
open Go.RowKit
set_option linter.unusedVariables false
set_option linter.unusedSimpArgs false
set_option maxRecDepth 100000
theorem flat_sum (L : List (List UInt8)) : (L.flatMap id).length = (L.map List.length).sum := by
  induction L with
  | nil => rfl
  | cons x r ih => rw [List.flatMap_cons, List.length_append, ih, List.map_cons, List.sum_cons]; rfl
theorem quotedL_small (L : List (List UInt8)) (n : Nat) (h1 : L.length ≤ n) (h2 : (L.map List.length).sum ≤ n) : (quotedL L).length ≤ 4 * n := by
  rw [quotedL_len, flat_sum]; omega
theorem quotedL_take (L : List (List UInt8)) (j : Nat) : (quotedL (L.take j)).length ≤ (quotedL L).length := by
  have h : quotedL L = quotedL (L.take j) ++ quotedL (L.drop j) := by rw [← quotedL_append, List.take_append_drop]
  rw [h, List.length_append]; omega
theorem quotedL_next (L : List (List UInt8)) (j : Nat) (x : List UInt8) (h : L[j]? = some x) : quotedL (L.take (j + 1)) = quotedL (L.take j) ++ (62 :: 32 :: (x ++ [10])) := by
  rw [List.take_add_one, h, quotedL_append]
  congr 1
  simp [quotedL]
theorem no13 (X : ByteArray) (x : List UInt8) (h : X = str x) (hn : ∀ m (hm : m < X.size), X[m] ≠ 13) : (13 : UInt8) ∉ x := by
  intro hm
  obtain ⟨i, hi, e⟩ := List.getElem_of_mem hm
  have e2 : X.data.toList = x := by rw [h, str_toList]
  subst e2
  rw [toList_length] at hi
  exact hn i hi (by rw [← at_listJ]; exact e)
set_option maxHeartbeats 16000000 in
theorem law_PlainQuoted (s : ByteArray) (hmx : s.size ≤ maxLen) (w : World) :
    Calls Try.prog 7 #[.string s] w fun e w' => e = .returned (.bool true) ∧ Below w.heap.size w w' := by
  have hL0 : ∀ w1 : World, Below w.heap.size w w1 → Calls Try.prog 9 #[] w1 fun e w' => e = .returned (.bool true) ∧ Below w.heap.size w w' := fun w1 hb => (live20_any w1).mono fun e w' ⟨h1, h2⟩ => ⟨h1, bl_two hb h2⟩
  have HLV := hide hL0
  clear hL0 hmx
  by_cases hbig : 2000 < s.size
  · have t0 : decide ((2000 : Int) < (s.size : Int)) = true := decide_eq_true (by omega)
    go_enter Try.func7, Try.ntmps7
    go_wp2_with fail
    refine (HLV.out w (Below.refl _ _)).mono ?_
    rintro e wl ⟨rfl, hb⟩
    go_wp2_with fail
    go_ret
    exact ⟨rfl, hb⟩
  · have t0 : decide ((2000 : Int) < (s.size : Int)) = false := decide_eq_false (by omega)
    have hsm : s.size ≤ 2000 := by omega
    have HCS := hide (cut06_any s w (by omega))
    obtain ⟨ca, cs1⟩ := cutL_sizes s.data.toList
    rw [toList_length] at ca cs1
    have hqs := quotedL_small _ 2000 (Nat.le_trans ca hsm) (Nat.le_trans cs1 hsm)
    have hxm := cutL_size s.data.toList
    have HPQ := hide (plain_quoted s.data.toList)
    obtain ⟨LL, hLL⟩ : ∃ L, L = cutL s.data.toList := ⟨_, rfl⟩
    rw [← hLL] at HCS ca hqs hxm HPQ
    have HXM : Hid (∀ x ∈ LL, x.length ≤ 2000) := hide (fun x hx => by have := hxm x hx; rw [toList_length] at this; omega)
    have HQS : Hid (∀ j, (quotedL (LL.take j)).length ≤ 8000) := hide (fun j => Nat.le_trans (quotedL_take LL j) hqs)
    have hll : LL.length ≤ 2000 := by omega
    clear hbig cs1 ca hqs hxm hLL
    go_enter Try.func7, Try.ntmps7
    go_wp2_with fail
    refine HCS.out.mono ?_
    rintro e w1 ⟨v1, rfl, hb1⟩
    obtain ⟨o, cA, rfl, hF⟩ : ∃ o c, v1 = .slice o LL.length c ∧ ∀ (j : Nat) x, LL[j]? = some x → ∃ g, o = some ⟨g, 0, none⟩ ∧ w1.cell? ⟨g, j, none⟩ = some (.string (str x)) := by
      rcases hb1.form with ⟨h1, h⟩ | ⟨g, cap, h1, _, _, _, _, h6⟩
      · have h2 : LL = [] := List.map_eq_nil_iff.1 h
        exact ⟨none, 0, by rw [h2]; exact h1, fun j x h => by rw [h2] at h; cases h⟩
      · refine ⟨some ⟨g, 0, none⟩, cap, by rw [h1, List.length_map], fun j x hj => ⟨g, rfl, ?_⟩⟩
        have h3 := h6 j (str x) (by rw [List.getElem?_map, hj]; rfl)
        rw [Nat.zero_add] at h3; exact h3
    have HF := hide hF
    have HB1 := hide hb1.below
    clear hb1 hF HCS
    go_wp2_with fail
    go_loopw [4, 5] (fun t i wr => ∃ j : Nat, j ≤ LL.length ∧ i = .int .i64 j ∧ (∃ tS, t = .string tS ∧ Hid (tS = str (quotedL (LL.take j)))) ∧ Hid (wr = w1) ∧ Hid (∀ x ∈ LL.take j, (13 : UInt8) ∉ x ∧ (levelL x).1 ≤ 18)) (fun _ i _ => LL.length - (intOf i).toNat)
    case atStart => exact ⟨0, Nat.zero_le _, rfl, ⟨_, rfl, hide rfl⟩, hide rfl, hide (fun x h => by rw [List.take_zero] at h; cases h)⟩
    case round =>
      obtain ⟨j, hj, rfl, ⟨tS, rfl, HT⟩, HW, HG⟩ := hrel
      have HBR : Hid (Below w.heap.size w wr) := hide (by rw [HW.out]; exact HB1.out)
      by_cases hlt : j < LL.length
      · obtain ⟨x, hx⟩ : ∃ x, LL[j]? = some x := ⟨_, List.getElem?_eq_getElem hlt⟩
        obtain ⟨g, rfl, hc0⟩ := HF.out j x hx
        have hc : wr.cell? ⟨g, j, none⟩ = some (.string (str x)) := by rw [HW.out]; exact hc0
        have hxs := HXM.out x (List.mem_of_getElem? hx)
        have hV := level_any (str x) wr (by rw [str_size]; omega)
        rw [str_toList] at hV
        unfold levelV at hV
        obtain ⟨p, hp⟩ : ∃ p, p = levelL x := ⟨_, rfl⟩
        obtain ⟨X, hX⟩ : ∃ X, X = str x := ⟨_, rfl⟩
        rw [← hX, ← hp] at hV
        rw [← hX] at hc
        have hXS : X.size ≤ 2000 := by rw [hX, str_size]; exact hxs
        have htS : tS.size ≤ 8000 := by rw [HT.out, str_size]; exact HQS.out j
        have HVX := hide hV
        have HPX := hide (And.intro hX (And.intro hp hx))
        clear hV hX hp hx hc0 hxs
        go_wp2_with fail
        refine HVX.out.mono ?_
        rintro e w3 ⟨rfl, rfl⟩
        by_cases hn : 18 < p.1
        · have u1 : decide ((18 : Int) < (p.1 : Int)) = true := decide_eq_true (by omega)
          have HBW := HBR
          go_wp2_with fail
          refine (HLV.out _ HBW.out).mono ?_
          rintro e wl ⟨rfl, hb⟩
          go_wp2_with fail
          go_ret
          exact ⟨rfl, hb⟩
        · have u1 : decide ((18 : Int) < (p.1 : Int)) = false := decide_eq_false (by omega)
          have u1n : ¬ (18 < p.1) := hn
          go_wp2_with fail
          go_loopw [8] (fun i wq => ∃ k : Nat, k ≤ X.size ∧ i = .int .i64 k ∧ Hid (wq = w3) ∧ Hid (∀ m (h : m < X.size), m < k → X[m] ≠ 13)) (fun i _ => X.size - (intOf i).toNat)
          case atStart => exact ⟨0, Nat.zero_le _, rfl, hide rfl, hide (fun m h hm => absurd hm (Nat.not_lt_zero _))⟩
          case round =>
            obtain ⟨k, hk, rfl, HW2, HG2⟩ := hrel
            have hc2 : wr.cell? ⟨g, j, none⟩ = some (.string X) := by rw [HW2.out]; exact hc
            have HBQ : Hid (Below w.heap.size w wr) := hide (by rw [HW2.out]; exact HBR.out)
            by_cases hlk : k < X.size
            · by_cases h13 : X[k] = 13
              · have u2 : ((X[k].toNat : Int) == 13) = true := tT 13 h13 (by decide)
                clear h13
                go_wp2_with fail
                refine (HLV.out wr HBQ.out).mono ?_
                rintro e wl ⟨rfl, hb⟩
                go_wp2_with fail
                go_ret
                exact ⟨rfl, hb⟩
              · have u2 : ((X[k].toNat : Int) == 13) = false := tF 13 h13 (by decide)
                have HN : Hid (∀ m (h : m < X.size), m < k + 1 → X[m] ≠ 13) := hide (fun m hm h => by
                  rcases Nat.lt_succ_iff_lt_or_eq.1 h with h | rfl
                  · exact HG2.out m hm h
                  · exact h13)
                clear h13
                go_wp2_with fail
                go_roundw
                case rel => exact ⟨k + 1, by omega, by go_num, HW2, HN⟩
                case measure => simp [intOf]; omega
            · obtain rfl : k = X.size := by omega
              have z1 : ¬ (9223372036854775807 < tS.size + 2) := by omega
              have z2 : ¬ (9223372036854775807 < tS.size + 2 + X.size) := by omega
              have z3 : ¬ (9223372036854775807 < tS.size + 2 + X.size + 1) := by omega
              have HTN : Hid (tS ++ ⟨#[62, 32]⟩ ++ X ++ ⟨#[10]⟩ = str (quotedL (LL.take (j + 1)))) := hide (ext_list (by
                rw [str_toList, quotedL_next _ _ _ HPX.out.2.2, HT.out, HPX.out.1]
                simp [ByteArray.data_append, str_toList]))
              have HGN : Hid (∀ x ∈ LL.take (j + 1), (13 : UInt8) ∉ x ∧ (levelL x).1 ≤ 18) := hide (fun y hy => by
                rw [List.take_add_one, HPX.out.2.2, List.mem_append] at hy
                rcases hy with hy | hy
                · exact HG.out y hy
                · have e : y = x := by simpa using hy
                  rw [e]
                  exact ⟨no13 X x HPX.out.1 (fun m hm => HG2.out m hm hm), by rw [← HPX.out.2.1]; omega⟩)
              have HWN : Hid (wr = w1) := hide (HW2.out.trans HW.out)
              clear HG2 hk hlk
              go_wp2_with fail
              go_roundw
              case rel => exact ⟨j + 1, by omega, by go_num, ⟨_, rfl, HTN⟩, HWN, HGN⟩
              case measure => simp [intOf]; omega
      · obtain rfl : j = LL.length := by omega
        rw [List.take_length] at HT HG
        have HTQ : Hid (tS.data.toList = quotedL LL) := hide (by rw [HT.out, str_toList])
        have htS : tS.size ≤ 8000 := by have := HQS.out LL.length; rw [List.take_length] at this; rw [HT.out, str_size]; exact this
        have hpt := HPQ.out (fun x hx => (HG.out x hx).1) (fun x hx => (HG.out x hx).2)
        have HTS := hide (plainTree_any s wr (by omega))
        by_cases hnil : LL = []
        · have t1 : ((LL.length : Int) == 0) = true := by rw [hnil]; rfl
          rw [if_pos hnil] at hpt
          have HTT : Hid (∀ w2 : World, Calls Try.prog 13 #[.string tS] w2 fun e w' => ∃ u, e = .returned u ∧ NodesC (FreshB w2.heap.size w') w' u .nil ∧ Below w2.heap.size w2 w') := hide (fun w2 => by have := plainTree_any tS w2 (by omega); rw [HTQ.out, hpt] at this; exact this)
          clear hpt hnil HG HT
          go_wp2_with fail
          refine HTS.out.mono ?_
          rintro e w2 ⟨uS, rfl, hn2, hb2⟩
          have HB2 := hide (bl_two HBR.out hb2)
          obtain ⟨A2, c2, rfl⟩ := hn2.form
          clear hn2 hb2
          go_wp2_with fail
          refine (HTT.out w2).mono ?_
          rintro e w3 ⟨uT, rfl, hn3, hb3⟩
          have HB3 := hide (bl_two HB2.out hb3)
          obtain ⟨A3, c3, rfl⟩ : ∃ a c, uT = .slice a 0 c := hn3.form
          clear hn3 hb3
          go_wp2_with fail
          refine (HLV.out w3 HB3.out).mono ?_
          rintro e wl ⟨rfl, hb⟩
          go_wp2_with fail
          go_ret
          exact ⟨rfl, hb⟩
        · have hl0 := List.length_pos_iff.2 hnil
          have t1 : ((LL.length : Int) == 0) = false := by rw [beq_eq_false_iff_ne]; omega
          rw [if_neg hnil] at hpt
          have HTT : Hid (∀ w2 : World, Calls Try.prog 13 #[.string tS] w2 fun e w' => ∃ u, e = .returned u ∧ NodesC (FreshB w2.heap.size w') w' u (.cons quH (plainP s.data.toList) .nil) ∧ Below w2.heap.size w2 w') := hide (fun w2 => by have := plainTree_any tS w2 (by omega); rw [HTQ.out, hpt] at this; exact this)
          obtain ⟨p1, -, -⟩ := plainP_size s.data.toList
          rw [toList_length] at p1
          have hcn : (plainP s.data.toList).count ≤ 100000 := by omega
          clear hpt hnil HG HT p1
          go_wp2_with fail
          refine HTS.out.mono ?_
          rintro e w2 ⟨uS, rfl, hn2, hb2⟩
          have HB2 := hide (bl_two HBR.out hb2)
          obtain ⟨A2, c2, rfl⟩ := hn2.form
          have HN2 : Hid (NodesIn w2 (.slice A2 (plainP s.data.toList).len c2) (plainP s.data.toList)) := hide (hn2.mono (fun _ _ => rfl) (fun b hb => hb.2))
          clear hn2 hb2
          go_wp2_with fail
          refine (HTT.out w2).mono ?_
          rintro e w3 ⟨uT, rfl, hn3, hb3⟩
          have HB3 := hide (bl_two HB2.out hb3)
          obtain ⟨A3, c3, rfl⟩ : ∃ a c, uT = .slice a 1 c := hn3.form
          obtain ⟨a, d, x, y, z, m, ha, -, p1, p2, -, p3, p4, hm, hK⟩ := NodesC.at hn3 0 quH (plainP s.data.toList) rfl
          subst ha
          subst hm
          have HSM : Hid (Calls Try.prog 12 #[.slice x (plainP s.data.toList).len z, .slice A2 (plainP s.data.toList).len c2] w3 fun e w' => e = .returned (.bool true) ∧ Below w.heap.size w w') := hide (by
            refine (same14_any _ _ _ _ w3 (by omega) (hK.mono (fun _ _ => rfl) (fun b hb => hb.2)) (NodesIn.kept HN2.out hb3) (plainP_few _)).mono ?_
            rintro e w12 ⟨rfl, m, rfl⟩
            have h2 := HB3.out
            exact ⟨by rw [decide_eq_true rfl], h2.os, h2.tape, h2.output, h2.size, h2.block⟩)
          obtain ⟨N, hN⟩ : ∃ N, N = str quH.name := ⟨_, rfl⟩
          rw [← hN] at p1
          have q1 : (N.toList == [98, 108, 111, 99, 107, 113, 117, 111, 116, 101]) = true := by rw [hN, bytes_list, str_toList]; rfl
          rw [Nat.zero_mul, Addr.add_zero'] at p1 p2 p3 p4
          clear hn3 hb3 hK hN
          go_wp2_with fail
          refine HSM.out.mono ?_
          rintro e w4 ⟨rfl, hb4⟩
          have HB4 := hide hb4
          clear hb4
          go_wp2_with fail
          refine (HLV.out w4 HB4.out).mono ?_
          rintro e wl ⟨rfl, hb⟩
          go_wp2_with fail
          go_ret
          exact ⟨rfl, hb⟩
end Go.Proofs.Ytdeaofnhdbhknaa
