/- WALK of the law PlainJoined. Written by wip/tools/plainjoined.py. No statement is proved here. Own work of the verifier. -/
import Derived.Test.YtdeaofnhdbhknaaPnLv
import Derived.Test.YtdeaofnhdbhknaaRef06C
namespace Go.Proofs.Ytdeaofnhdbhknaa
open Go.RowKit
set_option linter.unusedVariables false
set_option linter.unusedSimpArgs false
set_option maxRecDepth 100000
theorem saysT_all (f : NdH → Bool) (hf : ∀ s, f (txH s) = true) (s : List UInt8) (T : Tr) (h : T.all f = true) : (saysT s T).all f = true := by
  unfold saysT
  split
  · exact h
  · simp only [Tr.all, hf, h, Bool.and_true]
theorem insP_all (f : NdH → Bool) (hf : ∀ s, f (txH s) = true) (hb : f brH = true) (hq : f quH = true) (n : Nat) (s : List UInt8) (m : Option Nat) (T : Tr) (h : T.all f = true) : (insP n s m T).all f = true := by
  induction n generalizing m T with
  | zero =>
    rw [insP_zero]
    refine saysT_all f hf s _ ?_
    split
    · simp only [Tr.all, hb, h, Bool.and_true]
    · exact h
  | succ n ih =>
    have key : (Tr.cons quH (insP n s none .nil) T).all f = true := by simp only [Tr.all, hq, h, ih none .nil rfl, Bool.and_true]
    cases m with
    | none => rw [insP_none]; exact key
    | some m => cases m with
      | zero => rw [insP_off]; exact key
      | succ m => cases T with
        | nil => exact key
        | cons hd K R =>
          rw [insP_in]
          simp only [Tr.all, Bool.and_eq_true] at h ⊢
          exact ⟨h.1, ih (some m) K h.2.1, h.2.2⟩
theorem treeP_all (f : NdH → Bool) (hf : ∀ s, f (txH s) = true) (hb : f brH = true) (hq : f quH = true) (l : List LnL) : (treeP l).all f = true := by
  induction l with
  | nil => rfl
  | cons p r ih => exact insP_all f hf hb hq _ _ _ _ ih
theorem at_listJ (s : ByteArray) (k : Nat) (h : k < s.size) : s.data.toList[k]'(by rw [toList_length]; exact h) = s[k] := by
  rw [Array.getElem_toList]
  rfl
theorem plainP_few (s : List UInt8) : (plainP s).all attrsFew = true := treeP_all attrsFew (fun _ => rfl) rfl rfl _
set_option maxHeartbeats 16000000 in
theorem law_PlainJoined (s : ByteArray) (hms : s.size ≤ maxLen) (t : ByteArray) (hmt : t.size ≤ maxLen) (w : World) :
    Calls Try.prog 8 #[.string s, .string t] w fun e w' => e = .returned (.bool true) ∧ Below w.heap.size w w' := by
  have hL0 : ∀ w1 : World, Below w.heap.size w w1 → Calls Try.prog 9 #[] w1 fun e w' => e = .returned (.bool true) ∧ Below w.heap.size w w' := fun w1 hb => (live20_any w1).mono fun e w' ⟨h1, h2⟩ => ⟨h1, bl_two hb h2⟩
  have HLV := hide hL0
  clear hL0 hms hmt
  by_cases hs1 : 1000 < s.size
  · have t0 : decide ((1000 : Int) < (s.size : Int)) = true := decide_eq_true (by omega)
    go_enter Try.func8, Try.ntmps8
    go_wp2_with fail
    refine (HLV.out w (Below.refl _ _)).mono ?_
    rintro e wl ⟨rfl, hb⟩
    go_wp2_with fail
    go_ret
    exact ⟨rfl, hb⟩
  · have t0 : decide ((1000 : Int) < (s.size : Int)) = false := decide_eq_false (by omega)
    by_cases ht1 : 1000 < t.size
    · have t1 : decide ((1000 : Int) < (t.size : Int)) = true := decide_eq_true (by omega)
      go_enter Try.func8, Try.ntmps8
      go_wp2_with fail
      refine (HLV.out w (Below.refl _ _)).mono ?_
      rintro e wl ⟨rfl, hb⟩
      go_wp2_with fail
      go_ret
      exact ⟨rfl, hb⟩
    · have t1 : decide ((1000 : Int) < (t.size : Int)) = false := decide_eq_false (by omega)
      by_cases hs0 : s.data.toList = []
      · have t2 : s.toList.isEmpty = true := by rw [bytes_list, hs0]; rfl
        clear hs0
        go_enter Try.func8, Try.ntmps8
        go_wp2_with fail
        refine (HLV.out w (Below.refl _ _)).mono ?_
        rintro e wl ⟨rfl, hb⟩
        go_wp2_with fail
        go_ret
        exact ⟨rfl, hb⟩
      · have t2 : s.toList.isEmpty = false := emptyN hs0
        by_cases ht0 : t.data.toList = []
        · have t3 : t.toList.isEmpty = true := by rw [bytes_list, ht0]; rfl
          clear ht0 hs0
          go_enter Try.func8, Try.ntmps8
          go_wp2_with fail
          refine (HLV.out w (Below.refl _ _)).mono ?_
          rintro e wl ⟨rfl, hb⟩
          go_wp2_with fail
          go_ret
          exact ⟨rfl, hb⟩
        · have t3 : t.toList.isEmpty = false := emptyN ht0
          have hss : s.size ≤ 1000 := by omega
          have hts : t.size ≤ 1000 := by omega
          have HCS := hide (cut06_any s w (by omega))
          have HCT := hide (fun w1 : World => cut06_any t w1 (by omega))
          obtain ⟨ca, cs1⟩ := cutL_sizes s.data.toList
          obtain ⟨cb, cs2⟩ := cutL_sizes t.data.toList
          rw [toList_length] at ca cb
          have hane := cutL_ne hs0
          have hbne := cutL_ne ht0
          obtain ⟨LA, hLA⟩ : ∃ L, L = cutL s.data.toList := ⟨_, rfl⟩
          obtain ⟨LB, hLB⟩ : ∃ L, L = cutL t.data.toList := ⟨_, rfl⟩
          have hxm := cutL_size s.data.toList
          have hym := cutL_size t.data.toList
          have HPJ := hide (plain_joined s.data.toList t.data.toList hs0 ht0)
          rw [← hLA] at HCS ca hane hxm HPJ
          rw [← hLB] at HCT cb hbne hym HPJ
          obtain ⟨x, hx⟩ : ∃ x, LA.getLast? = some x := by
            rcases List.eq_nil_or_concat LA with h | ⟨r, c, h⟩
            · exact absurd h hane
            · exact ⟨c, by rw [h, List.concat_eq_append, List.getLast?_concat]⟩
          obtain ⟨y, hy⟩ : ∃ y, LB.head? = some y := by
            obtain ⟨c, r, h⟩ := List.exists_cons_of_ne_nil hbne
            exact ⟨c, by rw [h]; rfl⟩
          have hxl : x.length ≤ 1000 := by have := hxm x (List.mem_of_getLast? hx); rw [toList_length] at this; omega
          have hyl : y.length ≤ 1000 := by have := hym y (List.mem_of_head? hy); rw [toList_length] at this; omega
          obtain ⟨kA, hkA⟩ : ∃ k, LA.length = k + 1 := ⟨LA.length - 1, by have := List.length_pos_iff.2 hane; omega⟩
          have hxi : LA[kA]? = some x := by rw [← hx, List.getLast?_eq_getElem?, hkA]; rfl
          have hyi : LB[0]? = some y := by rw [← hy, List.head?_eq_getElem?]
          have hLB0 := List.length_pos_iff.2 hbne
          have HX := hide (And.intro hxi (And.intro hyi (And.intro hLB0 (And.intro hkA (And.intro hx hy)))))
          have HXL := hide (And.intro hxl hyl)
          have HKA : Hid (kA ≤ 1000 ∧ LB.length ≤ 1000) := hide (by omega)
          have hpos : 0 < s.size := by have := List.length_pos_iff.2 hs0; rw [toList_length] at this; exact this
          have e5 : s.size - 1 < s.size := by omega
          have hslast : s.data.toList.getLast? = some (s[s.size - 1]'e5) := by
            rw [List.getLast?_eq_getElem?, toList_length, List.getElem?_eq_getElem (by rw [toList_length]; exact e5), at_listJ]
          have HSL := hide hslast
          have e1 : ((s.size : Int) - 1).toNat = s.size - 1 := by omega
          have e2 : wrap64 ((s.size : Int) - 1) = (s.size : Int) - 1 := by unfold wrap64; omega
          have e3 : (0 : Int) ≤ (s.size : Int) - 1 := by clear e2; omega
          have e4 : (s.size : Int) - 1 < (s.size : Int) := by clear e2; omega
          obtain ⟨f1, f2, f3, -, -⟩ := wraps kA (by clear e2; omega)
          have f4 : (kA : Int) < (kA : Int) + 1 := by clear e2 f1 f2 f3; omega
          clear hs0 ht0 hs1 ht1 cs1 cs2 ca cb hane hbne hLA hLB hxm hym hx hy hxl hyl hkA hxi hyi hLB0 hslast
          go_enter Try.func8, Try.ntmps8
          go_wp2_with fail
          refine HCS.out.mono ?_
          rintro e w1 ⟨v1, rfl, hb1⟩
          obtain ⟨gA, cA, rfl, hcA⟩ : ∃ g c, v1 = .slice (some ⟨g, 0, none⟩) (kA + 1) c ∧ w1.cell? ⟨g, kA, none⟩ = some (.string (str x)) := by
            rcases hb1.form with ⟨_, h⟩ | ⟨g, cap, h1, _, _, _, _, h6⟩
            · have h2 := congrArg List.length h; rw [List.length_map, HX.out.2.2.2.1, List.length_nil] at h2; exact absurd h2 (Nat.succ_ne_zero _)
            · refine ⟨g, cap, by rw [h1, List.length_map, HX.out.2.2.2.1], ?_⟩
              have h3 := h6 kA (str x) (by rw [List.getElem?_map, HX.out.1]; rfl)
              rw [Nat.zero_add] at h3; exact h3
          have HB1 := hide hb1.below
          have HCA := hide hcA
          clear hb1 hcA HCS
          go_wp2_with fail
          refine (HCT.out w1).mono ?_
          rintro e w2 ⟨v2, rfl, hb2⟩
          obtain ⟨gB, nB, cB, rfl, hnB, hcB⟩ : ∃ g n c, v2 = .slice (some ⟨g, 0, none⟩) n c ∧ n = LB.length ∧ w2.cell? ⟨g, 0, none⟩ = some (.string (str y)) := by
            rcases hb2.form with ⟨_, h⟩ | ⟨g, cap, h1, _, _, _, _, h6⟩
            · have h2 := congrArg List.length h; rw [List.length_map, List.length_nil] at h2; exact absurd h2 (by have := HX.out.2.2.1; omega)
            · refine ⟨g, _, cap, h1, by rw [List.length_map], ?_⟩
              have h3 := h6 0 (str y) (by rw [List.getElem?_map, HX.out.2.1]; rfl)
              rw [Nat.add_zero] at h3; exact h3
          have HB2 := hide (bl_two HB1.out hb2.below)
          have hcA2 : w2.cell? ⟨gA, kA, none⟩ = some (.string (str x)) := (hb2.below.cell (World.block_lt_of_cell? _ _ HCA.out)).trans HCA.out
          have g1 : (0 : Int) < (nB : Int) := by have := HX.out.2.2.1; clear e2 f1 f2 f3; omega
          have g2 : 0 < nB := by have := HX.out.2.2.1; clear e2 f1 f2 f3; omega
          have HVX := hide (level_any (str x) w2 (by rw [str_size]; have := HXL.out; clear e2 f1 f2 f3; omega))
          have HVY := hide (level_any (str y) w2 (by rw [str_size]; have := HXL.out; clear e2 f1 f2 f3; omega))
          rw [str_toList] at HVX HVY
          obtain ⟨p, hp⟩ : ∃ p, p = levelL x := ⟨_, rfl⟩
          obtain ⟨q, hq⟩ : ∃ q, q = levelL y := ⟨_, rfl⟩
          rw [← hp] at HVX
          rw [← hq] at HVY
          unfold levelV at HVX HVY
          have HPQ := hide (And.intro hp hq)
          clear hb2 HCT hp hq hnB
          go_wp2_with fail
          refine HVX.out.mono ?_
          rintro e w3 ⟨rfl, rfl⟩
          go_wp2_with fail
          refine HVY.out.mono ?_
          rintro e w4 ⟨rfl, rfl⟩
          clear HVX HVY hcA2 hcB f1 f2 f3 f4 g1 g2
          by_cases hn : 0 < p.1
          · have u1 : decide ((0 : Int) < (p.1 : Int)) = true := decide_eq_true (by clear e2; omega)
            go_wp2_with fail
            refine (HLV.out w4 HB2.out).mono ?_
            rintro e wl ⟨rfl, hb⟩
            go_wp2_with fail
            go_ret
            exact ⟨rfl, hb⟩
          · have u1 : decide ((0 : Int) < (p.1 : Int)) = false := decide_eq_false (by clear e2; omega)
            have u1n : ¬ (0 < p.1) := hn
            by_cases hm : 0 < q.1
            · have u2 : decide ((0 : Int) < (q.1 : Int)) = true := decide_eq_true (by clear e2; omega)
              go_wp2_with fail
              refine (HLV.out w4 HB2.out).mono ?_
              rintro e wl ⟨rfl, hb⟩
              go_wp2_with fail
              go_ret
              exact ⟨rfl, hb⟩
            · have u2 : decide ((0 : Int) < (q.1 : Int)) = false := decide_eq_false (by clear e2; omega)
              have u2n : ¬ (0 < q.1) := hm
              by_cases h10 : s[s.size - 1] = 10
              · have u3 : ((s[s.size - 1].toNat : Int) == 10) = true := tT 10 h10 (by decide)
                clear h10
                go_wp2_with fail
                refine (HLV.out w4 HB2.out).mono ?_
                rintro e wl ⟨rfl, hb⟩
                go_wp2_with fail
                go_ret
                exact ⟨rfl, hb⟩
              · have u3 : ((s[s.size - 1].toNat : Int) == 10) = false := tF 10 h10 (by decide)
                by_cases h13 : s[s.size - 1] = 13
                · have u4 : ((s[s.size - 1].toNat : Int) == 13) = true := tT 13 h13 (by decide)
                  clear h10 h13
                  go_wp2_with fail
                  refine (HLV.out w4 HB2.out).mono ?_
                  rintro e wl ⟨rfl, hb⟩
                  go_wp2_with fail
                  go_ret
                  exact ⟨rfl, hb⟩
                · have u4 : ((s[s.size - 1].toNat : Int) == 13) = false := tF 13 h13 (by decide)
                  have HPT : Hid (plainP (s.data.toList ++ 10 :: 10 :: t.data.toList) = (plainP s.data.toList).app (.cons brH .nil (.cons brH .nil (plainP t.data.toList)))) := hide (HPJ.out (by rw [HSL.out]; intro e; exact h10 (Option.some.inj e)) (by rw [HSL.out]; intro e; exact h13 (Option.some.inj e))
                    (fun z hz => by rw [HX.out.2.2.2.2.1] at hz; rw [← Option.some.inj hz, ← HPQ.out.1]; clear e2; omega)
                    (fun z hz => by rw [HX.out.2.2.2.2.2] at hz; rw [← Option.some.inj hz, ← HPQ.out.2]; clear e2; omega))
                  clear h10 h13 hn hm
                  have HTS := hide (plainTree_any s w4 (by clear e2; omega))
                  have HTT := hide (fun w1 : World => plainTree_any t w1 (by clear e2; omega))
                  obtain ⟨J, hJ⟩ : ∃ J, J = (s ++ ⟨#[10, 10]⟩ ++ t : ByteArray) := ⟨_, rfl⟩
                  have hJL : J.data.toList = s.data.toList ++ 10 :: 10 :: t.data.toList := by rw [hJ]; simp [ByteArray.data_append]
                  have hJS : J.size ≤ 2002 := by rw [← toList_length, hJL, List.length_append, List.length_cons, List.length_cons, toList_length, toList_length]; clear e2; omega
                  have HTJ := hide (fun w1 : World => plainTree_any J w1 (by clear e2; omega))
                  rw [hJL] at HTJ
                  obtain ⟨c1, -, -⟩ := plainP_size s.data.toList
                  obtain ⟨c2, -, -⟩ := plainP_size t.data.toList
                  rw [toList_length] at c1 c2
                  have hl1 := Tr.len_count (plainP s.data.toList)
                  have hl2 := Tr.len_count (plainP t.data.toList)
                  have HCN : Hid ((plainP s.data.toList).len ≤ 22000 ∧ (plainP t.data.toList).len ≤ 22000 ∧ (plainP s.data.toList).count ≤ 22000 ∧ (plainP t.data.toList).count ≤ 22000) := hide (by clear e2; omega)
                  have HJJ := hide hJ
                  have z1 : ¬ (9223372036854775807 < s.size + 2) := by clear e2; omega
                  have z2 : ¬ (9223372036854775807 < s.size + 2 + t.size) := by clear e2; omega
                  clear hJ hJL hJS c1 c2 hl1 hl2 HSL e1 e2 e3 e4 HPJ
                  go_wp2_with fail
                  refine HTS.out.mono ?_
                  rintro e w5 ⟨uS, rfl, hn5, hb5⟩
                  have HN5 := hide hn5
                  have HB5 := hide hb5
                  obtain ⟨A5, c5, rfl⟩ := hn5.form
                  clear hn5 hb5 HTS
                  go_wp2_with (first
                    | (
                      refine wpList_outs rfl _ _ rfl w4.heap.size (.slice none 0 0) .nil w4 w4 w5 rfl _ (plainP s.data.toList) (OutT.nil w4) HB5.out HN5.out rfl (by have := HCN.out; simp only [Tr.len]; omega) ?_
                      intro v' w6 hO' _ _
                      obtain ⟨A6, c6, rfl⟩ := hO'.form
                      obtain ⟨T6, hT6⟩ : ∃ X, X = Tr.nil.app (plainP s.data.toList) := ⟨_, rfl⟩
                      rw [← hT6] at hO'
                      rw [← hT6]
                      have HO6 := hide hO'
                      have HT6 := hide hT6
                      have HL6 : Hid (T6.len ≤ 22000) := hide (by rw [hT6]; exact HCN.out.1)
                      clear hO' hT6)
                    | (
                      refine wpList_out rfl _ _ rfl w4.heap.size (.slice A6 T6.len c6) T6 w4 w6 rfl brN [] (.slice none 0 0) .nil w6 HO6.out (Below.refl _ _) (nodesC_none _ _) _ rfl rfl (by have := HL6.out; omega) ?_
                      intro v' w7 hO' _ _
                      obtain ⟨A7, c7, rfl⟩ := hO'.form
                      obtain ⟨T7, hT7⟩ : ∃ X, X = T6.app (.cons ⟨brN, [], []⟩ .nil .nil) := ⟨_, rfl⟩
                      rw [← hT7] at hO'
                      rw [← hT7]
                      have HO7 := hide hO'
                      have HT7 := hide hT7
                      have HL7 : Hid (T7.len ≤ 22001) := hide (by have := HL6.out; rw [hT7, ← Tr.len_list, Tr.list_app, List.length_append, Tr.len_list]; simp only [Tr.list, List.length_cons, List.length_nil]; omega)
                      clear hO' hT7)
                    | (
                      refine wpList_out rfl _ _ rfl w4.heap.size (.slice A7 T7.len c7) T7 w4 w7 rfl brN [] (.slice none 0 0) .nil w7 HO7.out (Below.refl _ _) (nodesC_none _ _) _ rfl rfl (by have := HL7.out; omega) ?_
                      intro v' w8 hO' _ _
                      obtain ⟨A8, c8, rfl⟩ := hO'.form
                      obtain ⟨T8, hT8⟩ : ∃ X, X = T7.app (.cons ⟨brN, [], []⟩ .nil .nil) := ⟨_, rfl⟩
                      rw [← hT8] at hO'
                      rw [← hT8]
                      have HO8 := hide hO'
                      have HT8 := hide hT8
                      have HL8 : Hid (T8.len ≤ 22002) := hide (by have := HL7.out; rw [hT8, ← Tr.len_list, Tr.list_app, List.length_append, Tr.len_list]; simp only [Tr.list, List.length_cons, List.length_nil]; omega)
                      clear hO' hT8))
                  refine (HTT.out w8).mono ?_
                  rintro e w9 ⟨uT, rfl, hn9, hb9⟩
                  have HN9 := hide hn9
                  have HB9 := hide hb9
                  obtain ⟨A9, c9, rfl⟩ := hn9.form
                  clear hn9 hb9 HTT
                  go_wp2_with (
                    refine wpList_outs rfl _ _ rfl w4.heap.size (.slice A8 T8.len c8) T8 w4 w8 w9 rfl _ (plainP t.data.toList) HO8.out HB9.out HN9.out rfl (by have h1 := HCN.out; have h2 := HL8.out; omega) ?_
                    intro v' w10 hO' _ _
                    obtain ⟨A10, c10, rfl⟩ := hO'.form
                    obtain ⟨T10, hT10⟩ : ∃ X, X = T8.app (plainP t.data.toList) := ⟨_, rfl⟩
                    rw [← hT10] at hO'
                    rw [← hT10]
                    have HO10 := hide hO'
                    have HT10 := hide hT10
                    clear hO' hT10)
                  rw [← HJJ.out]
                  refine (HTJ.out w10).mono ?_
                  rintro e w11 ⟨uJ, rfl, hn11, hb11⟩
                  have HTE : Hid (plainP (s.data.toList ++ 10 :: 10 :: t.data.toList) = T10) := hide (by
                    rw [HPT.out, HT10.out, HT8.out, HT7.out, HT6.out, Tr.app_assoc, Tr.app_assoc, Tr.app_assoc]; rfl)
                  have HSM : Hid (Calls Try.prog 12 #[uJ, .slice A10 T10.len c10] w11 fun e w' => e = .returned (.bool true) ∧ Below w.heap.size w w') := hide (by
                    refine (same14_any uJ _ _ T10 w11 ?_ (hn11.mono (fun _ _ => rfl) (fun b hb => hb.2)) (NodesIn.kept (HO10.out.nodes.mono (fun _ _ => rfl) (fun b hb => hb.2)) hb11) (plainP_few _)).mono ?_
                    · rw [HPT.out, Tr.app_count]
                      have := HCN.out
                      simp only [Tr.count]
                      omega
                    · rintro e w12 ⟨rfl, m, rfl⟩
                      have h1 : Below w.heap.size w w10 := HB2.out.trans (HO10.out.below.mono HB2.out.size)
                      have h2 : Below w.heap.size w w11 := bl_two h1 hb11
                      exact ⟨by rw [decide_eq_true HTE.out], h2.os, h2.tape, h2.output, h2.size, h2.block⟩)
                  clear hn11 hb11
                  go_wp2_with fail
                  refine HSM.out.mono ?_
                  rintro e w12 ⟨rfl, hb12⟩
                  go_wp2_with fail
                  refine (HLV.out w12 hb12).mono ?_
                  rintro e wl ⟨rfl, hb⟩
                  go_wp2_with fail
                  go_ret
                  exact ⟨rfl, hb⟩
end Go.Proofs.Ytdeaofnhdbhknaa
