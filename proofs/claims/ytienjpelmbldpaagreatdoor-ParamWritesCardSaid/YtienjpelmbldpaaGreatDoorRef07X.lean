/- WALK of the reference of layer 7: Write. No statement is proved here. -/
import Derived.Test.YtienjpelmbldpaaGreatDoorRef07W
import Derived.BigQuiet
import Derived.Deep.QuietTactic
namespace Go.Proofs.YtienjpelmbldpaaGreatDoor
open Go.RowKit
set_option linter.unusedVariables false
set_option linter.unusedSimpArgs false
set_option maxRecDepth 100000
/-- two cells that hold texts, in a world that keeps what was below -/
def KX7 (w : World) (a b : Addr) (X Y : ByteArray) (w3 : World) : Prop := Below w.heap.size w w3 ∧ w3.cell? a = some (.string X) ∧ w3.cell? b = some (.string Y)
theorem KX7.step {w : World} {a b : Addr} {X Y : ByteArray} {w3 w4 : World} (h : KX7 w a b X Y w3) (hb : Below w3.heap.size w3 w4) : KX7 w a b X Y w4 :=
  ⟨h.1.trans (hb.mono h.1.size), (hb.cell (World.block_lt_of_cell? _ _ h.2.1)).trans h.2.1, (hb.cell (World.block_lt_of_cell? _ _ h.2.2)).trans h.2.2⟩
theorem KX7.alloc {w : World} {a b : Addr} {X Y : ByteArray} {w3 : World} (h : KX7 w a b X Y w3) (o : Obj) : KX7 w a b X Y (w3.alloc o) := h.step ((Below.refl _ _).alloc (Nat.le_refl _) _)
theorem take2_no7 {s : ByteArray} {k : Nat} (h : k < s.size) (hc : s[k] ≠ 61 ∨ k + 1 = s.size) : (s.data.toList.drop k).take 2 ≠ [61, 63] := by
  rw [drop_cons s k h]
  rcases hc with hc | hc
  · intro e
    injection e with e _
    exact hc e
  · rw [drop_nil s (k + 1) (by omega)]
    intro e; have := congrArg List.length e; simp at this
theorem take2_yes7 {s : ByteArray} {k : Nat} (h : k < s.size) (h2 : k + 1 < s.size) (hc : s[k] = 61) : (s.data.toList.drop k).take 2 = [61, s[k + 1]] := by
  rw [drop_cons s k h, drop_cons s (k + 1) h2, hc]; rfl
theorem wrP_main {m : List UInt8} (l : List ParL) (h : mainB m = false) : wrP m l = ([], 1) := by unfold wrP; rw [h, Bool.false_and]; rfl
set_option maxHeartbeats 16000000 in
theorem refWrite07_any (main : ByteArray) (v : Value) (l : List ParL) (w : World) (hmz : main.size ≤ 1500) (hl : ParsIn w v l) (hf : fewQ l = true) :
    Calls Tryz.prog 17 #[.string main, v] w fun e w' => e = .returned (.tuple #[.string (str (wrP main.data.toList l).1), .int .i64 (wrP main.data.toList l).2]) ∧ Below w.heap.size w w' := by
  obtain ⟨A, cap, rfl⟩ := hl.form
  have HL := hide hl
  have HF := hide hf
  have hn := (few_fitsQ hf).1
  have HZ := hide (few_fitsQ hf).2
  have CP := hide (fun (w : World) => plain07_any main true w (by omega))
  have CT := hide (fun (w : World) => trim07_any main w (by unfold maxLen; omega))
  have CS := hide (fun (w : World) => small_any main w (by omega))
  have HME := hide (mainB_eq main.data.toList)
  obtain ⟨ML, hML⟩ : ∃ ML, ML = str (lowL main.data.toList) := ⟨_, rfl⟩
  obtain ⟨MT, hMT⟩ : ∃ MT, MT = str (trP main.data.toList) := ⟨_, rfl⟩
  rw [← hML] at CS
  rw [← hMT] at CT
  rw [plnL_true] at CP
  have eL : (ML.toList == main.toList) = decide (lowL main.data.toList = main.data.toList) := by
    rw [hML, str_list, bytes_list]
    by_cases h : lowL main.data.toList = main.data.toList
    · rw [h, decide_eq_true rfl]; exact beq_self_eq_true _
    · rw [beq_eq_false_iff_ne.2 h, decide_eq_false h]
  have eT : (MT.toList == main.toList) = decide (trP main.data.toList = main.data.toList) := by
    rw [hMT, str_list, bytes_list]
    by_cases h : trP main.data.toList = main.data.toList
    · rw [h, decide_eq_true rfl]; exact beq_self_eq_true _
    · rw [beq_eq_false_iff_ne.2 h, decide_eq_false h]
  generalize decide (lowL main.data.toList = main.data.toList) = bL at eL HME
  generalize decide (trP main.data.toList = main.data.toList) = bT at eT HME
  generalize ctlL main.data.toList = bC at CP HME
  clear hl hf hML hMT
  by_cases hbad : bC = true ∨ bL = false ∨ bT = false
  · have HR : Hid (wrP main.data.toList l = ([], 1)) := hide (wrP_main l (by
      rw [HME.out]
      rcases hbad with h | h | h
      · rw [h]; rfl
      · rw [h]; simp
      · rw [h]; simp))
    cases bC with
    | true =>
      clear hbad
      cases bL
      all_goals cases bT
      all_goals
        go_enter Tryz.func17, Tryz.ntmps17
        go_wp2_with (first
          | (go_at_call 36; refine (CP.out _).mono ?_; rintro e w5 ⟨rfl, rfl⟩))
        go_ret2
        exact ⟨by rw [HR.out] <;> rfl, Below.refl _ _⟩
    | false =>
      cases bL with
      | false =>
        have eLb : (ML.toList != main.toList) = true := by rw [bne, eL]; rfl
        clear hbad
        cases bT
        all_goals
          go_enter Tryz.func17, Tryz.ntmps17
          go_wp2_with (first
            | (go_at_call 36; refine (CP.out _).mono ?_; rintro e w5 ⟨rfl, rfl⟩)
            | (go_at_call 27; refine (CS.out _).mono ?_; rintro e w6 ⟨rfl, hb6⟩; have HB6 := hide hb6; clear hb6))
          go_ret2
          exact ⟨by rw [HR.out] <;> rfl, HB6.out⟩
      | true =>
        have eLb : (ML.toList != main.toList) = false := by rw [bne, eL]; rfl
        cases bT with
        | true => rcases hbad with h | h | h <;> cases h
        | false =>
          have eTb : (MT.toList != main.toList) = true := by rw [bne, eT]; rfl
          clear hbad
          go_enter Tryz.func17, Tryz.ntmps17
          go_wp2_with (first
            | (go_at_call 36; refine (CP.out _).mono ?_; rintro e w5 ⟨rfl, rfl⟩)
            | (go_at_call 27; refine (CS.out _).mono ?_; rintro e w6 ⟨rfl, hb6⟩; have HB6 := hide hb6; clear hb6)
            | (go_at_call 28; refine (CT.out _).mono ?_; rintro e w7 ⟨rfl, rfl⟩))
          go_ret2
          exact ⟨by rw [HR.out] <;> rfl, HB6.out⟩
  have hC : bC = false := by cases bC with
    | true => exact absurd (.inl rfl) hbad
    | false => rfl
  have hBL : bL = true := by cases bL with
    | false => exact absurd (.inr (.inl rfl)) hbad
    | true => rfl
  have hBT : bT = true := by cases bT with
    | false => exact absurd (.inr (.inr rfl)) hbad
    | true => rfl
  subst hC hBL hBT
  have HM : Hid (mainB main.data.toList = !hasAny [59, 34] main.data.toList) := hide (by rw [HME.out]; rfl)
  have eLb : (ML.toList != main.toList) = false := by rw [bne, eL]; rfl
  have eTb : (MT.toList != main.toList) = false := by rw [bne, eT]; rfl
  clear hbad HME
  go_enter Tryz.func17, Tryz.ntmps17
  go_wp2_with (first
    | (go_at_call 36; refine (CP.out _).mono ?_; rintro e w5 ⟨rfl, rfl⟩)
    | (go_at_call 27; refine (CS.out _).mono ?_; rintro e w6 ⟨rfl, hb6⟩; have HB6 := hide hb6; clear hb6)
    | (go_at_call 28; refine (CT.out _).mono ?_; rintro e w7 ⟨rfl, rfl⟩))
  clear eL eT eLb eTb
  go_loopw [6] (fun iv wr => ∃ k : Nat, k ≤ main.size ∧ iv = .int .i64 k ∧ Hid (∀ c ∈ main.data.toList.take k, c ≠ 59 ∧ c ≠ 34) ∧ Hid (Below w.heap.size w wr)) (fun iv _ => main.size - (intOf iv).toNat)
  case atStart => exact ⟨0, Nat.zero_le _, rfl, hide (by simp), HB6⟩
  case round =>
    obtain ⟨k, hk, rfl, HN, HB⟩ := hrel
    by_cases hlt : k < main.size
    · have HANY : Hid (main[k] = 59 ∨ main[k] = 34 → wrP main.data.toList l = ([], 1)) := hide (fun h => wrP_main l (by
        rw [HM.out]
        have : hasAny [59, 34] main.data.toList = true := by
          unfold hasAny
          rw [List.any_eq_true]
          refine ⟨main[k], by rw [← Array.mem_def]; exact Array.getElem_mem (by exact hlt), ?_⟩
          rcases h with h | h <;> rw [h] <;> decide
        rw [this]; rfl))
      by_cases h59 : main[k] = 59
      · have t0 : ((main[k].toNat : Int) == 59) = true := tT 59 h59 (by omega)
        have HR := hide (HANY.out (.inl h59))
        clear h59
        go_wp2_with fail
        go_ret2
        exact ⟨by rw [HR.out] <;> rfl, HB.out⟩
      · have t0 : ((main[k].toNat : Int) == 59) = false := tF 59 h59 (by omega)
        by_cases h34 : main[k] = 34
        · have t1 : ((main[k].toNat : Int) == 34) = true := tT 34 h34 (by omega)
          have HR := hide (HANY.out (.inr h34))
          clear h59 h34
          go_wp2_with fail
          go_ret2
          exact ⟨by rw [HR.out] <;> rfl, HB.out⟩
        · have t1 : ((main[k].toNat : Int) == 34) = false := tF 34 h34 (by omega)
          have HNN : Hid (∀ c ∈ main.data.toList.take (k + 1), c ≠ 59 ∧ c ≠ 34) := hide (by
            intro c hc
            rw [take_snoc main k hlt, List.mem_append, List.mem_singleton] at hc
            rcases hc with hc | rfl
            · exact HN.out c hc
            · exact ⟨h59, h34⟩)
          clear h59 h34
          go_wp2_with fail
          go_roundw
          case rel => exact ⟨k + 1, by omega, by go_num, HNN, HB⟩
          case measure => simp [intOf]; omega
    · have HMT : Hid (mainB main.data.toList = true) := hide (by
        have h1 := HN.out
        rw [List.take_of_length_le (by rw [toList_length]; omega)] at h1
        rw [HM.out]
        have : hasAny [59, 34] main.data.toList = false := by
          unfold hasAny
          rw [List.any_eq_false]
          intro x hx
          have := h1 x hx
          simp [this.1, this.2]
        rw [this]; rfl)
      have HBM := hide HB.out
      clear HN
      go_wp2_with fail
      go_loopw [7, 8] (fun o i wr => ∃ (k : Nat) (O : ByteArray), k ≤ l.length ∧ i = .int .i64 k ∧ o = .string O ∧ Hid (WSt7 main.data.toList l k O) ∧ Hid (Below w.heap.size w wr)) (fun _ i _ => l.length - (intOf i).toNat)
      case atStart => exact ⟨0, main, Nat.zero_le _, rfl, rfl, hide ⟨by simp [parTs], rfl, by omega⟩, HBM⟩
      case round =>
        obtain ⟨k, O, hk, rfl, rfl, HW, HB⟩ := hrel
        by_cases hlt : k < l.length
        · obtain ⟨f, hf⟩ : ∃ f, l[k]? = some f := ⟨_, List.getElem?_eq_getElem hlt⟩
          have hpin := HL.out.kept HB.out
          obtain ⟨a, ha, hc1, hc2⟩ := hpin.at k f hf
          subst ha
          have HTK := hide (hpin.take k hk)
          obtain ⟨z1, z2⟩ := HZ.out f (List.mem_of_getElem? hf)
          obtain ⟨Y, hY⟩ : ∃ X, X = str f.1 := ⟨_, rfl⟩
          obtain ⟨X, hX⟩ : ∃ X, X = str f.2 := ⟨_, rfl⟩
          rw [← hY] at hc1
          rw [← hX] at hc2
          have hXs : X.size ≤ 300 := by rw [hX, str_size]; exact z2
          have hYs : Y.size ≤ 300 := by rw [hY, str_size]; exact z1
          have HX := hide (show X.data.toList = f.2 by rw [hX, str_toList])
          have HY := hide (show Y.data.toList = f.1 by rw [hY, str_toList])
          have HFK := hide hf
          have hOs := HW.out.2.2
          have CFI : Hid (∀ n : Nat, Calls Tryz.prog 29 #[.slice (some a) k cap, .string Y] (wr.drewN n) fun e w' => e = .returned (optV (getP (l.take k) Y.data.toList)) ∧ w' = wr.drewN n) := hide (fun n =>
            (find07_still (.slice (some a) k cap) (l.take k) Y (wr.drewN n) (HTK.out.kept ⟨rfl, rfl, rfl, Nat.le_refl _, fun _ _ => rfl⟩) (by rw [List.length_take]; omega)).mono (fun e w' h => ⟨h.1, h.2.symm⟩))
          rw [HY.out] at CFI
          have CNA := hide (fun (w : World) => named07_any Y w (by omega))
          rw [HY.out] at CNA
          have CPT := hide (fun (w : World) => plain07_any X true w (by omega))
          have CPF := hide (fun (w : World) => plain07_any X false w (by omega))
          rw [plnL_true] at CPT
          rw [HX.out] at CPT CPF
          have HTW := hide (getP_some (l := l.take k) (k := f.1))
          obtain ⟨OKP, hOKP⟩ : ∃ P : Prop, P = ((nameB f.1 && !decide (f.1 ∈ (l.take k).map (·.1)) && !ctlL f.2) = true) := ⟨_, rfl⟩
          have HOK : Hid (nameB f.1 = true → (getP (l.take k) f.1).isSome = false → ctlL f.2 = false → OKP) := hide (fun h1 h2 h3 => by
            rw [hOKP, ← HTW.out, h1, h2, h3]; rfl)
          have HOKP := hide hOKP
          clear hOKP
          have HBD : Hid (nameB f.1 = false ∨ (getP (l.take k) f.1).isSome = true ∨ ctlL f.2 = true → wrP main.data.toList l = ([], 1)) := hide (fun h => wrP_bad (okPs_take (k + 1) (by
            rw [okPs_at HFK.out, ← HTW.out]
            rcases h with h | h | h
            · rw [h]; simp
            · rw [h]; simp
            · rw [h]; simp)))
          have hkc : (k : Int) ≤ cap := by
            rcases hpin with ⟨h, _⟩ | ⟨a', cap', h1, h2, _⟩
            · cases h
            · injection h1 with _ _ h1; omega
          have hkl : (k : Int) ≤ l.length := by omega
          clear hf z1 z2 hX hY hpin HTW
          generalize hT : getP (l.take k) f.1 = tw at CFI HOK HBD
          generalize ctlL f.2 = cx at CPT HOK HBD
          generalize nameB f.1 = nx at CNA HOK HBD
          clear hT
          obtain ⟨tv, tb, htv⟩ : ∃ tv tb, optV tw = .tuple #[.string tv, .bool tb] ∧ tb = tw.isSome := by
            cases tw with
            | none => exact ⟨⟨#[]⟩, false, rfl, rfl⟩
            | some x => exact ⟨str x, true, rfl, rfl⟩
          obtain ⟨htv, htb⟩ := htv
          rw [htv] at CFI
          rw [← htb] at HOK HBD
          clear htv htb
          go_wp2_with fail
          go_quiet ((go_at_call 29; exact Calls.quiet_of_same (CFI.out _)))
          have hK1 : KX7 w (a.add (k * 2)) { block := (a.add (k * 2)).block, off := (a.add (k * 2)).off + 1 } Y X (wr.drewN nq) := (KX7.step (w := w) (w3 := wr) ⟨HB.out, hc1, hc2⟩ ⟨rfl, rfl, rfl, Nat.le_refl _, fun _ _ => rfl⟩)
          generalize wr.drewN nq = W1 at hK1 ⊢
          have HK1 := hide hK1
          obtain ⟨kb, hd1, hd2⟩ := hK1
          clear hc1 hc2 kb CFI HB
          cases nx with
          | false =>
            have HR := hide (HBD.out (.inl rfl))
            cases tb
            all_goals
              go_wp2_with (go_at_call 37; refine (CNA.out _).mono ?_; rintro e w5 ⟨rfl, rfl⟩)
              go_ret2
              exact ⟨by rw [HR.out] <;> rfl, HK1.out.1⟩
          | true =>
            cases tb with
            | true =>
              have HR := hide (HBD.out (.inr (.inl rfl)))
              go_wp2_with (go_at_call 37; refine (CNA.out _).mono ?_; rintro e w5 ⟨rfl, rfl⟩)
              go_ret2
              exact ⟨by rw [HR.out] <;> rfl, HK1.out.1⟩
            | false =>
              cases cx with
              | true =>
                have HR := hide (HBD.out (.inr (.inr rfl)))
                go_wp2_with (first
                  | (go_at_call 37; refine (CNA.out _).mono ?_; rintro e w5 ⟨rfl, rfl⟩)
                  | (go_at_call 36; refine (CPT.out _).mono ?_; rintro e w5 ⟨rfl, rfl⟩))
                go_ret2
                exact ⟨by rw [HR.out] <;> rfl, HK1.out.1⟩
              | false =>
                have HOKK := hide (HOK.out rfl rfl rfl)
                obtain ⟨b0, hb0⟩ : ∃ b0, b0 = plnL false f.2 := ⟨_, rfl⟩
                rw [← hb0] at CPF
                have HB0 : Hid (b0 = bareTo X.data.toList 0) := hide (by rw [hb0, HX.out, bareTo_zero])
                clear hb0 HOK HBD
                go_wp2_with (first
                  | (go_at_call 37; refine (CNA.out _).mono ?_; rintro e w5 ⟨rfl, rfl⟩)
                  | (go_at_call 36; with_reducible refine (CPT.out _).mono ?_; rintro e w5 ⟨rfl, rfl⟩)
                  | (go_at_call 36; with_reducible refine (CPF.out _).mono ?_; rintro e w5 ⟨rfl, rfl⟩))
                go_loopw [11, 12, 13] (fun p t j wi => ∃ (q : Nat) (T : ByteArray) (b : Bool), q ≤ X.size ∧ j = .int .i64 q ∧ t = .string T ∧ p = .bool b ∧ Hid (b = bareTo X.data.toList q) ∧ Hid (T.data.toList = escL (X.data.toList.take q)) ∧ Hid (KX7 w (a.add (k * 2)) { block := (a.add (k * 2)).block, off := (a.add (k * 2)).off + 1 } Y X wi)) (fun _ _ j _ => X.size - (intOf j).toNat)
                case atStart => exact ⟨0, ⟨#[]⟩, b0, Nat.zero_le _, rfl, rfl, rfl, HB0, hide rfl, HK1⟩
                case round =>
                  clear hd1 hd2
                  obtain ⟨q, T, b, hq, rfl, rfl, rfl, HP, HT, HK⟩ := hrel
                  obtain ⟨kb, hc1, hc2⟩ := id HK.out
                  clear kb
                  by_cases hlq : q < X.size
                  · have HPS := hide (bareTo_succ X.data.toList q)
                    have hTs : T.size ≤ 2 * q := by
                      have := escL_length (X.data.toList.take q)
                      rw [← HT.out, toList_length, List.length_take] at this; omega
                    have hcv := conv1
                    have hbs := byte_str7
                    have hKN := fun o => hide (HK.out.alloc o)
                    have hca := fun o => (HK.out.alloc o).2.2
                    have hz1 : (⟨#[92]⟩ : ByteArray).size = 1 := rfl
                    have hz2 : ∀ c : UInt8, (⟨#[c]⟩ : ByteArray).size = 1 := fun _ => rfl
                    have HTN : Hid (∀ e : ByteArray, e.data.toList = escC X[q] → (T ++ e).data.toList = escL (X.data.toList.take (q + 1))) := hide (fun e he => by
                      rw [take_snoc X q hlq, escL_snoc, ← HT.out, ← he]; simp)
                    by_cases g34 : X[q] = 34
                    · have g61 : X[q] ≠ 61 := fun e => by rw [g34] at e; exact absurd e (by decide)
                      have g92 : X[q] ≠ 92 := fun e => by rw [g34] at e; exact absurd e (by decide)
                      cases b
                      all_goals
                        have e34 : ((X[q].toNat : Int) == 34) = true := tT 34 g34 (by decide)
                        have e34b : ((X[q].toNat : Int) != 34) = false := by rw [bne, e34]; rfl
                        have e61 : ((X[q].toNat : Int) == 61) = false := tF 61 g61 (by decide)
                        have e61b : ((X[q].toNat : Int) != 61) = true := by rw [bne, e61]; rfl
                        have e92 : ((X[q].toNat : Int) == 92) = false := tF 92 g92 (by decide)
                        have e92b : ((X[q].toNat : Int) != 92) = true := by rw [bne, e92]; rfl
                        have HE : Hid (((T ++ ⟨#[92]⟩ ++ ⟨#[X[q]]⟩) : ByteArray).data.toList = escL (X.data.toList.take (q + 1))) := hide (by
                          have := HTN.out (⟨#[92]⟩ ++ ⟨#[X[q]]⟩) (by unfold escC; rw [if_pos (.inl g34)]; simp)
                          rw [← this]; simp)
                        have HB' : Hid (_ = bareTo X.data.toList (q + 1)) := hide (by rw [HPS.out, ← HP.out, decide_eq_true (take2_no7 hlq (.inl g61))] <;> rfl)
                        clear g34 g61 g92
                        go_wp2_with fail
                        go_roundw
                        case rel => exact ⟨q + 1, (T ++ ⟨#[92]⟩ ++ ⟨#[X[q]]⟩), _, by omega, by go_num, rfl, rfl, HB', HE, hKN _⟩
                        case measure => simp [intOf]; omega
                    · by_cases g92 : X[q] = 92
                      · have g61 : X[q] ≠ 61 := fun e => by rw [g92] at e; exact absurd e (by decide)
                        cases b
                        all_goals
                          have e34 : ((X[q].toNat : Int) == 34) = false := tF 34 g34 (by decide)
                          have e34b : ((X[q].toNat : Int) != 34) = true := by rw [bne, e34]; rfl
                          have e61 : ((X[q].toNat : Int) == 61) = false := tF 61 g61 (by decide)
                          have e61b : ((X[q].toNat : Int) != 61) = true := by rw [bne, e61]; rfl
                          have e92 : ((X[q].toNat : Int) == 92) = true := tT 92 g92 (by decide)
                          have e92b : ((X[q].toNat : Int) != 92) = false := by rw [bne, e92]; rfl
                          have HE : Hid (((T ++ ⟨#[92]⟩ ++ ⟨#[X[q]]⟩) : ByteArray).data.toList = escL (X.data.toList.take (q + 1))) := hide (by
                          have := HTN.out (⟨#[92]⟩ ++ ⟨#[X[q]]⟩) (by unfold escC; rw [if_pos (.inr g92)]; simp)
                          rw [← this]; simp)
                          have HB' : Hid (_  = bareTo X.data.toList (q + 1)) := hide (by rw [HPS.out, ← HP.out, decide_eq_true (take2_no7 hlq (.inl g61))] <;> rfl)
                          clear g34 g61 g92
                          go_wp2_with fail
                          go_roundw
                          case rel => exact ⟨q + 1, (T ++ ⟨#[92]⟩ ++ ⟨#[X[q]]⟩), _ , by omega, by go_num, rfl, rfl, HB', HE, hKN _⟩
                          case measure => simp [intOf]; omega
                      · by_cases g61 : X[q] = 61
                        · cases b with
                          | false =>
                            have e34 : ((X[q].toNat : Int) == 34) = false := tF 34 g34 (by decide)
                            have e34b : ((X[q].toNat : Int) != 34) = true := by rw [bne, e34]; rfl
                            have e61 : ((X[q].toNat : Int) == 61) = true := tT 61 g61 (by decide)
                            have e61b : ((X[q].toNat : Int) != 61) = false := by rw [bne, e61]; rfl
                            have e92 : ((X[q].toNat : Int) == 92) = false := tF 92 g92 (by decide)
                            have e92b : ((X[q].toNat : Int) != 92) = true := by rw [bne, e92]; rfl
                            have HE : Hid (((T ++ ⟨#[X[q]]⟩) : ByteArray).data.toList = escL (X.data.toList.take (q + 1))) := hide (by
                          exact HTN.out ⟨#[X[q]]⟩ (by unfold escC; rw [if_neg (by rintro (h | h); exact g34 h; exact g92 h)]))
                            have HB' : Hid (false = bareTo X.data.toList (q + 1)) := hide (by rw [HPS.out, ← HP.out, Bool.false_and])
                            clear g34 g61 g92
                            go_wp2_with fail
                            go_roundw
                            case rel => exact ⟨q + 1, (T ++ ⟨#[X[q]]⟩), false, by omega, by go_num, rfl, rfl, HB', HE, hKN _⟩
                            case measure => simp [intOf]; omega
                          | true =>
                            by_cases g3 : q + 1 = X.size
                            · have u4 : ((q : Int) + 1 == (X.size : Int)) = true := by rw [beq_iff_eq]; omega
                              have e34 : ((X[q].toNat : Int) == 34) = false := tF 34 g34 (by decide)
                              have e34b : ((X[q].toNat : Int) != 34) = true := by rw [bne, e34]; rfl
                              have e61 : ((X[q].toNat : Int) == 61) = true := tT 61 g61 (by decide)
                              have e61b : ((X[q].toNat : Int) != 61) = false := by rw [bne, e61]; rfl
                              have e92 : ((X[q].toNat : Int) == 92) = false := tF 92 g92 (by decide)
                              have e92b : ((X[q].toNat : Int) != 92) = true := by rw [bne, e92]; rfl
                              have HE : Hid (((T ++ ⟨#[X[q]]⟩) : ByteArray).data.toList = escL (X.data.toList.take (q + 1))) := hide (by
                          exact HTN.out ⟨#[X[q]]⟩ (by unfold escC; rw [if_neg (by rintro (h | h); exact g34 h; exact g92 h)]))
                              have HB' : Hid (true = bareTo X.data.toList (q + 1)) := hide (by rw [HPS.out, ← HP.out, decide_eq_true (take2_no7 hlq (.inr g3))] <;> rfl)
                              clear g34 g61 g92 g3
                              go_wp2_with fail
                              go_roundw
                              case rel => exact ⟨q + 1, (T ++ ⟨#[X[q]]⟩), true, by omega, by go_num, rfl, rfl, HB', HE, hKN _⟩
                              case measure => simp [intOf]; omega
                            · have u4 : ((q : Int) + 1 == (X.size : Int)) = false := beq_eq_false_iff_ne.2 (by omega)
                              have hq1 : q + 1 < X.size := by omega
                              have i1 : (q : Int) + 1 < X.size := by omega
                              have i2 : (0 : Int) ≤ (q : Int) + 1 := by omega
                              have i3 : ((q : Int) + 1).toNat = q + 1 := by omega
                              have h2 := take2_yes7 hlq hq1 g61
                              by_cases g4 : X[q + 1] = 63
                              · have u5 : ((X[q + 1].toNat : Int) == 63) = true := tT 63 g4 (by decide)
                                have u6 : ((X[q + 1].toNat : Int) != 63) = false := by rw [bne, u5]; rfl
                                have e34 : ((X[q].toNat : Int) == 34) = false := tF 34 g34 (by decide)
                                have e34b : ((X[q].toNat : Int) != 34) = true := by rw [bne, e34]; rfl
                                have e61 : ((X[q].toNat : Int) == 61) = true := tT 61 g61 (by decide)
                                have e61b : ((X[q].toNat : Int) != 61) = false := by rw [bne, e61]; rfl
                                have e92 : ((X[q].toNat : Int) == 92) = false := tF 92 g92 (by decide)
                                have e92b : ((X[q].toNat : Int) != 92) = true := by rw [bne, e92]; rfl
                                have HE : Hid (((T ++ ⟨#[X[q]]⟩) : ByteArray).data.toList = escL (X.data.toList.take (q + 1))) := hide (by
                          exact HTN.out ⟨#[X[q]]⟩ (by unfold escC; rw [if_neg (by rintro (h | h); exact g34 h; exact g92 h)]))
                                have HB' : Hid (false = bareTo X.data.toList (q + 1)) := hide (by rw [HPS.out, ← HP.out, h2, g4, decide_eq_false (p := ([61, 63] : List UInt8) ≠ [61, 63]) (by simp)] <;> rfl)
                                clear g34 g61 g92 g3 g4 h2
                                go_wp2_with fail
                                go_roundw
                                case rel => exact ⟨q + 1, (T ++ ⟨#[X[q]]⟩), false, by omega, by go_num, rfl, rfl, HB', HE, hKN _⟩
                                case measure => simp [intOf]; omega
                              · have u5 : ((X[q + 1].toNat : Int) == 63) = false := tF 63 g4 (by decide)
                                have u6 : ((X[q + 1].toNat : Int) != 63) = true := by rw [bne, u5]; rfl
                                have e34 : ((X[q].toNat : Int) == 34) = false := tF 34 g34 (by decide)
                                have e34b : ((X[q].toNat : Int) != 34) = true := by rw [bne, e34]; rfl
                                have e61 : ((X[q].toNat : Int) == 61) = true := tT 61 g61 (by decide)
                                have e61b : ((X[q].toNat : Int) != 61) = false := by rw [bne, e61]; rfl
                                have e92 : ((X[q].toNat : Int) == 92) = false := tF 92 g92 (by decide)
                                have e92b : ((X[q].toNat : Int) != 92) = true := by rw [bne, e92]; rfl
                                have HE : Hid (((T ++ ⟨#[X[q]]⟩) : ByteArray).data.toList = escL (X.data.toList.take (q + 1))) := hide (by
                          exact HTN.out ⟨#[X[q]]⟩ (by unfold escC; rw [if_neg (by rintro (h | h); exact g34 h; exact g92 h)]))
                                have HB' : Hid (true = bareTo X.data.toList (q + 1)) := hide (by rw [HPS.out, ← HP.out, h2, decide_eq_true (p := ([61, X[q + 1]] : List UInt8) ≠ [61, 63]) (by intro e; injection e with _ e; injection e with e _; exact g4 e)] <;> rfl)
                                clear g34 g61 g92 g3 g4 h2
                                go_wp2_with fail
                                go_roundw
                                case rel => exact ⟨q + 1, (T ++ ⟨#[X[q]]⟩), true, by omega, by go_num, rfl, rfl, HB', HE, hKN _⟩
                                case measure => simp [intOf]; omega
                        · cases b
                          all_goals
                            have e34 : ((X[q].toNat : Int) == 34) = false := tF 34 g34 (by decide)
                            have e34b : ((X[q].toNat : Int) != 34) = true := by rw [bne, e34]; rfl
                            have e61 : ((X[q].toNat : Int) == 61) = false := tF 61 g61 (by decide)
                            have e61b : ((X[q].toNat : Int) != 61) = true := by rw [bne, e61]; rfl
                            have e92 : ((X[q].toNat : Int) == 92) = false := tF 92 g92 (by decide)
                            have e92b : ((X[q].toNat : Int) != 92) = true := by rw [bne, e92]; rfl
                            have HE : Hid (((T ++ ⟨#[X[q]]⟩) : ByteArray).data.toList = escL (X.data.toList.take (q + 1))) := hide (by
                          exact HTN.out ⟨#[X[q]]⟩ (by unfold escC; rw [if_neg (by rintro (h | h); exact g34 h; exact g92 h)]))
                            have HB' : Hid (_  = bareTo X.data.toList (q + 1)) := hide (by rw [HPS.out, ← HP.out, decide_eq_true (take2_no7 hlq (.inl g61))] <;> rfl)
                            clear g34 g61 g92
                            go_wp2_with fail
                            go_roundw
                            case rel => exact ⟨q + 1, (T ++ ⟨#[X[q]]⟩), _ , by omega, by go_num, rfl, rfl, HB', HE, hKN _⟩
                            case measure => simp [intOf]; omega
                  · obtain rfl : q = X.size := by omega
                    have hpl : b = plainL f.2 := by rw [HP.out, bareTo_end, HX.out]
                    have hTT : T.data.toList = escL f.2 := by rw [HT.out, List.take_of_length_le (by rw [toList_length]; exact Nat.le_refl _), HX.out]
                    have hTs : T.size ≤ 600 := by
                      have := escL_length f.2
                      rw [← hTT, toList_length, ← HX.out, toList_length] at this; omega
                    have HZZ := hide (HZ.out f (List.mem_of_getElem? HFK.out))
                    cases b with
                    | true =>
                      have HNX := hide (wSt7_plain HW.out HFK.out (cast HOKP.out HOKK.out) HZZ.out hTT HY.out hpl.symm)
                      clear hpl hTT HP HT hlq
                      go_wp2_with fail
                      go_roundw
                      case rel => exact ⟨k + 1, _, by omega, by go_num, rfl, HNX, hide HK.out.1⟩
                      case measure => simp [intOf]; omega
                    | false =>
                      obtain ⟨E, hE⟩ : ∃ E, E = str (penc f.2) := ⟨_, rfl⟩
                      have hEl : E.data.toList = penc f.2 := by rw [hE, str_toList]
                      have HNX := hide (wSt7_enc HW.out HFK.out (cast HOKP.out HOKK.out) HZZ.out hEl HY.out hpl.symm)
                      have zE : E.size ≤ 2000 := by
                        rw [hE, str_size]
                        have := (penc_length f.2).2
                        rw [← HX.out, toList_length] at this; rw [← HX.out]; omega
                      have CE := fun w1 => hide (refEncode03_any X w1 (by omega))
                      rw [HX.out, ← hE] at CE
                      have lc1 := World.block_lt_of_cell? _ _ hc1
                      have lc2 := World.block_lt_of_cell? _ _ hc2
                      have HKP : Hid (∀ w2 w3, Below w2.heap.size w2 w3 → Below wr.heap.size wr w2 → Below wr.heap.size wr w3 ∧ w3.cell? (a.add (k * 2)) = some (.string Y) ∧ w3.cell? { block := (a.add (k * 2)).block, off := (a.add (k * 2)).off + 1 } = some (.string X)) := hide fun w2 w3 h3 h2 => by
                        have hb := h2.trans (h3.mono h2.size)
                        exact ⟨hb, (hb.cell lc1).trans hc1, (hb.cell lc2).trans hc2⟩
                      have hcb := Below.refl wr.heap.size wr
                      clear lc1 lc2 hE hpl hTT HP HT hlq hEl
                      have hOz : O.size ≤ 100000 := by omega
                      clear hOs
                      go_wp2_with fail
                      go_region_with (
                        ((with_reducible refine (CE _).out.mono ?_); rintro e w3 ⟨rfl, hb3⟩; obtain ⟨hbx, d1, d2⟩ := HKP.out _ _ hb3 ((Below.refl _ _).drew); have HB3 := hide (HK.out.1.trans (hbx.mono HK.out.1.size)); clear hbx hb3))
                      all_goals
                        try go_wp2_with fail
                        go_roundw
                        case rel => exact ⟨k + 1, _, by omega, by go_num, rfl, HNX, HB3⟩
                        case measure => simp [intOf]; omega
        · have hk2 : k = l.length := by omega
          have HR : Hid (wrP main.data.toList l = (O.data.toList, 0)) := hide (by
            obtain ⟨h1, h2, _⟩ := HW.out
            rw [hk2, List.take_length] at h1 h2
            rw [h1]
            unfold wrP
            rw [h2, HMT.out]; rfl)
          clear hk2
          go_wp2_with fail
          go_ret2
          exact ⟨by rw [HR.out]; show _ = Ending.returned (.tuple #[.string (str O.data.toList), .int .i64 0]); rw [str_of]; rfl, HB.out⟩
end Go.Proofs.YtienjpelmbldpaaGreatDoor
