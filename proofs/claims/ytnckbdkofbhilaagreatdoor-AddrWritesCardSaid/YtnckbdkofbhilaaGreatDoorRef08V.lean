/- WALK of the reference's Write (layer 8): the function. No statement is proved here. -/
import Derived.Test.YtnckbdkofbhilaaGreatDoorRef08W
namespace Go.Proofs.YtnckbdkofbhilaaGreatDoor
open Go.RowKit
set_option linter.unusedVariables false
set_option linter.unusedSimpArgs false
set_option maxRecDepth 100000
/-- two cells that hold texts, in a world that keeps what was below -/
def KX (w : World) (a b : Addr) (X Y : ByteArray) (w3 : World) : Prop := Below w.heap.size w w3 ∧ w3.cell? a = some (.string X) ∧ w3.cell? b = some (.string Y)
theorem KX.step {w : World} {a b : Addr} {X Y : ByteArray} {w3 w4 : World} (h : KX w a b X Y w3) (hb : Below w3.heap.size w3 w4) : KX w a b X Y w4 :=
  ⟨h.1.trans (hb.mono h.1.size), (hb.cell (World.block_lt_of_cell? _ _ h.2.1)).trans h.2.1, (hb.cell (World.block_lt_of_cell? _ _ h.2.2)).trans h.2.2⟩
theorem KX.alloc {w : World} {a b : Addr} {X Y : ByteArray} {w3 : World} (h : KX w a b X Y w3) (o : Obj) : KX w a b X Y (w3.alloc o) := h.step ((Below.refl _ _).alloc (Nat.le_refl _) _)
theorem take2_no {s : ByteArray} {k : Nat} (h : k < s.size) (hc : s[k] ≠ 61 ∨ k + 1 = s.size) : (s.data.toList.drop k).take 2 ≠ [61, 63] := by
  rw [drop_cons s k h]
  rcases hc with hc | hc
  · intro e
    injection e with e _
    exact hc e
  · rw [drop_nil s (k + 1) (by omega)]
    intro e; have := congrArg List.length e; simp at this
theorem take2_yes {s : ByteArray} {k : Nat} (h : k < s.size) (h2 : k + 1 < s.size) (hc : s[k] = 61) : (s.data.toList.drop k).take 2 = [61, s[k + 1]] := by
  rw [drop_cons s k h, drop_cons s (k + 1) h2, hc]; rfl
set_option maxHeartbeats 8000000 in
theorem refWrite_any (v : Value) (l : List BoxL) (w : World) (hl : BoxesIn w v l) (hf : fewX l = true) :
    Calls Tryz.prog 24 #[v] w fun e w' => e = .returned (.tuple #[.string (str (writeAll l).1), .int .i64 (writeAll l).2]) ∧ Below w.heap.size w w' := by
  obtain ⟨A, cap, rfl⟩ := hl.form
  have HL := hide hl
  have HF := hide hf
  have hn := (few_fitsX hf).1
  have HZ := hide (few_fitsX hf).2
  clear hl hf
  go_enter Tryz.func24, Tryz.ntmps24
  go_wp2_with fail
  go_loopw [4, 5] (fun o i wr => ∃ (k : Nat) (O : ByteArray), k ≤ l.length ∧ i = .int .i64 k ∧ o = .string O ∧ Hid (WSt l k O) ∧ Hid (Below w.heap.size w wr)) (fun _ i _ => l.length - (intOf i).toNat)
  case atStart => exact ⟨0, ⟨#[]⟩, Nat.zero_le _, rfl, rfl, hide ⟨rfl, rfl, by decide⟩, hide (Below.refl _ _)⟩
  case round =>
    obtain ⟨k, O, hk, rfl, rfl, HW, HB⟩ := hrel
    by_cases hlt : k < l.length
    · obtain ⟨f, hf⟩ : ∃ f, l[k]? = some f := ⟨_, List.getElem?_eq_getElem hlt⟩
      obtain ⟨a, ha, hc1, hc2⟩ := (HL.out.kept HB.out).at k f hf
      subst ha
      obtain ⟨z1, z2⟩ := HZ.out f (List.mem_of_getElem? hf)
      obtain ⟨X, hX⟩ : ∃ X, X = str f.1 := ⟨_, rfl⟩
      obtain ⟨Y, hY⟩ : ∃ X, X = str f.2 := ⟨_, rfl⟩
      rw [← hX] at hc1
      rw [← hY] at hc2
      have hKX : KX w (a.add (k * 2)) { block := (a.add (k * 2)).block, off := (a.add (k * 2)).off + 1 } X Y wr := ⟨HB.out, hc1, hc2⟩
      have hXs : X.size ≤ 300 := by rw [hX, str_size]; exact z1
      have hYs : Y.size ≤ 300 := by rw [hY, str_size]; exact z2
      have HX := hide (show X.data.toList = f.1 by rw [hX, str_toList])
      have HY := hide (show Y.data.toList = f.2 by rw [hY, str_toList])
      have HFK := hide hf
      have HKX := hide hKX
      have hOs := HW.out.2.2
      clear hf z1 z2 hX hY hKX
      go_wp2_with fail
      go_loopw [6, 7, 8] (fun p t j wi => ∃ (q : Nat) (T : ByteArray) (b : Bool), q ≤ X.size ∧ j = .int .i64 q ∧ t = .string T ∧ p = .bool b ∧ Hid (b = plainTo X.data.toList q) ∧ Hid (T.data.toList = escL (X.data.toList.take q)) ∧ Hid (ctlL (X.data.toList.take q) = false) ∧ Hid (KX w (a.add (k * 2)) { block := (a.add (k * 2)).block, off := (a.add (k * 2)).off + 1 } X Y wi)) (fun _ _ j _ => X.size - (intOf j).toNat)
      case atStart => exact ⟨0, ⟨#[]⟩, true, Nat.zero_le _, rfl, rfl, rfl, hide (plainTo_zero _).symm, hide rfl, hide rfl, HKX⟩
      case round =>
        clear hc1 hc2 HKX HB
        obtain ⟨q, T, b, hq, rfl, rfl, rfl, HP, HT, HC, HK⟩ := hrel
        obtain ⟨kb, hc1, hc2⟩ := id HK.out
        clear kb
        by_cases hlq : q < X.size
        · by_cases c1 : X[q].toNat < 32
          · have t1 : decide ((X[q].toNat : Int) < 32) = true := decide_eq_true (by omega)
            have HR : Hid (writeAll l = ([], 1)) := hide (all_bad HFK.out (by
              unfold okBox
              rw [ctl_any (c := X[q]) (by rw [← HX.out, ← Array.mem_def]; exact Array.getElem_mem (by exact hlq)) (by unfold ctlB; rw [decide_eq_true c1]; rfl)]
              simp))
            clear c1
            go_wp2_with fail
            go_ret2
            exact ⟨by rw [HR.out]; rfl, HK.out.1⟩
          have t1 : decide ((X[q].toNat : Int) < 32) = false := decide_eq_false (by omega)
          by_cases c2 : X[q] = 127
          · have t2 : ((X[q].toNat : Int) == 127) = true := tT 127 c2 (by decide)
            have HR : Hid (writeAll l = ([], 1)) := hide (all_bad HFK.out (by
              unfold okBox
              rw [ctl_any (c := X[q]) (by rw [← HX.out, ← Array.mem_def]; exact Array.getElem_mem (by exact hlq)) (by rw [c2]; rfl)]
              simp))
            clear c1 c2
            go_wp2_with fail
            go_ret2
            exact ⟨by rw [HR.out]; rfl, HK.out.1⟩
          have t2 : ((X[q].toNat : Int) == 127) = false := tF 127 c2 (by decide)
          have hc2' : X[q].toNat ≠ 127 := fun e => c2 (UInt8.toNat_inj.1 e)
          have HCN : Hid (ctlL (X.data.toList.take (q + 1)) = false) := hide (by
            rw [take_snoc X q hlq, ctlL_snoc, HC.out]
            unfold ctlB
            rw [decide_eq_false c1, beq_eq_false_iff_ne.2 c2]; rfl)
          have hps := plainTo_succ X q hlq
          rw [← HP.out] at hps
          have hlow : decide ((32 : Int) ≤ X[q].toNat) = true := decide_eq_true (by omega)
          rw [hlow, Bool.true_and] at hps
          have HPS := hide hps
          have HLT : Hid (X[q].toNat < 127 ↔ (X[q].toNat : Int) ≤ 126) := hide (by omega)
          obtain ⟨b', hb'⟩ : ∃ b', b' = plainTo X.data.toList (q + 1) := ⟨_, rfl⟩
          have HB' := hide hb'
          clear hps hlow hb' c1 c2
          go_upto_region 13 with fail
          go_cut [6] from 16 to 82 (fun s6 wx => s6 = .bool b' ∧ wx = wr)
          case first =>
            cases b with
            | false =>
              have hv : b' = false := by rw [HB'.out, HPS.out, Bool.false_and, Bool.false_and]
              go_wp2_with fail
              go_meet
              exact ⟨by rw [hv], rfl⟩
            | true =>
              by_cases g1 : X[q].toNat < 127
              · have u1 : decide ((X[q].toNat : Int) < 127) = true := decide_eq_true (by omega)
                have g1' : decide ((X[q].toNat : Int) ≤ 126) = true := decide_eq_true (HLT.out.1 g1)
                by_cases g2 : X[q] = 61
                · have u2 : ((X[q].toNat : Int) == 61) = true := tT 61 g2 (by decide)
                  have u3 : ((X[q].toNat : Int) != 61) = false := by rw [bne, u2]; rfl
                  by_cases g3 : q + 1 = X.size
                  · have hv : b' = true := by rw [HB'.out, HPS.out, g1', decide_eq_true (take2_no hlq (.inr g3))]; rfl
                    have u4 : ((q : Int) + 1 == (X.size : Int)) = true := by rw [beq_iff_eq]; omega
                    clear g1 g2 g3 g1'
                    go_wp2_with fail
                    go_meet
                    exact ⟨by rw [hv], rfl⟩
                  · have u4 : ((q : Int) + 1 == (X.size : Int)) = false := beq_eq_false_iff_ne.2 (by omega)
                    have hq1 : q + 1 < X.size := by omega
                    have i1 : (q : Int) + 1 < X.size := by omega
                    have i2 : (0 : Int) ≤ (q : Int) + 1 := by omega
                    have i3 : ((q : Int) + 1).toNat = q + 1 := by omega
                    have h2 := take2_yes hlq hq1 g2
                    by_cases g4 : X[q + 1] = 63
                    · have hv : b' = false := by rw [HB'.out, HPS.out, h2, g4, decide_eq_false (p := ([61, 63] : List UInt8) ≠ [61, 63]) (by simp), Bool.and_false]
                      have u5 : ((X[q + 1].toNat : Int) == 63) = true := tT 63 g4 (by decide)
                      have u6 : ((X[q + 1].toNat : Int) != 63) = false := by rw [bne, u5]; rfl
                      clear g1 g2 g3 g1' g4 h2
                      go_wp2_with fail
                      go_meet
                      exact ⟨by rw [hv], rfl⟩
                    · have hv : b' = true := by rw [HB'.out, HPS.out, h2, g1', decide_eq_true (p := ([61, X[q + 1]] : List UInt8) ≠ [61, 63]) (by intro e; injection e with _ e; injection e with e _; exact g4 e)]; rfl
                      have u5 : ((X[q + 1].toNat : Int) == 63) = false := tF 63 g4 (by decide)
                      have u6 : ((X[q + 1].toNat : Int) != 63) = true := by rw [bne, u5]; rfl
                      clear g1 g2 g3 g1' g4 h2
                      go_wp2_with fail
                      go_meet
                      exact ⟨by rw [hv], rfl⟩
                · have hv : b' = true := by rw [HB'.out, HPS.out, g1', decide_eq_true (take2_no hlq (.inl g2))]; rfl
                  have u2 : ((X[q].toNat : Int) == 61) = false := tF 61 g2 (by decide)
                  have u3 : ((X[q].toNat : Int) != 61) = true := by rw [bne, u2]; rfl
                  clear g1 g2 g1'
                  go_wp2_with fail
                  go_meet
                  exact ⟨by rw [hv], rfl⟩
              · have u1 : decide ((X[q].toNat : Int) < 127) = false := decide_eq_false (by omega)
                have hv : b' = false := by rw [HB'.out, HPS.out, decide_eq_false (p := (X[q].toNat : Int) ≤ 126) (fun h => g1 (HLT.out.2 h)), Bool.and_false, Bool.false_and]
                clear g1
                go_wp2_with fail
                go_meet
                exact ⟨by rw [hv], rfl⟩
          case rest =>
            obtain ⟨rfl, hwx⟩ := hcut
            subst hwx
            have hTs : T.size ≤ 2 * q := by
              have := escL_length (X.data.toList.take q)
              rw [← HT.out, toList_length, List.length_take] at this; omega
            have hcv := conv1
            have hbs := byte_str
            have hKN := fun o => hide (HK.out.alloc o)
            have hz1 : (⟨#[92]⟩ : ByteArray).size = 1 := rfl
            have hz2 : ∀ c : UInt8, (⟨#[c]⟩ : ByteArray).size = 1 := fun _ => rfl
            have HTN : Hid (∀ e : ByteArray, e.data.toList = escC X[q] → (T ++ e).data.toList = escL (X.data.toList.take (q + 1))) := hide (fun e he => by
              rw [take_snoc X q hlq, escL_snoc, ← HT.out, ← he]; simp)
            by_cases g1 : X[q] = 34
            · have u1 : ((X[q].toNat : Int) == 34) = true := tT 34 g1 (by decide)
              have HE : Hid ((T ++ ⟨#[92]⟩ ++ ⟨#[X[q]]⟩ : ByteArray).data.toList = escL (X.data.toList.take (q + 1))) := hide (by
                have := HTN.out (⟨#[92]⟩ ++ ⟨#[X[q]]⟩) (by unfold escC; rw [if_pos (.inl g1)]; simp)
                rw [← this]; simp)
              clear g1
              go_wp2_with fail
              go_roundw
              case rel => exact ⟨q + 1, T ++ ⟨#[92]⟩ ++ ⟨#[X[q]]⟩, b', by omega, by go_num, rfl, rfl, HB', HE, HCN, hKN _⟩
              case measure => simp [intOf]; omega
            · have u1 : ((X[q].toNat : Int) == 34) = false := tF 34 g1 (by decide)
              by_cases g2 : X[q] = 92
              · have u2 : ((X[q].toNat : Int) == 92) = true := tT 92 g2 (by decide)
                have HE : Hid ((T ++ ⟨#[92]⟩ ++ ⟨#[X[q]]⟩ : ByteArray).data.toList = escL (X.data.toList.take (q + 1))) := hide (by
                  have := HTN.out (⟨#[92]⟩ ++ ⟨#[X[q]]⟩) (by unfold escC; rw [if_pos (.inr g2)]; simp)
                  rw [← this]; simp)
                clear g1 g2
                go_wp2_with fail
                go_roundw
                case rel => exact ⟨q + 1, T ++ ⟨#[92]⟩ ++ ⟨#[X[q]]⟩, b', by omega, by go_num, rfl, rfl, HB', HE, HCN, hKN _⟩
                case measure => simp [intOf]; omega
              · have u2 : ((X[q].toNat : Int) == 92) = false := tF 92 g2 (by decide)
                have HE : Hid ((T ++ ⟨#[X[q]]⟩ : ByteArray).data.toList = escL (X.data.toList.take (q + 1))) := hide (HTN.out ⟨#[X[q]]⟩ (by unfold escC; rw [if_neg (by rintro (h | h); exact g1 h; exact g2 h)]))
                clear g1 g2
                go_wp2_with fail
                go_roundw
                case rel => exact ⟨q + 1, T ++ ⟨#[X[q]]⟩, b', by omega, by go_num, rfl, rfl, HB', HE, HCN, hKN _⟩
                case measure => simp [intOf]; omega
        · obtain rfl : q = X.size := by omega
          have hpl : b = plainL f.1 := by rw [HP.out, plainTo_end X X.size (Nat.le_refl _) (Nat.le_refl _), HX.out]
          have hTT : T.data.toList = escL f.1 := by rw [HT.out, List.take_of_length_le (by rw [toList_length]; exact Nat.le_refl _), HX.out]
          have hCC : ctlL f.1 = false := by rw [← HC.out, List.take_of_length_le (by rw [toList_length]; exact Nat.le_refl _), HX.out]
          have hTs : T.size ≤ 600 := by
            have := escL_length f.1
            rw [← hTT, toList_length, ← HX.out, toList_length] at this; omega
          have CG := fun w1 => hide (refGood_any Y w1 (by omega))
          rw [HY.out] at CG
          have HTT := hide hTT
          clear HP HT HC hlq hTT
          cases hg : goodL f.2 with
          | false =>
            rw [hg] at CG
            have HR : Hid (writeAll l = ([], 1)) := hide (all_bad HFK.out (by unfold okBox; rw [hg]; rfl))
            clear hg
            go_wp2_with (go_at_call 21; refine (CG _).out.mono ?_; rintro e w1 ⟨rfl, hw1⟩; obtain rfl := hw1)
            go_ret2
            exact ⟨by rw [HR.out]; rfl, HK.out.1⟩
          | true =>
            rw [hg] at CG
            have hok : okBox f = true := by unfold okBox; rw [hg, hCC]; rfl
            have HN := hide (fun O1 (h1 : Led k O O1) => And.intro (fun h2 => HW.out.none HFK.out hok HF.out h1 HY.out h2) (And.intro (fun h2 h3 => HW.out.plain HFK.out hok HF.out h1 HTT.out HY.out h2 h3) (fun (E : ByteArray) h2 h3 h4 => HW.out.enc (E := E) HFK.out hok HF.out h1 h4 HY.out h2 h3)))
            clear hg hCC hok
            by_cases hx0 : f.1 = []
            · have s0 : X.toList.isEmpty = true := by rw [bytes_list, HX.out, hx0]; rfl
              by_cases hk0 : k = 0
              · have t0 : decide ((k : Int) > 0) = false := decide_eq_false (by omega)
                have t0b : decide (0 < k) = false := decide_eq_false (by omega)
                have HNX := hide ((HN.out _ (.inl ⟨hk0, rfl⟩)).1 hx0)
                clear hk0 hpl HN hx0
                go_wp2_with (go_at_call 21; refine (CG _).out.mono ?_; rintro e w1 ⟨rfl, hw1⟩; obtain rfl := hw1)
                go_roundw
                case rel => exact ⟨k + 1, _, by omega, by go_num, rfl, HNX, hide HK.out.1⟩
                case measure => simp [intOf]; omega
              · have t0 : decide ((k : Int) > 0) = true := decide_eq_true (by omega)
                have t0b : decide (0 < k) = true := decide_eq_true (by omega)
                have HNX := hide ((HN.out _ (.inr ⟨hk0, rfl⟩)).1 hx0)
                clear hk0 hpl HN hx0
                go_wp2_with (go_at_call 21; refine (CG _).out.mono ?_; rintro e w1 ⟨rfl, hw1⟩; obtain rfl := hw1)
                go_roundw
                case rel => exact ⟨k + 1, _, by omega, by go_num, rfl, HNX, hide HK.out.1⟩
                case measure => simp [intOf]; omega
            · have s0 : X.toList.isEmpty = false := by
                rw [bytes_list, HX.out]
                cases h : f.1 with
                | nil => exact absurd h hx0
                | cons _ _ => rfl
              cases b with
              | true =>
                replace hpl := hpl.symm
                by_cases hk0 : k = 0
                · have t0 : decide ((k : Int) > 0) = false := decide_eq_false (by omega)
                  have t0b : decide (0 < k) = false := decide_eq_false (by omega)
                  have HNX := hide ((HN.out _ (.inl ⟨hk0, rfl⟩)).2.1 hpl hx0)
                  clear hk0 hpl HN hx0
                  go_upto_region 25 with (go_at_call 21; refine (CG _).out.mono ?_; rintro e w1 ⟨rfl, hw1⟩; obtain rfl := hw1)
                  clear t0 t0b CG s0
                  go_wp2_with fail
                  go_roundw
                  case rel => exact ⟨k + 1, _, by omega, by go_num, rfl, HNX, hide HK.out.1⟩
                  case measure => simp [intOf]; omega
                · have t0 : decide ((k : Int) > 0) = true := decide_eq_true (by omega)
                  have t0b : decide (0 < k) = true := decide_eq_true (by omega)
                  have HNX := hide ((HN.out _ (.inr ⟨hk0, rfl⟩)).2.1 hpl hx0)
                  clear hk0 hpl HN hx0
                  go_upto_region 25 with (go_at_call 21; refine (CG _).out.mono ?_; rintro e w1 ⟨rfl, hw1⟩; obtain rfl := hw1)
                  clear t0 t0b CG s0
                  go_wp2_with fail
                  go_roundw
                  case rel => exact ⟨k + 1, _, by omega, by go_num, rfl, HNX, hide HK.out.1⟩
                  case measure => simp [intOf]; omega
              | false =>
                replace hpl := hpl.symm
                obtain ⟨E, hE⟩ : ∃ E, E = str (encodeL f.1) := ⟨_, rfl⟩
                have HE : Hid (E.data.toList = encodeL f.1) := hide (by rw [hE, str_toList])
                have zE : E.size ≤ 2000 := by
                  rw [hE, str_size]
                  have := encodeL_short f.1
                  rw [← HX.out, toList_length] at this; rw [← HX.out]; omega
                have CE := fun w1 => hide (refWEncode_any X w1 (by omega))
                rw [HX.out, ← hE] at CE
                have lc1 := World.block_lt_of_cell? _ _ hc1
                have lc2 := World.block_lt_of_cell? _ _ hc2
                have HKP : Hid (∀ w2 w3, Below w2.heap.size w2 w3 → Below wr.heap.size wr w2 → Below wr.heap.size wr w3 ∧ w3.cell? (a.add (k * 2)) = some (.string X) ∧ w3.cell? { block := (a.add (k * 2)).block, off := (a.add (k * 2)).off + 1 } = some (.string Y)) := hide fun w2 w3 h3 h2 => by
                  have hb := h2.trans (h3.mono h2.size)
                  exact ⟨hb, (hb.cell lc1).trans hc1, (hb.cell lc2).trans hc2⟩
                have hcb := Below.refl wr.heap.size wr
                clear lc1 lc2 hE
                by_cases hk0 : k = 0
                · have t0 : decide ((k : Int) > 0) = false := decide_eq_false (by omega)
                  have t0b : decide (0 < k) = false := decide_eq_false (by omega)
                  have HNX := hide ((HN.out _ (.inl ⟨hk0, rfl⟩)).2.2 E hpl hx0 HE.out)
                  clear hk0 hpl HN hx0
                  go_upto_region 21 with (go_at_call 21; refine (CG _).out.mono ?_; rintro e w1 ⟨rfl, hw1⟩; obtain rfl := hw1)
                  clear t0 t0b CG s0
                  go_wp2_with fail
                  go_region_with (
                    (refine (CE _).out.mono ?_; rintro e w3 ⟨rfl, hb3⟩; obtain ⟨hbx, d1, d2⟩ := HKP.out _ _ hb3 ((Below.refl _ _).drew); have HB3 := hide (HK.out.1.trans (hbx.mono HK.out.1.size)); clear hbx hb3))
                  all_goals
                    try go_wp2_with fail
                    go_roundw
                    case rel => exact ⟨k + 1, _, by omega, by go_num, rfl, HNX, HB3⟩
                    case measure => simp [intOf]; omega
                · have t0 : decide ((k : Int) > 0) = true := decide_eq_true (by omega)
                  have t0b : decide (0 < k) = true := decide_eq_true (by omega)
                  have HNX := hide ((HN.out _ (.inr ⟨hk0, rfl⟩)).2.2 E hpl hx0 HE.out)
                  clear hk0 hpl HN hx0
                  go_upto_region 21 with (go_at_call 21; refine (CG _).out.mono ?_; rintro e w1 ⟨rfl, hw1⟩; obtain rfl := hw1)
                  clear t0 t0b CG s0
                  go_wp2_with fail
                  go_region_with (
                    (refine (CE _).out.mono ?_; rintro e w3 ⟨rfl, hb3⟩; obtain ⟨hbx, d1, d2⟩ := HKP.out _ _ hb3 ((Below.refl _ _).drew); have HB3 := hide (HK.out.1.trans (hbx.mono HK.out.1.size)); clear hbx hb3))
                  all_goals
                    try go_wp2_with fail
                    go_roundw
                    case rel => exact ⟨k + 1, _, by omega, by go_num, rfl, HNX, HB3⟩
                    case measure => simp [intOf]; omega
    · have hk2 : k = l.length := by omega
      have HR : Hid (writeAll l = (O.data.toList, 0)) := hide (by
        obtain ⟨h1, h2, _⟩ := HW.out
        rw [hk2, List.take_length] at h1 h2
        rw [h1]
        unfold writeAll
        rw [h2]; rfl)
      clear hk2
      go_wp2_with fail
      go_ret2
      exact ⟨by rw [HR.out]; show _ = Ending.returned (.tuple #[.string (str O.data.toList), .int .i64 0]); rw [str_of]; rfl, HB.out⟩
end Go.Proofs.YtnckbdkofbhilaaGreatDoor
