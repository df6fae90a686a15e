/- WALK of the law HtokForms. Written by wip/tools/htoklaws.py. No statement is proved here. Own work of the verifier. -/
import Derived.Test.YtgokefodmjhhiaaGreatDoorRef13L
import Derived.Test.YtgokefodmjhhiaaGreatDoorHtokQ
import Derived.Test.YtgokefodmjhhiaaGreatDoorHtokG
import Derived.Test.YtgokefodmjhhiaaGreatDoorBaseM
import Derived.Deep.RegionHeld3
namespace Go.Proofs.YtgokefodmjhhiaaGreatDoor
open Go.RowKit
set_option linter.unusedVariables false
set_option linter.unusedSimpArgs false
set_option maxRecDepth 100000
theorem pair_ne {A : List AtL} (h : A.Pairwise (fun a b => a.1 ≠ b.1)) {i j : Nat} {a b : AtL} (hij : i < j) (ha : A[i]? = some a) (hb : A[j]? = some b) : ((str a.1).toList == (str b.1).toList) = false := by
  rw [str_list, str_list, beq_eq_false_iff_ne]
  obtain ⟨l1, e1⟩ := List.getElem?_eq_some_iff.1 ha
  obtain ⟨l2, e2⟩ := List.getElem?_eq_some_iff.1 hb
  have := List.pairwise_iff_getElem.1 h i j l1 l2 hij
  rw [e1, e2] at this
  exact this
set_option maxHeartbeats 8000000 in
theorem law_HtokForms (s : ByteArray) (hss : s.size ≤ maxLen) (w : World) (hE : EnvX w) :
    Calls Tryz.prog 4 #[.string s] w fun e w' => e = .returned (.bool true) ∧ Below w.heap.size w w' := by
  have HE := hide hE
  clear hE
  unfold maxLen at hss
  rcases Nat.lt_or_ge 1500 s.size with hqs | hs
  · have t0 : decide ((1500 : Int) < s.size) = true := decide_eq_true (by omega)
    go_enter Tryz.func4, Tryz.ntmps4
    go_wp2_with fail
    refine (live13_any _ HE.out).mono ?_
    rintro e wl ⟨rfl, hbl⟩
    have HBL := hide (hbl)
    clear hbl
    go_wp2_with fail
    go_ret
    exact ⟨rfl, HBL.out⟩
  have t0 : decide ((1500 : Int) < s.size) = false := decide_eq_false (by omega)
  obtain ⟨m, hm⟩ := HE.out.2
  have HSC := hide (scan_any s m w (by omega) HE.out.1 hm)
  obtain ⟨hF, hN⟩ := scan_forms decE s.data.toList.length s.data.toList [] [] (Nat.le_refl _) ⟨fun t h => (by cases h), fun i a b h => (by simp at h)⟩ (fun t h => by simp at h)
  have HFL := hide hF
  have HNM := hide (scan_names decE s.data.toList.length s.data.toList.length s.data.toList [] [] (Nat.le_refl _) (Nat.le_refl _) (fun t h => by cases h))
  rw [toList_length] at HNM
  have HNL : Hid ((scanL decE [] [] s.data.toList).length ≤ s.size) := hide (by rw [toList_length] at hN; simpa [sz1] using hN)
  clear hm hF hN
  go_enter Tryz.func4, Tryz.ntmps4
  go_wp2_with fail
  refine HSC.out.mono ?_
  rintro e w1 ⟨v, vs, rfl, ht, hm, hb⟩
  obtain ⟨A, c, rfl⟩ := ht.slice_len
  have HE1 := hide (HE.out.kept hb)
  have HT := hide ht.in
  have HM := hide hm
  have HB1 := hide hb
  clear ht hm hb
  obtain ⟨L, hL⟩ : ∃ L, L = vs.map Prod.fst := ⟨_, rfl⟩
  obtain ⟨n, hn⟩ : ∃ n, vs.length = n := ⟨_, rfl⟩
  have hLn : L.length = n := by rw [hL, List.length_map, hn]
  rw [hn] at HT ⊢
  rw [← hL] at HT HM
  rw [← HM.out] at HFL HNL HNM
  have hns : n ≤ s.size := by rw [← hLn]; exact HNL.out
  clear HM hL hn HNL HSC
  go_wp2_with fail
  go_loopw [4] (fun iv wr => ∃ k : Nat, k ≤ n ∧ iv = .int .i64 k ∧ Hid (Below w1.heap.size w1 wr)) (fun iv _ => n - (intOf iv).toNat)
  case atStart => exact ⟨0, Nat.zero_le _, rfl, hide (Below.refl _ _)⟩
  case round =>
    obtain ⟨k, hk, rfl, HR⟩ := hrel
    by_cases hlt : k < n
    · obtain ⟨T, hT⟩ : ∃ T, L[k]? = some T := ⟨_, List.getElem?_eq_getElem (by omega)⟩
      have hTg : (L.map gOf)[k]? = some (gOf T) := by rw [List.getElem?_map, hT]; rfl
      obtain ⟨a, d, y, ha, c1, c2, c3, c4, hA⟩ := (HT.out.kept HR.out).at k (gOf T) hTg
      subst ha
      obtain ⟨f1, f2, f3, f4, f5⟩ := HFL.out.1 T (List.mem_of_getElem? hT)
      obtain ⟨X, hX⟩ : ∃ X, X = str T.name := ⟨_, rfl⟩
      obtain ⟨Y, hY⟩ : ∃ X, X = str T.text := ⟨_, rfl⟩
      obtain ⟨K, hK⟩ : ∃ K : Int, K = (T.kind : Int) := ⟨_, rfl⟩
      obtain ⟨q, hq⟩ : ∃ q, q = T.attrs.length := ⟨_, rfl⟩
      have c1' : wr.cell? (a.add (k * 4)) = some (.int .i64 K) := by rw [hK]; exact c1
      have c2' : wr.cell? { block := (a.add (k * 4)).block, off := (a.add (k * 4)).off + 1 } = some (.string X) := by rw [hX]; exact c2
      have c3' : wr.cell? { block := (a.add (k * 4)).block, off := (a.add (k * 4)).off + 3 } = some (.string Y) := by rw [hY]; exact c3
      have c4' : wr.cell? { block := (a.add (k * 4)).block, off := (a.add (k * 4)).off + 2 } = some (.slice d q y) := by rw [hq]; exact c4
      have hA' : AttrsIn wr (.slice d q y) T.attrs := by rw [hq]; exact hA
      have hsm : str (lowL X.data.toList) = X := by rw [hX, str_toList, f2]
      have HSM := hide (fun w2 => small_any X w2 (by rw [hX, str_size]; have := HNM.out T (List.mem_of_getElem? hT); omega))
      rw [hsm] at HSM
      have t30 : decide ((30 : Int) < q) = false := decide_eq_false (by rw [hq]; omega)
      have HTX : Hid (K = 1 → Y.toList.isEmpty = false) := hide fun h => by
        rw [hY, str_list]
        have := f1 (by omega)
        cases hh : T.text with
        | nil => exact absurd hh this
        | cons _ _ => rfl
      have HQ0 : Hid (K ≠ 2 → q = 0) := hide fun h => by rw [hq, f4 (by omega)]; rfl
      have HPW := hide f5
      have HPREV : Hid (K = 1 → ∀ k', k = k' + 1 → ∃ P : Int, P ≠ 1 ∧ wr.cell? (a.add (k' * 4)) = some (.int .i64 P)) := hide fun h k' hk' => by
        obtain ⟨U, hU⟩ : ∃ U, L[k']? = some U := ⟨_, List.getElem?_eq_getElem (by omega)⟩
        have hUg : (L.map gOf)[k']? = some (gOf U) := by rw [List.getElem?_map, hU]; rfl
        obtain ⟨a2, _, _, ha2, b1, _⟩ := (HT.out.kept HR.out).at k' (gOf U) hUg
        injection ha2 with ha2
        subst ha2
        refine ⟨(U.kind : Int), fun e => HFL.out.2 k' U T hU (by rw [← hk']; exact hT) ⟨by omega, by omega⟩, b1⟩
      have HKP : Hid (∀ w2 w3, Below w2.heap.size w2 w3 → Below wr.heap.size wr w2 → Below wr.heap.size wr w3 ∧ w3.cell? (a.add (k * 4)) = some (.int .i64 K) ∧ w3.cell? { block := (a.add (k * 4)).block, off := (a.add (k * 4)).off + 1 } = some (.string X) ∧ w3.cell? { block := (a.add (k * 4)).block, off := (a.add (k * 4)).off + 2 } = some (.slice d q y)) := hide fun w2 w3 h3 h2 => by
        have hb := h2.trans (h3.mono h2.size)
        exact ⟨hb, (hb.cell (World.block_lt_of_cell? _ _ c1')).trans c1', (hb.cell (World.block_lt_of_cell? _ _ c2')).trans c2', (hb.cell (World.block_lt_of_cell? _ _ c4')).trans c4'⟩
      have hcb := Below.refl wr.heap.size wr
      have q1 : (X.toList == X.toList) = true := beq_self_eq_true _
      have q2 : (X.toList != X.toList) = false := by rw [bne, q1]; rfl
      have HAT := hide hA'
      have HB := HR
      have hq30 : q ≤ 30 := by rw [hq]; exact f3
      have hk0 : k ≤ 1500 := by omega
      have HQL : Hid (T.attrs.length = q) := hide hq.symm
      clear hq c1 c2 c3 c4 hA hX hY hK hsm f1 f2 f3 f4 f5 hTg hT
      by_cases k1 : K = 1
      · have hK2 : K ≠ 2 := by omega
        have hq0 := HQ0.out hK2
        have hty := HTX.out k1
        have HPR := hide (HPREV.out k1)
        have s1 : (K == 1) = true := by rw [beq_iff_eq]; omega
        have s2 : (K == 2) = false := by rw [beq_eq_false_iff_ne]; omega
        have s2' : (K != 2) = true := by rw [bne, s2]; rfl
        have t00 : decide ((0 : Int) < q) = false := decide_eq_false (by omega)
        have t01 : decide (0 < q) = false := decide_eq_false (by omega)
        clear HTX HQ0 HPREV k1 hK2 hq0
        rcases Nat.eq_zero_or_pos k with hkz | hkp
        · have tk0 : decide ((0 : Int) < k) = false := decide_eq_false (by omega)
          have tk1 : decide (0 < k) = false := decide_eq_false (by omega)
          clear hkz HPR
          go_wp2_with fail
          first | (go_region_held3 (fun w' => Below wr.heap.size wr w' ∧ w'.cell? (a.add (k * 4)) = some (.int .i64 K) ∧ w'.cell? { block := (a.add (k * 4)).block, off := (a.add (k * 4)).off + 1 } = some (.string X) ∧ w'.cell? { block := (a.add (k * 4)).block, off := (a.add (k * 4)).off + 2 } = some (.slice d q y))
              (refine ⟨?_, ?_, ?_, ?_⟩ <;> first | (with_reducible assumption) | (with_reducible exact Below.drew (by assumption)) | (with_reducible exact (HKP.out _ _ (by with_reducible assumption) (by first | with_reducible assumption | with_reducible exact And.left (by assumption))).1) | (with_reducible exact (HKP.out _ _ (by with_reducible assumption) (by first | with_reducible assumption | with_reducible exact And.left (by assumption))).2.1) | (with_reducible exact (HKP.out _ _ (by with_reducible assumption) (by first | with_reducible assumption | with_reducible exact And.left (by assumption))).2.2.1) | (with_reducible exact (HKP.out _ _ (by with_reducible assumption) (by first | with_reducible assumption | with_reducible exact And.left (by assumption))).2.2.2) | go_keep)
              (first
              | (go_at_call 21; go_must (refine (HSM.out _).mono ?_; rintro e w3 ⟨rfl, hb3⟩)))) | fail
          all_goals
            have hbc : Below wr.heap.size wr w3 := by first | with_reducible assumption | with_reducible exact And.left (by assumption)
            have HB3 := hide hbc
            clear hbc
            have HA3 := hide (HAT.out.kept HB3.out)
            have HC5 := hide ((HB3.out.cell (World.block_lt_of_cell? _ _ c4')).trans c4')
            clear HKP HSM hcb q1 q2 c1' c2' c3' c4' hA' HB
            have HR3 : Hid (Below w1.heap.size w1 w3) := hide (HR.out.trans (HB3.out.mono HR.out.size))
            go_wp2_with fail
            go_loopw [5] (fun iv wr => ∃ j : Nat, j ≤ q ∧ iv = .int .i64 j ∧ Hid (∃ m, wr = w3.drewN m)) (fun iv _ => q - (intOf iv).toNat)
            case atStart => exact ⟨0, Nat.zero_le _, rfl, hide ⟨0, rfl⟩⟩
            case round =>
              obtain ⟨j, hj, rfl, HJ⟩ := hrel
              have c6 : wr.cell? { block := (a.add (k * 4)).block, off := (a.add (k * 4)).off + 2 } = some (.slice d q y) := ((below_of13 HJ.out).cell (World.block_lt_of_cell? _ _ HC5.out)).trans HC5.out
              by_cases hjl : j < q
              · go_wp2_with fail
                go_loopw [6] (fun iv wr => ∃ i : Nat, i ≤ j ∧ iv = .int .i64 i ∧ Hid (∃ m, wr = w3.drewN m)) (fun iv _ => j - (intOf iv).toNat)
                case atStart => exact ⟨0, Nat.zero_le _, rfl, HJ⟩
                case round =>
                  obtain ⟨i, hi, rfl, HI⟩ := hrel
                  have c7 : wr.cell? { block := (a.add (k * 4)).block, off := (a.add (k * 4)).off + 2 } = some (.slice d q y) := ((below_of13 HI.out).cell (World.block_lt_of_cell? _ _ HC5.out)).trans HC5.out
                  by_cases hil : i < j
                  · obtain ⟨f, hf⟩ : ∃ f, T.attrs[i]? = some f := ⟨_, List.getElem?_eq_getElem (by have := HQL.out; omega)⟩
                    obtain ⟨g, hg⟩ : ∃ g, T.attrs[j]? = some g := ⟨_, List.getElem?_eq_getElem (by have := HQL.out; omega)⟩
                    obtain ⟨b1, hb1, d1, _⟩ := (HA3.out.kept (below_of13 HI.out)).at i f hf
                    obtain ⟨b2, hb2, e1, _⟩ := (HA3.out.kept (below_of13 HI.out)).at j g hg
                    have hbb : b1 = b2 := by rw [hb1] at hb2; exact Option.some.inj hb2
                    subst hbb
                    have hil2 : i < q := by omega
                    have tne := pair_ne HPW.out hil hf hg
                    obtain ⟨P, hP⟩ : ∃ P, P = str f.1 := ⟨_, rfl⟩
                    obtain ⟨Q, hQ⟩ : ∃ Q, Q = str g.1 := ⟨_, rfl⟩
                    rw [← hP] at d1 tne
                    rw [← hQ] at e1 tne
                    rw [hb1] at c7
                    clear hf hg hP hQ hb2 c6
                    go_wp2_with fail
                    go_quiet (fail)
                    go_wp2_with fail
                    go_roundw
                    case rel => exact ⟨i + 1, by omega, by go_num, hide (drew_on HI.out nq)⟩
                    case measure => simp [intOf]; omega
                  · clear c6
                    go_wp2_with fail
                    go_roundw
                    case rel => exact ⟨j + 1, by omega, by go_num, HI⟩
                    case measure => simp [intOf]; omega
              · go_wp2_with fail
                go_roundw
                case rel => exact ⟨k + 1, by omega, by go_num, hide (HR3.out.trans ((below_of13 HJ.out).mono HR3.out.size))⟩
                case measure => simp [intOf]; omega

        · obtain ⟨k', hk'⟩ : ∃ k', k = k' + 1 := ⟨k - 1, by omega⟩
          obtain ⟨P1, hP1, r1⟩ := HPR.out k' hk'
          have s3 : (P1 == 1) = false := by rw [beq_eq_false_iff_ne]; omega
          have tk0 : decide ((0 : Int) < k) = true := decide_eq_true (by omega)
          have tk1 : decide (0 < k) = true := decide_eq_true (by omega)
          have hkm : k - 1 = k' := by omega
          rw [← hkm] at r1
          have hkl : k - 1 < n := by omega
          have hkm2 : (k : Int) - 1 = ((k - 1 : Nat) : Int) := by omega
          have tkm : wrap64 ((k : Int) - 1) = (k' : Int) := by rw [show wrap64 ((k : Int) - 1) = (k : Int) - 1 by unfold wrap64; omega]; omega
          clear HPR hP1 hk' hkm tkm
          go_wp2_with fail
          first | (go_region_held3 (fun w' => Below wr.heap.size wr w' ∧ w'.cell? (a.add (k * 4)) = some (.int .i64 K) ∧ w'.cell? { block := (a.add (k * 4)).block, off := (a.add (k * 4)).off + 1 } = some (.string X) ∧ w'.cell? { block := (a.add (k * 4)).block, off := (a.add (k * 4)).off + 2 } = some (.slice d q y))
              (refine ⟨?_, ?_, ?_, ?_⟩ <;> first | (with_reducible assumption) | (with_reducible exact Below.drew (by assumption)) | (with_reducible exact (HKP.out _ _ (by with_reducible assumption) (by first | with_reducible assumption | with_reducible exact And.left (by assumption))).1) | (with_reducible exact (HKP.out _ _ (by with_reducible assumption) (by first | with_reducible assumption | with_reducible exact And.left (by assumption))).2.1) | (with_reducible exact (HKP.out _ _ (by with_reducible assumption) (by first | with_reducible assumption | with_reducible exact And.left (by assumption))).2.2.1) | (with_reducible exact (HKP.out _ _ (by with_reducible assumption) (by first | with_reducible assumption | with_reducible exact And.left (by assumption))).2.2.2) | go_keep)
              (first
              | (go_at_call 21; go_must (refine (HSM.out _).mono ?_; rintro e w3 ⟨rfl, hb3⟩)))) | fail
          all_goals
            have hbc : Below wr.heap.size wr w3 := by first | with_reducible assumption | with_reducible exact And.left (by assumption)
            have HB3 := hide hbc
            clear hbc
            have HA3 := hide (HAT.out.kept HB3.out)
            have HC5 := hide ((HB3.out.cell (World.block_lt_of_cell? _ _ c4')).trans c4')
            clear HKP HSM hcb q1 q2 c1' c2' c3' c4' hA' HB
            have HR3 : Hid (Below w1.heap.size w1 w3) := hide (HR.out.trans (HB3.out.mono HR.out.size))
            go_wp2_with fail
            go_loopw [5] (fun iv wr => ∃ j : Nat, j ≤ q ∧ iv = .int .i64 j ∧ Hid (∃ m, wr = w3.drewN m)) (fun iv _ => q - (intOf iv).toNat)
            case atStart => exact ⟨0, Nat.zero_le _, rfl, hide ⟨0, rfl⟩⟩
            case round =>
              obtain ⟨j, hj, rfl, HJ⟩ := hrel
              have c6 : wr.cell? { block := (a.add (k * 4)).block, off := (a.add (k * 4)).off + 2 } = some (.slice d q y) := ((below_of13 HJ.out).cell (World.block_lt_of_cell? _ _ HC5.out)).trans HC5.out
              by_cases hjl : j < q
              · go_wp2_with fail
                go_loopw [6] (fun iv wr => ∃ i : Nat, i ≤ j ∧ iv = .int .i64 i ∧ Hid (∃ m, wr = w3.drewN m)) (fun iv _ => j - (intOf iv).toNat)
                case atStart => exact ⟨0, Nat.zero_le _, rfl, HJ⟩
                case round =>
                  obtain ⟨i, hi, rfl, HI⟩ := hrel
                  have c7 : wr.cell? { block := (a.add (k * 4)).block, off := (a.add (k * 4)).off + 2 } = some (.slice d q y) := ((below_of13 HI.out).cell (World.block_lt_of_cell? _ _ HC5.out)).trans HC5.out
                  by_cases hil : i < j
                  · obtain ⟨f, hf⟩ : ∃ f, T.attrs[i]? = some f := ⟨_, List.getElem?_eq_getElem (by have := HQL.out; omega)⟩
                    obtain ⟨g, hg⟩ : ∃ g, T.attrs[j]? = some g := ⟨_, List.getElem?_eq_getElem (by have := HQL.out; omega)⟩
                    obtain ⟨b1, hb1, d1, _⟩ := (HA3.out.kept (below_of13 HI.out)).at i f hf
                    obtain ⟨b2, hb2, e1, _⟩ := (HA3.out.kept (below_of13 HI.out)).at j g hg
                    have hbb : b1 = b2 := by rw [hb1] at hb2; exact Option.some.inj hb2
                    subst hbb
                    have hil2 : i < q := by omega
                    have tne := pair_ne HPW.out hil hf hg
                    obtain ⟨P, hP⟩ : ∃ P, P = str f.1 := ⟨_, rfl⟩
                    obtain ⟨Q, hQ⟩ : ∃ Q, Q = str g.1 := ⟨_, rfl⟩
                    rw [← hP] at d1 tne
                    rw [← hQ] at e1 tne
                    rw [hb1] at c7
                    clear hf hg hP hQ hb2 c6
                    go_wp2_with fail
                    go_quiet (fail)
                    go_wp2_with fail
                    go_roundw
                    case rel => exact ⟨i + 1, by omega, by go_num, hide (drew_on HI.out nq)⟩
                    case measure => simp [intOf]; omega
                  · clear c6
                    go_wp2_with fail
                    go_roundw
                    case rel => exact ⟨j + 1, by omega, by go_num, HI⟩
                    case measure => simp [intOf]; omega
              · go_wp2_with fail
                go_roundw
                case rel => exact ⟨k + 1, by omega, by go_num, hide (HR3.out.trans ((below_of13 HJ.out).mono HR3.out.size))⟩
                case measure => simp [intOf]; omega

      · have s1 : (K == 1) = false := by rw [beq_eq_false_iff_ne]; omega
        by_cases k2 : K = 2
        · have s2 : (K == 2) = true := by rw [beq_iff_eq]; omega
          have s2' : (K != 2) = false := by rw [bne, s2]; rfl
          clear HTX HQ0 HPREV k1 k2
          go_wp2_with fail
          refine wp_region_held_drew (S := (fun w' => Below wr.heap.size wr w' ∧ w'.cell? (a.add (k * 4)) = some (.int .i64 K) ∧ w'.cell? { block := (a.add (k * 4)).block, off := (a.add (k * 4)).off + 1 } = some (.string X) ∧ w'.cell? { block := (a.add (k * 4)).block, off := (a.add (k * 4)).off + 2 } = some (.slice d q y))) (by kernel_rfl) ?_ (fun hHeld => ?_)
          · (try dsimp only)
            (refine ⟨?_, ?_, ?_, ?_⟩ <;> first | (with_reducible assumption) | (with_reducible exact Below.drew (by assumption)) | (with_reducible exact (HKP.out _ _ (by with_reducible assumption) (by first | with_reducible assumption | with_reducible exact And.left (by assumption))).1) | (with_reducible exact (HKP.out _ _ (by with_reducible assumption) (by first | with_reducible assumption | with_reducible exact And.left (by assumption))).2.1) | (with_reducible exact (HKP.out _ _ (by with_reducible assumption) (by first | with_reducible assumption | with_reducible exact And.left (by assumption))).2.2.1) | (with_reducible exact (HKP.out _ _ (by with_reducible assumption) (by first | with_reducible assumption | with_reducible exact And.left (by assumption))).2.2.2) | go_keep)
          refine wpAnyH_take (i := 0) (v := ?_) rfl (by kernel_rfl) (by kernel_rfl) (by kernel_rfl) (fun _ _ _ h => h) (Or.inl ⟨by rfl, ?_⟩) (by assumption) ?_
          rotate_left
          · (intro w hSw; (try dsimp only at hSw); (try simp only [List.getElem_toArray, List.getElem_cons_succ, List.getElem_cons_zero]); go_simp; first | done | with_reducible rfl)
          try simp only [Act.put, List.setIfInBounds_toArray, List.set_cons_zero, List.set_cons_succ, List.getElem_toArray, List.getElem_cons_succ, List.getElem_cons_zero]
          refine wpAnyH_take (i := 1) (v := ?_) rfl (by kernel_rfl) (by kernel_rfl) (by kernel_rfl) (fun _ _ _ h => h) (Or.inl ⟨by rfl, ?_⟩) (by assumption) ?_
          rotate_left
          · (intro w hSw; (try dsimp only at hSw); (try simp only [List.getElem_toArray, List.getElem_cons_succ, List.getElem_cons_zero]); go_simp; first | done | with_reducible rfl)
          try simp only [Act.put, List.setIfInBounds_toArray, List.set_cons_zero, List.set_cons_succ, List.getElem_toArray, List.getElem_cons_succ, List.getElem_cons_zero]
          refine wpAnyH_take (i := 2) (v := ?_) rfl (by kernel_rfl) (by kernel_rfl) (by kernel_rfl) (fun _ _ _ h => h) (Or.inl ⟨by rfl, ?_⟩) (by assumption) ?_
          rotate_left
          · (intro w hSw; (try dsimp only at hSw); (try simp only [List.getElem_toArray, List.getElem_cons_succ, List.getElem_cons_zero]); go_simp; first | done | with_reducible rfl)
          try simp only [Act.put, List.setIfInBounds_toArray, List.set_cons_zero, List.set_cons_succ, List.getElem_toArray, List.getElem_cons_succ, List.getElem_cons_zero]
          refine wpAnyH_take (i := 3) (v := ?_) rfl (by kernel_rfl) (by kernel_rfl) (by kernel_rfl) (fun _ _ _ h => h) (Or.inl ⟨by rfl, ?_⟩) (by assumption) ?_
          rotate_left
          · (intro w hSw; (try dsimp only at hSw); (try simp only [List.getElem_toArray, List.getElem_cons_succ, List.getElem_cons_zero]); go_simp; first | done | with_reducible rfl)
          try simp only [Act.put, List.setIfInBounds_toArray, List.set_cons_zero, List.set_cons_succ, List.getElem_toArray, List.getElem_cons_succ, List.getElem_cons_zero]
          refine wpAnyH_take (i := 4) (v := ?_) rfl (by kernel_rfl) (by kernel_rfl) (by kernel_rfl) (fun _ _ _ h => h) (Or.inl ⟨by rfl, ?_⟩) (by assumption) ?_
          rotate_left
          · (intro w hSw; (try dsimp only at hSw); (try simp only [List.getElem_toArray, List.getElem_cons_succ, List.getElem_cons_zero]); go_simp; first | done | with_reducible rfl)
          try simp only [Act.put, List.setIfInBounds_toArray, List.set_cons_zero, List.set_cons_succ, List.getElem_toArray, List.getElem_cons_succ, List.getElem_cons_zero]
          refine wpAnyH_take (i := 6) (v := ?_) rfl (by kernel_rfl) (by kernel_rfl) (by kernel_rfl) (fun _ _ _ h => h) (Or.inl ⟨by rfl, ?_⟩) (by assumption) ?_
          rotate_left
          · (intro w hSw; (try dsimp only at hSw); (try simp only [List.getElem_toArray, List.getElem_cons_succ, List.getElem_cons_zero]); go_simp; first | done | with_reducible rfl)
          try simp only [Act.put, List.setIfInBounds_toArray, List.set_cons_zero, List.set_cons_succ, List.getElem_toArray, List.getElem_cons_succ, List.getElem_cons_zero]
          refine wpAnyH_take (i := 7) (v := ?_) rfl (by kernel_rfl) (by kernel_rfl) (by kernel_rfl) (fun _ _ _ h => h) (Or.inl ⟨by rfl, ?_⟩) (by assumption) ?_
          rotate_left
          · (intro w hSw; (try dsimp only at hSw); (try simp only [List.getElem_toArray, List.getElem_cons_succ, List.getElem_cons_zero]); go_simp; first | done | with_reducible rfl)
          try simp only [Act.put, List.setIfInBounds_toArray, List.set_cons_zero, List.set_cons_succ, List.getElem_toArray, List.getElem_cons_succ, List.getElem_cons_zero]
          refine wpAnyH_take (i := 8) (v := ?_) rfl (by kernel_rfl) (by kernel_rfl) (by kernel_rfl) (fun _ _ _ h => h) (Or.inl ⟨by rfl, ?_⟩) (by assumption) ?_
          rotate_left
          · (intro w hSw; (try dsimp only at hSw); (try simp only [List.getElem_toArray, List.getElem_cons_succ, List.getElem_cons_zero]); go_simp; first | done | with_reducible rfl)
          try simp only [Act.put, List.setIfInBounds_toArray, List.set_cons_zero, List.set_cons_succ, List.getElem_toArray, List.getElem_cons_succ, List.getElem_cons_zero]
          refine wpAnyH_take (i := 9) (v := ?_) rfl (by kernel_rfl) (by kernel_rfl) (by kernel_rfl) (fun _ _ _ h => h) (Or.inl ⟨by rfl, ?_⟩) (by assumption) ?_
          rotate_left
          · (intro w hSw; (try dsimp only at hSw); (try simp only [List.getElem_toArray, List.getElem_cons_succ, List.getElem_cons_zero]); go_simp; first | done | with_reducible rfl)
          try simp only [Act.put, List.setIfInBounds_toArray, List.set_cons_zero, List.set_cons_succ, List.getElem_toArray, List.getElem_cons_succ, List.getElem_cons_zero]
          refine wpAnyH_take (i := 10) (v := ?_) rfl (by kernel_rfl) (by kernel_rfl) (by kernel_rfl) (fun _ _ _ h => h) (Or.inl ⟨by rfl, ?_⟩) (by assumption) ?_
          rotate_left
          · (intro w hSw; (try dsimp only at hSw); (try simp only [List.getElem_toArray, List.getElem_cons_succ, List.getElem_cons_zero]); go_simp; first | done | with_reducible rfl)
          try simp only [Act.put, List.setIfInBounds_toArray, List.set_cons_zero, List.set_cons_succ, List.getElem_toArray, List.getElem_cons_succ, List.getElem_cons_zero]
          refine wpAnyH_ready (rs := [5]) (by kernel_rfl) (by simp) ?_
          refine AllReadyH.cons rfl (fun K hK => ?_) AllReadyH.nil
          try simp only [List.getElem_toArray, List.getElem_cons_succ, List.getElem_cons_zero]
          go_simp
          go_at_call 21
          refine (HSM.out _).mono ?_
          rintro e w3 ⟨rfl, hb3⟩
          go_wp2_with fail
          refine hK.out _ _ ?_ (fun hHeld => ?_)
          · (try dsimp only)
            (refine ⟨?_, ?_, ?_, ?_⟩ <;> first | (with_reducible assumption) | (with_reducible exact Below.drew (by assumption)) | (with_reducible exact (HKP.out _ _ (by with_reducible assumption) (by first | with_reducible assumption | with_reducible exact And.left (by assumption))).1) | (with_reducible exact (HKP.out _ _ (by with_reducible assumption) (by first | with_reducible assumption | with_reducible exact And.left (by assumption))).2.1) | (with_reducible exact (HKP.out _ _ (by with_reducible assumption) (by first | with_reducible assumption | with_reducible exact And.left (by assumption))).2.2.1) | (with_reducible exact (HKP.out _ _ (by with_reducible assumption) (by first | with_reducible assumption | with_reducible exact And.left (by assumption))).2.2.2) | go_keep)
          clear hK K
          try simp only [Act.put, List.setIfInBounds_toArray, List.set_cons_zero, List.set_cons_succ, List.getElem_toArray, List.getElem_cons_succ, List.getElem_cons_zero]
          refine wpAnyH_take (i := 11) (v := ?_) rfl (by kernel_rfl) (by kernel_rfl) (by kernel_rfl) (fun _ _ _ h => h) (Or.inl ⟨by rfl, ?_⟩) (by assumption) ?_
          rotate_left
          · (intro w hSw; (try dsimp only at hSw); (try simp only [List.getElem_toArray, List.getElem_cons_succ, List.getElem_cons_zero]); go_simp; first | done | with_reducible rfl)
          try simp only [Act.put, List.setIfInBounds_toArray, List.set_cons_zero, List.set_cons_succ, List.getElem_toArray, List.getElem_cons_succ, List.getElem_cons_zero]
          refine wpAnyH_take (i := 12) (v := ?_) rfl (by kernel_rfl) (by kernel_rfl) (by kernel_rfl) (fun _ _ _ h => h) (Or.inl ⟨by rfl, ?_⟩) (by assumption) ?_
          rotate_left
          · (intro w hSw; (try dsimp only at hSw); (try simp only [List.getElem_toArray, List.getElem_cons_succ, List.getElem_cons_zero]); go_simp; first | done | with_reducible rfl)
          try simp only [Act.put, List.setIfInBounds_toArray, List.set_cons_zero, List.set_cons_succ, List.getElem_toArray, List.getElem_cons_succ, List.getElem_cons_zero]
          refine wpAnyH_take (i := 13) (v := ?_) rfl (by kernel_rfl) (by kernel_rfl) (by kernel_rfl) (fun _ _ _ h => h) (Or.inl ⟨by rfl, ?_⟩) (by assumption) ?_
          rotate_left
          · (intro w hSw; (try dsimp only at hSw); (try simp only [List.getElem_toArray, List.getElem_cons_succ, List.getElem_cons_zero]); go_simp; first | done | with_reducible rfl)
          try simp only [Act.put, List.setIfInBounds_toArray, List.set_cons_zero, List.set_cons_succ, List.getElem_toArray, List.getElem_cons_succ, List.getElem_cons_zero]
          refine wpAnyH_take (i := 14) (v := ?_) rfl (by kernel_rfl) (by kernel_rfl) (by kernel_rfl) (fun _ _ _ h => h) (Or.inl ⟨by rfl, ?_⟩) (by assumption) ?_
          rotate_left
          · (intro w hSw; (try dsimp only at hSw); (try simp only [List.getElem_toArray, List.getElem_cons_succ, List.getElem_cons_zero]); go_simp; first | done | with_reducible rfl)
          try simp only [Act.put, List.setIfInBounds_toArray, List.set_cons_zero, List.set_cons_succ, List.getElem_toArray, List.getElem_cons_succ, List.getElem_cons_zero]
          refine wpAnyH_take (i := 15) (v := ?_) rfl (by kernel_rfl) (by kernel_rfl) (by kernel_rfl) (fun _ _ _ h => h) (Or.inl ⟨by rfl, ?_⟩) (by assumption) ?_
          rotate_left
          · (intro w hSw; (try dsimp only at hSw); (try simp only [List.getElem_toArray, List.getElem_cons_succ, List.getElem_cons_zero]); go_simp; first | done | with_reducible rfl)
          try simp only [Act.put, List.setIfInBounds_toArray, List.set_cons_zero, List.set_cons_succ, List.getElem_toArray, List.getElem_cons_succ, List.getElem_cons_zero]
          refine wpAnyH_take (i := 16) (v := ?_) rfl (by kernel_rfl) (by kernel_rfl) (by kernel_rfl) (fun _ _ _ h => h) (Or.inl ⟨by rfl, ?_⟩) (by assumption) ?_
          rotate_left
          · (intro w hSw; (try dsimp only at hSw); (try simp only [List.getElem_toArray, List.getElem_cons_succ, List.getElem_cons_zero]); go_simp; first | done | with_reducible rfl)
          try simp only [Act.put, List.setIfInBounds_toArray, List.set_cons_zero, List.set_cons_succ, List.getElem_toArray, List.getElem_cons_succ, List.getElem_cons_zero]
          refine wpAnyH_take (i := 17) (v := ?_) rfl (by kernel_rfl) (by kernel_rfl) (by kernel_rfl) (fun _ _ _ h => h) (Or.inl ⟨by rfl, ?_⟩) (by assumption) ?_
          rotate_left
          · (intro w hSw; (try dsimp only at hSw); (try simp only [List.getElem_toArray, List.getElem_cons_succ, List.getElem_cons_zero]); go_simp; first | done | with_reducible rfl)
          try simp only [Act.put, List.setIfInBounds_toArray, List.set_cons_zero, List.set_cons_succ, List.getElem_toArray, List.getElem_cons_succ, List.getElem_cons_zero]
          refine wpAnyH_take (i := 18) (v := ?_) rfl (by kernel_rfl) (by kernel_rfl) (by kernel_rfl) (fun _ _ _ h => h) (Or.inl ⟨by rfl, ?_⟩) (by assumption) ?_
          rotate_left
          · (intro w hSw; (try dsimp only at hSw); (try simp only [List.getElem_toArray, List.getElem_cons_succ, List.getElem_cons_zero]); go_simp; first | done | with_reducible rfl)
          try simp only [Act.put, List.setIfInBounds_toArray, List.set_cons_zero, List.set_cons_succ, List.getElem_toArray, List.getElem_cons_succ, List.getElem_cons_zero]
          refine wpAnyH_take (i := 19) (v := ?_) rfl (by kernel_rfl) (by kernel_rfl) (by kernel_rfl) (fun _ _ _ h => h) (Or.inl ⟨by rfl, ?_⟩) (by assumption) ?_
          rotate_left
          · (intro w hSw; (try dsimp only at hSw); (try simp only [List.getElem_toArray, List.getElem_cons_succ, List.getElem_cons_zero]); go_simp; first | done | with_reducible rfl)
          try simp only [Act.put, List.setIfInBounds_toArray, List.set_cons_zero, List.set_cons_succ, List.getElem_toArray, List.getElem_cons_succ, List.getElem_cons_zero]
          refine wpAnyH_take (i := 20) (v := ?_) rfl (by kernel_rfl) (by kernel_rfl) (by kernel_rfl) (fun _ _ _ h => h) (Or.inl ⟨by rfl, ?_⟩) (by assumption) ?_
          rotate_left
          · (intro w hSw; (try dsimp only at hSw); (try simp only [List.getElem_toArray, List.getElem_cons_succ, List.getElem_cons_zero]); go_simp; first | done | with_reducible rfl)
          try simp only [Act.put, List.setIfInBounds_toArray, List.set_cons_zero, List.set_cons_succ, List.getElem_toArray, List.getElem_cons_succ, List.getElem_cons_zero]
          refine wpAnyH_take (i := 21) (v := ?_) rfl (by kernel_rfl) (by kernel_rfl) (by kernel_rfl) (fun _ _ _ h => h) (Or.inl ⟨by rfl, ?_⟩) (by assumption) ?_
          rotate_left
          · (intro w hSw; (try dsimp only at hSw); (try simp only [List.getElem_toArray, List.getElem_cons_succ, List.getElem_cons_zero]); go_simp; first | done | with_reducible rfl)
          try simp only [Act.put, List.setIfInBounds_toArray, List.set_cons_zero, List.set_cons_succ, List.getElem_toArray, List.getElem_cons_succ, List.getElem_cons_zero]
          refine wpAnyH_take (i := 22) (v := ?_) rfl (by kernel_rfl) (by kernel_rfl) (by kernel_rfl) (fun _ _ _ h => h) (Or.inl ⟨by rfl, ?_⟩) (by assumption) ?_
          rotate_left
          · (intro w hSw; (try dsimp only at hSw); (try simp only [List.getElem_toArray, List.getElem_cons_succ, List.getElem_cons_zero]); go_simp; first | done | with_reducible rfl)
          try simp only [Act.put, List.setIfInBounds_toArray, List.set_cons_zero, List.set_cons_succ, List.getElem_toArray, List.getElem_cons_succ, List.getElem_cons_zero]
          refine wpAnyH_take (i := 23) (v := ?_) rfl (by kernel_rfl) (by kernel_rfl) (by kernel_rfl) (fun _ _ _ h => h) (Or.inl ⟨by rfl, ?_⟩) (by assumption) ?_
          rotate_left
          · (intro w hSw; (try dsimp only at hSw); (try simp only [List.getElem_toArray, List.getElem_cons_succ, List.getElem_cons_zero]); go_simp; first | done | with_reducible rfl)
          try simp only [Act.put, List.setIfInBounds_toArray, List.set_cons_zero, List.set_cons_succ, List.getElem_toArray, List.getElem_cons_succ, List.getElem_cons_zero]
          refine wpAnyH_take (i := 24) (v := ?_) rfl (by kernel_rfl) (by kernel_rfl) (by kernel_rfl) (fun _ _ _ h => h) (Or.inl ⟨by rfl, ?_⟩) (by assumption) ?_
          rotate_left
          · (intro w hSw; (try dsimp only at hSw); (try simp only [List.getElem_toArray, List.getElem_cons_succ, List.getElem_cons_zero]); go_simp; first | done | with_reducible rfl)
          try simp only [Act.put, List.setIfInBounds_toArray, List.set_cons_zero, List.set_cons_succ, List.getElem_toArray, List.getElem_cons_succ, List.getElem_cons_zero]
          refine wpAnyH_take (i := 25) (v := ?_) rfl (by kernel_rfl) (by kernel_rfl) (by kernel_rfl) (fun _ _ _ h => h) (Or.inl ⟨by rfl, ?_⟩) (by assumption) ?_
          rotate_left
          · (intro w hSw; (try dsimp only at hSw); (try simp only [List.getElem_toArray, List.getElem_cons_succ, List.getElem_cons_zero]); go_simp; first | done | with_reducible rfl)
          try simp only [Act.put, List.setIfInBounds_toArray, List.set_cons_zero, List.set_cons_succ, List.getElem_toArray, List.getElem_cons_succ, List.getElem_cons_zero]
          refine wpAnyH_take (i := 26) (v := ?_) rfl (by kernel_rfl) (by kernel_rfl) (by kernel_rfl) (fun _ _ _ h => h) (Or.inl ⟨by rfl, ?_⟩) (by assumption) ?_
          rotate_left
          · (intro w hSw; (try dsimp only at hSw); (try simp only [List.getElem_toArray, List.getElem_cons_succ, List.getElem_cons_zero]); go_simp; first | done | with_reducible rfl)
          try simp only [Act.put, List.setIfInBounds_toArray, List.set_cons_zero, List.set_cons_succ, List.getElem_toArray, List.getElem_cons_succ, List.getElem_cons_zero]
          refine wpAnyH_take (i := 27) (v := ?_) rfl (by kernel_rfl) (by kernel_rfl) (by kernel_rfl) (fun _ _ _ h => h) (Or.inl ⟨by rfl, ?_⟩) (by assumption) ?_
          rotate_left
          · (intro w hSw; (try dsimp only at hSw); (try simp only [List.getElem_toArray, List.getElem_cons_succ, List.getElem_cons_zero]); go_simp; first | done | with_reducible rfl)
          try simp only [Act.put, List.setIfInBounds_toArray, List.set_cons_zero, List.set_cons_succ, List.getElem_toArray, List.getElem_cons_succ, List.getElem_cons_zero]
          refine wpAnyH_take (i := 28) (v := ?_) rfl (by kernel_rfl) (by kernel_rfl) (by kernel_rfl) (fun _ _ _ h => h) (Or.inl ⟨by rfl, ?_⟩) (by assumption) ?_
          rotate_left
          · (intro w hSw; (try dsimp only at hSw); (try simp only [List.getElem_toArray, List.getElem_cons_succ, List.getElem_cons_zero]); go_simp; first | done | with_reducible rfl)
          try simp only [Act.put, List.setIfInBounds_toArray, List.set_cons_zero, List.set_cons_succ, List.getElem_toArray, List.getElem_cons_succ, List.getElem_cons_zero]
          refine wpAnyH_take (i := 29) (v := undef) rfl (by kernel_rfl) (by kernel_rfl) (by kernel_rfl) (fun _ _ _ h => h) (Or.inr ⟨by rfl, rfl⟩) (by assumption) ?_
          try simp only [Act.put, List.setIfInBounds_toArray, List.set_cons_zero, List.set_cons_succ, List.getElem_toArray, List.getElem_cons_succ, List.getElem_cons_zero]
          refine wpAnyH_take (i := 30) (v := undef) rfl (by kernel_rfl) (by kernel_rfl) (by kernel_rfl) (fun _ _ _ h => h) (Or.inr ⟨by rfl, rfl⟩) (by assumption) ?_
          try simp only [Act.put, List.setIfInBounds_toArray, List.set_cons_zero, List.set_cons_succ, List.getElem_toArray, List.getElem_cons_succ, List.getElem_cons_zero]
          refine wpAnyH_take (i := 31) (v := undef) rfl (by kernel_rfl) (by kernel_rfl) (by kernel_rfl) (fun _ _ _ h => h) (Or.inr ⟨by rfl, rfl⟩) (by assumption) ?_
          try simp only [Act.put, List.setIfInBounds_toArray, List.set_cons_zero, List.set_cons_succ, List.getElem_toArray, List.getElem_cons_succ, List.getElem_cons_zero]
          refine wpAnyH_take (i := 32) (v := undef) rfl (by kernel_rfl) (by kernel_rfl) (by kernel_rfl) (fun _ _ _ h => h) (Or.inr ⟨by rfl, rfl⟩) (by assumption) ?_
          try simp only [Act.put, List.setIfInBounds_toArray, List.set_cons_zero, List.set_cons_succ, List.getElem_toArray, List.getElem_cons_succ, List.getElem_cons_zero]
          refine wpAnyH_take (i := 33) (v := undef) rfl (by kernel_rfl) (by kernel_rfl) (by kernel_rfl) (fun _ _ _ h => h) (Or.inr ⟨by rfl, rfl⟩) (by assumption) ?_
          try simp only [Act.put, List.setIfInBounds_toArray, List.set_cons_zero, List.set_cons_succ, List.getElem_toArray, List.getElem_cons_succ, List.getElem_cons_zero]
          refine wpAnyH_take (i := 34) (v := undef) rfl (by kernel_rfl) (by kernel_rfl) (by kernel_rfl) (fun _ _ _ h => h) (Or.inr ⟨by rfl, rfl⟩) (by assumption) ?_
          try simp only [Act.put, List.setIfInBounds_toArray, List.set_cons_zero, List.set_cons_succ, List.getElem_toArray, List.getElem_cons_succ, List.getElem_cons_zero]
          refine wpAnyH_take (i := 35) (v := undef) rfl (by kernel_rfl) (by kernel_rfl) (by kernel_rfl) (fun _ _ _ h => h) (Or.inr ⟨by rfl, rfl⟩) (by assumption) ?_
          try simp only [Act.put, List.setIfInBounds_toArray, List.set_cons_zero, List.set_cons_succ, List.getElem_toArray, List.getElem_cons_succ, List.getElem_cons_zero]
          refine wpAnyH_take (i := 36) (v := ?_) rfl (by kernel_rfl) (by kernel_rfl) (by kernel_rfl) (fun _ _ _ h => h) (Or.inl ⟨by rfl, ?_⟩) (by assumption) ?_
          rotate_left
          · (intro w hSw; (try dsimp only at hSw); (try simp only [List.getElem_toArray, List.getElem_cons_succ, List.getElem_cons_zero]); go_simp; first | done | with_reducible rfl)
          try simp only [Act.put, List.setIfInBounds_toArray, List.set_cons_zero, List.set_cons_succ, List.getElem_toArray, List.getElem_cons_succ, List.getElem_cons_zero]
          refine wpAnyH_take (i := 37) (v := ?_) rfl (by kernel_rfl) (by kernel_rfl) (by kernel_rfl) (fun _ _ _ h => h) (Or.inl ⟨by rfl, ?_⟩) (by assumption) ?_
          rotate_left
          · (intro w hSw; (try dsimp only at hSw); (try simp only [List.getElem_toArray, List.getElem_cons_succ, List.getElem_cons_zero]); go_simp; first | done | with_reducible rfl)
          try simp only [Act.put, List.setIfInBounds_toArray, List.set_cons_zero, List.set_cons_succ, List.getElem_toArray, List.getElem_cons_succ, List.getElem_cons_zero]
          refine wpAnyH_done (by kernel_rfl) ?_ _
          all_goals
            have hbc : Below wr.heap.size wr w3 := by first | with_reducible assumption | with_reducible exact And.left (by assumption)
            have HB3 := hide hbc
            clear hbc
            have HA3 := hide (HAT.out.kept HB3.out)
            have HC5 := hide ((HB3.out.cell (World.block_lt_of_cell? _ _ c4')).trans c4')
            clear HKP HSM hcb q1 q2 c1' c2' c3' c4' hA' HB
            have HR3 : Hid (Below w1.heap.size w1 w3) := hide (HR.out.trans (HB3.out.mono HR.out.size))
            go_wp2_with fail
            go_loopw [5] (fun iv wr => ∃ j : Nat, j ≤ q ∧ iv = .int .i64 j ∧ Hid (∃ m, wr = w3.drewN m)) (fun iv _ => q - (intOf iv).toNat)
            case atStart => exact ⟨0, Nat.zero_le _, rfl, hide ⟨0, rfl⟩⟩
            case round =>
              obtain ⟨j, hj, rfl, HJ⟩ := hrel
              have c6 : wr.cell? { block := (a.add (k * 4)).block, off := (a.add (k * 4)).off + 2 } = some (.slice d q y) := ((below_of13 HJ.out).cell (World.block_lt_of_cell? _ _ HC5.out)).trans HC5.out
              by_cases hjl : j < q
              · go_wp2_with fail
                go_loopw [6] (fun iv wr => ∃ i : Nat, i ≤ j ∧ iv = .int .i64 i ∧ Hid (∃ m, wr = w3.drewN m)) (fun iv _ => j - (intOf iv).toNat)
                case atStart => exact ⟨0, Nat.zero_le _, rfl, HJ⟩
                case round =>
                  obtain ⟨i, hi, rfl, HI⟩ := hrel
                  have c7 : wr.cell? { block := (a.add (k * 4)).block, off := (a.add (k * 4)).off + 2 } = some (.slice d q y) := ((below_of13 HI.out).cell (World.block_lt_of_cell? _ _ HC5.out)).trans HC5.out
                  by_cases hil : i < j
                  · obtain ⟨f, hf⟩ : ∃ f, T.attrs[i]? = some f := ⟨_, List.getElem?_eq_getElem (by have := HQL.out; omega)⟩
                    obtain ⟨g, hg⟩ : ∃ g, T.attrs[j]? = some g := ⟨_, List.getElem?_eq_getElem (by have := HQL.out; omega)⟩
                    obtain ⟨b1, hb1, d1, _⟩ := (HA3.out.kept (below_of13 HI.out)).at i f hf
                    obtain ⟨b2, hb2, e1, _⟩ := (HA3.out.kept (below_of13 HI.out)).at j g hg
                    have hbb : b1 = b2 := by rw [hb1] at hb2; exact Option.some.inj hb2
                    subst hbb
                    have hil2 : i < q := by omega
                    have tne := pair_ne HPW.out hil hf hg
                    obtain ⟨P, hP⟩ : ∃ P, P = str f.1 := ⟨_, rfl⟩
                    obtain ⟨Q, hQ⟩ : ∃ Q, Q = str g.1 := ⟨_, rfl⟩
                    rw [← hP] at d1 tne
                    rw [← hQ] at e1 tne
                    rw [hb1] at c7
                    clear hf hg hP hQ hb2 c6
                    go_wp2_with fail
                    go_quiet (fail)
                    go_wp2_with fail
                    go_roundw
                    case rel => exact ⟨i + 1, by omega, by go_num, hide (drew_on HI.out nq)⟩
                    case measure => simp [intOf]; omega
                  · clear c6
                    go_wp2_with fail
                    go_roundw
                    case rel => exact ⟨j + 1, by omega, by go_num, HI⟩
                    case measure => simp [intOf]; omega
              · go_wp2_with fail
                go_roundw
                case rel => exact ⟨k + 1, by omega, by go_num, hide (HR3.out.trans ((below_of13 HJ.out).mono HR3.out.size))⟩
                case measure => simp [intOf]; omega

        · have s2 : (K == 2) = false := by rw [beq_eq_false_iff_ne]; omega
          have s2' : (K != 2) = true := by rw [bne, s2]; rfl
          have hq0 := HQ0.out k2
          have t00 : decide ((0 : Int) < q) = false := decide_eq_false (by omega)
          have t01 : decide (0 < q) = false := decide_eq_false (by omega)
          clear HTX HQ0 HPREV k1 k2 hq0
          go_wp2_with fail
          first | (go_region_held3 (fun w' => Below wr.heap.size wr w' ∧ w'.cell? (a.add (k * 4)) = some (.int .i64 K) ∧ w'.cell? { block := (a.add (k * 4)).block, off := (a.add (k * 4)).off + 1 } = some (.string X) ∧ w'.cell? { block := (a.add (k * 4)).block, off := (a.add (k * 4)).off + 2 } = some (.slice d q y))
              (refine ⟨?_, ?_, ?_, ?_⟩ <;> first | (with_reducible assumption) | (with_reducible exact Below.drew (by assumption)) | (with_reducible exact (HKP.out _ _ (by with_reducible assumption) (by first | with_reducible assumption | with_reducible exact And.left (by assumption))).1) | (with_reducible exact (HKP.out _ _ (by with_reducible assumption) (by first | with_reducible assumption | with_reducible exact And.left (by assumption))).2.1) | (with_reducible exact (HKP.out _ _ (by with_reducible assumption) (by first | with_reducible assumption | with_reducible exact And.left (by assumption))).2.2.1) | (with_reducible exact (HKP.out _ _ (by with_reducible assumption) (by first | with_reducible assumption | with_reducible exact And.left (by assumption))).2.2.2) | go_keep)
              (first
              | (go_at_call 21; go_must (refine (HSM.out _).mono ?_; rintro e w3 ⟨rfl, hb3⟩)))) | fail
          all_goals
            have hbc : Below wr.heap.size wr w3 := by first | with_reducible assumption | with_reducible exact And.left (by assumption)
            have HB3 := hide hbc
            clear hbc
            have HA3 := hide (HAT.out.kept HB3.out)
            have HC5 := hide ((HB3.out.cell (World.block_lt_of_cell? _ _ c4')).trans c4')
            clear HKP HSM hcb q1 q2 c1' c2' c3' c4' hA' HB
            have HR3 : Hid (Below w1.heap.size w1 w3) := hide (HR.out.trans (HB3.out.mono HR.out.size))
            go_wp2_with fail
            go_loopw [5] (fun iv wr => ∃ j : Nat, j ≤ q ∧ iv = .int .i64 j ∧ Hid (∃ m, wr = w3.drewN m)) (fun iv _ => q - (intOf iv).toNat)
            case atStart => exact ⟨0, Nat.zero_le _, rfl, hide ⟨0, rfl⟩⟩
            case round =>
              obtain ⟨j, hj, rfl, HJ⟩ := hrel
              have c6 : wr.cell? { block := (a.add (k * 4)).block, off := (a.add (k * 4)).off + 2 } = some (.slice d q y) := ((below_of13 HJ.out).cell (World.block_lt_of_cell? _ _ HC5.out)).trans HC5.out
              by_cases hjl : j < q
              · go_wp2_with fail
                go_loopw [6] (fun iv wr => ∃ i : Nat, i ≤ j ∧ iv = .int .i64 i ∧ Hid (∃ m, wr = w3.drewN m)) (fun iv _ => j - (intOf iv).toNat)
                case atStart => exact ⟨0, Nat.zero_le _, rfl, HJ⟩
                case round =>
                  obtain ⟨i, hi, rfl, HI⟩ := hrel
                  have c7 : wr.cell? { block := (a.add (k * 4)).block, off := (a.add (k * 4)).off + 2 } = some (.slice d q y) := ((below_of13 HI.out).cell (World.block_lt_of_cell? _ _ HC5.out)).trans HC5.out
                  by_cases hil : i < j
                  · obtain ⟨f, hf⟩ : ∃ f, T.attrs[i]? = some f := ⟨_, List.getElem?_eq_getElem (by have := HQL.out; omega)⟩
                    obtain ⟨g, hg⟩ : ∃ g, T.attrs[j]? = some g := ⟨_, List.getElem?_eq_getElem (by have := HQL.out; omega)⟩
                    obtain ⟨b1, hb1, d1, _⟩ := (HA3.out.kept (below_of13 HI.out)).at i f hf
                    obtain ⟨b2, hb2, e1, _⟩ := (HA3.out.kept (below_of13 HI.out)).at j g hg
                    have hbb : b1 = b2 := by rw [hb1] at hb2; exact Option.some.inj hb2
                    subst hbb
                    have hil2 : i < q := by omega
                    have tne := pair_ne HPW.out hil hf hg
                    obtain ⟨P, hP⟩ : ∃ P, P = str f.1 := ⟨_, rfl⟩
                    obtain ⟨Q, hQ⟩ : ∃ Q, Q = str g.1 := ⟨_, rfl⟩
                    rw [← hP] at d1 tne
                    rw [← hQ] at e1 tne
                    rw [hb1] at c7
                    clear hf hg hP hQ hb2 c6
                    go_wp2_with fail
                    go_quiet (fail)
                    go_wp2_with fail
                    go_roundw
                    case rel => exact ⟨i + 1, by omega, by go_num, hide (drew_on HI.out nq)⟩
                    case measure => simp [intOf]; omega
                  · clear c6
                    go_wp2_with fail
                    go_roundw
                    case rel => exact ⟨j + 1, by omega, by go_num, HI⟩
                    case measure => simp [intOf]; omega
              · go_wp2_with fail
                go_roundw
                case rel => exact ⟨k + 1, by omega, by go_num, hide (HR3.out.trans ((below_of13 HJ.out).mono HR3.out.size))⟩
                case measure => simp [intOf]; omega

    · have tns : decide ((n : Int) ≤ s.size) = true := decide_eq_true (by omega)
      have HE2 := hide (HE1.out.kept HR.out)
      have HB2 := hide (HB1.out.trans (HR.out.mono HB1.out.size))
      go_wp2_with fail
      refine (live13_any _ HE2.out).mono ?_
      rintro e wl ⟨rfl, hbl⟩
      have HBL := hide (HB2.out.trans (hbl.mono HB2.out.size))
      clear hbl
      go_wp2_with fail
      go_ret
      exact ⟨rfl, HBL.out⟩
end Go.Proofs.YtgokefodmjhhiaaGreatDoor
