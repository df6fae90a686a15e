/- WALK of the reference of layer 17: Cut. No statement is proved here. Own work of the verifier. -/
import Derived.Test.YtklbdobofclofaaGreatDoorCssU
import Derived.Test.YtklbdobofclofaaGreatDoorCssC
import Derived.Test.YtklbdobofclofaaGreatDoorBaseM
namespace Go.Proofs.YtklbdobofclofaaGreatDoor
open Go.RowKit
set_option linter.unusedVariables false
set_option linter.unusedSimpArgs false
set_option maxRecDepth 100000
theorem declL_none {p : List UInt8} (h : ∀ c ∈ p, c ≠ 58) : declL p = none := by
  have e : afterC 58 p = [] := by
    unfold afterC
    have key : ∀ l : List UInt8, (∀ c ∈ l, c ≠ 58) → l.dropWhile (fun x => x != 58) = [] := by
      intro l
      induction l with
      | nil => intro _; rfl
      | cons a r ih =>
        intro h
        rw [List.dropWhile_cons_of_pos (by simpa using h a (List.mem_cons_self ..))]
        exact ih fun c hc => h c (List.mem_cons_of_mem _ hc)
    rw [key p h]; rfl
  unfold declL
  rw [if_pos (.inr (by rw [e]; rfl))]
theorem parts58 {T : ByteArray} {m : Nat} (hm : m < T.size) (h : ∀ c ∈ T.data.toList.take m, c ≠ 58) (h58 : T[m] = 58) : beforeC 58 T.data.toList = (T.extract 0 m).data.toList ∧ afterC 58 T.data.toList = (T.extract (m + 1) T.size).data.toList := by
  have e : T.data.toList = T.data.toList.take m ++ 58 :: T.data.toList.drop (m + 1) := by
    have := drop_cons T m hm
    rw [h58] at this
    rw [← this, List.take_append_drop]
  obtain ⟨a, b⟩ := split58 (b := T.data.toList.drop (m + 1)) h
  rw [← e] at a b
  rw [a, b, extract_end, extract_list]
  exact ⟨(List.drop_zero ..).symm, rfl⟩
theorem two_newD (w : World) (x y : Value) (t : TypeId) : (w.alloc (.cells #[x, y] t)).cell? ((⟨w.heap.size, 0, none⟩ : Addr).add 0) = some x ∧ (w.alloc (.cells #[x, y] t)).cell? ((⟨w.heap.size, 0, none⟩ : Addr).add 1) = some y := by
  rw [Addr.add_lit, Addr.add_lit, World.cell?_alloc_at _ _ _ _ rfl, World.cell?_alloc_at _ _ _ _ rfl]
  exact ⟨rfl, rfl⟩
set_option maxHeartbeats 4000000 in
theorem ref17Cut_any (s : ByteArray) (w : World) (hs : s.size ≤ 1048575) :
    Calls Tryz.prog 42 #[.string s] w fun e w' => ∃ v, e = .returned v ∧ DBuf w.heap.size v (cutD s.data.toList) w w' := by
  obtain ⟨P, hP⟩ : ∃ P, pcs st0 [] s.data.toList = P := ⟨_, rfl⟩
  have hcount := pcs_count st0 [] s.data.toList
  rw [hP, toList_length] at hcount
  have HPL : Hid (∀ p ∈ P, p.length ≤ 1048575) := hide (fun p hp => by
    have := piece_len (st := st0) (cur := []) (l := s.data.toList) (by rw [hP]; exact hp)
    rw [toList_length] at this
    simp at this; omega)
  have HCD : Hid (cutD s.data.toList = P.filterMap declL) := hide (by unfold cutD; rw [hP])
  have HP := hide hP
  clear hP
  have hn0 : P.length ≤ 1048576 := by simp at hcount; omega
  clear hcount
  go_enter Tryz.func42, Tryz.ntmps42
  go_wp2_with fail
  refine (pieces17_any s w hs).mono ?_
  rintro e w1 ⟨v0, rfl, hsb⟩
  rw [HP.out] at hsb
  have HB1 := hide hsb.below
  have hz1 := hsb.2.2
  have HD0 : Hid (DBuf w.heap.size (.slice none 0 0) [] w w1) := hide (DBuf.nil hsb.below hz1)
  rcases hsb.form with ⟨rfl, hnil⟩ | ⟨g, cap, rfl, hc1, hc2, hg1, hg2, hcell⟩
  · have hPn : P = [] := by simpa using hnil
    have HE : Hid (cutD s.data.toList = []) := hide (by rw [HCD.out, hPn]; rfl)
    clear hsb hnil hPn
    go_wp2_with fail
    go_loopw [4, 5] (fun v i wr => v = .slice none 0 0 ∧ i = .int .i64 0 ∧ wr = w1) (fun _ _ _ => 0)
    case atStart => exact ⟨rfl, rfl, rfl⟩
    case round =>
      obtain ⟨rfl, rfl, rfl⟩ := hrel
      go_wp2_with fail
      go_ret
      exact ⟨_, rfl, by rw [HE.out]; exact HD0.out⟩
  · rw [List.length_map] at hc1
    have hlm : (P.map str).length = P.length := List.length_map ..
    obtain ⟨n, hn⟩ : ∃ n, n = P.length := ⟨_, rfl⟩
    rw [hlm, ← hn]
    have hn1 : n ≤ 1048576 := by omega
    have HCELL : Hid (∀ j, (hj : j < P.length) → w1.cell? ⟨g, j, none⟩ = some (.string (str P[j]))) := hide (fun j hj => by
      have := hcell j (str P[j]) (by simp [hj])
      rwa [Nat.zero_add] at this)
    have HN := hide hn
    have hnc : n ≤ cap := by omega
    have HD0' : Hid (DBuf w1.heap.size (.slice none 0 0) [] w1 w1) := hide (DBuf.nil (Below.refl _ _) (Nat.le_refl _))
    clear hsb hc1 hc2 hg1 hcell hlm hn hn0
    go_wp2_with fail
    go_loopw [4, 5] (fun v i wr => ∃ (k : Nat) (D : List DeclL), k ≤ n ∧ i = .int .i64 k ∧ D.length ≤ k ∧ Hid (DBuf w1.heap.size v D w1 wr) ∧ Hid (D ++ (P.drop k).filterMap declL = P.filterMap declL)) (fun _ i _ => n - (intOf i).toNat)
    case atStart => exact ⟨0, [], Nat.zero_le _, rfl, Nat.le_refl _, HD0', hide (by simp)⟩
    case round =>
      obtain ⟨k, D, hk, rfl, hD, HD, HR⟩ := hrel
      have HBW := hide HD.out.below
      by_cases hlt : k < n
      · have hkP : k < P.length := by rw [← HN.out]; exact hlt
        obtain ⟨p, hp⟩ : ∃ p, P[k] = p := ⟨_, rfl⟩
        have hpm : p ∈ P := by rw [← hp]; exact List.getElem_mem hkP
        have hpl := HPL.out p hpm
        have hcell := (HBW.out.cell (p := ⟨g, k, none⟩) hg2).trans (HCELL.out k hkP)
        rw [hp] at hcell
        obtain ⟨T, hT⟩ : ∃ T, T = str p := ⟨_, rfl⟩
        rw [← hT] at hcell
        have hTl : T.data.toList = p := by rw [hT, str_toList]
        have hTz : T.size ≤ 1048575 := by rw [hT, str_size]; exact hpl
        have HTL := hide hTl
        have hR := HR.out
        rw [List.drop_eq_getElem_cons hkP, hp, List.filterMap_cons] at hR
        have HR1 := hide hR
        clear hkP hp hpm hpl hR hT hTl
        go_wp2_with fail
        go_loop [4, 6] (fun v j => v = u4 ∧ ∃ m : Nat, m ≤ T.size ∧ j = .int .i64 m ∧ Hid (∀ c ∈ T.data.toList.take m, c ≠ 58)) (fun _ j => T.size - (intOf j).toNat)
        case atStart => exact ⟨rfl, 0, Nat.zero_le _, rfl, hide (fun c hc => by cases hc)⟩
        case round =>
          obtain ⟨hv4, m, hm, rfl, HM⟩ := hrel
          subst hv4
          by_cases hmt : m < T.size
          · by_cases h58 : T[m] = 58
            · have q0 : ((T[m].toNat : Int) == 58) = true := tT 58 (c := T[m]) h58 (by decide)
              have q1 : ((T[m].toNat : Int) != 58) = false := by rw [bne, q0]; rfl
              obtain ⟨pb, pa⟩ := parts58 hmt HM.out h58
              rw [HTL.out] at pb pa
              obtain ⟨X, hX⟩ : ∃ X, T.extract 0 m = X := ⟨_, rfl⟩
              obtain ⟨Y, hY⟩ : ∃ Y, T.extract (m + 1) T.size = Y := ⟨_, rfl⟩
              have hXz : X.size ≤ 1048576 := by rw [← hX, ByteArray.size_extract]; omega
              have hYz : Y.size ≤ 1048576 := by rw [← hY, ByteArray.size_extract]; omega
              rw [hX] at pb
              rw [hY] at pa
              have HXZ := hide hXz
              have HYZ := hide hYz
              have HTZ : Hid ((str (trimV X.data.toList)).size ≤ 70368744177664) := hide (by rw [str_size]; have := trimV_len X.data.toList; rw [toList_length] at this; omega)
              obtain ⟨N1, hN1⟩ : ∃ N1, str (lowL (trimV (beforeC 58 p))) = N1 := ⟨_, rfl⟩
              obtain ⟨V1, hV1⟩ : ∃ V1, str (trimV (afterC 58 p)) = V1 := ⟨_, rfl⟩
              have HN1 : Hid (str (lowL (str (trimV X.data.toList)).data.toList) = N1) := hide (by rw [str_toList, ← pb]; exact hN1)
              have HV1 : Hid (str (trimV Y.data.toList) = V1) := hide (by rw [← pa]; exact hV1)
              clear h58 hXz hYz
              by_cases hnone : lowL (trimV (beforeC 58 p)) = []
              · have t1 : N1.toList.isEmpty = true := by rw [← hN1]; exact isEmptyT hnone
                have hdn : declL p = none := by unfold declL; rw [if_pos (.inl hnone)]
                have hR := HR1.out
                rw [hdn] at hR
                have HR2 := hide hR
                clear hR hdn hnone hN1 hV1 pa pb
                go_wp2_with fail
                refine (trim17_any X _ (by have := HXZ.out; omega)).mono ?_
                rintro e w2 ⟨rfl, rfl⟩
                go_wp2_with fail
                refine (small_any _ _ HTZ.out).mono ?_
                rintro e w3 ⟨rfl, hb3⟩
                have HD3 := hide (HD.out.kept hb3)
                rw [HN1.out]
                have hcell3 := (hb3.cell (p := ⟨g, k, none⟩) (World.block_lt_of_cell? _ _ hcell)).trans hcell
                clear hb3
                go_wp2_with fail
                refine (trim17_any Y _ (by have := HYZ.out; omega)).mono ?_
                rintro e w4 ⟨rfl, rfl⟩
                rw [HV1.out]
                go_wp2_with fail
                go_roundw
                case rel => exact ⟨k + 1, D, by omega, by go_num, by omega, HD3, HR2⟩
                case measure => simp [intOf]; omega
              · have t1 : N1.toList.isEmpty = false := by rw [← hN1]; exact isEmptyF hnone
                by_cases hvn : trimV (afterC 58 p) = []
                · have t2 : V1.toList.isEmpty = true := by rw [← hV1]; exact isEmptyT hvn
                  have hdn : declL p = none := by unfold declL; rw [if_pos (.inr hvn)]
                  have hR := HR1.out
                  rw [hdn] at hR
                  have HR2 := hide hR
                  clear hR hdn hnone hvn hN1 hV1 pa pb
                  go_wp2_with fail
                  refine (trim17_any X _ (by have := HXZ.out; omega)).mono ?_
                  rintro e w2 ⟨rfl, rfl⟩
                  go_wp2_with fail
                  refine (small_any _ _ HTZ.out).mono ?_
                  rintro e w3 ⟨rfl, hb3⟩
                  have HD3 := hide (HD.out.kept hb3)
                  rw [HN1.out]
                  have hcell3 := (hb3.cell (p := ⟨g, k, none⟩) (World.block_lt_of_cell? _ _ hcell)).trans hcell
                  clear hb3
                  go_wp2_with fail
                  refine (trim17_any Y _ (by have := HYZ.out; omega)).mono ?_
                  rintro e w4 ⟨rfl, rfl⟩
                  rw [HV1.out]
                  go_wp2_with fail
                  go_roundw
                  case rel => exact ⟨k + 1, D, by omega, by go_num, by omega, HD3, HR2⟩
                  case measure => simp [intOf]; omega
                · have t2 : V1.toList.isEmpty = false := by rw [← hV1]; exact isEmptyF hvn
                  obtain ⟨d, hd⟩ : ∃ d : DeclL, d = (lowL (trimV (beforeC 58 p)), trimV (afterC 58 p)) := ⟨_, rfl⟩
                  have hdn : declL p = some d := by unfold declL; rw [if_neg (fun h => h.elim hnone hvn), hd]
                  have hR := HR1.out
                  rw [hdn] at hR
                  have HR2 : Hid ((D ++ [d]) ++ (P.drop (k + 1)).filterMap declL = P.filterMap declL) := hide (by rw [← hR]; simp)
                  have HXX : Hid (N1 = str d.1 ∧ V1 = str d.2) := hide ⟨by rw [← hN1, hd], by rw [← hV1, hd]⟩
                  clear hR hdn hnone hvn hN1 hV1 pa pb hd
                  go_wp2_with fail
                  refine (trim17_any X _ (by have := HXZ.out; omega)).mono ?_
                  rintro e w2 ⟨rfl, rfl⟩
                  go_wp2_with fail
                  refine (small_any _ _ HTZ.out).mono ?_
                  rintro e w3 ⟨rfl, hb3⟩
                  have HD3 := hide (HD.out.kept hb3)
                  rw [HN1.out]
                  have hcell3 := (hb3.cell (p := ⟨g, k, none⟩) (World.block_lt_of_cell? _ _ hcell)).trans hcell
                  clear hb3
                  go_wp2_with fail
                  refine (trim17_any Y _ (by have := HYZ.out; omega)).mono ?_
                  rintro e w4 ⟨rfl, rfl⟩
                  rw [HV1.out]
                  go_wp2_with (at_builtin; go_must (refine wpList_decls rfl _ _ rfl w1.heap.size _ D rfl w1 d (HD3.out.alloc _) ⟨w3.heap.size, 0, none⟩ rfl (by rw [HXX.out.1]; exact (two_newD _ _ _ _).1) (by rw [HXX.out.2]; exact (two_newD _ _ _ _).2) (by omega) ?_; intro v5 w5 hb5; have HD5 := hide hb5; clear hb5))
                  go_roundw
                  case rel => exact ⟨k + 1, D ++ [d], by omega, by go_num, by simp; omega, HD5, HR2⟩
                  case measure => simp [intOf]; omega
            · have q0 : ((T[m].toNat : Int) == 58) = false := tF 58 (c := T[m]) h58 (by decide)
              have q1 : ((T[m].toNat : Int) != 58) = true := by rw [bne, q0]; rfl
              have HM2 : Hid (∀ c ∈ T.data.toList.take (m + 1), c ≠ 58) := hide (by
                rw [take_snoc T m hmt]
                intro c hc
                rcases List.mem_append.1 hc with hc | hc
                · exact HM.out c hc
                · have : c = T[m] := by simpa using hc
                  rw [this]; exact h58)
              clear h58
              go_wp2_with fail
              go_round
              case rel => exact ⟨rfl, m + 1, by omega, by go_num, HM2⟩
              case measure => simp [intOf]; omega
          · have hdn : declL p = none := by
              have := HM.out
              rw [List.take_of_length_le (by rw [toList_length]; omega), HTL.out] at this
              exact declL_none this
            have hR := HR1.out
            rw [hdn] at hR
            have HR2 := hide hR
            clear hR hdn
            go_wp2_with fail
            go_roundw
            case rel => exact ⟨k + 1, D, by omega, by go_num, by omega, HD, HR2⟩
            case measure => simp [intOf]; omega
      · have HX : Hid (cutD s.data.toList = D) := hide (by
          have := HR.out
          rw [List.drop_eq_nil_of_le (by rw [← HN.out]; omega)] at this
          rw [HCD.out, ← this]; simp)
        have HEL := hide (HD.out.elder hz1 (HB1.out.trans (HD.out.below.mono hz1)))
        go_wp2_with fail
        go_ret
        exact ⟨_, rfl, by rw [HX.out]; exact HEL.out⟩
end Go.Proofs.YtklbdobofclofaaGreatDoor
