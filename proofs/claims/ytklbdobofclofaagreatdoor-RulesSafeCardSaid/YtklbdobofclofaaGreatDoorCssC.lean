/- WALK of css.Cut. No statement is proved here. Own work of the verifier. -/
import Derived.Test.YtklbdobofclofaaGreatDoorBaseN
namespace Go.Proofs.YtklbdobofclofaaGreatDoor
open Go.RowKit
set_option linter.unusedVariables false
set_option linter.unusedSimpArgs false
set_option maxRecDepth 100000

theorem trimS_eq (l : List UInt8) : (⟨(Lib.trimS l whiteSet).toArray⟩ : ByteArray) = str (trimV l) := by
  show str (Lib.trimS l whiteSet) = _
  rw [trim_eq, lr]; rfl
theorem strTrim_any (l : List UInt8) (w : World) (hs : l.length ≤ 1048576) :
    Calls Tryz.prog 98 #[.string (str l), .string ⟨#[32, 9, 10, 12, 13]⟩] w fun e w' => e = .returned (.string (str (trimV l))) ∧ Below w.heap.size w w' :=
  (trim_any (str l) w (by rw [str_size]; unfold maxLen; omega)).mono fun e w' ⟨he, hb⟩ => ⟨by rw [he, str_toList, trim_eq, lr]; rfl, hb⟩
theorem before_len (l : List UInt8) : (beforeC 58 l).length ≤ l.length := (List.takeWhile_sublist _).length_le
theorem after_len (l : List UInt8) : (afterC 58 l).length ≤ l.length := by have := before_after l; omega
theorem isEmptyT {a : List UInt8} (h : a = []) : (str a).toList.isEmpty = true := by rw [str_list, h]; rfl
theorem isEmptyF {a : List UInt8} (h : a ≠ []) : (str a).toList.isEmpty = false := by
  rw [str_list]
  cases a with
  | nil => exact absurd rfl h
  | cons _ _ => rfl
theorem lowL_nil {a : List UInt8} : lowL a = [] ↔ a = [] := by
  constructor
  · intro h
    have := lowL_length a
    rw [h] at this
    exact List.eq_nil_of_length_eq_zero this.symm
  · intro h; rw [h]; rfl
theorem piece_len {st : CSt} {cur l : List UInt8} {p : List UInt8} (h : p ∈ pcs st cur l) : p.length + 1 ≤ cur.length + l.length + 1 := by
  have h1 := pcs_weight l st cur
  have h2 : ∀ (P : List (List UInt8)), p ∈ P → p.length + 1 ≤ pieceW P := by
    intro P
    unfold pieceW
    induction P with
    | nil => intro h; cases h
    | cons a r ih =>
      intro h
      rw [List.map_cons, List.sum_cons]
      rcases List.mem_cons.1 h with rfl | h
      · omega
      · have := ih h; omega
  have := h2 _ h
  omega
theorem pcs_count (st : CSt) (cur l : List UInt8) : (pcs st cur l).length ≤ cur.length + l.length + 1 := by
  have h1 := pcs_weight l st cur
  have h2 : ∀ (P : List (List UInt8)), P.length ≤ pieceW P := by
    intro P
    unfold pieceW
    induction P with
    | nil => exact Nat.le_refl _
    | cons a r ih => rw [List.map_cons, List.sum_cons, List.length_cons]; omega
  have := h2 (pcs st cur l)
  omega
set_option maxHeartbeats 2000000 in
theorem cssCut_any (s : ByteArray) (w : World) (hs : s.size ≤ 1048575) :
    Calls Tryz.prog 76 #[.string s] w fun e w' => ∃ v, e = .returned v ∧ DBuf w.heap.size v (cutD s.data.toList) w w' := by
  obtain ⟨P, hP⟩ : ∃ P, pcs st0 [] s.data.toList = P := ⟨_, rfl⟩
  have hcount := pcs_count st0 [] s.data.toList
  rw [hP, toList_length] at hcount
  have HPL : Hid (∀ p ∈ P, p.length ≤ 1048575) := hide (fun p hp => by
    have := piece_len (st := st0) (cur := []) (l := s.data.toList) (by rw [hP]; exact hp)
    rw [toList_length] at this
    simp at this; omega)
  have HCD : Hid (cutD s.data.toList = P.filterMap declL) := hide (by unfold cutD; rw [hP])
  have HP := hide hP
  clear hP
  have hn0 : P.length ≤ 1048576 := by simp at hcount; omega
  clear hcount
  go_enter Tryz.func76, Tryz.ntmps76
  go_wp2_with fail
  refine (pieces_any s w hs).mono ?_
  rintro e w1 ⟨v0, rfl, hsb⟩
  rw [HP.out] at hsb
  have HB1 := hide hsb.below
  have hz1 := hsb.2.2
  have HD0 : Hid (DBuf w.heap.size (.slice none 0 0) [] w w1) := hide (DBuf.nil hsb.below hz1)
  rcases hsb.form with ⟨rfl, hnil⟩ | ⟨g, cap, rfl, hc1, hc2, hg1, hg2, hcell⟩
  · have hPn : P = [] := by simpa using hnil
    have HE : Hid (cutD s.data.toList = []) := hide (by rw [HCD.out, hPn]; rfl)
    clear hsb hnil hPn
    go_wp2_with fail
    go_loopw [3, 12] (fun v i wr => v = .slice none 0 0 ∧ i = .int .i64 0 ∧ wr = w1) (fun _ _ _ => 0)
    case atStart => exact ⟨rfl, rfl, rfl⟩
    case round =>
      obtain ⟨rfl, rfl, rfl⟩ := hrel
      go_wp2_with fail
      go_ret
      exact ⟨_, rfl, by rw [HE.out]; exact HD0.out⟩
  · rw [List.length_map] at hc1
    have hlm : (P.map str).length = P.length := List.length_map ..
    obtain ⟨n, hn⟩ : ∃ n, n = P.length := ⟨_, rfl⟩
    rw [hlm, ← hn]
    have hn1 : n ≤ 1048576 := by omega
    have HCELL : Hid (∀ j, (hj : j < P.length) → w1.cell? ⟨g, j, none⟩ = some (.string (str P[j]))) := hide (fun j hj => by
      have := hcell j (str P[j]) (by simp [hj])
      rwa [Nat.zero_add] at this)
    have HN := hide hn
    have hnc : n ≤ cap := by omega
    have HD0' : Hid (DBuf w1.heap.size (.slice none 0 0) [] w1 w1) := hide (DBuf.nil (Below.refl _ _) (Nat.le_refl _))
    clear hsb hc1 hc2 hg1 hcell hlm hn hn0
    go_wp2_with fail
    go_loopw [3, 12] (fun v i wr => ∃ (k : Nat) (D : List DeclL), k ≤ n ∧ i = .int .i64 k ∧ D.length ≤ k ∧ Hid (DBuf w1.heap.size v D w1 wr) ∧ Hid (D ++ (P.drop k).filterMap declL = P.filterMap declL)) (fun _ i _ => n - (intOf i).toNat)
    case atStart => exact ⟨0, [], Nat.zero_le _, rfl, Nat.le_refl _, HD0', hide (by simp)⟩
    case round =>
      obtain ⟨k, D, hk, rfl, hD, HD, HR⟩ := hrel
      have HBW := hide HD.out.below
      by_cases hlt : k < n
      · have hkP : k < P.length := by rw [← HN.out]; exact hlt
        obtain ⟨p, hp⟩ : ∃ p, P[k] = p := ⟨_, rfl⟩
        have hpm : p ∈ P := by rw [← hp]; exact List.getElem_mem hkP
        have hpl := HPL.out p hpm
        have hcell := (HBW.out.cell (p := ⟨g, k, none⟩) hg2).trans (HCELL.out k hkP)
        rw [hp] at hcell
        have hR := HR.out
        rw [List.drop_eq_getElem_cons hkP, hp, List.filterMap_cons] at hR
        have HPL0 : Hid ((str p).size ≤ 70368744177664) := hide (by rw [str_size]; omega)
        have HCV : Hid (cutV 58 (str p).data.toList = .tuple #[.string (str (beforeC 58 p)), .string (str (afterC 58 p)), .bool (hasC 58 p)]) := hide (by unfold cutV; rw [str_toList])
        have HBL : Hid ((beforeC 58 p).length ≤ 1048576) := hide (by have := before_len p; omega)
        have HAL : Hid ((afterC 58 p).length ≤ 1048576) := hide (by have := after_len p; omega)
        have HLL : Hid ((str (trimV (beforeC 58 p))).size ≤ 70368744177664) := hide (by rw [str_size]; have := trimV_len (beforeC 58 p); have := before_len p; omega)
        obtain ⟨N1, hN1⟩ : ∃ N1, str (trimV (beforeC 58 p)) = N1 := ⟨_, rfl⟩
        obtain ⟨V1, hV1⟩ : ∃ V1, str (trimV (afterC 58 p)) = V1 := ⟨_, rfl⟩
        have HN1 := hide hN1
        have HV1 := hide hV1
        rw [hN1] at HLL
        by_cases hnone : trimV (beforeC 58 p) = []
        · have t1 : N1.toList.isEmpty = true := by rw [← hN1]; exact isEmptyT hnone
          have hdn : declL p = none := by unfold declL; rw [if_pos (.inl (lowL_nil.2 hnone))]
          rw [hdn] at hR
          have HR2 := hide hR
          clear hkP hp hpm hpl hR hN1 hV1 hnone hdn
          go_wp2_with fail
          refine (strCut_any (str p) 58 _ HPL0.out).mono ?_
          rintro e w2 ⟨rfl, hb2⟩
          have HD2 := hide (HD.out.kept hb2)
          clear hb2
          rw [HCV.out]
          go_wp2_with fail
          refine (strTrim_any _ _ HBL.out).mono ?_
          rintro e w3 ⟨rfl, hb3⟩
          have HD3 := hide (HD2.out.kept hb3)
          clear hb3
          rw [HN1.out]
          go_wp2_with fail
          refine (strTrim_any _ _ HAL.out).mono ?_
          rintro e w4 ⟨rfl, hb4⟩
          have HD4 := hide (HD3.out.kept hb4)
          clear hb4
          rw [HV1.out]
          go_wp2_with fail
          go_roundw
          case rel => exact ⟨k + 1, D, by omega, by go_num, by omega, HD4, HR2⟩
          case measure => simp [intOf]; omega
        have t1 : N1.toList.isEmpty = false := by rw [← hN1]; exact isEmptyF hnone
        by_cases hvn : trimV (afterC 58 p) = []
        · have t2 : V1.toList.isEmpty = true := by rw [← hV1]; exact isEmptyT hvn
          have hdn : declL p = none := by unfold declL; rw [if_pos (.inr hvn)]
          rw [hdn] at hR
          have HR2 := hide hR
          clear hkP hp hpm hpl hR hN1 hV1 hnone hvn hdn
          go_wp2_with fail
          refine (strCut_any (str p) 58 _ HPL0.out).mono ?_
          rintro e w2 ⟨rfl, hb2⟩
          have HD2 := hide (HD.out.kept hb2)
          clear hb2
          rw [HCV.out]
          go_wp2_with fail
          refine (strTrim_any _ _ HBL.out).mono ?_
          rintro e w3 ⟨rfl, hb3⟩
          have HD3 := hide (HD2.out.kept hb3)
          clear hb3
          rw [HN1.out]
          go_wp2_with fail
          refine (strTrim_any _ _ HAL.out).mono ?_
          rintro e w4 ⟨rfl, hb4⟩
          have HD4 := hide (HD3.out.kept hb4)
          clear hb4
          rw [HV1.out]
          go_wp2_with fail
          go_roundw
          case rel => exact ⟨k + 1, D, by omega, by go_num, by omega, HD4, HR2⟩
          case measure => simp [intOf]; omega
        have t2 : V1.toList.isEmpty = false := by rw [← hV1]; exact isEmptyF hvn
        obtain ⟨d, hd⟩ : ∃ d : DeclL, d = (lowL (trimV (beforeC 58 p)), trimV (afterC 58 p)) := ⟨_, rfl⟩
        have hdn : declL p = some d := by unfold declL; rw [if_neg (fun h => h.elim (fun h => hnone (lowL_nil.1 h)) hvn), hd]
        rw [hdn] at hR
        have HR2 : Hid ((D ++ [d]) ++ (P.drop (k + 1)).filterMap declL = P.filterMap declL) := hide (by rw [← hR]; simp)
        obtain ⟨X, hX⟩ : ∃ X, str (lowL N1.data.toList) = X := ⟨_, rfl⟩
        have HX := hide hX
        have HXX : Hid (X = str d.1 ∧ V1 = str d.2) := hide ⟨by rw [← hX, ← hN1, str_toList, hd], by rw [← hV1, hd]⟩
        clear hkP hp hpm hpl hR hN1 hV1 hnone hvn hdn hd hX
        go_wp2_with fail
        refine (strCut_any (str p) 58 _ HPL0.out).mono ?_
        rintro e w2 ⟨rfl, hb2⟩
        have HD2 := hide (HD.out.kept hb2)
        clear hb2
        rw [HCV.out]
        go_wp2_with fail
        refine (strTrim_any _ _ HBL.out).mono ?_
        rintro e w3 ⟨rfl, hb3⟩
        have HD3 := hide (HD2.out.kept hb3)
        clear hb3
        rw [HN1.out]
        go_wp2_with fail
        refine (strTrim_any _ _ HAL.out).mono ?_
        rintro e w4 ⟨rfl, hb4⟩
        have HD4 := hide (HD3.out.kept hb4)
        clear hb4
        rw [HV1.out]
        go_wp2_with fail
        refine (lower_any _ _ HLL.out).mono ?_
        rintro e w5 ⟨rfl, hb5⟩
        have HD5 := hide (HD4.out.kept hb5)
        clear hb5
        rw [HX.out]
        go_wp2_with (at_builtin; go_must (refine wpList_decls rfl _ _ rfl w1.heap.size u3 D rfl w1 d (HD5.out.alloc _) ⟨w5.heap.size, 0, none⟩ rfl (by rw [Addr.add_lit, World.cell?_alloc_at _ _ _ _ rfl]; show some (Value.string X) = some (Value.string (str d.1)); rw [← HXX.out.1]) (by rw [Addr.add_lit, World.cell?_alloc_at _ _ _ _ rfl]; show some (Value.string V1) = some (Value.string (str d.2)); rw [← HXX.out.2]) (by omega) ?_; intro v6 w6 hb6; have HD6 := hide hb6; clear hb6))
        go_roundw
        case rel => exact ⟨k + 1, D ++ [d], by omega, by go_num, by simp; omega, HD6, HR2⟩
        case measure => simp [intOf]; omega
      · have HE : Hid (cutD s.data.toList = D) := hide (by
          have := HR.out
          rw [List.drop_eq_nil_of_le (by have := HN.out; omega)] at this
          rw [HCD.out, ← this]; simp)
        go_wp2_with fail
        go_ret
        exact ⟨_, rfl, by rw [HE.out]; exact HD.out.elder hz1 (HB1.out.trans (HD.out.below.mono hz1))⟩
end Go.Proofs.YtklbdobofclofaaGreatDoor
