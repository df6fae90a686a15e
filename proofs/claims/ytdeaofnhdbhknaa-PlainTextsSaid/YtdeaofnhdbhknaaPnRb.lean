/- WALK of muslinref20.rows. Written by wip/tools/pnrb.py. No statement is proved here. Own work of the verifier. -/
import Derived.Test.YtdeaofnhdbhknaaPnRa
import Derived.Test.YtdeaofnhdbhknaaPnF
import Derived.Test.YtdeaofnhdbhknaaPlnS
namespace Go.Proofs.Ytdeaofnhdbhknaa
open Go.RowKit
set_option linter.unusedVariables false
set_option linter.unusedSimpArgs false
set_option maxRecDepth 100000
def lowL (d : Nat) (L : List (List UInt8)) : List LnL := (L.map levelL).map (lowBy d)
theorem lowL_cons (d : Nat) (x : List UInt8) (r : List (List UInt8)) : lowL d (x :: r) = ((levelL x).1 - d, (levelL x).2) :: lowL d r := rfl
theorem lowL_append (d : Nat) (a b : List (List UInt8)) : lowL d (a ++ b) = lowL d a ++ lowL d b := by unfold lowL; rw [List.map_append, List.map_append]
theorem drop_at {α : Type} {L : List α} {k : Nat} {x : α} (h : L[k]? = some x) : L.drop k = x :: L.drop (k + 1) := by
  obtain ⟨hk, e⟩ := List.getElem?_eq_some_iff.1 h
  rw [List.drop_eq_getElem_cons hk, e]
theorem nextL_low (d : Nat) (L : List (List UInt8)) (k : Nat) : nextL (lowL d (L.drop k)) = (L[k]?).map fun y => (levelL y).1 - d := by
  unfold nextL lowL
  rw [List.head?_map, List.head?_map, List.head?_drop, Option.map_map, Option.map_map]
  rfl
theorem says_nil (s : List UInt8) (X : Tr) : saysT s X = (saysT s .nil).app X := saysT_app s .nil X
theorem step_said (d : Nat) (L : List (List UInt8)) (k : Nat) (x : List UInt8) (T : Tr) (hx : L[k]? = some x) (h : (levelL x).1 ≤ d) (B : Tr)
    (hB : B = if nextL (lowL d (L.drop (k + 1))) = some 0 then .cons brH .nil .nil else .nil) :
    T.app (treeP (lowL d (L.drop k))) = ((T.app (saysT (levelL x).2 .nil)).app B).app (treeP (lowL d (L.drop (k + 1)))) := by
  rw [drop_at hx, lowL_cons, show (levelL x).1 - d = 0 by omega]
  show T.app (insP 0 _ (nextL (lowL d (L.drop (k + 1)))) (treeP (lowL d (L.drop (k + 1))))) = _
  rw [insP_zero, says_nil, Tr.app_assoc, Tr.app_assoc, hB]
  split <;> rfl
theorem step_quoted (d : Nat) (L : List (List UInt8)) (k j : Nat) (T : Tr) (hkj : k < j) (hj : j ≤ L.length)
    (hd : ∀ i, k ≤ i → i < j → ∀ y, L[i]? = some y → d < (levelL y).1) (he : ∀ y, L[j]? = some y → (levelL y).1 ≤ d) :
    T.app (treeP (lowL d (L.drop k))) = (T.app (.cons quH (treeP (lowL (d + 1) ((L.drop k).take (j - k)))) .nil)).app (treeP (lowL d (L.drop j))) := by
  have e1 : L.drop k = (L.drop k).take (j - k) ++ L.drop j := by
    have h := List.take_append_drop (j - k) (L.drop k)
    rw [List.drop_drop, show k + (j - k) = j by omega] at h
    exact h.symm
  have hml : ((L.drop k).take (j - k)).length = j - k := by rw [List.length_take, List.length_drop]; omega
  have h2 := treeP_quoted (lowL d ((L.drop k).take (j - k))) (lowL d (L.drop j))
    (fun e => by have := congrArg List.length e; rw [lowL, List.length_map, List.length_map, hml, List.length_nil] at this; omega)
    (fun p hp => by
      obtain ⟨z, hz, rfl⟩ := List.mem_map.1 hp
      obtain ⟨y, hy, rfl⟩ := List.mem_map.1 hz
      obtain ⟨i, hi, e⟩ := List.getElem_of_mem hy
      have hi2 : i < j - k := by rw [hml] at hi; exact hi
      have h3 : L[k + i]? = some y := by
        rw [← e, List.getElem_take, List.getElem_drop]
        exact List.getElem?_eq_getElem _
      have := hd (k + i) (by omega) (by omega) y h3
      show 0 < (levelL y).1 - d
      omega)
    (by
      rcases Nat.lt_or_ge j L.length with hlt | hge
      · right
        rw [nextL_low, List.getElem?_eq_getElem hlt]
        have := he _ (List.getElem?_eq_getElem hlt)
        show some ((levelL L[j]).1 - d) = some 0
        rw [show (levelL L[j]).1 - d = 0 by omega]
      · left
        rw [List.drop_eq_nil_of_le hge]; rfl)
  rw [show lowL d (L.drop k) = lowL d ((L.drop k).take (j - k)) ++ lowL d (L.drop j) by rw [← lowL_append, ← e1], h2, Tr.app_assoc]
  unfold lowL
  rw [lowBy_down]
  rfl
/-- in w the []string v reads as these texts -/
def TxIn (w : World) (v : Value) (L : List (List UInt8)) : Prop :=
  (v = .slice none 0 0 ∧ L = []) ∨ ∃ a cap, v = .slice (some a) L.length cap ∧ L.length ≤ cap ∧ cap ≤ maxLen ∧ ∀ (j : Nat) x, L[j]? = some x → w.cell? (a.add j) = some (.string (str x))
theorem TxIn.form {w : World} {v : Value} {L : List (List UInt8)} (h : TxIn w v L) : ∃ o c, v = .slice o L.length c := by
  rcases h with ⟨rfl, rfl⟩ | ⟨a, cap, rfl, _⟩
  · exact ⟨_, _, rfl⟩
  · exact ⟨_, _, rfl⟩
theorem TxIn.of_buf {B : Nat} {v : Value} {L : List (List UInt8)} {W0 w : World} (h : SBuf B v (L.map str) W0 w) : TxIn w v L := by
  rcases h.form with ⟨h1, h2⟩ | ⟨g, cap, h1, h2, h3, _, _, h6⟩
  · exact .inl ⟨h1, List.map_eq_nil_iff.1 h2⟩
  · rw [List.length_map] at h1 h2
    refine .inr ⟨⟨g, 0, none⟩, cap, h1, h2, h3, fun j x hj => ?_⟩
    have := h6 j (str x) (by rw [List.getElem?_map, hj]; rfl)
    rw [Addr.add_lit]; exact this
theorem refLevel_below (s : ByteArray) (w : World) (hs : s.size ≤ 1000000) : Calls Try.prog 11 #[.string s] w fun e w' => e = .returned (levelV (levelL s.data.toList)) ∧ Below w.heap.size w w' :=
  (refLevel_any s w hs).mono fun e w' ⟨h1, h2⟩ => ⟨h1, below_of13 h2⟩
def RowsQ (d : Nat) : Prop := ∀ (v : Value) (L : List (List UInt8)) (w : World), L.length ≤ 1000000 → (∀ x ∈ L, x.length ≤ 1000000) → TxIn w v L →
    Calls Try.prog 24 #[v, .int .i64 (d : Int)] w fun e w' => ∃ u, e = .returned u ∧ NodesC (FreshB w.heap.size w') w' u (treeP (lowL d L)) ∧ Below w.heap.size w w'
set_option maxHeartbeats 8000000 in
theorem rows_step (d : Nat) (hd : d ≤ 20) (IH : d < 20 → RowsQ (d + 1)) : RowsQ d := by
  intro v L w hlen hsz hin
  have HIH := hide IH
  have HSZ := hide hsz
  obtain ⟨o, cp, rfl⟩ := hin.form
  have HIN := hide hin
  have e9 : IntKind.i64.wrap ((d : Int) + 1) = ((d + 1 : Nat) : Int) := by have := (wraps d (by omega)).2.2.2.1; rw [this]; omega
  have HE9 := hide e9
  clear hin hsz IH e9
  go_enter Try.func24, Try.ntmps24
  go_wp2_with fail
  go_loopw [5, 6] (fun ov i wr => ∃ (k : Nat) (T : Tr) (A1 : Option Addr) (c1 : Nat), k ≤ L.length ∧ ov = .slice A1 T.len c1 ∧ i = .int .i64 k ∧ Hid (OutT w.heap.size (.slice A1 T.len c1) T w wr) ∧ Hid (T.app (treeP (lowL d (L.drop k))) = treeP (lowL d L)) ∧ Hid (T.len ≤ 2 * k)) (fun _ i _ => L.length - (intOf i).toNat)
  case atStart => exact ⟨0, .nil, none, 0, Nat.zero_le _, rfl, rfl, hide (OutT.nil w), hide rfl, hide (Nat.zero_le _)⟩
  case round =>
    obtain ⟨k, T, A1, c1, hk, rfl, rfl, HO, HT, HTL⟩ := hrel
    by_cases hlt : k < L.length
    · obtain ⟨a, rfl, hcap, hmax, HC⟩ : ∃ a, o = some a ∧ L.length ≤ cp ∧ cp ≤ maxLen ∧ Hid (∀ w1, Below w.heap.size w w1 → ∀ (j : Nat) x, L[j]? = some x → w1.cell? (a.add j) = some (.string (str x))) := by
        rcases HIN.out with ⟨_, h⟩ | ⟨a, cap, h1, h2, h3, h4⟩
        · rw [h] at hlt; exact absurd hlt (Nat.not_lt_zero _)
        · injection h1 with h1 _ h5
          subst h5
          exact ⟨a, h1, h2, h3, hide fun w1 hb j x hj => (hb.cell (World.block_lt_of_cell? _ _ (h4 j x hj))).trans (h4 j x hj)⟩
      obtain ⟨x, hx⟩ : ∃ x, L[k]? = some x := ⟨_, List.getElem?_eq_getElem hlt⟩
      have HX := hide hx
      have hc := HC.out wr HO.out.below k x hx
      have hxs := HSZ.out x (List.mem_of_getElem? hx)
      have hV := refLevel_below (str x) wr (by rw [str_size]; omega)
      rw [str_toList] at hV
      unfold levelV at hV
      obtain ⟨p, hp⟩ : ∃ p, p = levelL x := ⟨_, rfl⟩
      obtain ⟨X, hX⟩ : ∃ X, X = str x := ⟨_, rfl⟩
      have hp20 : p.1 ≤ 20 := by rw [hp]; exact (levelL_le x).1
      rw [← hX, ← hp] at hV
      rw [← hX] at hc
      have HV := hide hV
      have HP := hide hp
      have HCAP := hide (And.intro hcap hmax)
      clear hV hX hp hx hxs hcap hmax
      go_wp2_with fail
      refine HV.out.mono ?_
      rintro e w1 ⟨rfl, hb1⟩
      have HO1 := hide (HO.out.kept hb1)
      clear hb1 HV hc HO
      by_cases hle : p.1 ≤ d
      · have t1 : decide ((p.1 : Int) ≤ (d : Int)) = true := decide_eq_true (by omega)
        have HS := hide (fun B hB => HT.out.symm.trans (step_said d L k x T HX.out (by rw [← HP.out]; exact hle) B hB))
        rw [← HP.out] at HS
        clear HT
        by_cases hs : p.2 = []
        · have t2 : (str p.2).toList.isEmpty = true := by rw [str_list, hs]; rfl
          have HE : Hid (saysT p.2 .nil = .nil) := hide (by rw [hs]; rfl)
          clear hs
          by_cases hk1 : k + 1 < L.length
          · have t3 : decide ((k : Int) + 1 < (L.length : Int)) = true := decide_eq_true (by omega)
            have e1 : ((k : Int) + 1).toNat = k + 1 := by omega
            obtain ⟨y, hy⟩ : ∃ y, L[k + 1]? = some y := ⟨_, List.getElem?_eq_getElem hk1⟩
            have HY := hide hy
            have hys := HSZ.out y (List.mem_of_getElem? hy)
            have hV2 : ∀ w2, Calls Try.prog 11 #[.string (str y)] w2 fun e w' => e = .returned (levelV (levelL y)) ∧ Below w2.heap.size w2 w' := fun w2 => by
              have := refLevel_below (str y) w2 (by rw [str_size]; omega)
              rw [str_toList] at this; exact this
            unfold levelV at hV2
            obtain ⟨r, hr⟩ : ∃ r, r = levelL y := ⟨_, rfl⟩
            obtain ⟨Y, hY⟩ : ∃ X, X = str y := ⟨_, rfl⟩
            rw [← hY, ← hr] at hV2
            have HV2A := hide hV2
            have HYX := hide hY
            have HYR := hide hr
            clear hV2 hY hr hy hys
            by_cases hle2 : r.1 ≤ d
            · have t4 : decide ((r.1 : Int) ≤ (d : Int)) = true := decide_eq_true (by omega)
              have HB : Hid (nextL (lowL d (L.drop (k + 1))) = some 0) := hide (by rw [nextL_low, HY.out]; show some ((levelL y).1 - d) = some 0; rw [← HYR.out, show r.1 - d = 0 by omega])
              have hc2 : w1.cell? { block := a.block, off := a.off + (k + 1) } = some (.string (str y)) := HC.out w1 HO1.out.below (k + 1) y HY.out
              rw [← HYX.out] at hc2
              have HV2 := hide (HV2A.out w1)
              go_wp2_with fail
              refine HV2.out.mono ?_
              rintro e w3 ⟨rfl, hb3⟩
              have HO3 := hide (HO1.out.kept hb3)
              clear hb3 HV2 hc2
              have HTL2 : Hid (T.len ≤ 2 * k + 1 ∧ k ≤ 1000000) := hide (by have := HTL.out; omega)
              go_wp2_with (
                refine wpList_out rfl _ _ rfl w.heap.size (.slice A1 T.len c1) T w w3 rfl brN [] (.slice none 0 0) .nil w3 HO3.out (Below.refl _ _) (nodesC_none _ _) _ rfl rfl (by have := HTL2.out; omega) ?_
                intro v' w4 hO' _ _
                obtain ⟨A4, c4, rfl⟩ := hO'.form
                obtain ⟨T4, hT4⟩ : ∃ X, X = T.app (.cons ⟨brN, [], []⟩ .nil .nil) := ⟨_, rfl⟩
                rw [← hT4] at hO'
                rw [← hT4]
                have HO4 := hide hO'
                have HT4 := hide hT4
                have HL4 : Hid (T4.len = T.len + 1) := hide (by rw [hT4, ← Tr.len_list, Tr.list_app, List.length_append, Tr.len_list]; rfl)
                clear hO' hT4)
              go_roundw
              case rel =>
                refine ⟨k + 1, T4, A4, c4, by omega, rfl, by go_num, HO4, hide ?_, hide ?_⟩
                · have h := HS.out (.cons brH .nil .nil) (if_pos HB.out).symm
                  rw [HE.out, Tr.app_nil] at h
                  rw [HT4.out]
                  exact h.symm
                · have := HTL.out; have := HL4.out; omega
              case measure => simp [intOf]; omega
            · have t4 : decide ((r.1 : Int) ≤ (d : Int)) = false := decide_eq_false (by omega)
              have HB : Hid (nextL (lowL d (L.drop (k + 1))) ≠ some 0) := hide (by rw [nextL_low, HY.out]; show some ((levelL y).1 - d) ≠ some 0; rw [← HYR.out]; intro e; have := Option.some.inj e; omega)
              have hc2 : w1.cell? { block := a.block, off := a.off + (k + 1) } = some (.string (str y)) := HC.out w1 HO1.out.below (k + 1) y HY.out
              rw [← HYX.out] at hc2
              have HV2 := hide (HV2A.out w1)
              go_wp2_with fail
              refine HV2.out.mono ?_
              rintro e w3 ⟨rfl, hb3⟩
              have HO3 := hide (HO1.out.kept hb3)
              clear hb3 HV2 hc2
              go_wp2_with fail
              go_roundw
              case rel =>
                refine ⟨k + 1, T, A1, c1, by omega, rfl, by go_num, HO3, hide ?_, hide ?_⟩
                · have h := HS.out (.nil) (if_neg HB.out).symm
                  rw [HE.out, Tr.app_nil, Tr.app_nil] at h
                  exact h.symm
                · have := HTL.out; omega
              case measure => simp [intOf]; omega
          · have t3 : decide ((k : Int) + 1 < (L.length : Int)) = false := decide_eq_false (by omega)
            have HB : Hid (nextL (lowL d (L.drop (k + 1))) ≠ some 0) := hide (by rw [nextL_low, List.getElem?_eq_none (by omega)]; exact fun e => by cases e)
            go_wp2_with fail
            go_roundw
            case rel =>
              refine ⟨k + 1, T, A1, c1, by omega, rfl, by go_num, HO1, hide ?_, hide ?_⟩
              · have h := HS.out (.nil) (if_neg HB.out).symm
                rw [HE.out, Tr.app_nil, Tr.app_nil] at h
                exact h.symm
              · have := HTL.out; omega
            case measure => simp [intOf]; omega
  
        · have t2 : (str p.2).toList.isEmpty = false := by rw [str_list]; simp [hs]
          have HE : Hid (saysT p.2 .nil = .cons ⟨[], [], p.2⟩ .nil .nil) := hide (saysT_one _ hs)
          have HTLK : Hid (T.len ≤ 2 * k ∧ k ≤ 1000000) := hide (by have := HTL.out; omega)
          clear hs
          by_cases hk1 : k + 1 < L.length
          · have t3 : decide ((k : Int) + 1 < (L.length : Int)) = true := decide_eq_true (by omega)
            have e1 : ((k : Int) + 1).toNat = k + 1 := by omega
            obtain ⟨y, hy⟩ : ∃ y, L[k + 1]? = some y := ⟨_, List.getElem?_eq_getElem hk1⟩
            have HY := hide hy
            have hys := HSZ.out y (List.mem_of_getElem? hy)
            have hV2 : ∀ w2, Calls Try.prog 11 #[.string (str y)] w2 fun e w' => e = .returned (levelV (levelL y)) ∧ Below w2.heap.size w2 w' := fun w2 => by
              have := refLevel_below (str y) w2 (by rw [str_size]; omega)
              rw [str_toList] at this; exact this
            unfold levelV at hV2
            obtain ⟨r, hr⟩ : ∃ r, r = levelL y := ⟨_, rfl⟩
            obtain ⟨Y, hY⟩ : ∃ X, X = str y := ⟨_, rfl⟩
            rw [← hY, ← hr] at hV2
            have HV2A := hide hV2
            have HYX := hide hY
            have HYR := hide hr
            clear hV2 hY hr hy hys
            by_cases hle2 : r.1 ≤ d
            · have t4 : decide ((r.1 : Int) ≤ (d : Int)) = true := decide_eq_true (by omega)
              have HB : Hid (nextL (lowL d (L.drop (k + 1))) = some 0) := hide (by rw [nextL_low, HY.out]; show some ((levelL y).1 - d) = some 0; rw [← HYR.out, show r.1 - d = 0 by omega])
              go_wp2_with (
                refine wpList_out rfl _ _ rfl w.heap.size (.slice A1 T.len c1) T w w1 rfl [] p.2 (.slice none 0 0) .nil w1 HO1.out (Below.refl _ _) (nodesC_none _ _) _ rfl rfl (by have := HTLK.out; omega) ?_
                intro v' w2 hO' _ _
                obtain ⟨A2, c2, rfl⟩ := hO'.form
                obtain ⟨T2, hT2⟩ : ∃ X, X = T.app (.cons ⟨[], [], p.2⟩ .nil .nil) := ⟨_, rfl⟩
                rw [← hT2] at hO'
                rw [← hT2]
                have HO2 := hide hO'
                have HT2 := hide hT2
                have HL2 : Hid (T2.len = T.len + 1) := hide (by rw [hT2, ← Tr.len_list, Tr.list_app, List.length_append, Tr.len_list]; rfl)
                have hc2 : w2.cell? { block := a.block, off := a.off + (k + 1) } = some (.string (str y)) := HC.out w2 hO'.below (k + 1) y HY.out
                rw [← HYX.out] at hc2
                have HV2 := hide (HV2A.out w2)
                clear hO' hT2)
              refine HV2.out.mono ?_
              rintro e w3 ⟨rfl, hb3⟩
              have HO3 := hide (HO2.out.kept hb3)
              clear hb3 HV2 hc2
              have HTL2 : Hid (T2.len ≤ 2 * k + 1 ∧ k ≤ 1000000) := hide (by have := HL2.out; have := HTL.out; omega)
              go_wp2_with (
                refine wpList_out rfl _ _ rfl w.heap.size (.slice A2 T2.len c2) T2 w w3 rfl brN [] (.slice none 0 0) .nil w3 HO3.out (Below.refl _ _) (nodesC_none _ _) _ rfl rfl (by have := HTL2.out; omega) ?_
                intro v' w4 hO' _ _
                obtain ⟨A4, c4, rfl⟩ := hO'.form
                obtain ⟨T4, hT4⟩ : ∃ X, X = T2.app (.cons ⟨brN, [], []⟩ .nil .nil) := ⟨_, rfl⟩
                rw [← hT4] at hO'
                rw [← hT4]
                have HO4 := hide hO'
                have HT4 := hide hT4
                have HL4 : Hid (T4.len = T2.len + 1) := hide (by rw [hT4, ← Tr.len_list, Tr.list_app, List.length_append, Tr.len_list]; rfl)
                clear hO' hT4)
              go_roundw
              case rel =>
                refine ⟨k + 1, T4, A4, c4, by omega, rfl, by go_num, HO4, hide ?_, hide ?_⟩
                · have h := HS.out (.cons brH .nil .nil) (if_pos HB.out).symm
                  rw [HE.out] at h
                  rw [HT4.out, HT2.out]
                  exact h.symm
                · have := HTL.out; have := HL2.out; have := HL4.out; omega
              case measure => simp [intOf]; omega
            · have t4 : decide ((r.1 : Int) ≤ (d : Int)) = false := decide_eq_false (by omega)
              have HB : Hid (nextL (lowL d (L.drop (k + 1))) ≠ some 0) := hide (by rw [nextL_low, HY.out]; show some ((levelL y).1 - d) ≠ some 0; rw [← HYR.out]; intro e; have := Option.some.inj e; omega)
              go_wp2_with (
                refine wpList_out rfl _ _ rfl w.heap.size (.slice A1 T.len c1) T w w1 rfl [] p.2 (.slice none 0 0) .nil w1 HO1.out (Below.refl _ _) (nodesC_none _ _) _ rfl rfl (by have := HTLK.out; omega) ?_
                intro v' w2 hO' _ _
                obtain ⟨A2, c2, rfl⟩ := hO'.form
                obtain ⟨T2, hT2⟩ : ∃ X, X = T.app (.cons ⟨[], [], p.2⟩ .nil .nil) := ⟨_, rfl⟩
                rw [← hT2] at hO'
                rw [← hT2]
                have HO2 := hide hO'
                have HT2 := hide hT2
                have HL2 : Hid (T2.len = T.len + 1) := hide (by rw [hT2, ← Tr.len_list, Tr.list_app, List.length_append, Tr.len_list]; rfl)
                have hc2 : w2.cell? { block := a.block, off := a.off + (k + 1) } = some (.string (str y)) := HC.out w2 hO'.below (k + 1) y HY.out
                rw [← HYX.out] at hc2
                have HV2 := hide (HV2A.out w2)
                clear hO' hT2)
              refine HV2.out.mono ?_
              rintro e w3 ⟨rfl, hb3⟩
              have HO3 := hide (HO2.out.kept hb3)
              clear hb3 HV2 hc2
              go_wp2_with fail
              go_roundw
              case rel =>
                refine ⟨k + 1, T2, A2, c2, by omega, rfl, by go_num, HO3, hide ?_, hide ?_⟩
                · have h := HS.out (.nil) (if_neg HB.out).symm
                  rw [HE.out, Tr.app_nil] at h
                  rw [HT2.out]
                  exact h.symm
                · have := HTL.out; have := HL2.out; omega
              case measure => simp [intOf]; omega
          · have t3 : decide ((k : Int) + 1 < (L.length : Int)) = false := decide_eq_false (by omega)
            have HB : Hid (nextL (lowL d (L.drop (k + 1))) ≠ some 0) := hide (by rw [nextL_low, List.getElem?_eq_none (by omega)]; exact fun e => by cases e)
            go_wp2_with (
              refine wpList_out rfl _ _ rfl w.heap.size (.slice A1 T.len c1) T w w1 rfl [] p.2 (.slice none 0 0) .nil w1 HO1.out (Below.refl _ _) (nodesC_none _ _) _ rfl rfl (by have := HTLK.out; omega) ?_
              intro v' w2 hO' _ _
              obtain ⟨A2, c2, rfl⟩ := hO'.form
              obtain ⟨T2, hT2⟩ : ∃ X, X = T.app (.cons ⟨[], [], p.2⟩ .nil .nil) := ⟨_, rfl⟩
              rw [← hT2] at hO'
              rw [← hT2]
              have HO2 := hide hO'
              have HT2 := hide hT2
              have HL2 : Hid (T2.len = T.len + 1) := hide (by rw [hT2, ← Tr.len_list, Tr.list_app, List.length_append, Tr.len_list]; rfl)
              clear hO' hT2)
            go_roundw
            case rel =>
              refine ⟨k + 1, T2, A2, c2, by omega, rfl, by go_num, HO2, hide ?_, hide ?_⟩
              · have h := HS.out (.nil) (if_neg HB.out).symm
                rw [HE.out, Tr.app_nil] at h
                rw [HT2.out]
                exact h.symm
              · have := HTL.out; have := HL2.out; omega
            case measure => simp [intOf]; omega
  
      · have t1 : decide ((p.1 : Int) ≤ (d : Int)) = false := decide_eq_false (by omega)
        go_wp2_with fail
        go_loopw [11] (fun i wq => ∃ j : Nat, k ≤ j ∧ j ≤ L.length ∧ i = .int .i64 j ∧ Hid (Below w1.heap.size w1 wq) ∧ Hid (∀ i, k ≤ i → i < j → ∀ y, L[i]? = some y → d < (levelL y).1)) (fun i _ => L.length - (intOf i).toNat)
        case atStart => exact ⟨k, Nat.le_refl _, Nat.le_of_lt hlt, rfl, hide (Below.refl _ _), hide (fun i h1 h2 => absurd h1 (by omega))⟩
        case round =>
          obtain ⟨j, hkj, hjl, rfl, HBW, HG⟩ := hrel
          have HO2 := hide (HO1.out.kept HBW.out)
          by_cases hlj : j < L.length
          · obtain ⟨y, hy⟩ : ∃ y, L[j]? = some y := ⟨_, List.getElem?_eq_getElem hlj⟩
            have HY := hide hy
            have hys := HSZ.out y (List.mem_of_getElem? hy)
            have hc2 := HC.out wr HO2.out.below j y hy
            have hV2 := refLevel_below (str y) wr (by rw [str_size]; omega)
            rw [str_toList] at hV2
            unfold levelV at hV2
            obtain ⟨r, hr⟩ : ∃ r, r = levelL y := ⟨_, rfl⟩
            obtain ⟨Y, hY⟩ : ∃ X, X = str y := ⟨_, rfl⟩
            rw [← hY, ← hr] at hV2
            rw [← hY] at hc2
            have HV2 := hide hV2
            have HYR := hide hr
            clear hV2 hY hr hy hys
            go_wp2_with fail
            refine HV2.out.mono ?_
            rintro e w3 ⟨rfl, hb3⟩
            have HO3 := hide (HO2.out.kept hb3)
            have HBW3 := hide (bl_two HBW.out hb3)
            clear hb3 HV2 hc2
            by_cases hle2 : r.1 ≤ d
            · have t4 : decide ((r.1 : Int) ≤ (d : Int)) = true := decide_eq_true (by omega)
              have HNX : Hid (∀ y, L[j]? = some y → (levelL y).1 ≤ d) := hide (fun z hz => by rw [HY.out] at hz; rw [← Option.some.inj hz, ← HYR.out]; exact hle2)
              have hkj2 : k < j := by
                rcases Nat.lt_or_ge k j with h | h
                · exact h
                · have e : j = k := by omega
                  have h1 := HY.out
                  rw [e, HX.out] at h1
                  have h2 := HYR.out
                  rw [← Option.some.inj h1, ← HP.out] at h2
                  rw [h2] at hle2
                  exact absurd hle2 hle
              clear HBW
              have HKJ : Hid (k < j ∧ j ≤ L.length) := hide (by omega)
              have HQ := hide (HT.out.symm.trans (step_quoted d L k j T HKJ.out.1 HKJ.out.2 HG.out HNX.out))
              have HML : Hid (((L.drop k).take (j - k)).length = j - k) := hide (by rw [List.length_take, List.length_drop]; omega)
              have HTX : Hid (TxIn w3 (.slice (some (a.add k)) (j - k) (cp - k)) ((L.drop k).take (j - k))) := hide (.inr ⟨a.add k, cp - k, by rw [HML.out], by rw [HML.out]; have := HCAP.out.1; omega, by have := HCAP.out.2; unfold maxLen at *; omega, fun i z hz => by
                rw [Addr.add_add]
                have hi : i < j - k := by
                  rcases Nat.lt_or_ge i (j - k) with h | h
                  · exact h
                  · rw [List.getElem?_eq_none (by rw [HML.out]; exact h)] at hz; cases hz
                refine HC.out w3 HO3.out.below (k + i) z ?_
                rw [List.getElem?_take, if_pos hi, List.getElem?_drop] at hz
                exact hz⟩)
              have HR := hide (HIH.out (by omega) _ _ w3 (by rw [HML.out]; omega) (fun z hz => HSZ.out z (List.mem_of_mem_drop (List.mem_of_mem_take hz))) HTX.out)
              obtain ⟨K, hK⟩ : ∃ K, K = treeP (lowL (d + 1) ((L.drop k).take (j - k))) := ⟨_, rfl⟩
              rw [← hK] at HR HQ
              have HTLK : Hid (T.len ≤ 2 * k ∧ k ≤ 1000000) := hide (by have := HTL.out; omega)
              have z1 : (k : Int) ≤ (j : Int) := by omega
              have z2 : (j : Int) ≤ (cp : Int) := by have := HCAP.out.1; omega
              have z3 : j ≤ cp := by have := HCAP.out.1; omega
              have z4 : ¬ (cp = k) := by have := HCAP.out.1; omega
              have z5 : k ≤ j := by omega
              have z6 := HE9.out
              have z7 : (k : Int) ≤ (cp : Int) := by omega
              clear hK HT HG HNX HTX
              go_wp2_with fail
              refine HR.out.mono ?_
              rintro e w5 ⟨u5, rfl, hn5, hb5⟩
              obtain ⟨A5, c5, rfl⟩ := hn5.form
              have HN5 := hide hn5
              have HB5 := hide hb5
              clear hn5 hb5 HR
              go_wp2_with (
                refine wpList_out rfl _ _ rfl w.heap.size (.slice A1 T.len c1) T w w5 rfl quoN [] (.slice A5 K.len c5) K w3 HO3.out HB5.out HN5.out _ rfl rfl (by have := HTLK.out; omega) ?_
                intro v' w6 hO' _ _
                obtain ⟨A6, c6, rfl⟩ := hO'.form
                obtain ⟨T6, hT6⟩ : ∃ X, X = T.app (.cons ⟨quoN, [], []⟩ K .nil) := ⟨_, rfl⟩
                rw [← hT6] at hO'
                rw [← hT6]
                have HO6 := hide hO'
                have HT6 := hide hT6
                have HL6 : Hid (T6.len = T.len + 1) := hide (by rw [hT6, ← Tr.len_list, Tr.list_app, List.length_append, Tr.len_list]; rfl)
                clear hO' hT6)
              go_roundw
              case rel => exact ⟨j, T6, A6, c6, HKJ.out.2, rfl, by go_num, HO6, hide (by rw [HT6.out]; exact HQ.out.symm), hide (by have := HL6.out; have := HTL.out; have := HKJ.out; omega)⟩
              case measure => have := HKJ.out; simp [intOf]; omega
            · have t4 : decide ((r.1 : Int) ≤ (d : Int)) = false := decide_eq_false (by omega)
              have HGN : Hid (∀ i, k ≤ i → i < j + 1 → ∀ y, L[i]? = some y → d < (levelL y).1) := hide (fun i h1 h2 z hz => by
                rcases Nat.lt_succ_iff_lt_or_eq.1 h2 with h | rfl
                · exact HG.out i h1 h z hz
                · rw [HY.out] at hz; rw [← Option.some.inj hz, ← HYR.out]; omega)
              go_wp2_with fail
              go_roundw
              case rel => exact ⟨j + 1, by omega, by omega, by go_num, HBW3, HGN⟩
              case measure => simp [intOf]; omega
          · obtain rfl : j = L.length := by omega
            have HNX : Hid (∀ y, L[L.length]? = some y → (levelL y).1 ≤ d) := hide (fun z hz => by rw [List.getElem?_eq_none (Nat.le_refl _)] at hz; cases hz)
            have hkj2 : k < L.length := hlt
            have HKJ : Hid (k < L.length ∧ L.length ≤ L.length) := hide (by omega)
            have HQ := hide (HT.out.symm.trans (step_quoted d L k L.length T HKJ.out.1 HKJ.out.2 HG.out HNX.out))
            have HML : Hid (((L.drop k).take (L.length - k)).length = L.length - k) := hide (by rw [List.length_take, List.length_drop]; omega)
            have HTX : Hid (TxIn wr (.slice (some (a.add k)) (L.length - k) (cp - k)) ((L.drop k).take (L.length - k))) := hide (.inr ⟨a.add k, cp - k, by rw [HML.out], by rw [HML.out]; have := HCAP.out.1; omega, by have := HCAP.out.2; unfold maxLen at *; omega, fun i z hz => by
              rw [Addr.add_add]
              have hi : i < L.length - k := by
                rcases Nat.lt_or_ge i (L.length - k) with h | h
                · exact h
                · rw [List.getElem?_eq_none (by rw [HML.out]; exact h)] at hz; cases hz
              refine HC.out wr HO2.out.below (k + i) z ?_
              rw [List.getElem?_take, if_pos hi, List.getElem?_drop] at hz
              exact hz⟩)
            have HR := hide (HIH.out (by omega) _ _ wr (by rw [HML.out]; omega) (fun z hz => HSZ.out z (List.mem_of_mem_drop (List.mem_of_mem_take hz))) HTX.out)
            obtain ⟨K, hK⟩ : ∃ K, K = treeP (lowL (d + 1) ((L.drop k).take (L.length - k))) := ⟨_, rfl⟩
            rw [← hK] at HR HQ
            have HTLK : Hid (T.len ≤ 2 * k ∧ k ≤ 1000000) := hide (by have := HTL.out; omega)
            have z1 : (k : Int) ≤ (L.length : Int) := by omega
            have z2 : (L.length : Int) ≤ (cp : Int) := by have := HCAP.out.1; omega
            have z3 : L.length ≤ cp := by have := HCAP.out.1; omega
            have z4 : ¬ (cp = k) := by have := HCAP.out.1; omega
            have z5 : k ≤ L.length := by omega
            have z6 := HE9.out
            have z7 : (k : Int) ≤ (cp : Int) := by omega
            clear hK HT HG HNX HTX
            go_wp2_with fail
            refine HR.out.mono ?_
            rintro e w5 ⟨u5, rfl, hn5, hb5⟩
            obtain ⟨A5, c5, rfl⟩ := hn5.form
            have HN5 := hide hn5
            have HB5 := hide hb5
            clear hn5 hb5 HR
            go_wp2_with (
              refine wpList_out rfl _ _ rfl w.heap.size (.slice A1 T.len c1) T w w5 rfl quoN [] (.slice A5 K.len c5) K wr HO2.out HB5.out HN5.out _ rfl rfl (by have := HTLK.out; omega) ?_
              intro v' w6 hO' _ _
              obtain ⟨A6, c6, rfl⟩ := hO'.form
              obtain ⟨T6, hT6⟩ : ∃ X, X = T.app (.cons ⟨quoN, [], []⟩ K .nil) := ⟨_, rfl⟩
              rw [← hT6] at hO'
              rw [← hT6]
              have HO6 := hide hO'
              have HT6 := hide hT6
              have HL6 : Hid (T6.len = T.len + 1) := hide (by rw [hT6, ← Tr.len_list, Tr.list_app, List.length_append, Tr.len_list]; rfl)
              clear hO' hT6)
            go_roundw
            case rel => exact ⟨L.length, T6, A6, c6, HKJ.out.2, rfl, by go_num, HO6, hide (by rw [HT6.out]; exact HQ.out.symm), hide (by have := HL6.out; have := HTL.out; have := HKJ.out; omega)⟩
            case measure => have := HKJ.out; simp [intOf]; omega
    · obtain rfl : k = L.length := by omega
      have HT2 : Hid (T = treeP (lowL d L)) := hide (by rw [← HT.out, List.drop_length]; exact (Tr.app_nil T).symm)
      go_wp2_with fail
      go_ret
      refine ⟨_, rfl, ?_, HO.out.below⟩
      rw [← HT2.out]
      exact HO.out.nodes
theorem rows_all : ∀ n d, d + n = 20 → RowsQ d
  | 0, d, h => rows_step d (by omega) (fun h2 => by omega)
  | n + 1, d, h => rows_step d (by omega) (fun _ => rows_all n (d + 1) (by omega))
end Go.Proofs.Ytdeaofnhdbhknaa
