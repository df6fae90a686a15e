/- WALKS of the laws' clean (layer 13). Written by wip/tools/htokclean.py. No statement is proved here. Own work of the verifier. -/
import Derived.Test.YtmojckphfbcibaaGreatDoorHtokO
import Derived.Test.YtmojckphfbcibaaGreatDoorBldK
import Derived.Test.YtmojckphfbcibaaGreatDoorRawW
import Derived.Test.YtmojckphfbcibaaGreatDoorHtokZ
import Derived.Test.YtmojckphfbcibaaGreatDoorHtokY
import Derived.Test.YtmojckphfbcibaaGreatDoorRef13S
import Derived.BigQuiet
import Derived.Deep.QuietTactic
namespace Go.Proofs.YtmojckphfbcibaaGreatDoor
open Go.RowKit
set_option linter.unusedVariables false
set_option linter.unusedSimpArgs false
set_option maxRecDepth 100000
theorem isEmpty_len {α : Type} (l : List α) : l.isEmpty = decide (l.length = 0) := by cases l <;> simp
theorem once_go {A : List AtL} {a : AtL} {r : List AtL} : onceB A (a :: r) = ((!(A.any fun b => b.1 == a.1) && plainB a.1) && onceB (A ++ [a]) r) := rfl
set_option maxHeartbeats 8000000 in
theorem clean13_any (f : TokG) (was : Int) (d : Option Addr) (y : Nat) (w : World) (hA : AttrsIn w (.slice d f.2.attrs.length y) f.2.attrs) (hF : fitT f.2 = true) :
    Calls Tryz.prog 19 #[.agg #[.int .i64 f.1, .string (str f.2.name), .slice d f.2.attrs.length y, .string (str f.2.text)], .int .i64 was] w fun e w' => e = .returned (.bool (cleanB f was)) ∧ Below w.heap.size w w' := by
  obtain ⟨z1, z2, z3, z4⟩ := fitT_len hF
  obtain ⟨X, hX⟩ : ∃ X, X = str f.2.name := ⟨_, rfl⟩
  obtain ⟨Y, hY⟩ : ∃ X, X = str f.2.text := ⟨_, rfl⟩
  obtain ⟨q, hq⟩ : ∃ q, q = f.2.attrs.length := ⟨_, rfl⟩
  obtain ⟨K, hK⟩ : ∃ K, K = f.1 := ⟨_, rfl⟩
  have hXl : X.data.toList = f.2.name := by rw [hX, str_toList]
  have hYl : Y.data.toList = f.2.text := by rw [hY, str_toList]
  have zX : X.size ≤ 300 := by rw [hX, str_size]; exact z1
  rw [← hX, ← hY, ← hK]
  rw [← hq] at hA ⊢
  have HPL := hide (fun w2 => plain13_any X w2 (by unfold maxLen; omega))
  have HRW := hide (fun w2 => rawW_any X w2)
  rw [hXl] at HPL HRW
  have xe : f.2.name = [] → X.toList.isEmpty = true ∧ X.toList = [] := fun h => by
    have e : X.toList = [] := by rw [bytes_list, hXl, h]
    exact ⟨by rw [e]; rfl, e⟩
  have xn : f.2.name ≠ [] → X.toList.isEmpty = false := fun h => by
    rw [bytes_list, hXl]
    cases hh : f.2.name with
    | nil => exact absurd hh h
    | cons _ _ => rfl
  have ye : f.2.text = [] → Y.toList.isEmpty = true ∧ Y.toList = [] := fun h => by
    have e : Y.toList = [] := by rw [bytes_list, hYl, h]
    exact ⟨by rw [e]; rfl, e⟩
  have yn : f.2.text ≠ [] → Y.toList.isEmpty = false := fun h => by
    rw [bytes_list, hYl]
    cases hh : f.2.text with
    | nil => exact absurd hh h
    | cons _ _ => rfl
  have bn : f.2.name.isEmpty = decide (f.2.name = []) := by cases f.2.name <;> simp
  have bt : f.2.text.isEmpty = decide (f.2.text = []) := by cases f.2.text <;> simp
  have ba : f.2.attrs.isEmpty = decide (q = 0) := by rw [hq]; exact isEmpty_len _
  have HBB : Hid (Below w.heap.size w (w.alloc (.cells #[.int .i64 K, .string X, .slice d q y, .string Y] 32))) := hide (below_one' w _)
  by_cases k1 : K = 1
  · have s1 : (K == 1) = true := by rw [beq_iff_eq]; exact k1
    have hv : cleanB f was = (decide (f.2.name = []) && (decide (q = 0) && (!decide (f.2.text = []) && !decide (was = 1)))) := by
      unfold cleanB
      rw [if_pos (by rw [← hK]; exact k1), bn, ba, bt]
    by_cases n1 : f.2.name = []
    · obtain ⟨x1, x2⟩ := xe n1
      by_cases n2 : q = 0
      · by_cases n3 : f.2.text = []
        · obtain ⟨y1, y2⟩ := ye n3
          have HD : Hid (cleanB f was = false) := hide (by rw [hv, decide_eq_true n1, decide_eq_true n2, decide_eq_true n3]; rfl)
          have t2 : ((q : Int) == 0) = true := by rw [beq_iff_eq]; omega
          clear n1 n2 n3
          clear bn bt ba k1 hK hX hY hq z1 z2 z3 z4 hF hA xe xn ye yn hXl hYl hv
          go_enter Tryz.func19, Tryz.ntmps19
          go_wp2_with fail
          go_ret
          exact ⟨ret_bool HD.out.symm, HBB.out⟩
        · have y1 := yn n3
          have t2 : ((q : Int) == 0) = true := by rw [beq_iff_eq]; omega
          by_cases n4 : was = 1
          · have HD : Hid (cleanB f was = false) := hide (by rw [hv, decide_eq_true n1, decide_eq_true n2, decide_eq_false n3, decide_eq_true n4]; rfl)
            have u1 : (was == 1) = true := by rw [beq_iff_eq]; exact n4
            have u2 : (was != 1) = false := by rw [bne, u1]; rfl
            clear n1 n2 n3 n4
            clear bn bt ba k1 hK hX hY hq z1 z2 z3 z4 hF hA xe xn ye yn hXl hYl hv
            go_enter Tryz.func19, Tryz.ntmps19
            go_wp2_with fail
            go_ret
            exact ⟨ret_bool HD.out.symm, HBB.out⟩
          · have HD : Hid (cleanB f was = true) := hide (by rw [hv, decide_eq_true n1, decide_eq_true n2, decide_eq_false n3, decide_eq_false n4]; rfl)
            have u1 : (was == 1) = false := beq_eq_false_iff_ne.2 n4
            have u2 : (was != 1) = true := by rw [bne, u1]; rfl
            clear n1 n2 n3 n4
            clear bn bt ba k1 hK hX hY hq z1 z2 z3 z4 hF hA xe xn ye yn hXl hYl hv
            go_enter Tryz.func19, Tryz.ntmps19
            go_wp2_with fail
            go_ret
            exact ⟨ret_bool HD.out.symm, HBB.out⟩
      · have t2 : ((q : Int) == 0) = false := by rw [beq_eq_false_iff_ne]; omega
        have HD : Hid (cleanB f was = false) := hide (by rw [hv, decide_eq_true n1, decide_eq_false n2]; rfl)
        clear n1 n2
        clear bn bt ba k1 hK hX hY hq z1 z2 z3 z4 hF hA xe xn ye yn hXl hYl hv
        go_enter Tryz.func19, Tryz.ntmps19
        go_wp2_with fail
        go_ret
        exact ⟨ret_bool HD.out.symm, HBB.out⟩
    · have x1 := xn n1
      have HD : Hid (cleanB f was = false) := hide (by rw [hv, decide_eq_false n1]; rfl)
      clear n1
      clear bn bt ba k1 hK hX hY hq z1 z2 z3 z4 hF hA xe xn ye yn hXl hYl hv
      go_enter Tryz.func19, Tryz.ntmps19
      go_wp2_with fail
      go_ret
      exact ⟨ret_bool HD.out.symm, HBB.out⟩
  have s1 : (K == 1) = false := beq_eq_false_iff_ne.2 k1
  by_cases k3 : K = 3
  · have s3 : (K == 3) = true := by rw [beq_iff_eq]; exact k3
    have hv : cleanB f was = (plainB f.2.name && (decide (q = 0) && decide (f.2.text = []))) := by
      unfold cleanB
      rw [if_neg (by rw [← hK]; exact k1), if_pos (by rw [← hK]; exact k3), ba, bt]
    cases hp : plainB f.2.name with
    | false =>
      have HD : Hid (cleanB f was = false) := hide (by rw [hv, hp]; rfl)
      rw [hp] at HPL
      clear hp
      clear bn bt ba k1 k3 hK hX hY hq z1 z2 z3 z4 hF hA xe xn ye yn hXl hYl hv
      go_enter Tryz.func19, Tryz.ntmps19
      go_wp2_with fail
      refine (HPL.out _).mono ?_
      rintro e wp ⟨rfl, hwp⟩
      subst hwp
      go_wp2_with fail
      go_ret
      exact ⟨ret_bool HD.out.symm, HBB.out⟩
    | true =>
      rw [hp] at HPL
      by_cases n2 : q = 0
      · by_cases n3 : f.2.text = []
        · obtain ⟨y1, y2⟩ := ye n3
          have HD : Hid (cleanB f was = true) := hide (by rw [hv, hp, decide_eq_true n2, decide_eq_true n3]; rfl)
          have t2 : ((q : Int) == 0) = true := by rw [beq_iff_eq]; omega
          clear hp n2 n3
          clear bn bt ba k1 k3 hK hX hY hq z1 z2 z3 z4 hF hA xe xn ye yn hXl hYl hv
          go_enter Tryz.func19, Tryz.ntmps19
          go_wp2_with fail
          refine (HPL.out _).mono ?_
          rintro e wp ⟨rfl, hwp⟩
          subst hwp
          go_wp2_with fail
          go_ret
          exact ⟨ret_bool HD.out.symm, HBB.out⟩
        · have y1 := yn n3
          have HD : Hid (cleanB f was = false) := hide (by rw [hv, hp, decide_eq_true n2, decide_eq_false n3]; rfl)
          have t2 : ((q : Int) == 0) = true := by rw [beq_iff_eq]; omega
          clear hp n2 n3
          clear bn bt ba k1 k3 hK hX hY hq z1 z2 z3 z4 hF hA xe xn ye yn hXl hYl hv
          go_enter Tryz.func19, Tryz.ntmps19
          go_wp2_with fail
          refine (HPL.out _).mono ?_
          rintro e wp ⟨rfl, hwp⟩
          subst hwp
          go_wp2_with fail
          go_ret
          exact ⟨ret_bool HD.out.symm, HBB.out⟩
      · have t2 : ((q : Int) == 0) = false := by rw [beq_eq_false_iff_ne]; omega
        have HD : Hid (cleanB f was = false) := hide (by rw [hv, hp, decide_eq_false n2]; rfl)
        clear hp n2
        clear bn bt ba k1 k3 hK hX hY hq z1 z2 z3 z4 hF hA xe xn ye yn hXl hYl hv
        go_enter Tryz.func19, Tryz.ntmps19
        go_wp2_with fail
        refine (HPL.out _).mono ?_
        rintro e wp ⟨rfl, hwp⟩
        subst hwp
        go_wp2_with fail
        go_ret
        exact ⟨ret_bool HD.out.symm, HBB.out⟩
  have s3 : (K == 3) = false := beq_eq_false_iff_ne.2 k3
  by_cases k2 : K = 2
  · have s2 : (K == 2) = true := by rw [beq_iff_eq]; exact k2
    have hv : cleanB f was = (onceB [] f.2.attrs && (plainB f.2.name && (!(rawL.contains f.2.name) && (decide (f.2.text = []) && decide (q ≤ 30))))) := by
      unfold cleanB
      rw [if_neg (by rw [← hK]; exact k1), if_neg (by rw [← hK]; exact k3), if_pos (by rw [← hK]; exact k2), bt, hq]
    have HV := hide hv
    have HAT := hide (hA.kept HBB.out)
    have HZ := hide z4
    have HQ := hide hq
    have hq40 : q ≤ 40 := by rw [hq]; exact z3
    have HBX := hide (alloc_new_block w (.cells #[.int .i64 K, .string X, .slice d q y, .string Y] 32))
    obtain ⟨wb, hwb⟩ : ∃ wb, wb = w.alloc (.cells #[.int .i64 K, .string X, .slice d q y, .string Y] 32) := ⟨_, rfl⟩
    have hYE := ye
    clear hv bn bt ba k1 k3 k2 hK hX hY hq z1 z2 z3 z4 hF hA xe xn ye
    go_enter Tryz.func19, Tryz.ntmps19
    go_wp2_with fail
    rw [← hwb] at HAT HBX HBB ⊢
    have p0 : wb.cell? ⟨w.heap.size, 0, none⟩ = some (.int .i64 K) := cell_of_row wb w.heap.size 0 _ _ _ HBX.out
    have p1 : wb.cell? ⟨w.heap.size, 1, none⟩ = some (.string X) := cell_of_row wb w.heap.size 1 _ _ _ HBX.out
    have p2 : wb.cell? ⟨w.heap.size, 2, none⟩ = some (.slice d q y) := cell_of_row wb w.heap.size 2 _ _ _ HBX.out
    have p3 : wb.cell? ⟨w.heap.size, 3, none⟩ = some (.string Y) := cell_of_row wb w.heap.size 3 _ _ _ HBX.out
    clear hwb
    go_wp2_with fail
    go_loopw [5] (fun iv wr => ∃ i : Nat, i ≤ q ∧ iv = .int .i64 i ∧ Hid (∃ m, wr = wb.drewN m) ∧ Hid (onceB (f.2.attrs.take i) (f.2.attrs.drop i) = onceB [] f.2.attrs)) (fun iv _ => q - (intOf iv).toNat)
    case atStart => exact ⟨0, Nat.zero_le _, rfl, hide ⟨0, rfl⟩, hide rfl⟩
    case round =>
      obtain ⟨i, hi, rfl, HI, HO⟩ := hrel
      have c0 : wr.cell? ⟨w.heap.size, 1, none⟩ = some (.string X) := ((below_of13 HI.out).cell (World.block_lt_of_cell? _ _ p1)).trans p1
      have c2 : wr.cell? ⟨w.heap.size, 2, none⟩ = some (.slice d q y) := ((below_of13 HI.out).cell (World.block_lt_of_cell? _ _ p2)).trans p2
      have c3 : wr.cell? ⟨w.heap.size, 3, none⟩ = some (.string Y) := ((below_of13 HI.out).cell (World.block_lt_of_cell? _ _ p3)).trans p3
      by_cases hil : i < q
      · obtain ⟨g, hg⟩ : ∃ g, f.2.attrs[i]? = some g := ⟨_, List.getElem?_eq_getElem (by have := HQ.out; omega)⟩
        obtain ⟨hlt, hgg⟩ := List.getElem?_eq_some_iff.1 hg
        have hstep := HO.out
        rw [List.drop_eq_getElem_cons hlt, hgg, once_go] at hstep
        have htk : f.2.attrs.take i ++ [g] = f.2.attrs.take (i + 1) := by rw [List.take_add_one, hg]; rfl
        rw [htk] at hstep
        have hg2 := HZ.out g (List.mem_of_getElem? hg)
        have HST := hide hstep
        have HBAD : Hid (((!((f.2.attrs.take i).any fun b => b.1 == g.1)) && plainB g.1) = false → cleanB f was = false) := hide fun e => by
          rw [HV.out, ← HST.out, e]; rfl
        have HGOOD : Hid (((!((f.2.attrs.take i).any fun b => b.1 == g.1)) && plainB g.1) = true → onceB (f.2.attrs.take (i + 1)) (f.2.attrs.drop (i + 1)) = onceB [] f.2.attrs) := hide fun e => by
          rw [← HST.out, e]; rfl
        have HG := hide hg
        clear hstep hgg hg htk HST HO
        go_wp2_with fail
        go_loopw [6] (fun iv wr => ∃ j : Nat, j ≤ i ∧ iv = .int .i64 j ∧ Hid (∃ m, wr = wb.drewN m) ∧ Hid (((f.2.attrs.take j).any fun b => b.1 == g.1) = false)) (fun iv _ => i - (intOf iv).toNat)
        case atStart => exact ⟨0, Nat.zero_le _, rfl, HI, hide rfl⟩
        case round =>
          obtain ⟨j, hj, rfl, HJ, HA2⟩ := hrel
          have e2 : wr.cell? ⟨w.heap.size, 2, none⟩ = some (.slice d q y) := ((below_of13 HJ.out).cell (World.block_lt_of_cell? _ _ p2)).trans p2
          clear c0 c2 c3
          obtain ⟨b2, hb2, f1, _⟩ := (HAT.out.kept (below_of13 HJ.out)).at i g HG.out
          obtain ⟨Q, hQ⟩ : ∃ Q, Q = str g.1 := ⟨_, rfl⟩
          have zQ : Q.size ≤ 300 := by rw [hQ, str_size]; exact hg2.1
          have HPQ := hide (fun w2 => plain13_any Q w2 (by unfold maxLen; omega))
          rw [hQ, str_toList, ← hQ] at HPQ
          rw [← hQ] at f1
          rw [hb2] at e2
          by_cases hjl : j < i
          · obtain ⟨h, hh⟩ : ∃ h, f.2.attrs[j]? = some h := ⟨_, List.getElem?_eq_getElem (by have := HQ.out; omega)⟩
            obtain ⟨b1, hb1, g1, _⟩ := (HAT.out.kept (below_of13 HJ.out)).at j h hh
            have hbb : b1 = b2 := by rw [hb1] at hb2; exact Option.some.inj hb2
            subst hbb
            have hjq : j < q := by omega
            obtain ⟨P, hP⟩ : ∃ P, P = str h.1 := ⟨_, rfl⟩
            rw [← hP] at g1
            have hany : ((f.2.attrs.take (j + 1)).any fun b => b.1 == g.1) = (h.1 == g.1) := by
              rw [List.take_add_one, hh, List.any_append, HA2.out]; simp
            by_cases he : h.1 = g.1
            · have hpq : P = Q := by rw [hP, hQ, he]
              subst hpq
              have HD : Hid (cleanB f was = false) := hide (HBAD.out (by
                have : ((f.2.attrs.take i).any fun b => b.1 == g.1) = true := by
                  rw [List.any_eq_true]
                  exact ⟨h, List.mem_of_getElem? (by rw [List.getElem?_take_of_lt hjl]; exact hh), by simpa using he⟩
                rw [this]; rfl))
              have tpp : (P.toList == P.toList) = true := beq_self_eq_true _
              clear hany he hh hb1 hb2 hP hQ
              go_wp2_with fail
              go_quiet (fail)
              go_wp2_with fail
              go_ret
              exact ⟨ret_bool HD.out.symm, HBB.out.trans ((below_of13 (drew_on HJ.out nq)).mono HBB.out.size)⟩
            · have tpp : (P.toList == Q.toList) = false := by
                rw [hP, hQ, str_list, str_list]; exact beq_eq_false_iff_ne.2 he
              have HA3 : Hid (((f.2.attrs.take (j + 1)).any fun b => b.1 == g.1) = false) := hide (by rw [hany]; exact beq_eq_false_iff_ne.2 he)
              clear hany he hh hb1 hb2 hP hQ
              go_wp2_with fail
              go_quiet (fail)
              go_wp2_with fail
              go_roundw
              case rel => exact ⟨j + 1, by omega, by go_num, hide (drew_on HJ.out nq), HA3⟩
              case measure => simp [intOf]; omega
          · have hji : j = i := by omega
            subst hji
            cases hp : plainB g.1 with
            | false =>
              have HD : Hid (cleanB f was = false) := hide (HBAD.out (by rw [hp, Bool.and_false]))
              rw [hp] at HPQ
              clear hp hQ hb2 hjl
              go_wp2_with fail
              refine (HPQ.out _).mono ?_
              rintro e wp ⟨rfl, hwp⟩
              subst hwp
              go_wp2_with fail
              go_ret
              exact ⟨ret_bool HD.out.symm, HBB.out.trans ((below_of13 HJ.out).mono HBB.out.size)⟩
            | true =>
              have HN := hide (HGOOD.out (by rw [hp, HA2.out]; rfl))
              rw [hp] at HPQ
              clear hp hQ hb2 hjl
              go_wp2_with fail
              refine (HPQ.out _).mono ?_
              rintro e wp ⟨rfl, hwp⟩
              subst hwp
              go_wp2_with fail
              go_roundw
              case rel => exact ⟨j + 1, by omega, by go_num, HJ, HN⟩
              case measure => simp [intOf]; omega
      · have ho : onceB [] f.2.attrs = true := by
          rw [← HO.out, List.drop_eq_nil_of_le (by have := HQ.out; omega)]; rfl
        have hv2 := HV.out
        rw [ho] at hv2
        have HBW := hide (HBB.out.trans ((below_of13 HI.out).mono HBB.out.size))
        clear ho HO HV
        cases hp : plainB f.2.name with
        | false =>
          have HD : Hid (cleanB f was = false) := hide (by rw [hv2, hp]; rfl)
          rw [hp] at HPL
          clear hp hv2
          go_wp2_with fail
          refine (HPL.out _).mono ?_
          rintro e wp ⟨rfl, hwp⟩
          subst hwp
          go_wp2_with fail
          go_ret
          exact ⟨ret_bool HD.out.symm, HBW.out⟩
        | true =>
          rw [hp] at HPL hv2
          cases hr : rawL.contains f.2.name with
          | true =>
            have HD : Hid (cleanB f was = false) := hide (by rw [hv2, hr]; rfl)
            rw [hr] at HRW
            clear hp hv2 hr
            go_wp2_with fail
            refine (HPL.out _).mono ?_
            rintro e wp ⟨rfl, hwp⟩
            subst hwp
            go_wp2_with fail
            refine (HRW.out _).mono ?_
            rintro e wp ⟨rfl, hwp⟩
            subst hwp
            go_wp2_with fail
            go_ret
            exact ⟨ret_bool HD.out.symm, HBW.out⟩
          | false =>
            rw [hr] at HRW hv2
            by_cases n3 : f.2.text = []
            · obtain ⟨y1, y2⟩ := hYE n3
              rw [decide_eq_true n3] at hv2
              by_cases n4 : q ≤ 30
              · have HD : Hid (cleanB f was = true) := hide (by rw [hv2, decide_eq_true n4]; rfl)
                have t4 : decide ((q : Int) ≤ 30) = true := decide_eq_true (by omega)
                clear hp hv2 hr n3 n4
                go_wp2_with fail
                refine (HPL.out _).mono ?_
                rintro e wp ⟨rfl, hwp⟩
                subst hwp
                go_wp2_with fail
                refine (HRW.out _).mono ?_
                rintro e wp ⟨rfl, hwp⟩
                subst hwp
                go_wp2_with fail
                go_ret
                exact ⟨ret_bool HD.out.symm, HBW.out⟩
              · have HD : Hid (cleanB f was = false) := hide (by rw [hv2, decide_eq_false n4]; rfl)
                have t4 : decide ((q : Int) ≤ 30) = false := decide_eq_false (by omega)
                clear hp hv2 hr n3 n4
                go_wp2_with fail
                refine (HPL.out _).mono ?_
                rintro e wp ⟨rfl, hwp⟩
                subst hwp
                go_wp2_with fail
                refine (HRW.out _).mono ?_
                rintro e wp ⟨rfl, hwp⟩
                subst hwp
                go_wp2_with fail
                go_ret
                exact ⟨ret_bool HD.out.symm, HBW.out⟩
            · have y1 := yn n3
              have HD : Hid (cleanB f was = false) := hide (by rw [hv2, decide_eq_false n3]; rfl)
              clear hp hv2 hr n3
              go_wp2_with fail
              refine (HPL.out _).mono ?_
              rintro e wp ⟨rfl, hwp⟩
              subst hwp
              go_wp2_with fail
              refine (HRW.out _).mono ?_
              rintro e wp ⟨rfl, hwp⟩
              subst hwp
              go_wp2_with fail
              go_ret
              exact ⟨ret_bool HD.out.symm, HBW.out⟩
  have s2 : (K == 2) = false := beq_eq_false_iff_ne.2 k2
  have HD : Hid (cleanB f was = false) := hide (by
    unfold cleanB
    rw [if_neg (by rw [← hK]; exact k1), if_neg (by rw [← hK]; exact k3), if_neg (by rw [← hK]; exact k2)])
  clear bn bt ba k1 k3 k2 hK hX hY hq z1 z2 z3 z4 hF hA xe xn ye yn HPL HRW hXl hYl
  go_enter Tryz.func19, Tryz.ntmps19
  go_wp2_with fail
  go_ret
  exact ⟨ret_bool HD.out.symm, HBB.out⟩
end Go.Proofs.YtmojckphfbcibaaGreatDoor
