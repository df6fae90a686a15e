/- WALKS of the laws' SameAttrs, Same (layer 13). Written by wip/tools/ref13s.py. No statement is proved here. Own work of the verifier. -/
import Derived.Test.YtgokefodmjhhiaaGreatDoorBaseP
import Derived.BigQuiet
import Derived.Deep.QuietTactic
namespace Go.Proofs.YtgokefodmjhhiaaGreatDoor
open Go.RowKit
set_option linter.unusedVariables false
set_option linter.unusedSimpArgs false
set_option maxRecDepth 100000
theorem below_of13 {w w' : World} (h : ∃ m, w' = w.drewN m) : Below w.heap.size w w' := by
  obtain ⟨m, rfl⟩ := h
  exact ⟨rfl, rfl, rfl, Nat.le_refl _, fun _ _ => rfl⟩
theorem drew_on {w w' : World} (h : ∃ m, w' = w.drewN m) (n : Nat) : ∃ m, w'.drewN n = w.drewN m := by
  obtain ⟨m, rfl⟩ := h
  exact ⟨m + n, by rw [World.drewN_drewN]⟩
set_option maxHeartbeats 2000000 in
theorem sameAttrs_any (v1 v2 : Value) (l1 l2 : List AtL) (w : World) (h1 : AttrsIn w v1 l1) (h2 : AttrsIn w v2 l2) (hn : l1.length ≤ 1048576) :
    Calls Tryz.prog 43 #[v1, v2] w fun e w' => e = .returned (.bool (decide (l1 = l2))) ∧ ∃ m, w' = w.drewN m := by
  obtain ⟨A1, c1, rfl⟩ := h1.form
  obtain ⟨A2, c2, rfl⟩ := h2.form
  have H1 := hide h1
  have H2 := hide h2
  clear h1 h2
  by_cases hl : l1.length = l2.length
  · have t0 : ((l1.length : Int) == l2.length) = true := by rw [beq_iff_eq]; omega
    have t1 : ((l1.length : Int) != l2.length) = false := by rw [bne, t0]; rfl
    go_enter Tryz.func43, Tryz.ntmps43
    go_wp2_with fail
    go_loopw [5] (fun i wr => ∃ k : Nat, k ≤ l1.length ∧ i = .int .i64 k ∧ Hid (∃ m, wr = w.drewN m) ∧ Hid (l1.take k = l2.take k)) (fun i _ => l1.length - (intOf i).toNat)
    case atStart => exact ⟨0, Nat.zero_le _, rfl, hide ⟨0, rfl⟩, hide rfl⟩
    case round =>
      obtain ⟨k, hk, rfl, HB, HG⟩ := hrel
      by_cases hlt : k < l1.length
      · obtain ⟨f, hf⟩ : ∃ f, l1[k]? = some f := ⟨_, List.getElem?_eq_getElem hlt⟩
        obtain ⟨g, hg⟩ : ∃ g, l2[k]? = some g := ⟨_, List.getElem?_eq_getElem (by omega)⟩
        obtain ⟨a, ha, hc1, hc2⟩ := (H1.out.kept (below_of13 HB.out)).at k f hf
        obtain ⟨b, hb, hd1, hd2⟩ := (H2.out.kept (below_of13 HB.out)).at k g hg
        subst ha hb
        have hlt2 : k < l2.length := by omega
        obtain ⟨X1, hX1⟩ : ∃ X, X = str f.1 := ⟨_, rfl⟩
        obtain ⟨X2, hX2⟩ : ∃ X, X = str f.2 := ⟨_, rfl⟩
        obtain ⟨Y1, hY1⟩ : ∃ X, X = str g.1 := ⟨_, rfl⟩
        obtain ⟨Y2, hY2⟩ : ∃ X, X = str g.2 := ⟨_, rfl⟩
        rw [← hX1] at hc1
        rw [← hX2] at hc2
        rw [← hY1] at hd1
        rw [← hY2] at hd2
        by_cases he : f = g
        · have e1 : X1 = Y1 := by rw [hX1, hY1, he]
          have e2 : X2 = Y2 := by rw [hX2, hY2, he]
          subst e1 e2
          have HN : Hid (l1.take (k + 1) = l2.take (k + 1)) := hide (by rw [List.take_add_one, List.take_add_one, HG.out, hf, hg, he])
          clear he hf hg hX1 hX2 hY1 hY2
          go_wp2_with fail
          go_quiet (fail)
          go_wp2_with fail
          go_roundw
          case rel => exact ⟨k + 1, by omega, by go_num, hide (drew_on HB.out nq), HN⟩
          case measure => simp [intOf]; omega
        · have HD : Hid (decide (l1 = l2) = false) := hide (decide_eq_false (fun e => he (by rw [e, hg] at hf; exact (Option.some.inj hf).symm)))
          by_cases he1 : f.1 = g.1
          · have he2 : f.2 ≠ g.2 := fun e => he (Prod.ext he1 e)
            have e1 : X1 = Y1 := by rw [hX1, hY1, he1]
            have t2 : (X2.toList == Y2.toList) = false := by
              rw [hX2, hY2, bytes_list, bytes_list, str_toList, str_toList]; exact beq_eq_false_iff_ne.2 he2
            subst e1
            clear he he1 he2 hf hg hX1 hX2 hY1 hY2
            go_wp2_with fail
            go_quiet (fail)
            go_wp2_with fail
            go_ret
            exact ⟨ret_bool HD.out.symm, drew_on HB.out nq⟩
          · have t2 : (X1.toList == Y1.toList) = false := by
              rw [hX1, hY1, bytes_list, bytes_list, str_toList, str_toList]; exact beq_eq_false_iff_ne.2 he1
            clear he he1 hf hg hX1 hX2 hY1 hY2
            go_wp2_with fail
            go_quiet (fail)
            go_wp2_with fail
            go_ret
            exact ⟨ret_bool HD.out.symm, drew_on HB.out nq⟩
      · have HD : Hid (decide (l1 = l2) = true) := hide (by
          have := HG.out
          rw [List.take_of_length_le (by omega), List.take_of_length_le (by omega)] at this
          exact decide_eq_true this)
        go_wp2_with fail
        go_ret
        exact ⟨ret_bool HD.out.symm, HB.out⟩
  · have t0 : ((l1.length : Int) == l2.length) = false := by rw [beq_eq_false_iff_ne]; omega
    have t1 : ((l1.length : Int) != l2.length) = true := by rw [bne, t0]; rfl
    have HD : Hid (decide (l1 = l2) = false) := hide (decide_eq_false (fun e => hl (by rw [e])))
    clear hl
    go_enter Tryz.func43, Tryz.ntmps43
    go_wp2_with fail
    go_ret
    exact ⟨ret_bool HD.out.symm, 0, rfl⟩
/-- in w the []string value v reads as the strings l -/
def TextsIn (w : World) (v : Value) (l : List ByteArray) : Prop :=
  (v = .slice none 0 0 ∧ l = []) ∨ ∃ a cap, v = .slice (some a) l.length cap ∧ ∀ (j : Nat) x, l[j]? = some x → w.cell? (a.add j) = some (.string x)
set_option maxHeartbeats 8000000 in
theorem same13_any (v1 v2 : Value) (l1 l2 : List TokG) (w : World) (h1 : ToksIn w v1 l1) (h2 : ToksIn w v2 l2) (hn : l1.length ≤ 1048576) (ha : ∀ p ∈ l1, p.2.attrs.length ≤ 1048576) :
    Calls Tryz.prog 16 #[v1, v2] w fun e w' => e = .returned (.bool (decide (l1.map tokKey = l2.map tokKey))) ∧ ∃ m, w' = w.drewN m := by
  obtain ⟨A1, c1, rfl⟩ := h1.form
  obtain ⟨A2, c2, rfl⟩ := h2.form
  have H1 := hide h1
  have H2 := hide h2
  have HAL := hide ha
  clear h1 h2 ha
  by_cases hl : l1.length = l2.length
  · have t0 : ((l1.length : Int) == l2.length) = true := by rw [beq_iff_eq]; omega
    have t1 : ((l1.length : Int) != l2.length) = false := by rw [bne, t0]; rfl
    go_enter Tryz.func16, Tryz.ntmps16
    go_wp2_with fail
    go_loopw [5] (fun i wr => ∃ k : Nat, k ≤ l1.length ∧ i = .int .i64 k ∧ Hid (∃ m, wr = w.drewN m) ∧ Hid ((l1.map tokKey).take k = (l2.map tokKey).take k)) (fun i _ => l1.length - (intOf i).toNat)
    case atStart => exact ⟨0, Nat.zero_le _, rfl, hide ⟨0, rfl⟩, hide rfl⟩
    case round =>
      obtain ⟨k, hk, rfl, HB, HG⟩ := hrel
      by_cases hlt : k < l1.length
      · obtain ⟨f, hf⟩ : ∃ f, l1[k]? = some f := ⟨_, List.getElem?_eq_getElem hlt⟩
        obtain ⟨g, hg⟩ : ∃ g, l2[k]? = some g := ⟨_, List.getElem?_eq_getElem (by omega)⟩
        obtain ⟨a, d, y, ha, p1, p2, p3, p4, hA⟩ := (H1.out.kept (below_of13 HB.out)).at k f hf
        obtain ⟨b, d', y', hb, q1, q2, q3, q4, hA'⟩ := (H2.out.kept (below_of13 HB.out)).at k g hg
        subst ha hb
        have hlt2 : k < l2.length := by omega
        have HSA : Hid (∀ m, Calls Tryz.prog 43 #[.slice d f.2.attrs.length y, .slice d' g.2.attrs.length y'] (wr.drewN m) fun e w' => e = .returned (.bool (decide (f.2.attrs = g.2.attrs))) ∧ ∃ k, w' = (wr.drewN m).drewN k) :=
          hide fun m => sameAttrs_any _ _ _ _ _ (hA.kept ⟨rfl, rfl, rfl, Nat.le_refl _, fun _ _ => rfl⟩) (hA'.kept ⟨rfl, rfl, rfl, Nat.le_refl _, fun _ _ => rfl⟩) (HAL.out f (List.mem_of_getElem? hf))
        obtain ⟨X1, hX1⟩ : ∃ X, X = str f.2.name := ⟨_, rfl⟩
        obtain ⟨X2, hX2⟩ : ∃ X, X = str g.2.name := ⟨_, rfl⟩
        obtain ⟨Y1, hY1⟩ : ∃ X, X = str f.2.text := ⟨_, rfl⟩
        obtain ⟨Y2, hY2⟩ : ∃ X, X = str g.2.text := ⟨_, rfl⟩
        rw [← hX1] at p2
        rw [← hX2] at q2
        rw [← hY1] at p3
        rw [← hY2] at q3
        have hkf : (l1.map tokKey)[k]? = some (tokKey f) := by rw [List.getElem?_map, hf]; rfl
        have hkg : (l2.map tokKey)[k]? = some (tokKey g) := by rw [List.getElem?_map, hg]; rfl
        have HDF : Hid (tokKey f ≠ tokKey g → decide (l1.map tokKey = l2.map tokKey) = false) := hide fun hne => decide_eq_false fun e => hne (by rw [e, hkg] at hkf; exact (Option.some.inj hkf).symm)
        have HNX : Hid (tokKey f = tokKey g → (l1.map tokKey).take (k + 1) = (l2.map tokKey).take (k + 1)) := hide fun he => by rw [List.take_add_one, List.take_add_one, HG.out, hkf, hkg, he]
        have hxe : f.2.name ≠ g.2.name → (X1.toList == X2.toList) = false := fun h => by
          rw [hX1, hX2, bytes_list, bytes_list, str_toList, str_toList]; exact beq_eq_false_iff_ne.2 h
        have hye : f.2.text ≠ g.2.text → (Y1.toList == Y2.toList) = false := fun h => by
          rw [hY1, hY2, bytes_list, bytes_list, str_toList, str_toList]; exact beq_eq_false_iff_ne.2 h
        have hxs : f.2.name = g.2.name → X1 = X2 := fun h => by rw [hX1, hX2, h]
        have hys : f.2.text = g.2.text → Y1 = Y2 := fun h => by rw [hY1, hY2, h]
        obtain ⟨kf, hkf2⟩ : ∃ z : Int, z = f.1 := ⟨_, rfl⟩
        obtain ⟨kg, hkg2⟩ : ∃ z : Int, z = g.1 := ⟨_, rfl⟩
        rw [← hkf2] at p1
        rw [← hkg2] at q1
        have hne1 : kf ≠ kg → tokKey f ≠ tokKey g := fun h e => h (by rw [hkf2, hkg2]; exact congrArg (fun z => z.1) e)
        have hne2 : f.2.name ≠ g.2.name → tokKey f ≠ tokKey g := fun h e => h (congrArg (fun z => z.2.1) e)
        have hne3 : f.2.text ≠ g.2.text → tokKey f ≠ tokKey g := fun h e => h (congrArg (fun z => z.2.2.1) e)
        have hne4 : f.2.attrs ≠ g.2.attrs → tokKey f ≠ tokKey g := fun h e => h (congrArg (fun z => z.2.2.2) e)
        have heq : kf = kg → f.2.name = g.2.name → f.2.text = g.2.text → f.2.attrs = g.2.attrs → tokKey f = tokKey g := fun e1 e2 e3 e4 => by
          unfold tokKey
          rw [← hkf2, ← hkg2, e1, e2, e3, e4]
        clear hf hg hX1 hX2 hY1 hY2 hkf hkg hA hA' hkf2 hkg2
        by_cases e1 : kf = kg
        · have s1 : (kf == kg) = true := by rw [beq_iff_eq]; exact e1
          have s1' : (kf != kg) = false := by rw [bne, s1]; rfl
          by_cases e2 : f.2.name = g.2.name
          · have x2 := hxs e2
            subst x2
            by_cases e3 : f.2.text = g.2.text
            · have x3 := hys e3
              subst x3
              by_cases e4 : f.2.attrs = g.2.attrs
              · have HN : Hid ((l1.map tokKey).take (k + 1) = (l2.map tokKey).take (k + 1)) := hide (HNX.out (heq e1 e2 e3 e4))
                rw [decide_eq_true e4] at HSA
                clear hxe hye hxs hys hne1 hne2 hne3 hne4 heq e1 e2 e3 e4
                go_wp2_with fail
                go_quiet (first | (go_at_call 43; exact Calls.quiet_of (HSA.out _)) | fail)
                go_wp2_with fail
                go_roundw
                case rel => exact ⟨k + 1, by omega, by go_num, hide (drew_on HB.out nq), HN⟩
                case measure => simp [intOf]; omega
              · have HD : Hid (decide (l1.map tokKey = l2.map tokKey) = false) := hide (HDF.out (hne4 e4))
                rw [decide_eq_false e4] at HSA
                clear hxe hye hxs hys hne1 hne2 hne3 hne4 heq e1 e2 e3 e4
                go_wp2_with fail
                go_quiet (first | (go_at_call 43; exact Calls.quiet_of (HSA.out _)) | fail)
                go_wp2_with fail
                go_ret
                exact ⟨ret_bool HD.out.symm, drew_on HB.out nq⟩
            · have HD : Hid (decide (l1.map tokKey = l2.map tokKey) = false) := hide (HDF.out (hne3 e3))
              have t3 := hye e3
              clear hxe hye hxs hys hne1 hne2 hne3 hne4 heq e1 e2 e3
              go_wp2_with fail
              go_quiet (fail)
              go_wp2_with fail
              go_ret
              exact ⟨ret_bool HD.out.symm, drew_on HB.out nq⟩
          · have HD : Hid (decide (l1.map tokKey = l2.map tokKey) = false) := hide (HDF.out (hne2 e2))
            have t2 := hxe e2
            clear hxe hye hxs hys hne1 hne2 hne3 hne4 heq e1 e2
            go_wp2_with fail
            go_quiet (fail)
            go_wp2_with fail
            go_ret
            exact ⟨ret_bool HD.out.symm, drew_on HB.out nq⟩
        · have HD : Hid (decide (l1.map tokKey = l2.map tokKey) = false) := hide (HDF.out (hne1 e1))
          have s1 : (kf == kg) = false := beq_eq_false_iff_ne.2 e1
          have s1' : (kf != kg) = true := by rw [bne, s1]; rfl
          clear hxe hye hxs hys hne1 hne2 hne3 hne4 heq e1
          go_wp2_with fail
          go_quiet (fail)
          go_wp2_with fail
          go_ret
          exact ⟨ret_bool HD.out.symm, drew_on HB.out nq⟩
      · have HD : Hid (decide (l1.map tokKey = l2.map tokKey) = true) := hide (by
          have := HG.out
          rw [List.take_of_length_le (by rw [List.length_map]; omega), List.take_of_length_le (by rw [List.length_map]; omega)] at this
          exact decide_eq_true this)
        go_wp2_with fail
        go_ret
        exact ⟨ret_bool HD.out.symm, HB.out⟩
  · have t0 : ((l1.length : Int) == l2.length) = false := by rw [beq_eq_false_iff_ne]; omega
    have t1 : ((l1.length : Int) != l2.length) = true := by rw [bne, t0]; rfl
    have HD : Hid (decide (l1.map tokKey = l2.map tokKey) = false) := hide (decide_eq_false (fun e => hl (by have := congrArg List.length e; rwa [List.length_map, List.length_map] at this)))
    clear hl
    go_enter Tryz.func16, Tryz.ntmps16
    go_wp2_with fail
    go_ret
    exact ⟨ret_bool HD.out.symm, 0, rfl⟩
end Go.Proofs.YtgokefodmjhhiaaGreatDoor
