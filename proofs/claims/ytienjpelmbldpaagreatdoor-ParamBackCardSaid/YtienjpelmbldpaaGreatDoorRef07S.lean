/- WALKS of the reference of layer 7: Same; of the laws' short and few. No statement is proved here. -/
import Derived.Test.YtienjpelmbldpaaGreatDoorParQ
namespace Go.Proofs.YtienjpelmbldpaaGreatDoor
open Go.RowKit
set_option linter.unusedVariables false
set_option linter.unusedSimpArgs false
set_option maxRecDepth 100000
theorem below_drewNQ (w : World) (n : Nat) : Below w.heap.size w (w.drewN n) := ⟨rfl, rfl, rfl, Nat.le_refl _, fun _ _ => rfl⟩
set_option maxHeartbeats 2000000 in
theorem same07_any (v1 v2 : Value) (l1 l2 : List ParL) (w : World) (h1 : ParsIn w v1 l1) (h2 : ParsIn w v2 l2) (hn : l1.length ≤ 1048576) :
    Calls Tryz.prog 14 #[v1, v2] w fun e w' => e = .returned (.bool (decide (l1 = l2))) ∧ Below w.heap.size w w' := by
  obtain ⟨A1, c1, rfl⟩ := h1.form
  obtain ⟨A2, c2, rfl⟩ := h2.form
  have H1 := hide h1
  have H2 := hide h2
  clear h1 h2
  by_cases hl : l1.length = l2.length
  · have t0 : ((l1.length : Int) == l2.length) = true := by rw [beq_iff_eq]; omega
    have t1 : ((l1.length : Int) != l2.length) = false := by rw [bne, t0]; rfl
    go_enter Tryz.func14, Tryz.ntmps14
    go_wp2_with fail
    go_loopw [5] (fun i wr => ∃ k : Nat, k ≤ l1.length ∧ i = .int .i64 k ∧ Hid (Below w.heap.size w wr) ∧ Hid (l1.take k = l2.take k)) (fun i _ => l1.length - (intOf i).toNat)
    case atStart => exact ⟨0, Nat.zero_le _, rfl, hide (Below.refl _ _), hide rfl⟩
    case round =>
      obtain ⟨k, hk, rfl, HB, HG⟩ := hrel
      by_cases hlt : k < l1.length
      · obtain ⟨f, hf⟩ : ∃ f, l1[k]? = some f := ⟨_, List.getElem?_eq_getElem hlt⟩
        obtain ⟨g, hg⟩ : ∃ g, l2[k]? = some g := ⟨_, List.getElem?_eq_getElem (by omega)⟩
        obtain ⟨a, ha, hc1, hc2⟩ := (H1.out.kept HB.out).at k f hf
        obtain ⟨b, hb, hd1, hd2⟩ := (H2.out.kept HB.out).at k g hg
        subst ha hb
        have hlt2 : k < l2.length := by omega
        obtain ⟨X1, hX1⟩ : ∃ X, X = str f.1 := ⟨_, rfl⟩
        obtain ⟨X2, hX2⟩ : ∃ X, X = str f.2 := ⟨_, rfl⟩
        obtain ⟨Y1, hY1⟩ : ∃ X, X = str g.1 := ⟨_, rfl⟩
        obtain ⟨Y2, hY2⟩ : ∃ X, X = str g.2 := ⟨_, rfl⟩
        rw [← hX1] at hc1
        rw [← hX2] at hc2
        rw [← hY1] at hd1
        rw [← hY2] at hd2
        by_cases he : f = g
        · have e1 : X1 = Y1 := by rw [hX1, hY1, he]
          have e2 : X2 = Y2 := by rw [hX2, hY2, he]
          subst e1 e2
          have HN : Hid (l1.take (k + 1) = l2.take (k + 1)) := hide (by rw [List.take_add_one, List.take_add_one, HG.out, hf, hg, he])
          clear he hf hg hX1 hX2 hY1 hY2
          go_wp2_with fail
          go_quiet (fail)
          go_wp2_with fail
          go_roundw
          case rel => exact ⟨k + 1, by omega, by go_num, hide (HB.out.trans ((below_drewNQ wr nq).mono HB.out.size)), HN⟩
          case measure => simp [intOf]; omega
        · have HD : Hid (decide (l1 = l2) = false) := hide (decide_eq_false (fun e => he (by rw [e, hg] at hf; exact (Option.some.inj hf).symm)))
          by_cases he1 : f.1 = g.1
          · have he2 : f.2 ≠ g.2 := fun e => he (Prod.ext he1 e)
            have e1 : X1 = Y1 := by rw [hX1, hY1, he1]
            have t2 : (X2.toList == Y2.toList) = false := by
              rw [hX2, hY2, bytes_list, bytes_list, str_toList, str_toList]; exact beq_eq_false_iff_ne.2 he2
            subst e1
            clear he he1 he2 hf hg hX1 hX2 hY1 hY2
            go_wp2_with fail
            go_quiet (fail)
            go_wp2_with fail
            go_ret
            exact ⟨ret_bool HD.out.symm, HB.out.trans ((below_drewNQ wr nq).mono HB.out.size)⟩
          · have t2 : (X1.toList == Y1.toList) = false := by
              rw [hX1, hY1, bytes_list, bytes_list, str_toList, str_toList]; exact beq_eq_false_iff_ne.2 he1
            clear he he1 hf hg hX1 hX2 hY1 hY2
            go_wp2_with fail
            go_quiet (fail)
            go_wp2_with fail
            go_ret
            exact ⟨ret_bool HD.out.symm, HB.out.trans ((below_drewNQ wr nq).mono HB.out.size)⟩
      · have HD : Hid (decide (l1 = l2) = true) := hide (by
          have := HG.out
          rw [List.take_of_length_le (by omega), List.take_of_length_le (by omega)] at this
          exact decide_eq_true this)
        go_wp2_with fail
        go_ret
        exact ⟨ret_bool HD.out.symm, HB.out⟩
  · have t0 : ((l1.length : Int) == l2.length) = false := by rw [beq_eq_false_iff_ne]; omega
    have t1 : ((l1.length : Int) != l2.length) = true := by rw [bne, t0]; rfl
    have HD : Hid (decide (l1 = l2) = false) := hide (decide_eq_false (fun e => hl (by rw [e])))
    clear hl
    go_enter Tryz.func14, Tryz.ntmps14
    go_wp2_with fail
    go_ret
    exact ⟨ret_bool HD.out.symm, Below.refl _ _⟩
/-- are there at most 30 parameters of 300 bytes? -/
def fitQ (f : ParL) : Bool := decide (f.1.length ≤ 300) && decide (f.2.length ≤ 300)
def fewQ (l : List ParL) : Bool := decide (l.length ≤ 30) && l.all fitQ
theorem fit_stepQ {l : List ParL} {k : Nat} {f} (h : l[k]? = some f) : (l.drop k).all fitQ = (fitQ f && (l.drop (k + 1)).all fitQ) := by
  obtain ⟨hlt, rfl⟩ := List.getElem?_eq_some_iff.1 h
  rw [List.drop_eq_getElem_cons hlt]; rfl
set_option maxHeartbeats 2000000 in
theorem few07_any (v : Value) (l : List ParL) (w : World) (h : ParsIn w v l) :
    Calls Tryz.prog 15 #[v] w fun e w' => e = .returned (.bool (fewQ l)) ∧ w = w' := by
  obtain ⟨A, c, rfl⟩ := h.form
  have H := hide h
  clear h
  by_cases h30 : 30 < l.length
  · have t0 : decide ((30 : Int) < l.length) = true := decide_eq_true (by omega)
    have HD : Hid (fewQ l = false) := hide (by unfold fewQ; rw [decide_eq_false (by omega)]; rfl)
    go_enter Tryz.func15, Tryz.ntmps15
    go_wp2_with fail
    go_ret
    exact ⟨ret_bool HD.out.symm, rfl⟩
  have t0 : decide ((30 : Int) < l.length) = false := decide_eq_false (by omega)
  have HF : Hid (fewQ l = l.all fitQ) := hide (by unfold fewQ; rw [decide_eq_true (by omega)]; rfl)
  have hl30 : l.length ≤ 30 := by omega
  clear h30
  go_enter Tryz.func15, Tryz.ntmps15
  go_wp2_with fail
  go_loop [3] (fun i => ∃ k : Nat, k ≤ l.length ∧ i = .int .i64 k ∧ Hid ((l.drop k).all fitQ = l.all fitQ)) (fun i => l.length - (intOf i).toNat)
  case atStart => exact ⟨0, Nat.zero_le _, rfl, hide rfl⟩
  case round =>
    obtain ⟨k, hk, rfl, HG⟩ := hrel
    by_cases hlt : k < l.length
    · obtain ⟨f, hf⟩ : ∃ f, l[k]? = some f := ⟨_, List.getElem?_eq_getElem hlt⟩
      obtain ⟨a, ha, hc1, hc2⟩ := H.out.at k f hf
      subst ha
      have hstep := fit_stepQ hf
      rw [HG.out] at hstep
      have HS := hide hstep
      obtain ⟨X, hX⟩ : ∃ X, X = str f.1 := ⟨_, rfl⟩
      obtain ⟨Y, hY⟩ : ∃ X, X = str f.2 := ⟨_, rfl⟩
      have zX : X.size = f.1.length := by rw [hX, str_size]
      have zY : Y.size = f.2.length := by rw [hY, str_size]
      rw [← hX] at hc1
      rw [← hY] at hc2
      by_cases g1 : 300 < f.1.length
      · have t1 : decide ((300 : Int) < X.size) = true := decide_eq_true (by omega)
        have HD : Hid (fewQ l = false) := hide (by rw [HF.out, HS.out]; unfold fitQ; rw [decide_eq_false (p := f.1.length ≤ 300) (by omega)]; rfl)
        clear hf hstep hX hY zX zY g1
        go_wp2_with fail
        go_ret
        exact ⟨ret_bool HD.out.symm, rfl⟩
      · have t1 : decide ((300 : Int) < X.size) = false := decide_eq_false (by omega)
        by_cases g2 : 300 < f.2.length
        · have t2 : decide ((300 : Int) < Y.size) = true := decide_eq_true (by omega)
          have HD : Hid (fewQ l = false) := hide (by rw [HF.out, HS.out]; unfold fitQ; rw [decide_eq_false (p := f.2.length ≤ 300) (by omega), Bool.and_false]; rfl)
          clear hf hstep hX hY zX zY g1 g2
          go_wp2_with fail
          go_ret
          exact ⟨ret_bool HD.out.symm, rfl⟩
        · have t2 : decide ((300 : Int) < Y.size) = false := decide_eq_false (by omega)
          have HN : Hid ((l.drop (k + 1)).all fitQ = l.all fitQ) := hide (by rw [HS.out]; unfold fitQ; rw [decide_eq_true (p := f.1.length ≤ 300) (by omega), decide_eq_true (p := f.2.length ≤ 300) (by omega)]; rfl)
          clear hf hstep hX hY zX zY g1 g2
          go_wp2_with fail
          go_round
          case rel => exact ⟨k + 1, by omega, by go_num, HN⟩
          case measure => simp [intOf]; omega
    · have HD : Hid (fewQ l = true) := hide (by rw [HF.out, ← HG.out, List.drop_eq_nil_of_le (by omega)]; rfl)
      go_wp2_with fail
      go_ret
      exact ⟨ret_bool HD.out.symm, rfl⟩
theorem few_fitsQ {l : List ParL} (h : fewQ l = true) : l.length ≤ 30 ∧ ∀ f ∈ l, f.1.length ≤ 300 ∧ f.2.length ≤ 300 := by
  unfold fewQ at h
  simp only [Bool.and_eq_true, decide_eq_true_eq, List.all_eq_true] at h
  refine ⟨h.1, fun f hf => ?_⟩
  have := h.2 f hf
  unfold fitQ at this
  simpa using this
theorem short07_any (s : ByteArray) (w : World) : Calls Tryz.prog 8 #[.string s] w fun e w' => e = .returned (.bool (decide (s.size ≤ 1500))) ∧ w = w' := by
  by_cases h : s.size ≤ 1500
  · have e : decide (s.size ≤ 1500) = true := decide_eq_true h
    rw [e]
    clear e
    go_enter Tryz.func8, Tryz.ntmps8
    go_wp2
    go_ret
    exact ⟨ret_bool (decide_eq_true (by omega)), rfl⟩
  · have e : decide (s.size ≤ 1500) = false := decide_eq_false h
    rw [e]
    clear e
    go_enter Tryz.func8, Tryz.ntmps8
    go_wp2
    go_ret
    exact ⟨ret_bool (decide_eq_false (by omega)), rfl⟩
end Go.Proofs.YtienjpelmbldpaaGreatDoor
