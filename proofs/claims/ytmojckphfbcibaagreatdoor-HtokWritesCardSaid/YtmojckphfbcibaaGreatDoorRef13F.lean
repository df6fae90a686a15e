/- WALK of the laws' Few (layer 13). No statement is proved here. Own work of the verifier. -/
import Derived.Test.YtmojckphfbcibaaGreatDoorHtokO
namespace Go.Proofs.YtmojckphfbcibaaGreatDoor
open Go.RowKit
set_option linter.unusedVariables false
set_option linter.unusedSimpArgs false
set_option maxRecDepth 100000
theorem all_step13 {α : Type} {p : α → Bool} {l : List α} {k : Nat} {f : α} (h : l[k]? = some f) : (l.drop k).all p = (p f && (l.drop (k + 1)).all p) := by
  obtain ⟨hlt, rfl⟩ := List.getElem?_eq_some_iff.1 h
  rw [List.drop_eq_getElem_cons hlt]; rfl
set_option maxHeartbeats 8000000 in
theorem few13_any (v : Value) (l : List TokG) (w : World) (h : ToksIn w v l) :
    Calls Tryz.prog 16 #[v] w fun e w' => e = .returned (.bool (fewG l)) ∧ w = w' := by
  obtain ⟨A, c, rfl⟩ := h.form
  have H := hide h
  clear h
  by_cases h60 : 60 < l.length
  · have t0 : decide ((60 : Int) < l.length) = true := decide_eq_true (by omega)
    have HD : Hid (fewG l = false) := hide (by unfold fewG; rw [decide_eq_false (by omega)]; rfl)
    go_enter Tryz.func16, Tryz.ntmps16
    go_wp2_with fail
    go_ret
    exact ⟨ret_bool HD.out.symm, rfl⟩
  have t0 : decide ((60 : Int) < l.length) = false := decide_eq_false (by omega)
  have HF : Hid (fewG l = l.all fun p => fitT p.2) := hide (by unfold fewG; rw [decide_eq_true (by omega)]; rfl)
  have hl60 : l.length ≤ 60 := by omega
  clear h60
  go_enter Tryz.func16, Tryz.ntmps16
  go_wp2_with fail
  go_loop [3] (fun i => ∃ k : Nat, k ≤ l.length ∧ i = .int .i64 k ∧ Hid (((l.drop k).all fun p => fitT p.2) = l.all fun p => fitT p.2)) (fun i => l.length - (intOf i).toNat)
  case atStart => exact ⟨0, Nat.zero_le _, rfl, hide rfl⟩
  case round =>
    obtain ⟨k, hk, rfl, HG⟩ := hrel
    by_cases hlt : k < l.length
    · obtain ⟨f, hf⟩ : ∃ f, l[k]? = some f := ⟨_, List.getElem?_eq_getElem hlt⟩
      obtain ⟨a, d, y, ha, c1, c2, c3, c4, hA⟩ := H.out.at k f hf
      subst ha
      have hstep := all_step13 (p := fun p : TokG => fitT p.2) hf
      rw [HG.out] at hstep
      have HS := hide hstep
      obtain ⟨X, hX⟩ : ∃ X, X = str f.2.name := ⟨_, rfl⟩
      obtain ⟨Y, hY⟩ : ∃ X, X = str f.2.text := ⟨_, rfl⟩
      have zX : X.size = f.2.name.length := by rw [hX, str_size]
      have zY : Y.size = f.2.text.length := by rw [hY, str_size]
      rw [← hX] at c2
      rw [← hY] at c3
      have HFT : ∀ b, fitT f.2 = b → Hid (b = false → fewG l = false) := fun b hb => hide fun e => by rw [HF.out, HS.out]; rw [hb, e]; rfl
      have hfit : fitT f.2 = (decide (f.2.name.length ≤ 300) && (decide (f.2.text.length ≤ 300) && (decide (f.2.attrs.length ≤ 40) && f.2.attrs.all fitA))) := rfl
      obtain ⟨n, hn⟩ : ∃ n, f.2.attrs.length = n := ⟨_, rfl⟩
      rw [hn] at c4 hA
      by_cases g1 : 300 < f.2.name.length
      · have t1 : decide ((300 : Int) < X.size) = true := decide_eq_true (by omega)
        have HD : Hid (fewG l = false) := hide ((HFT _ hfit).out (by rw [decide_eq_false (p := f.2.name.length ≤ 300) (by omega)]; rfl))
        clear hf hstep hX hY zX zY g1 HFT hfit hn hA
        go_wp2_with fail
        go_ret
        exact ⟨ret_bool HD.out.symm, rfl⟩
      have t1 : decide ((300 : Int) < X.size) = false := decide_eq_false (by omega)
      by_cases g2 : 300 < f.2.text.length
      · have t2 : decide ((300 : Int) < Y.size) = true := decide_eq_true (by omega)
        have HD : Hid (fewG l = false) := hide ((HFT _ hfit).out (by rw [decide_eq_false (p := f.2.text.length ≤ 300) (by omega)]; simp))
        clear hf hstep hX hY zX zY g1 g2 HFT hfit hn hA
        go_wp2_with fail
        go_ret
        exact ⟨ret_bool HD.out.symm, rfl⟩
      have t2 : decide ((300 : Int) < Y.size) = false := decide_eq_false (by omega)
      by_cases g3 : 40 < n
      · have t3 : decide ((40 : Int) < n) = true := decide_eq_true (by omega)
        have HD : Hid (fewG l = false) := hide ((HFT _ hfit).out (by rw [decide_eq_false (p := f.2.attrs.length ≤ 40) (by omega)]; simp))
        clear hf hstep hX hY zX zY g1 g2 g3 HFT hfit hn hA
        go_wp2_with fail
        go_ret
        exact ⟨ret_bool HD.out.symm, rfl⟩
      have t3 : decide ((40 : Int) < n) = false := decide_eq_false (by omega)
      have hfa : fitT f.2 = f.2.attrs.all fitA := by
        rw [hfit, decide_eq_true (p := f.2.name.length ≤ 300) (by omega), decide_eq_true (p := f.2.text.length ≤ 300) (by omega), decide_eq_true (p := f.2.attrs.length ≤ 40) (by omega)]; rfl
      have HBAD : Hid (f.2.attrs.all fitA = false → fewG l = false) := HFT _ hfa
      have HOK : Hid (f.2.attrs.all fitA = true → ((l.drop (k + 1)).all fun p => fitT p.2) = l.all fun p => fitT p.2) := hide fun e => by
        rw [HS.out, hfa, e]; rfl
      have HA := hide hA
      have HN := hide hn
      have hn40 : n ≤ 40 := by omega
      clear hf hstep hX hY zX zY g1 g2 g3 HFT hfit hfa hn hA
      go_wp2_with fail
      go_loop [4] (fun i => ∃ j : Nat, j ≤ n ∧ i = .int .i64 j ∧ Hid ((f.2.attrs.drop j).all fitA = f.2.attrs.all fitA)) (fun i => n - (intOf i).toNat)
      case atStart => exact ⟨0, Nat.zero_le _, rfl, hide rfl⟩
      case round =>
        obtain ⟨j, hj, rfl, HJ⟩ := hrel
        by_cases hjl : j < n
        · obtain ⟨q, hq⟩ : ∃ q, f.2.attrs[j]? = some q := ⟨_, List.getElem?_eq_getElem (by have := HN.out; omega)⟩
          obtain ⟨b, hb, d1, d2⟩ := HA.out.at j q hq
          subst hb
          have hst2 := all_step13 (p := fitA) hq
          rw [HJ.out] at hst2
          have HS2 := hide hst2
          obtain ⟨P, hP⟩ : ∃ X, X = str q.1 := ⟨_, rfl⟩
          obtain ⟨Q, hQ⟩ : ∃ X, X = str q.2 := ⟨_, rfl⟩
          have zP : P.size = q.1.length := by rw [hP, str_size]
          have zQ : Q.size = q.2.length := by rw [hQ, str_size]
          rw [← hP] at d1
          rw [← hQ] at d2
          by_cases g4 : 300 < q.1.length
          · have t4 : decide ((300 : Int) < P.size) = true := decide_eq_true (by omega)
            have HD : Hid (fewG l = false) := hide (HBAD.out (by rw [HS2.out]; unfold fitA; rw [decide_eq_false (p := q.1.length ≤ 300) (by omega)]; rfl))
            clear hq hst2 hP hQ zP zQ g4
            go_wp2_with fail
            go_ret
            exact ⟨ret_bool HD.out.symm, rfl⟩
          have t4 : decide ((300 : Int) < P.size) = false := decide_eq_false (by omega)
          by_cases g5 : 300 < q.2.length
          · have t5 : decide ((300 : Int) < Q.size) = true := decide_eq_true (by omega)
            have HD : Hid (fewG l = false) := hide (HBAD.out (by rw [HS2.out]; unfold fitA; rw [decide_eq_false (p := q.2.length ≤ 300) (by omega), Bool.and_false]; rfl))
            clear hq hst2 hP hQ zP zQ g4 g5
            go_wp2_with fail
            go_ret
            exact ⟨ret_bool HD.out.symm, rfl⟩
          have t5 : decide ((300 : Int) < Q.size) = false := decide_eq_false (by omega)
          have HNX : Hid ((f.2.attrs.drop (j + 1)).all fitA = f.2.attrs.all fitA) := hide (by rw [HS2.out]; unfold fitA; rw [decide_eq_true (p := q.1.length ≤ 300) (by omega), decide_eq_true (p := q.2.length ≤ 300) (by omega)]; rfl)
          clear hq hst2 hP hQ zP zQ g4 g5
          go_wp2_with fail
          go_round
          case rel => exact ⟨j + 1, by omega, by go_num, HNX⟩
          case measure => simp [intOf]; omega
        · have HNX := hide (HOK.out (by rw [← HJ.out, List.drop_eq_nil_of_le (by have := HN.out; omega)]; rfl))
          go_wp2_with fail
          go_round
          case rel => exact ⟨k + 1, by omega, by go_num, HNX⟩
          case measure => simp [intOf]; omega
    · have HD : Hid (fewG l = true) := hide (by rw [HF.out, ← HG.out, List.drop_eq_nil_of_le (by omega)]; rfl)
      go_wp2_with fail
      go_ret
      exact ⟨ret_bool HD.out.symm, rfl⟩
end Go.Proofs.YtmojckphfbcibaaGreatDoor
