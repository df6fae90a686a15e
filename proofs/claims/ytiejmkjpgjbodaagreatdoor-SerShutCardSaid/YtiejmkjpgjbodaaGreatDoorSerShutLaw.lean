import Derived.Test.YtiejmkjpgjbodaaGreatDoorRef15L
import Derived.Test.YtiejmkjpgjbodaaGreatDoorRef14K
import Derived.Test.YtiejmkjpgjbodaaGreatDoorSerP
import Derived.Test.YtiejmkjpgjbodaaGreatDoorSerX
import Derived.Test.YtiejmkjpgjbodaaGreatDoorRef14D
namespace Go.Proofs.YtiejmkjpgjbodaaGreatDoor
open Go.RowKit
set_option linter.unusedVariables false
set_option linter.unusedSimpArgs false
set_option maxRecDepth 100000
theorem nodesAt_front {C : Nat → Prop} {w : World} (U : Tr) : ∀ {T : Tr} {a : Addr}, NodesAt C w (T.app U) a → NodesAt C w T a := by
  intro T
  induction T with
  | nil => exact fun _ => trivial
  | cons h K R _ ih => exact fun hh => ⟨hh.1, hh.2.1, hh.2.2.1, hh.2.2.2.1, hh.2.2.2.2.1, ih hh.2.2.2.2.2⟩
def xT : Tr := .cons ⟨[], [], [120]⟩ .nil .nil
theorem app_x_at (T : Tr) : (T.app xT).list[T.len]? = some (⟨[], [], [120]⟩, .nil) := by
  rw [Tr.list_app, List.getElem?_append_right (by rw [Tr.len_list]; exact Nat.le_refl _), Tr.len_list, Nat.sub_self]; rfl
set_option maxHeartbeats 8000000 in
theorem law_SerShut (v : Value) (T : Tr) {w : World} (hT : NodesIn w v T) (hE : EnvX w) :
    Calls Tryz.prog 6 #[v] w fun e w' => e = .returned (.bool true) ∧ Below w.heap.size w w' := by
  obtain ⟨A, c, rfl⟩ := NodesC.form hT
  have hm := (NodesC.cap hT)
  have HSM := hide (small14_any _ T w hT (Nat.le_trans hm.2.1 hm.2.2))
  have HE := hide hE
  have HT := hide hT
  clear hE hm hT
  obtain ⟨S, hS⟩ : ∃ S, S = str (writeT T) := ⟨_, rfl⟩
  have HK : Hid (∀ w', Below w.heap.size w w' → T.count ≤ 60 → T.all smallH = true → Calls Tryz.prog 9 #[.slice A T.len c] w' (fun e w'' => e = .returned (.bool (stableB T)) ∧ Below w'.heap.size w' w'') ∧
      Calls Tryz.prog 10 #[.slice A T.len c] w' (fun e w'' => e = .returned (.int .i64 (T.depth : Int)) ∧ Below w'.heap.size w' w'') ∧
      Calls Tryz.prog 21 #[.slice A T.len c] w' (fun e w'' => e = .returned (.string S) ∧ Below w'.heap.size w' w'') ∧ S.size ≤ 6000000) := hide (fun w' hb hc ha => by
    have hE' := HE.out.kept hb
    have hT' := HT.out.kept hb
    have hw := small_write hc ha
    refine ⟨serStable_any _ T w' hE' hT' ha (by omega) (by omega), depthR_any _ T w' hT' (by omega), ?_, by rw [hS, str_size]; omega⟩
    have := serWrite_any _ T w' hE' hT' ha (by omega) (by omega)
    rw [← hS] at this; exact this)
  have HBD : Hid (∀ w', Below w.heap.size w w' → T.count ≤ 60 → T.all smallH = true → stableB T = true → T.depth ≤ 29 → lastT false T.list = false → Calls Tryz.prog 12 #[.string (S ++ ⟨#[120]⟩)] w' (fun e w'' => ∃ u, e = .returned u ∧ NodesIn w'' u (T.app xT) ∧ Below w'.heap.size w' w'')) := hide (fun w' hb hc ha hst hd hl => by
    have hE' := HE.out.kept hb
    have hw := small_write hc ha
    obtain ⟨m, hm⟩ := hE'.2
    have := treeBuild_any (S ++ ⟨#[120]⟩) m w' (by rw [ByteArray.size_append, hS, str_size]; show _ + 1 ≤ _; omega) hE'.1 hm
    rw [show buildP (scanL decE [] [] (S ++ ⟨#[120]⟩).data.toList) = T.app xT from by
      rw [toA_append, hS, str_toList]
      exact stable_x (of_decide_eq_true hst) (by omega) hd hl] at this
    exact this)
  have HS2 : Hid (∀ w' A2 c2, NodesIn w' (.slice A2 T.len c2) T → Below w.heap.size w w' → T.count ≤ 60 → T.all smallH = true → Calls Tryz.prog 14 #[.slice A2 T.len c2, .slice A T.len c] w' (fun e w'' => e = .returned (.bool true) ∧ Below w'.heap.size w' w'')) := hide (fun w' A2 c2 hu hb hc ha => by
    refine (same14_any _ _ T T w' (by omega) hu (HT.out.kept hb) (small_few ha)).mono ?_
    rintro e w2 ⟨rfl, m, rfl⟩
    exact ⟨by rw [decide_eq_true rfl], below_of13 ⟨m, rfl⟩⟩)
  clear hS
  obtain ⟨n, hn⟩ : ∃ n, n = T.len := ⟨_, rfl⟩
  have HN := hide hn
  have HLC := hide (Tr.len_count T)
  rw [← hn] at HSM HK HS2 ⊢
  clear hn
  go_enter Tryz.func6, Tryz.ntmps6
  go_wp2_with fail
  refine HSM.out.mono ?_
  rintro e w1 ⟨b, rfl, hs, hb1⟩
  have HB1 := hide hb1
  clear hb1
  have HLV : Hid (∀ w', Below w.heap.size w w' → Calls Tryz.prog 19 #[] w' fun e w'' => e = .returned (.bool true) ∧ Below w.heap.size w w'') := hide (fun w' hb => (live15_any w' (HE.out.kept hb)).mono fun e w2 ⟨h1, h2⟩ => ⟨h1, bl_two hb h2⟩)
  cases b with
  | false =>
    clear hs
    go_wp2_with fail
    refine (HLV.out _ HB1.out).mono ?_
    rintro e wl ⟨rfl, hbl⟩
    have HBL := hide hbl
    clear hbl
    go_wp2_with fail
    go_ret
    exact ⟨rfl, HBL.out⟩
  | true =>
  obtain ⟨hc, ha⟩ := hs rfl
  have HC := hide hc
  have HA := hide ha
  have hn60 : n ≤ 60 := by have := HN.out; have := HLC.out; omega
  clear hc ha hs
  go_wp2_with fail
  refine (HK.out _ HB1.out HC.out HA.out).1.mono ?_
  rintro e w2 ⟨rfl, hb2⟩
  have HB2 := hide (bl_two HB1.out hb2)
  clear hb2
  cases st : stableB T with
  | false =>
    clear st
    go_wp2_with fail
    refine (HLV.out _ HB2.out).mono ?_
    rintro e wl ⟨rfl, hbl⟩
    have HBL := hide hbl
    clear hbl
    go_wp2_with fail
    go_ret
    exact ⟨rfl, HBL.out⟩
  | true =>
  have HST := hide st
  clear st
  -- what is asked behind the last node
  have HREST : Hid (lastT false T.list = false → T.depth ≤ 29 → True) := hide (fun _ _ => trivial)
  clear HREST
  by_cases hn0 : n = 0
  · have hl0 : lastT false T.list = false := by
      have : T.list = [] := List.eq_nil_of_length_eq_zero (by rw [Tr.len_list, ← HN.out]; exact hn0)
      rw [this]; rfl
    have HL := hide hl0
    clear hl0
    subst hn0
    go_wp2_with fail
    refine (HK.out _ HB2.out HC.out HA.out).2.1.mono ?_
    rintro e w3 ⟨rfl, hb3⟩
    have HB3 := hide (bl_two HB2.out hb3)
    clear hb3
    obtain ⟨d, hd⟩ : ∃ d, d = T.depth := ⟨_, rfl⟩
    rw [← hd]
    by_cases h29 : 29 < d
    · have t1 : decide ((29 : Int) < (d : Int)) = true := decide_eq_true (by omega)
      go_wp2_with fail
      refine (HLV.out _ HB3.out).mono ?_
      rintro e wl ⟨rfl, hbl⟩
      have HBL := hide hbl
      clear hbl
      go_wp2_with fail
      go_ret
      exact ⟨rfl, HBL.out⟩
    · have t1 : decide ((29 : Int) < (d : Int)) = false := decide_eq_false (by omega)
      have HD : Hid (T.depth ≤ 29) := hide (by omega)
      have HSZ := hide (HK.out _ HB3.out HC.out HA.out).2.2.2
      have q1 : ¬ (9223372036854775807 < S.size + 1) := by have := HSZ.out; omega
      clear hd
      go_wp2_with fail
      refine (HK.out _ HB3.out HC.out HA.out).2.2.1.mono ?_
      rintro e w4 ⟨rfl, hb4⟩
      have HB4 := hide (bl_two HB3.out hb4)
      clear hb4
      go_wp2_with fail
      refine (HBD.out _ HB4.out HC.out HA.out HST.out HD.out HL.out).mono ?_
      rintro e w5 ⟨u, rfl, hu, hb5⟩
      have HB5 := hide (bl_two HB4.out hb5)
      obtain ⟨A5, c5, rfl⟩ := NodesC.form hu
      have hlen : (T.app xT).len = 0 + 1 := by rw [app_len, ← HN.out]; rfl
      rw [hlen] at hu ⊢
      obtain ⟨a5, d5, x5, y5, z5, m5, ha5, -, -, -, -, p5, -, -, -⟩ := NodesC.at hu 0 ⟨[], [], [120]⟩ .nil (by rw [HN.out]; exact app_x_at T)
      subst ha5
      have hcap := NodesC.cap hu
      have hn6 : 0 ≤ c5 := by omega
      have HU : Hid (NodesIn w5 (.slice (some a5) 0 c5) T) := hide (by
        rcases hu with ⟨h0, _⟩ | ⟨a', cap, h1, h2, h3, h4⟩
        · cases h0
        · injection h1 with h1 _ h5
          injection h1 with h1
          subst h1 h5
          have := NodesC.ofAt (nodesAt_front xT h4) (by rw [← HN.out]; exact hn6) h3
          rwa [← HN.out] at this)
      have hs5 : str [120] = (⟨#[120]⟩ : ByteArray) := by decide
      rw [hs5] at p5
      rw [Nat.zero_mul, Addr.add_zero'] at p5
      have HCP := hide hcap
      clear hu hb5 hlen hcap hs5
      go_wp2_with fail
      refine (HS2.out _ _ _ HU.out HB5.out HC.out HA.out).mono ?_
      rintro e w6 ⟨rfl, hb6⟩
      have HB6 := hide (bl_two HB5.out hb6)
      clear hb6
      go_wp2_with fail
      refine (HLV.out _ HB6.out).mono ?_
      rintro e wl ⟨rfl, hbl⟩
      have HBL := hide hbl
      clear hbl
      go_wp2_with fail
      go_ret
      exact ⟨rfl, HBL.out⟩
  · obtain ⟨⟨f, K⟩, hf⟩ : ∃ f, T.list[n - 1]? = some f := ⟨_, List.getElem?_eq_getElem (by rw [Tr.len_list, ← HN.out]; omega)⟩
    have hlast : lastT false T.list = decide (f.name = []) := by
      have e : T.list = T.list.take (n - 1) ++ [(f, K)] := by
        have h1 := List.take_append_drop (n - 1) T.list
        have hlt : n - 1 < T.list.length := by rw [Tr.len_list, ← HN.out]; omega
        rw [List.drop_eq_getElem_cons hlt, List.drop_eq_nil_of_le (by rw [Tr.len_list, ← HN.out]; omega)] at h1
        rw [List.getElem?_eq_getElem hlt] at hf
        injection hf with hf
        rw [hf] at h1
        exact h1.symm
      rw [e]; exact lastT_snoc _ _ _
    have hT2 := HT.out.kept HB2.out
    rw [← HN.out] at hT2
    obtain ⟨a, dd, x, y, zz, mm, ha, -, p1, p2, hA, p3, p4, hmm, hK⟩ := NodesC.at hT2 (n - 1) f K hf
    subst ha
    have e1 : ((n : Int) - 1).toNat = n - 1 := by omega
    have e2 : wrap64 ((n : Int) - 1) = (n : Int) - 1 := by unfold wrap64; omega
    have e3 : (0 : Int) ≤ (n : Int) - 1 := by clear e2; omega
    have e4 : (n : Int) - 1 < (n : Int) := by clear e2; omega
    have HNP : 0 < n := by omega
    clear p2 p3 p4 hA hK hf hT2
    by_cases hnm : f.name = []
    · have q0 : (str f.name).toList.isEmpty = true := by rw [str_list, hnm]; rfl
      obtain ⟨X, hX⟩ : ∃ X, X = str f.name := ⟨_, rfl⟩
      rw [← hX] at q0 p1
      clear hX hnm hlast
      go_wp2_with fail
      refine (HLV.out _ HB2.out).mono ?_
      rintro e wl ⟨rfl, hbl⟩
      have HBL := hide hbl
      clear hbl
      go_wp2_with fail
      go_ret
      exact ⟨rfl, HBL.out⟩
    · have q0 : (str f.name).toList.isEmpty = false := by rw [str_list]; cases hq : f.name with | nil => exact absurd hq hnm | cons _ _ => rfl
      obtain ⟨X, hX⟩ : ∃ X, X = str f.name := ⟨_, rfl⟩
      rw [← hX] at q0 p1
      clear hX
      have HL : Hid (lastT false T.list = false) := hide (by rw [hlast]; exact decide_eq_false hnm)
      clear hlast hnm
      go_wp2_with fail
      refine (HK.out _ HB2.out HC.out HA.out).2.1.mono ?_
      rintro e w3 ⟨rfl, hb3⟩
      have HB3 := hide (bl_two HB2.out hb3)
      clear hb3
      obtain ⟨d, hd⟩ : ∃ d, d = T.depth := ⟨_, rfl⟩
      rw [← hd]
      by_cases h29 : 29 < d
      · have t1 : decide ((29 : Int) < (d : Int)) = true := decide_eq_true (by omega)
        go_wp2_with fail
        refine (HLV.out _ HB3.out).mono ?_
        rintro e wl ⟨rfl, hbl⟩
        have HBL := hide hbl
        clear hbl
        go_wp2_with fail
        go_ret
        exact ⟨rfl, HBL.out⟩
      · have t1 : decide ((29 : Int) < (d : Int)) = false := decide_eq_false (by omega)
        have HD : Hid (T.depth ≤ 29) := hide (by omega)
        have HSZ := hide (HK.out _ HB3.out HC.out HA.out).2.2.2
        have q1 : ¬ (9223372036854775807 < S.size + 1) := by have := HSZ.out; omega
        clear hd
        go_wp2_with fail
        refine (HK.out _ HB3.out HC.out HA.out).2.2.1.mono ?_
        rintro e w4 ⟨rfl, hb4⟩
        have HB4 := hide (bl_two HB3.out hb4)
        clear hb4
        go_wp2_with fail
        refine (HBD.out _ HB4.out HC.out HA.out HST.out HD.out HL.out).mono ?_
        rintro e w5 ⟨u, rfl, hu, hb5⟩
        have HB5 := hide (bl_two HB4.out hb5)
        obtain ⟨A5, c5, rfl⟩ := NodesC.form hu
        have hlen : (T.app xT).len = n + 1 := by rw [app_len, ← HN.out]; rfl
        rw [hlen] at hu ⊢
        obtain ⟨a5, d5, x5, y5, z5, m5, ha5, -, -, -, -, p5, -, -, -⟩ := NodesC.at hu n ⟨[], [], [120]⟩ .nil (by rw [HN.out]; exact app_x_at T)
        subst ha5
        have hcap := NodesC.cap hu
        have hn6 : n ≤ c5 := by omega
        have HU : Hid (NodesIn w5 (.slice (some a5) n c5) T) := hide (by
          rcases hu with ⟨h0, _⟩ | ⟨a', cap, h1, h2, h3, h4⟩
          · cases h0
          · injection h1 with h1 _ h5
            injection h1 with h1
            subst h1 h5
            have := NodesC.ofAt (nodesAt_front xT h4) (by rw [← HN.out]; exact hn6) h3
            rwa [← HN.out] at this)
        have hs5 : str [120] = (⟨#[120]⟩ : ByteArray) := by decide
        rw [hs5] at p5
        have HCP := hide hcap
        clear hu hb5 hlen hcap hs5
        go_wp2_with fail
        refine (HS2.out _ _ _ HU.out HB5.out HC.out HA.out).mono ?_
        rintro e w6 ⟨rfl, hb6⟩
        have HB6 := hide (bl_two HB5.out hb6)
        clear hb6
        go_wp2_with fail
        refine (HLV.out _ HB6.out).mono ?_
        rintro e wl ⟨rfl, hbl⟩
        have HBL := hide hbl
        clear hbl
        go_wp2_with fail
        go_ret
        exact ⟨rfl, HBL.out⟩
end Go.Proofs.YtiejmkjpgjbodaaGreatDoor
