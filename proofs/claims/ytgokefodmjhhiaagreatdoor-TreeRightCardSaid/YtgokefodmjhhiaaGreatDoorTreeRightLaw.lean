/- WALK of the law TreeRight. No statement is proved here. Own work of the verifier. -/
import Derived.Test.YtgokefodmjhhiaaGreatDoorRef14L
import Derived.Test.YtgokefodmjhhiaaGreatDoorTreeA
namespace Go.Proofs.YtgokefodmjhhiaaGreatDoor
open Go.RowKit
set_option linter.unusedVariables false
set_option linter.unusedSimpArgs false
set_option maxRecDepth 100000
theorem right_at {d : Nat} {pt : Bool} {t : Tr} (h : rightB d pt t = true) {k : Nat} {f : NdH} {K : Tr} (hk : t.list[k]? = some (f, K)) :
    d ≠ 0 ∧ rightB (d - 1) false K = true ∧ (f.name = [] → f.text ≠ [] ∧ K = .nil ∧ f.attrs = [] ∧ (k = 0 → pt = false) ∧ ∀ g L j, k = j + 1 → t.list[j]? = some (g, L) → g.name ≠ []) ∧ (f.name ≠ [] → f.text = [] ∧ (K = .nil ∨ voidB f.name = false)) := by
  induction t generalizing k pt with
  | nil => cases hk
  | cons p K' r _ ih =>
    simp only [rightB, Bool.and_eq_true, decide_eq_true_eq] at h
    obtain ⟨h1, h2, h3, h4⟩ := h
    cases k with
    | zero =>
      simp only [Tr.list, List.getElem?_cons_zero, Option.some.injEq, Prod.mk.injEq] at hk
      obtain ⟨rfl, rfl⟩ := hk
      refine ⟨h1, h3, fun hn => ?_, fun hn => ?_⟩
      · rw [if_pos hn] at h2
        have h2 := of_decide_eq_true h2
        exact ⟨h2.1, h2.2.1, h2.2.2.1, fun _ => h2.2.2.2, fun g L j e => by omega⟩
      · rw [if_neg hn] at h2
        exact of_decide_eq_true h2
    | succ k =>
      have hk' : r.list[k]? = some (f, K) := by simpa [Tr.list] using hk
      obtain ⟨g1, g2, g3, g4⟩ := ih h4 hk'
      refine ⟨g1, g2, fun hn => ?_, g4⟩
      obtain ⟨u1, u2, u3, u4, u5⟩ := g3 hn
      refine ⟨u1, u2, u3, fun e => by omega, fun g L j e hj => ?_⟩
      obtain rfl : k = j := by omega
      cases k with
      | zero =>
        simp only [Tr.list, List.getElem?_cons_zero, Option.some.injEq, Prod.mk.injEq] at hj
        obtain ⟨rfl, rfl⟩ := hj
        have := u4 rfl
        exact of_decide_eq_false this
      | succ k => exact u5 g L k rfl (by simpa [Tr.list] using hj)
theorem bl_next {w w1 w2 : World} (h : Below w.heap.size w w1) (h2 : Below w1.heap.size w1 w2) : Below w.heap.size w w2 := h.trans (h2.mono h.size)
def RightP (N : Nat) : Prop := ∀ (v : Value) (t : Tr) (d : Nat) (w : World), t.count < N → N ≤ 1000000 → d ≤ 100 → NodesIn w v t → rightB d false t = true →
    Calls Tryz.prog 34 #[v, .int .i64 (d : Int)] w fun e w' => e = .returned (.bool true) ∧ Below w.heap.size w w'
set_option maxHeartbeats 16000000 in
theorem right_step (n : Nat) (IH : RightP n) : RightP (n + 1) := by
  intro v t d w hn hN hd h1 hi
  have hn1 : t.len ≤ 1000000 := Nat.le_trans (Tr.len_count t) (by omega)
  obtain ⟨A1, c1, rfl⟩ := NodesC.form h1
  have H1 := hide h1
  have HI := hide hi
  have HIH := hide IH
  clear h1 hi IH
  by_cases hl : t.len = 0
  · rw [hl]
    clear H1 HI HIH
    go_enter Tryz.func34, Tryz.ntmps34
    go_wp2_with fail
    go_loopw [5] (fun i wr => i = .int .i64 0 ∧ Hid (wr = w)) (fun i _ => 0)
    case atStart => exact ⟨rfl, hide rfl⟩
    case round =>
      obtain ⟨rfl, HW⟩ := hrel
      obtain rfl := HW.out
      go_wp2_with fail
      go_ret
      exact ⟨rfl, Below.refl _ _⟩
  obtain ⟨⟨f0, K0⟩, hf0⟩ : ∃ f, t.list[0]? = some f := ⟨_, List.getElem?_eq_getElem (by rw [Tr.len_list]; omega)⟩
  obtain ⟨d, rfl⟩ : ∃ e, d = e + 1 := ⟨d - 1, by have := (right_at HI.out hf0).1; omega⟩
  have t0 : ((d : Int) + 1 == 0) = false := by rw [beq_eq_false_iff_ne]; omega
  have t1 : decide ((0 : Int) < (t.len : Int)) = true := decide_eq_true (by omega)
  clear hf0
  go_enter Tryz.func34, Tryz.ntmps34
  go_wp2_with fail
  go_loopw [5] (fun i wr => ∃ k : Nat, k ≤ t.len ∧ i = .int .i64 k ∧ Hid (Below w.heap.size w wr)) (fun i _ => t.len - (intOf i).toNat)
  case atStart => exact ⟨0, Nat.zero_le _, rfl, hide (Below.refl _ _)⟩
  case round =>
    obtain ⟨k, hk, rfl, HB⟩ := hrel
    by_cases hlt : k < t.len
    · obtain ⟨⟨f, K⟩, hf⟩ : ∃ f, t.list[k]? = some f := ⟨_, List.getElem?_eq_getElem (by rw [Tr.len_list]; exact hlt)⟩
      have hI1 := H1.out.kept HB.out
      have hKc := Tr.at_count hf
      obtain ⟨-, hrk, hia, hib⟩ := right_at HI.out hf
      obtain ⟨a, dd, x, y, z, m, ha, -, p1, p2, hA, p3, p4, hm, hK⟩ := NodesC.at hI1 k f K hf
      obtain ⟨X1, hX1⟩ : ∃ X, X = str f.name := ⟨_, rfl⟩
      obtain ⟨X2, hX2⟩ : ∃ X, X = str f.text := ⟨_, rfl⟩
      subst ha hm
      rw [← hX1] at p1
      rw [← hX2] at p3
      have HCI := hide (HIH.out _ K d wr (by omega) (by omega) (by omega) hK hrk)
      have hle : K.len ≤ 1000000 := Nat.le_trans (Tr.len_count K) (by omega)
      by_cases hne : f.name = []
      · obtain ⟨u1, rfl, u3, -, u5⟩ := hia hne
        have hX0 : X1 = ⟨#[]⟩ := by rw [hX1, hne]; rfl
        have s2 : X2.toList.isEmpty = false := by
          rw [hX2, str_list]
          cases hx : f.text with
          | nil => exact absurd hx u1
          | cons _ _ => rfl
        have hal : f.attrs.length = 0 := by rw [u3]; rfl
        rw [hal] at p2
        have hkl : Tr.len .nil = 0 := rfl
        rw [hkl] at p4 HCI
        cases k with
        | zero =>
          rw [Nat.zero_mul, Addr.add_zero'] at p1 p2 p3 p4
          clear hia hib hK hA hI1 hf hX1 hX2 u1 u3 u5 hal hrk
          subst hX0
          go_wp2_with fail
          refine HCI.out.mono ?_
          rintro e w4 ⟨rfl, hb4⟩
          have HB4 := hide (bl_next HB.out hb4)
          clear hb4
          go_wp2_with fail
          go_roundw
          case rel => exact ⟨0 + 1, by omega, by go_num, HB4⟩
          case measure => simp [intOf]; omega
        | succ j =>
          obtain ⟨⟨g, L⟩, hg⟩ : ∃ f, t.list[j]? = some f := ⟨_, List.getElem?_eq_getElem (by rw [Tr.len_list]; omega)⟩
          have hgn := u5 g L j rfl hg
          obtain ⟨a', dd', x', y', z', m', ha', -, r1, -, -, -, -, -, -⟩ := NodesC.at hI1 j g L hg
          obtain rfl := Option.some.inj ha'
          obtain ⟨X3, hX3⟩ : ∃ X, X = str g.name := ⟨_, rfl⟩
          rw [← hX3] at r1
          have s3 : X3.toList.isEmpty = false := by
            rw [hX3, str_list]
            cases hx : g.name with
            | nil => exact absurd hx hgn
            | cons _ _ => rfl
          clear hia hib hK hA hI1 hf hX1 hX2 u1 u3 u5 hal hrk hg hgn hX3
          subst hX0
          go_wp2_with fail
          refine HCI.out.mono ?_
          rintro e w4 ⟨rfl, hb4⟩
          have HB4 := hide (bl_next HB.out hb4)
          clear hb4
          go_wp2_with fail
          go_roundw
          case rel => exact ⟨j + 1 + 1, by omega, by go_num, HB4⟩
          case measure => simp [intOf]; omega
      · obtain ⟨u1, u2⟩ := hib hne
        have s1 : X1.toList.isEmpty = false := by
          rw [hX1, str_list]
          cases hx : f.name with
          | nil => exact absurd hx hne
          | cons _ _ => rfl
        have hX0 : X2 = ⟨#[]⟩ := by rw [hX2, u1]; rfl
        have HVD : Hid (∀ w', Calls Tryz.prog 32 #[.string X1] w' fun e w'' => e = .returned (.bool (voidL.contains f.name)) ∧ w' = w'') := hide (fun w' => by
          have := void14_any X1 w'
          rw [hX1, str_toList, ← hX1] at this
          exact this)
        by_cases hkn : K.len = 0
        · rw [hkn] at p4 HCI
          clear hia hib hK hA hI1 hf hX1 hX2 u1 u2 hrk HVD
          subst hX0
          go_wp2_with fail
          refine HCI.out.mono ?_
          rintro e w4 ⟨rfl, hb4⟩
          have HB4 := hide (bl_next HB.out hb4)
          clear hb4
          go_wp2_with fail
          go_roundw
          case rel => exact ⟨k + 1, by omega, by go_num, HB4⟩
          case measure => simp [intOf]; omega
        · have hv : voidL.contains f.name = false := by
            rcases u2 with rfl | u2
            · exact absurd rfl hkn
            · exact u2
          rw [hv] at HVD
          have hkp : decide ((0 : Int) < (K.len : Int)) = true := decide_eq_true (by omega)
          clear hia hib hK hA hI1 hf hX1 hX2 u1 u2 hrk hv
          subst hX0
          go_wp2_with fail
          refine (HVD.out _).mono ?_
          rintro e w5 ⟨rfl, hw5⟩
          subst hw5
          go_wp2_with fail
          refine HCI.out.mono ?_
          rintro e w4 ⟨rfl, hb4⟩
          have HB4 := hide (bl_next HB.out hb4)
          clear hb4
          go_wp2_with fail
          go_roundw
          case rel => exact ⟨k + 1, by omega, by go_num, HB4⟩
          case measure => simp [intOf]; omega
    · go_wp2_with fail
      go_ret
      exact ⟨rfl, HB.out⟩
theorem right_all : ∀ n, RightP n
  | 0 => fun v t d w h => absurd h (Nat.not_lt_zero _)
  | n + 1 => right_step n (right_all n)
theorem right_any (v : Value) (t : Tr) (w : World) (hn : t.count ≤ 5000) (h1 : NodesIn w v t) (hr : rightB 31 false t = true) :
    Calls Tryz.prog 34 #[v, .int .i64 31] w fun e w' => e = .returned (.bool true) ∧ Below w.heap.size w w' :=
  right_all (t.count + 1) v t 31 w (Nat.lt_succ_self _) (by omega) (by omega) h1 hr
set_option maxHeartbeats 8000000 in
theorem law_TreeRight (s : ByteArray) (hss : s.size ≤ maxLen) (w : World) (hE : EnvX w) :
    Calls Tryz.prog 7 #[.string s] w fun e w' => e = .returned (.bool true) ∧ Below w.heap.size w w' := by
  have HE := hide hE
  clear hE
  unfold maxLen at hss
  rcases Nat.lt_or_ge 1200 s.size with hqs | hs
  · have t0 : decide ((1200 : Int) < s.size) = true := decide_eq_true (by omega)
    go_enter Tryz.func7, Tryz.ntmps7
    go_wp2_with fail
    refine (live14_any _ HE.out).mono ?_
    rintro e wl ⟨rfl, hbl⟩
    have HBL := hide (hbl)
    clear hbl
    go_wp2_with fail
    go_ret
    exact ⟨rfl, HBL.out⟩
  have t0 : decide ((1200 : Int) < s.size) = false := decide_eq_false (by omega)
  obtain ⟨m, hm⟩ := HE.out.2
  have HB1 := hide (treeBuild_any s m w (by omega) HE.out.1 hm)
  have HT : Hid ((buildP (scanL decE [] [] s.data.toList)).count ≤ 5000 ∧ (buildP (scanL decE [] [] s.data.toList)).count ≤ s.size ∧ rightB 31 false (buildP (scanL decE [] [] s.data.toList)) = true) := hide ⟨(build_count _).1, Nat.le_trans (build_count _).2 (scanE_w s).2, build_right _ (fun t ht hk => ((scanE_w s).1 t ht).2 hk)⟩
  obtain ⟨T, hT⟩ : ∃ T, T = buildP (scanL decE [] [] s.data.toList) := ⟨_, rfl⟩
  rw [← hT] at HT HB1
  clear hm hT
  go_enter Tryz.func7, Tryz.ntmps7
  go_wp2_with fail
  refine HB1.out.mono ?_
  rintro e w1 ⟨v1, rfl, hn1, hb1⟩
  obtain ⟨A1, c1, rfl⟩ := NodesC.form hn1
  have HK : Hid (∀ w', Below w1.heap.size w1 w' → Calls Tryz.prog 34 #[.slice A1 T.len c1, .int .i64 31] w' (fun e w'' => e = .returned (.bool true) ∧ Below w'.heap.size w' w'') ∧
      Calls Tryz.prog 26 #[.slice A1 T.len c1] w' (fun e w'' => e = .returned (.int .i64 (T.count : Int)) ∧ Below w'.heap.size w' w'') ∧
      Calls Tryz.prog 28 #[.slice A1 T.len c1] w' (fun e w'' => e = .returned (.int .i64 (T.depth : Int)) ∧ Below w'.heap.size w' w'') ∧ EnvX w' ∧ Below w.heap.size w w') := hide (fun w' hb =>
    ⟨right_any _ T w' HT.out.1 (hn1.kept hb) HT.out.2.2, count14_any _ T w' (hn1.kept hb) (by have := HT.out.1; omega), depth14_any _ T w' (hn1.kept hb) (by have := HT.out.1; omega), (HE.out.kept hb1).kept hb, bl_next hb1 hb⟩)
  obtain ⟨C, hC⟩ : ∃ C, C = T.count := ⟨_, rfl⟩
  obtain ⟨D, hD⟩ : ∃ D, D = T.depth := ⟨_, rfl⟩
  have q1 : decide ((C : Int) ≤ 5000) = true := decide_eq_true (by have := HT.out.1; omega)
  have q2 : decide ((C : Int) ≤ s.size) = true := decide_eq_true (by have := HT.out.2.1; omega)
  have q3 : decide ((D : Int) ≤ 31) = true := decide_eq_true (by have := right_depth HT.out.2.2; omega)
  have n1 : C ≤ 5000 := by have := HT.out.1; omega
  have n2 : C ≤ s.size := by have := HT.out.2.1; omega
  have n3 : D ≤ 31 := by have := right_depth HT.out.2.2; omega
  rw [← hC, ← hD] at HK
  have HBC := hide (Below.refl w1.heap.size w1)
  clear hn1 hb1 hC hD
  go_wp2_with (first
    | (go_at_call 34; refine (HK.out _ (by first | exact HBC.out | exact HBC.out.drew | exact HBC.out.drew.drew)).1.mono ?_; rintro e w2 ⟨rfl, hb2⟩; have HBC := hide (show Below w1.heap.size w1 w2 by first | exact bl_next HBC.out hb2 | exact bl_next HBC.out.drew hb2 | exact bl_next HBC.out.drew.drew hb2); clear hb2)
    | (go_at_call 26; refine (HK.out _ (by first | exact HBC.out | exact HBC.out.drew | exact HBC.out.drew.drew)).2.1.mono ?_; rintro e w2 ⟨rfl, hb2⟩; have HBC := hide (show Below w1.heap.size w1 w2 by first | exact bl_next HBC.out hb2 | exact bl_next HBC.out.drew hb2 | exact bl_next HBC.out.drew.drew hb2); clear hb2)
    | (go_at_call 28; refine (HK.out _ (by first | exact HBC.out | exact HBC.out.drew | exact HBC.out.drew.drew)).2.2.1.mono ?_; rintro e w2 ⟨rfl, hb2⟩; have HBC := hide (show Below w1.heap.size w1 w2 by first | exact bl_next HBC.out hb2 | exact bl_next HBC.out.drew hb2 | exact bl_next HBC.out.drew.drew hb2); clear hb2)
    | (go_at_call 22; refine (live14_any _ (HK.out _ (by first | exact HBC.out | exact HBC.out.drew | exact HBC.out.drew.drew)).2.2.2.1).mono ?_; rintro e w2 ⟨rfl, hb2⟩; have HBC := hide (show Below w1.heap.size w1 w2 by first | exact bl_next HBC.out hb2 | exact bl_next HBC.out.drew hb2 | exact bl_next HBC.out.drew.drew hb2); clear hb2))
  all_goals
    try go_wp2_with fail
    go_ret
    exact ⟨rfl, (HK.out _ (by first | exact HBC.out | exact HBC.out.drew)).2.2.2.2⟩
end Go.Proofs.YtgokefodmjhhiaaGreatDoor
