import Derived.Test.YtiejmkjpgjbodaaGreatDoorBaseR
import Derived.Test.YtiejmkjpgjbodaaGreatDoorPnSt
import Derived.Test.YtiejmkjpgjbodaaGreatDoorSerS
import Derived.Test.YtiejmkjpgjbodaaGreatDoorRef14D
namespace Go.Proofs.YtiejmkjpgjbodaaGreatDoor
open Go.RowKit
set_option linter.unusedVariables false
set_option linter.unusedSimpArgs false
set_option maxRecDepth 100000
theorem plain_wideH (s : List UInt8) (hs : s.length ≤ 3000) : (plainP s).all wideH = true := by
  refine plainP_allZ wideH s (by decide +kernel) (by decide +kernel) (fun t ht => ?_)
  show wfitT ⟨0, [], [], t⟩ = true
  unfold wfitT
  simp only [Bool.and_eq_true, decide_eq_true_eq]
  exact ⟨Nat.zero_le _, by show t.length ≤ 100000; omega, Nat.zero_le _, rfl⟩
theorem escQ_le6 (q : Bool) (t : List UInt8) : (escQ q t).length ≤ 6 * t.length := by have := esc_len q t; omega
def txtSum : Tr → Nat
  | .nil => 0
  | .cons h K R => h.text.length + txtSum K + txtSum R
theorem plain_write_len (T : Tr) (ha : T.all plainH = true) (hat : T.all (fun h => decide (h.attrs = [])) = true) (hr : T.all (fun h => !rawB h.name) = true) : (writeT T).length ≤ 6 * txtSum T + 40 * T.count := by
  induction T with
  | nil => exact Nat.le_refl _
  | cons h K R ihk ihr =>
    simp only [Tr.all, Bool.and_eq_true, decide_eq_true_eq, Bool.not_eq_true'] at ha hat hr
    have h1 := ihk ha.2.1 hat.2.1 hr.2.1
    have h2 := ihr ha.2.2 hat.2.2 hr.2.2
    have h3 := escQ_le6 false h.text
    have hn : h.name.length ≤ 10 := by
      rcases of_decide_eq_true ha.1 with e | e | e
      all_goals rw [e]; decide
    have e1 : (startW h).length ≤ 12 := by
      unfold startW
      rw [hat.1]
      simp only [List.length_cons, List.length_append, attrsW, List.flatMap_nil, List.length_nil]
      omega
    have e2 : (endW h).length ≤ 13 := by
      unfold endW
      simp only [List.length_cons, List.length_append, List.length_nil]
      omega
    simp only [writeT, txtSum, Tr.count, hr.1, List.length_append]
    split
    · omega
    · split
      · omega
      · rw [if_neg (by decide)]
        simp only [List.length_append]
        omega
theorem insP_txt (n : Nat) (s : List UInt8) (m : Option Nat) (T : Tr) : txtSum (insP n s m T) ≤ txtSum T + s.length := by
  induction n generalizing m T with
  | zero =>
    rw [insP_zero]
    have e : txtSum (if m = some 0 then Tr.cons brH .nil T else T) = txtSum T := by
      split
      · show 0 + 0 + txtSum T = _; omega
      · rfl
    unfold saysT
    split
    · omega
    · show s.length + 0 + txtSum _ ≤ _
      omega
  | succ n ih =>
    have key : txtSum (Tr.cons quH (insP n s none .nil) T) ≤ txtSum T + s.length := by
      have := ih none .nil
      show 0 + txtSum (insP n s none .nil) + txtSum T ≤ _
      simp only [txtSum] at this
      omega
    cases m with
    | none => rw [insP_none]; exact key
    | some m => cases m with
      | zero => rw [insP_off]; exact key
      | succ m => cases T with
        | nil => exact key
        | cons h K R =>
          rw [insP_in]
          have := ih (some m) K
          simp only [txtSum] at *
          omega
theorem treeP_txt (l : List LnL) : txtSum (treeP l) ≤ sumL l := by
  induction l with
  | nil => exact Nat.le_refl _
  | cons p r ih =>
    have := insP_txt p.1 p.2 (nextL r) (treeP r)
    unfold sumL at *
    rw [List.map_cons, List.sum_cons]
    show txtSum (insP p.1 p.2 (nextL r) (treeP r)) ≤ _
    omega
theorem plainP_txt (s : List UInt8) : txtSum (plainP s) ≤ s.length + 1 := by
  refine Nat.le_trans (treeP_txt _) (Nat.le_trans ?_ (cutL_sum s))
  unfold sumL linesP
  generalize cutL s = L
  induction L with
  | nil => exact Nat.le_refl _
  | cons x r ih =>
    have := lvP_sum 20 x
    simp only [List.map_cons, List.sum_cons] at ih ⊢
    show (lvP 20 x).1 + (lvP 20 x).2.length + 1 + _ ≤ _
    omega
theorem plain_write (s : List UInt8) (hs : s.length ≤ 3000) : (writeT (plainP s)).length ≤ 200000 := by
  have h1 := plain_write_len (plainP s) (plainP_allZ plainH s (by decide +kernel) (by decide +kernel) (fun _ _ => rfl)) (plainP_allZ _ s (by decide +kernel) (by decide +kernel) (fun _ _ => rfl)) (plainP_allZ (fun h => !rawB h.name) s (by decide +kernel) (by decide +kernel) (fun _ _ => by show (!rawB []) = true; decide +kernel))
  have h2 := plainP_txt s
  have h3 := plainP_count s
  omega
set_option maxHeartbeats 8000000 in
theorem law_PlainStable (s : ByteArray) (hss : s.size ≤ maxLen) (w : World) (hE : EnvX w) :
    Calls Tryz.prog 3 #[.string s] w fun e w' => e = .returned (.bool true) ∧ Below w.heap.size w w' := by
  have HLV : Hid (∀ w1 : World, Below w.heap.size w w1 → Calls Tryz.prog 7 #[] w1 fun e w' => e = .returned (.bool true) ∧ Below w.heap.size w w') := hide (fun w1 hb => (live20_any w1).mono fun e w' ⟨h1, h2⟩ => ⟨h1, bl_two hb h2⟩)
  have HE := hide hE
  clear hE hss
  rcases Nat.lt_or_ge 3000 s.size with hqs | hs
  · have t0 : decide ((3000 : Int) < s.size) = true := decide_eq_true (by omega)
    go_enter Tryz.func3, Tryz.ntmps3
    go_wp2_with fail
    refine (HLV.out w (Below.refl _ _)).mono ?_
    rintro e wl ⟨rfl, hb⟩
    have HBL := hide hb
    clear hb
    go_wp2_with fail
    go_ret
    exact ⟨rfl, HBL.out⟩
  have t0 : decide ((3000 : Int) < s.size) = false := decide_eq_false (by omega)
  have hsl : s.data.toList.length ≤ 3000 := by rw [toList_length]; exact hs
  obtain ⟨T, hT⟩ : ∃ T, T = plainP s.data.toList := ⟨_, rfl⟩
  have hcnt : T.count ≤ 3001 := by rw [hT]; have := plainP_count s.data.toList; omega
  have hdep : T.depth ≤ 21 := by rw [hT]; exact (plainP_size s.data.toList).2.2
  have HTR := hide (plainTree_any s w (by omega))
  rw [← hT] at HTR
  have HST : Hid (∀ u w', NodesIn w' u T → Below w.heap.size w w' → Calls Tryz.prog 9 #[u] w' fun e w'' => e = .returned (.bool true) ∧ Below w'.heap.size w' w'') := hide (fun u w' hu hb => by
    have := serStableW_any u T w' (HE.out.kept hb) hu (by rw [hT]; exact plain_wideH _ hsl) (by omega) (by rw [hT]; have := plain_write _ hsl; omega)
    rw [show stableB T = true from by unfold stableB; rw [hT, plain_stable _ (by omega)]; exact decide_eq_true rfl] at this
    exact this)
  have HDP : Hid (∀ u w', NodesIn w' u T → Below w.heap.size w w' → Calls Tryz.prog 10 #[u] w' fun e w'' => e = .returned (.int .i64 (T.depth : Int)) ∧ Below w.heap.size w w'') := hide (fun u w' hu hb =>
    (depthR_any u T w' hu (by omega)).mono fun e w2 ⟨h1, h2⟩ => ⟨h1, bl_two hb h2⟩)
  obtain ⟨q, hq⟩ : ∃ q, q = T.depth := ⟨_, rfl⟩
  rw [← hq] at HDP hdep
  have t1 : decide ((q : Int) ≤ 21) = true := decide_eq_true (by omega)
  clear hT hcnt hsl hq
  go_enter Tryz.func3, Tryz.ntmps3
  go_wp2_with fail
  refine HTR.out.mono ?_
  rintro e w1 ⟨u, rfl, hn, hb1⟩
  have HN : Hid (NodesIn w1 u T) := hide (hn.mono (fun _ _ => rfl) (fun b hb => hb.2))
  have HB1 := hide hb1
  clear hn hb1
  go_wp2_with fail
  refine (HST.out u w1 HN.out HB1.out).mono ?_
  rintro e w2 ⟨rfl, hb2⟩
  have HN2 := hide (HN.out.kept hb2)
  have HB2 := hide (bl_two HB1.out hb2)
  clear hb2
  go_wp2_with fail
  refine (HDP.out u w2 HN2.out HB2.out).mono ?_
  rintro e w3 ⟨rfl, hb3⟩
  have HB3 := hide hb3
  clear hb3
  go_wp2_with fail
  refine (HLV.out w3 HB3.out).mono ?_
  rintro e w4 ⟨rfl, hb4⟩
  have HB4 := hide hb4
  clear hb4
  go_wp2_with fail
  go_ret
  exact ⟨rfl, HB4.out⟩
end Go.Proofs.YtiejmkjpgjbodaaGreatDoor
