/- WALK of the law SerText. No statement is proved here. Own work of the verifier. -/
import Derived.Test.YtgokefodmjhhiaaGreatDoorBaseX
import Derived.Test.YtgokefodmjhhiaaGreatDoorBaseP
namespace Go.Proofs.YtgokefodmjhhiaaGreatDoor
open Go.RowKit
set_option linter.unusedVariables false
set_option linter.unusedSimpArgs false
set_option maxRecDepth 100000
theorem scan_text (x : List UInt8) (hx : x ≠ []) : scanL decE [] [] (escQ false x) = [charsT x] := by
  have hc : cleansB 0 [((1 : Int), (⟨1, [], [], x⟩ : TokL))] = true := by
    cases x with
    | nil => exact absurd rfl hx
    | cons c r => rfl
  have h := (scan_back hc).1
  have e : writeG [((1 : Int), (⟨1, [], [], x⟩ : TokL))] = escQ false x := by
    have e1 : writeG [((1 : Int), (⟨1, [], [], x⟩ : TokL))] = tokG (1, ⟨1, [], [], x⟩) := by simp [writeG]
    rw [e1]; exact tokG_chars rfl
  rw [e] at h
  rw [h]; rfl
theorem build_one (x : List UInt8) (hx : x ≠ []) : buildP [charsT x] = .cons (txH x) .nil .nil := by
  show Tr.of (endTextL ⟨[], [], [], x⟩).kids = _
  unfold endTextL
  rw [if_neg hx]
  rfl
def loneT (x : List UInt8) : Tr := .cons (txH x) .nil .nil
theorem write_one (x : List UInt8) : writeT (loneT x) = escQ false x := by
  show (if ([] : List UInt8) = [] then escQ false x else _) ++ [] = _
  rw [if_pos rfl, List.append_nil]
theorem text_one (x : List UInt8) : textT (loneT x) = x := by
  show (if ([] : List UInt8) = [] then x else _) ++ [] = _
  rw [if_pos rfl, List.append_nil]
theorem read_one (x : List UInt8) (hx : x ≠ []) : buildP (scanL decE [] [] (escQ false x)) = loneT x := by
  rw [scan_text x hx]; exact build_one x hx
theorem small_one (x : List UInt8) (hl : x.length ≤ 300) : (loneT x).all smallH = true ∧ (writeT (loneT x)).length ≤ 84500 := by
  have h : fitT ⟨0, [], [], x⟩ = true := by
    unfold fitT
    simp only [Bool.and_eq_true, decide_eq_true_eq]
    exact ⟨Nat.zero_le _, hl, Nat.zero_le _, rfl⟩
  refine ⟨?_, ?_⟩
  · show (smallH (txH x) && (true && true)) = true
    rw [show smallH (txH x) = true from h]; rfl
  · rw [write_one, ← tokG_chars (p := (1, ⟨0, [], [], x⟩)) rfl]
    exact tokG_len h
set_option maxHeartbeats 8000000 in
theorem law_SerText (s : ByteArray) (hss : s.size ≤ maxLen) (w : World) (hE : EnvX w) :
    Calls Tryz.prog 14 #[.string s] w fun e w' => e = .returned (.bool true) ∧ Below w.heap.size w w' := by
  have HE := hide hE
  clear hE
  unfold maxLen at hss
  rcases Nat.lt_or_ge 300 s.size with hqs | hs
  · have t0 : decide ((300 : Int) < s.size) = true := decide_eq_true (by omega)
    go_enter Tryz.func14, Tryz.ntmps14
    go_wp2_with fail
    refine (live15_any _ HE.out).mono ?_
    rintro e wl ⟨rfl, hbl⟩
    have HBL := hide (hbl)
    clear hbl
    go_wp2_with fail
    go_ret
    exact ⟨rfl, HBL.out⟩
  have t0 : decide ((300 : Int) < s.size) = false := decide_eq_false (by omega)
  cases hl : s.data.toList with
  | nil =>
    have q0 : s.toList.isEmpty = true := by rw [bytes_list, hl]; rfl
    have q1 : s.toList = [] := by rw [bytes_list, hl]
    clear hl
    go_enter Tryz.func14, Tryz.ntmps14
    go_wp2_with fail
    refine (live15_any _ HE.out).mono ?_
    rintro e wl ⟨rfl, hbl⟩
    have HBL := hide (hbl)
    clear hbl
    go_wp2_with fail
    go_ret
    exact ⟨rfl, HBL.out⟩
  | cons d0 r0 =>
  have q0 : s.toList.isEmpty = false := by rw [bytes_list, hl]; rfl
  have hne : s.data.toList ≠ [] := by rw [hl]; simp
  clear hl
  obtain ⟨x, hx⟩ : ∃ x, x = s.data.toList := ⟨_, rfl⟩
  have hstr : str x = s := by rw [hx]; exact str_of s
  have hxn : x.length ≤ 300 := by rw [hx, toList_length]; omega
  rw [← hx] at hne
  obtain ⟨W, hW⟩ : ∃ W, W = w.alloc (Obj.cells #[.string ⟨#[]⟩, .slice none 0 0, .string s, .slice none 0 0] 41) := ⟨_, rfl⟩
  have hbw : Below w.heap.size w W := by rw [hW]; exact below_one w _
  have b0 : W.heap[w.heap.size]? = some (Obj.cells #[.string ⟨#[]⟩, .slice none 0 0, .string s, .slice none 0 0] 41 (0, 0)) := by rw [hW]; exact heap_alloc_new w _
  have hn : NodesIn W (.slice (some ⟨w.heap.size, 0, none⟩) 1 1) (loneT x) := nodes_of (node_at b0 rfl rfl (by show some (Value.string s) = some (.string (str x)); rw [hstr]) rfl (no_attrs _) (no_nodes _) trivial) rfl (by decide)
  obtain ⟨hsm, hwl⟩ := small_one x hxn
  obtain ⟨S, hS⟩ : ∃ S, S = str (writeT (loneT x)) := ⟨_, rfl⟩
  have HK : Hid (∀ w', Below W.heap.size W w' → Calls Tryz.prog 38 #[.slice (some ⟨w.heap.size, 0, none⟩) 1 1] w' (fun e w'' => e = .returned (.bool true) ∧ Below w'.heap.size w' w'') ∧
      Calls Tryz.prog 40 #[.slice (some ⟨w.heap.size, 0, none⟩) 1 1] w' (fun e w'' => e = .returned (.string S) ∧ Below w'.heap.size w' w'') ∧
      Calls Tryz.prog 23 #[.string S] w' (fun e w'' => ∃ u, e = .returned u ∧ NodesIn w'' u (loneT x) ∧ Below w'.heap.size w' w'') ∧ EnvX w' ∧ Below w.heap.size w w') := hide (fun w' hb => by
    have hE' := (HE.out.kept hbw).kept hb
    have hn' := hn.kept hb
    refine ⟨?_, ?_, ?_, hE', bl_two hbw hb⟩
    · have := serStable_any _ (loneT x) w' hE' hn' hsm (by show 1 + 0 + 0 < 1000000; omega) (by omega)
      rw [show stableB (loneT x) = true from by unfold stableB; rw [write_one, read_one x hne]; exact decide_eq_true rfl] at this
      exact this
    · have := serWrite_any _ (loneT x) w' hE' hn' hsm (by show 1 + 0 + 0 ≤ 1000000; omega) (by omega)
      rw [← hS] at this; exact this
    · obtain ⟨m, hm⟩ := hE'.2
      have := treeBuild_any S m w' (by rw [hS, str_size]; omega) hE'.1 hm
      rw [show buildP (scanL decE [] [] S.data.toList) = loneT x from by rw [hS, str_toList, write_one]; exact read_one x hne] at this
      exact this)
  have HTX : Hid (∀ w' u, NodesIn w' u (loneT x) → Calls Tryz.prog 41 #[u] w' fun e w'' => e = .returned (.string s) ∧ Below w'.heap.size w' w'') := hide (fun w' u hu => by
    have := serText_any u (loneT x) w' hu (by show 1 + 0 + 0 ≤ 1000000; omega) (by rw [text_one]; omega)
    rw [text_one, hstr] at this
    exact this)
  have HB0 := hide (Below.refl W.heap.size W)
  have HW := hide hW
  clear hn hsm hwl hS b0 hbw hne hxn hstr hx hW
  go_enter Tryz.func14, Tryz.ntmps14
  go_wp2_with fail
  rw [← HW.out]
  refine (HK.out _ HB0.out).1.mono ?_
  rintro e w1 ⟨rfl, hb1⟩
  have HB1 := hide (bl_two HB0.out hb1)
  clear hb1
  go_wp2_with fail
  refine (HK.out _ HB1.out).2.1.mono ?_
  rintro e w2 ⟨rfl, hb2⟩
  have HB2 := hide (bl_two HB1.out hb2)
  clear hb2
  go_wp2_with fail
  refine (HK.out _ HB2.out).2.2.1.mono ?_
  rintro e w3 ⟨u, rfl, hu, hb3⟩
  have HB3 := hide (bl_two HB2.out hb3)
  have HT := hide (HTX.out w3 u hu)
  obtain ⟨A3, c3, hv⟩ := NodesC.form hu
  replace hv : u = .slice A3 1 c3 := hv
  subst hv
  clear hb3 hu
  go_wp2_with fail
  refine HT.out.mono ?_
  rintro e w4 ⟨rfl, hb4⟩
  have HB4 := hide (bl_two HB3.out hb4)
  clear hb4
  go_wp2_with fail
  refine (live15_any _ (HK.out _ HB4.out).2.2.2.1).mono ?_
  rintro e w5 ⟨rfl, hb5⟩
  have HB5 := hide (bl_two (HK.out _ HB4.out).2.2.2.2 hb5)
  clear hb5
  go_wp2_with fail
  go_ret
  exact ⟨rfl, HB5.out⟩
end Go.Proofs.YtgokefodmjhhiaaGreatDoor
