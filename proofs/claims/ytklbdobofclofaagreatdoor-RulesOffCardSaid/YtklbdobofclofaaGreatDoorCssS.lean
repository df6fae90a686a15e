/- WALKS of ascii.AllPlain, css.isKnown, css.Safe. No statement is proved here. Own work of the verifier. -/
import Derived.Test.YtklbdobofclofaaGreatDoorBaseN
import Derived.Deep.MidRow
namespace Go.Proofs.YtklbdobofclofaaGreatDoor
open Go.RowKit
set_option linter.unusedVariables false
set_option linter.unusedSimpArgs false
set_option maxRecDepth 100000

def allMark (m l : List UInt8) : Bool := l.all (markB m)
def knownB (n : List UInt8) : Bool := cssNames.contains n
set_option maxHeartbeats 1000000 in
theorem allPlain_any (s m : ByteArray) (w : World) (hs : s.size ≤ maxLen) :
    Calls Tryz.prog 57 #[.string s, .string m] w fun e w' => e = .returned (.bool (allMark m.data.toList s.data.toList)) ∧ w = w' := by
  unfold maxLen at hs
  go_enter Tryz.func57, Tryz.ntmps57
  go_wp2_with fail
  go_loop [8] (fun i => ∃ k : Nat, k ≤ s.size ∧ i = .int .i64 k ∧ Hid (allMark m.data.toList (s.data.toList.drop k) = allMark m.data.toList s.data.toList)) (fun i => s.size - (intOf i).toNat)
  case atStart => exact ⟨0, Nat.zero_le _, rfl, hide (by rw [List.drop_zero])⟩
  case round =>
    obtain ⟨k, hk, rfl, HD⟩ := hrel
    by_cases hlt : k < s.size
    · have hd := HD.out
      unfold allMark at hd
      rw [drop_cons s k hlt, List.all_cons] at hd
      cases hm : markB m.data.toList s[k] with
      | true =>
        rw [hm, Bool.true_and] at hd
        have HD2 : Hid (allMark m.data.toList (s.data.toList.drop (k + 1)) = allMark m.data.toList s.data.toList) := hide hd
        have HM := hide hm
        clear hd hm
        go_wp2_with fail
        refine (asciiPlain_any _ _ _).mono ?_
        rintro e w1 ⟨rfl, rfl⟩
        rw [HM.out]
        go_wp2_with fail
        go_round
        case rel => exact ⟨k + 1, by omega, by go_num, HD2⟩
        case measure => simp [intOf]; omega
      | false =>
        rw [hm, Bool.false_and] at hd
        have HD2 : Hid (allMark m.data.toList s.data.toList = false) := hide hd.symm
        have HM := hide hm
        clear hd hm
        go_wp2_with fail
        refine (asciiPlain_any _ _ _).mono ?_
        rintro e w1 ⟨rfl, rfl⟩
        rw [HM.out]
        go_wp2_with fail
        go_ret
        exact ⟨ret_bool HD2.out.symm, rfl⟩
    · have hd := HD.out
      rw [drop_nil s k (by omega)] at hd
      have HD2 : Hid (allMark m.data.toList s.data.toList = true) := hide hd.symm
      clear hd
      go_wp2_with fail
      go_ret
      exact ⟨ret_bool HD2.out.symm, rfl⟩
/-- the table of names lies in memory -/
def EnvC (w : World) : Prop := ∀ j : Nat, j < 38 → w.cell? ⟨0, j, none⟩ = some (.string (str (cssNames.getD j [])))
theorem EnvC.kept {w w' : World} (h : EnvC w) (hb : Below w.heap.size w w') : EnvC w' := fun j hj =>
  (hb.cell (p := ⟨0, j, none⟩) (World.block_lt_of_cell? _ _ (h j hj))).trans (h j hj)
theorem idx38 (nm : Nat → ByteArray) (k : Nat) (h : k < 38) (w : World) : (Instr.index 147 (Value.agg #[.string (nm 0), .string (nm 1), .string (nm 2), .string (nm 3), .string (nm 4), .string (nm 5), .string (nm 6), .string (nm 7), .string (nm 8), .string (nm 9), .string (nm 10), .string (nm 11), .string (nm 12), .string (nm 13), .string (nm 14), .string (nm 15), .string (nm 16), .string (nm 17), .string (nm 18), .string (nm 19), .string (nm 20), .string (nm 21), .string (nm 22), .string (nm 23), .string (nm 24), .string (nm 25), .string (nm 26), .string (nm 27), .string (nm 28), .string (nm 29), .string (nm 30), .string (nm 31), .string (nm 32), .string (nm 33), .string (nm 34), .string (nm 35), .string (nm 36), .string (nm 37)]) (.int .i64 k)).run Tryz.prog w = .ok (.string (nm k)) w := by
  obtain rfl | rfl | rfl | rfl | rfl | rfl | rfl | rfl | rfl | rfl | rfl | rfl | rfl | rfl | rfl | rfl | rfl | rfl | rfl | rfl | rfl | rfl | rfl | rfl | rfl | rfl | rfl | rfl | rfl | rfl | rfl | rfl | rfl | rfl | rfl | rfl | rfl | rfl : k = 0 ∨ k = 1 ∨ k = 2 ∨ k = 3 ∨ k = 4 ∨ k = 5 ∨ k = 6 ∨ k = 7 ∨ k = 8 ∨ k = 9 ∨ k = 10 ∨ k = 11 ∨ k = 12 ∨ k = 13 ∨ k = 14 ∨ k = 15 ∨ k = 16 ∨ k = 17 ∨ k = 18 ∨ k = 19 ∨ k = 20 ∨ k = 21 ∨ k = 22 ∨ k = 23 ∨ k = 24 ∨ k = 25 ∨ k = 26 ∨ k = 27 ∨ k = 28 ∨ k = 29 ∨ k = 30 ∨ k = 31 ∨ k = 32 ∨ k = 33 ∨ k = 34 ∨ k = 35 ∨ k = 36 ∨ k = 37 := by omega
  all_goals rfl
theorem beq_nm {a : ByteArray} {l : List UInt8} (s : ByteArray) (h : a = str l) : (a.toList == s.toList) = decide (l = s.data.toList) := by
  rw [h, str_list, bytes_list, Bool.eq_iff_iff, beq_iff_eq, decide_eq_true_eq]
theorem cssNames_len : cssNames.length = 38 := by decide
theorem known_no {t : List UInt8} (h : ∀ j, j < 38 → cssNames.getD j [] ≠ t) : cssNames.contains t = false := by
  rw [Bool.eq_false_iff]
  intro hc
  have hm : t ∈ cssNames := by simpa using hc
  obtain ⟨j, hj, e⟩ := List.mem_iff_getElem.1 hm
  refine h j (by rw [← cssNames_len]; exact hj) ?_
  rw [List.getD_eq_getElem?_getD, List.getElem?_eq_getElem hj, ← e]; rfl
theorem known_yes {t : List UInt8} {j : Nat} (hj : j < 38) (h : cssNames.getD j [] = t) : cssNames.contains t = true := by
  have hj' : j < cssNames.length := by rw [cssNames_len]; exact hj
  rw [List.getD_eq_getElem?_getD, List.getElem?_eq_getElem hj'] at h
  have : t ∈ cssNames := by rw [← h]; exact List.getElem_mem hj'
  simpa using this
set_option maxHeartbeats 1000000 in
theorem isKnown_any (s : ByteArray) (w : World) (hE : EnvC w) :
    Calls Tryz.prog 99 #[.string s] w fun e w' => e = .returned (.bool (knownB s.data.toList)) ∧ w = w' := by
  obtain ⟨nm, hnm⟩ : ∃ nm : Nat → ByteArray, ∀ k, nm k = str (cssNames.getD k []) := ⟨_, fun _ => rfl⟩
  obtain ⟨Z, hZ⟩ : ∃ Z : List Value, Z = [.string (nm 0), .string (nm 1), .string (nm 2), .string (nm 3), .string (nm 4), .string (nm 5), .string (nm 6), .string (nm 7), .string (nm 8), .string (nm 9), .string (nm 10), .string (nm 11), .string (nm 12), .string (nm 13), .string (nm 14), .string (nm 15), .string (nm 16), .string (nm 17), .string (nm 18), .string (nm 19), .string (nm 20), .string (nm 21), .string (nm 22), .string (nm 23), .string (nm 24), .string (nm 25), .string (nm 26), .string (nm 27), .string (nm 28), .string (nm 29), .string (nm 30), .string (nm 31), .string (nm 32), .string (nm 33), .string (nm 34), .string (nm 35), .string (nm 36), .string (nm 37)] := ⟨_, rfl⟩
  have hZ2 : Z = (List.range 38).map fun j => Value.string (nm j) := by rw [hZ]; rfl
  have HRG : Hid (w.rangeAt 0 0 Z) := hide (by
    intro j v hv
    rw [Nat.zero_add]
    rw [hZ2] at hv
    have hj : j < 38 := by have := (List.getElem?_eq_some_iff.1 hv).1; simpa using this
    rw [List.getElem?_map, List.getElem?_range hj] at hv
    have e := Option.some.inj hv
    subst e
    show _ = some (Value.string (nm j))
    rw [hnm]
    exact hE j hj)
  have HIX : Hid (∀ k : Nat, k < 38 → ∀ w, (Instr.index 147 (Value.agg Z.toArray) (.int .i64 k)).run Tryz.prog w = .ok (.string (nm k)) w) := hide (fun k hk w => by rw [hZ]; exact idx38 nm k hk w)
  have HZI : Hid ((Tryz.prog.info? 147).map (·.size) = some Z.length) := hide (by rw [hZ]; kernel_rfl)
  have HNM := hide hnm
  clear hnm hZ hZ2 hE
  go_enter Tryz.func99, Tryz.ntmps99
  go_wp2_with (refine wpList_load_mid rfl _ _ rfl 0 0 rfl Z _ HRG.out Tryz.underlying147 rfl HZI.out ?_)
  go_loop [6] (fun i => ∃ k : Nat, k ≤ 38 ∧ i = .int .i64 k ∧ Hid (∀ j, j < k → cssNames.getD j [] ≠ s.data.toList)) (fun i => 38 - (intOf i).toNat)
  case atStart => exact ⟨0, by omega, rfl, hide (fun j hj => absurd hj (Nat.not_lt_zero _))⟩
  case round =>
    obtain ⟨k, hk, rfl, HF⟩ := hrel
    by_cases hlt : k < 38
    · have hix := HIX.out k hlt w
      have hbe := beq_nm s (HNM.out k)
      by_cases he : cssNames.getD k [] = s.data.toList
      · have HR : Hid (knownB s.data.toList = true) := hide (known_yes hlt he)
        rw [decide_eq_true he] at hbe
        clear he
        go_wp2_with fail
        go_ret
        exact ⟨ret_bool HR.out.symm, rfl⟩
      · have HF2 : Hid (∀ j, j < k + 1 → cssNames.getD j [] ≠ s.data.toList) := hide (fun j hj => by
          rcases Nat.lt_or_ge j k with h | h
          · exact HF.out j h
          · have : j = k := by omega
            rw [this]; exact he)
        rw [decide_eq_false he] at hbe
        clear he
        go_wp2_with fail
        go_round
        case rel => exact ⟨k + 1, by omega, by go_num, HF2⟩
        case measure => simp [intOf]; omega
    · have HR : Hid (knownB s.data.toList = false) := hide (known_no (fun j hj => HF.out j (by omega)))
      go_wp2_with fail
      go_ret
      exact ⟨ret_bool HR.out.symm, rfl⟩
set_option maxHeartbeats 1000000 in
theorem cssSafe_any (n v : ByteArray) (w : World) (hE : EnvC w) (hv : v.size ≤ maxLen) :
    Calls Tryz.prog 77 #[.string n, .string v] w fun e w' => e = .returned (.bool (safeD (n.data.toList, v.data.toList))) ∧ w = w' := by
  have hvs := hv
  unfold maxLen at hv
  obtain ⟨B, hB⟩ : ∃ B, safeD (n.data.toList, v.data.toList) = B := ⟨_, rfl⟩
  rw [hB]
  cases hk : cssNames.contains n.data.toList with
  | false =>
    have hb : B = false := by rw [← hB]; unfold safeD; simp only; rw [hk]; rfl
    subst hb
    have HK : Hid (knownB n.data.toList = false) := hide hk
    clear hk hB
    go_enter Tryz.func77, Tryz.ntmps77
    go_wp2_with fail
    refine (isKnown_any n _ hE).mono ?_
    rintro e w1 ⟨rfl, rfl⟩
    rw [HK.out]
    go_wp2_with fail
    go_ret
    exact ⟨rfl, rfl⟩
  | true =>
    have HK : Hid (knownB n.data.toList = true) := hide hk
    by_cases he : v.data.toList = []
    · have hb : B = false := by rw [← hB]; unfold safeD; simp only; rw [he]; simp
      subst hb
      have t0 : v.toList.isEmpty = true := by rw [bytes_list, he]; rfl
      clear hk hB he
      go_enter Tryz.func77, Tryz.ntmps77
      go_wp2_with fail
      refine (isKnown_any n _ hE).mono ?_
      rintro e w1 ⟨rfl, rfl⟩
      rw [HK.out]
      go_wp2_with fail
      go_ret
      exact ⟨rfl, rfl⟩
    have hne : v.data.toList.isEmpty = false := by
      cases h : v.data.toList with
      | nil => exact absurd h he
      | cons _ _ => rfl
    have t0 : v.toList.isEmpty = false := by rw [bytes_list]; exact hne
    by_cases h100 : v.size ≤ 100
    · have t1 : decide ((v.size : Int) ≤ 100) = true := decide_eq_true (by omega)
      have HA : Hid (allMark (⟨#[32, 35, 46, 37, 44, 45, 43, 33]⟩ : ByteArray).data.toList v.data.toList = B) := hide (by
        rw [← hB]
        unfold safeD
        simp only
        rw [hk, hne, toList_length, decide_eq_true h100]; rfl)
      clear hk hB he hne
      go_enter Tryz.func77, Tryz.ntmps77
      go_wp2_with fail
      refine (isKnown_any n _ hE).mono ?_
      rintro e w1 ⟨rfl, rfl⟩
      rw [HK.out]
      go_wp2_with fail
      refine (allPlain_any v _ _ hvs).mono ?_
      rintro e w1 ⟨rfl, rfl⟩
      rw [HA.out]
      go_wp2_with fail
      go_ret
      exact ⟨rfl, rfl⟩
    · have hb : B = false := by rw [← hB]; unfold safeD; simp only; rw [toList_length, decide_eq_false h100]; simp
      subst hb
      have t1 : decide ((v.size : Int) ≤ 100) = false := decide_eq_false (by omega)
      clear hk hB he hne
      go_enter Tryz.func77, Tryz.ntmps77
      go_wp2_with fail
      refine (isKnown_any n _ hE).mono ?_
      rintro e w1 ⟨rfl, rfl⟩
      rw [HK.out]
      go_wp2_with fail
      go_ret
      exact ⟨rfl, rfl⟩
end Go.Proofs.YtklbdobofclofaaGreatDoor
