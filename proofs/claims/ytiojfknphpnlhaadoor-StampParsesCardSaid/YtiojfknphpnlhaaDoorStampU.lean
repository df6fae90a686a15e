/- WALKS of stamp.readTime, readZone. No statement is proved here. -/
import Derived.Test.YtiojfknphpnlhaaDoorStampM
import Derived.Test.YtiojfknphpnlhaaDoorStampS
import Derived.Test.YtiojfknphpnlhaaDoorStrs
import Derived.Deep.DeepMust
namespace Go.Proofs.YtiojfknphpnlhaaDoor
set_option maxRecDepth 100000
open Go.RowKit
set_option linter.unusedVariables false
set_option linter.unusedSimpArgs false

theorem SBuf.of_alloc (l : List ByteArray) (w : World) (h : l.length ≤ maxLen) : SBuf w.heap.size (.slice (some ⟨w.heap.size, 0, none⟩) l.length l.length) l w (w.alloc (.cells (strVals l).toArray 9)) :=
  ⟨⟨by simp [strVals], .inr ⟨w.heap.size, l.length, (strVals l).toArray, rfl, Nat.le_refl _, heap_alloc_new w _, Nat.le_refl _, h, by simp [strVals], List.take_of_length_le (by simp [strVals])⟩⟩, (Below.refl _ _).alloc (Nat.le_refl _) _, by simp⟩
theorem SBuf.form_ne {B : Nat} {v : Value} {l : List ByteArray} {W0 w : World} (h : SBuf B v l W0 w) (hl : l ≠ []) : ∃ g cap, v = .slice (some ⟨g, 0, none⟩) l.length cap ∧ l.length ≤ cap ∧ cap ≤ maxLen ∧ B ≤ g ∧ g < w.heap.size ∧ ∀ (j : Nat) x, l[j]? = some x → w.cell? ⟨g, 0 + j, none⟩ = some (.string x) := by
  rcases h.form with ⟨_, e⟩ | h
  · exact absurd e hl
  · exact h
theorem SBuf.form3 {B : Nat} {v : Value} {a b c : ByteArray} {W0 w : World} (h : SBuf B v [a, b, c] W0 w) : ∃ g cap, v = .slice (some ⟨g, 0, none⟩) 3 cap ∧ 3 ≤ cap ∧ w.cell? ⟨g, 0, none⟩ = some (.string a) ∧ w.cell? ⟨g, 1, none⟩ = some (.string b) ∧ w.cell? ⟨g, 2, none⟩ = some (.string c) := by
  obtain ⟨g, cap, rfl, q1, q2, q3, q4, q5⟩ := h.form_ne (by simp)
  exact ⟨g, cap, rfl, q1, by simpa using q5 0 _ rfl, by simpa using q5 1 _ rfl, by simpa using q5 2 _ rfl⟩
theorem clock_yes (a b c : ByteArray) (v : Int) (ha : a.size ≤ maxLen) (hb : b.size ≤ maxLen) (hc : c.size ≤ maxLen) (h : clockV a.data.toList b.data.toList c.data.toList = some v) (w : World) :
    Calls Tryd.prog 46 #[.string a, .string b, .string c] w fun e w' => e = .returned (.tuple #[.int .i64 v, .bool true]) ∧ w' = w := by
  refine (readClock_any a b c w ha hb hc).mono ?_
  rintro e w1 ⟨rfl, rfl⟩
  rw [h]; exact ⟨rfl, rfl⟩
theorem clock_no (a b c : ByteArray) (ha : a.size ≤ maxLen) (hb : b.size ≤ maxLen) (hc : c.size ≤ maxLen) (h : clockV a.data.toList b.data.toList c.data.toList = none) (w : World) :
    Calls Tryd.prog 46 #[.string a, .string b, .string c] w fun e w' => e = .returned (.tuple #[.int .i64 0, .bool false]) ∧ w' = w := by
  refine (readClock_any a b c w ha hb hc).mono ?_
  rintro e w1 ⟨rfl, rfl⟩
  rw [h]; exact ⟨rfl, rfl⟩
set_option maxHeartbeats 1000000 in
theorem readTime_any (s : ByteArray) (w : World) (hE : EnvS w) (hs : s.size ≤ 100000) :
    Calls Tryd.prog 20 #[.string s] w fun e w' => e = .returned (optP (timeV s.data.toList)) ∧ Below w.heap.size w w' := by
  obtain ⟨m, hm⟩ := hE.max
  have hsp := Tryd.strings_Split s ⟨#[58]⟩ m w (by omega) hm (by decide)
  obtain ⟨h1, h2⟩ := lib_split s.size s (Nat.le_refl _)
  rw [← h2] at hsp
  have ht := time_split s.data.toList
  rw [← h1] at ht
  have hsz : ∀ p ∈ Lib.splitB ⟨#[58]⟩ 0 (Lib.countB s ⟨#[58]⟩) s, p.size ≤ maxLen := by
    intro p hp
    have hm := List.mem_map_of_mem (f := fun p : ByteArray => p.data.toList) hp
    rw [h1] at hm
    have := splitC_len _ _ hm
    rw [toList_length, toList_length] at this
    unfold maxLen; omega
  clear h1 h2 hm
  generalize Lib.splitB ⟨#[58]⟩ 0 (Lib.countB s ⟨#[58]⟩) s = P at hsp ht hsz
  have HT := hide ht
  have HSP := hide hsp
  clear ht hsp hE
  by_cases h2 : P.length = 2
  · obtain ⟨a, b, rfl⟩ : ∃ a b, P = [a, b] := by
      match P, h2 with
      | [a, b], _ => exact ⟨a, b, rfl⟩
    have HV : Hid (optP (timeV s.data.toList) = optP (clockV a.data.toList b.data.toList [48, 48])) := hide (by rw [HT.out]; rfl)
    have za := hsz a (by simp)
    have zb := hsz b (by simp)
    have HSB := hide (SBuf.of_alloc [a, b] w (by unfold maxLen; show 2 ≤ _; decide))
    clear h2 hsz
    cases hv : clockV a.data.toList b.data.toList [48, 48]
    all_goals
      rw [hv] at HV
      first | have HC := hide (clock_no a b ⟨#[48, 48]⟩ za zb (by unfold maxLen; decide) hv) | have HC := hide (clock_yes a b ⟨#[48, 48]⟩ _ za zb (by unfold maxLen; decide) hv)
      clear hv za zb
      go_enter Tryd.func20, Tryd.ntmps20
      go_wp2_with fail
      refine HSP.out.mono ?_
      rintro e w1 ⟨rfl, hw⟩
      subst hw
      go_wp2_with (at_builtin; go_must (refine wpList_strs rfl (.tmp 10) (.tmp 11) rfl w.heap.size (.slice (some ⟨w.heap.size, 0, none⟩) 2 2) [a, b] rfl w _ _ HSB.out (congrArg (fun n => Value.slice (some ⟨n, 0, none⟩) 1 1) (by simp : w.heap.size + 1 = (w.alloc (.cells #[.string a, .string b] 9)).heap.size)) (by show 3 ≤ 8796093022208; decide) ?_); intro v w2 hb2; obtain ⟨g, cap, rfl, q1, r0, r1, r2⟩ := SBuf.form3 hb2; have HB2 := hide hb2; clear hb2)
      go_quiet ((go_at_call 46; exact Calls.quiet_of_same (HC.out _)))
      clear r0 r1 r2
      go_wp2_with fail
      go_ret2
      exact ⟨by rw [HV.out]; rfl, Below.drews HB2.out.below _⟩
  by_cases h3 : P.length = 3
  · obtain ⟨a, b, c, rfl⟩ : ∃ a b c, P = [a, b, c] := by
      match P, h3 with
      | [a, b, c], _ => exact ⟨a, b, c, rfl⟩
    have HV : Hid (optP (timeV s.data.toList) = optP (clockV a.data.toList b.data.toList c.data.toList)) := hide (by rw [HT.out]; rfl)
    have za := hsz a (by simp)
    have zb := hsz b (by simp)
    have zc := hsz c (by simp)
    have hsb := SBuf.of_alloc [a, b, c] w (by unfold maxLen; show 3 ≤ _; decide)
    have HSB := hide hsb
    have r0 : (w.alloc (.cells (List.map Value.string [a, b, c]).toArray 9)).cell? ⟨w.heap.size, 0, none⟩ = some (.string a) := by rw [World.cell?_alloc_at _ _ _ _ rfl]; rfl
    have r1 : (w.alloc (.cells (List.map Value.string [a, b, c]).toArray 9)).cell? ⟨w.heap.size, 1, none⟩ = some (.string b) := by rw [World.cell?_alloc_at _ _ _ _ rfl]; rfl
    have r2 : (w.alloc (.cells (List.map Value.string [a, b, c]).toArray 9)).cell? ⟨w.heap.size, 2, none⟩ = some (.string c) := by rw [World.cell?_alloc_at _ _ _ _ rfl]; rfl
    clear h2 h3 hsz hsb
    cases hv : clockV a.data.toList b.data.toList c.data.toList
    all_goals
      rw [hv] at HV
      first | have HC := hide (clock_no a b c za zb zc hv) | have HC := hide (clock_yes a b c _ za zb zc hv)
      clear hv za zb zc
      go_enter Tryd.func20, Tryd.ntmps20
      go_wp2_with fail
      refine HSP.out.mono ?_
      rintro e w1 ⟨rfl, hw⟩
      subst hw
      go_wp2_with fail
      go_quiet ((go_at_call 46; exact Calls.quiet_of_same (HC.out _)))
      clear r0 r1 r2
      go_wp2_with fail
      go_ret2
      exact ⟨by rw [HV.out]; rfl, Below.drews HSB.out.below _⟩
  · have HV : Hid (optP (timeV s.data.toList) = .tuple #[.int .i64 0, .bool false]) := hide (by
      rw [HT.out]
      match P, h2, h3 with
      | [], _, _ => rfl
      | [_], _, _ => rfl
      | [_, _], h, _ => exact absurd rfl h
      | [_, _, _], _, h => exact absurd rfl h
      | _ :: _ :: _ :: _ :: _, _, _ => rfl)
    have t2 : ((P.length : Int) == 2) = false := beq_eq_false_iff_ne.2 (by omega)
    have t3 : ((P.length : Int) != 3) = true := by rw [bne_iff_ne]; omega
    clear h2 h3 hsz
    go_enter Tryd.func20, Tryd.ntmps20
    go_wp2_with fail
    refine HSP.out.mono ?_
    rintro e w1 ⟨rfl, hw⟩
    subst hw
    go_wp2_with fail
    go_ret2
    exact ⟨by rw [HV.out]; rfl, (Below.refl _ _).alloc (Nat.le_refl _) _⟩
end Go.Proofs.YtiojfknphpnlhaaDoor
