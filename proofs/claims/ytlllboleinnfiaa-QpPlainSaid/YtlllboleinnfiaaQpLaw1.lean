/- WALKS of the laws QpPlain, QpDecodes, QpEncodes, QpBack. No statement is proved here. -/
import Derived.Test.YtlllboleinnfiaaQpLaw0
namespace Go.Proofs.Ytlllboleinnfiaa
open Go.RowKit
set_option linter.unusedVariables false
set_option linter.unusedSimpArgs false

/-- no sign, no blank -/
def plainAll (l : List UInt8) : Bool := l.all fun c => c != 61 && c != 32 && c != 9
theorem dec_plain (l : List UInt8) (h : plainAll l = true) : dec l = l := by
  induction l with
  | nil => exact dec_nil
  | cons c r ih =>
    simp only [plainAll, List.all_cons, Bool.and_eq_true, bne_iff_ne] at h
    rw [dec_cons (by simp), decStep_plain r h.1.1.1 (by simp [isW, h.1.1.2, h.1.2])]
    show [c] ++ dec r = _
    rw [ih h.2]; rfl

set_option maxHeartbeats 1000000 in
theorem law_QpPlain (s : ByteArray) (hs : s.size ≤ maxLen) (w : World) :
    Calls Try.prog 7 #[.string s] w fun e w' => e = .returned (.bool true) ∧ Below w.heap.size w w' := by
  by_cases h3 : s.size ≤ 3000
  · have hd : decide (s.size ≤ 3000) = true := decide_eq_true h3
    have HD := hide hd
    clear hd
    go_enter Try.func7, Try.ntmps7
    go_wp2_with fail
    refine (short2_any _ _ hs).mono ?_
    rintro e w1 ⟨rfl, rfl⟩
    rw [HD.out]
    go_wp2_with fail
    go_loop [3] (fun i => ∃ k : Nat, k ≤ s.size ∧ i = .int .i64 k ∧ plainAll (s.data.toList.take k) = true) (fun i => s.size - (intOf i).toNat)
    case atStart => exact ⟨0, Nat.zero_le _, rfl, rfl⟩
    case round =>
      obtain ⟨k, hk, rfl, hp⟩ := hrel
      have HP := hide hp
      clear hp
      by_cases hlt : k < s.size
      · by_cases hc : s[k] ≠ 61 ∧ s[k] ≠ 32 ∧ s[k] ≠ 9
        · have t1 : ((s[k].toNat : Int) == 61) = false := tF 61 hc.1 (by omega)
          have t2 : ((s[k].toNat : Int) == 32) = false := tF 32 hc.2.1 (by omega)
          have t3 : ((s[k].toNat : Int) == 9) = false := tF 9 hc.2.2 (by omega)
          have HC := hide hc
          clear hc
          go_wp2_with fail
          go_round
          case rel => exact ⟨k + 1, by omega, by go_num, by rw [take_snoc s k hlt, plainAll, List.all_append]; simp only [plainAll] at HP; rw [HP.out]; simp [HC.out]⟩
          case measure => simp [intOf]; omega
        · have ht : ((s[k].toNat : Int) == 61) = true ∨ ((s[k].toNat : Int) == 61) = false ∧ (((s[k].toNat : Int) == 32) = true ∨ ((s[k].toNat : Int) == 32) = false ∧ ((s[k].toNat : Int) == 9) = true) := by
            by_cases h1 : s[k] = 61
            · exact .inl (tT 61 h1 (by omega))
            · refine .inr ⟨tF 61 h1 (by omega), ?_⟩
              by_cases h2 : s[k] = 32
              · exact .inl (tT 32 h2 (by omega))
              · refine .inr ⟨tF 32 h2 (by omega), ?_⟩
                by_cases h4 : s[k] = 9
                · exact tT 9 h4 (by omega)
                · exact absurd ⟨h1, h2, h4⟩ hc
          clear hc
          rcases ht with t1 | ⟨t1, t2 | ⟨t2, t4⟩⟩
          all_goals
            go_wp2_with fail
            refine (live2_any _).mono ?_
            rintro e w1 ⟨rfl, hb1⟩
            go_wp2_with fail
            go_ret
            exact ⟨rfl, hb1⟩
      · have hdl : dec s.data.toList = s.data.toList := dec_plain _ (by
          have := HP.out
          rwa [List.take_of_length_le (by rw [toList_length]; omega)] at this)
        have HL := hide hdl
        clear hdl
        go_wp2_with fail
        refine (decode_any _ _ (by omega)).mono ?_
        rintro e w1 ⟨rfl, hb1⟩
        rw [HL.out, str_of]
        go_wp2_with fail
        refine (live2_any _).mono ?_
        rintro e w2 ⟨rfl, hb2⟩
        go_wp2_with fail
        go_ret
        exact ⟨rfl, hb1.trans (hb2.mono hb1.size)⟩
  · have hd : decide (s.size ≤ 3000) = false := decide_eq_false h3
    have HD := hide hd
    clear hd
    go_enter Try.func7, Try.ntmps7
    go_wp2_with fail
    refine (short2_any _ _ hs).mono ?_
    rintro e w1 ⟨rfl, rfl⟩
    rw [HD.out]
    go_wp2_with fail
    refine (live2_any _).mono ?_
    rintro e w1 ⟨rfl, hb1⟩
    go_wp2_with fail
    go_ret
    exact ⟨rfl, hb1⟩
end Go.Proofs.Ytlllboleinnfiaa
