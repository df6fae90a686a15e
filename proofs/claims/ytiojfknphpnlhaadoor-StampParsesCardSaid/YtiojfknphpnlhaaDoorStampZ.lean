/- WALK of stamp.readZone. No statement is proved here. -/
import Derived.Test.YtiojfknphpnlhaaDoorStampU
import Derived.Deep.MidRow
namespace Go.Proofs.YtiojfknphpnlhaaDoor
set_option maxRecDepth 100000
open Go.RowKit
set_option linter.unusedVariables false
set_option linter.unusedSimpArgs false

theorem idxZ (nm : Nat → ByteArray) (hh : Nat → Int) (k : Nat) (h : k < 12) (w : World) : (Instr.index 57 (Value.agg #[.string (nm 0), .int .i64 (hh 0), .string (nm 1), .int .i64 (hh 1), .string (nm 2), .int .i64 (hh 2), .string (nm 3), .int .i64 (hh 3), .string (nm 4), .int .i64 (hh 4), .string (nm 5), .int .i64 (hh 5), .string (nm 6), .int .i64 (hh 6), .string (nm 7), .int .i64 (hh 7), .string (nm 8), .int .i64 (hh 8), .string (nm 9), .int .i64 (hh 9), .string (nm 10), .int .i64 (hh 10), .string (nm 11), .int .i64 (hh 11)]) (.int .i64 k)).run Tryd.prog w = .ok (.agg #[.string (nm k), .int .i64 (hh k)]) w := by
  obtain rfl | rfl | rfl | rfl | rfl | rfl | rfl | rfl | rfl | rfl | rfl | rfl : k = 0 ∨ k = 1 ∨ k = 2 ∨ k = 3 ∨ k = 4 ∨ k = 5 ∨ k = 6 ∨ k = 7 ∨ k = 8 ∨ k = 9 ∨ k = 10 ∨ k = 11 := by omega
  all_goals rfl
theorem zonRange (nm : Nat → ByteArray) (hh : Nat → Int) (w : World) (hz : ∀ j : Nat, j < 12 → w.cell? ⟨1, j * 2, none⟩ = some (.string (nm j)) ∧ w.cell? ⟨1, j * 2 + 1, none⟩ = some (.int .i64 (hh j))) :
    w.rangeAt 1 0 [.string (nm 0), .int .i64 (hh 0), .string (nm 1), .int .i64 (hh 1), .string (nm 2), .int .i64 (hh 2), .string (nm 3), .int .i64 (hh 3), .string (nm 4), .int .i64 (hh 4), .string (nm 5), .int .i64 (hh 5), .string (nm 6), .int .i64 (hh 6), .string (nm 7), .int .i64 (hh 7), .string (nm 8), .int .i64 (hh 8), .string (nm 9), .int .i64 (hh 9), .string (nm 10), .int .i64 (hh 10), .string (nm 11), .int .i64 (hh 11)] := by
  intro j v hv
  rw [Nat.zero_add]
  have hj : j < 24 := (List.getElem?_eq_some_iff.1 hv).1
  obtain rfl | rfl | rfl | rfl | rfl | rfl | rfl | rfl | rfl | rfl | rfl | rfl | rfl | rfl | rfl | rfl | rfl | rfl | rfl | rfl | rfl | rfl | rfl | rfl : j = 0 ∨ j = 1 ∨ j = 2 ∨ j = 3 ∨ j = 4 ∨ j = 5 ∨ j = 6 ∨ j = 7 ∨ j = 8 ∨ j = 9 ∨ j = 10 ∨ j = 11 ∨ j = 12 ∨ j = 13 ∨ j = 14 ∨ j = 15 ∨ j = 16 ∨ j = 17 ∨ j = 18 ∨ j = 19 ∨ j = 20 ∨ j = 21 ∨ j = 22 ∨ j = 23 := by omega
  · have e := Option.some.inj hv; subst e; exact (hz 0 (by decide)).1
  · have e := Option.some.inj hv; subst e; exact (hz 0 (by decide)).2
  · have e := Option.some.inj hv; subst e; exact (hz 1 (by decide)).1
  · have e := Option.some.inj hv; subst e; exact (hz 1 (by decide)).2
  · have e := Option.some.inj hv; subst e; exact (hz 2 (by decide)).1
  · have e := Option.some.inj hv; subst e; exact (hz 2 (by decide)).2
  · have e := Option.some.inj hv; subst e; exact (hz 3 (by decide)).1
  · have e := Option.some.inj hv; subst e; exact (hz 3 (by decide)).2
  · have e := Option.some.inj hv; subst e; exact (hz 4 (by decide)).1
  · have e := Option.some.inj hv; subst e; exact (hz 4 (by decide)).2
  · have e := Option.some.inj hv; subst e; exact (hz 5 (by decide)).1
  · have e := Option.some.inj hv; subst e; exact (hz 5 (by decide)).2
  · have e := Option.some.inj hv; subst e; exact (hz 6 (by decide)).1
  · have e := Option.some.inj hv; subst e; exact (hz 6 (by decide)).2
  · have e := Option.some.inj hv; subst e; exact (hz 7 (by decide)).1
  · have e := Option.some.inj hv; subst e; exact (hz 7 (by decide)).2
  · have e := Option.some.inj hv; subst e; exact (hz 8 (by decide)).1
  · have e := Option.some.inj hv; subst e; exact (hz 8 (by decide)).2
  · have e := Option.some.inj hv; subst e; exact (hz 9 (by decide)).1
  · have e := Option.some.inj hv; subst e; exact (hz 9 (by decide)).2
  · have e := Option.some.inj hv; subst e; exact (hz 10 (by decide)).1
  · have e := Option.some.inj hv; subst e; exact (hz 10 (by decide)).2
  · have e := Option.some.inj hv; subst e; exact (hz 11 (by decide)).1
  · have e := Option.some.inj hv; subst e; exact (hz 11 (by decide)).2
theorem lookup_step (t : List UInt8) (L : List (List UInt8 × Int)) (k : Nat) (h : k < L.length) : (L.drop k).lookup t = if (L.getD k ([], 0)).1 = t then some (L.getD k ([], 0)).2 else (L.drop (k + 1)).lookup t := by
  rw [List.drop_eq_getElem_cons h, List.getD_eq_getElem?_getD, List.getElem?_eq_getElem h, Option.getD_some]
  generalize L[k] = x
  obtain ⟨a, b⟩ := x
  rw [List.lookup]
  by_cases e : a = t
  · subst e; simp
  · rw [if_neg e]
    have : (t == a) = false := by rw [beq_eq_false_iff_ne]; exact fun h => e h.symm
    rw [this]
theorem zonHour (k : Nat) (h : k < 12) : -8 ≤ (zonNam.getD k ([], 0)).2 ∧ (zonNam.getD k ([], 0)).2 ≤ 0 := by
  obtain rfl | rfl | rfl | rfl | rfl | rfl | rfl | rfl | rfl | rfl | rfl | rfl : k = 0 ∨ k = 1 ∨ k = 2 ∨ k = 3 ∨ k = 4 ∨ k = 5 ∨ k = 6 ∨ k = 7 ∨ k = 8 ∨ k = 9 ∨ k = 10 ∨ k = 11 := by omega
  all_goals decide
theorem sign_any (s : ByteArray) (h : s.size = 5) : signV s.data.toList = if s[0]'(by omega) = 43 then clockV (s.extract 1 3).data.toList (s.extract 3 5).data.toList [48, 48] else if s[0]'(by omega) = 45 then (clockV (s.extract 1 3).data.toList (s.extract 3 5).data.toList [48, 48]).map (fun x => -x) else none := by
  obtain ⟨⟨l⟩⟩ := s
  match l, h with
  | [a, b, c, d, e], _ => rfl
theorem sign_no (l : List UInt8) (h : l.length ≠ 5) : signV l = none := by
  unfold signV
  split
  · exact absurd rfl h
  · rfl
def bd90 (o : Option Int) : Prop := match o with | some v => 0 ≤ v ∧ v ≤ 90000 | none => True
theorem clock_bd (a b c : List UInt8) : bd90 (clockV a b c) := by
  unfold clockV
  split
  · rename_i h
    unfold clockB at h
    rw [Bool.and_eq_true, Bool.and_eq_true] at h
    have h1 := belowB_val h.1
    have h2 := belowB_val h.2.1
    have h3 := belowB_val h.2.2
    have h4 : valL a < 24 := by have := h.1; unfold belowB at this; simp only [Bool.and_eq_true, decide_eq_true_eq] at this; exact this.2.2
    have h5 : valL b < 60 := by have := h.2.1; unfold belowB at this; simp only [Bool.and_eq_true, decide_eq_true_eq] at this; exact this.2.2
    unfold bd90 clockZ
    constructor <;> omega
  · trivial
set_option maxHeartbeats 1000000 in
theorem readZone_any (s : ByteArray) (w : World) (hE : EnvS w) (hs : s.size ≤ 100000) :
    Calls Tryd.prog 21 #[.string s] w fun e w' => e = .returned (optP (zoneV s.data.toList)) ∧ Below w.heap.size w w' := by
  obtain ⟨nm, hnm⟩ : ∃ nm : Nat → ByteArray, ∀ k, nm k = str (zonNam.getD k ([], 0)).1 := ⟨_, fun _ => rfl⟩
  obtain ⟨hh, hhh⟩ : ∃ hh : Nat → Int, ∀ k, hh k = (zonNam.getD k ([], 0)).2 := ⟨_, fun _ => rfl⟩
  have hz := hE.zon
  simp only [← hnm, ← hhh] at hz
  have hrg := zonRange nm hh w hz
  obtain ⟨Z, hZ⟩ : ∃ Z : List Value, Z = [.string (nm 0), .int .i64 (hh 0), .string (nm 1), .int .i64 (hh 1), .string (nm 2), .int .i64 (hh 2), .string (nm 3), .int .i64 (hh 3), .string (nm 4), .int .i64 (hh 4), .string (nm 5), .int .i64 (hh 5), .string (nm 6), .int .i64 (hh 6), .string (nm 7), .int .i64 (hh 7), .string (nm 8), .int .i64 (hh 8), .string (nm 9), .int .i64 (hh 9), .string (nm 10), .int .i64 (hh 10), .string (nm 11), .int .i64 (hh 11)] := ⟨_, rfl⟩
  rw [← hZ] at hrg
  have HIX : Hid (∀ k : Nat, k < 12 → ∀ w, (Instr.index 57 (Value.agg Z.toArray) (.int .i64 k)).run Tryd.prog w = .ok (.agg #[.string (nm k), .int .i64 (hh k)]) w) := hide (fun k hk w => by rw [hZ]; exact idxZ nm hh k hk w)
  have HZI : Hid ((Tryd.prog.info? 57).map (·.size) = some Z.length) := hide (by rw [hZ]; kernel_rfl)
  have HRG := hide hrg
  clear hrg hZ
  have HNM := hide hnm
  have HHH := hide hhh
  clear hnm hhh hz hE
  go_enter Tryd.func21, Tryd.ntmps21
  go_wp2_with (refine wpList_load_mid rfl _ _ rfl 1 0 rfl Z _ HRG.out Tryd.underlying57 rfl HZI.out ?_)
  go_loopw [9] (fun i wr => ∃ k : Nat, k ≤ 12 ∧ i = .int .i64 k ∧ Hid (Below w.heap.size w wr) ∧ Hid ((zonNam.drop k).lookup s.data.toList = zonNam.lookup s.data.toList)) (fun i _ => 12 - (intOf i).toNat)
  case atStart => exact ⟨0, by omega, rfl, hide (Below.refl _ _), hide rfl⟩
  case round =>
    obtain ⟨k, hk, rfl, HB, HF⟩ := hrel
    by_cases hlt : k < 12
    · have hix := HIX.out k hlt wr
      have hst := lookup_step s.data.toList zonNam k hlt
      have hhr := zonHour k hlt
      rw [← HHH.out] at hst hhr
      have hbe := str_beq s (HNM.out k)
      rw [HF.out] at hst
      by_cases he : (zonNam.getD k ([], 0)).1 = s.data.toList
      · rw [if_pos he] at hst
        have HR : Hid (optP (zoneV s.data.toList) = .tuple #[.int .i64 (hh k * 3600), .bool true]) := hide (by unfold zoneV; rw [hst]; rfl)
        rw [decide_eq_true he] at hbe
        clear hst he
        go_wp2_with fail
        go_ret2
        exact ⟨by rw [HR.out]; rfl, HB.out.alloc HB.out.size _⟩
      · rw [if_neg he] at hst
        have HR := hide hst.symm
        rw [decide_eq_false he] at hbe
        clear hst he
        go_wp2_with fail
        go_roundw
        case rel => exact ⟨k + 1, by omega, by go_num, hide (HB.out.alloc HB.out.size _), HR⟩
        case measure => simp [intOf]; omega
    · have hn : zonNam.lookup s.data.toList = none := by
        rw [← HF.out, show k = 12 by omega]; rfl
      have hV : zoneV s.data.toList = signV s.data.toList := by unfold zoneV; rw [hn]
      clear hn
      by_cases h5 : s.size = 5
      · have hsg := sign_any s h5
        have hlt0 : 0 < s.size := by omega
        obtain ⟨c, hc⟩ : ∃ c, c = s[0]'hlt0 := ⟨_, rfl⟩
        have hc2 : s[0]'hlt0 = c := hc.symm
        rw [← hc] at hsg
        obtain ⟨A, hA⟩ : ∃ A, A = s.extract 1 3 := ⟨_, rfl⟩
        obtain ⟨B, hB⟩ : ∃ B, B = s.extract 3 5 := ⟨_, rfl⟩
        rw [← hA, ← hB] at hsg
        have hA2 : s.extract 1 3 = A := hA.symm
        have hB2 : s.extract 3 5 = B := hB.symm
        have za : A.size ≤ maxLen := by rw [hA, ByteArray.size_extract]; unfold maxLen; omega
        have zb : B.size ≤ maxLen := by rw [hB, ByteArray.size_extract]; unfold maxLen; omega
        clear hA hB hc
        have hvb := hide (clock_bd A.data.toList B.data.toList [48, 48])
        cases hv : clockV A.data.toList B.data.toList [48, 48]
        all_goals
          rw [hv] at hvb
          rw [hv] at hsg
          first | have HC := hide (clock_no A B ⟨#[48, 48]⟩ za zb (by unfold maxLen; decide) hv) | have HC := hide (clock_yes A B ⟨#[48, 48]⟩ _ za zb (by unfold maxLen; decide) hv)
          clear hv
        · by_cases g1 : c = 43
          · have HV : Hid (optP (zoneV s.data.toList) = .tuple #[.int .i64 0, .bool false]) := hide (by rw [hV, hsg, if_pos g1]; rfl)
            have t1 : ((c.toNat : Int) == 43) = true := tT 43 g1 (by omega)
            clear hV hsg g1
            go_wp2_with fail
            go_quiet ((go_at_call 46; exact Calls.quiet_of_same (HC.out _)))
            go_wp2_with fail
            go_ret2
            exact ⟨by rw [HV.out]; rfl, Below.drews HB.out _⟩
          have t1 : ((c.toNat : Int) == 43) = false := tF 43 g1 (by omega)
          by_cases g2 : c = 45
          · have HV : Hid (optP (zoneV s.data.toList) = .tuple #[.int .i64 0, .bool false]) := hide (by rw [hV, hsg, if_neg g1, if_pos g2]; rfl)
            have t2 : ((c.toNat : Int) == 45) = true := tT 45 g2 (by omega)
            clear hV hsg g1 g2
            go_wp2_with fail
            go_quiet ((go_at_call 46; exact Calls.quiet_of_same (HC.out _)))
            go_wp2_with fail
            go_ret2
            exact ⟨by rw [HV.out]; rfl, Below.drews HB.out _⟩
          · have HV : Hid (optP (zoneV s.data.toList) = .tuple #[.int .i64 0, .bool false]) := hide (by rw [hV, hsg, if_neg g1, if_neg g2]; rfl)
            have t2 : ((c.toNat : Int) == 45) = false := tF 45 g2 (by omega)
            clear hV hsg g1 g2
            go_wp2_with fail
            go_quiet ((go_at_call 46; exact Calls.quiet_of_same (HC.out _)))
            go_wp2_with fail
            go_ret2
            exact ⟨by rw [HV.out]; rfl, Below.drews HB.out _⟩
        · rename_i v
          have vb : 0 ≤ v ∧ v ≤ 90000 := hvb.out
          by_cases g1 : c = 43
          · have HV : Hid (optP (zoneV s.data.toList) = .tuple #[.int .i64 v, .bool true]) := hide (by rw [hV, hsg, if_pos g1]; rfl)
            have t1 : ((c.toNat : Int) == 43) = true := tT 43 g1 (by omega)
            clear hV hsg g1
            go_wp2_with fail
            go_quiet ((go_at_call 46; exact Calls.quiet_of_same (HC.out _)))
            go_wp2_with fail
            go_ret2
            exact ⟨by rw [HV.out]; rfl, Below.drews HB.out _⟩
          have t1 : ((c.toNat : Int) == 43) = false := tF 43 g1 (by omega)
          by_cases g2 : c = 45
          · have HV : Hid (optP (zoneV s.data.toList) = .tuple #[.int .i64 (-v), .bool true]) := hide (by rw [hV, hsg, if_neg g1, if_pos g2]; rfl)
            have t2 : ((c.toNat : Int) == 45) = true := tT 45 g2 (by omega)
            clear hV hsg g1 g2
            go_wp2_with fail
            go_quiet ((go_at_call 46; exact Calls.quiet_of_same (HC.out _)))
            go_wp2_with fail
            go_ret2
            exact ⟨by rw [HV.out]; rfl, Below.drews HB.out _⟩
          · have HV : Hid (optP (zoneV s.data.toList) = .tuple #[.int .i64 0, .bool false]) := hide (by rw [hV, hsg, if_neg g1, if_neg g2]; rfl)
            have t2 : ((c.toNat : Int) == 45) = false := tF 45 g2 (by omega)
            clear hV hsg g1 g2
            go_wp2_with fail
            go_quiet ((go_at_call 46; exact Calls.quiet_of_same (HC.out _)))
            go_wp2_with fail
            go_ret2
            exact ⟨by rw [HV.out]; rfl, Below.drews HB.out _⟩
      · have HV : Hid (optP (zoneV s.data.toList) = .tuple #[.int .i64 0, .bool false]) := hide (by rw [hV, sign_no _ (by rw [toList_length]; exact h5)]; rfl)
        have t5 : ((s.size : Int) != 5) = true := by rw [bne_iff_ne]; omega
        clear hV h5
        go_wp2_with fail
        go_ret2
        exact ⟨by rw [HV.out]; rfl, HB.out⟩
end Go.Proofs.YtiojfknphpnlhaaDoor
