/- WALKS of ascii.digit, ascii.FromHex, ascii.Hex. No statement is proved here. -/
import Derived.Test.YtienjpelmbldpaaHexP
namespace Go.Proofs.Ytienjpelmbldpaa
open Go.RowKit
set_option linter.unusedVariables false
set_option linter.unusedSimpArgs false

set_option maxHeartbeats 1000000 in
theorem digit_any (c : UInt8) (w : World) :
    Calls Try.prog 32 #[.int .u8 c.toNat] w fun e w' => e = .returned (digV (hexN c)) ∧ Below w.heap.size w w' := by
  have hc := byte_lt c
  have hlen : ∀ d : UInt8, hexDigits.idxOf d ≤ 16 := fun d => List.idxOf_le_length
  have HL := hide hlen
  clear hlen
  have hcase : ∃ d n, (n : Nat) = c.toNat ∧ d.toNat < 256 ∧ hexN c = hexDigits.idxOf d ∧ ((n = d.toNat + 32 ∧ 97 ≤ d.toNat + 32 ∧ d.toNat + 32 ≤ 102) ∨ n = d.toNat ∧ (¬ 97 ≤ d.toNat ∨ 97 ≤ d.toNat ∧ ¬ d.toNat ≤ 102)) := by
    rcases upHex_case c with ⟨h1, h2, h3, h4⟩ | ⟨h1, h2⟩
    · exact ⟨c - 32, c.toNat, rfl, byte_lt _, by unfold hexN; rw [h3], .inl ⟨by omega, by omega, by omega⟩⟩
    · exact ⟨c, c.toNat, rfl, byte_lt _, by unfold hexN; rw [h2], .inr ⟨rfl, by omega⟩⟩
  obtain ⟨d, n, hn, hd, hE, hcase⟩ := hcase
  rw [hE, ← hn]
  clear hn hE hc
  rcases hcase with ⟨rfl, h1, h2⟩ | ⟨rfl, h1 | ⟨h1, h2⟩⟩
  all_goals
    go_enter Try.func32, Try.ntmps32
    go_wp2
    go_loopw [4] (fun _ wr => ∃ pos : Nat, pos ≤ 16 ∧ wr = w.iter ⟨#[48, 49, 50, 51, 52, 53, 54, 55, 56, 57, 65, 66, 67, 68, 69, 70]⟩ pos ∧ hexDigits.idxOf d = pos + (hexDigits.drop pos).idxOf d) (fun _ wr => 16 - wr.iterPos w.heap.size)
    case atStart => exact ⟨0, by omega, rfl, by simp⟩
    case round =>
      obtain ⟨pos, hpos, rfl, hi⟩ := hrel
      have HI := hide hi
      clear hi
      by_cases hp : pos < 16
      · obtain ⟨x, hx, hx1, hnx⟩ := next_ascii (P := Try.prog) w ⟨#[48, 49, 50, 51, 52, 53, 54, 55, 56, 57, 65, 66, 67, 68, 69, 70]⟩ pos hp (by decide +kernel)
        have HX := hide hx
        clear hx
        by_cases he : x = d
        · subst he
          have HN := hide (idx_eq HX.out)
          go_wp2
          go_ret2
          have e : hexDigits.idxOf x = pos := by
            have h1 := HI.out
            have h2 := HN.out
            have h3 : List.idxOf x (List.drop pos hexDigits) = 0 := h2
            omega
          refine ⟨?_, iter_below _ _ _⟩
          rw [e]
          simp [digV, hp]
        · have HN := hide (idx_ne HX.out he)
          have t : ((x.toNat : Int) == d.toNat) = false := by
            rw [beq_eq_false_iff_ne]; intro e; exact he (UInt8.toNat_inj.1 (by omega))
          have HE := hide he
          clear he
          go_wp2
          go_roundw
          case rel =>
            refine ⟨pos + 1, by omega, rfl, ?_⟩
            have h1 := HI.out
            have h2 := HN.out
            have h3 : List.idxOf d (List.drop pos hexDigits) = List.idxOf d (List.drop (pos + 1) hexDigits) + 1 := h2
            omega
          case measure => simp; omega
      · have hnx : ∀ ty, (Instr.next (.pointer (some ⟨w.heap.size, 0, none⟩)) true ty).run Try.prog (w.iter ⟨#[48, 49, 50, 51, 52, 53, 54, 55, 56, 57, 65, 66, 67, 68, 69, 70]⟩ pos) = _ := fun ty => run_next_end w _ pos ty (by exact hp)
        go_wp2
        go_ret2
        have e : hexDigits.idxOf d = 16 := by
          have h1 := HI.out
          have h2 := HL.out d
          omega
        refine ⟨?_, iter_below _ _ _⟩
        rw [e]
        simp [digV]


set_option maxHeartbeats 1000000 in
theorem fromHex_any (s : ByteArray) (w : World) (hs : s.size ≤ maxLen) :
    Calls Try.prog 27 #[.string s] w fun e w' => e = .returned (fromHexV s.data.toList) ∧ Below w.heap.size w w' := by
  unfold maxLen at hs
  by_cases h2 : 1 < s.size
  · have e := drop_cons s 0 (by omega)
    rw [List.drop_zero, drop_cons s 1 h2] at e
    have hV : fromHexV s.data.toList = if hexN s[0] < 16 ∧ hexN s[1] < 16 then .tuple #[.int .u8 ((16 * hexN s[0] + hexN s[1] : Nat)), .bool true] else .tuple #[.int .u8 0, .bool false] := by
      unfold fromHexV
      rw [e, hex2]
      by_cases hh : hexN s[0] < 16 ∧ hexN s[1] < 16
      · rw [if_pos hh, if_pos hh]
        simp only [Option.elim, Option.isSome]
        congr 4
        rw [UInt8.toNat_ofNat']
        omega
      · rw [if_neg hh, if_neg hh]; rfl
    have HV := hide hV
    clear hV e
    rcases hexV (hexN s[0]) with ⟨a1, a2⟩ | ⟨a1, a2⟩
    all_goals rcases hexV (hexN s[1]) with ⟨b1, b2⟩ | ⟨b1, b2⟩
    all_goals
      have HA := hide a2
      have HB := hide b2
      clear a2 b2
    · have HO := hide (or_nibbles _ _ a1 b1)
      go_enter Try.func27, Try.ntmps27
      go_wp2_with fail
      refine (digit_any _ _).mono ?_
      rintro e w1 ⟨rfl, hb1⟩
      rw [HA.out]
      go_wp2_with fail
      refine (digit_any _ _).mono ?_
      rintro e w2 ⟨rfl, hb2⟩
      rw [HB.out]
      go_wp2_with fail
      go_ret2
      rw [HO.out]
      exact ⟨by rw [HV.out, if_pos ⟨a1, b1⟩]; rfl, hb1.trans (hb2.mono hb1.size)⟩
    all_goals
      go_enter Try.func27, Try.ntmps27
      go_wp2_with fail
      refine (digit_any _ _).mono ?_
      rintro e w1 ⟨rfl, hb1⟩
      rw [HA.out]
      go_wp2_with fail
      refine (digit_any _ _).mono ?_
      rintro e w2 ⟨rfl, hb2⟩
      rw [HB.out]
      go_wp2_with fail
      go_ret2
      exact ⟨by rw [HV.out, if_neg (fun h => by first | exact a1 h.1 | exact b1 h.2)]; rfl, hb1.trans (hb2.mono hb1.size)⟩
  · have hV : fromHexV s.data.toList = .tuple #[.int .u8 0, .bool false] := by
      unfold fromHexV
      have : hex2 s.data.toList = none := by
        cases hx : hex2 s.data.toList with
        | none => rfl
        | some b => have := hex2_len hx; rw [toList_length] at this; omega
      rw [this]; rfl
    have HV := hide hV
    clear hV
    go_enter Try.func27, Try.ntmps27
    go_wp2_with fail
    go_ret2
    exact ⟨by rw [HV.out]; rfl, Below.refl _ _⟩
end Go.Proofs.Ytienjpelmbldpaa
