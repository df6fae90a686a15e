/- WALK of the reference's Encode for pct. No statement is proved here. -/
import Derived.Test.YtienjpelmbldpaaGreatDoorRef02D
import Derived.Test.YtienjpelmbldpaaGreatDoorPctRef
namespace Go.Proofs.YtienjpelmbldpaaGreatDoor
open Go.RowKit
set_option linter.unusedVariables false
set_option linter.unusedSimpArgs false

/-- the tests of a byte as the reference spells them -/
theorem stay_ref (c : UInt8) : (letterB c = true ∧ pSign c = [c]) ∨ (letterB c = false ∧ digitB c = true ∧ pSign c = [c]) ∨ (letterB c = false ∧ digitB c = false ∧ ((c = 45 ∧ pSign c = [c]) ∨ (c ≠ 45 ∧ ((c = 46 ∧ pSign c = [c]) ∨ (c ≠ 46 ∧ ((c = 95 ∧ pSign c = [c]) ∨ (c ≠ 95 ∧ ((c = 126 ∧ pSign c = [c]) ∨ (c ≠ 126 ∧ pSign c = [37, hexHi c, hexLo c]))))))))) :=
  u8_all (p := fun c => (letterB c = true ∧ pSign c = [c]) ∨ (letterB c = false ∧ digitB c = true ∧ pSign c = [c]) ∨ (letterB c = false ∧ digitB c = false ∧ ((c = 45 ∧ pSign c = [c]) ∨ (c ≠ 45 ∧ ((c = 46 ∧ pSign c = [c]) ∨ (c ≠ 46 ∧ ((c = 95 ∧ pSign c = [c]) ∨ (c ≠ 95 ∧ ((c = 126 ∧ pSign c = [c]) ∨ (c ≠ 126 ∧ pSign c = [37, hexHi c, hexLo c])))))))))) (by decide +kernel) c

theorem penc_round' {T acc L : List UInt8} {c : UInt8} {r : List UInt8} (h : acc ++ penc L = T) (hc : L = c :: r) : (acc ++ pSign c) ++ penc r = T := by
  subst hc; rw [← h, penc_cons, List.append_assoc]

set_option maxRecDepth 100000 in
set_option maxHeartbeats 4000000 in
theorem refEncode03_any (s : ByteArray) (w : World) (hs : s.size ≤ 1048576) :
    Calls Tryz.prog 38 #[.string s] w fun e w' => e = .returned (.string (str (penc s.data.toList))) ∧ Below w.heap.size w w' := by
  have hb0 : Buf w.heap.size (.slice none 0 0) [] w w := Buf.nil (Below.refl _ _) (Nat.le_refl _)
  have HB0 := hide hb0
  clear hb0
  go_enter Tryz.func38, Tryz.ntmps38
  go_wp2
  go_loopw [3, 4] (fun v i wr => ∃ (k : Nat) (acc : List UInt8), k ≤ s.size ∧ i = .int .i64 k ∧ Buf w.heap.size v acc w wr ∧ acc.length ≤ 3 * k ∧ acc ++ penc (s.data.toList.drop k) = penc s.data.toList) (fun _ i _ => s.size - (intOf i).toNat)
  case atStart => exact ⟨0, [], Nat.zero_le _, rfl, HB0.out, Nat.le_refl _, by simp⟩
  case round =>
    obtain ⟨k, acc, hk, rfl, hb, hacc, hd⟩ := hrel
    have HB := hide hb
    clear hb
    by_cases hlt : k < s.size
    · have hR := penc_round' hd (drop_cons s k hlt)
      clear hd
      have hcase := stay_ref s[k]
      generalize hc : s[k] = c at hR hcase
      rcases hcase with ⟨p1, p⟩ | ⟨p1, p2, p⟩ | ⟨p1, p2, ⟨h, p⟩ | ⟨h1, ⟨h, p⟩ | ⟨h2, ⟨h, p⟩ | ⟨h3, ⟨h, p⟩ | ⟨h4, p⟩⟩⟩⟩⟩
      · rw [p] at hR
        have P1 := hide p1
        clear p1 p
        have HR := hide hR
        clear hR
        go_wp2_with fail
        refine (letter_any c _).mono ?_
        rintro e w1 ⟨rfl, rfl⟩
        rw [P1.out]
        go_wp2_with (refine wpList_buf_byte rfl _ _ rfl w.heap.size u3 acc rfl w wr c HB.out rfl (by omega) ?_; intro v2 w2 hb2; have HB2 := hide hb2; clear hb2)
        go_roundw
        case rel => exact ⟨k + 1, acc ++ [c], by omega, by go_num, HB2.out, by simp; omega, HR.out⟩
        case measure => simp [intOf]; omega
      · rw [p] at hR
        have P1 := hide p1
        clear p1 p
        have P2 := hide p2
        clear p2
        have HR := hide hR
        clear hR
        go_wp2_with fail
        refine (letter_any c _).mono ?_
        rintro e w1 ⟨rfl, rfl⟩
        rw [P1.out]
        go_wp2_with fail
        refine (digit03_any c _).mono ?_
        rintro e w1 ⟨rfl, rfl⟩
        rw [P2.out]
        go_wp2_with (refine wpList_buf_byte rfl _ _ rfl w.heap.size u3 acc rfl w wr c HB.out rfl (by omega) ?_; intro v2 w2 hb2; have HB2 := hide hb2; clear hb2)
        go_roundw
        case rel => exact ⟨k + 1, acc ++ [c], by omega, by go_num, HB2.out, by simp; omega, HR.out⟩
        case measure => simp [intOf]; omega
      · rw [p] at hR
        have P1 := hide p1
        clear p1 p
        have P2 := hide p2
        clear p2
        subst h
        have HR := hide hR
        clear hR
        go_wp2_with fail
        refine (letter_any 45 _).mono ?_
        rintro e w1 ⟨rfl, rfl⟩
        rw [P1.out]
        go_wp2_with fail
        refine (digit03_any 45 _).mono ?_
        rintro e w1 ⟨rfl, rfl⟩
        rw [P2.out]
        go_wp2_with (refine wpList_buf_const rfl _ _ rfl w.heap.size u3 acc rfl w wr 45 45 rfl HB.out rfl (by omega) ?_; intro v2 w2 hb2 hk2; have HB2 := hide hb2; clear hb2 hk2)
        go_roundw
        case rel => exact ⟨k + 1, acc ++ [45], by omega, by go_num, HB2.out, by simp; omega, HR.out⟩
        case measure => simp [intOf]; omega
      · rw [p] at hR
        have P1 := hide p1
        clear p1 p
        have P2 := hide p2
        clear p2
        have t0 : ((c.toNat : Int) == 45) = false := tF 45 h1 (by omega)
        clear h1
        subst h
        have HR := hide hR
        clear hR
        go_wp2_with fail
        refine (letter_any 46 _).mono ?_
        rintro e w1 ⟨rfl, rfl⟩
        rw [P1.out]
        go_wp2_with fail
        refine (digit03_any 46 _).mono ?_
        rintro e w1 ⟨rfl, rfl⟩
        rw [P2.out]
        go_wp2_with (refine wpList_buf_const rfl _ _ rfl w.heap.size u3 acc rfl w wr 46 46 rfl HB.out rfl (by omega) ?_; intro v2 w2 hb2 hk2; have HB2 := hide hb2; clear hb2 hk2)
        go_roundw
        case rel => exact ⟨k + 1, acc ++ [46], by omega, by go_num, HB2.out, by simp; omega, HR.out⟩
        case measure => simp [intOf]; omega
      · rw [p] at hR
        have P1 := hide p1
        clear p1 p
        have P2 := hide p2
        clear p2
        have t0 : ((c.toNat : Int) == 45) = false := tF 45 h1 (by omega)
        clear h1
        have t1 : ((c.toNat : Int) == 46) = false := tF 46 h2 (by omega)
        clear h2
        subst h
        have HR := hide hR
        clear hR
        go_wp2_with fail
        refine (letter_any 95 _).mono ?_
        rintro e w1 ⟨rfl, rfl⟩
        rw [P1.out]
        go_wp2_with fail
        refine (digit03_any 95 _).mono ?_
        rintro e w1 ⟨rfl, rfl⟩
        rw [P2.out]
        go_wp2_with (refine wpList_buf_const rfl _ _ rfl w.heap.size u3 acc rfl w wr 95 95 rfl HB.out rfl (by omega) ?_; intro v2 w2 hb2 hk2; have HB2 := hide hb2; clear hb2 hk2)
        go_roundw
        case rel => exact ⟨k + 1, acc ++ [95], by omega, by go_num, HB2.out, by simp; omega, HR.out⟩
        case measure => simp [intOf]; omega
      · rw [p] at hR
        have P1 := hide p1
        clear p1 p
        have P2 := hide p2
        clear p2
        have t0 : ((c.toNat : Int) == 45) = false := tF 45 h1 (by omega)
        clear h1
        have t1 : ((c.toNat : Int) == 46) = false := tF 46 h2 (by omega)
        clear h2
        have t2 : ((c.toNat : Int) == 95) = false := tF 95 h3 (by omega)
        clear h3
        subst h
        have HR := hide hR
        clear hR
        go_wp2_with fail
        refine (letter_any 126 _).mono ?_
        rintro e w1 ⟨rfl, rfl⟩
        rw [P1.out]
        go_wp2_with fail
        refine (digit03_any 126 _).mono ?_
        rintro e w1 ⟨rfl, rfl⟩
        rw [P2.out]
        go_wp2_with (refine wpList_buf_const rfl _ _ rfl w.heap.size u3 acc rfl w wr 126 126 rfl HB.out rfl (by omega) ?_; intro v2 w2 hb2 hk2; have HB2 := hide hb2; clear hb2 hk2)
        go_roundw
        case rel => exact ⟨k + 1, acc ++ [126], by omega, by go_num, HB2.out, by simp; omega, HR.out⟩
        case measure => simp [intOf]; omega
      · rw [p] at hR
        have P1 := hide p1
        clear p1 p
        have P2 := hide p2
        clear p2
        have t0 : ((c.toNat : Int) == 45) = false := tF 45 h1 (by omega)
        clear h1
        have t1 : ((c.toNat : Int) == 46) = false := tF 46 h2 (by omega)
        clear h2
        have t2 : ((c.toNat : Int) == 95) = false := tF 95 h3 (by omega)
        clear h3
        have t3 : ((c.toNat : Int) == 126) = false := tF 126 h4 (by omega)
        clear h4
        have hsz : (str [hexHi c, hexLo c]).size = 2 := rfl
        have hl1 : (acc ++ [(37 : UInt8)]).length = acc.length + 1 := by simp
        have HR := hide hR
        clear hR
        go_wp2_with fail
        refine (letter_any c _).mono ?_
        rintro e w1 ⟨rfl, rfl⟩
        rw [P1.out]
        go_wp2_with fail
        refine (digit03_any c _).mono ?_
        rintro e w1 ⟨rfl, rfl⟩
        rw [P2.out]
        go_wp2_with (first
          | (refine wpList_buf_const rfl _ _ rfl w.heap.size u3 acc rfl w wr 37 37 rfl HB.out rfl (by omega) ?_; intro v2 w2 hb2 hk2; have HB2 := hide hb2; clear hb2 hk2)
          | (go_at_call 58; refine (refDigits_any c _).mono ?_; rintro e w3 ⟨rfl, hb3⟩; have HB3 := hide (HB2.out.kept hb3); clear hb3)
          | (refine wpList_buf_text rfl _ _ rfl w.heap.size v2 (acc ++ [37]) rfl w HB3.out (str [hexHi c, hexLo c]) rfl (by omega) ?_; intro v4 w4 hb4; rw [str_toList] at hb4; have HB4 := hide hb4; clear hb4))
        go_roundw
        case rel => exact ⟨k + 1, acc ++ [37] ++ [hexHi c, hexLo c], by omega, by go_num, HB4.out, by simp; omega, by rw [← HR.out]; simp⟩
        case measure => simp [intOf]; omega
    · have hcv := HB.out.convert
      go_wp2
      go_ret
      refine ⟨?_, HB.out.below⟩
      rw [drop_nil s k (by omega), penc_nil, List.append_nil] at hd
      exact ret_str (by rw [hd])

end Go.Proofs.YtienjpelmbldpaaGreatDoor
