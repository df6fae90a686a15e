/- WALK of ent.signOf. No statement is proved here. -/
import Derived.Test.YtmojckphfbcibaaGreatDoorBaseN
import Derived.Test.YtmojckphfbcibaaGreatDoorCharsD
namespace Go.Proofs.YtmojckphfbcibaaGreatDoor
open Go.RowKit
set_option linter.unusedVariables false
set_option linter.unusedSimpArgs false
set_option maxRecDepth 100000
/-- the sign of a number -/
def signN (n : Nat) : Int := if n = 0 ∨ 1114111 < n ∨ (55296 ≤ n ∧ n ≤ 57343) then 65533 else if 128 ≤ n ∧ n ≤ 159 then winR (UInt8.ofNat n) else n
theorem win_dec (c : UInt8) : (decL (runeL (winR c))).1 = (winR c).toNat ∧ 0 ≤ winR c := by
  have := u8_all (p := fun c => (decL (runeL (winR c))).1 = (winR c).toNat ∧ 0 ≤ winR c) (by decide +kernel) c
  exact this
theorem dec_win (c : UInt8) : Lib.decodeGo (str (runeL (winR c))) = ((winR c).toNat, (decL (runeL (winR c))).2) := by
  have hl := (runeL_length (winR c)).1
  have hz : (str (runeL (winR c))).size ≠ 0 := by rw [str_size]; omega
  unfold Lib.decodeGo
  rw [if_neg hz, decode_decL _ _ (by omega), List.drop_zero, str_toList]
  exact Prod.ext (win_dec c).1 rfl
theorem signN_window {n : Nat} (h1 : 128 ≤ n) (h2 : n ≤ 159) : signN n = winR (UInt8.ofNat n) := by
  unfold signN; rw [if_neg (by omega), if_pos ⟨h1, h2⟩]
theorem signN_bad {n : Nat} (h : n = 0 ∨ 1114111 < n ∨ (55296 ≤ n ∧ n ≤ 57343)) : signN n = 65533 := by unfold signN; rw [if_pos h]
theorem signN_own {n : Nat} (h : ¬ (n = 0 ∨ 1114111 < n ∨ (55296 ≤ n ∧ n ≤ 57343))) (h' : ¬ (128 ≤ n ∧ n ≤ 159)) : signN n = n := by unfold signN; rw [if_neg h, if_neg h']
theorem tabs_lt {w : World} (h : Lib.Utf8Tabs 4 5 w) : 4 < w.heap.size ∧ 5 < w.heap.size :=
  ⟨World.block_lt_of_cell? _ _ (h.1 0 (by decide)), World.block_lt_of_cell? _ _ (h.2 0 (by decide)).1⟩
theorem tabs_kept {w w' : World} (h : Lib.Utf8Tabs 4 5 w) (hb : Below w.heap.size w w') : Lib.Utf8Tabs 4 5 w' := by
  obtain ⟨l1, l2⟩ := tabs_lt h
  exact ⟨fun c hc => (hb.cell (p := ⟨4, c, none⟩) l1).trans (h.1 c hc), fun i hi => ⟨(hb.cell (p := ⟨5, 2 * i, none⟩) l2).trans (h.2 i hi).1, (hb.cell (p := ⟨5, 2 * i + 1, none⟩) l2).trans (h.2 i hi).2⟩⟩
theorem kind_win : kindL [119, 105, 110, 100, 111, 119, 115, 45, 49, 50, 53, 50] = 2 := by decide +kernel
set_option maxHeartbeats 4000000 in
theorem signOf_any (n : Nat) (w : World) (hn : n < 2147483648) (hT : Tab w) (hU : Lib.Utf8Tabs 4 5 w) :
    Calls Tryz.prog 89 #[.int .i32 n] w fun e w' => e = .returned (.int .i32 (signN n)) ∧ Below w.heap.size w w' := by
  by_cases c0 : n = 0
  · have HR : Hid (signN n = 65533) := hide (signN_bad (.inl c0))
    subst c0
    go_enter Tryz.func89, Tryz.ntmps89
    go_wp2_with fail
    go_ret
    exact ⟨by rw [HR.out]; rfl, Below.refl _ _⟩
  have t0 : ((n : Int) == 0) = false := beq_eq_false_iff_ne.2 (by omega)
  by_cases c1 : 1114111 < n
  · have HR : Hid (signN n = 65533) := hide (signN_bad (.inr (.inl c1)))
    have t1 : decide ((1114111 : Int) < n) = true := decide_eq_true (by omega)
    clear c0
    go_enter Tryz.func89, Tryz.ntmps89
    go_wp2_with fail
    go_ret
    exact ⟨by rw [HR.out]; rfl, Below.refl _ _⟩
  have t1 : decide ((1114111 : Int) < n) = false := decide_eq_false (by omega)
  by_cases c2 : 55296 ≤ n
  · have t2 : decide ((55296 : Int) ≤ n) = true := decide_eq_true (by omega)
    by_cases c3 : n ≤ 57343
    · have HR : Hid (signN n = 65533) := hide (signN_bad (.inr (.inr ⟨c2, c3⟩)))
      have t3 : decide ((n : Int) ≤ 57343) = true := decide_eq_true (by omega)
      clear c0 c1 c2 c3
      go_enter Tryz.func89, Tryz.ntmps89
      go_wp2_with fail
      go_ret
      exact ⟨by rw [HR.out]; rfl, Below.refl _ _⟩
    · have HR : Hid (signN n = n) := hide (signN_own (by omega) (by omega))
      have t3 : decide ((n : Int) ≤ 57343) = false := decide_eq_false (by omega)
      have t4 : decide ((128 : Int) ≤ n) = true := decide_eq_true (by omega)
      have t5 : decide ((n : Int) ≤ 159) = false := decide_eq_false (by omega)
      clear c0 c1 c2 c3
      go_enter Tryz.func89, Tryz.ntmps89
      go_wp2_with fail
      go_ret
      exact ⟨by rw [HR.out]; rfl, Below.refl _ _⟩
  have t2 : decide ((55296 : Int) ≤ n) = false := decide_eq_false (by omega)
  by_cases c4 : 128 ≤ n
  · have t4 : decide ((128 : Int) ≤ n) = true := decide_eq_true (by omega)
    by_cases c5 : n ≤ 159
    · have t5 : decide ((n : Int) ≤ 159) = true := decide_eq_true (by omega)
      obtain ⟨c, hc⟩ : ∃ c, c = UInt8.ofNat n := ⟨_, rfl⟩
      have hcn : c.toNat = n := by rw [hc, UInt8.toNat_ofNat', Nat.mod_eq_of_lt (by omega)]
      have HR : Hid (signN n = winR c) := hide (by rw [hc]; exact signN_window c4 c5)
      have x1 : IntKind.u8.wrap (n : Int) = (n : Int) := IntWalk.u8_in _ (by omega)
      have hbs : strOfNums [(n : Int)] = ⟨#[c]⟩ := by rw [← hcn]; apply ext_list; rw [nums_list]; simp
      have hcv := conv1 w (n : Int)
      rw [hbs] at hcv
      have HD := hide (fun w1 (h1 : Tab w1) => charsDecode_any ⟨#[119, 105, 110, 100, 111, 119, 115, 45, 49, 50, 53, 50]⟩ ⟨#[c]⟩ w1 (by decide) (by show (⟨#[c]⟩ : ByteArray).size ≤ _; rw [show (⟨#[c]⟩ : ByteArray).size = 1 from rfl]; decide) h1)
      have eD : decV (kindL (⟨#[119, 105, 110, 100, 111, 119, 115, 45, 49, 50, 53, 50]⟩ : ByteArray).data.toList) (⟨#[c]⟩ : ByteArray).data.toList = .tuple #[.string (str (runeL (winR c))), .bool true] := by
        rw [show (⟨#[119, 105, 110, 100, 111, 119, 115, 45, 49, 50, 53, 50]⟩ : ByteArray).data.toList = [119, 105, 110, 100, 111, 119, 115, 45, 49, 50, 53, 50] from rfl, kind_win]
        show Value.tuple #[.string (str (winL [c])), .bool true] = _
        rw [winL_cons]
        show Value.tuple #[.string (str (runeL (winR c) ++ [])), .bool true] = _
        rw [List.append_nil]
      rw [eD] at HD
      have HU := hide (fun w1 h1 => Tryz.utf8_DecodeRuneInString (str (runeL (winR c))) w1 h1)
      rw [dec_win] at HU
      have hp : ((winR c).toNat : Int) = winR c := Int.toNat_of_nonneg (win_dec c).2
      rw [show (((winR c).toNat, (decL (runeL (winR c))).2) : Nat × Nat).1 = (winR c).toNat from rfl, hp] at HU
      have KB : Hid (Below w.heap.size w (w.alloc (.cells #[.int .u8 (n : Int)] 5))) := hide ((Below.refl _ _).alloc (Nat.le_refl _) _)
      have HT := hide (hT.below KB.out hT.lt)
      have HTU := hide hU
      obtain ⟨S, hS⟩ : ∃ S, str (runeL (winR c)) = S := ⟨_, rfl⟩
      obtain ⟨R, hR⟩ : ∃ R, winR c = R := ⟨_, rfl⟩
      rw [hS] at HD HU
      rw [hR] at HU HR
      clear c0 c1 c2 c4 c5 hc hcn hbs eD hp hS hR hT hU
      go_enter Tryz.func89, Tryz.ntmps89
      go_wp2_with (first
        | (go_at_call 110; refine (HD.out _ HT.out).mono ?_; rintro e w1 ⟨rfl, hb1⟩; have HB1 := hide (KB.out.trans (hb1.mono KB.out.size)); clear hb1)
        | (go_at_call 111; refine (HU.out _ (tabs_kept HTU.out HB1.out)).mono ?_; rintro e w2 ⟨rfl, hb2⟩; have HB2 := hide (HB1.out.trans (hb2.mono HB1.out.size)); clear hb2))
      go_ret
      exact ⟨by rw [HR.out]; rfl, HB2.out⟩
    · have HR : Hid (signN n = n) := hide (signN_own (by omega) (by omega))
      have t5 : decide ((n : Int) ≤ 159) = false := decide_eq_false (by omega)
      clear c0 c1 c2 c4 c5
      go_enter Tryz.func89, Tryz.ntmps89
      go_wp2_with fail
      go_ret
      exact ⟨by rw [HR.out]; rfl, Below.refl _ _⟩
  · have HR : Hid (signN n = n) := hide (signN_own (by omega) (by omega))
    have t4 : decide ((128 : Int) ≤ n) = false := decide_eq_false (by omega)
    clear c0 c1 c2 c4
    go_enter Tryz.func89, Tryz.ntmps89
    go_wp2_with fail
    go_ret
    exact ⟨by rw [HR.out]; rfl, Below.refl _ _⟩
end Go.Proofs.YtmojckphfbcibaaGreatDoor
