/- WALKS of chars.number, firstSign, fromPairs. No statement is proved here. -/
import Derived.Test.YtcmmbceacjechaaGreatDoorRune
import Derived.Deep.Cut
namespace Go.Proofs.YtcmmbceacjechaaGreatDoor
open Go.RowKit
set_option linter.unusedVariables false
set_option linter.unusedSimpArgs false

theorem or_bytes (a b : Nat) (ha : a < 256) (hb : b < 256) : bits .or .i32 ((a : Int) * 256) (b : Int) = ((256 * a + b : Nat) : Int) := by
  have h1 : (BitVec.ofInt 32 ((a : Int) * 256)).toNat = a * 256 := by
    rw [show (a : Int) * 256 = ((a * 256 : Nat) : Int) from by omega, BitVec.ofInt_natCast, BitVec.toNat_ofNat]; exact Nat.mod_eq_of_lt (by omega)
  have h2 : (BitVec.ofInt 32 (b : Int)).toNat = b := by
    rw [BitVec.ofInt_natCast, BitVec.toNat_ofNat]; exact Nat.mod_eq_of_lt (by omega)
  show IntKind.i32.wrap ((BitVec.ofInt 32 ((a : Int) * 256) ||| BitVec.ofInt 32 (b : Int)).toNat : Int) = _
  rw [BitVec.toNat_or, h1, h2]
  have e : a * 256 ||| b = 256 * a + b := by
    have := Nat.two_pow_add_eq_or_of_lt (i := 8) (b := b) (by omega) a
    rw [Nat.mul_comm a 256]
    exact this.symm
  rw [e]
  exact IntWalk.i32_in _ (by omega)

/-- the place of the higher byte -/
def hiAt (big : Bool) : Int := if big then 0 else 1
set_option maxHeartbeats 1000000 in
theorem number_any (s : ByteArray) (big : Bool) (w : World) (hs : s.size ≤ maxLen) (h2 : 1 < s.size) :
    Calls Tryz.prog 244 #[.string s, .int .i64 (hiAt big)] w fun e w' => e = .returned (.int .i32 (num big s[0] s[1])) ∧ Below w.heap.size w w' := by
  unfold maxLen at hs
  have ha := byte_lt s[0]
  have hb := byte_lt s[1]
  have i0 : (0 : Int) < s.size := by omega
  have i1 : (1 : Int) < s.size := by omega
  have n0 : 0 < s.size := by omega
  cases big
  · have ho := or_bytes s[1].toNat s[0].toNat hb ha
    show Calls _ _ #[.string s, .int .i64 1] _ _
    go_enter Tryz.func244, Tryz.ntmps244
    go_wp2_with fail
    go_region
    all_goals (try go_wp2)
    all_goals
      go_ret
      exact ⟨ret_int (by unfold num; simp), (Below.refl _ _).drew⟩
  · have ho := or_bytes s[0].toNat s[1].toNat ha hb
    show Calls _ _ #[.string s, .int .i64 0] _ _
    go_enter Tryz.func244, Tryz.ntmps244
    go_wp2_with fail
    go_region
    all_goals (try go_wp2)
    all_goals
      go_ret
      exact ⟨ret_int (by unfold num; simp), (Below.refl _ _).drew⟩
theorem number_list (s : ByteArray) (big : Bool) (a b : UInt8) (r : List UInt8) (w : World) (hs : s.size ≤ maxLen) (h : s.data.toList = a :: b :: r) :
    Calls Tryz.prog 244 #[.string s, .int .i64 (hiAt big)] w fun e w' => e = .returned (.int .i32 (num big a b)) ∧ Below w.heap.size w w' := by
  have hl := toList_length s
  rw [h] at hl
  simp only [List.length_cons] at hl
  have h1 : 1 < s.size := by omega
  have e := drop_cons s 0 (by omega)
  rw [List.drop_zero, drop_cons s 1 h1, h] at e
  injection e with e1 e
  injection e with e2 e
  have := number_any s big w hs h1
  rw [← e1, ← e2] at this
  exact this

/-- what firstSign answers -/
def fsV (big : Bool) (l : List UInt8) : Value := .tuple #[.int .i32 (fsS big l).1, .int .i64 (fsS big l).2]
theorem fsV_of {big : Bool} {l : List UInt8} {z : Int} {n : Nat} (h : fsS big l = (z, n)) : fsV big l = .tuple #[.int .i32 z, .int .i64 n] := by unfold fsV; rw [h]
set_option maxRecDepth 100000 in
set_option maxHeartbeats 2000000 in
theorem firstSign_any (s : ByteArray) (big : Bool) (w : World) (hs : s.size ≤ maxLen) (h2 : 1 < s.size) :
    Calls Tryz.prog 233 #[.string s, .int .i64 (hiAt big)] w fun e w' => e = .returned (fsV big s.data.toList) ∧ Below w.heap.size w w' := by
  have hs' := hs
  unfold maxLen at hs
  obtain ⟨a, b, r, hl⟩ : ∃ a b r, s.data.toList = a :: b :: r := by
    have e := drop_cons s 0 (by omega)
    rw [List.drop_zero, drop_cons s 1 h2] at e
    exact ⟨_, _, _, e⟩
  have hlen := toList_length s
  rw [hl] at hlen
  simp only [List.length_cons] at hlen
  have HN := hide (fun (w : World) => number_list s big a b r w hs' hl)
  have hlt := num_lt big a b
  obtain ⟨x, hx⟩ : ∃ x, x = num big a b := ⟨_, rfl⟩
  rw [hl]
  have hi : ∃ z, z = hiAt big := ⟨_, rfl⟩
  obtain ⟨z, hz⟩ := hi
  rw [← hz]
  have HZ := hide hz
  rw [← hz, ← hx] at HN
  rw [← hx] at hlt
  have HX := hide hx
  clear hx hz
  by_cases c1 : x < 55296
  · have HV := hide (fsV_of (big := big) (l := a :: b :: r) (z := x) (n := 2) (by rw [fsS, ← HX.out, if_pos (.inl c1)]))
    clear hlen
    go_enter Tryz.func233, Tryz.ntmps233
    go_wp2_with fail
    refine (HN.out _).mono ?_
    rintro e w1 ⟨rfl, hb1⟩
    go_wp2_with fail
    go_ret2
    exact ⟨by rw [HV.out]; rfl, hb1⟩
  by_cases c2 : 57344 ≤ x
  · have HV := hide (fsV_of (big := big) (l := a :: b :: r) (z := x) (n := 2) (by rw [fsS, ← HX.out, if_pos (.inr c2)]))
    clear hlen
    go_enter Tryz.func233, Tryz.ntmps233
    go_wp2_with fail
    refine (HN.out _).mono ?_
    rintro e w1 ⟨rfl, hb1⟩
    go_wp2_with fail
    go_ret2
    exact ⟨by rw [HV.out]; rfl, hb1⟩
  have c12 : ¬ (x < 55296 ∨ 57344 ≤ x) := by omega
  have t1 : decide ((x : Int) < 55296) = false := decide_eq_false (by omega)
  have t2 : decide ((57344 : Int) ≤ x) = false := decide_eq_false (by omega)
  have C12 := hide c12
  have K1 : Hid (55296 ≤ x) := hide (by omega)
  clear c12 c1 c2
  by_cases c3 : x < 56320
  · have t3 : decide ((x : Int) < 56320) = true := decide_eq_true (by omega)
    have C3 := hide c3
    clear c3
    by_cases c4 : 3 < s.size
    · have t4 : decide ((3 : Int) < s.size) = true := decide_eq_true (by omega)
      have s2 : (2 : Int) ≤ s.size := by omega
      obtain ⟨c, d, r', hr⟩ : ∃ c d r', r = c :: d :: r' := by
        match r, hlen with
        | c :: d :: r', _ => exact ⟨c, d, r', rfl⟩
        | [c], h => simp at h; omega
        | [], h => simp at h; omega
      subst hr
      have hx2 : (s.extract 2 s.size).data.toList = c :: d :: r' := by rw [extract_end, hl]; rfl
      have HN2 := hide (fun (w : World) => number_list (s.extract 2 s.size) big c d r' w (by have := extract_size_le s 2 s.size; unfold maxLen; omega) hx2)
      have hlt2 := num_lt big c d
      obtain ⟨y, hy⟩ : ∃ y, y = num big c d := ⟨_, rfl⟩
      rw [← HZ.out, ← hy] at HN2
      rw [← hy] at hlt2
      have HY := hide hy
      clear hy hx2 hl c4
      by_cases c5 : 56320 ≤ y ∧ y < 57344
      · have HV := hide (fsV_of (big := big) (l := a :: b :: c :: d :: r') (z := pairV x y) (n := 4) (by rw [fsS, ← HX.out, if_neg C12.out, if_pos C3.out, fsT, ← HY.out, if_pos c5]))
        have t5 : decide ((56320 : Int) ≤ y) = true := decide_eq_true (by omega)
        have t6 : decide ((y : Int) < 57344) = true := decide_eq_true (by omega)
        have k1 := K1.out
        have k3 := C3.out
        obtain ⟨k5, k6⟩ := c5
        clear hlen
        go_enter Tryz.func233, Tryz.ntmps233
        go_wp2_with fail
        refine (HN.out _).mono ?_
        rintro e w1 ⟨rfl, hb1⟩
        go_wp2_with fail
        refine (HN2.out _).mono ?_
        rintro e w2 ⟨rfl, hb2⟩
        go_upto_region 7 with (fail)
        clear t1 t2 t3 t4 t5 t6 hlt hlt2 h2 s2 hs'
        go_wp2_with fail
        go_ret2
        refine ⟨?_, hb1.trans (hb2.mono hb1.size)⟩
        rw [HV.out]
        show Ending.returned (.tuple #[.int .i32 _, .int .i64 _]) = _
        congr 5
        unfold pairV; omega
      · have HV := hide (fsV_of (big := big) (l := a :: b :: c :: d :: r') (z := 65533) (n := 2) (by rw [fsS, ← HX.out, if_neg C12.out, if_pos C3.out, fsT, ← HY.out, if_neg c5]))
        have c6 : y < 56320 ∨ (56320 ≤ y ∧ 57344 ≤ y) := by omega
        have c7 : decide ((56320 : Int) ≤ y) = false ∨ (decide ((56320 : Int) ≤ y) = true ∧ decide ((y : Int) < 57344) = false) := by
          rcases c6 with c | ⟨c, c'⟩
          · exact .inl (decide_eq_false (by omega))
          · exact .inr ⟨decide_eq_true (by omega), decide_eq_false (by omega)⟩
        clear c5 c6
        rcases c7 with t5 | ⟨t5, t6⟩
        all_goals
          clear hlen
          go_enter Tryz.func233, Tryz.ntmps233
          go_wp2_with fail
          refine (HN.out _).mono ?_
          rintro e w1 ⟨rfl, hb1⟩
          go_wp2_with fail
          refine (HN2.out _).mono ?_
          rintro e w2 ⟨rfl, hb2⟩
          go_wp2_with fail
          go_ret2
          exact ⟨by rw [HV.out]; rfl, hb1.trans (hb2.mono hb1.size)⟩
    · have HV := hide (fsV_of (big := big) (l := a :: b :: r) (z := 65533) (n := 2) (by
        rw [fsS, ← HX.out, if_neg C12.out, if_pos C3.out]
        match r, hlen with
        | [], _ => rfl
        | [_], _ => rfl
        | _ :: _ :: r', h => simp at h; omega))
      have t4 : decide ((3 : Int) < s.size) = false := decide_eq_false (by omega)
      clear c4
      clear hlen
      go_enter Tryz.func233, Tryz.ntmps233
      go_wp2_with fail
      refine (HN.out _).mono ?_
      rintro e w1 ⟨rfl, hb1⟩
      go_wp2_with fail
      go_ret2
      exact ⟨by rw [HV.out]; rfl, hb1⟩
  · have HV := hide (fsV_of (big := big) (l := a :: b :: r) (z := 65533) (n := 2) (by rw [fsS, ← HX.out, if_neg C12.out, if_neg c3]))
    have t3 : decide ((x : Int) < 56320) = false := decide_eq_false (by omega)
    clear c3
    clear hlen
    go_enter Tryz.func233, Tryz.ntmps233
    go_wp2_with fail
    refine (HN.out _).mono ?_
    rintro e w1 ⟨rfl, hb1⟩
    go_wp2_with fail
    go_ret2
    exact ⟨by rw [HV.out]; rfl, hb1⟩

def szOf4 : Value → Nat
  | .string t => t.size
  | _ => 0
set_option maxRecDepth 100000 in
set_option maxHeartbeats 2000000 in
theorem fromPairs_any (s : ByteArray) (big : Bool) (w : World) (hs : s.size ≤ 1048576) :
    Calls Tryz.prog 218 #[.string s, .int .i64 (hiAt big)] w fun e w' => e = .returned (.string (str (pairsL big s.data.toList))) ∧ Below w.heap.size w w' := by
  have HFS := hide (fun (t : ByteArray) (w : World) (ht : t.size ≤ maxLen) (h2 : 1 < t.size) => firstSign_any t big w ht h2)
  obtain ⟨z, hz⟩ : ∃ z, z = hiAt big := ⟨_, rfl⟩
  rw [← hz] at HFS ⊢
  clear hz
  go_enter Tryz.func218, Tryz.ntmps218
  go_wp2_with (refine wpList_buf_make rfl _ _ rfl w.heap.size w (Below.refl _ _) (Nat.le_refl _) s.size s.size rfl rfl rfl (by omega) ?_; intro v0 w0 hb0)
  go_loopw [0, 5] (fun x v wr => ∃ (t : ByteArray) (acc : List UInt8), x = .string t ∧ Buf w.heap.size v acc w wr ∧ acc.length + 3 * t.size ≤ 3 * s.size ∧ acc ++ pairsL big t.data.toList = pairsL big s.data.toList) (fun x _ _ => szOf4 x)
  case atStart => exact ⟨s, [], rfl, hb0, by simp, by simp⟩
  case round =>
    obtain ⟨t, acc, rfl, hb, hacc, hd⟩ := hrel
    have HB := hide hb
    clear hb
    by_cases hlt : 1 < t.size
    · obtain ⟨p1, p2, p3, p4, p5⟩ := pairs_step big t.data.toList (by rw [toList_length]; omega)
      have p6 := runeL_length (fsS big t.data.toList).1
      rw [p1, ← List.append_assoc] at hd
      rw [toList_length] at p3
      have hF : fsV big t.data.toList = .tuple #[.int .i32 (fsS big t.data.toList).1, .int .i64 (fsS big t.data.toList).2] := rfl
      generalize fsS big t.data.toList = st at hd hF p2 p3 p4 p5 p6
      obtain ⟨r, n⟩ := st
      simp only at hd hF p2 p3 p4 p5 p6
      have p7 : (runeL r).length ≤ 3 * n := by omega
      have p8 : 2 ≤ n := by omega
      have HR := hide hd
      have HF := hide hF
      clear hd hF p1 p2 p6
      go_wp2_with fail
      refine (HFS.out t _ (by unfold maxLen; omega) hlt).mono ?_
      rintro e w1 ⟨rfl, hb1⟩
      rw [HF.out]
      have HB1 := hide (HB.out.kept hb1)
      go_wp2_with fail
      refine (appendRune_any w.heap.size u5 acc w _ HB1.out r (by omega) (by omega) (by omega)).mono ?_
      rintro e w2 ⟨v2, rfl, hb2, _⟩
      have HB2 := hide hb2
      clear hb2
      go_wp2_with fail
      go_roundw
      case rel => exact ⟨t.extract n t.size, acc ++ _, rfl, HB2.out, by rw [ByteArray.size_extract, List.length_append]; omega, by rw [extract_end]; exact HR.out⟩
      case measure => simp [szOf4]; omega
    · have hl := toList_length t
      have hp := pairs_short big t.data.toList (by omega)
      rw [hl] at hp
      by_cases h1 : 0 < t.size
      · rw [hp, if_pos (by omega)] at hd
        have HR := hide hd
        clear hd hp hl
        go_wp2_with fail
        refine (appendRune_any w.heap.size u5 acc w _ HB.out 65533 (by omega) (by omega) (by omega)).mono ?_
        rintro e w2 ⟨v2, rfl, hb2, _⟩
        rw [runeL_bad'] at hb2
        have HB2 := hide hb2
        have hcv := hb2.convert
        clear hb2
        go_wp2_with fail
        go_ret
        exact ⟨ret_str (by rw [HR.out]), HB2.out.below⟩
      · rw [hp, if_neg (by omega), List.append_nil] at hd
        have HR := hide hd
        have hcv := HB.out.convert
        clear hd hp hl
        go_wp2_with fail
        go_ret
        exact ⟨ret_str (by rw [HR.out]), HB.out.below⟩
end Go.Proofs.YtcmmbceacjechaaGreatDoor
