/- More of the first texts of this claim in one: each with its own head. No statement is proved here. -/
import Derived.Test.YtgokefodmjhhiaaGreatDoorBaseO
import Derived.Deep.Cut
import Derived.Test.YtgokefodmjhhiaaGreatDoorBaseM
import Derived.Test.YtgokefodmjhhiaaGreatDoorShelf
import Derived.Lib.Builder
import Derived.Laws.Externs
import Derived.Deep.QuietTactic
import Derived.BigQuiet
import Derived.Test.YtgokefodmjhhiaaGreatDoorBaseN
/- WALKS of chars.number, firstSign, fromPairs. No statement is proved here. -/
namespace Go.Proofs.YtgokefodmjhhiaaGreatDoor
open Go.RowKit
set_option linter.unusedVariables false
set_option linter.unusedSimpArgs false

theorem or_bytes (a b : Nat) (ha : a < 256) (hb : b < 256) : bits .or .i32 ((a : Int) * 256) (b : Int) = ((256 * a + b : Nat) : Int) := by
  have h1 : (BitVec.ofInt 32 ((a : Int) * 256)).toNat = a * 256 := by
    rw [show (a : Int) * 256 = ((a * 256 : Nat) : Int) from by omega, BitVec.ofInt_natCast, BitVec.toNat_ofNat]; exact Nat.mod_eq_of_lt (by omega)
  have h2 : (BitVec.ofInt 32 (b : Int)).toNat = b := by
    rw [BitVec.ofInt_natCast, BitVec.toNat_ofNat]; exact Nat.mod_eq_of_lt (by omega)
  show IntKind.i32.wrap ((BitVec.ofInt 32 ((a : Int) * 256) ||| BitVec.ofInt 32 (b : Int)).toNat : Int) = _
  rw [BitVec.toNat_or, h1, h2]
  have e : a * 256 ||| b = 256 * a + b := by
    have := Nat.two_pow_add_eq_or_of_lt (i := 8) (b := b) (by omega) a
    rw [Nat.mul_comm a 256]
    exact this.symm
  rw [e]
  exact IntWalk.i32_in _ (by omega)

/-- the place of the higher byte -/
def hiAt (big : Bool) : Int := if big then 0 else 1
set_option maxHeartbeats 1000000 in
theorem number_any (s : ByteArray) (big : Bool) (w : World) (hs : s.size ≤ maxLen) (h2 : 1 < s.size) :
    Calls Tryz.prog 240 #[.string s, .int .i64 (hiAt big)] w fun e w' => e = .returned (.int .i32 (num big s[0] s[1])) ∧ Below w.heap.size w w' := by
  unfold maxLen at hs
  have ha := byte_lt s[0]
  have hb := byte_lt s[1]
  have i0 : (0 : Int) < s.size := by omega
  have i1 : (1 : Int) < s.size := by omega
  have n0 : 0 < s.size := by omega
  cases big
  · have ho := or_bytes s[1].toNat s[0].toNat hb ha
    show Calls _ _ #[.string s, .int .i64 1] _ _
    go_enter Tryz.func240, Tryz.ntmps240
    go_wp2_with fail
    go_region
    all_goals (try go_wp2)
    all_goals
      go_ret
      exact ⟨ret_int (by unfold num; simp), (Below.refl _ _).drew⟩
  · have ho := or_bytes s[0].toNat s[1].toNat ha hb
    show Calls _ _ #[.string s, .int .i64 0] _ _
    go_enter Tryz.func240, Tryz.ntmps240
    go_wp2_with fail
    go_region
    all_goals (try go_wp2)
    all_goals
      go_ret
      exact ⟨ret_int (by unfold num; simp), (Below.refl _ _).drew⟩
theorem number_list (s : ByteArray) (big : Bool) (a b : UInt8) (r : List UInt8) (w : World) (hs : s.size ≤ maxLen) (h : s.data.toList = a :: b :: r) :
    Calls Tryz.prog 240 #[.string s, .int .i64 (hiAt big)] w fun e w' => e = .returned (.int .i32 (num big a b)) ∧ Below w.heap.size w w' := by
  have hl := toList_length s
  rw [h] at hl
  simp only [List.length_cons] at hl
  have h1 : 1 < s.size := by omega
  have e := drop_cons s 0 (by omega)
  rw [List.drop_zero, drop_cons s 1 h1, h] at e
  injection e with e1 e
  injection e with e2 e
  have := number_any s big w hs h1
  rw [← e1, ← e2] at this
  exact this

/-- what firstSign answers -/
def fsV (big : Bool) (l : List UInt8) : Value := .tuple #[.int .i32 (fsS big l).1, .int .i64 (fsS big l).2]
theorem fsV_of {big : Bool} {l : List UInt8} {z : Int} {n : Nat} (h : fsS big l = (z, n)) : fsV big l = .tuple #[.int .i32 z, .int .i64 n] := by unfold fsV; rw [h]
set_option maxRecDepth 100000 in
set_option maxHeartbeats 2000000 in
theorem firstSign_any (s : ByteArray) (big : Bool) (w : World) (hs : s.size ≤ maxLen) (h2 : 1 < s.size) :
    Calls Tryz.prog 224 #[.string s, .int .i64 (hiAt big)] w fun e w' => e = .returned (fsV big s.data.toList) ∧ Below w.heap.size w w' := by
  have hs' := hs
  unfold maxLen at hs
  obtain ⟨a, b, r, hl⟩ : ∃ a b r, s.data.toList = a :: b :: r := by
    have e := drop_cons s 0 (by omega)
    rw [List.drop_zero, drop_cons s 1 h2] at e
    exact ⟨_, _, _, e⟩
  have hlen := toList_length s
  rw [hl] at hlen
  simp only [List.length_cons] at hlen
  have HN := hide (fun (w : World) => number_list s big a b r w hs' hl)
  have hlt := num_lt big a b
  obtain ⟨x, hx⟩ : ∃ x, x = num big a b := ⟨_, rfl⟩
  rw [hl]
  have hi : ∃ z, z = hiAt big := ⟨_, rfl⟩
  obtain ⟨z, hz⟩ := hi
  rw [← hz]
  have HZ := hide hz
  rw [← hz, ← hx] at HN
  rw [← hx] at hlt
  have HX := hide hx
  clear hx hz
  by_cases c1 : x < 55296
  · have HV := hide (fsV_of (big := big) (l := a :: b :: r) (z := x) (n := 2) (by rw [fsS, ← HX.out, if_pos (.inl c1)]))
    clear hlen
    go_enter Tryz.func224, Tryz.ntmps224
    go_wp2_with fail
    refine (HN.out _).mono ?_
    rintro e w1 ⟨rfl, hb1⟩
    go_wp2_with fail
    go_ret2
    exact ⟨by rw [HV.out]; rfl, hb1⟩
  by_cases c2 : 57344 ≤ x
  · have HV := hide (fsV_of (big := big) (l := a :: b :: r) (z := x) (n := 2) (by rw [fsS, ← HX.out, if_pos (.inr c2)]))
    clear hlen
    go_enter Tryz.func224, Tryz.ntmps224
    go_wp2_with fail
    refine (HN.out _).mono ?_
    rintro e w1 ⟨rfl, hb1⟩
    go_wp2_with fail
    go_ret2
    exact ⟨by rw [HV.out]; rfl, hb1⟩
  have c12 : ¬ (x < 55296 ∨ 57344 ≤ x) := by omega
  have t1 : decide ((x : Int) < 55296) = false := decide_eq_false (by omega)
  have t2 : decide ((57344 : Int) ≤ x) = false := decide_eq_false (by omega)
  have C12 := hide c12
  have K1 : Hid (55296 ≤ x) := hide (by omega)
  clear c12 c1 c2
  by_cases c3 : x < 56320
  · have t3 : decide ((x : Int) < 56320) = true := decide_eq_true (by omega)
    have C3 := hide c3
    clear c3
    by_cases c4 : 3 < s.size
    · have t4 : decide ((3 : Int) < s.size) = true := decide_eq_true (by omega)
      have s2 : (2 : Int) ≤ s.size := by omega
      obtain ⟨c, d, r', hr⟩ : ∃ c d r', r = c :: d :: r' := by
        match r, hlen with
        | c :: d :: r', _ => exact ⟨c, d, r', rfl⟩
        | [c], h => simp at h; omega
        | [], h => simp at h; omega
      subst hr
      have hx2 : (s.extract 2 s.size).data.toList = c :: d :: r' := by rw [extract_end, hl]; rfl
      have HN2 := hide (fun (w : World) => number_list (s.extract 2 s.size) big c d r' w (by have := extract_size_le s 2 s.size; unfold maxLen; omega) hx2)
      have hlt2 := num_lt big c d
      obtain ⟨y, hy⟩ : ∃ y, y = num big c d := ⟨_, rfl⟩
      rw [← HZ.out, ← hy] at HN2
      rw [← hy] at hlt2
      have HY := hide hy
      clear hy hx2 hl c4
      by_cases c5 : 56320 ≤ y ∧ y < 57344
      · have HV := hide (fsV_of (big := big) (l := a :: b :: c :: d :: r') (z := pairV x y) (n := 4) (by rw [fsS, ← HX.out, if_neg C12.out, if_pos C3.out, fsT, ← HY.out, if_pos c5]))
        have t5 : decide ((56320 : Int) ≤ y) = true := decide_eq_true (by omega)
        have t6 : decide ((y : Int) < 57344) = true := decide_eq_true (by omega)
        have k1 := K1.out
        have k3 := C3.out
        obtain ⟨k5, k6⟩ := c5
        clear hlen
        go_enter Tryz.func224, Tryz.ntmps224
        go_wp2_with fail
        refine (HN.out _).mono ?_
        rintro e w1 ⟨rfl, hb1⟩
        go_wp2_with fail
        refine (HN2.out _).mono ?_
        rintro e w2 ⟨rfl, hb2⟩
        go_upto_region 7 with (fail)
        clear t1 t2 t3 t4 t5 t6 hlt hlt2 h2 s2 hs'
        go_wp2_with fail
        go_ret2
        refine ⟨?_, hb1.trans (hb2.mono hb1.size)⟩
        rw [HV.out]
        show Ending.returned (.tuple #[.int .i32 _, .int .i64 _]) = _
        congr 5
        unfold pairV; omega
      · have HV := hide (fsV_of (big := big) (l := a :: b :: c :: d :: r') (z := 65533) (n := 2) (by rw [fsS, ← HX.out, if_neg C12.out, if_pos C3.out, fsT, ← HY.out, if_neg c5]))
        have c6 : y < 56320 ∨ (56320 ≤ y ∧ 57344 ≤ y) := by omega
        have c7 : decide ((56320 : Int) ≤ y) = false ∨ (decide ((56320 : Int) ≤ y) = true ∧ decide ((y : Int) < 57344) = false) := by
          rcases c6 with c | ⟨c, c'⟩
          · exact .inl (decide_eq_false (by omega))
          · exact .inr ⟨decide_eq_true (by omega), decide_eq_false (by omega)⟩
        clear c5 c6
        rcases c7 with t5 | ⟨t5, t6⟩
        all_goals
          clear hlen
          go_enter Tryz.func224, Tryz.ntmps224
          go_wp2_with fail
          refine (HN.out _).mono ?_
          rintro e w1 ⟨rfl, hb1⟩
          go_wp2_with fail
          refine (HN2.out _).mono ?_
          rintro e w2 ⟨rfl, hb2⟩
          go_wp2_with fail
          go_ret2
          exact ⟨by rw [HV.out]; rfl, hb1.trans (hb2.mono hb1.size)⟩
    · have HV := hide (fsV_of (big := big) (l := a :: b :: r) (z := 65533) (n := 2) (by
        rw [fsS, ← HX.out, if_neg C12.out, if_pos C3.out]
        match r, hlen with
        | [], _ => rfl
        | [_], _ => rfl
        | _ :: _ :: r', h => simp at h; omega))
      have t4 : decide ((3 : Int) < s.size) = false := decide_eq_false (by omega)
      clear c4
      clear hlen
      go_enter Tryz.func224, Tryz.ntmps224
      go_wp2_with fail
      refine (HN.out _).mono ?_
      rintro e w1 ⟨rfl, hb1⟩
      go_wp2_with fail
      go_ret2
      exact ⟨by rw [HV.out]; rfl, hb1⟩
  · have HV := hide (fsV_of (big := big) (l := a :: b :: r) (z := 65533) (n := 2) (by rw [fsS, ← HX.out, if_neg C12.out, if_neg c3]))
    have t3 : decide ((x : Int) < 56320) = false := decide_eq_false (by omega)
    clear c3
    clear hlen
    go_enter Tryz.func224, Tryz.ntmps224
    go_wp2_with fail
    refine (HN.out _).mono ?_
    rintro e w1 ⟨rfl, hb1⟩
    go_wp2_with fail
    go_ret2
    exact ⟨by rw [HV.out]; rfl, hb1⟩

def szOf4 : Value → Nat
  | .string t => t.size
  | _ => 0
set_option maxRecDepth 100000 in
set_option maxHeartbeats 2000000 in
theorem fromPairs_any (s : ByteArray) (big : Bool) (w : World) (hs : s.size ≤ 1048576) :
    Calls Tryz.prog 203 #[.string s, .int .i64 (hiAt big)] w fun e w' => e = .returned (.string (str (pairsL big s.data.toList))) ∧ Below w.heap.size w w' := by
  have HFS := hide (fun (t : ByteArray) (w : World) (ht : t.size ≤ maxLen) (h2 : 1 < t.size) => firstSign_any t big w ht h2)
  obtain ⟨z, hz⟩ : ∃ z, z = hiAt big := ⟨_, rfl⟩
  rw [← hz] at HFS ⊢
  clear hz
  go_enter Tryz.func203, Tryz.ntmps203
  go_wp2_with (refine wpList_buf_make rfl _ _ rfl w.heap.size w (Below.refl _ _) (Nat.le_refl _) s.size s.size rfl rfl rfl (by omega) ?_; intro v0 w0 hb0)
  go_loopw [0, 5] (fun x v wr => ∃ (t : ByteArray) (acc : List UInt8), x = .string t ∧ Buf w.heap.size v acc w wr ∧ acc.length + 3 * t.size ≤ 3 * s.size ∧ acc ++ pairsL big t.data.toList = pairsL big s.data.toList) (fun x _ _ => szOf4 x)
  case atStart => exact ⟨s, [], rfl, hb0, by simp, by simp⟩
  case round =>
    obtain ⟨t, acc, rfl, hb, hacc, hd⟩ := hrel
    have HB := hide hb
    clear hb
    by_cases hlt : 1 < t.size
    · obtain ⟨p1, p2, p3, p4, p5⟩ := pairs_step big t.data.toList (by rw [toList_length]; omega)
      have p6 := runeL_length (fsS big t.data.toList).1
      rw [p1, ← List.append_assoc] at hd
      rw [toList_length] at p3
      have hF : fsV big t.data.toList = .tuple #[.int .i32 (fsS big t.data.toList).1, .int .i64 (fsS big t.data.toList).2] := rfl
      generalize fsS big t.data.toList = st at hd hF p2 p3 p4 p5 p6
      obtain ⟨r, n⟩ := st
      simp only at hd hF p2 p3 p4 p5 p6
      have p7 : (runeL r).length ≤ 3 * n := by omega
      have p8 : 2 ≤ n := by omega
      have HR := hide hd
      have HF := hide hF
      clear hd hF p1 p2 p6
      go_wp2_with fail
      refine (HFS.out t _ (by unfold maxLen; omega) hlt).mono ?_
      rintro e w1 ⟨rfl, hb1⟩
      rw [HF.out]
      have HB1 := hide (HB.out.kept hb1)
      go_wp2_with fail
      refine (appendRune_any w.heap.size u5 acc w _ HB1.out r (by omega) (by omega) (by omega)).mono ?_
      rintro e w2 ⟨v2, rfl, hb2, _⟩
      have HB2 := hide hb2
      clear hb2
      go_wp2_with fail
      go_roundw
      case rel => exact ⟨t.extract n t.size, acc ++ _, rfl, HB2.out, by rw [ByteArray.size_extract, List.length_append]; omega, by rw [extract_end]; exact HR.out⟩
      case measure => simp [szOf4]; omega
    · have hl := toList_length t
      have hp := pairs_short big t.data.toList (by omega)
      rw [hl] at hp
      by_cases h1 : 0 < t.size
      · rw [hp, if_pos (by omega)] at hd
        have HR := hide hd
        clear hd hp hl
        go_wp2_with fail
        refine (appendRune_any w.heap.size u5 acc w _ HB.out 65533 (by omega) (by omega) (by omega)).mono ?_
        rintro e w2 ⟨v2, rfl, hb2, _⟩
        rw [runeL_bad'] at hb2
        have HB2 := hide hb2
        have hcv := hb2.convert
        clear hb2
        go_wp2_with fail
        go_ret
        exact ⟨ret_str (by rw [HR.out]), HB2.out.below⟩
      · rw [hp, if_neg (by omega), List.append_nil] at hd
        have HR := hide hd
        have hcv := HB.out.convert
        clear hd hp hl
        go_wp2_with fail
        go_ret
        exact ⟨ret_str (by rw [HR.out]), HB.out.below⟩
end Go.Proofs.YtgokefodmjhhiaaGreatDoor

/- WALK of chars.Decode. No statement is proved here. -/
namespace Go.Proofs.YtgokefodmjhhiaaGreatDoor
open Go.RowKit
set_option linter.unusedVariables false
set_option linter.unusedSimpArgs false

/-- what Decode answers -/
def decV (k : Nat) (l : List UInt8) : Value := .tuple #[.string (str (decodeL k l)), .bool (decide (0 < k))]
set_option maxHeartbeats 2000000 in
theorem charsDecode_any (label s : ByteArray) (w : World) (hl : label.size ≤ 70368744177664) (hs : s.size ≤ 1048576) (hT : Tab w) :
    Calls Tryz.prog 172 #[.string label, .string s] w fun e w' => e = .returned (decV (kindL label.data.toList) s.data.toList) ∧ Below w.heap.size w w' := by
  have HT := hide hT
  have H0 := hide hT.lt
  clear hT
  have HK := hide (fun (w : World) => known_any label w hl)
  have hk5 := kind_lt label.data.toList
  generalize kindL label.data.toList = k at HK hk5
  have hk : k = 0 ∨ k = 1 ∨ k = 2 ∨ k = 3 ∨ k = 4 := by omega
  clear hk5
  have KV0 : Hid (knownV 0 = .tuple #[.string ⟨#[]⟩, .bool false]) := hide rfl
  have KV1 : Hid (knownV 1 = .tuple #[.string ⟨#[117, 116, 102, 45, 56]⟩, .bool true]) := hide rfl
  have KV2 : Hid (knownV 2 = .tuple #[.string ⟨#[119, 105, 110, 100, 111, 119, 115, 45, 49, 50, 53, 50]⟩, .bool true]) := hide rfl
  have KV3 : Hid (knownV 3 = .tuple #[.string ⟨#[117, 116, 102, 45, 49, 54, 108, 101]⟩, .bool true]) := hide rfl
  have KV4 : Hid (knownV 4 = .tuple #[.string ⟨#[117, 116, 102, 45, 49, 54, 98, 101]⟩, .bool true]) := hide rfl
  have P3 := hide (fun (w : World) => fromPairs_any s false w hs)
  have P4 := hide (fun (w : World) => fromPairs_any s true w hs)
  rw [show hiAt false = 1 from rfl] at P3
  rw [show hiAt true = 0 from rfl] at P4
  rcases hk with rfl | rfl | rfl | rfl | rfl
  · go_enter Tryz.func172, Tryz.ntmps172
    go_wp2_with fail
    refine (HK.out _).mono ?_
    rintro e w1 ⟨rfl, hb1⟩
    rw [KV0.out]
    go_wp2_with fail
    refine (valid_any s _ hs).mono ?_
    rintro e w2 ⟨rfl, hb2⟩
    go_wp2_with fail
    go_ret2
    exact ⟨rfl, hb1.trans (hb2.mono hb1.size)⟩
  · go_enter Tryz.func172, Tryz.ntmps172
    go_wp2_with fail
    refine (HK.out _).mono ?_
    rintro e w1 ⟨rfl, hb1⟩
    rw [KV1.out]
    go_wp2_with fail
    refine (valid_any s _ hs).mono ?_
    rintro e w2 ⟨rfl, hb2⟩
    go_wp2_with fail
    go_ret2
    exact ⟨rfl, hb1.trans (hb2.mono hb1.size)⟩
  · go_enter Tryz.func172, Tryz.ntmps172
    go_wp2_with fail
    refine (HK.out _).mono ?_
    rintro e w1 ⟨rfl, hb1⟩
    rw [KV2.out]
    go_wp2_with fail
    refine (fromWindows_any s _ hs (HT.out.below hb1 H0.out)).mono ?_
    rintro e w2 ⟨rfl, hb2⟩
    go_wp2_with fail
    go_ret2
    exact ⟨rfl, hb1.trans (hb2.mono hb1.size)⟩
  · go_enter Tryz.func172, Tryz.ntmps172
    go_wp2_with fail
    refine (HK.out _).mono ?_
    rintro e w1 ⟨rfl, hb1⟩
    rw [KV3.out]
    go_wp2_with fail
    refine (P3.out _).mono ?_
    rintro e w2 ⟨rfl, hb2⟩
    go_wp2_with fail
    go_ret2
    exact ⟨rfl, hb1.trans (hb2.mono hb1.size)⟩
  · go_enter Tryz.func172, Tryz.ntmps172
    go_wp2_with fail
    refine (HK.out _).mono ?_
    rintro e w1 ⟨rfl, hb1⟩
    rw [KV4.out]
    go_wp2_with fail
    refine (P4.out _).mono ?_
    rintro e w2 ⟨rfl, hb2⟩
    go_wp2_with fail
    go_ret2
    exact ⟨rfl, hb1.trans (hb2.mono hb1.size)⟩
end Go.Proofs.YtgokefodmjhhiaaGreatDoor

/- WALK of ent.signOf. No statement is proved here. -/
namespace Go.Proofs.YtgokefodmjhhiaaGreatDoor
open Go.RowKit
set_option linter.unusedVariables false
set_option linter.unusedSimpArgs false
set_option maxRecDepth 100000
/-- the sign of a number -/
def signN (n : Nat) : Int := if n = 0 ∨ 1114111 < n ∨ (55296 ≤ n ∧ n ≤ 57343) then 65533 else if 128 ≤ n ∧ n ≤ 159 then winR (UInt8.ofNat n) else n
theorem win_dec (c : UInt8) : (decL (runeL (winR c))).1 = (winR c).toNat ∧ 0 ≤ winR c := by
  have := u8_all (p := fun c => (decL (runeL (winR c))).1 = (winR c).toNat ∧ 0 ≤ winR c) (by decide +kernel) c
  exact this
theorem dec_win (c : UInt8) : Lib.decodeGo (str (runeL (winR c))) = ((winR c).toNat, (decL (runeL (winR c))).2) := by
  have hl := (runeL_length (winR c)).1
  have hz : (str (runeL (winR c))).size ≠ 0 := by rw [str_size]; omega
  unfold Lib.decodeGo
  rw [if_neg hz, decode_decL _ _ (by omega), List.drop_zero, str_toList]
  exact Prod.ext (win_dec c).1 rfl
theorem signN_window {n : Nat} (h1 : 128 ≤ n) (h2 : n ≤ 159) : signN n = winR (UInt8.ofNat n) := by
  unfold signN; rw [if_neg (by omega), if_pos ⟨h1, h2⟩]
theorem signN_bad {n : Nat} (h : n = 0 ∨ 1114111 < n ∨ (55296 ≤ n ∧ n ≤ 57343)) : signN n = 65533 := by unfold signN; rw [if_pos h]
theorem signN_own {n : Nat} (h : ¬ (n = 0 ∨ 1114111 < n ∨ (55296 ≤ n ∧ n ≤ 57343))) (h' : ¬ (128 ≤ n ∧ n ≤ 159)) : signN n = n := by unfold signN; rw [if_neg h, if_neg h']
theorem tabs_lt {w : World} (h : Lib.Utf8Tabs 4 5 w) : 4 < w.heap.size ∧ 5 < w.heap.size :=
  ⟨World.block_lt_of_cell? _ _ (h.1 0 (by decide)), World.block_lt_of_cell? _ _ (h.2 0 (by decide)).1⟩
theorem tabs_kept {w w' : World} (h : Lib.Utf8Tabs 4 5 w) (hb : Below w.heap.size w w') : Lib.Utf8Tabs 4 5 w' := by
  obtain ⟨l1, l2⟩ := tabs_lt h
  exact ⟨fun c hc => (hb.cell (p := ⟨4, c, none⟩) l1).trans (h.1 c hc), fun i hi => ⟨(hb.cell (p := ⟨5, 2 * i, none⟩) l2).trans (h.2 i hi).1, (hb.cell (p := ⟨5, 2 * i + 1, none⟩) l2).trans (h.2 i hi).2⟩⟩
theorem kind_win : kindL [119, 105, 110, 100, 111, 119, 115, 45, 49, 50, 53, 50] = 2 := by decide +kernel
set_option maxHeartbeats 4000000 in
theorem signOf_any (n : Nat) (w : World) (hn : n < 2147483648) (hT : Tab w) (hU : Lib.Utf8Tabs 4 5 w) :
    Calls Tryz.prog 150 #[.int .i32 n] w fun e w' => e = .returned (.int .i32 (signN n)) ∧ Below w.heap.size w w' := by
  by_cases c0 : n = 0
  · have HR : Hid (signN n = 65533) := hide (signN_bad (.inl c0))
    subst c0
    go_enter Tryz.func150, Tryz.ntmps150
    go_wp2_with fail
    go_ret
    exact ⟨by rw [HR.out]; rfl, Below.refl _ _⟩
  have t0 : ((n : Int) == 0) = false := beq_eq_false_iff_ne.2 (by omega)
  by_cases c1 : 1114111 < n
  · have HR : Hid (signN n = 65533) := hide (signN_bad (.inr (.inl c1)))
    have t1 : decide ((1114111 : Int) < n) = true := decide_eq_true (by omega)
    clear c0
    go_enter Tryz.func150, Tryz.ntmps150
    go_wp2_with fail
    go_ret
    exact ⟨by rw [HR.out]; rfl, Below.refl _ _⟩
  have t1 : decide ((1114111 : Int) < n) = false := decide_eq_false (by omega)
  by_cases c2 : 55296 ≤ n
  · have t2 : decide ((55296 : Int) ≤ n) = true := decide_eq_true (by omega)
    by_cases c3 : n ≤ 57343
    · have HR : Hid (signN n = 65533) := hide (signN_bad (.inr (.inr ⟨c2, c3⟩)))
      have t3 : decide ((n : Int) ≤ 57343) = true := decide_eq_true (by omega)
      clear c0 c1 c2 c3
      go_enter Tryz.func150, Tryz.ntmps150
      go_wp2_with fail
      go_ret
      exact ⟨by rw [HR.out]; rfl, Below.refl _ _⟩
    · have HR : Hid (signN n = n) := hide (signN_own (by omega) (by omega))
      have t3 : decide ((n : Int) ≤ 57343) = false := decide_eq_false (by omega)
      have t4 : decide ((128 : Int) ≤ n) = true := decide_eq_true (by omega)
      have t5 : decide ((n : Int) ≤ 159) = false := decide_eq_false (by omega)
      clear c0 c1 c2 c3
      go_enter Tryz.func150, Tryz.ntmps150
      go_wp2_with fail
      go_ret
      exact ⟨by rw [HR.out]; rfl, Below.refl _ _⟩
  have t2 : decide ((55296 : Int) ≤ n) = false := decide_eq_false (by omega)
  by_cases c4 : 128 ≤ n
  · have t4 : decide ((128 : Int) ≤ n) = true := decide_eq_true (by omega)
    by_cases c5 : n ≤ 159
    · have t5 : decide ((n : Int) ≤ 159) = true := decide_eq_true (by omega)
      obtain ⟨c, hc⟩ : ∃ c, c = UInt8.ofNat n := ⟨_, rfl⟩
      have hcn : c.toNat = n := by rw [hc, UInt8.toNat_ofNat', Nat.mod_eq_of_lt (by omega)]
      have HR : Hid (signN n = winR c) := hide (by rw [hc]; exact signN_window c4 c5)
      have x1 : IntKind.u8.wrap (n : Int) = (n : Int) := IntWalk.u8_in _ (by omega)
      have hbs : strOfNums [(n : Int)] = ⟨#[c]⟩ := by rw [← hcn]; apply ext_list; rw [nums_list]; simp
      have hcv := conv1 w (n : Int)
      rw [hbs] at hcv
      have HD := hide (fun w1 (h1 : Tab w1) => charsDecode_any ⟨#[119, 105, 110, 100, 111, 119, 115, 45, 49, 50, 53, 50]⟩ ⟨#[c]⟩ w1 (by decide) (by show (⟨#[c]⟩ : ByteArray).size ≤ _; rw [show (⟨#[c]⟩ : ByteArray).size = 1 from rfl]; decide) h1)
      have eD : decV (kindL (⟨#[119, 105, 110, 100, 111, 119, 115, 45, 49, 50, 53, 50]⟩ : ByteArray).data.toList) (⟨#[c]⟩ : ByteArray).data.toList = .tuple #[.string (str (runeL (winR c))), .bool true] := by
        rw [show (⟨#[119, 105, 110, 100, 111, 119, 115, 45, 49, 50, 53, 50]⟩ : ByteArray).data.toList = [119, 105, 110, 100, 111, 119, 115, 45, 49, 50, 53, 50] from rfl, kind_win]
        show Value.tuple #[.string (str (winL [c])), .bool true] = _
        rw [winL_cons]
        show Value.tuple #[.string (str (runeL (winR c) ++ [])), .bool true] = _
        rw [List.append_nil]
      rw [eD] at HD
      have HU := hide (fun w1 h1 => Tryz.utf8_DecodeRuneInString (str (runeL (winR c))) w1 h1)
      rw [dec_win] at HU
      have hp : ((winR c).toNat : Int) = winR c := Int.toNat_of_nonneg (win_dec c).2
      rw [show (((winR c).toNat, (decL (runeL (winR c))).2) : Nat × Nat).1 = (winR c).toNat from rfl, hp] at HU
      have KB : Hid (Below w.heap.size w (w.alloc (.cells #[.int .u8 (n : Int)] 5))) := hide ((Below.refl _ _).alloc (Nat.le_refl _) _)
      have HT := hide (hT.below KB.out hT.lt)
      have HTU := hide hU
      obtain ⟨S, hS⟩ : ∃ S, str (runeL (winR c)) = S := ⟨_, rfl⟩
      obtain ⟨R, hR⟩ : ∃ R, winR c = R := ⟨_, rfl⟩
      rw [hS] at HD HU
      rw [hR] at HU HR
      clear c0 c1 c2 c4 c5 hc hcn hbs eD hp hS hR hT hU
      go_enter Tryz.func150, Tryz.ntmps150
      go_wp2_with (first
        | (go_at_call 172; refine (HD.out _ HT.out).mono ?_; rintro e w1 ⟨rfl, hb1⟩; have HB1 := hide (KB.out.trans (hb1.mono KB.out.size)); clear hb1)
        | (go_at_call 173; refine (HU.out _ (tabs_kept HTU.out HB1.out)).mono ?_; rintro e w2 ⟨rfl, hb2⟩; have HB2 := hide (HB1.out.trans (hb2.mono HB1.out.size)); clear hb2))
      go_ret
      exact ⟨by rw [HR.out]; rfl, HB2.out⟩
    · have HR : Hid (signN n = n) := hide (signN_own (by omega) (by omega))
      have t5 : decide ((n : Int) ≤ 159) = false := decide_eq_false (by omega)
      clear c0 c1 c2 c4 c5
      go_enter Tryz.func150, Tryz.ntmps150
      go_wp2_with fail
      go_ret
      exact ⟨by rw [HR.out]; rfl, Below.refl _ _⟩
  · have HR : Hid (signN n = n) := hide (signN_own (by omega) (by omega))
    have t4 : decide ((128 : Int) ≤ n) = false := decide_eq_false (by omega)
    clear c0 c1 c2 c4
    go_enter Tryz.func150, Tryz.ntmps150
    go_wp2_with fail
    go_ret
    exact ⟨by rw [HR.out]; rfl, Below.refl _ _⟩
end Go.Proofs.YtgokefodmjhhiaaGreatDoor

/- WALK of ent.byNumber. No statement is proved here. -/
namespace Go.Proofs.YtgokefodmjhhiaaGreatDoor
open Go.RowKit
set_option linter.unusedVariables false
set_option linter.unusedSimpArgs false
set_option maxRecDepth 100000
/-- the sign of digits -/
def numAt (b most : Nat) (l : List UInt8) : Option Int :=
  match parseU b l with
  | none => none
  | some n => if most < l.length then none else some (signN n)
def entV : Option Int → Value
  | some x => .tuple #[.int .i32 x, .bool true]
  | none => .tuple #[.int .i32 0, .bool false]
theorem parseB_lt {b : Nat} (hb : 0 < b) (l : List UInt8) : ∀ m n, parseB b m l = some n → n + 1 ≤ (m + 1) * b ^ l.length := by
  induction l with
  | nil => intro m n h; injection h with h; subst h; simp
  | cons c r ih =>
    intro m n h
    rw [parseB] at h
    unfold digB at h
    by_cases hd : dgV c < b
    · rw [if_pos hd] at h
      have h1 := ih _ _ h
      have h2 : m * b + dgV c + 1 ≤ (m + 1) * b := by rw [Nat.succ_mul]; omega
      have h3 := Nat.mul_le_mul_right (b ^ r.length) h2
      rw [List.length_cons, Nat.pow_succ, Nat.mul_comm (b ^ r.length) b, ← Nat.mul_assoc]
      exact Nat.le_trans h1 h3
    · rw [if_neg hd] at h; cases h
theorem parse_lt {b : Nat} {l : List UInt8} (hb : 0 < b) : ∀ n, parseU b l = some n → n < b ^ l.length := by
  intro n h
  unfold parseU at h
  split at h
  · cases h
  · have := parseB_lt hb l 0 n h
    rw [Nat.zero_add, Nat.one_mul] at this
    exact this
theorem pref_size {D : ByteArray} {c : UInt8} (h : Lib.hasPrefix D.data.toList [c] = true) : 1 ≤ D.size := by
  rw [← toList_length]
  cases hl : D.data.toList with
  | nil => rw [hl] at h; cases h
  | cons a r => exact Nat.succ_pos _

set_option maxHeartbeats 4000000 in
theorem byNumber_x (D : ByteArray) (ev : Value) (w : World) (hs : D.size ≤ 8) (p1 : Lib.hasPrefix D.data.toList [120] = true) (hT : Tab w) (hU : Lib.Utf8Tabs 4 5 w)
    (hv : w.cell? ⟨1, 0, none⟩ = some ev) (hev : ev = .nilIface ∨ ∃ te pe, ev = .iface te pe) :
    Calls Tryz.prog 131 #[.string D] w fun e w' => e = .returned (entV (numAt 16 6 (D.extract 1 D.size).data.toList)) ∧ Below w.heap.size w w' := by
  have z1 : 1 ≤ D.size := pref_size p1
  have k1 : (1 : Int) ≤ D.size := by omega
  have P1 : Hid (Lib.hasPrefix D.data.toList [120] = true) := hide p1
  have HT := hide hT
  have HTU := hide hU
  have HC := hide (fun w1 (hb : Below w.heap.size w w1) => parse16_any (D.extract 1 D.size) ev w1 (Nat.le_trans (by rw [ByteArray.size_extract]; omega) hs) ((hb.cell (p := ⟨1, 0, none⟩) (World.block_lt_of_cell? _ _ hv)).trans hv) hev)
  have tok1 : True := trivial
  have tok2 : True := trivial
  have hrl : (D.extract 1 D.size).size = (D.size - 1) := (by rw [ByteArray.size_extract]; omega)
  have HB0 := hide (parse_lt (b := 16) (l := (D.extract 1 D.size).data.toList) (by decide))
  cases hu : parseU 16 (D.extract 1 D.size).data.toList with
  | none =>
    have HU := hide hu
    have HR : Hid (numAt 16 6 (D.extract 1 D.size).data.toList = none) := hide (by unfold numAt; rw [hu])
    clear hu hT hU hv hev p1
    go_enter Tryz.func131, Tryz.ntmps131
    go_wp2_with (first
      | (go_at_call 127; have _t := tok1; refine (Tryz.strings_HasPrefix D ⟨#[120]⟩ _).mono ?_; rintro e w1 ⟨rfl, hw1⟩; obtain rfl := hw1.symm; rw [show (⟨#[120]⟩ : ByteArray).data.toList = [120] from rfl, P1.out]; clear tok1)
      | (go_at_call 149; refine (HC.out _ (Below.refl _ _)).mono ?_; rintro e w1 ⟨he, hb1⟩; rw [HU.out] at he; obtain ⟨N, rfl⟩ := he; have HB1 := hide hb1; clear hb1)
      | (go_at_call 150; refine (signOf_any _ _ HN31.out (HT.out.below HB1.out HT.out.lt) (tabs_kept HTU.out HB1.out)).mono ?_; rintro e w2 ⟨rfl, hb2⟩; have HB2 := hide (HB1.out.trans (hb2.mono HB1.out.size)); clear hb2))
    go_ret2
    exact ⟨by rw [HR.out]; rfl, HB1.out⟩
  | some n =>
    have HU := hide hu
    have hlt := HB0.out n hu
    rw [toList_length, hrl] at hlt
    by_cases hm : 6 < (D.size - 1)
    · have HR : Hid (numAt 16 6 (D.extract 1 D.size).data.toList = none) := hide (by unfold numAt; rw [hu]; simp only []; rw [toList_length, hrl, if_pos hm])
      have t1 : decide ((6 : Int) < ((D.extract 1 D.size).size : Int)) = true := decide_eq_true (by rw [hrl]; omega)
      have t2 : decide (6 < (D.extract 1 D.size).size) = true := decide_eq_true (by rw [hrl]; exact hm)
      have t3 : decide ((6 : Int) < (((D.size - 1) : Nat) : Int)) = true := decide_eq_true (by omega)
      have t4 : decide (6 < (D.size - 1)) = true := decide_eq_true hm
      clear hu hT hU hv hev p1 hlt hm hrl
      go_enter Tryz.func131, Tryz.ntmps131
      go_wp2_with (first
      | (go_at_call 127; have _t := tok1; refine (Tryz.strings_HasPrefix D ⟨#[120]⟩ _).mono ?_; rintro e w1 ⟨rfl, hw1⟩; obtain rfl := hw1.symm; rw [show (⟨#[120]⟩ : ByteArray).data.toList = [120] from rfl, P1.out]; clear tok1)
      | (go_at_call 149; refine (HC.out _ (Below.refl _ _)).mono ?_; rintro e w1 ⟨he, hb1⟩; rw [HU.out] at he; obtain rfl := he; have HB1 := hide hb1; clear hb1)
      | (go_at_call 150; refine (signOf_any _ _ HN31.out (HT.out.below HB1.out HT.out.lt) (tabs_kept HTU.out HB1.out)).mono ?_; rintro e w2 ⟨rfl, hb2⟩; have HB2 := hide (HB1.out.trans (hb2.mono HB1.out.size)); clear hb2))
      go_ret2
      exact ⟨by rw [HR.out]; rfl, HB1.out⟩
    · have HR : Hid (numAt 16 6 (D.extract 1 D.size).data.toList = some (signN n)) := hide (by unfold numAt; rw [hu]; simp only []; rw [toList_length, hrl, if_neg hm])
      have t1 : decide ((6 : Int) < ((D.extract 1 D.size).size : Int)) = false := decide_eq_false (by rw [hrl]; omega)
      have t2 : decide (6 < (D.extract 1 D.size).size) = false := decide_eq_false (by rw [hrl]; exact hm)
      have t3 : decide ((6 : Int) < (((D.size - 1) : Nat) : Int)) = false := decide_eq_false (by omega)
      have t4 : decide (6 < (D.size - 1)) = false := decide_eq_false hm
      have hn31 : n < 2147483648 := Nat.lt_of_lt_of_le hlt (Nat.le_trans (Nat.pow_le_pow_right (by decide) (by omega : (D.size - 1) ≤ 6)) (by decide))
      have HN31 := hide hn31
      have x1 : IntKind.i32.wrap (n : Int) = (n : Int) := IntWalk.i32_in _ (by omega)
      clear hu hT hU hv hev p1 hlt hm hrl hn31
      go_enter Tryz.func131, Tryz.ntmps131
      go_wp2_with (first
      | (go_at_call 127; have _t := tok1; refine (Tryz.strings_HasPrefix D ⟨#[120]⟩ _).mono ?_; rintro e w1 ⟨rfl, hw1⟩; obtain rfl := hw1.symm; rw [show (⟨#[120]⟩ : ByteArray).data.toList = [120] from rfl, P1.out]; clear tok1)
      | (go_at_call 149; refine (HC.out _ (Below.refl _ _)).mono ?_; rintro e w1 ⟨he, hb1⟩; rw [HU.out] at he; obtain rfl := he; have HB1 := hide hb1; clear hb1)
      | (go_at_call 150; refine (signOf_any _ _ HN31.out (HT.out.below HB1.out HT.out.lt) (tabs_kept HTU.out HB1.out)).mono ?_; rintro e w2 ⟨rfl, hb2⟩; have HB2 := hide (HB1.out.trans (hb2.mono HB1.out.size)); clear hb2))
      go_ret2
      exact ⟨by rw [HR.out]; rfl, HB2.out⟩

set_option maxHeartbeats 4000000 in
theorem byNumber_X (D : ByteArray) (ev : Value) (w : World) (hs : D.size ≤ 8) (p1 : Lib.hasPrefix D.data.toList [120] = false) (p2 : Lib.hasPrefix D.data.toList [88] = true) (hT : Tab w) (hU : Lib.Utf8Tabs 4 5 w)
    (hv : w.cell? ⟨1, 0, none⟩ = some ev) (hev : ev = .nilIface ∨ ∃ te pe, ev = .iface te pe) :
    Calls Tryz.prog 131 #[.string D] w fun e w' => e = .returned (entV (numAt 16 6 (D.extract 1 D.size).data.toList)) ∧ Below w.heap.size w w' := by
  have z1 : 1 ≤ D.size := pref_size p2
  have k1 : (1 : Int) ≤ D.size := by omega
  have P1 : Hid (Lib.hasPrefix D.data.toList [120] = false) := hide p1
  have P2 : Hid (Lib.hasPrefix D.data.toList [88] = true) := hide p2
  have HT := hide hT
  have HTU := hide hU
  have HC := hide (fun w1 (hb : Below w.heap.size w w1) => parse16_any (D.extract 1 D.size) ev w1 (Nat.le_trans (by rw [ByteArray.size_extract]; omega) hs) ((hb.cell (p := ⟨1, 0, none⟩) (World.block_lt_of_cell? _ _ hv)).trans hv) hev)
  have tok1 : True := trivial
  have tok2 : True := trivial
  have hrl : (D.extract 1 D.size).size = (D.size - 1) := (by rw [ByteArray.size_extract]; omega)
  have HB0 := hide (parse_lt (b := 16) (l := (D.extract 1 D.size).data.toList) (by decide))
  cases hu : parseU 16 (D.extract 1 D.size).data.toList with
  | none =>
    have HU := hide hu
    have HR : Hid (numAt 16 6 (D.extract 1 D.size).data.toList = none) := hide (by unfold numAt; rw [hu])
    clear hu hT hU hv hev p1 p2
    go_enter Tryz.func131, Tryz.ntmps131
    go_wp2_with (first
      | (go_at_call 127; have _t := tok1; refine (Tryz.strings_HasPrefix D ⟨#[120]⟩ _).mono ?_; rintro e w1 ⟨rfl, hw1⟩; obtain rfl := hw1.symm; rw [show (⟨#[120]⟩ : ByteArray).data.toList = [120] from rfl, P1.out]; clear tok1)
      | (go_at_call 127; have _t := tok2; refine (Tryz.strings_HasPrefix D ⟨#[88]⟩ _).mono ?_; rintro e w1 ⟨rfl, hw1⟩; obtain rfl := hw1.symm; rw [show (⟨#[88]⟩ : ByteArray).data.toList = [88] from rfl, P2.out]; clear tok2)
      | (go_at_call 149; refine (HC.out _ (Below.refl _ _)).mono ?_; rintro e w1 ⟨he, hb1⟩; rw [HU.out] at he; obtain ⟨N, rfl⟩ := he; have HB1 := hide hb1; clear hb1)
      | (go_at_call 150; refine (signOf_any _ _ HN31.out (HT.out.below HB1.out HT.out.lt) (tabs_kept HTU.out HB1.out)).mono ?_; rintro e w2 ⟨rfl, hb2⟩; have HB2 := hide (HB1.out.trans (hb2.mono HB1.out.size)); clear hb2))
    go_ret2
    exact ⟨by rw [HR.out]; rfl, HB1.out⟩
  | some n =>
    have HU := hide hu
    have hlt := HB0.out n hu
    rw [toList_length, hrl] at hlt
    by_cases hm : 6 < (D.size - 1)
    · have HR : Hid (numAt 16 6 (D.extract 1 D.size).data.toList = none) := hide (by unfold numAt; rw [hu]; simp only []; rw [toList_length, hrl, if_pos hm])
      have t1 : decide ((6 : Int) < ((D.extract 1 D.size).size : Int)) = true := decide_eq_true (by rw [hrl]; omega)
      have t2 : decide (6 < (D.extract 1 D.size).size) = true := decide_eq_true (by rw [hrl]; exact hm)
      have t3 : decide ((6 : Int) < (((D.size - 1) : Nat) : Int)) = true := decide_eq_true (by omega)
      have t4 : decide (6 < (D.size - 1)) = true := decide_eq_true hm
      clear hu hT hU hv hev p1 p2 hlt hm hrl
      go_enter Tryz.func131, Tryz.ntmps131
      go_wp2_with (first
      | (go_at_call 127; have _t := tok1; refine (Tryz.strings_HasPrefix D ⟨#[120]⟩ _).mono ?_; rintro e w1 ⟨rfl, hw1⟩; obtain rfl := hw1.symm; rw [show (⟨#[120]⟩ : ByteArray).data.toList = [120] from rfl, P1.out]; clear tok1)
      | (go_at_call 127; have _t := tok2; refine (Tryz.strings_HasPrefix D ⟨#[88]⟩ _).mono ?_; rintro e w1 ⟨rfl, hw1⟩; obtain rfl := hw1.symm; rw [show (⟨#[88]⟩ : ByteArray).data.toList = [88] from rfl, P2.out]; clear tok2)
      | (go_at_call 149; refine (HC.out _ (Below.refl _ _)).mono ?_; rintro e w1 ⟨he, hb1⟩; rw [HU.out] at he; obtain rfl := he; have HB1 := hide hb1; clear hb1)
      | (go_at_call 150; refine (signOf_any _ _ HN31.out (HT.out.below HB1.out HT.out.lt) (tabs_kept HTU.out HB1.out)).mono ?_; rintro e w2 ⟨rfl, hb2⟩; have HB2 := hide (HB1.out.trans (hb2.mono HB1.out.size)); clear hb2))
      go_ret2
      exact ⟨by rw [HR.out]; rfl, HB1.out⟩
    · have HR : Hid (numAt 16 6 (D.extract 1 D.size).data.toList = some (signN n)) := hide (by unfold numAt; rw [hu]; simp only []; rw [toList_length, hrl, if_neg hm])
      have t1 : decide ((6 : Int) < ((D.extract 1 D.size).size : Int)) = false := decide_eq_false (by rw [hrl]; omega)
      have t2 : decide (6 < (D.extract 1 D.size).size) = false := decide_eq_false (by rw [hrl]; exact hm)
      have t3 : decide ((6 : Int) < (((D.size - 1) : Nat) : Int)) = false := decide_eq_false (by omega)
      have t4 : decide (6 < (D.size - 1)) = false := decide_eq_false hm
      have hn31 : n < 2147483648 := Nat.lt_of_lt_of_le hlt (Nat.le_trans (Nat.pow_le_pow_right (by decide) (by omega : (D.size - 1) ≤ 6)) (by decide))
      have HN31 := hide hn31
      have x1 : IntKind.i32.wrap (n : Int) = (n : Int) := IntWalk.i32_in _ (by omega)
      clear hu hT hU hv hev p1 p2 hlt hm hrl hn31
      go_enter Tryz.func131, Tryz.ntmps131
      go_wp2_with (first
      | (go_at_call 127; have _t := tok1; refine (Tryz.strings_HasPrefix D ⟨#[120]⟩ _).mono ?_; rintro e w1 ⟨rfl, hw1⟩; obtain rfl := hw1.symm; rw [show (⟨#[120]⟩ : ByteArray).data.toList = [120] from rfl, P1.out]; clear tok1)
      | (go_at_call 127; have _t := tok2; refine (Tryz.strings_HasPrefix D ⟨#[88]⟩ _).mono ?_; rintro e w1 ⟨rfl, hw1⟩; obtain rfl := hw1.symm; rw [show (⟨#[88]⟩ : ByteArray).data.toList = [88] from rfl, P2.out]; clear tok2)
      | (go_at_call 149; refine (HC.out _ (Below.refl _ _)).mono ?_; rintro e w1 ⟨he, hb1⟩; rw [HU.out] at he; obtain rfl := he; have HB1 := hide hb1; clear hb1)
      | (go_at_call 150; refine (signOf_any _ _ HN31.out (HT.out.below HB1.out HT.out.lt) (tabs_kept HTU.out HB1.out)).mono ?_; rintro e w2 ⟨rfl, hb2⟩; have HB2 := hide (HB1.out.trans (hb2.mono HB1.out.size)); clear hb2))
      go_ret2
      exact ⟨by rw [HR.out]; rfl, HB2.out⟩

set_option maxHeartbeats 4000000 in
theorem byNumber_d (D : ByteArray) (ev : Value) (w : World) (hs : D.size ≤ 8) (p1 : Lib.hasPrefix D.data.toList [120] = false) (p2 : Lib.hasPrefix D.data.toList [88] = false) (hT : Tab w) (hU : Lib.Utf8Tabs 4 5 w)
    (hv : w.cell? ⟨1, 0, none⟩ = some ev) (hev : ev = .nilIface ∨ ∃ te pe, ev = .iface te pe) :
    Calls Tryz.prog 131 #[.string D] w fun e w' => e = .returned (entV (numAt 10 7 D.data.toList)) ∧ Below w.heap.size w w' := by
  have P1 : Hid (Lib.hasPrefix D.data.toList [120] = false) := hide p1
  have P2 : Hid (Lib.hasPrefix D.data.toList [88] = false) := hide p2
  have HT := hide hT
  have HTU := hide hU
  have HC := hide (fun w1 (hb : Below w.heap.size w w1) => parse10_any D ev w1 hs ((hb.cell (p := ⟨1, 0, none⟩) (World.block_lt_of_cell? _ _ hv)).trans hv) hev)
  have tok1 : True := trivial
  have tok2 : True := trivial
  have hrl : D.size = D.size := rfl
  have HB0 := hide (parse_lt (b := 10) (l := D.data.toList) (by decide))
  cases hu : parseU 10 D.data.toList with
  | none =>
    have HU := hide hu
    have HR : Hid (numAt 10 7 D.data.toList = none) := hide (by unfold numAt; rw [hu])
    clear hu hT hU hv hev p1 p2
    go_enter Tryz.func131, Tryz.ntmps131
    go_wp2_with (first
      | (go_at_call 127; have _t := tok1; refine (Tryz.strings_HasPrefix D ⟨#[120]⟩ _).mono ?_; rintro e w1 ⟨rfl, hw1⟩; obtain rfl := hw1.symm; rw [show (⟨#[120]⟩ : ByteArray).data.toList = [120] from rfl, P1.out]; clear tok1)
      | (go_at_call 127; have _t := tok2; refine (Tryz.strings_HasPrefix D ⟨#[88]⟩ _).mono ?_; rintro e w1 ⟨rfl, hw1⟩; obtain rfl := hw1.symm; rw [show (⟨#[88]⟩ : ByteArray).data.toList = [88] from rfl, P2.out]; clear tok2)
      | (go_at_call 149; refine (HC.out _ (Below.refl _ _)).mono ?_; rintro e w1 ⟨he, hb1⟩; rw [HU.out] at he; obtain ⟨N, rfl⟩ := he; have HB1 := hide hb1; clear hb1)
      | (go_at_call 150; refine (signOf_any _ _ HN31.out (HT.out.below HB1.out HT.out.lt) (tabs_kept HTU.out HB1.out)).mono ?_; rintro e w2 ⟨rfl, hb2⟩; have HB2 := hide (HB1.out.trans (hb2.mono HB1.out.size)); clear hb2))
    go_ret2
    exact ⟨by rw [HR.out]; rfl, HB1.out⟩
  | some n =>
    have HU := hide hu
    have hlt := HB0.out n hu
    rw [toList_length, hrl] at hlt
    by_cases hm : 7 < D.size
    · have HR : Hid (numAt 10 7 D.data.toList = none) := hide (by unfold numAt; rw [hu]; simp only []; rw [toList_length, hrl, if_pos hm])
      have t1 : decide ((7 : Int) < (D.size : Int)) = true := decide_eq_true (by rw [hrl]; omega)
      have t2 : decide (7 < D.size) = true := decide_eq_true (by rw [hrl]; exact hm)
      have t3 : decide ((7 : Int) < ((D.size : Nat) : Int)) = true := decide_eq_true (by omega)
      have t4 : decide (7 < D.size) = true := decide_eq_true hm
      clear hu hT hU hv hev p1 p2 hlt hm hrl
      go_enter Tryz.func131, Tryz.ntmps131
      go_wp2_with (first
      | (go_at_call 127; have _t := tok1; refine (Tryz.strings_HasPrefix D ⟨#[120]⟩ _).mono ?_; rintro e w1 ⟨rfl, hw1⟩; obtain rfl := hw1.symm; rw [show (⟨#[120]⟩ : ByteArray).data.toList = [120] from rfl, P1.out]; clear tok1)
      | (go_at_call 127; have _t := tok2; refine (Tryz.strings_HasPrefix D ⟨#[88]⟩ _).mono ?_; rintro e w1 ⟨rfl, hw1⟩; obtain rfl := hw1.symm; rw [show (⟨#[88]⟩ : ByteArray).data.toList = [88] from rfl, P2.out]; clear tok2)
      | (go_at_call 149; refine (HC.out _ (Below.refl _ _)).mono ?_; rintro e w1 ⟨he, hb1⟩; rw [HU.out] at he; obtain rfl := he; have HB1 := hide hb1; clear hb1)
      | (go_at_call 150; refine (signOf_any _ _ HN31.out (HT.out.below HB1.out HT.out.lt) (tabs_kept HTU.out HB1.out)).mono ?_; rintro e w2 ⟨rfl, hb2⟩; have HB2 := hide (HB1.out.trans (hb2.mono HB1.out.size)); clear hb2))
      go_ret2
      exact ⟨by rw [HR.out]; rfl, HB1.out⟩
    · have HR : Hid (numAt 10 7 D.data.toList = some (signN n)) := hide (by unfold numAt; rw [hu]; simp only []; rw [toList_length, hrl, if_neg hm])
      have t1 : decide ((7 : Int) < (D.size : Int)) = false := decide_eq_false (by rw [hrl]; omega)
      have t2 : decide (7 < D.size) = false := decide_eq_false (by rw [hrl]; exact hm)
      have t3 : decide ((7 : Int) < ((D.size : Nat) : Int)) = false := decide_eq_false (by omega)
      have t4 : decide (7 < D.size) = false := decide_eq_false hm
      have hn31 : n < 2147483648 := Nat.lt_of_lt_of_le hlt (Nat.le_trans (Nat.pow_le_pow_right (by decide) (by omega : D.size ≤ 7)) (by decide))
      have HN31 := hide hn31
      have x1 : IntKind.i32.wrap (n : Int) = (n : Int) := IntWalk.i32_in _ (by omega)
      clear hu hT hU hv hev p1 p2 hlt hm hrl hn31
      go_enter Tryz.func131, Tryz.ntmps131
      go_wp2_with (first
      | (go_at_call 127; have _t := tok1; refine (Tryz.strings_HasPrefix D ⟨#[120]⟩ _).mono ?_; rintro e w1 ⟨rfl, hw1⟩; obtain rfl := hw1.symm; rw [show (⟨#[120]⟩ : ByteArray).data.toList = [120] from rfl, P1.out]; clear tok1)
      | (go_at_call 127; have _t := tok2; refine (Tryz.strings_HasPrefix D ⟨#[88]⟩ _).mono ?_; rintro e w1 ⟨rfl, hw1⟩; obtain rfl := hw1.symm; rw [show (⟨#[88]⟩ : ByteArray).data.toList = [88] from rfl, P2.out]; clear tok2)
      | (go_at_call 149; refine (HC.out _ (Below.refl _ _)).mono ?_; rintro e w1 ⟨he, hb1⟩; rw [HU.out] at he; obtain rfl := he; have HB1 := hide hb1; clear hb1)
      | (go_at_call 150; refine (signOf_any _ _ HN31.out (HT.out.below HB1.out HT.out.lt) (tabs_kept HTU.out HB1.out)).mono ?_; rintro e w2 ⟨rfl, hb2⟩; have HB2 := hide (HB1.out.trans (hb2.mono HB1.out.size)); clear hb2))
      go_ret2
      exact ⟨by rw [HR.out]; rfl, HB2.out⟩

end Go.Proofs.YtgokefodmjhhiaaGreatDoor

/- WALK of strings.Cut at a text of one byte. No statement is proved here. -/
namespace Go.Proofs.YtgokefodmjhhiaaGreatDoor
open Go.RowKit
set_option linter.unusedVariables false
set_option linter.unusedSimpArgs false

theorem index_cut (c : UInt8) (l : List UInt8) : (Lib.indexByte l c = -1 ∧ c ∉ l ∧ beforeC c l = l ∧ afterC c l = []) ∨ ∃ o : Nat, Lib.indexByte l c = o ∧ o < l.length ∧ c ∈ l ∧ beforeC c l = l.take o ∧ afterC c l = l.drop (o + 1) := by
  induction l with
  | nil => exact .inl ⟨rfl, by simp, rfl, rfl⟩
  | cons a r ih =>
    by_cases h : a = c
    · subst h
      have := cut_at a (a :: r) 0 (by simp) rfl (fun j hj => absurd hj (by omega))
      exact .inr ⟨0, by simp [Lib.indexByte], by simp, this.1, this.2.1, this.2.2⟩
    · have h1 : (a == c) = false := by simp [h]
      have h2 : (a != c) = true := by simp [h]
      have eb : beforeC c (a :: r) = a :: beforeC c r := by simp [beforeC, List.takeWhile_cons, h2]
      have ea : afterC c (a :: r) = afterC c r := by simp [afterC, List.dropWhile_cons, h2]
      rcases ih with ⟨i1, i2, i3, i4⟩ | ⟨o, i1, i2, i3, i4, i5⟩
      · refine .inl ⟨by simp [Lib.indexByte, h1, i1], ?_, by rw [eb, i3], by rw [ea, i4]⟩
        intro hm
        rcases List.mem_cons.1 hm with e | e
        · exact h e.symm
        · exact i2 e
      · have hne : ((o : Int) == -1) = false := by rw [beq_eq_false_iff_ne]; omega
        refine .inr ⟨o + 1, by simp [Lib.indexByte, h1, i1, hne], by simp; omega, List.mem_cons_of_mem _ i3, by rw [eb, i4]; rfl, by rw [ea, i5]; rfl⟩

/-- what Cut answers -/
def cutV (c : UInt8) (l : List UInt8) : Value := .tuple #[.string (str (beforeC c l)), .string (str (afterC c l)), .bool (hasC c l)]
theorem ret_cut {a b x y : ByteArray} {d e : Bool} (h : a = b) (h' : x = y) (h'' : d = e) : Ending.returned (.tuple #[.string a, .string x, .bool d]) = .returned (.tuple #[.string b, .string y, .bool e]) := by rw [h, h', h'']
set_option maxHeartbeats 1000000 in
theorem cut_any (s : ByteArray) (c : UInt8) (w : World) (hs : s.size ≤ 70368744177664) :
    Calls Tryz.prog 130 #[.string s, .string ⟨#[c]⟩] w fun e w' => e = .returned (cutV c s.data.toList) ∧ Below w.heap.size w w' := by
  have hz : (⟨#[c]⟩ : ByteArray).size = 1 := rfl
  rcases index_cut c s.data.toList with ⟨i1, i2, i3, i4⟩ | ⟨o, i1, i2, i3, i4, i5⟩
  · have I1 := hide i1
    have I2 := hide i2
    have I3 := hide i3
    have I4 := hide i4
    clear i1 i2 i3 i4
    go_enter Tryz.func130, Tryz.ntmps130
    go_wp2_with fail
    refine (Tryz.stringslite_Index_one s c _).mono ?_
    rintro e w1 ⟨rfl, hw⟩
    subst hw
    rw [I1.out]
    go_wp2_with fail
    go_ret3
    exact ⟨ret_cut (by rw [I3.out, str_of]) (by rw [I4.out]; rfl) (by rw [hasC_false I2.out]), Below.refl _ _⟩
  · have I1 := hide i1
    have I3 := hide i3
    have I4 := hide i4
    have I5 := hide i5
    rw [toList_length] at i2
    have o1 : (o : Int) + 1 ≤ s.size := by omega
    have o0 : (0 : Int) ≤ o := by omega
    have o2 : (o : Int) ≤ s.size := by omega
    have o3 : (0 : Int) ≤ (o : Int) + 1 := by omega
    have o4 : ((o : Int) + 1).toNat = o + 1 := by omega
    clear i1 i3 i4 i5
    go_enter Tryz.func130, Tryz.ntmps130
    go_wp2_with fail
    refine (Tryz.stringslite_Index_one s c _).mono ?_
    rintro e w1 ⟨rfl, hw⟩
    subst hw
    rw [I1.out]
    go_wp2_with fail
    go_region
    all_goals (try go_wp2)
    all_goals
      go_ret3
      exact ⟨ret_cut (ext_list (by rw [extract_list, List.drop_zero, str_toList, I4.out])) (ext_list (by rw [extract_end, str_toList, I5.out])) (by rw [hasC_true I3.out]), (Below.refl _ _).drew⟩

set_option maxHeartbeats 1000000 in
theorem strCut_any (s : ByteArray) (c : UInt8) (w : World) (hs : s.size ≤ 70368744177664) :
    Calls Tryz.prog 90 #[.string s, .string ⟨#[c]⟩] w fun e w' => e = .returned (cutV c s.data.toList) ∧ Below w.heap.size w w' := by
  go_enter Tryz.func90, Tryz.ntmps90
  go_wp2_with fail
  refine (cut_any s c _ hs).mono ?_
  rintro e w1 ⟨rfl, hb⟩
  unfold cutV
  go_wp2_with fail
  go_ret3
  exact ⟨rfl, hb⟩
end Go.Proofs.YtgokefodmjhhiaaGreatDoor

/- WALK of ent.reference. No statement is proved here. -/
namespace Go.Proofs.YtgokefodmjhhiaaGreatDoor
open Go.RowKit
set_option linter.unusedVariables false
set_option linter.unusedSimpArgs false
set_option maxRecDepth 100000
/-- the sign of what stands behind a reference's `#` -/
def byN (l : List UInt8) : Option Int := if Lib.hasPrefix l [120] || Lib.hasPrefix l [88] then numAt 16 6 (l.drop 1) else numAt 10 7 l
/-- the sign of what stands between a reference's signs -/
def sgn (l : List UInt8) : Option Int := if Lib.hasPrefix l [35] = true then byN (Lib.trimPrefix l [35]) else nameN l
/-- the sign of the reference whose begin stands just ahead, and how many bytes belong to it -/
def refN (l : List UInt8) : Int × Nat :=
  match sgn (beforeC 59 (l.take 9)), hasC 59 (l.take 9) with
  | some x, true => (x, (beforeC 59 (l.take 9)).length + 1)
  | _, _ => (0, 0)
theorem byNumber_any (D : ByteArray) (ev : Value) (w : World) (hs : D.size ≤ 8) (hT : Tab w) (hU : Lib.Utf8Tabs 4 5 w)
    (hv : w.cell? ⟨1, 0, none⟩ = some ev) (hev : ev = .nilIface ∨ ∃ te pe, ev = .iface te pe) :
    Calls Tryz.prog 131 #[.string D] w fun e w' => e = .returned (entV (byN D.data.toList)) ∧ Below w.heap.size w w' := by
  cases p1 : Lib.hasPrefix D.data.toList [120] with
  | true =>
    have e : byN D.data.toList = numAt 16 6 (D.extract 1 D.size).data.toList := by unfold byN; rw [p1, extract_end]; rfl
    rw [e]; exact byNumber_x D ev w hs p1 hT hU hv hev
  | false =>
    cases p2 : Lib.hasPrefix D.data.toList [88] with
    | true =>
      have e : byN D.data.toList = numAt 16 6 (D.extract 1 D.size).data.toList := by unfold byN; rw [p1, p2, extract_end]; rfl
      rw [e]; exact byNumber_X D ev w hs p1 p2 hT hU hv hev
    | false =>
      have e : byN D.data.toList = numAt 10 7 D.data.toList := by unfold byN; rw [p1, p2]; rfl
      rw [e]; exact byNumber_d D ev w hs p1 p2 hT hU hv hev
theorem dig_size {C D : ByteArray} (hp : Lib.hasPrefix C.data.toList [35] = true) (hD : D.data.toList = Lib.trimPrefix C.data.toList [35]) (h : C.size ≤ 9) : D.size ≤ 8 := by
  have := congrArg List.length hD
  rw [toList_length] at this
  rw [this]
  unfold Lib.trimPrefix
  rw [hp]
  have := pref_size hp
  simp only [if_true, List.length_drop, toList_length]
  have e1 : ([35] : List UInt8).length = 1 := rfl
  omega
def refV (o : Int × Nat) : Value := .tuple #[.int .i32 o.1, .int .i64 o.2]
set_option maxHeartbeats 4000000 in
theorem reference_any (R : ByteArray) (b : Nat) (ev : Value) (w : World) (hs : R.size ≤ 16777216) (hM : SMapN w b 16 nameN) (hT : Tab w) (hU : Lib.Utf8Tabs 4 5 w)
    (hv : w.cell? ⟨1, 0, none⟩ = some ev) (hev : ev = .nilIface ∨ ∃ te pe, ev = .iface te pe) :
    Calls Tryz.prog 91 #[.string R, .map (some b)] w fun e w' => e = .returned (refV (refN R.data.toList)) ∧ Below w.heap.size w w' := by
  have zC : (beforeC 59 (R.data.toList.take 9)).length ≤ 9 := Nat.le_trans ((List.takeWhile_sublist _).length_le) (List.length_take_le _ _)
  obtain ⟨C, hC⟩ : ∃ C, C = str (beforeC 59 (R.data.toList.take 9)) := ⟨_, rfl⟩
  have hCt : C.data.toList = beforeC 59 (R.data.toList.take 9) := by rw [hC, str_toList]
  have HCS : Hid (C.size ≤ maxLen) := hide (by rw [hC, str_size]; exact Nat.le_trans zC (by decide))
  have hCs : C.size ≤ 9 := by rw [hC, str_size]; exact zC
  have HM := hide hM
  obtain ⟨D, hD⟩ : ∃ D, D = (⟨(Lib.trimPrefix C.data.toList [35]).toArray⟩ : ByteArray) := ⟨_, rfl⟩
  have hDt : D.data.toList = Lib.trimPrefix C.data.toList [35] := by rw [hD]
  have hpre := fun w1 => Tryz.strings_CutPrefix C ⟨#[35]⟩ w1
  rw [show (⟨#[35]⟩ : ByteArray).data.toList = [35] from rfl, ← hD] at hpre
  by_cases hz : R.size < 9
  · have m1 : decide ((R.size : Int) < 9) = true := decide_eq_true (by omega)
    have mn : min (R.size : Int) 9 = R.size := by omega
    obtain ⟨N, hN⟩ : ∃ N, N = R := ⟨_, rfl⟩
    have hNt : N.data.toList = R.data.toList.take 9 := by rw [hN, List.take_of_length_le (by rw [toList_length]; omega)]
    have hcut := fun w1 => strCut_any N 59 w1 (by rw [← toList_length, hNt]; exact Nat.le_trans (List.length_take_le _ _) (by decide))
    simp only [cutV] at hcut
    rw [hNt, ← hC, hN] at hcut
    cases hp : Lib.hasPrefix C.data.toList [35]
    · have HP : Hid (Lib.hasPrefix C.data.toList [35] = false) := hide hp
      rw [hp] at hpre
      have HPRE := hide hpre
      have hsg : sgn C.data.toList = nameN C.data.toList := by unfold sgn; rw [hp, if_neg (by decide)]
      cases hsn : nameN C.data.toList with
      | none =>
        rw [hsn] at hsg
        have HNM := hide hsn
        cases hend : hasC 59 (R.data.toList.take 9) with
        | false =>
          have HR : Hid (refN R.data.toList = (0, 0)) := hide (by unfold refN; rw [← hCt, hsg, hend])
          rw [hend] at hcut
          have HCUT := hide hcut
          clear hcut hsg hsn hend hp hpre hT hU hv hev hM hC hCt hDt hD hN hNt zC
          go_enter Tryz.func91, Tryz.ntmps91
          go_wp2_with (first | (go_at_call 90; with_reducible refine (HCUT.out _).mono ?_; rintro e w1 ⟨rfl, hb1⟩; have HB1 := hide hb1; clear hb1) | (go_at_call 95; with_reducible refine (HPRE.out _).mono ?_; rintro e wp ⟨rfl, hwp⟩; obtain rfl := hwp) | (at_lookup; refine wpList_sm_look rfl _ _ rfl b 16 nameN rfl (HM.out.kept HB1.out) C HCS.out rfl ?_; rw [HNM.out]))
          go_ret2
          exact ⟨by rw [HR.out]; rfl, HB1.out⟩
        | true =>
          have HR : Hid (refN R.data.toList = (0, 0)) := hide (by unfold refN; rw [← hCt, hsg, hend])
          rw [hend] at hcut
          have HCUT := hide hcut
          clear hcut hsg hsn hend hp hpre hT hU hv hev hM hC hCt hDt hD hN hNt zC
          go_enter Tryz.func91, Tryz.ntmps91
          go_wp2_with (first | (go_at_call 90; with_reducible refine (HCUT.out _).mono ?_; rintro e w1 ⟨rfl, hb1⟩; have HB1 := hide hb1; clear hb1) | (go_at_call 95; with_reducible refine (HPRE.out _).mono ?_; rintro e wp ⟨rfl, hwp⟩; obtain rfl := hwp) | (at_lookup; refine wpList_sm_look rfl _ _ rfl b 16 nameN rfl (HM.out.kept HB1.out) C HCS.out rfl ?_; rw [HNM.out]))
          go_ret2
          exact ⟨by rw [HR.out]; rfl, HB1.out⟩
      | some x =>
        rw [hsn] at hsg
        have HNM := hide hsn
        cases hend : hasC 59 (R.data.toList.take 9) with
        | false =>
          have HR : Hid (refN R.data.toList = (0, 0)) := hide (by unfold refN; rw [← hCt, hsg, hend])
          rw [hend] at hcut
          have HCUT := hide hcut
          clear hcut hsg hsn hend hp hpre hT hU hv hev hM hC hCt hDt hD hN hNt zC
          go_enter Tryz.func91, Tryz.ntmps91
          go_wp2_with (first | (go_at_call 90; with_reducible refine (HCUT.out _).mono ?_; rintro e w1 ⟨rfl, hb1⟩; have HB1 := hide hb1; clear hb1) | (go_at_call 95; with_reducible refine (HPRE.out _).mono ?_; rintro e wp ⟨rfl, hwp⟩; obtain rfl := hwp) | (at_lookup; refine wpList_sm_look rfl _ _ rfl b 16 nameN rfl (HM.out.kept HB1.out) C HCS.out rfl ?_; rw [HNM.out]))
          go_ret2
          exact ⟨by rw [HR.out]; rfl, HB1.out⟩
        | true =>
          have HR : Hid (refN R.data.toList = (x, C.size + 1)) := hide (by unfold refN; rw [← hCt, hsg, hend]; simp only [toList_length])
          rw [hend] at hcut
          have HCUT := hide hcut
          clear hcut hsg hsn hend hp hpre hT hU hv hev hM hC hCt hDt hD hN hNt zC
          go_enter Tryz.func91, Tryz.ntmps91
          go_wp2_with (first | (go_at_call 90; with_reducible refine (HCUT.out _).mono ?_; rintro e w1 ⟨rfl, hb1⟩; have HB1 := hide hb1; clear hb1) | (go_at_call 95; with_reducible refine (HPRE.out _).mono ?_; rintro e wp ⟨rfl, hwp⟩; obtain rfl := hwp) | (at_lookup; refine wpList_sm_look rfl _ _ rfl b 16 nameN rfl (HM.out.kept HB1.out) C HCS.out rfl ?_; rw [HNM.out]))
          go_ret2
          exact ⟨by rw [HR.out]; rfl, HB1.out⟩
    · have HP : Hid (Lib.hasPrefix C.data.toList [35] = true) := hide hp
      rw [hp] at hpre
      have HPRE := hide hpre
      obtain ⟨nm, hnm⟩ : ∃ nm, nameN C.data.toList = nm := ⟨_, rfl⟩
      have HNM := hide hnm
      have hsg : sgn C.data.toList = byN D.data.toList := by unfold sgn; rw [hp, if_pos rfl, hDt]
      have hds : D.size ≤ 8 := dig_size hp hDt (by rw [← hCt] at zC; rw [toList_length] at zC; exact zC)
      have hnum := fun w1 (hb : Below w.heap.size w w1) => byNumber_any D ev w1 hds (hT.below hb hT.lt) (tabs_kept hU hb) ((hb.cell (p := ⟨1, 0, none⟩) (World.block_lt_of_cell? _ _ hv)).trans hv) hev
      cases hsn : byN D.data.toList with
      | none =>
        rw [hsn] at hsg
        rw [hsn] at hnum
        simp only [entV] at hnum
        have HNUM := hide hnum
        cases hend : hasC 59 (R.data.toList.take 9) with
        | false =>
          have HR : Hid (refN R.data.toList = (0, 0)) := hide (by unfold refN; rw [← hCt, hsg, hend])
          rw [hend] at hcut
          have HCUT := hide hcut
          clear hcut hsg hsn hend hp hpre hT hU hv hev hM hC hCt hDt hD hN hNt zC hnm hnum hds
          go_enter Tryz.func91, Tryz.ntmps91
          go_wp2_with (first | (go_at_call 90; with_reducible refine (HCUT.out _).mono ?_; rintro e w1 ⟨rfl, hb1⟩; have HB1 := hide hb1; clear hb1) | (go_at_call 95; with_reducible refine (HPRE.out _).mono ?_; rintro e wp ⟨rfl, hwp⟩; obtain rfl := hwp) | (at_lookup; refine wpList_sm_look rfl _ _ rfl b 16 nameN rfl (HM.out.kept HB1.out) C HCS.out rfl ?_; rw [HNM.out]) | (go_at_call 131; with_reducible refine (HNUM.out _ HB1.out).mono ?_; rintro e w2 ⟨rfl, hb2⟩; have HB2 := hide (HB1.out.trans (hb2.mono HB1.out.size)); clear hb2))
          go_ret2
          exact ⟨by rw [HR.out]; rfl, HB2.out⟩
        | true =>
          have HR : Hid (refN R.data.toList = (0, 0)) := hide (by unfold refN; rw [← hCt, hsg, hend])
          rw [hend] at hcut
          have HCUT := hide hcut
          clear hcut hsg hsn hend hp hpre hT hU hv hev hM hC hCt hDt hD hN hNt zC hnm hnum hds
          go_enter Tryz.func91, Tryz.ntmps91
          go_wp2_with (first | (go_at_call 90; with_reducible refine (HCUT.out _).mono ?_; rintro e w1 ⟨rfl, hb1⟩; have HB1 := hide hb1; clear hb1) | (go_at_call 95; with_reducible refine (HPRE.out _).mono ?_; rintro e wp ⟨rfl, hwp⟩; obtain rfl := hwp) | (at_lookup; refine wpList_sm_look rfl _ _ rfl b 16 nameN rfl (HM.out.kept HB1.out) C HCS.out rfl ?_; rw [HNM.out]) | (go_at_call 131; with_reducible refine (HNUM.out _ HB1.out).mono ?_; rintro e w2 ⟨rfl, hb2⟩; have HB2 := hide (HB1.out.trans (hb2.mono HB1.out.size)); clear hb2))
          go_ret2
          exact ⟨by rw [HR.out]; rfl, HB2.out⟩
      | some x =>
        rw [hsn] at hsg
        rw [hsn] at hnum
        simp only [entV] at hnum
        have HNUM := hide hnum
        cases hend : hasC 59 (R.data.toList.take 9) with
        | false =>
          have HR : Hid (refN R.data.toList = (0, 0)) := hide (by unfold refN; rw [← hCt, hsg, hend])
          rw [hend] at hcut
          have HCUT := hide hcut
          clear hcut hsg hsn hend hp hpre hT hU hv hev hM hC hCt hDt hD hN hNt zC hnm hnum hds
          go_enter Tryz.func91, Tryz.ntmps91
          go_wp2_with (first | (go_at_call 90; with_reducible refine (HCUT.out _).mono ?_; rintro e w1 ⟨rfl, hb1⟩; have HB1 := hide hb1; clear hb1) | (go_at_call 95; with_reducible refine (HPRE.out _).mono ?_; rintro e wp ⟨rfl, hwp⟩; obtain rfl := hwp) | (at_lookup; refine wpList_sm_look rfl _ _ rfl b 16 nameN rfl (HM.out.kept HB1.out) C HCS.out rfl ?_; rw [HNM.out]) | (go_at_call 131; with_reducible refine (HNUM.out _ HB1.out).mono ?_; rintro e w2 ⟨rfl, hb2⟩; have HB2 := hide (HB1.out.trans (hb2.mono HB1.out.size)); clear hb2))
          go_ret2
          exact ⟨by rw [HR.out]; rfl, HB2.out⟩
        | true =>
          have HR : Hid (refN R.data.toList = (x, C.size + 1)) := hide (by unfold refN; rw [← hCt, hsg, hend]; simp only [toList_length])
          rw [hend] at hcut
          have HCUT := hide hcut
          clear hcut hsg hsn hend hp hpre hT hU hv hev hM hC hCt hDt hD hN hNt zC hnm hnum hds
          go_enter Tryz.func91, Tryz.ntmps91
          go_wp2_with (first | (go_at_call 90; with_reducible refine (HCUT.out _).mono ?_; rintro e w1 ⟨rfl, hb1⟩; have HB1 := hide hb1; clear hb1) | (go_at_call 95; with_reducible refine (HPRE.out _).mono ?_; rintro e wp ⟨rfl, hwp⟩; obtain rfl := hwp) | (at_lookup; refine wpList_sm_look rfl _ _ rfl b 16 nameN rfl (HM.out.kept HB1.out) C HCS.out rfl ?_; rw [HNM.out]) | (go_at_call 131; with_reducible refine (HNUM.out _ HB1.out).mono ?_; rintro e w2 ⟨rfl, hb2⟩; have HB2 := hide (HB1.out.trans (hb2.mono HB1.out.size)); clear hb2))
          go_ret2
          exact ⟨by rw [HR.out]; rfl, HB2.out⟩
  · have m1 : decide ((R.size : Int) < 9) = false := decide_eq_false (by omega)
    have mn : min (R.size : Int) 9 = 9 := by omega
    have m4 : (9 : Int) ≤ R.size := by omega
    obtain ⟨N, hN⟩ : ∃ N, N = R.extract 0 9 := ⟨_, rfl⟩
    have hNt : N.data.toList = R.data.toList.take 9 := by rw [hN, extract_list, List.drop_zero]
    have hcut := fun w1 => strCut_any N 59 w1 (by rw [← toList_length, hNt]; exact Nat.le_trans (List.length_take_le _ _) (by decide))
    simp only [cutV] at hcut
    rw [hNt, ← hC, hN] at hcut
    cases hp : Lib.hasPrefix C.data.toList [35]
    · have HP : Hid (Lib.hasPrefix C.data.toList [35] = false) := hide hp
      rw [hp] at hpre
      have HPRE := hide hpre
      have hsg : sgn C.data.toList = nameN C.data.toList := by unfold sgn; rw [hp, if_neg (by decide)]
      cases hsn : nameN C.data.toList with
      | none =>
        rw [hsn] at hsg
        have HNM := hide hsn
        cases hend : hasC 59 (R.data.toList.take 9) with
        | false =>
          have HR : Hid (refN R.data.toList = (0, 0)) := hide (by unfold refN; rw [← hCt, hsg, hend])
          rw [hend] at hcut
          have HCUT := hide hcut
          clear hcut hsg hsn hend hp hpre hT hU hv hev hM hC hCt hDt hD hN hNt zC
          go_enter Tryz.func91, Tryz.ntmps91
          go_wp2_with (first | (go_at_call 90; with_reducible refine (HCUT.out _).mono ?_; rintro e w1 ⟨rfl, hb1⟩; have HB1 := hide hb1; clear hb1) | (go_at_call 95; with_reducible refine (HPRE.out _).mono ?_; rintro e wp ⟨rfl, hwp⟩; obtain rfl := hwp) | (at_lookup; refine wpList_sm_look rfl _ _ rfl b 16 nameN rfl (HM.out.kept HB1.out) C HCS.out rfl ?_; rw [HNM.out]))
          go_ret2
          exact ⟨by rw [HR.out]; rfl, HB1.out⟩
        | true =>
          have HR : Hid (refN R.data.toList = (0, 0)) := hide (by unfold refN; rw [← hCt, hsg, hend])
          rw [hend] at hcut
          have HCUT := hide hcut
          clear hcut hsg hsn hend hp hpre hT hU hv hev hM hC hCt hDt hD hN hNt zC
          go_enter Tryz.func91, Tryz.ntmps91
          go_wp2_with (first | (go_at_call 90; with_reducible refine (HCUT.out _).mono ?_; rintro e w1 ⟨rfl, hb1⟩; have HB1 := hide hb1; clear hb1) | (go_at_call 95; with_reducible refine (HPRE.out _).mono ?_; rintro e wp ⟨rfl, hwp⟩; obtain rfl := hwp) | (at_lookup; refine wpList_sm_look rfl _ _ rfl b 16 nameN rfl (HM.out.kept HB1.out) C HCS.out rfl ?_; rw [HNM.out]))
          go_ret2
          exact ⟨by rw [HR.out]; rfl, HB1.out⟩
      | some x =>
        rw [hsn] at hsg
        have HNM := hide hsn
        cases hend : hasC 59 (R.data.toList.take 9) with
        | false =>
          have HR : Hid (refN R.data.toList = (0, 0)) := hide (by unfold refN; rw [← hCt, hsg, hend])
          rw [hend] at hcut
          have HCUT := hide hcut
          clear hcut hsg hsn hend hp hpre hT hU hv hev hM hC hCt hDt hD hN hNt zC
          go_enter Tryz.func91, Tryz.ntmps91
          go_wp2_with (first | (go_at_call 90; with_reducible refine (HCUT.out _).mono ?_; rintro e w1 ⟨rfl, hb1⟩; have HB1 := hide hb1; clear hb1) | (go_at_call 95; with_reducible refine (HPRE.out _).mono ?_; rintro e wp ⟨rfl, hwp⟩; obtain rfl := hwp) | (at_lookup; refine wpList_sm_look rfl _ _ rfl b 16 nameN rfl (HM.out.kept HB1.out) C HCS.out rfl ?_; rw [HNM.out]))
          go_ret2
          exact ⟨by rw [HR.out]; rfl, HB1.out⟩
        | true =>
          have HR : Hid (refN R.data.toList = (x, C.size + 1)) := hide (by unfold refN; rw [← hCt, hsg, hend]; simp only [toList_length])
          rw [hend] at hcut
          have HCUT := hide hcut
          clear hcut hsg hsn hend hp hpre hT hU hv hev hM hC hCt hDt hD hN hNt zC
          go_enter Tryz.func91, Tryz.ntmps91
          go_wp2_with (first | (go_at_call 90; with_reducible refine (HCUT.out _).mono ?_; rintro e w1 ⟨rfl, hb1⟩; have HB1 := hide hb1; clear hb1) | (go_at_call 95; with_reducible refine (HPRE.out _).mono ?_; rintro e wp ⟨rfl, hwp⟩; obtain rfl := hwp) | (at_lookup; refine wpList_sm_look rfl _ _ rfl b 16 nameN rfl (HM.out.kept HB1.out) C HCS.out rfl ?_; rw [HNM.out]))
          go_ret2
          exact ⟨by rw [HR.out]; rfl, HB1.out⟩
    · have HP : Hid (Lib.hasPrefix C.data.toList [35] = true) := hide hp
      rw [hp] at hpre
      have HPRE := hide hpre
      obtain ⟨nm, hnm⟩ : ∃ nm, nameN C.data.toList = nm := ⟨_, rfl⟩
      have HNM := hide hnm
      have hsg : sgn C.data.toList = byN D.data.toList := by unfold sgn; rw [hp, if_pos rfl, hDt]
      have hds : D.size ≤ 8 := dig_size hp hDt (by rw [← hCt] at zC; rw [toList_length] at zC; exact zC)
      have hnum := fun w1 (hb : Below w.heap.size w w1) => byNumber_any D ev w1 hds (hT.below hb hT.lt) (tabs_kept hU hb) ((hb.cell (p := ⟨1, 0, none⟩) (World.block_lt_of_cell? _ _ hv)).trans hv) hev
      cases hsn : byN D.data.toList with
      | none =>
        rw [hsn] at hsg
        rw [hsn] at hnum
        simp only [entV] at hnum
        have HNUM := hide hnum
        cases hend : hasC 59 (R.data.toList.take 9) with
        | false =>
          have HR : Hid (refN R.data.toList = (0, 0)) := hide (by unfold refN; rw [← hCt, hsg, hend])
          rw [hend] at hcut
          have HCUT := hide hcut
          clear hcut hsg hsn hend hp hpre hT hU hv hev hM hC hCt hDt hD hN hNt zC hnm hnum hds
          go_enter Tryz.func91, Tryz.ntmps91
          go_wp2_with (first | (go_at_call 90; with_reducible refine (HCUT.out _).mono ?_; rintro e w1 ⟨rfl, hb1⟩; have HB1 := hide hb1; clear hb1) | (go_at_call 95; with_reducible refine (HPRE.out _).mono ?_; rintro e wp ⟨rfl, hwp⟩; obtain rfl := hwp) | (at_lookup; refine wpList_sm_look rfl _ _ rfl b 16 nameN rfl (HM.out.kept HB1.out) C HCS.out rfl ?_; rw [HNM.out]) | (go_at_call 131; with_reducible refine (HNUM.out _ HB1.out).mono ?_; rintro e w2 ⟨rfl, hb2⟩; have HB2 := hide (HB1.out.trans (hb2.mono HB1.out.size)); clear hb2))
          go_ret2
          exact ⟨by rw [HR.out]; rfl, HB2.out⟩
        | true =>
          have HR : Hid (refN R.data.toList = (0, 0)) := hide (by unfold refN; rw [← hCt, hsg, hend])
          rw [hend] at hcut
          have HCUT := hide hcut
          clear hcut hsg hsn hend hp hpre hT hU hv hev hM hC hCt hDt hD hN hNt zC hnm hnum hds
          go_enter Tryz.func91, Tryz.ntmps91
          go_wp2_with (first | (go_at_call 90; with_reducible refine (HCUT.out _).mono ?_; rintro e w1 ⟨rfl, hb1⟩; have HB1 := hide hb1; clear hb1) | (go_at_call 95; with_reducible refine (HPRE.out _).mono ?_; rintro e wp ⟨rfl, hwp⟩; obtain rfl := hwp) | (at_lookup; refine wpList_sm_look rfl _ _ rfl b 16 nameN rfl (HM.out.kept HB1.out) C HCS.out rfl ?_; rw [HNM.out]) | (go_at_call 131; with_reducible refine (HNUM.out _ HB1.out).mono ?_; rintro e w2 ⟨rfl, hb2⟩; have HB2 := hide (HB1.out.trans (hb2.mono HB1.out.size)); clear hb2))
          go_ret2
          exact ⟨by rw [HR.out]; rfl, HB2.out⟩
      | some x =>
        rw [hsn] at hsg
        rw [hsn] at hnum
        simp only [entV] at hnum
        have HNUM := hide hnum
        cases hend : hasC 59 (R.data.toList.take 9) with
        | false =>
          have HR : Hid (refN R.data.toList = (0, 0)) := hide (by unfold refN; rw [← hCt, hsg, hend])
          rw [hend] at hcut
          have HCUT := hide hcut
          clear hcut hsg hsn hend hp hpre hT hU hv hev hM hC hCt hDt hD hN hNt zC hnm hnum hds
          go_enter Tryz.func91, Tryz.ntmps91
          go_wp2_with (first | (go_at_call 90; with_reducible refine (HCUT.out _).mono ?_; rintro e w1 ⟨rfl, hb1⟩; have HB1 := hide hb1; clear hb1) | (go_at_call 95; with_reducible refine (HPRE.out _).mono ?_; rintro e wp ⟨rfl, hwp⟩; obtain rfl := hwp) | (at_lookup; refine wpList_sm_look rfl _ _ rfl b 16 nameN rfl (HM.out.kept HB1.out) C HCS.out rfl ?_; rw [HNM.out]) | (go_at_call 131; with_reducible refine (HNUM.out _ HB1.out).mono ?_; rintro e w2 ⟨rfl, hb2⟩; have HB2 := hide (HB1.out.trans (hb2.mono HB1.out.size)); clear hb2))
          go_ret2
          exact ⟨by rw [HR.out]; rfl, HB2.out⟩
        | true =>
          have HR : Hid (refN R.data.toList = (x, C.size + 1)) := hide (by unfold refN; rw [← hCt, hsg, hend]; simp only [toList_length])
          rw [hend] at hcut
          have HCUT := hide hcut
          clear hcut hsg hsn hend hp hpre hT hU hv hev hM hC hCt hDt hD hN hNt zC hnm hnum hds
          go_enter Tryz.func91, Tryz.ntmps91
          go_wp2_with (first | (go_at_call 90; with_reducible refine (HCUT.out _).mono ?_; rintro e w1 ⟨rfl, hb1⟩; have HB1 := hide hb1; clear hb1) | (go_at_call 95; with_reducible refine (HPRE.out _).mono ?_; rintro e wp ⟨rfl, hwp⟩; obtain rfl := hwp) | (at_lookup; refine wpList_sm_look rfl _ _ rfl b 16 nameN rfl (HM.out.kept HB1.out) C HCS.out rfl ?_; rw [HNM.out]) | (go_at_call 131; with_reducible refine (HNUM.out _ HB1.out).mono ?_; rintro e w2 ⟨rfl, hb2⟩; have HB2 := hide (HB1.out.trans (hb2.mono HB1.out.size)); clear hb2))
          go_ret2
          exact ⟨by rw [HR.out]; rfl, HB2.out⟩
end Go.Proofs.YtgokefodmjhhiaaGreatDoor

/- Cuts at a byte, and a text's size: split off XWordP and XWordC, so that a seat without word fills. No statement is proved here. Own work of the verifier. -/
namespace Go.Proofs.YtgokefodmjhhiaaGreatDoor
open Go.RowKit
set_option linter.unusedVariables false
set_option linter.unusedSimpArgs false
theorem cut_case (c : UInt8) (l : List UInt8) : (c ∉ l ∧ beforeC c l = l ∧ afterC c l = []) ∨ ∃ a r, l = a ++ c :: r ∧ c ∉ a ∧ beforeC c l = a ∧ afterC c l = r := by
  induction l with
  | nil => exact .inl ⟨by simp, rfl, rfl⟩
  | cons x l ih =>
    by_cases hx : x = c
    · subst hx
      exact .inr ⟨[], l, rfl, by simp, by simp [beforeC], by simp [afterC]⟩
    · have hne : (x != c) = true := by rw [bne_iff_ne]; exact hx
      have e1 : beforeC c (x :: l) = x :: beforeC c l := by unfold beforeC; rw [List.takeWhile_cons, hne]; rfl
      have e2 : afterC c (x :: l) = afterC c l := by unfold afterC; rw [List.dropWhile_cons, hne]; rfl
      rcases ih with ⟨h1, h2, h3⟩ | ⟨a, r, h1, h2, h3, h4⟩
      · exact .inl ⟨by simp [h1]; exact fun e => hx e.symm, by rw [e1, h2], by rw [e2, h3]⟩
      · exact .inr ⟨x :: a, r, by rw [h1]; rfl, by simp [h2]; exact fun e => hx e.symm, by rw [e1, h3], by rw [e2, h4]⟩
def szOfS : Value → Nat
  | .string t => t.size
  | _ => 0
end Go.Proofs.YtgokefodmjhhiaaGreatDoor

/- WALKS of strings.Builder's copyCheck and WriteString at this dump, and small words for a builder of bytes. No statement is proved here. -/
namespace Go.Proofs.YtgokefodmjhhiaaGreatDoor
open Go.RowKit
set_option linter.unusedVariables false
set_option linter.unusedSimpArgs false

theorem bldSize : (Tryz.prog.info? 50).map (·.size) = some 2 := by kernel_rfl
theorem bldLies : liesAt Tryz.prog Tryz.prog.depth 50 (2 / Tryz.prog.cellsOf 50) 0 50 1 = true := by kernel_rfl

/-- the builder in block b has gathered the bytes l; below B all is as in W0 -/
def Bld (B b : Nat) (l : List UInt8) (W0 w : World) : Prop := Lib.IsBuilder 50 5 B b (cellsOf l) w ∧ Below B W0 w ∧ B ≤ w.heap.size

set_option maxRecDepth 100000 in
set_option maxHeartbeats 1000000 in
theorem copyCheck_used (b : Nat) (w : World) (h0 : w.cell? ⟨b, 0, none⟩ = some (.pointer (some ⟨b, 0, none⟩))) :
    Calls Tryz.prog 87 #[.pointer (some ⟨b, 0, none⟩)] w fun e w' => e = .returned (.tuple #[]) ∧ w = w' := by
  obtain ⟨j, hj, _⟩ := Option.map_eq_some_iff.1 bldSize
  have hne := fun w : World => Lib.run_neq_ptr_same (P := Tryz.prog) w ⟨b, 0, none⟩ Tryz.underlying47 hj
  go_enter Tryz.func87, Tryz.ntmps87
  go_wp2
  go_end0
  exact ⟨rfl, rfl⟩

set_option maxRecDepth 100000 in
set_option maxHeartbeats 1000000 in
theorem copyCheck_fresh (b : Nat) (w : World) (h0 : w.cell? ⟨b, 0, none⟩ = some (.pointer none)) (hsh : w.shape? b = some (50, 2)) (hfz : w.frozen? ⟨b, 0, none⟩ = false) :
    Calls Tryz.prog 87 #[.pointer (some ⟨b, 0, none⟩)] w fun e w' => e = .returned (.tuple #[]) ∧ w.setCell ⟨b, 0, none⟩ (.pointer (some ⟨b, 0, none⟩)) = w' := by
  obtain ⟨j, hj, hjs⟩ := Option.map_eq_some_iff.1 bldSize
  have c1 := Lib.run_to_unsafe (P := Tryz.prog) w ⟨b, 0, none⟩ Tryz.underlying47 Tryz.underlying130 hj (by rw [hjs]; decide) hsh (Nat.zero_lt_succ 1)
  have c2 := Lib.run_from_unsafe (P := Tryz.prog) w ⟨b, 0, none⟩ Tryz.underlying130 Tryz.underlying47 hj hsh bldLies
  have ce := fun w : World => run_callFunc_extern (P := Tryz.prog) (w := w) (args := #[Value.pointer (some ⟨b, 0, none⟩)]) Tryz.func128 (by kernel_rfl) (by kernel_rfl) (by kernel_rfl) (e := Extern.AbiNoEscape.same) (by kernel_rfl)
  have cn := fun w : World => Lib.run_noEscape (P := Tryz.prog) (w := w) (Value.pointer (some ⟨b, 0, none⟩))
  go_enter Tryz.func87, Tryz.ntmps87
  go_wp2
  go_end0
  exact ⟨rfl, rfl⟩

theorem copyCheck_any (B b : Nat) (bs : List Value) (w : World) (h : Lib.IsBuilder 50 5 B b bs w) :
    Calls Tryz.prog 87 #[.pointer (some ⟨b, 0, none⟩)] w fun e w' => e = .returned (.tuple #[]) ∧ (Lib.BuilderAt 50 5 B b (.pointer (some ⟨b, 0, none⟩)) bs w' ∧ Below B w w') := by
  rcases h with h | h
  · refine (copyCheck_fresh b w h.cell0 h.shape h.frozen0).mono ?_
    rintro e w' ⟨rfl, rfl⟩
    exact ⟨rfl, h.used _, (Below.refl B w).setCell (p := ⟨b, 0, none⟩) h.1 _⟩
  · refine (copyCheck_used b w h.cell0).mono ?_
    rintro e w' ⟨rfl, rfl⟩
    exact ⟨rfl, h, Below.refl B _⟩

set_option maxRecDepth 100000 in
set_option maxHeartbeats 1000000 in
theorem writeString_any (B b : Nat) (l : List UInt8) (s : ByteArray) (W0 w : World) (h : Bld B b l W0 w) (hlen : l.length + s.size ≤ 140737488355328) :
    Calls Tryz.prog 45 #[.pointer (some ⟨b, 0, none⟩), .string s] w fun e w' => e = .returned (.tuple #[.int .i64 s.size, .nilIface]) ∧ Bld B b (l ++ s.data.toList) W0 w' := by
  obtain ⟨h, hbel, hBw⟩ := h
  obtain ⟨i0, hi, hz0, hz1, hz2⟩ := info_parts info_u8
  have HBL := hide hbel
  clear hbel
  go_enter Tryz.func45, Tryz.ntmps45
  go_wp2_with fail
  refine (copyCheck_any B b (cellsOf l) _ h).mono ?_
  rintro e w1 ⟨rfl, h1, hb1⟩
  obtain ⟨hB, v, hbk, hown, hne⟩ := h1
  have c1 : w1.cell? ⟨b, 1, none⟩ = some v := by rw [Lib.cell_of_heap hbk]; rfl
  have hlt : b < w1.heap.size := lt_of_block hbk
  have hl1 : (cellsOf l).length = l.length := cellsOf_length l
  have HBK := hide hbk
  have HOWN := hide hown
  have HNE := hide hne
  have HB1 := hide hb1
  have hsz1 := hb1.size
  have HI := hide hi
  have HZ0 := hide hz0
  have HZ1 := hide hz1
  have HZ2 := hide hz2
  have HL1 := hide hl1
  clear hbk hown hne hb1 hi hz0 hz1 hz2 h
  go_wp2_with (refine Lib.wpList_append_own_string _ rfl _ _ 48 9 rfl B 5 i0 Tryz.underlying48 Tryz.underlying9 HI.out HZ0.out HZ1.out HZ2.out v (cellsOf l).length (cellsOf l) rfl HOWN.out s rfl (by rw [HL1.out]; unfold maxLen; omega) (by rw [HL1.out]; omega) (by omega) ?_
               intro v' w2 hown' hgrow _
               obtain ⟨ao, n', cap, rfl⟩ : ∃ ao n' cap, v' = .slice ao n' cap := by
                 rcases hown'.2 with ⟨hv, _⟩ | ⟨g, cap, cur, hv, _⟩
                 · exact ⟨_, _, _, hv⟩
                 · exact ⟨_, _, _, hv⟩
               have hb2 : w2.heap[b]? = some (.cells #[.pointer (some ⟨b, 0, none⟩), v] 50 (0, 0)) := by
                 rw [hgrow.block b hlt (fun e => HNE.out e.symm)]
                 exact HBK.out
               have d1 : w2.cell? ⟨b, 1, none⟩ = some v := by rw [Lib.cell_of_heap hb2]; rfl
               have f1 : w2.frozen? ⟨b, 1, none⟩ = false := Lib.frozen_of_heap hb2 1
               have HO2 := hide hown'
               have HG2 := hide hgrow
               have HB2 := hide hb2
               clear hown' hgrow hb2)
  go_ret2
  have hb3 : Below B w w2 := HB1.out.grown HG2.out (by omega) (fun k hk => (HOWN.out.lt k hk).1)
  refine ⟨rfl, .inr ?_, (HBL.out.trans hb3).setCell (p := ⟨b, 1, none⟩) hB _, ?_⟩
  · refine Lib.BuilderAt.put (T := 50) (e := 5) hB HB2.out (bs' := cellsOf (l ++ s.data.toList)) ?_ (by decide)
    have ho := HO2.out
    have e1 : cellsOf (l ++ s.data.toList) = cellsOf l ++ Lib.strCells s := by rw [cellsOf_str, cellsOf, List.map_append]; rfl
    rw [e1, List.length_append, Lib.strCells_length]
    exact ho
  · have := hb3.size
    simp [World.setCell]
    omega

theorem Bld.string {B b : Nat} {l : List UInt8} {W0 w : World} (h : Bld B b l W0 w) :
    Calls Tryz.prog 81 #[.pointer (some ⟨b, 0, none⟩)] w fun e w' => e = .returned (.string (str l)) ∧ Below B W0 w' :=
  (Tryz.Builder_String_any B b l w h.1 h.2.2).mono fun _ _ ⟨he, hb⟩ => ⟨he, h.2.1.trans hb⟩
theorem Bld.kept {B b : Nat} {l : List UInt8} {W0 w w' : World} (h : Bld B b l W0 w) (hb : Below w.heap.size w w') : Bld B b l W0 w' := by
  obtain ⟨h1, h2, h3⟩ := h
  refine ⟨?_, h2.trans (hb.mono h3), Nat.le_trans h3 hb.size⟩
  have key : ∀ p, Lib.BuilderAt 50 5 B b p (cellsOf l) w → Lib.BuilderAt 50 5 B b p (cellsOf l) w' := by
    intro p h
    have hlt := h.lt
    obtain ⟨hB, v, hbk, hown, hne⟩ := h
    exact ⟨hB, v, (hb.block b hlt).trans hbk, hown.kept (row := none) ⟨hb.os, hb.tape, hb.output, hb.size, fun k hk _ => hb.block k hk⟩ (by cases hv : v.ownBlock <;> simp), hne⟩
  rcases h1 with h | h
  · exact .inl (key _ h)
  · exact .inr (key _ h)
/-- 'var b strings.Builder' -/
theorem Bld.new {B : Nat} {W0 w : World} (hb : Below B W0 w) (hB : B ≤ w.heap.size) : Bld B w.heap.size [] W0 (w.alloc (.cells #[.pointer none, .slice none 0 0] 50)) :=
  ⟨.inl ⟨hB, .slice none 0 0, heap_alloc_new w _, World.ownsRow_nil _ B _ 1, by simp [Value.ownBlock]⟩, hb.alloc hB _, by simp; omega⟩
end Go.Proofs.YtgokefodmjhhiaaGreatDoor

/- WALK of (*strings.Builder).WriteRune. No statement is proved here. -/
namespace Go.Proofs.YtgokefodmjhhiaaGreatDoor
open Go.RowKit
set_option linter.unusedVariables false
set_option linter.unusedSimpArgs false
set_option maxRecDepth 100000
set_option maxHeartbeats 2000000 in
theorem writeRune_any (B b : Nat) (l : List UInt8) (r : Int) (h0 : 0 ≤ r) (h1r : r ≤ 1114111) (W0 w : World) (h : Bld B b l W0 w) (hlen : l.length + 4 ≤ 140737488355328) :
    Calls Tryz.prog 92 #[.pointer (some ⟨b, 0, none⟩), .int .i32 r] w fun e w' => (∃ n, e = .returned (.tuple #[.int .i64 n, .nilIface])) ∧ Bld B b (l ++ runeL r) W0 w' := by
  obtain ⟨h, hbel, hBw⟩ := h
  have HBL := hide hbel
  clear hbel
  go_enter Tryz.func92, Tryz.ntmps92
  go_wp2_with fail
  refine (copyCheck_any B b (cellsOf l) _ h).mono ?_
  rintro e w1 ⟨rfl, h1, hb1⟩
  obtain ⟨hB, v, hbk, hown, hne⟩ := h1
  have c1 : w1.cell? ⟨b, 1, none⟩ = some v := by rw [Lib.cell_of_heap hbk]; rfl
  have hlt : b < w1.heap.size := lt_of_block hbk
  have hl1 : (cellsOf l).length = l.length := cellsOf_length l
  rw [hl1] at hown
  obtain ⟨A, cp, rfl⟩ : ∃ A cp, v = .slice A l.length cp := by
    rcases hown.2 with ⟨hv, hz⟩ | ⟨g, cap, cur, hv, _⟩
    · rw [hz]; exact ⟨_, _, hv⟩
    · exact ⟨_, _, hv⟩
  have HBK := hide hbk
  have HOWN := hide hown
  have HNE := hide hne
  have HB1 := hide hb1
  have hsz1 := hb1.size
  have HAR := hide (Tryz.utf8_AppendRune_plain B (.slice A l.length cp) l.length (cellsOf l) r (by omega) (by omega) w1 hown (by omega) (by omega))
  clear hbk hown hne hb1 h hl1
  go_wp2_with (go_at_call 132; refine HAR.out.mono ?_; rintro e w2 ⟨v', rfl, ho, o, hg⟩
               have e1 : Lib.runeCells r = cellsOf (runeL r) := (Lib.byteCells_encodeRune r).symm
               have e2 : (Lib.runeCells r).length = (runeL r).length := by rw [e1, cellsOf_length]
               rw [e2, e1] at ho
               obtain ⟨ao, cap, rfl⟩ : ∃ ao cap, v' = .slice ao (l.length + (runeL r).length) cap := by
                 rcases ho.2 with ⟨hv, hz⟩ | ⟨g, cap, cur, hv, _⟩
                 · rw [hz]; exact ⟨_, _, hv⟩
                 · exact ⟨_, _, hv⟩
               have hb2 : w2.heap[b]? = some (.cells #[.pointer (some ⟨b, 0, none⟩), .slice A l.length cp] 50 (0, 0)) := by
                 rw [hg.block b (Nat.lt_of_lt_of_le hlt ((Below.refl 0 w1).alloc (Nat.zero_le _) o).size) (fun e => HNE.out e.symm), Below.heap_alloc w1 o b hlt]
                 exact HBK.out
               have d1 : w2.cell? ⟨b, 1, none⟩ = some (.slice A l.length cp) := by rw [Lib.cell_of_heap hb2]; rfl
               have f1 : w2.frozen? ⟨b, 1, none⟩ = false := Lib.frozen_of_heap hb2 1
               obtain ⟨w3, hw3⟩ : ∃ w3, w3 = w2.setCell ⟨b, 1, none⟩ (.slice ao (l.length + (runeL r).length) cap) := ⟨_, rfl⟩
               have g1 : (w2.setCell ⟨b, 1, none⟩ (.slice ao (l.length + (runeL r).length) cap)).cell? ⟨b, 1, none⟩ = some (.slice ao (l.length + (runeL r).length) cap) := World.cell?_setCell_same _ _ _ d1
               have HO2 := hide ho
               have HG2 : Hid (Below B w w2) := hide ((HB1.out.alloc (by omega) o).grown hg (Nat.le_trans (by omega) ((Below.refl 0 w1).alloc (Nat.zero_le _) o).size) (fun k hk => (HOWN.out.lt k hk).1))
               have HB2 := hide hb2
               clear ho hg hb2 e1 e2 hw3)
  go_ret2
  refine ⟨⟨_, rfl⟩, .inr ?_, (HBL.out.trans HG2.out).setCell (p := ⟨b, 1, none⟩) hB _, ?_⟩
  · refine Lib.BuilderAt.put (T := 50) (e := 5) hB HB2.out (bs' := cellsOf (l ++ runeL r)) ?_ (by decide)
    have ho := HO2.out
    have e1 : cellsOf (l ++ runeL r) = cellsOf l ++ cellsOf (runeL r) := by rw [cellsOf, List.map_append]; rfl
    rw [e1, List.length_append, cellsOf_length, cellsOf_length]
    exact ho
  · have := HG2.out.size
    simp [World.setCell]
    omega
end Go.Proofs.YtgokefodmjhhiaaGreatDoor

/- WALKS of a builder's WriteString, that leaves maps as they are. No statement is proved here. -/
namespace Go.Proofs.YtgokefodmjhhiaaGreatDoor
open Go.RowKit
set_option linter.unusedVariables false
set_option linter.unusedSimpArgs false
set_option maxRecDepth 100000
/-- blocks that are maps are as they were -/
def KM (w w' : World) : Prop := ∀ (m : Nat) es c, w.heap[m]? = some (Obj.map es c) → w'.heap[m]? = some (Obj.map es c)
theorem KM.refl (w : World) : KM w w := fun _ _ _ h => h
theorem KM.trans {a b c : World} (h : KM a b) (k : KM b c) : KM a c := fun m es x hm => k m es x (h m es x hm)
theorem KM.alloc (w : World) (o : Obj) : KM w (w.alloc o) := fun m es x hm => (Below.heap_alloc w o m (Array.getElem?_eq_some_iff.1 hm).1).trans hm
theorem KM.below {w w' : World} (h : Below w.heap.size w w') : KM w w' := fun m es x hm => (h.block m (Array.getElem?_eq_some_iff.1 hm).1).trans hm
theorem KM.set {w : World} {b : Nat} {cs : Array Value} {t : TypeId} {fr : Nat × Nat} (h : w.heap[b]? = some (.cells cs t fr)) (i : Nat) (v : Value) : KM w (w.setCell ⟨b, i, none⟩ v) := fun m es x hm => by
  have hne : m ≠ b := by rintro rfl; rw [h] at hm; cases hm
  exact (Below.heap_setCell w _ v m hne).trans hm
theorem KM.own {w w' : World} {B n : Nat} {e : TypeId} {v : Value} {xs : List Value} (h : w.ownsRow B e 1 v n xs) (hg : w.grownBy w' v.ownBlock) : KM w w' := fun m es x hm => by
  refine (hg.block m (Array.getElem?_eq_some_iff.1 hm).1 (fun he => ?_)).trans hm
  rcases h.2 with ⟨rfl, _⟩ | ⟨g, cap, cur, rfl, _, hh, _⟩
  · simp [Value.ownBlock] at he
  · have e1 : g = m := by simpa [Value.ownBlock] using he.symm
    subst e1
    rw [hh] at hm; cases hm
theorem copyCheckM_any (B b : Nat) (bs : List Value) (w : World) (h : Lib.IsBuilder 50 5 B b bs w) :
    Calls Tryz.prog 87 #[.pointer (some ⟨b, 0, none⟩)] w fun e w' => e = .returned (.tuple #[]) ∧ Lib.BuilderAt 50 5 B b (.pointer (some ⟨b, 0, none⟩)) bs w' ∧ Below B w w' ∧ KM w w' := by
  rcases h with h | h
  · obtain ⟨hB, v, hbk, ho, hne⟩ := id h
    refine (copyCheck_fresh b w h.cell0 h.shape h.frozen0).mono ?_
    rintro e w' ⟨rfl, rfl⟩
    exact ⟨rfl, h.used _, (Below.refl B w).setCell (p := ⟨b, 0, none⟩) h.1 _, KM.set hbk _ _⟩
  · refine (copyCheck_used b w h.cell0).mono ?_
    rintro e w' ⟨rfl, rfl⟩
    exact ⟨rfl, h, Below.refl B _, KM.refl _⟩
set_option maxHeartbeats 1000000 in
theorem writeStringM_any (B b : Nat) (l : List UInt8) (s : ByteArray) (W0 w : World) (h : Bld B b l W0 w) (hlen : l.length + s.size ≤ 140737488355328) :
    Calls Tryz.prog 45 #[.pointer (some ⟨b, 0, none⟩), .string s] w fun e w' => e = .returned (.tuple #[.int .i64 s.size, .nilIface]) ∧ Bld B b (l ++ s.data.toList) W0 w' ∧ KM w w' := by
  obtain ⟨h, hbel, hBw⟩ := h
  obtain ⟨i0, hi, hz0, hz1, hz2⟩ := info_parts info_u8
  have HBL := hide hbel
  clear hbel
  go_enter Tryz.func45, Tryz.ntmps45
  go_wp2_with fail
  refine (copyCheckM_any B b (cellsOf l) _ h).mono ?_
  rintro e w1 ⟨rfl, h1, hb1, hk1⟩
  have HK1 := hide hk1
  clear hk1
  obtain ⟨hB, v, hbk, hown, hne⟩ := h1
  have c1 : w1.cell? ⟨b, 1, none⟩ = some v := by rw [Lib.cell_of_heap hbk]; rfl
  have hlt : b < w1.heap.size := lt_of_block hbk
  have hl1 : (cellsOf l).length = l.length := cellsOf_length l
  have HBK := hide hbk
  have HOWN := hide hown
  have HNE := hide hne
  have HB1 := hide hb1
  have hsz1 := hb1.size
  have HI := hide hi
  have HZ0 := hide hz0
  have HZ1 := hide hz1
  have HZ2 := hide hz2
  have HL1 := hide hl1
  clear hbk hown hne hb1 hi hz0 hz1 hz2 h
  go_wp2_with (refine Lib.wpList_append_own_string _ rfl _ _ 48 9 rfl B 5 i0 Tryz.underlying48 Tryz.underlying9 HI.out HZ0.out HZ1.out HZ2.out v (cellsOf l).length (cellsOf l) rfl HOWN.out s rfl (by rw [HL1.out]; unfold maxLen; omega) (by rw [HL1.out]; omega) (by omega) ?_
               intro v' w2 hown' hgrow _
               obtain ⟨ao, n', cap, rfl⟩ : ∃ ao n' cap, v' = .slice ao n' cap := by
                 rcases hown'.2 with ⟨hv, _⟩ | ⟨g, cap, cur, hv, _⟩
                 · exact ⟨_, _, _, hv⟩
                 · exact ⟨_, _, _, hv⟩
               have hb2 : w2.heap[b]? = some (.cells #[.pointer (some ⟨b, 0, none⟩), v] 50 (0, 0)) := by
                 rw [hgrow.block b hlt (fun e => HNE.out e.symm)]
                 exact HBK.out
               have d1 : w2.cell? ⟨b, 1, none⟩ = some v := by rw [Lib.cell_of_heap hb2]; rfl
               have f1 : w2.frozen? ⟨b, 1, none⟩ = false := Lib.frozen_of_heap hb2 1
               have HKM := hide (HK1.out.trans (KM.own HOWN.out hgrow))
               have HO2 := hide hown'
               have HG2 := hide hgrow
               have HB2 := hide hb2
               clear hown' hgrow hb2)
  go_ret2
  have hb3 : Below B w w2 := HB1.out.grown HG2.out (by omega) (fun k hk => (HOWN.out.lt k hk).1)
  refine ⟨rfl, ⟨.inr ?_, (HBL.out.trans hb3).setCell (p := ⟨b, 1, none⟩) hB _, ?_⟩, HKM.out.trans (KM.set HB2.out _ _)⟩
  · refine Lib.BuilderAt.put (T := 50) (e := 5) hB HB2.out (bs' := cellsOf (l ++ s.data.toList)) ?_ (by decide)
    have ho := HO2.out
    have e1 : cellsOf (l ++ s.data.toList) = cellsOf l ++ Lib.strCells s := by rw [cellsOf_str, cellsOf, List.map_append]; rfl
    rw [e1, List.length_append, Lib.strCells_length]
    exact ho
  · have := hb3.size
    simp [World.setCell]
    omega

end Go.Proofs.YtgokefodmjhhiaaGreatDoor

/- WALK of a builder's WriteRune, that leaves maps as they are. No statement is proved here. -/
namespace Go.Proofs.YtgokefodmjhhiaaGreatDoor
open Go.RowKit
set_option linter.unusedVariables false
set_option linter.unusedSimpArgs false
set_option maxRecDepth 100000
theorem SMapN.km {w w' : World} {b n : Nat} {f : List UInt8 → Option Int} (h : SMapN w b n f) (hk : KM w w') : SMapN w' b n f := by
  obtain ⟨D, ⟨es, c, h1, h2, h3, h4⟩, h5⟩ := h
  exact ⟨D, ⟨es, c, hk b es c h1, h2, h3, h4⟩, h5⟩
set_option maxHeartbeats 2000000 in
theorem writeRuneM_any (B b : Nat) (l : List UInt8) (r : Int) (h0 : 0 ≤ r) (h1r : r ≤ 1114111) (W0 w : World) (h : Bld B b l W0 w) (hlen : l.length + 4 ≤ 140737488355328) :
    Calls Tryz.prog 92 #[.pointer (some ⟨b, 0, none⟩), .int .i32 r] w fun e w' => (∃ n, e = .returned (.tuple #[.int .i64 n, .nilIface])) ∧ Bld B b (l ++ runeL r) W0 w' ∧ KM w w' := by
  obtain ⟨h, hbel, hBw⟩ := h
  have HBL := hide hbel
  clear hbel
  go_enter Tryz.func92, Tryz.ntmps92
  go_wp2_with fail
  refine (copyCheckM_any B b (cellsOf l) _ h).mono ?_
  rintro e w1 ⟨rfl, h1, hb1, hk1⟩
  have HK1 := hide hk1
  clear hk1
  obtain ⟨hB, v, hbk, hown, hne⟩ := h1
  have c1 : w1.cell? ⟨b, 1, none⟩ = some v := by rw [Lib.cell_of_heap hbk]; rfl
  have hlt : b < w1.heap.size := lt_of_block hbk
  have hl1 : (cellsOf l).length = l.length := cellsOf_length l
  rw [hl1] at hown
  obtain ⟨A, cp, rfl⟩ : ∃ A cp, v = .slice A l.length cp := by
    rcases hown.2 with ⟨hv, hz⟩ | ⟨g, cap, cur, hv, _⟩
    · rw [hz]; exact ⟨_, _, hv⟩
    · exact ⟨_, _, hv⟩
  have HBK := hide hbk
  have HOWN := hide hown
  have HNE := hide hne
  have HB1 := hide hb1
  have hsz1 := hb1.size
  have HAR := hide (Tryz.utf8_AppendRune_plain B (.slice A l.length cp) l.length (cellsOf l) r (by omega) (by omega) w1 hown (by omega) (by omega))
  clear hbk hown hne hb1 h hl1
  go_wp2_with (go_at_call 132; refine HAR.out.mono ?_; rintro e w2 ⟨v', rfl, ho, o, hg⟩
               have e1 : Lib.runeCells r = cellsOf (runeL r) := (Lib.byteCells_encodeRune r).symm
               have e2 : (Lib.runeCells r).length = (runeL r).length := by rw [e1, cellsOf_length]
               rw [e2, e1] at ho
               obtain ⟨ao, cap, rfl⟩ : ∃ ao cap, v' = .slice ao (l.length + (runeL r).length) cap := by
                 rcases ho.2 with ⟨hv, hz⟩ | ⟨g, cap, cur, hv, _⟩
                 · rw [hz]; exact ⟨_, _, hv⟩
                 · exact ⟨_, _, hv⟩
               have hb2 : w2.heap[b]? = some (.cells #[.pointer (some ⟨b, 0, none⟩), .slice A l.length cp] 50 (0, 0)) := by
                 rw [hg.block b (Nat.lt_of_lt_of_le hlt ((Below.refl 0 w1).alloc (Nat.zero_le _) o).size) (fun e => HNE.out e.symm), Below.heap_alloc w1 o b hlt]
                 exact HBK.out
               have d1 : w2.cell? ⟨b, 1, none⟩ = some (.slice A l.length cp) := by rw [Lib.cell_of_heap hb2]; rfl
               have f1 : w2.frozen? ⟨b, 1, none⟩ = false := Lib.frozen_of_heap hb2 1
               obtain ⟨w3, hw3⟩ : ∃ w3, w3 = w2.setCell ⟨b, 1, none⟩ (.slice ao (l.length + (runeL r).length) cap) := ⟨_, rfl⟩
               have g1 : (w2.setCell ⟨b, 1, none⟩ (.slice ao (l.length + (runeL r).length) cap)).cell? ⟨b, 1, none⟩ = some (.slice ao (l.length + (runeL r).length) cap) := World.cell?_setCell_same _ _ _ d1
               have HKM := hide (HK1.out.trans ((KM.alloc w1 o).trans (KM.own (HOWN.out.alloc o) hg)))
               have HO2 := hide ho
               have HG2 : Hid (Below B w w2) := hide ((HB1.out.alloc (by omega) o).grown hg (Nat.le_trans (by omega) ((Below.refl 0 w1).alloc (Nat.zero_le _) o).size) (fun k hk => (HOWN.out.lt k hk).1))
               have HB2 := hide hb2
               clear ho hg hb2 e1 e2 hw3)
  go_ret2
  refine ⟨⟨_, rfl⟩, ⟨.inr ?_, (HBL.out.trans HG2.out).setCell (p := ⟨b, 1, none⟩) hB _, ?_⟩, HKM.out.trans (KM.set HB2.out _ _)⟩
  · refine Lib.BuilderAt.put (T := 50) (e := 5) hB HB2.out (bs' := cellsOf (l ++ runeL r)) ?_ (by decide)
    have ho := HO2.out
    have e1 : cellsOf (l ++ runeL r) = cellsOf l ++ cellsOf (runeL r) := by rw [cellsOf, List.map_append]; rfl
    rw [e1, List.length_append, cellsOf_length, cellsOf_length]
    exact ho
  · have := HG2.out.size
    simp [World.setCell]
    omega
end Go.Proofs.YtgokefodmjhhiaaGreatDoor

/- WALK of ent.Decode. No statement is proved here. -/
namespace Go.Proofs.YtgokefodmjhhiaaGreatDoor
open Go.RowKit
set_option linter.unusedVariables false
set_option linter.unusedSimpArgs false
set_option maxRecDepth 100000
/-- what package ent asks of the world: the listed tables, an error of the library's -/
def EnvE (w : World) : Prop := Tab w ∧ Lib.Utf8Tabs 4 5 w ∧ ∃ ev, w.cell? ⟨1, 0, none⟩ = some ev ∧ (ev = .nilIface ∨ ∃ te pe, ev = .iface te pe)
theorem EnvE.kept {w w' : World} (h : EnvE w) (hb : Below w.heap.size w w') : EnvE w' := by
  obtain ⟨h1, h2, ev, h3, h4⟩ := h
  exact ⟨h1.below hb h1.lt, tabs_kept h2 hb, ev, (hb.cell (p := ⟨1, 0, none⟩) (World.block_lt_of_cell? _ _ h3)).trans h3, h4⟩
/-! ### bounds -/
def SignOK (c : Int) : Prop := 0 ≤ c ∧ c ≤ 1114111
theorem putN_ok {f : List UInt8 → Option Int} {k : List UInt8} {c : Int} (hf : ∀ l x, f l = some x → SignOK x) (hc : SignOK c) : ∀ l x, putN f k c l = some x → SignOK x := by
  intro l x h
  unfold putN at h
  split at h
  · injection h with h; rw [← h]; exact hc
  · exact hf l x h
theorem nameN_ok : ∀ l x, nameN l = some x → SignOK x := by
  unfold nameN
  repeat (refine putN_ok ?_ (by unfold SignOK; decide))
  intro l x h; cases h
theorem signN_ok (n : Nat) : SignOK (signN n) := by
  unfold signN SignOK
  split
  · decide
  · split
    · have := winR_range (UInt8.ofNat n); omega
    · omega
theorem numAt_ok {b m : Nat} {l : List UInt8} : ∀ x, numAt b m l = some x → SignOK x := by
  intro x h
  unfold numAt at h
  split at h
  · cases h
  · split at h
    · cases h
    · injection h with h; rw [← h]; exact signN_ok _
theorem sgn_ok {l : List UInt8} : ∀ x, sgn l = some x → SignOK x := by
  intro x h
  unfold sgn byN at h
  split at h
  · split at h <;> exact numAt_ok x h
  · exact nameN_ok _ x h
theorem refN_ok (l : List UInt8) : SignOK (refN l).1 ∧ (refN l).2 ≤ l.length := by
  unfold refN
  split
  · rename_i x h1 h2
    refine ⟨sgn_ok x h1, ?_⟩
    rcases cut_case 59 (l.take 9) with ⟨h3, h4, _⟩ | ⟨a, r, h3, _, h4, _⟩
    · have : hasC 59 (l.take 9) = false := by unfold hasC; simpa using h3
      rw [this] at h2; cases h2
    · have := congrArg List.length h3
      rw [List.length_append, List.length_cons, List.length_take] at this
      rw [h4]
      show a.length + 1 ≤ _
      omega
  · exact ⟨by unfold SignOK; decide, Nat.zero_le _⟩
/-- a text with references, read -/
def decE (l : List UInt8) : List UInt8 :=
  if h : hasC 38 l = true then
    beforeC 38 l ++ (if 0 < (refN (afterC 38 l)).2 then runeL (refN (afterC 38 l)).1 ++ decE ((afterC 38 l).drop (refN (afterC 38 l)).2) else 38 :: decE (afterC 38 l))
  else l
termination_by l.length
decreasing_by
  all_goals
    rcases cut_case 38 l with ⟨h3, _⟩ | ⟨a, r, h3, _, h4, h5⟩
    · exact absurd h (by unfold hasC; simpa using h3)
    · have := congrArg List.length h3
      rw [List.length_append, List.length_cons] at this
      rw [h5]
      first | (rw [List.length_drop]; omega) | omega
theorem decE_no {l : List UInt8} (h : hasC 38 l = false) : decE l = l := by rw [decE, dif_neg (by rw [h]; decide)]
theorem decE_yes {l : List UInt8} (h : hasC 38 l = true) : decE l = beforeC 38 l ++ (if 0 < (refN (afterC 38 l)).2 then runeL (refN (afterC 38 l)).1 ++ decE ((afterC 38 l).drop (refN (afterC 38 l)).2) else 38 :: decE (afterC 38 l)) := by rw [decE, dif_pos h]
theorem has_cut {c : UInt8} {l : List UInt8} (h : hasC c l = true) : l.length = (beforeC c l).length + 1 + (afterC c l).length := by
  rcases cut_case c l with ⟨h3, _⟩ | ⟨a, r, h3, _, h4, h5⟩
  · exact absurd h (by unfold hasC; simpa using h3)
  · have := congrArg List.length h3
    rw [List.length_append, List.length_cons] at this
    rw [h4, h5]; omega
theorem index_has (c : UInt8) (l : List UInt8) : decide (0 ≤ Lib.indexByte l c) = hasC c l := by
  rcases index_cut c l with ⟨h1, h2, _⟩ | ⟨o, h1, _, h2, _⟩
  · rw [h1]
    have : hasC c l = false := by unfold hasC; simpa using h2
    rw [this]; rfl
  · rw [h1]
    have : hasC c l = true := by unfold hasC; simpa using h2
    rw [this]; exact decide_eq_true (by omega)
set_option maxHeartbeats 4000000 in
theorem entDecode_any (s : ByteArray) (w : World) (hs : s.size ≤ 16777216) (hE : EnvE w) :
    Calls Tryz.prog 46 #[.string s] w fun e w' => e = .returned (.string (str (decE s.data.toList))) ∧ Below w.heap.size w w' := by
  have HC := hide (Tryz.strings_Contains_one s 38 w)
  rw [index_has] at HC
  cases hh : hasC 38 s.data.toList with
  | false =>
    have HR : Hid (decE s.data.toList = s.data.toList) := hide (decE_no hh)
    rw [hh] at HC
    clear hh hE
    go_enter Tryz.func46, Tryz.ntmps46
    go_wp2_with (go_at_call 88; refine HC.out.mono ?_; rintro e w1 ⟨rfl, hw⟩; obtain rfl := hw.symm)
    go_ret
    exact ⟨by rw [HR.out, str_of]; rfl, Below.refl _ _⟩
  | true =>
    rw [hh] at HC
    have HE := hide hE
    have KB : Hid (Below w.heap.size w (w.alloc (.cells #[.pointer none, .slice none 0 0] 50))) := hide ((Below.refl _ _).alloc (Nat.le_refl _) _)
    have HBD := hide (Bld.new (B := w.heap.size) (W0 := w) (Below.refl _ w) (Nat.le_refl _))
    clear hh hE
    go_enter Tryz.func46, Tryz.ntmps46
    go_wp2_with (first
      | (go_at_call 88; refine HC.out.mono ?_; rintro e w1 ⟨rfl, hw⟩; obtain rfl := hw.symm)
      | (go_at_call 89; refine (signs_any _).mono ?_; rintro e w2 ⟨rfl, hm2, hb2⟩; have HM2 := hide hm2; have HB2 := hide hb2; clear hm2 hb2))
    have HM2' : Hid (SMapN w2 (w.heap.size + 1) 16 nameN) := hide (by have := HM2.out; rwa [World.size_alloc] at this)
    go_loopw [0] (fun sv wr => ∃ (S : ByteArray) (acc : List UInt8), sv = .string S ∧ Hid (acc.length + 4 * S.size ≤ 4 * s.size) ∧ Hid (Bld w.heap.size w.heap.size acc w wr) ∧ Hid (SMapN wr (w.heap.size + 1) 16 nameN) ∧ Hid (acc ++ decE S.data.toList = decE s.data.toList)) (fun sv _ => szOfS sv)
    case atStart => exact ⟨s, [], rfl, hide (by simp), hide (HBD.out.kept HB2.out), HM2', hide rfl⟩
    case round =>
      obtain ⟨S, acc, rfl, HL, HB, HM, HG⟩ := hrel
      have hSz : S.size ≤ s.size := by have := HL.out; omega
      have hcut := fun w1 => strCut_any S 38 w1 (by omega)
      simp only [cutV] at hcut
      obtain ⟨A, hA⟩ : ∃ A, A = str (beforeC 38 S.data.toList) := ⟨_, rfl⟩
      obtain ⟨R, hR⟩ : ∃ R, R = str (afterC 38 S.data.toList) := ⟨_, rfl⟩
      rw [← hA, ← hR] at hcut
      have hAl : A.data.toList = beforeC 38 S.data.toList := by rw [hA, str_toList]
      have hRl : R.data.toList = afterC 38 S.data.toList := by rw [hR, str_toList]
      have hAs : A.size ≤ S.size := by rw [← toList_length, hAl, ← toList_length S]; exact (List.takeWhile_sublist _).length_le
      have HL1 : Hid (acc.length + A.size ≤ 140737488355328) := hide (by have := HL.out; omega)
      have tok1 : True := trivial
      cases hc : hasC 38 S.data.toList with
      | false =>
        rw [hc] at hcut
        have HCUT := hide hcut
        have HR : Hid (decE s.data.toList = acc ++ A.data.toList) := hide (by
          rw [← HG.out, decE_no hc, hAl]
          rcases cut_case 38 S.data.toList with ⟨_, h4, _⟩ | ⟨a, r, h3, _⟩
          · rw [h4]
          · exact absurd hc (by unfold hasC; rw [h3]; simp))
        clear hcut hc hA hR hAl hRl hAs hSz
        go_wp2_with (first
          | (go_at_call 90; with_reducible refine (HCUT.out _).mono ?_; rintro e w3 ⟨rfl, hb3⟩; have HB3 := hide (HB.out.kept hb3); have HM3 := hide (HM.out.kept hb3); clear hb3)
          | (go_at_call 45; have _t := tok1; refine (writeStringM_any _ _ acc A w _ HB3.out HL1.out).mono ?_; rintro e w4 ⟨rfl, hb4, hk4⟩; have HB4 := hide hb4; have HM4 := hide (HM3.out.km hk4); clear hb4 hk4 tok1)
          | (go_at_call 81; refine (HB4.out.string).mono ?_; rintro e w5 ⟨rfl, hb5⟩; have HB5 := hide hb5; clear hb5))
        go_ret
        exact ⟨by rw [HR.out]; rfl, HB5.out⟩
      | true =>
        rw [hc] at hcut
        have HCUT := hide hcut
        have hlen := has_cut hc
        rw [← hAl, ← hRl, toList_length, toList_length, toList_length] at hlen
        have hdec := decE_yes hc
        rw [← hAl, ← hRl] at hdec
        have hG := HG.out
        rw [hdec] at hG
        obtain ⟨hx, hnl⟩ := refN_ok R.data.toList
        rw [toList_length] at hnl
        have href := fun w1 (hm : SMapN w1 (w.heap.size + 1) 16 nameN) (he : EnvE w1) => reference_any R (w.heap.size + 1) he.2.2.choose w1 (by omega) hm he.1 he.2.1 he.2.2.choose_spec.1 he.2.2.choose_spec.2
        obtain ⟨⟨x, n⟩, hr⟩ : ∃ o, refN R.data.toList = o := ⟨_, rfl⟩
        rw [hr] at hx hnl href hG
        simp only [refV] at href
        simp only [] at hx hnl hG
        have HREF := hide href
        have HX := hide hx
        have hLL := HL.out
        by_cases hn : 0 < n
        · have t1 : decide ((n : Int) > 0) = true := decide_eq_true (by omega)
          have t2 : decide (0 < n) = true := decide_eq_true hn
          have k1 : (0 : Int) ≤ n := by omega
          have k2 : (n : Int) ≤ R.size := by omega
          rw [if_pos hn] at hG
          have hrl := (runeL_length x).2.1
          have hsz : (R.extract n R.size).size = R.size - n := by rw [ByteArray.size_extract]; omega
          have HL2 : Hid ((acc ++ A.data.toList).length + 4 ≤ 140737488355328) := hide (by rw [List.length_append, toList_length]; omega)
          have HLN : Hid (((acc ++ A.data.toList) ++ runeL x).length + 4 * (R.extract n R.size).size ≤ 4 * s.size) := hide (by rw [List.length_append, List.length_append, toList_length, hsz]; omega)
          have HGN : Hid (((acc ++ A.data.toList) ++ runeL x) ++ decE (R.extract n R.size).data.toList = decE s.data.toList) := hide (by rw [extract_end, ← hG]; simp)
          have HLT : Hid ((R.extract n R.size).size < S.size) := hide (by rw [hsz]; omega)
          clear hcut hc hA hR hAl hRl hAs hlen hdec hG hx hnl href hr hLL hn hrl hsz hSz
          go_wp2_with (first
            | (go_at_call 90; with_reducible refine (HCUT.out _).mono ?_; rintro e w3 ⟨rfl, hb3⟩; have HB3 := hide (HB.out.kept hb3); have HM3 := hide (HM.out.kept hb3); clear hb3)
            | (go_at_call 45; have _t := tok1; refine (writeStringM_any _ _ acc A w _ HB3.out HL1.out).mono ?_; rintro e w4 ⟨rfl, hb4, hk4⟩; have HB4 := hide hb4; have HM4 := hide (HM3.out.km hk4); clear hb4 hk4 tok1)
            | (go_at_call 91; refine (HREF.out _ HM4.out (HE.out.kept HB4.out.2.1)).mono ?_; rintro e w5 ⟨rfl, hb5⟩; have HB5 := hide (HB4.out.kept hb5); have HM5 := hide (HM4.out.kept hb5); clear hb5)
            | (go_at_call 92; refine (writeRuneM_any _ _ _ x HX.out.1 HX.out.2 w _ HB5.out HL2.out).mono ?_; rintro e w6 ⟨⟨m6, rfl⟩, hb6, hk6⟩; have HB6 := hide hb6; have HM6 := hide (HM5.out.km hk6); clear hb6 hk6))
          go_roundw
          case rel => exact ⟨_, _, rfl, HLN, HB6, HM6, HGN⟩
          case measure => exact HLT.out
        · have hn0 : n = 0 := by omega
          have t1 : decide ((n : Int) > 0) = false := decide_eq_false (by omega)
          have t2 : decide (0 < n) = false := decide_eq_false hn
          rw [if_neg hn] at hG
          have tok2 : True := trivial
          have HL2 : Hid ((acc ++ A.data.toList).length + (⟨#[38]⟩ : ByteArray).size ≤ 140737488355328) := hide (by rw [List.length_append, toList_length, show (⟨#[38]⟩ : ByteArray).size = 1 from rfl]; omega)
          have HLN : Hid (((acc ++ A.data.toList) ++ (⟨#[38]⟩ : ByteArray).data.toList).length + 4 * R.size ≤ 4 * s.size) := hide (by rw [List.length_append, List.length_append, toList_length, toList_length, show (⟨#[38]⟩ : ByteArray).size = 1 from rfl]; omega)
          have HGN : Hid (((acc ++ A.data.toList) ++ (⟨#[38]⟩ : ByteArray).data.toList) ++ decE R.data.toList = decE s.data.toList) := hide (by rw [← hG, show (⟨#[38]⟩ : ByteArray).data.toList = [38] from rfl]; simp)
          have HLT : Hid (R.size < S.size) := hide (by omega)
          clear hcut hc hA hR hAl hRl hAs hlen hdec hG hx hnl href hr hLL hn hn0 hSz
          go_wp2_with (first
            | (go_at_call 90; with_reducible refine (HCUT.out _).mono ?_; rintro e w3 ⟨rfl, hb3⟩; have HB3 := hide (HB.out.kept hb3); have HM3 := hide (HM.out.kept hb3); clear hb3)
            | (go_at_call 45; have _t := tok1; refine (writeStringM_any _ _ acc A w _ HB3.out HL1.out).mono ?_; rintro e w4 ⟨rfl, hb4, hk4⟩; have HB4 := hide hb4; have HM4 := hide (HM3.out.km hk4); clear hb4 hk4 tok1)
            | (go_at_call 91; refine (HREF.out _ HM4.out (HE.out.kept HB4.out.2.1)).mono ?_; rintro e w5 ⟨rfl, hb5⟩; have HB5 := hide (HB4.out.kept hb5); have HM5 := hide (HM4.out.kept hb5); clear hb5)
            | (go_at_call 45; have _t := tok2; refine (writeStringM_any _ _ _ ⟨#[38]⟩ w _ HB5.out HL2.out).mono ?_; rintro e w6 ⟨rfl, hb6, hk6⟩; have HB6 := hide hb6; have HM6 := hide (HM5.out.km hk6); clear hb6 hk6 tok2))
          go_roundw
          case rel => exact ⟨_, _, rfl, HLN, HB6, HM6, HGN⟩
          case measure => exact HLT.out
end Go.Proofs.YtgokefodmjhhiaaGreatDoor

/- The trie of ent.Text's replacer in memory; WALK of (*strings.genericReplacer).lookup at it. No statement is proved here. -/
namespace Go.Proofs.YtgokefodmjhhiaaGreatDoor
open Go.RowKit
set_option linter.unusedVariables false
set_option linter.unusedSimpArgs false
set_option maxRecDepth 100000
/-- a byte's place in the trie's tables; 5: it has none -/
def mapC (c : UInt8) : Nat := if c = 38 then 0 else if c = 60 then 1 else if c = 62 then 2 else if c = 160 then 3 else if c = 194 then 4 else 5
def ampT : List UInt8 := [38, 97, 109, 112, 59]
def ltT : List UInt8 := [38, 108, 116, 59]
def gtT : List UInt8 := [38, 103, 116, 59]
def nbT : List UInt8 := [38, 110, 98, 115, 112, 59]
/-- a node: value, priority, prefix, next, table -/
def Node (w : World) (b : Nat) (val : ByteArray) (prio : Int) (pre : ByteArray) (nx : Option Addr) (tab : Value) : Prop :=
  w.cell? ⟨b, 0, none⟩ = some (.string val) ∧ w.cell? ⟨b, 1, none⟩ = some (.int .i64 prio) ∧ w.cell? ⟨b, 2, none⟩ = some (.string pre) ∧ w.cell? ⟨b, 3, none⟩ = some (.pointer nx) ∧ w.cell? ⟨b, 4, none⟩ = some tab
/-- the trie in blocks G (the replacer), T (its table), n0 .. n5 (nodes) -/
structure Trie (w : World) (G T n0 n1 n2 n4 n5 : Nat) : Prop where
  root : Node w G ⟨#[]⟩ 0 ⟨#[]⟩ none (.slice (some ⟨T, 0, none⟩) 5 5)
  size : w.cell? ⟨G, 5, none⟩ = some (.int .i64 5)
  map : ∀ c : UInt8, w.cell? ⟨G, 6 + c.toNat, none⟩ = some (.int .u8 (mapC c))
  t0 : w.cell? ⟨T, 0, none⟩ = some (.pointer (some ⟨n0, 0, none⟩))
  t1 : w.cell? ⟨T, 1, none⟩ = some (.pointer (some ⟨n1, 0, none⟩))
  t2 : w.cell? ⟨T, 2, none⟩ = some (.pointer (some ⟨n2, 0, none⟩))
  t3 : w.cell? ⟨T, 3, none⟩ = some (.pointer none)
  t4 : w.cell? ⟨T, 4, none⟩ = some (.pointer (some ⟨n4, 0, none⟩))
  k0 : Node w n0 (str ampT) 8 ⟨#[]⟩ none (.slice none 0 0)
  k1 : Node w n1 (str ltT) 6 ⟨#[]⟩ none (.slice none 0 0)
  k2 : Node w n2 (str gtT) 4 ⟨#[]⟩ none (.slice none 0 0)
  k4 : Node w n4 ⟨#[]⟩ 0 ⟨#[160]⟩ (some ⟨n5, 0, none⟩) (.slice none 0 0)
  k5 : Node w n5 (str nbT) 2 ⟨#[]⟩ none (.slice none 0 0)
/-- what stands for the begin of a text, and how many bytes that has -/
def lookL : List UInt8 → Option (List UInt8 × Nat)
  | 38 :: _ => some (ampT, 1)
  | 60 :: _ => some (ltT, 1)
  | 62 :: _ => some (gtT, 1)
  | 194 :: 160 :: _ => some (nbT, 2)
  | _ => none
theorem below_drewN (w : World) (n : Nat) : Below w.heap.size w (w.drewN n) := ⟨rfl, rfl, rfl, Nat.le_refl _, fun _ _ => rfl⟩
def lookV : Option (List UInt8 × Nat) → Value
  | some (t, n) => .tuple #[.string (str t), .int .i64 n, .bool true]
  | none => .tuple #[.string ⟨#[]⟩, .int .i64 0, .bool false]
def LookP (s : ByteArray) (w : World) (e : Ending) (w' : World) : Prop := e = .returned (lookV (lookL s.data.toList)) ∧ Below w.heap.size w w'
theorem chr_lt (c : UInt8) : c.toNat < 256 := c.toBitVec.isLt
theorem mapC_none {c : UInt8} (ho : c ≠ 38 ∧ c ≠ 60 ∧ c ≠ 62 ∧ c ≠ 160 ∧ c ≠ 194) : mapC c = 5 := by
  obtain ⟨a, b, d, e, f⟩ := ho
  rw [mapC, if_neg a, if_neg b, if_neg d, if_neg e, if_neg f]
theorem look_none {c : UInt8} {r : List UInt8} (ho : c ≠ 38 ∧ c ≠ 60 ∧ c ≠ 62 ∧ c ≠ 160 ∧ c ≠ 194) : lookL (c :: r) = none := by
  obtain ⟨a, b, d, e, f⟩ := ho
  unfold lookL
  split <;> first | rfl | (rename_i h; injection h with h1 h2; exact absurd h1 (by assumption))
theorem look_194n {a : UInt8} {r : List UInt8} (h : a ≠ 160) : lookL (194 :: a :: r) = none := by
  unfold lookL
  split <;> first | rfl | (rename_i h'; injection h' with h1 h2; first | (injection h2 with h3 h4; exact absurd h3 h) | exact absurd h1 (by decide))

set_option maxHeartbeats 4000000 in
theorem look_nil (s : ByteArray) (G T n0 n1 n2 n4 n5 : Nat) (w : World) (h : Trie w G T n0 n1 n2 n4 n5) (hl : s.data.toList = []) :
    Calls Tryz.prog 283 #[.pointer (some ⟨G, 0, none⟩), .string s, .bool false] w (LookP s w) := by
  have HT := hide h
  obtain ⟨r0, r1, r2, r3, r4⟩ := h.root
  have rs := h.size
  clear h
  have z := size0 (t := s) (by rw [← toList_length, hl]; rfl)
  have q1 := z.2
  have HL := hide hl
  clear z hl
  go_enter Tryz.func283, Tryz.ntmps283
  go_wp2_with fail
  go_loop [1, 6, 7, 8, 9, 10, 11] (fun sv a1 a2 a3 bv nd nv => sv = .string s ∧ a1 = .string ⟨#[]⟩ ∧ a2 = .int .i64 0 ∧ a3 = .bool false ∧ bv = .int .i64 0 ∧ nd = .pointer (some ⟨G, 0, none⟩) ∧ nv = .int .i64 0) (fun _ _ _ _ _ _ _ => 0)
  case atStart => exact ⟨rfl, rfl, rfl, rfl, rfl, rfl, rfl⟩
  case round =>
    obtain ⟨rfl, rfl, rfl, rfl, rfl, rfl, rfl⟩ := hrel
    go_wp2_with fail
    go_ret3
    exact ⟨by rw [HL.out]; rfl, Below.refl _ _⟩

set_option maxHeartbeats 4000000 in
theorem look_38 (s : ByteArray) (G T n0 n1 n2 n4 n5 : Nat) (w : World) (h : Trie w G T n0 n1 n2 n4 n5) (r : List UInt8) (hl : s.data.toList = 38 :: r) :
    Calls Tryz.prog 283 #[.pointer (some ⟨G, 0, none⟩), .string s, .bool false] w (LookP s w) := by
  have HT := hide h
  obtain ⟨r0, r1, r2, r3, r4⟩ := h.root
  have rs := h.size
  clear h
  have h0 : 0 < s.size := by rw [← toList_length, hl]; exact Nat.succ_pos _
  have hs0 : s[0] = 38 := by
    have := drop_cons s 0 h0
    rw [List.drop_zero, hl] at this
    injection this with e _; exact e.symm
  have q1 : s.toList.isEmpty = false := by rw [bytes_list, hl]; rfl
  have hm1 : w.cell? ⟨G, 6 + s[0].toNat, none⟩ = some (.int .u8 0) := by rw [HT.out.map s[0], hs0]; rfl
  have b1 : s[0].toNat < 256 := chr_lt _
  have b2 : (s[0].toNat : Int) < 256 := by omega
  have k1 : (1 : Int) ≤ s.size := by omega
  have hd : (s.extract 1 s.size).data.toList = r := by rw [extract_end, hl]; rfl
  have HL := hide hl
  clear hl hs0
  have tj := HT.out.t0
  obtain ⟨p0, p1, p2, p3, p4⟩ := HT.out.k0
  obtain ⟨VT, hVT⟩ : ∃ VT, VT = str ampT := ⟨_, rfl⟩
  rw [← hVT] at p0
  have HVT := hide hVT
  clear hVT hd
  go_enter Tryz.func283, Tryz.ntmps283
  go_wp2_with fail
  go_loopw [1, 6, 7, 8, 9, 10, 11] (fun sv a1 a2 a3 bv nd nv wr => (a1 = .string ⟨#[]⟩ ∧ a2 = .int .i64 0 ∧ a3 = .bool false ∧ bv = .int .i64 0) ∧ (∃ m, Hid (wr = w.drewN m)) ∧ ((sv = .string s ∧ nd = .pointer (some ⟨G, 0, none⟩) ∧ nv = .int .i64 0) ∨ (sv = .string (s.extract 1 s.size) ∧ nd = .pointer (some ⟨n0, 0, none⟩) ∧ nv = .int .i64 1))) (fun _ _ _ _ _ _ nv _ => 3 - (intOf nv).toNat)
  case atStart => exact ⟨⟨rfl, rfl, rfl, rfl⟩, ⟨0, hide rfl⟩, .inl ⟨rfl, rfl, rfl⟩⟩
  case round =>
    obtain ⟨⟨rfl, rfl, rfl, rfl⟩, ⟨m, HW⟩, ⟨rfl, rfl, rfl⟩ | ⟨rfl, rfl, rfl⟩⟩ := hrel
    · have hw := HW.out
      clear HW
      subst hw
      go_wp2_with fail
      go_quiet (fail)
      go_wp2_with fail
      go_roundw
      case rel => exact ⟨⟨rfl, rfl, rfl, rfl⟩, ⟨_, hide rfl⟩, .inr ⟨rfl, rfl, rfl⟩⟩
      case measure => simp [intOf]
    · have hw := HW.out
      clear HW
      subst hw
      cases hz : (s.extract 1 s.size).toList.isEmpty
      · go_wp2_with fail
        go_ret3
        exact ⟨by rw [HL.out, HVT.out]; rfl, below_drewN _ _⟩
      · go_wp2_with fail
        go_ret3
        exact ⟨by rw [HL.out, HVT.out]; rfl, below_drewN _ _⟩

set_option maxHeartbeats 4000000 in
theorem look_60 (s : ByteArray) (G T n0 n1 n2 n4 n5 : Nat) (w : World) (h : Trie w G T n0 n1 n2 n4 n5) (r : List UInt8) (hl : s.data.toList = 60 :: r) :
    Calls Tryz.prog 283 #[.pointer (some ⟨G, 0, none⟩), .string s, .bool false] w (LookP s w) := by
  have HT := hide h
  obtain ⟨r0, r1, r2, r3, r4⟩ := h.root
  have rs := h.size
  clear h
  have h0 : 0 < s.size := by rw [← toList_length, hl]; exact Nat.succ_pos _
  have hs0 : s[0] = 60 := by
    have := drop_cons s 0 h0
    rw [List.drop_zero, hl] at this
    injection this with e _; exact e.symm
  have q1 : s.toList.isEmpty = false := by rw [bytes_list, hl]; rfl
  have hm1 : w.cell? ⟨G, 6 + s[0].toNat, none⟩ = some (.int .u8 1) := by rw [HT.out.map s[0], hs0]; rfl
  have b1 : s[0].toNat < 256 := chr_lt _
  have b2 : (s[0].toNat : Int) < 256 := by omega
  have k1 : (1 : Int) ≤ s.size := by omega
  have hd : (s.extract 1 s.size).data.toList = r := by rw [extract_end, hl]; rfl
  have HL := hide hl
  clear hl hs0
  have tj := HT.out.t1
  obtain ⟨p0, p1, p2, p3, p4⟩ := HT.out.k1
  obtain ⟨VT, hVT⟩ : ∃ VT, VT = str ltT := ⟨_, rfl⟩
  rw [← hVT] at p0
  have HVT := hide hVT
  clear hVT hd
  go_enter Tryz.func283, Tryz.ntmps283
  go_wp2_with fail
  go_loopw [1, 6, 7, 8, 9, 10, 11] (fun sv a1 a2 a3 bv nd nv wr => (a1 = .string ⟨#[]⟩ ∧ a2 = .int .i64 0 ∧ a3 = .bool false ∧ bv = .int .i64 0) ∧ (∃ m, Hid (wr = w.drewN m)) ∧ ((sv = .string s ∧ nd = .pointer (some ⟨G, 0, none⟩) ∧ nv = .int .i64 0) ∨ (sv = .string (s.extract 1 s.size) ∧ nd = .pointer (some ⟨n1, 0, none⟩) ∧ nv = .int .i64 1))) (fun _ _ _ _ _ _ nv _ => 3 - (intOf nv).toNat)
  case atStart => exact ⟨⟨rfl, rfl, rfl, rfl⟩, ⟨0, hide rfl⟩, .inl ⟨rfl, rfl, rfl⟩⟩
  case round =>
    obtain ⟨⟨rfl, rfl, rfl, rfl⟩, ⟨m, HW⟩, ⟨rfl, rfl, rfl⟩ | ⟨rfl, rfl, rfl⟩⟩ := hrel
    · have hw := HW.out
      clear HW
      subst hw
      go_wp2_with fail
      go_quiet (fail)
      go_wp2_with fail
      go_roundw
      case rel => exact ⟨⟨rfl, rfl, rfl, rfl⟩, ⟨_, hide rfl⟩, .inr ⟨rfl, rfl, rfl⟩⟩
      case measure => simp [intOf]
    · have hw := HW.out
      clear HW
      subst hw
      cases hz : (s.extract 1 s.size).toList.isEmpty
      · go_wp2_with fail
        go_ret3
        exact ⟨by rw [HL.out, HVT.out]; rfl, below_drewN _ _⟩
      · go_wp2_with fail
        go_ret3
        exact ⟨by rw [HL.out, HVT.out]; rfl, below_drewN _ _⟩

set_option maxHeartbeats 4000000 in
theorem look_62 (s : ByteArray) (G T n0 n1 n2 n4 n5 : Nat) (w : World) (h : Trie w G T n0 n1 n2 n4 n5) (r : List UInt8) (hl : s.data.toList = 62 :: r) :
    Calls Tryz.prog 283 #[.pointer (some ⟨G, 0, none⟩), .string s, .bool false] w (LookP s w) := by
  have HT := hide h
  obtain ⟨r0, r1, r2, r3, r4⟩ := h.root
  have rs := h.size
  clear h
  have h0 : 0 < s.size := by rw [← toList_length, hl]; exact Nat.succ_pos _
  have hs0 : s[0] = 62 := by
    have := drop_cons s 0 h0
    rw [List.drop_zero, hl] at this
    injection this with e _; exact e.symm
  have q1 : s.toList.isEmpty = false := by rw [bytes_list, hl]; rfl
  have hm1 : w.cell? ⟨G, 6 + s[0].toNat, none⟩ = some (.int .u8 2) := by rw [HT.out.map s[0], hs0]; rfl
  have b1 : s[0].toNat < 256 := chr_lt _
  have b2 : (s[0].toNat : Int) < 256 := by omega
  have k1 : (1 : Int) ≤ s.size := by omega
  have hd : (s.extract 1 s.size).data.toList = r := by rw [extract_end, hl]; rfl
  have HL := hide hl
  clear hl hs0
  have tj := HT.out.t2
  obtain ⟨p0, p1, p2, p3, p4⟩ := HT.out.k2
  obtain ⟨VT, hVT⟩ : ∃ VT, VT = str gtT := ⟨_, rfl⟩
  rw [← hVT] at p0
  have HVT := hide hVT
  clear hVT hd
  go_enter Tryz.func283, Tryz.ntmps283
  go_wp2_with fail
  go_loopw [1, 6, 7, 8, 9, 10, 11] (fun sv a1 a2 a3 bv nd nv wr => (a1 = .string ⟨#[]⟩ ∧ a2 = .int .i64 0 ∧ a3 = .bool false ∧ bv = .int .i64 0) ∧ (∃ m, Hid (wr = w.drewN m)) ∧ ((sv = .string s ∧ nd = .pointer (some ⟨G, 0, none⟩) ∧ nv = .int .i64 0) ∨ (sv = .string (s.extract 1 s.size) ∧ nd = .pointer (some ⟨n2, 0, none⟩) ∧ nv = .int .i64 1))) (fun _ _ _ _ _ _ nv _ => 3 - (intOf nv).toNat)
  case atStart => exact ⟨⟨rfl, rfl, rfl, rfl⟩, ⟨0, hide rfl⟩, .inl ⟨rfl, rfl, rfl⟩⟩
  case round =>
    obtain ⟨⟨rfl, rfl, rfl, rfl⟩, ⟨m, HW⟩, ⟨rfl, rfl, rfl⟩ | ⟨rfl, rfl, rfl⟩⟩ := hrel
    · have hw := HW.out
      clear HW
      subst hw
      go_wp2_with fail
      go_quiet (fail)
      go_wp2_with fail
      go_roundw
      case rel => exact ⟨⟨rfl, rfl, rfl, rfl⟩, ⟨_, hide rfl⟩, .inr ⟨rfl, rfl, rfl⟩⟩
      case measure => simp [intOf]
    · have hw := HW.out
      clear HW
      subst hw
      cases hz : (s.extract 1 s.size).toList.isEmpty
      · go_wp2_with fail
        go_ret3
        exact ⟨by rw [HL.out, HVT.out]; rfl, below_drewN _ _⟩
      · go_wp2_with fail
        go_ret3
        exact ⟨by rw [HL.out, HVT.out]; rfl, below_drewN _ _⟩

set_option maxHeartbeats 4000000 in
theorem look_160 (s : ByteArray) (G T n0 n1 n2 n4 n5 : Nat) (w : World) (h : Trie w G T n0 n1 n2 n4 n5) (r : List UInt8) (hl : s.data.toList = 160 :: r) :
    Calls Tryz.prog 283 #[.pointer (some ⟨G, 0, none⟩), .string s, .bool false] w (LookP s w) := by
  have HT := hide h
  obtain ⟨r0, r1, r2, r3, r4⟩ := h.root
  have rs := h.size
  clear h
  have h0 : 0 < s.size := by rw [← toList_length, hl]; exact Nat.succ_pos _
  have hs0 : s[0] = 160 := by
    have := drop_cons s 0 h0
    rw [List.drop_zero, hl] at this
    injection this with e _; exact e.symm
  have q1 : s.toList.isEmpty = false := by rw [bytes_list, hl]; rfl
  have hm1 : w.cell? ⟨G, 6 + s[0].toNat, none⟩ = some (.int .u8 3) := by rw [HT.out.map s[0], hs0]; rfl
  have b1 : s[0].toNat < 256 := chr_lt _
  have b2 : (s[0].toNat : Int) < 256 := by omega
  have k1 : (1 : Int) ≤ s.size := by omega
  have hd : (s.extract 1 s.size).data.toList = r := by rw [extract_end, hl]; rfl
  have HL := hide hl
  clear hl hs0
  have tj := HT.out.t3
  clear hd
  go_enter Tryz.func283, Tryz.ntmps283
  go_wp2_with fail
  go_loopw [1, 6, 7, 8, 9, 10, 11] (fun sv a1 a2 a3 bv nd nv wr => (a1 = .string ⟨#[]⟩ ∧ a2 = .int .i64 0 ∧ a3 = .bool false ∧ bv = .int .i64 0) ∧ (∃ m, Hid (wr = w.drewN m)) ∧ ((sv = .string s ∧ nd = .pointer (some ⟨G, 0, none⟩) ∧ nv = .int .i64 0) ∨ (sv = .string (s.extract 1 s.size) ∧ nd = .pointer none ∧ nv = .int .i64 1))) (fun _ _ _ _ _ _ nv _ => 3 - (intOf nv).toNat)
  case atStart => exact ⟨⟨rfl, rfl, rfl, rfl⟩, ⟨0, hide rfl⟩, .inl ⟨rfl, rfl, rfl⟩⟩
  case round =>
    obtain ⟨⟨rfl, rfl, rfl, rfl⟩, ⟨m, HW⟩, ⟨rfl, rfl, rfl⟩ | ⟨rfl, rfl, rfl⟩⟩ := hrel
    · have hw := HW.out
      clear HW
      subst hw
      go_wp2_with fail
      go_quiet (fail)
      go_wp2_with fail
      go_roundw
      case rel => exact ⟨⟨rfl, rfl, rfl, rfl⟩, ⟨_, hide rfl⟩, .inr ⟨rfl, rfl, rfl⟩⟩
      case measure => simp [intOf]
    · have hw := HW.out
      clear HW
      subst hw
      go_wp2_with fail
      go_ret3
      exact ⟨by rw [HL.out]; rfl, below_drewN _ _⟩

set_option maxHeartbeats 4000000 in
theorem look_other (s : ByteArray) (G T n0 n1 n2 n4 n5 : Nat) (w : World) (h : Trie w G T n0 n1 n2 n4 n5) (c : UInt8) (r : List UInt8) (hl : s.data.toList = c :: r) (ho : c ≠ 38 ∧ c ≠ 60 ∧ c ≠ 62 ∧ c ≠ 160 ∧ c ≠ 194) :
    Calls Tryz.prog 283 #[.pointer (some ⟨G, 0, none⟩), .string s, .bool false] w (LookP s w) := by
  have HT := hide h
  obtain ⟨r0, r1, r2, r3, r4⟩ := h.root
  have rs := h.size
  clear h
  have h0 : 0 < s.size := by rw [← toList_length, hl]; exact Nat.succ_pos _
  have hs0 : s[0] = c := by
    have := drop_cons s 0 h0
    rw [List.drop_zero, hl] at this
    injection this with e _; exact e.symm
  have q1 : s.toList.isEmpty = false := by rw [bytes_list, hl]; rfl
  have hm1 : w.cell? ⟨G, 6 + s[0].toNat, none⟩ = some (.int .u8 5) := by rw [HT.out.map s[0], hs0]; rw [mapC_none ho]; rfl
  have b1 : s[0].toNat < 256 := chr_lt _
  have b2 : (s[0].toNat : Int) < 256 := by omega
  have k1 : (1 : Int) ≤ s.size := by omega
  have hd : (s.extract 1 s.size).data.toList = r := by rw [extract_end, hl]; rfl
  have HL := hide hl
  clear hl hs0
  clear hd
  go_enter Tryz.func283, Tryz.ntmps283
  go_wp2_with fail
  go_loopw [1, 6, 7, 8, 9, 10, 11] (fun sv a1 a2 a3 bv nd nv wr => (sv = .string s ∧ nd = .pointer (some ⟨G, 0, none⟩) ∧ nv = .int .i64 0) ∧ (a1 = .string ⟨#[]⟩ ∧ a2 = .int .i64 0 ∧ a3 = .bool false ∧ bv = .int .i64 0) ∧ Hid (wr = w)) (fun _ _ _ _ _ _ _ _ => 0)
  case atStart => exact ⟨⟨rfl, rfl, rfl⟩, ⟨rfl, rfl, rfl, rfl⟩, hide rfl⟩
  case round =>
    obtain ⟨⟨rfl, rfl, rfl⟩, ⟨rfl, rfl, rfl, rfl⟩, HW⟩ := hrel
    have hw := HW.out
    clear HW
    subst hw
    go_wp2_with fail
    go_quiet (fail)
    go_wp2_with fail
    go_ret3
    exact ⟨by rw [HL.out, look_none ho]; rfl, below_drewN _ _⟩

set_option maxHeartbeats 4000000 in
theorem look_194 (s : ByteArray) (G T n0 n1 n2 n4 n5 : Nat) (w : World) (h : Trie w G T n0 n1 n2 n4 n5) (r : List UInt8) (hl : s.data.toList = 194 :: r) :
    Calls Tryz.prog 283 #[.pointer (some ⟨G, 0, none⟩), .string s, .bool false] w (LookP s w) := by
  have HT := hide h
  obtain ⟨r0, r1, r2, r3, r4⟩ := h.root
  have rs := h.size
  clear h
  have h0 : 0 < s.size := by rw [← toList_length, hl]; exact Nat.succ_pos _
  have hs0 : s[0] = 194 := by
    have := drop_cons s 0 h0
    rw [List.drop_zero, hl] at this
    injection this with e _; exact e.symm
  have q1 : s.toList.isEmpty = false := by rw [bytes_list, hl]; rfl
  have hm1 : w.cell? ⟨G, 6 + s[0].toNat, none⟩ = some (.int .u8 4) := by rw [HT.out.map s[0], hs0]; rfl
  have b1 : s[0].toNat < 256 := chr_lt _
  have b2 : (s[0].toNat : Int) < 256 := by omega
  have k1 : (1 : Int) ≤ s.size := by omega
  have hd : (s.extract 1 s.size).data.toList = r := by rw [extract_end, hl]; rfl
  have HL := hide hl
  clear hl hs0
  have tj := HT.out.t4
  obtain ⟨p0, p1, p2, p3, p4⟩ := HT.out.k4
  obtain ⟨o0, o1, o2, o3, o4⟩ := HT.out.k5
  obtain ⟨VT, hVT⟩ : ∃ VT, VT = str nbT := ⟨_, rfl⟩
  rw [← hVT] at o0
  have HVT := hide hVT
  obtain ⟨S1, hS1⟩ : ∃ S1, S1 = s.extract 1 s.size := ⟨_, rfl⟩
  have hd1 : S1.data.toList = r := by rw [hS1]; exact hd
  cases hp : Lib.hasPrefix S1.data.toList [160] with
  | true =>
    obtain ⟨r1, hr1⟩ : ∃ r1, r = 160 :: r1 := by
      rw [hd1] at hp
      cases r with
      | nil => simp [Lib.hasPrefix] at hp
      | cons a r1 => exact ⟨r1, by simp [Lib.hasPrefix] at hp; rw [hp]⟩
    have q2 : S1.toList.isEmpty = false := by rw [bytes_list, hd1, hr1]; rfl
    have k2 : (1 : Int) ≤ S1.size := by
      have : 0 < S1.size := by rw [← toList_length, hd1, hr1]; exact Nat.succ_pos _
      omega
    have HR := hide hr1
    have HC := hide (Tryz.strings_HasPrefix S1 ⟨#[160]⟩)
    have HP := hide hp
    have HS := hide hS1
    clear hVT hd hr1 hd1 hp hS1
    go_enter Tryz.func283, Tryz.ntmps283
    go_wp2_with fail
    go_loopw [1, 6, 7, 8, 9, 10, 11] (fun sv a1 a2 a3 bv nd nv wr => (a1 = .string ⟨#[]⟩ ∧ a2 = .int .i64 0 ∧ a3 = .bool false ∧ bv = .int .i64 0) ∧ (∃ m, Hid (wr = w.drewN m)) ∧ ((sv = .string s ∧ nd = .pointer (some ⟨G, 0, none⟩) ∧ nv = .int .i64 0) ∨ (sv = .string S1 ∧ nd = .pointer (some ⟨n4, 0, none⟩) ∧ nv = .int .i64 1) ∨ (∃ S2, sv = .string S2 ∧ nd = .pointer (some ⟨n5, 0, none⟩) ∧ nv = .int .i64 2))) (fun _ _ _ _ _ _ nv _ => 3 - (intOf nv).toNat)
    case atStart => exact ⟨⟨rfl, rfl, rfl, rfl⟩, ⟨0, hide rfl⟩, .inl ⟨rfl, rfl, rfl⟩⟩
    case round =>
      obtain ⟨⟨rfl, rfl, rfl, rfl⟩, ⟨m, HW⟩, ⟨rfl, rfl, rfl⟩ | ⟨rfl, rfl, rfl⟩ | ⟨S2, rfl, rfl, rfl⟩⟩ := hrel
      · have hw := HW.out
        clear HW
        subst hw
        go_wp2_with fail
        go_quiet (fail)
        go_wp2_with fail
        go_roundw
        case rel => exact ⟨⟨rfl, rfl, rfl, rfl⟩, ⟨_, hide rfl⟩, .inr (.inl ⟨by rw [← HS.out], rfl, rfl⟩)⟩
        case measure => simp [intOf]
      · have hw := HW.out
        clear HW
        subst hw
        go_wp2_with (refine (HC.out _).mono ?_; rintro e w1 ⟨rfl, rfl⟩; rw [show Lib.hasPrefix S1.data.toList (⟨#[160]⟩ : ByteArray).data.toList = true from HP.out])
        go_roundw
        case rel => exact ⟨⟨rfl, rfl, rfl, rfl⟩, ⟨_, hide rfl⟩, .inr (.inr ⟨_, rfl, rfl, rfl⟩)⟩
        case measure => simp [intOf]
      · have hw := HW.out
        clear HW
        subst hw
        cases hz : S2.toList.isEmpty
        · go_wp2_with fail
          go_ret3
          exact ⟨by rw [HL.out, HVT.out, HR.out]; rfl, below_drewN _ _⟩
        · go_wp2_with fail
          go_ret3
          exact ⟨by rw [HL.out, HVT.out, HR.out]; rfl, below_drewN _ _⟩
  | false =>
    have hR : lookL (194 :: r) = none := by
      rw [hd1] at hp
      cases r with
      | nil => rfl
      | cons a r1 => exact look_194n (by rintro rfl; simp [Lib.hasPrefix] at hp)
    have HR := hide hR
    have HC := hide (Tryz.strings_HasPrefix S1 ⟨#[160]⟩)
    have HP := hide hp
    have HS := hide hS1
    clear hVT hd hd1 hp hR hS1
    go_enter Tryz.func283, Tryz.ntmps283
    go_wp2_with fail
    go_loopw [1, 6, 7, 8, 9, 10, 11] (fun sv a1 a2 a3 bv nd nv wr => (a1 = .string ⟨#[]⟩ ∧ a2 = .int .i64 0 ∧ a3 = .bool false ∧ bv = .int .i64 0) ∧ (∃ m, Hid (wr = w.drewN m)) ∧ ((sv = .string s ∧ nd = .pointer (some ⟨G, 0, none⟩) ∧ nv = .int .i64 0) ∨ (sv = .string S1 ∧ nd = .pointer (some ⟨n4, 0, none⟩) ∧ nv = .int .i64 1))) (fun _ _ _ _ _ _ nv _ => 3 - (intOf nv).toNat)
    case atStart => exact ⟨⟨rfl, rfl, rfl, rfl⟩, ⟨0, hide rfl⟩, .inl ⟨rfl, rfl, rfl⟩⟩
    case round =>
      obtain ⟨⟨rfl, rfl, rfl, rfl⟩, ⟨m, HW⟩, ⟨rfl, rfl, rfl⟩ | ⟨rfl, rfl, rfl⟩⟩ := hrel
      · have hw := HW.out
        clear HW
        subst hw
        go_wp2_with fail
        go_quiet (fail)
        go_wp2_with fail
        go_roundw
        case rel => exact ⟨⟨rfl, rfl, rfl, rfl⟩, ⟨_, hide rfl⟩, .inr ⟨by rw [← HS.out], rfl, rfl⟩⟩
        case measure => simp [intOf]
      · have hw := HW.out
        clear HW
        subst hw
        cases hz : S1.toList.isEmpty
        · go_wp2_with (refine (HC.out _).mono ?_; rintro e w1 ⟨rfl, rfl⟩; rw [show Lib.hasPrefix S1.data.toList (⟨#[160]⟩ : ByteArray).data.toList = false from HP.out])
          go_ret3
          exact ⟨by rw [HL.out, HR.out]; rfl, below_drewN _ _⟩
        · go_wp2_with fail
          go_ret3
          exact ⟨by rw [HL.out, HR.out]; rfl, below_drewN _ _⟩

theorem look_any (s : ByteArray) (G T n0 n1 n2 n4 n5 : Nat) (w : World) (h : Trie w G T n0 n1 n2 n4 n5) :
    Calls Tryz.prog 283 #[.pointer (some ⟨G, 0, none⟩), .string s, .bool false] w (LookP s w) := by
  cases hl : s.data.toList with
  | nil => exact look_nil s G T n0 n1 n2 n4 n5 w h hl
  | cons c r =>
    by_cases e1 : c = 38
    · subst e1; exact look_38 s G T n0 n1 n2 n4 n5 w h r hl
    by_cases e2 : c = 60
    · subst e2; exact look_60 s G T n0 n1 n2 n4 n5 w h r hl
    by_cases e3 : c = 62
    · subst e3; exact look_62 s G T n0 n1 n2 n4 n5 w h r hl
    by_cases e4 : c = 160
    · subst e4; exact look_160 s G T n0 n1 n2 n4 n5 w h r hl
    by_cases e5 : c = 194
    · subst e5; exact look_194 s G T n0 n1 n2 n4 n5 w h r hl
    exact look_other s G T n0 n1 n2 n4 n5 w h c r hl ⟨e1, e2, e3, e4, e5⟩
end Go.Proofs.YtgokefodmjhhiaaGreatDoor

/- WALKS of (*strings.appendSliceWriter).WriteString and strings.getStringWriter. No statement is proved here. -/
namespace Go.Proofs.YtgokefodmjhhiaaGreatDoor
open Go.RowKit
set_option linter.unusedVariables false
set_option linter.unusedSimpArgs false
set_option maxRecDepth 100000
/-- an appendSliceWriter in block b that has gathered the bytes l -/
def WBuf (B b : Nat) (l : List UInt8) (W0 w : World) : Prop := B ≤ b ∧ ∃ v, Box w b 279 v ∧ Buf B v l W0 w
theorem WBuf.drewN {B b : Nat} {l : List UInt8} {W0 w : World} (h : WBuf B b l W0 w) (n : Nat) : WBuf B b l W0 (w.drewN n) := by
  obtain ⟨hB, v, h1, h2⟩ := h
  exact ⟨hB, v, h1.drewN n, h2.drewN n⟩
theorem WBuf.below {B b : Nat} {l : List UInt8} {W0 w : World} (h : WBuf B b l W0 w) : Below B W0 w := by
  obtain ⟨hB, v, h1, h2⟩ := h
  exact h2.below
theorem WBuf.kept {B b : Nat} {l : List UInt8} {W0 w w' : World} (h : WBuf B b l W0 w) (hb : Below w.heap.size w w') : WBuf B b l W0 w' := by
  obtain ⟨hB, v, h1, h2⟩ := h
  exact ⟨hB, v, h1.below hb h1.lt, h2.kept hb⟩
/-- append of a text to a row of a named type -/
theorem wpList_wbuf_text {ops : Array Oper} {rest : List Oper} {o : Oper} {a : Act} {Q : Exit → Act → World → Prop} {w : World} (hgd : o.guard = none) (sl x : Operand)
    (ho : o.op = .call { callee := .builtin .append, args := #[sl, x], argTypes := #[279, 9] })
    (B : Nat) (v : Value) (l : List UInt8) (hs : a.eval sl = v) (W0 : World) (hb : Buf B v l W0 w) (s : ByteArray) (hx : a.eval x = .string s) (hlen : l.length + s.size ≤ 140737488355328)
    (h : ∀ v' w', Buf B v' (l ++ s.data.toList) W0 w' → w.grownBy w' v.ownBlock → wpList Tryz.prog ops Q rest (a.put o.dst v') w') : wpList Tryz.prog ops Q (o :: rest) a w := by
  obtain ⟨i0, hi, hz0, hz1, hz2⟩ := info_parts info_u8
  refine Lib.wpList_append_own_string w hgd sl x 279 9 ho B 5 i0 Tryz.underlying279 Tryz.underlying9 hi hz0 hz1 hz2 v l.length (cellsOf l) hs hb.1 s hx (by unfold maxLen; omega) hlen hb.2.2 ?_
  intro v' w' ho' hg _
  refine h v' w' (hb.grown (l' := l ++ s.data.toList) ?_ hg) hg
  rw [List.length_append, toList_length, cellsOf, List.map_append]
  exact ho'
set_option maxHeartbeats 1000000 in
theorem appender_any (B b : Nat) (l : List UInt8) (s : ByteArray) (W0 w : World) (h : WBuf B b l W0 w) (hlen : l.length + s.size ≤ 140737488355328) :
    Calls Tryz.prog 293 #[.pointer (some ⟨b, 0, none⟩), .string s] w fun e w' => e = .returned (.tuple #[.int .i64 s.size, .nilIface]) ∧ WBuf B b (l ++ s.data.toList) W0 w' := by
  obtain ⟨hB, v, hbx, hbf⟩ := h
  have c0 := hbx.cell
  have HBX := hide hbx
  have HBF := hide hbf
  clear hbx hbf
  go_enter Tryz.func293, Tryz.ntmps293
  go_wp2_with (refine wpList_wbuf_text rfl _ _ rfl B v l rfl W0 HBF.out s rfl hlen ?_; intro v' w2 hbf2 hgr; have hbx2 : Box w2 b 279 v := (kept_own HBF.out hgr) b _ v (by decide) HBX.out; have f2 := hbx2.free; have d2 := hbx2.cell; have HF2 := hide hbf2; have HX2 := hide hbx2; clear hbf2 hgr hbx2; obtain ⟨A, n, c, rfl⟩ := HF2.out.slice)
  go_ret2
  exact ⟨rfl, hB, _, HX2.out.set _, HF2.out.setBox HX2.out (by decide) hB _⟩
theorem assert_writer (a : Addr) (w : World) : (Instr.typeAssert (.iface 280 (.pointer (some a))) 282 284 true).run Tryz.prog w = .ok (.tuple #[.iface 280 (.pointer (some a)), .bool true]) w := by kernel_rfl
set_option maxHeartbeats 1000000 in
theorem getWriter_any (b : Nat) (w : World) :
    Calls Tryz.prog 282 #[.iface 280 (.pointer (some ⟨b, 0, none⟩))] w fun e w' => e = .returned (.iface 280 (.pointer (some ⟨b, 0, none⟩))) ∧ w' = w := by
  have hta := assert_writer
  go_enter Tryz.func282, Tryz.ntmps282
  go_wp2_with fail
  go_ret
  exact ⟨rfl, rfl⟩
theorem meth_append (a : Addr) (w : World) : (method 392 280 (.pointer (some a)) "WriteString").run Tryz.prog w = .ok (293, .pointer (some a)) w := by kernel_rfl
end Go.Proofs.YtgokefodmjhhiaaGreatDoor

/- WALK of (*strings.genericReplacer).WriteString at the trie of ent.Text. No statement is proved here. -/
namespace Go.Proofs.YtgokefodmjhhiaaGreatDoor
open Go.RowKit
set_option linter.unusedVariables false
set_option linter.unusedSimpArgs false
set_option maxRecDepth 100000
/-- a text with its four signs written as entities -/
def escG : List UInt8 → List UInt8
  | [] => []
  | c :: r => match lookL (c :: r) with
    | some (t, n) => t ++ escG (r.drop (n - 1))
    | none => c :: escG r
termination_by l => l.length
decreasing_by all_goals simp; try omega
theorem lookL_some {l : List UInt8} {t : List UInt8} {n : Nat} (h : lookL l = some (t, n)) : 1 ≤ n ∧ n ≤ 2 ∧ n ≤ l.length ∧ t.length ≤ 6 ∧ t ≠ [] := by
  unfold lookL at h
  split at h <;> first | (injection h with h; injection h with h1 h2; subst h1 h2; refine ⟨by omega, by omega, by simp, by decide, by decide⟩) | cases h
theorem escG_some {l : List UInt8} {t : List UInt8} {n : Nat} (h : lookL l = some (t, n)) : escG l = t ++ escG (l.drop n) := by
  have hp := lookL_some h
  cases l with
  | nil => simp [lookL] at h
  | cons c r =>
    rw [escG, h]
    obtain ⟨k, rfl⟩ : ∃ k, n = k + 1 := ⟨n - 1, by omega⟩
    rfl
theorem escG_none {c : UInt8} {r : List UInt8} (h : lookL (c :: r) = none) : escG (c :: r) = c :: escG r := by
  rw [escG, h]
theorem escG_len : ∀ (k : Nat) (l : List UInt8), l.length ≤ k → (escG l).length ≤ 6 * l.length
  | 0, l, h => by
    have : l = [] := List.eq_nil_of_length_eq_zero (by omega)
    subst this; rw [escG]; simp
  | k + 1, [], h => by rw [escG]; simp
  | k + 1, c :: r, h => by
    cases e : lookL (c :: r) with
    | none =>
      rw [escG_none e]
      have := escG_len k r (by simp at h; omega)
      simp only [List.length_cons]; omega
    | some p =>
      obtain ⟨t, n⟩ := p
      have hp := lookL_some e
      rw [escG_some e]
      have := escG_len k ((c :: r).drop n) (by rw [List.length_drop]; simp at h ⊢; omega)
      rw [List.length_append]
      rw [List.length_drop] at this
      omega
theorem Trie.below {w w' : World} {G T n0 n1 n2 n4 n5 B : Nat} (h : Trie w G T n0 n1 n2 n4 n5) (hb : Below B w w') (hB : G < B ∧ T < B ∧ n0 < B ∧ n1 < B ∧ n2 < B ∧ n4 < B ∧ n5 < B) : Trie w' G T n0 n1 n2 n4 n5 := by
  have key : ∀ (b o : Nat), b < B → w'.cell? ⟨b, o, none⟩ = w.cell? ⟨b, o, none⟩ := fun b o hb' => hb.cell (p := ⟨b, o, none⟩) hb'
  have kn : ∀ {b val prio pre nx tab}, b < B → Node w b val prio pre nx tab → Node w' b val prio pre nx tab := by
    intro b val prio pre nx tab hb' ⟨a0, a1, a2, a3, a4⟩
    exact ⟨(key _ _ hb').trans a0, (key _ _ hb').trans a1, (key _ _ hb').trans a2, (key _ _ hb').trans a3, (key _ _ hb').trans a4⟩
  obtain ⟨b0, b1, b2, b3, b4, b5, b6⟩ := hB
  exact ⟨kn b0 h.root, (key _ _ b0).trans h.size, fun c => (key _ _ b0).trans (h.map c), (key _ _ b1).trans h.t0, (key _ _ b1).trans h.t1, (key _ _ b1).trans h.t2, (key _ _ b1).trans h.t3, (key _ _ b1).trans h.t4, kn b2 h.k0, kn b3 h.k1, kn b4 h.k2, kn b5 h.k4, kn b6 h.k5⟩
theorem Trie.drewN {w : World} {G T n0 n1 n2 n4 n5 : Nat} (h : Trie w G T n0 n1 n2 n4 n5) (n : Nat) : Trie (w.drewN n) G T n0 n1 n2 n4 n5 := ⟨h.1, h.2, h.3, h.4, h.5, h.6, h.7, h.8, h.9, h.10, h.11, h.12, h.13⟩
/-- where the table leads on -/
theorem Trie.on {w : World} {G T n0 n1 n2 n4 n5 : Nat} (h : Trie w G T n0 n1 n2 n4 n5) {c : UInt8} (hc : c = 38 ∨ c = 60 ∨ c = 62 ∨ c = 194) :
    ∃ j nx : Nat, j < 5 ∧ w.cell? ⟨G, 6 + c.toNat, none⟩ = some (.int .u8 (j : Int)) ∧ w.cell? ⟨T, j, none⟩ = some (.pointer (some ⟨nx, 0, none⟩)) := by
  rcases hc with rfl | rfl | rfl | rfl
  · exact ⟨0, n0, by omega, h.map 38, h.t0⟩
  · exact ⟨1, n1, by omega, h.map 60, h.t1⟩
  · exact ⟨2, n2, by omega, h.map 62, h.t2⟩
  · exact ⟨4, n4, by omega, h.map 194, h.t4⟩
theorem look_off {c : UInt8} {r : List UInt8} (hc : ¬(c = 38 ∨ c = 60 ∨ c = 62 ∨ c = 194)) : lookL (c :: r) = none := by
  unfold lookL
  split <;> first | rfl | (rename_i h; injection h with h1 h2; exact absurd h1 (by intro e; exact hc (by simp [e])))
/-- i bytes are seen, acc is written for the first m of them -/
def WInv (L : List UInt8) (i m : Nat) (acc : List UInt8) : Prop := m ≤ i ∧ i ≤ L.length + 1 ∧ m ≤ L.length ∧ acc ++ (L.take i).drop m ++ escG (L.drop i) = escG L
theorem WInv.skip {L : List UInt8} {i m : Nat} {acc : List UInt8} (h : WInv L i m acc) (hi : i < L.length) (hn : lookL (L.drop i) = none) : WInv L (i + 1) m acc := by
  obtain ⟨h1, h2, h3, h4⟩ := h
  refine ⟨by omega, by omega, h3, ?_⟩
  rw [← h4]
  have e : L.drop i = L[i] :: L.drop (i + 1) := List.drop_eq_getElem_cons hi
  rw [e] at hn ⊢
  rw [escG_none hn, List.take_add_one, List.getElem?_eq_getElem hi, List.drop_append_of_le_length (by rw [List.length_take]; omega)]
  simp
theorem WInv.last {L : List UInt8} {m : Nat} {acc : List UInt8} (h : WInv L L.length m acc) : WInv L (L.length + 1) m acc := by
  obtain ⟨h1, h2, h3, h4⟩ := h
  refine ⟨by omega, by omega, h3, ?_⟩
  rw [← h4, List.take_of_length_le (Nat.le_succ _), List.take_length, List.drop_length, List.drop_eq_nil_of_le (Nat.le_succ _)]
theorem WInv.hit {L : List UInt8} {i m n : Nat} {acc t : List UInt8} (h : WInv L i m acc) (hn : lookL (L.drop i) = some (t, n)) : i + n ≤ L.length ∧ WInv L (i + n) (i + n) (acc ++ (L.take i).drop m ++ t) := by
  obtain ⟨h1, h2, h3, h4⟩ := h
  have hp := lookL_some hn
  rw [List.length_drop] at hp
  refine ⟨by omega, by omega, by omega, by omega, ?_⟩
  rw [← h4, escG_some hn, List.drop_drop, show (L.take (i + n)).drop (i + n) = [] from List.drop_eq_nil_of_le (by rw [List.length_take]; omega)]
  simp
theorem WInv.len {L : List UInt8} {i m : Nat} {acc : List UInt8} (h : WInv L i m acc) : acc.length ≤ 6 * L.length := by
  have := escG_len L.length L (Nat.le_refl _)
  rw [← h.2.2.2] at this
  simp only [List.length_append] at this
  omega
theorem WInv.fin {L : List UInt8} {m : Nat} {acc : List UInt8} (h : WInv L (L.length + 1) m acc) : acc ++ L.drop m = escG L := by
  obtain ⟨h1, h2, h3, h4⟩ := h
  rw [← h4, List.take_of_length_le (Nat.le_succ _), show L.drop (L.length + 1) = [] from List.drop_eq_nil_of_le (Nat.le_succ _)]
  simp [escG]
end Go.Proofs.YtgokefodmjhhiaaGreatDoor

/- What ent.Text and ent.Value write, as lists, and what ent.Decode reads of it. No statement is proved here. -/
namespace Go.Proofs.YtgokefodmjhhiaaGreatDoor
open Go.RowKit
set_option linter.unusedVariables false
set_option linter.unusedSimpArgs false
set_option maxRecDepth 100000
def quT : List UInt8 := [38, 113, 117, 111, 116, 59]
/-- a text written; q: as a value -/
def escQ (q : Bool) : List UInt8 → List UInt8
  | [] => []
  | c :: r => if q = true ∧ c = 34 then quT ++ escQ q r else match lookL (c :: r) with
    | some (t, n) => t ++ escQ q (r.drop (n - 1))
    | none => c :: escQ q r
termination_by l => l.length
decreasing_by all_goals simp; try omega
theorem look_forms {l t : List UInt8} {n : Nat} (h : lookL l = some (t, n)) : ∃ r, (l = 38 :: r ∧ t = ampT ∧ n = 1) ∨ (l = 60 :: r ∧ t = ltT ∧ n = 1) ∨ (l = 62 :: r ∧ t = gtT ∧ n = 1) ∨ (l = 194 :: 160 :: r ∧ t = nbT ∧ n = 2) := by
  unfold lookL at h
  split at h <;> first
    | (rename_i r; injection h with h; injection h with h1 h2; subst h1 h2; exact ⟨r, by simp⟩)
    | cases h
theorem escQ_nil (q : Bool) : escQ q [] = [] := by rw [escQ]
theorem escQ_quote (r : List UInt8) : escQ true (34 :: r) = quT ++ escQ true r := by rw [escQ, if_pos ⟨rfl, rfl⟩]
theorem escQ_some {q : Bool} {l t : List UInt8} {n : Nat} (h : lookL l = some (t, n)) : escQ q l = t ++ escQ q (l.drop n) := by
  obtain ⟨r, ⟨rfl, rfl, rfl⟩ | ⟨rfl, rfl, rfl⟩ | ⟨rfl, rfl, rfl⟩ | ⟨rfl, rfl, rfl⟩⟩ := look_forms h
  all_goals
    rw [escQ, if_neg (by intro e; exact absurd e.2 (by decide)), h]
    rfl
theorem escQ_none {q : Bool} {c : UInt8} {r : List UInt8} (h : lookL (c :: r) = none) (hq : ¬(q = true ∧ c = 34)) : escQ q (c :: r) = c :: escQ q r := by
  rw [escQ, if_neg hq, h]
theorem esc_ind (q : Bool) {P : List UInt8 → Prop} (h0 : P []) (hq : q = true → ∀ r, P r → P (34 :: r)) (hs : ∀ l t n, lookL l = some (t, n) → P (l.drop n) → P l) (hn : ∀ c r, lookL (c :: r) = none → ¬(q = true ∧ c = 34) → P r → P (c :: r)) : ∀ (k : Nat) (l : List UInt8), l.length ≤ k → P l
  | _, [], _ => h0
  | 0, c :: r, h => absurd h (by simp)
  | k + 1, c :: r, h => by
    by_cases e : q = true ∧ c = 34
    · obtain ⟨e1, rfl⟩ := e
      exact hq e1 r (esc_ind q h0 hq hs hn k r (by simpa using h))
    · cases hl : lookL (c :: r) with
      | none => exact hn c r hl e (esc_ind q h0 hq hs hn k r (by simpa using h))
      | some p =>
        obtain ⟨t, n⟩ := p
        have hp := lookL_some hl
        exact hs _ t n hl (esc_ind q h0 hq hs hn k _ (by rw [List.length_drop]; simp only [List.length_cons] at h ⊢; omega))
theorem escG_Q (l : List UInt8) : escG l = escQ false l := by
  refine esc_ind false (P := fun l => escG l = escQ false l) ?_ ?_ ?_ ?_ l.length l (Nat.le_refl _)
  · rw [escQ_nil, escG]
  · intro h; cases h
  · intro l t n h ih
    rw [escQ_some h, escG_some h, ih]
  · intro c r h hq ih
    rw [escQ_none h hq, escG_none h, ih]
theorem look_off38 {c : UInt8} {r : List UInt8} (h : lookL (c :: r) = none) : c ≠ 38 ∧ c ≠ 60 ∧ c ≠ 62 := by
  refine ⟨?_, ?_, ?_⟩ <;> (rintro rfl; cases h)
/-! ### reading -/
theorem before_app {c : UInt8} {k : List UInt8} (hk : c ∉ k) (X : List UInt8) : beforeC c (k ++ c :: X) = k ∧ afterC c (k ++ c :: X) = X ∧ hasC c (k ++ c :: X) = true := by
  refine ⟨?_, ?_, by simp [hasC]⟩
  · induction k with
    | nil => simp [beforeC]
    | cons a k ih =>
      have h1 : (a != c) = true := by rw [bne_iff_ne]; rintro rfl; exact hk (by simp)
      have h2 := ih (fun h => hk (List.mem_cons_of_mem _ h))
      unfold beforeC at h2 ⊢
      rw [List.cons_append, List.takeWhile_cons, h1]
      simp only [if_true]
      rw [h2]
  · induction k with
    | nil => simp [afterC]
    | cons a k ih =>
      have h1 : (a != c) = true := by rw [bne_iff_ne]; rintro rfl; exact hk (by simp)
      have h2 := ih (fun h => hk (List.mem_cons_of_mem _ h))
      unfold afterC at h2 ⊢
      rw [List.cons_append, List.dropWhile_cons, h1]
      simp only [if_true]
      exact h2
theorem cons_off {c : UInt8} (hc : c ≠ 38) (r : List UInt8) : beforeC 38 (c :: r) = c :: beforeC 38 r ∧ afterC 38 (c :: r) = afterC 38 r ∧ hasC 38 (c :: r) = hasC 38 r := by
  have h1 : (c != 38) = true := by rw [bne_iff_ne]; exact hc
  refine ⟨?_, ?_, ?_⟩
  · unfold beforeC; rw [List.takeWhile_cons, h1]; rfl
  · unfold afterC; rw [List.dropWhile_cons, h1]; rfl
  · unfold hasC
    congr 1
    rw [List.mem_cons, eq_iff_iff]
    exact ⟨fun h => h.elim (fun e => absurd e.symm hc) id, .inr⟩
theorem decE_nil : decE [] = [] := decE_no rfl
theorem decE_cons {c : UInt8} (hc : c ≠ 38) (r : List UInt8) : decE (c :: r) = c :: decE r := by
  obtain ⟨e1, e2, e3⟩ := cons_off hc r
  cases h : hasC 38 r with
  | false => rw [decE_no h, decE_no (e3.trans h)]
  | true => rw [decE_yes h, decE_yes (e3.trans h), e1, e2, List.cons_append]
theorem decE_amp (r : List UInt8) : decE (38 :: r) = if 0 < (refN r).2 then runeL (refN r).1 ++ decE (r.drop (refN r).2) else 38 :: decE r := by
  have e1 : beforeC 38 (38 :: r) = [] := by simp [beforeC]
  have e2 : afterC 38 (38 :: r) = r := by simp [afterC]
  rw [decE_yes (by simp [hasC]), e1, e2, List.nil_append]
theorem refN_at {k : List UInt8} (hk : (59 : UInt8) ∉ k) (hl : k.length ≤ 8) (X : List UInt8) : refN (k ++ 59 :: X) = match sgn k with | some x => (x, k.length + 1) | none => (0, 0) := by
  have e : (k ++ 59 :: X).take 9 = k ++ 59 :: X.take (8 - k.length) := by
    rw [List.take_append, List.take_of_length_le (by omega)]
    obtain ⟨m, hm⟩ : ∃ m, 9 - k.length = m + 1 := ⟨8 - k.length, by omega⟩
    rw [hm, List.take_succ_cons, show m = 8 - k.length by omega]
  obtain ⟨e1, e2, e3⟩ := before_app hk (X.take (8 - k.length))
  unfold refN
  rw [e, e1, e3]
  cases sgn k <;> rfl
theorem dec_ref {k : List UInt8} {x : Int} (hk : (59 : UInt8) ∉ k) (hl : k.length ≤ 8) (hs : sgn k = some x) (X : List UInt8) : decE (38 :: (k ++ 59 :: X)) = runeL x ++ decE X := by
  rw [decE_amp, refN_at hk hl, hs]
  simp only
  rw [if_pos (Nat.succ_pos _), show (k ++ 59 :: X).drop (k.length + 1) = X by rw [List.drop_append]; simp]
theorem dec_esc (q : Bool) (l : List UInt8) : decE (escQ q l) = l := by
  refine esc_ind q (P := fun l => decE (escQ q l) = l) ?_ ?_ ?_ ?_ l.length l (Nat.le_refl _)
  · rw [escQ_nil, decE_nil]
  · rintro rfl r ih
    rw [escQ_quote]
    have := dec_ref (k := [113, 117, 111, 116]) (x := 34) (by decide) (by decide) (by decide) (escQ true r)
    rw [ih] at this
    exact this
  · intro l t n h ih
    rw [escQ_some h]
    obtain ⟨r, ⟨rfl, rfl, rfl⟩ | ⟨rfl, rfl, rfl⟩ | ⟨rfl, rfl, rfl⟩ | ⟨rfl, rfl, rfl⟩⟩ := look_forms h
    · have := dec_ref (k := [97, 109, 112]) (x := 38) (by decide) (by decide) (by decide) (escQ q r)
      exact this.trans (congrArg _ ih)
    · have := dec_ref (k := [108, 116]) (x := 60) (by decide) (by decide) (by decide) (escQ q r)
      exact this.trans (congrArg _ ih)
    · have := dec_ref (k := [103, 116]) (x := 62) (by decide) (by decide) (by decide) (escQ q r)
      exact this.trans (congrArg _ ih)
    · have := dec_ref (k := [110, 98, 115, 112]) (x := 160) (by decide) (by decide) (by decide) (escQ q r)
      exact this.trans (congrArg _ ih)
  · intro c r h hq ih
    rw [escQ_none h hq, decE_cons (look_off38 h).1, ih]
theorem esc_inj (q : Bool) {a b : List UInt8} (h : escQ q a = escQ q b) : a = b := by rw [← dec_esc q a, h, dec_esc]
/-! ### the size of what is read -/
theorem name_one (c : UInt8) : nameN [c] = none := u8_all (p := fun c => nameN [c] = none) (by decide +kernel) c
theorem sgn_two {k : List UInt8} {x : Int} (h : sgn k = some x) : 2 ≤ k.length := by
  match k, h with
  | [], h => rw [show sgn [] = none by decide] at h; cases h
  | [c], h =>
    by_cases hc : c = 35
    · subst hc
      rw [show sgn [35] = none by decide] at h; cases h
    · unfold sgn at h
      split at h
      · rename_i hp
        have : 35 = c := by simpa [Lib.hasPrefix] using hp
        exact absurd this.symm hc
      · rw [name_one] at h; cases h
  | _ :: _ :: _, _ => simp
theorem refN_three {l : List UInt8} (h : 0 < (refN l).2) : 3 ≤ (refN l).2 := by
  unfold refN at h ⊢
  split
  · rename_i x h1 h2
    have := sgn_two h1
    show 3 ≤ _ + 1
    omega
  · rename_i hno
    split at h
    · rename_i x h1 h2
      exact absurd h2 (by intro h2; exact hno x h1 h2)
    · exact absurd h (by decide)
theorem decE_len : ∀ (k : Nat) (l : List UInt8), l.length ≤ k → (decE l).length ≤ l.length
  | _, [], _ => by rw [decE_nil]; exact Nat.le_refl _
  | 0, c :: r, h => absurd h (by simp)
  | k + 1, c :: r, h => by
    by_cases hc : c = 38
    · subst hc
      rw [decE_amp]
      split
      · rename_i hn
        have h3 := refN_three hn
        have hle := (refN_ok r).2
        have hr := (runeL_length (refN r).1).2.1
        have := decE_len k (r.drop (refN r).2) (by rw [List.length_drop]; simp only [List.length_cons] at h; omega)
        rw [List.length_drop] at this
        rw [List.length_append, List.length_cons]
        omega
      · have := decE_len k r (by simpa using h)
        simp only [List.length_cons]; omega
    · have := decE_len k r (by simpa using h)
      rw [decE_cons hc]
      simp only [List.length_cons]; omega
/-! ### one behind the other -/
theorem look_app {c : UInt8} {r : List UInt8} (h : lookL (c :: r) = none) (hr : c ≠ 194 ∨ r ≠ []) (b : List UInt8) : lookL (c :: (r ++ b)) = none := by
  obtain ⟨h1, h2, h3⟩ := look_off38 h
  by_cases hc : c = 194
  · subst hc
    match r, hr with
    | a :: r, _ =>
      refine look_194n ?_
      rintro rfl
      cases h
  · exact look_off (by rintro (e | e | e | e) <;> first | exact h1 e | exact h2 e | exact h3 e | exact hc e)
theorem look_app_some {l t : List UInt8} {n : Nat} (h : lookL l = some (t, n)) (b : List UInt8) : lookL (l ++ b) = some (t, n) := by
  obtain ⟨r, ⟨rfl, rfl, rfl⟩ | ⟨rfl, rfl, rfl⟩ | ⟨rfl, rfl, rfl⟩ | ⟨rfl, rfl, rfl⟩⟩ := look_forms h
  all_goals rfl
theorem esc_app (q : Bool) (a b : List UInt8) : a.getLast? ≠ some 194 → escQ q (a ++ b) = escQ q a ++ escQ q b := by
  refine esc_ind q (P := fun a => a.getLast? ≠ some 194 → escQ q (a ++ b) = escQ q a ++ escQ q b) ?_ ?_ ?_ ?_ a.length a (Nat.le_refl _)
  · intro _
    rw [escQ_nil]; rfl
  · rintro rfl r ih hl
    rw [List.cons_append, escQ_quote, escQ_quote, ih ?_, List.append_assoc]
    intro e; apply hl
    rw [List.getLast?_cons, e]; rfl
  · intro l t n h ih hl
    have hp := lookL_some h
    rw [escQ_some h, escQ_some (look_app_some h b), List.drop_append_of_le_length hp.2.2.1, ih ?_, List.append_assoc]
    intro e; apply hl
    have hd : l = l.take n ++ l.drop n := (List.take_append_drop n l).symm
    rw [hd, List.getLast?_append, e]; rfl
  · intro c r h hq ih hl
    have hr : c ≠ 194 ∨ r ≠ [] := by
      by_cases hc : c = 194
      · refine .inr ?_
        rintro rfl
        exact hl (by rw [hc]; rfl)
      · exact .inl hc
    rw [List.cons_append, escQ_none (look_app h hr b) hq, escQ_none h hq, ih ?_]
    · rfl
    intro e; apply hl
    rw [List.getLast?_cons, e]; rfl
/-! ### what stands in it -/
theorem esc_no (q : Bool) (l : List UInt8) : ∀ c ∈ escQ q l, c ≠ 60 ∧ c ≠ 62 ∧ (q = true → c ≠ 34) := by
  refine esc_ind q (P := fun l => ∀ c ∈ escQ q l, c ≠ 60 ∧ c ≠ 62 ∧ (q = true → c ≠ 34)) ?_ ?_ ?_ ?_ l.length l (Nat.le_refl _)
  · intro c h; rw [escQ_nil] at h; cases h
  · rintro rfl r ih c h
    rw [escQ_quote, List.mem_append] at h
    rcases h with h | h
    · have : ∀ c ∈ quT, c ≠ 60 ∧ c ≠ 62 ∧ c ≠ 34 := by decide
      obtain ⟨a1, a2, a3⟩ := this c h
      exact ⟨a1, a2, fun _ => a3⟩
    · exact ih c h
  · intro l t n h ih c hc
    rw [escQ_some h, List.mem_append] at hc
    rcases hc with hc | hc
    · have : ∀ c ∈ t, c ≠ 60 ∧ c ≠ 62 ∧ c ≠ 34 := by
        obtain ⟨r, ⟨rfl, rfl, rfl⟩ | ⟨rfl, rfl, rfl⟩ | ⟨rfl, rfl, rfl⟩ | ⟨rfl, rfl, rfl⟩⟩ := look_forms h <;> decide
      obtain ⟨a1, a2, a3⟩ := this c hc
      exact ⟨a1, a2, fun _ => a3⟩
    · exact ih c hc
  · intro c r h hq ih x hx
    rw [escQ_none h hq, List.mem_cons] at hx
    rcases hx with rfl | hx
    · obtain ⟨h1, h2, h3⟩ := look_off38 h
      exact ⟨h2, h3, fun e => fun e' => hq ⟨e, e'⟩⟩
    · exact ih x hx
/-- what stands behind a reference's sign that was written -/
def GoodR (r : List UInt8) : Prop := ∃ k X, r = k ++ 59 :: X ∧ (k = [97, 109, 112] ∨ k = [108, 116] ∨ k = [103, 116] ∨ k = [110, 98, 115, 112] ∨ k = [113, 117, 111, 116])
theorem good_app {k : List UInt8} (hk : k = [97, 109, 112] ∨ k = [108, 116] ∨ k = [103, 116] ∨ k = [110, 98, 115, 112] ∨ k = [113, 117, 111, 116]) {E : List UInt8} (ih : ∀ i r, E.drop i = 38 :: r → GoodR r) : ∀ i r, (38 :: (k ++ 59 :: E)).drop i = 38 :: r → GoodR r := by
  intro i r h
  cases i with
  | zero =>
    injection h with _ h
    exact ⟨k, E, h.symm, hk⟩
  | succ i =>
    rw [List.drop_succ_cons] at h
    by_cases hi : i < (k ++ [59]).length
    · exfalso
      have e : k ++ 59 :: E = (k ++ [59]) ++ E := by simp
      rw [e, List.drop_append_of_le_length (Nat.le_of_lt hi)] at h
      have h0 := List.drop_eq_getElem_cons hi
      rw [h0] at h
      injection h with h1 _
      have hm : (38 : UInt8) ∈ k ++ [59] := h1 ▸ List.getElem_mem hi
      rcases hk with rfl | rfl | rfl | rfl | rfl <;> exact absurd hm (by decide)
    · have e : k ++ 59 :: E = (k ++ [59]) ++ E := by simp
      rw [e, List.drop_append, List.drop_eq_nil_of_le (by omega), List.nil_append] at h
      exact ih _ r h
theorem esc_good (q : Bool) (l : List UInt8) : ∀ i r, (escQ q l).drop i = 38 :: r → GoodR r := by
  refine esc_ind q (P := fun l => ∀ i r, (escQ q l).drop i = 38 :: r → GoodR r) ?_ ?_ ?_ ?_ l.length l (Nat.le_refl _)
  · intro i r h; rw [escQ_nil] at h; simp at h
  · rintro rfl r ih
    rw [escQ_quote]
    exact good_app (.inr (.inr (.inr (.inr rfl)))) ih
  · intro l t n h ih
    rw [escQ_some h]
    obtain ⟨r, ⟨rfl, rfl, rfl⟩ | ⟨rfl, rfl, rfl⟩ | ⟨rfl, rfl, rfl⟩ | ⟨rfl, rfl, rfl⟩⟩ := look_forms h
    · exact good_app (.inl rfl) ih
    · exact good_app (.inr (.inl rfl)) ih
    · exact good_app (.inr (.inr (.inl rfl))) ih
    · exact good_app (.inr (.inr (.inr (.inl rfl)))) ih
  · intro c r h hq ih i x hx
    rw [escQ_none h hq] at hx
    cases i with
    | zero => injection hx with hx _; exact absurd hx (look_off38 h).1
    | succ i => exact ih i x hx
theorem esc_len (q : Bool) (l : List UInt8) : (escQ q l).length ≤ 6 * l.length := by
  refine esc_ind q (P := fun l => (escQ q l).length ≤ 6 * l.length) ?_ ?_ ?_ ?_ l.length l (Nat.le_refl _)
  · rw [escQ_nil]; exact Nat.le_refl _
  · rintro rfl r ih
    rw [escQ_quote, List.length_append, show quT.length = 6 from rfl, List.length_cons]; omega
  · intro l t n h ih
    have hp := lookL_some h
    rw [List.length_drop] at ih
    rw [escQ_some h, List.length_append]; omega
  · intro c r h hq ih
    rw [escQ_none h hq, List.length_cons, List.length_cons]; omega
/-! ### strings.ReplaceAll of one sign -/
theorem repK_one (c : UInt8) (new : List UInt8) : ∀ l : List UInt8, Lib.replaceK [c] new (Lib.count l [c]) l = l.flatMap (fun x => if x = c then new else [x])
  | [] => by
    rw [Lib.count_one]
    rfl
  | b :: r => by
    have ih := repK_one c new r
    by_cases hb : b = c
    · subst hb
      rw [Lib.count_cons_eq, Nat.add_comm, Lib.replaceK_hit [b] new _ _ 0 (by rw [Lib.index_one]; simp [Lib.indexByte])]
      rw [List.flatMap_cons, if_pos rfl]
      show [] ++ new ++ Lib.replaceK [b] new (Lib.count r [b]) r = _
      rw [ih, List.nil_append]
    · rw [Lib.count_cons_ne b c r hb, List.flatMap_cons, if_neg hb, ← ih]
      cases hn : Lib.count r [c] with
      | zero => rfl
      | succ k =>
        obtain ⟨i, hi⟩ := Lib.index_of_count (s := r) (old := [c]) (by rw [hn]; exact Nat.succ_pos _)
        have hi2 : Lib.index (b :: r) [c] = ((i + 1 : Nat) : Int) := by
          rw [Lib.index_one] at hi ⊢
          have h1 : (b == c) = false := by simp [hb]
          have h2 : ((i : Int) == -1) = false := by rw [beq_eq_false_iff_ne]; omega
          simp [Lib.indexByte, h1, hi, h2]
        rw [Lib.replaceK_hit [c] new k _ _ hi2, Lib.replaceK_hit [c] new k _ _ hi]
        simp [Nat.add_right_comm]
theorem repAll_one (c : UInt8) (new : List UInt8) (hne : ([c] == new) = false) (l : List UInt8) : Lib.replaceAll l [c] new = l.flatMap (fun x => if x = c then new else [x]) := by
  unfold Lib.replaceAll Lib.replace Lib.replaceNum
  rw [hne, if_neg (by decide), if_pos (.inl (by decide)), repK_one]
theorem escQ_value (l : List UInt8) : escQ true l = Lib.replaceAll (escQ false l) [34] quT := by
  rw [repAll_one 34 quT (by decide)]
  refine esc_ind true (P := fun l => escQ true l = (escQ false l).flatMap (fun x => if x = 34 then quT else [x])) ?_ ?_ ?_ ?_ l.length l (Nat.le_refl _)
  · rw [escQ_nil, escQ_nil]; rfl
  · intro _ r ih
    rw [escQ_quote, escQ_none (q := false) (c := 34) (r := r) rfl (by intro e; cases e.1), List.flatMap_cons, if_pos rfl, ih]
  · intro l t n h ih
    rw [escQ_some h, escQ_some h, List.flatMap_append, ← ih]
    congr 1
    obtain ⟨r, ⟨rfl, rfl, rfl⟩ | ⟨rfl, rfl, rfl⟩ | ⟨rfl, rfl, rfl⟩ | ⟨rfl, rfl, rfl⟩⟩ := look_forms h <;> decide
  · intro c r h hq ih
    rw [escQ_none h hq, escQ_none h (by intro e; cases e.1), List.flatMap_cons, if_neg (by intro e; exact hq ⟨rfl, e⟩), ← ih]
    rfl
end Go.Proofs.YtgokefodmjhhiaaGreatDoor

/- PURE: what the laws of layer 13 ask of tokens: few, clean; that clean ones are read as they were written. No statement is proved here. Own work of the verifier. -/
namespace Go.Proofs.YtgokefodmjhhiaaGreatDoor
set_option linter.unusedVariables false
set_option linter.unusedSimpArgs false
def kindN (z : Int) : Nat := if z = 1 then 1 else if z = 2 then 2 else if z = 3 then 3 else 0
def toL (p : TokG) : TokL := ⟨kindN p.1, p.2.name, p.2.attrs, p.2.text⟩
/-- what htok.Write gives for one token, for all -/
def tokG (p : TokG) : List UInt8 := tokW (escQ false) (escQ true) (toL p)
def writeG (l : List TokG) : List UInt8 := l.flatMap tokG
theorem writeG_L (l : List TokG) : writeG l = writeTs (escQ false) (escQ true) (l.map toL) := by
  unfold writeG writeTs
  rw [List.flatMap_map]; rfl
theorem toL_kind {p : TokG} {n : Nat} (h : kindN p.1 = n) : (toL p).kind = n := h
theorem tokG_chars {p : TokG} (h : p.1 = 1) : tokG p = escQ false p.2.text := by
  have e : (toL p).kind = 1 := toL_kind (by rw [h]; rfl)
  unfold tokG tokW
  rw [if_pos e]; rfl
theorem tokG_start {p : TokG} (h : p.1 = 2) : tokG p = 60 :: (p.2.name ++ (attrsW (escQ true) p.2.attrs ++ [62])) := by
  have e : (toL p).kind = 2 := toL_kind (by rw [h]; rfl)
  unfold tokG tokW
  rw [if_neg (by rw [e]; decide), if_pos e]; rfl
theorem tokG_end {p : TokG} (h : p.1 = 3) : tokG p = 60 :: 47 :: (p.2.name ++ [62]) := by
  have e : (toL p).kind = 3 := toL_kind (by rw [h]; rfl)
  unfold tokG tokW
  rw [if_neg (by rw [e]; decide), if_neg (by rw [e]; decide), if_pos e]; rfl
theorem tokG_none {p : TokG} (h1 : p.1 ≠ 1) (h2 : p.1 ≠ 2) (h3 : p.1 ≠ 3) : tokG p = [] := by
  have e : (toL p).kind = 0 := toL_kind (by unfold kindN; rw [if_neg h1, if_neg h2, if_neg h3])
  unfold tokG tokW
  rw [if_neg (by rw [e]; decide), if_neg (by rw [e]; decide), if_neg (by rw [e]; decide)]
/-- few -/
def fitA (a : AtL) : Bool := decide (a.1.length ≤ 300) && decide (a.2.length ≤ 300)
def fitT (t : TokL) : Bool := decide (t.name.length ≤ 300) && (decide (t.text.length ≤ 300) && (decide (t.attrs.length ≤ 40) && t.attrs.all fitA))
def fewG (l : List TokG) : Bool := decide (l.length ≤ 60) && l.all (fun p => fitT p.2)
theorem fitT_len {t : TokL} (h : fitT t = true) : t.name.length ≤ 300 ∧ t.text.length ≤ 300 ∧ t.attrs.length ≤ 40 ∧ ∀ a ∈ t.attrs, a.1.length ≤ 300 ∧ a.2.length ≤ 300 := by
  unfold fitT at h
  simp only [Bool.and_eq_true, decide_eq_true_eq, List.all_eq_true, fitA] at h
  exact ⟨h.1, h.2.1, h.2.2.1, h.2.2.2⟩
theorem fewG_len {l : List TokG} (h : fewG l = true) : l.length ≤ 60 ∧ ∀ p ∈ l, fitT p.2 = true := by
  unfold fewG at h
  simp only [Bool.and_eq_true, decide_eq_true_eq, List.all_eq_true] at h
  exact h
theorem attrsW_len {A : List AtL} (h : ∀ a ∈ A, a.1.length ≤ 300 ∧ a.2.length ≤ 300) : (attrsW (escQ true) A).length ≤ 2104 * A.length := by
  unfold attrsW
  induction A with
  | nil => simp
  | cons a r ih =>
    have h1 := h a (List.mem_cons_self ..)
    have h2 := ih (fun x hx => h x (List.mem_cons_of_mem _ hx))
    have h3 := esc_len true a.2
    rw [List.flatMap_cons, List.length_append, List.length_cons]
    have e : (attrW (escQ true) a).length = a.1.length + (escQ true a.2).length + 4 := by
      unfold attrW; simp only [List.length_cons, List.length_append, List.length_nil]; omega
    rw [e]; omega
theorem tokG_len {p : TokG} (h : fitT p.2 = true) : (tokG p).length ≤ 84500 := by
  obtain ⟨h1, h2, h3, h4⟩ := fitT_len h
  by_cases k1 : p.1 = 1
  · rw [tokG_chars k1]; have := esc_len false p.2.text; omega
  by_cases k2 : p.1 = 2
  · rw [tokG_start k2]
    have := attrsW_len h4
    simp only [List.length_cons, List.length_append, List.length_nil]; omega
  by_cases k3 : p.1 = 3
  · rw [tokG_end k3]; simp only [List.length_cons, List.length_append, List.length_nil]; omega
  rw [tokG_none k1 k2 k3]; exact Nat.zero_le _
theorem writeG_len {l : List TokG} (h : ∀ p ∈ l, fitT p.2 = true) : (writeG l).length ≤ 84500 * l.length := by
  unfold writeG
  induction l with
  | nil => simp
  | cons p r ih =>
    have h1 := tokG_len (h p (List.mem_cons_self ..))
    have h2 := ih (fun x hx => h x (List.mem_cons_of_mem _ hx))
    rw [List.flatMap_cons, List.length_append, List.length_cons]; omega
instance decTK2 : DecidableEq (List UInt8 × List AtL) := inferInstance
instance decTK1 : DecidableEq (List UInt8 × List UInt8 × List AtL) := inferInstance
instance decTK0 : DecidableEq (Int × List UInt8 × List UInt8 × List AtL) := inferInstance
/-- the same, but for what a kind is called -/
def tokKey (p : TokG) : Int × List UInt8 × List UInt8 × List AtL := (p.1, p.2.name, p.2.text, p.2.attrs)
/-- a name of a letter, and small letters and digits -/
def smallB (c : UInt8) : Bool := decide (97 ≤ c.toNat) && decide (c.toNat ≤ 122)
def plainB (l : List UInt8) : Bool := match l with
  | [] => false
  | c :: r => smallB c && r.all fun x => smallB x || digitB x
theorem small_low (c : UInt8) (h : (smallB c || digitB c) = true) : (letterB c || digitB c) = true ∧ lowC c = c :=
  u8_all (p := fun c => (smallB c || digitB c) = true → ((letterB c || digitB c) = true ∧ lowC c = c)) (by decide +kernel) c h
theorem small_letter (c : UInt8) (h : smallB c = true) : letterB c = true :=
  u8_all (p := fun c => smallB c = true → letterB c = true) (by decide +kernel) c h
theorem low_of {l : List UInt8} (h : ∀ x ∈ l, lowC x = x) : lowL l = l := by
  unfold lowL
  exact (List.map_congr_left h).trans (List.map_id _)
theorem plain_ok {l : List UInt8} (h : plainB l = true) : nameOK l ∧ lowL l = l := by
  cases l with
  | nil => cases h
  | cons c r =>
    unfold plainB at h
    rw [Bool.and_eq_true, List.all_eq_true] at h
    have ha : ∀ x ∈ c :: r, (smallB x || digitB x) = true := fun x hx => by
      rcases List.mem_cons.1 hx with rfl | hx
      · rw [h.1]; rfl
      · exact h.2 x hx
    exact ⟨⟨c, r, rfl, small_letter c h.1, fun x hx => (small_low x (ha x hx)).1⟩, low_of fun x hx => (small_low x (ha x hx)).2⟩
/-- attributes of a clean begin: each name plain, and once -/
def onceB : List AtL → List AtL → Bool
  | _, [] => true
  | A, a :: r => (!(A.any fun b => b.1 == a.1) && plainB a.1) && onceB (A ++ [a]) r
def cleanB (p : TokG) (was : Int) : Bool :=
  if p.1 = 1 then p.2.name.isEmpty && (p.2.attrs.isEmpty && (!p.2.text.isEmpty && !decide (was = 1)))
  else if p.1 = 3 then plainB p.2.name && (p.2.attrs.isEmpty && p.2.text.isEmpty)
  else if p.1 = 2 then onceB [] p.2.attrs && (plainB p.2.name && (!(rawL.contains p.2.name) && (p.2.text.isEmpty && decide (p.2.attrs.length ≤ 30))))
  else false
def cleansB : Int → List TokG → Bool
  | _, [] => true
  | was, p :: r => cleanB p was && cleansB p.1 r
theorem once_ok : ∀ (Bs A : List AtL), onceB A Bs = true → A.Pairwise (fun a b => a.1 ≠ b.1) → (A ++ Bs).Pairwise (fun a b => a.1 ≠ b.1) ∧ ∀ a ∈ Bs, plainB a.1 = true
  | [], A, _, hA => ⟨by rw [List.append_nil]; exact hA, fun a h => by cases h⟩
  | a :: r, A, h, hA => by
    unfold onceB at h
    simp only [Bool.and_eq_true, Bool.not_eq_true', List.any_eq_false] at h
    obtain ⟨⟨h1, h2⟩, h3⟩ := h
    have hA2 : (A ++ [a]).Pairwise (fun a b => a.1 ≠ b.1) := by
      rw [List.pairwise_append]
      refine ⟨hA, List.pairwise_singleton _ _, fun x hx y hy => ?_⟩
      obtain rfl := List.mem_singleton.1 hy
      have := h1 x hx
      simpa using this
    obtain ⟨i1, i2⟩ := once_ok r (A ++ [a]) h3 hA2
    refine ⟨by simpa using i1, fun b hb => ?_⟩
    rcases List.mem_cons.1 hb with rfl | hb
    · exact h2
    · exact i2 b hb
theorem nil_of {α : Type} {l : List α} (h : l.isEmpty = true) : l = [] := by cases l with | nil => rfl | cons _ _ => cases h
theorem clean_read {p : TokG} {was : Int} (h : cleanB p was = true) : ReadT (toL p) (toL p) ∧ (kindN p.1 : Int) = p.1 ∧ (p.1 = 1 → was ≠ 1) := by
  unfold cleanB at h
  by_cases k1 : p.1 = 1
  · rw [if_pos k1] at h
    simp only [Bool.and_eq_true, Bool.not_eq_true', decide_eq_false_iff_not] at h
    obtain ⟨h1, h2, h3, h4⟩ := h
    refine ⟨⟨rfl, rfl, rfl, .inl ⟨by show kindN p.1 = 1; rw [k1]; rfl, nil_of h1, nil_of h2, fun e => ?_⟩⟩, by rw [k1]; rfl, fun _ => h4⟩
    have e2 : p.2.text = [] := e
    rw [e2] at h3; cases h3
  rw [if_neg k1] at h
  by_cases k3 : p.1 = 3
  · rw [if_pos k3] at h
    simp only [Bool.and_eq_true] at h
    obtain ⟨h1, h2, h3⟩ := h
    obtain ⟨n1, n2⟩ := plain_ok h1
    exact ⟨⟨rfl, rfl, rfl, .inr (.inl ⟨by show kindN p.1 = 3; rw [k3]; rfl, n1, n2, nil_of h2, nil_of h3⟩)⟩, by rw [k3]; rfl, fun e => absurd e k1⟩
  rw [if_neg k3] at h
  by_cases k2 : p.1 = 2
  · rw [if_pos k2] at h
    simp only [Bool.and_eq_true, Bool.not_eq_true', decide_eq_true_eq] at h
    obtain ⟨h1, h2, h3, h4, h5⟩ := h
    obtain ⟨n1, n2⟩ := plain_ok h2
    obtain ⟨o1, o2⟩ := once_ok _ _ h1 List.Pairwise.nil
    exact ⟨⟨rfl, rfl, rfl, .inr (.inr ⟨by show kindN p.1 = 2; rw [k2]; rfl, n1, n2, nil_of h4, fun a ha => plain_ok (o2 a ha), o1, h5, h3⟩)⟩, by rw [k2]; rfl, fun e => absurd e k1⟩
  rw [if_neg k2] at h
  cases h
theorem cleans_read : ∀ (l : List TokG) (was : Int), cleansB was l = true → TokR (l.map toL) (l.map toL) ∧ (∀ (i : Nat) (a b : TokL), (l.map toL)[i]? = some a → (l.map toL)[i + 1]? = some b → ¬ (a.kind = 1 ∧ b.kind = 1)) ∧
    (∀ p, l.head? = some p → p.1 = 1 → was ≠ 1) ∧ ∀ p ∈ l, (kindN p.1 : Int) = p.1
  | [], _, _ => ⟨.nil, fun i a b h => by simp at h, fun p h => by simp at h, fun p h => by cases h⟩
  | p :: r, was, h => by
    unfold cleansB at h
    rw [Bool.and_eq_true] at h
    obtain ⟨c1, c2, c3⟩ := clean_read h.1
    obtain ⟨i1, i2, i3, i4⟩ := cleans_read r p.1 h.2
    refine ⟨.cons c1 i1, fun i a b ha hb => ?_, fun q hq => ?_, fun q hq => ?_⟩
    · cases i with
      | zero =>
        simp only [List.map_cons, List.getElem?_cons_zero, Option.some.injEq] at ha
        subst ha
        rintro ⟨k1, k2⟩
        rw [show 0 + 1 = 0 + 1 from rfl, List.map_cons, List.getElem?_cons_succ, List.getElem?_map] at hb
        obtain ⟨q, hq, rfl⟩ := Option.map_eq_some_iff.1 hb
        have hk : ∀ z : TokG, (toL z).kind = 1 → (kindN z.1 : Int) = z.1 → z.1 = 1 := fun z h1 h2 => by
          have h3 : kindN z.1 = 1 := h1
          rw [h3] at h2; exact h2.symm
        have e1 := hk p k1 c2
        have e2 := hk q k2 (i4 q (List.mem_of_getElem? hq))
        exact i3 q (by rw [List.head?_eq_getElem?]; exact hq) e2 e1
      | succ i => exact i2 i a b (by simpa using ha) (by simpa using hb)
    · simp only [List.head?_cons, Option.some.injEq] at hq
      subst hq
      exact c3
    · rcases List.mem_cons.1 hq with rfl | hq
      · exact c2
      · exact i4 q hq
theorem tokKey_toL {l : List TokG} (h : ∀ p ∈ l, (kindN p.1 : Int) = p.1) : ((l.map toL).map gOf).map tokKey = l.map tokKey := by
  rw [List.map_map, List.map_map]
  refine List.map_congr_left fun p hp => ?_
  show tokKey (gOf (toL p)) = tokKey p
  unfold tokKey gOf toL
  simp only
  rw [h p hp]
theorem escOK : EscOK decE (escQ false) (escQ true) := by
  refine ⟨fun x h => (esc_no false x 60 h).1 rfl, dec_esc false, fun x hx e => ?_, fun x h => (esc_no true x 34 h).2.2 rfl rfl, dec_esc true⟩
  apply hx
  rw [← dec_esc false x, e]
  exact decE_nil
/-- tokens that are written are read to the same -/
theorem scan_back {l : List TokG} (h : cleansB 0 l = true) : scanL decE [] [] (writeG l) = l.map toL ∧ ∀ p ∈ l, (kindN p.1 : Int) = p.1 := by
  obtain ⟨h1, h2, _, h4⟩ := cleans_read l 0 h
  refine ⟨?_, h4⟩
  rw [writeG_L, scan_write escOK _ _ h1 h2 [] [] (.inl rfl)]
  rfl
/-- what HtokText asks: a text that is not empty is read to one that is not -/
theorem decE_ne {l : List UInt8} (h : l ≠ []) : decE l ≠ [] := by
  cases l with
  | nil => exact absurd rfl h
  | cons c r =>
    by_cases hc : c = 38
    · subst hc
      rw [decE_amp]
      split
      · intro e
        have := List.append_eq_nil_iff.1 e
        have h2 := (runeL_length (refN r).1).1
        rw [this.1] at h2
        exact absurd h2 (by decide)
      · simp
    · rw [decE_cons hc]; simp
end Go.Proofs.YtgokefodmjhhiaaGreatDoor

/- Facts on the tokens of a scanned document: pure. No statement is proved here. Own work of the verifier. -/
namespace Go.Proofs.YtgokefodmjhhiaaGreatDoor
open Go.RowKit
set_option linter.unusedVariables false
set_option linter.unusedSimpArgs false
set_option maxRecDepth 100000
/-! ### what a scanned document's tokens are -/
/-- tokens that may come of a mark: not characters, with a name if a begin -/
theorem mark_kinds (dec : List UInt8 → List UInt8) {c : UInt8} {r : List UInt8} (hm : isMarkB (c :: r) = true) (t : TokL) (h : (markL dec r).1 = some t) : t.kind ≠ 1 ∧ (t.kind = 2 → t.name ≠ []) := by
  refine ⟨((mark_form dec r).1 t h).2, fun hk => ?_⟩
  have hrem : ∀ k, (remL k).1 = some t → False := fun k e => by
    injection e with e; rw [← e] at hk; exact absurd (show (4 : Nat) = 2 from hk) (by decide)
  have hlong : ∀ k, (longL k).1 = some t → False := fun k e => by
    unfold longL at e
    split at e <;> (injection e with e; rw [← e] at hk; exact absurd (show (4 : Nat) = 2 from hk) (by decide))
  have hend : ∀ k, (endL dec k).1 = some t → False := fun k e => by
    unfold endL at e
    split at e
    · cases e
    · injection e with e; rw [← e] at hk; exact absurd (show (3 : Nat) = 2 from hk) (by decide)
  unfold markL at h
  split at h
  · split at h
    · cases h
    · split at h
      · exact (hend _ h).elim
      · split at h
        · cases h
        · exact (hrem _ h).elim
  · split at h
    · exact (hlong _ h).elim
    · exact (hrem _ h).elim
  · exact (hrem _ h).elim
  · rename_i h1 h2 h3
    cases r with
    | nil =>
      exfalso
      unfold isMarkB at hm
      split at hm
      · rename_i e; injection e with _ e; cases e
      · cases hm
    | cons d q =>
      have hd : letterB d = true := by
        unfold isMarkB at hm
        split at hm
        · rename_i c' r' e
          injection e with e1 e2
          injection e2 with e2 e3
          subst e2 e3
          rw [if_neg (fun e => e.elim (fun e => h2 _ (by rw [e])) (fun e => h3 _ (by rw [e]))), if_neg (fun e => h1 _ (by rw [e]))] at hm
          exact hm
        · cases hm
      have hne : nameEndB d = false := (u8_all (p := fun d => letterB d = true → nameEndB d = false) (by decide +kernel) d) hd
      unfold startL at h
      cases ht : tagL dec (d :: q) with
      | none => rw [ht] at h; cases h
      | some p =>
        obtain ⟨n, A, b⟩ := p
        have hn : n ≠ [] := by
          unfold tagL at ht
          cases ha : attrsLL dec [] (upL nameEndB (d :: q)).2 with
          | none => rw [ha] at ht; cases ht
          | some p =>
            obtain ⟨B, x⟩ := p
            rw [ha] at ht
            injection ht with ht
            injection ht with ht _
            rw [← ht]
            unfold upL lowL
            rw [List.takeWhile_cons, hne]
            simp
        rw [ht] at h
        simp only at h
        split at h
        · injection h with h; rw [← h]; exact hn
        · injection h with h; rw [← h]; exact hn
def TokW (N : Nat) (t : TokL) : Prop := (t.kind = 1 → t.text.length ≤ N) ∧ (t.kind = 2 → t.name ≠ [])
theorem flush_w {N : Nat} {L : List TokL} (h : ∀ t ∈ L, TokW N t) {x : List UInt8} (hx : x.length ≤ N) : ∀ t ∈ flushT L x, TokW N t := by
  unfold flushT
  split
  · exact h
  · intro t ht
    rcases List.mem_append.1 ht with ht | ht
    · exact h t ht
    · obtain rfl := List.mem_singleton.1 ht
      exact ⟨fun _ => hx, fun e => absurd (show (1 : Nat) = 2 from e) (by decide)⟩
theorem scan_w (dec : List UInt8 → List UInt8) (hdec : ∀ l, (dec l).length ≤ l.length) (N : Nat) : ∀ (k : Nat) (l : List UInt8) (L : List TokL) (x : List UInt8), l.length ≤ k → x.length + l.length ≤ N → (∀ t ∈ L, TokW N t) → ∀ t ∈ scanL dec L x l, TokW N t := by
  intro k
  induction k with
  | zero =>
    intro l L x hl hN h
    obtain rfl : l = [] := List.eq_nil_of_length_eq_zero (by omega)
    rw [scanL_nil]
    exact flush_w h (by simpa using hN)
  | succ k ih =>
    intro l L x hl hN h
    cases l with
    | nil => rw [scanL_nil]; exact flush_w h (by simpa using hN)
    | cons c r =>
      by_cases hm : 0 < markN (c :: r)
      · rw [scanL_text dec L x hm]
        have h1 := markN_le (c :: r)
        have h2 : ((c :: r).drop (markN (c :: r))).length = (c :: r).length - markN (c :: r) := List.length_drop
        have h3 := hdec ((c :: r).take (markN (c :: r)))
        rw [List.length_take] at h3
        exact ih _ L _ (by rw [h2]; omega) (by rw [h2, List.length_append]; omega) h
      · have hmk : isMarkB (c :: r) = true := markN_zero (by omega)
        rw [scanL_mark dec L x hmk]
        have hlen : (c :: r).length = r.length + 1 := rfl
        obtain ⟨m1, m2, m3⟩ := mark_form dec r
        refine ih _ _ _ (by omega) ?_ ?_
        · unfold addT
          cases ho : (markL dec r).1 with
          | none => have := m2 ho; simp only [this, List.append_nil]; omega
          | some u => simp only; omega
        · unfold addT
          cases ho : (markL dec r).1 with
          | none => exact h
          | some u =>
            intro t ht
            simp only at ht
            rcases List.mem_append.1 ht with ht | ht
            · exact flush_w h (by omega) t ht
            · obtain rfl := List.mem_singleton.1 ht
              obtain ⟨k1, k2⟩ := mark_kinds dec hmk t ho
              exact ⟨fun e => absurd e k1, k2⟩
theorem scanE_w (s : ByteArray) : (∀ t ∈ scanL decE [] [] s.data.toList, TokW s.size t) ∧ (scanL decE [] [] s.data.toList).length ≤ s.size := by
  refine ⟨scan_w decE (fun l => decE_len _ l (Nat.le_refl _)) s.size _ s.data.toList [] [] (Nat.le_refl _) (by rw [toList_length]; simp) (fun t h => by cases h), ?_⟩
  have := (scan_forms decE _ s.data.toList [] [] (Nat.le_refl _) ⟨fun t h => (by cases h), fun i a b h => by simp at h⟩ (fun t h => by simp at h)).2
  rw [toList_length] at this
  simpa [sz1] using this
/-- an end tag's token -/
theorem scan_end {N R : List UInt8} (L : List TokL) (hN : nameOK N) (hl : lowL N = N) : scanL decE L [] (60 :: 47 :: (N ++ 62 :: R)) = scanL decE (L ++ [endT N]) [] R := by
  obtain ⟨c, r, rfl, hc, _⟩ := id hN
  have hm : isMarkB (60 :: 47 :: ((c :: r) ++ 62 :: R)) = true := rfl
  have ht := tag_back escOK (A := []) (R := R) hN (fun a h => by cases h) List.Pairwise.nil (Nat.zero_le _)
  have he : markL decE (47 :: ((c :: r) ++ 62 :: R)) = (some (endT (c :: r)), [], R) := by
    rw [List.cons_append, markL_end hc]
    unfold endL
    rw [← List.cons_append, show ((c :: r) ++ 62 :: R) = ((c :: r) ++ (attrsW (escQ true) [] ++ 62 :: R)) from rfl, ht, hl]
  rw [scanL_mark decE L [] hm, he]
  rfl
theorem find_root (is : List UInt8 → Bool) : findP is [rootL] = none := rfl
theorem tok_end_root (n : List UInt8) (k : Nat) (p : PartL) : tokB ([p], k) (endT n) = ([p], k) := rfl
theorem scan_app_ends (L : List TokL) : ∀ (k : Nat) (l : List UInt8) (M : List TokL) (x : List UInt8), l.length ≤ k → (x ≠ [] → True) → scanL decE (L ++ M) x l = L ++ scanL decE M x l := by
  have hfl : ∀ (M : List TokL) (x : List UInt8), flushT (L ++ M) x = L ++ flushT M x := fun M x => by unfold flushT; split <;> simp
  intro k
  induction k with
  | zero =>
    intro l M x hl _
    obtain rfl : l = [] := List.eq_nil_of_length_eq_zero (by omega)
    rw [scanL_nil, scanL_nil, hfl]
  | succ k ih =>
    intro l M x hl _
    cases l with
    | nil => rw [scanL_nil, scanL_nil, hfl]
    | cons c r =>
      by_cases hm : 0 < markN (c :: r)
      · rw [scanL_text decE _ x hm, scanL_text decE _ x hm]
        have h2 : ((c :: r).drop (markN (c :: r))).length = (c :: r).length - markN (c :: r) := List.length_drop
        exact ih _ _ _ (by rw [h2]; omega) (fun _ => trivial)
      · have hmk : isMarkB (c :: r) = true := markN_zero (by omega)
        rw [scanL_mark decE _ x hmk, scanL_mark decE _ x hmk]
        have hlen : (c :: r).length = r.length + 1 := rfl
        have hml := markL_len decE r
        have hadd : (addT (L ++ M) x (markL decE r)) = (L ++ (addT M x (markL decE r)).1, (addT M x (markL decE r)).2) := by
          unfold addT
          cases ho : (markL decE r).1 with
          | none => rfl
          | some u => simp only [hfl, List.append_assoc]
        rw [hadd]
        exact ih _ _ _ (by omega) (fun _ => trivial)
/-- ends of what is not open change nothing -/
theorem build_ends (s : List UInt8) : buildP (scanL decE [] [] ([60, 47, 98, 62, 60, 47, 112, 62, 60, 47, 100, 105, 118, 62, 60, 47, 120, 62] ++ s)) = buildP (scanL decE [] [] s) := by
  have h1 : ∀ n, n = [98] ∨ n = [112] ∨ n = [100, 105, 118] ∨ n = [120] → nameOK n ∧ lowL n = n := by
    rintro n (rfl | rfl | rfl | rfl)
    all_goals exact ⟨⟨_, _, rfl, by decide +kernel, by decide +kernel⟩, by decide +kernel⟩
  have e1 := scan_end (N := [98]) (R := [60, 47, 112, 62, 60, 47, 100, 105, 118, 62, 60, 47, 120, 62] ++ s) [] (h1 _ (.inl rfl)).1 (h1 _ (.inl rfl)).2
  have e2 := scan_end (N := [112]) (R := [60, 47, 100, 105, 118, 62, 60, 47, 120, 62] ++ s) ([] ++ [endT [98]]) (h1 _ (.inr (.inl rfl))).1 (h1 _ (.inr (.inl rfl))).2
  have e3 := scan_end (N := [100, 105, 118]) (R := [60, 47, 120, 62] ++ s) ([] ++ [endT [98]] ++ [endT [112]]) (h1 _ (.inr (.inr (.inl rfl)))).1 (h1 _ (.inr (.inr (.inl rfl)))).2
  have e4 := scan_end (N := [120]) (R := s) ([] ++ [endT [98]] ++ [endT [112]] ++ [endT [100, 105, 118]]) (h1 _ (.inr (.inr (.inr rfl)))).1 (h1 _ (.inr (.inr (.inr rfl)))).2
  have e : scanL decE [] [] ([60, 47, 98, 62, 60, 47, 112, 62, 60, 47, 100, 105, 118, 62, 60, 47, 120, 62] ++ s) = [endT [98], endT [112], endT [100, 105, 118], endT [120]] ++ scanL decE [] [] s := by
    refine e1.trans (e2.trans (e3.trans (e4.trans ?_)))
    have := scan_app_ends [endT [98], endT [112], endT [100, 105, 118], endT [120]] _ s [] [] (Nat.le_refl _) (fun _ => trivial)
    rw [List.append_nil] at this
    exact this
  rw [e]
  unfold buildP
  rw [List.foldl_append]
  rfl
end Go.Proofs.YtgokefodmjhhiaaGreatDoor

/- What package word computes, as functions on lists of bytes, and facts on them. No statement is proved here. -/
namespace Go.Proofs.YtgokefodmjhhiaaGreatDoor
set_option linter.unusedVariables false
set_option linter.unusedSimpArgs false

def wsB (c : UInt8) : Bool := c == 32 || c == 9 || c == 10 || c == 13
def noWs (l : List UInt8) : Bool := l.all fun c => !wsB c
def allWs (l : List UInt8) : Bool := l.all wsB

/-! ### the letter Q -/
def qStep (c : UInt8) (r : List UInt8) : UInt8 × Nat := if c = 95 then (32, 1) else if c = 61 then (hex2 r).elim (c, 1) (fun b => (b, 3)) else (c, 1)
def qdec (l : List UInt8) : List UInt8 :=
  match l with
  | [] => []
  | c :: r => (qStep c r).1 :: qdec (r.drop ((qStep c r).2 - 1))
termination_by l.length
decreasing_by simp [List.length_drop]; omega
theorem qdec_nil : qdec [] = [] := by rw [qdec]
theorem qdec_cons (c : UInt8) (r : List UInt8) : qdec (c :: r) = (qStep c r).1 :: qdec (r.drop ((qStep c r).2 - 1)) := by rw [qdec]
theorem qStep_cases (c : UInt8) (r : List UInt8) : (c = 95 ∧ qStep c r = (32, 1)) ∨ (c = 61 ∧ ∃ b, hex2 r = some b ∧ qStep c r = (b, 3) ∧ 2 ≤ r.length) ∨ (c = 61 ∧ hex2 r = none ∧ qStep c r = (c, 1)) ∨ (c ≠ 95 ∧ c ≠ 61 ∧ qStep c r = (c, 1)) := by
  unfold qStep
  by_cases h : c = 95
  · exact .inl ⟨h, by rw [if_pos h]⟩
  · rw [if_neg h]
    by_cases h2 : c = 61
    · rw [if_pos h2]
      cases hx : hex2 r with
      | none => exact .inr (.inr (.inl ⟨h2, rfl, rfl⟩))
      | some b => exact .inr (.inl ⟨h2, b, rfl, rfl, hex2_len hx⟩)
    · exact .inr (.inr (.inr ⟨h, h2, by rw [if_neg h2]⟩))
theorem qStep_le (c : UInt8) (r : List UInt8) : 1 ≤ (qStep c r).2 ∧ (qStep c r).2 ≤ 3 ∧ (qStep c r).2 ≤ r.length + 1 := by
  rcases qStep_cases c r with ⟨_, h⟩ | ⟨_, b, _, h, _⟩ | ⟨_, _, h⟩ | ⟨_, _, h⟩
  all_goals rw [h]; simp
  omega
theorem qdec_length (l : List UInt8) : (qdec l).length ≤ l.length := by
  refine list_ind (p := fun l => (qdec l).length ≤ l.length) ?_ l
  intro l ih
  match l with
  | [] => rw [qdec_nil]; simp
  | c :: r =>
    rw [qdec_cons]
    have := ih (r.drop ((qStep c r).2 - 1)) (by rw [List.length_drop, List.length_cons]; omega)
    rw [List.length_drop] at this
    simp only [List.length_cons]; omega
theorem qdec_round {T acc : List UInt8} {c : UInt8} {r L : List UInt8} (h : acc ++ qdec L = T) (hc : L = c :: r) : (acc ++ [(qStep c r).1]) ++ qdec (L.drop (qStep c r).2) = T := by
  subst hc
  rw [← h, qdec_cons, List.append_assoc]
  have hle := qStep_le c r
  obtain ⟨n, hn⟩ : ∃ n, (qStep c r).2 = n + 1 := ⟨(qStep c r).2 - 1, by omega⟩
  rw [hn, List.drop_succ_cons, Nat.add_sub_cancel]; rfl

/-! ### an encoded word -/
/-- the kind of the alphabet that is named; 0: that may not be, or is not known -/
def labelK (a : List UInt8) : Nat := if a.length ≤ 40 ∧ noWs a = true then kindL (beforeC 42 a) else 0
/-- the bytes that a text stands for by its letter -/
def bytesO (x t : List UInt8) : Option (List UInt8) :=
  if noWs t = true then (if x = [66] ∨ x = [98] then some (decB t) else if x = [81] ∨ x = [113] then some (qdec t) else none) else none
/-- the encoded word that a text begins with -/
def oneL (l : List UInt8) : Option (List UInt8 × Nat) :=
  if l.take 2 = [61, 63] ∧ (afterC 63 (afterC 63 (afterC 63 (l.drop 2)))).take 1 = [61] ∧ labelK (beforeC 63 (l.drop 2)) ≠ 0 then
    (bytesO (beforeC 63 (afterC 63 (l.drop 2))) (beforeC 63 (afterC 63 (afterC 63 (l.drop 2))))).map fun b => (decodeL (labelK (beforeC 63 (l.drop 2))) b, l.length - ((afterC 63 (afterC 63 (afterC 63 (l.drop 2)))).length - 1))
  else none
def oneT (l : List UInt8) : List UInt8 := (oneL l).elim [] (·.1)
def oneN (l : List UInt8) : Nat := (oneL l).elim 0 (·.2)

theorem cut_here (c : UInt8) (a r : List UInt8) (h : c ∉ a) : beforeC c (a ++ c :: r) = a ∧ afterC c (a ++ c :: r) = r := by
  have hl : a.length < (a ++ c :: r).length := by simp
  have := cut_at c (a ++ c :: r) a.length hl (by rw [List.getElem_append_right (Nat.le_refl _)]; simp) (fun j hj => by
    rw [List.getElem_append_left hj]; intro e; exact h (e ▸ List.getElem_mem hj))
  exact ⟨by rw [this.2.1, List.take_left], by rw [this.2.2]; simp [List.drop_append]⟩
/-- the word of three parts, and what is behind it -/
def wordF (a x t r : List UInt8) : List UInt8 := [61, 63] ++ (a ++ 63 :: (x ++ 63 :: (t ++ 63 :: 61 :: r)))
theorem one_form (a x t r : List UInt8) (ha : (63 : UInt8) ∉ a) (hx : (63 : UInt8) ∉ x) (ht : (63 : UInt8) ∉ t) :
    oneL (wordF a x t r) = if labelK a = 0 then none else (bytesO x t).map fun b => (decodeL (labelK a) b, a.length + x.length + t.length + 6) := by
  have e0 : (wordF a x t r).drop 2 = a ++ 63 :: (x ++ 63 :: (t ++ 63 :: 61 :: r)) := rfl
  have e1 : (wordF a x t r).take 2 = [61, 63] := rfl
  obtain ⟨a1, a2⟩ := cut_here 63 a (x ++ 63 :: (t ++ 63 :: 61 :: r)) ha
  obtain ⟨x1, x2⟩ := cut_here 63 x (t ++ 63 :: 61 :: r) hx
  obtain ⟨t1, t2⟩ := cut_here 63 t (61 :: r) ht
  have hlen : (wordF a x t r).length - ((61 :: r).length - 1) = a.length + x.length + t.length + 6 := by
    simp [wordF]; omega
  unfold oneL
  rw [e0, e1, a1, a2, x1, x2, t1, t2, hlen]
  by_cases hk : labelK a = 0
  · rw [if_pos hk, if_neg (fun h => h.2.2 hk)]
  · rw [if_neg hk, if_pos ⟨rfl, rfl, hk⟩]
theorem labelK_nil : labelK [] = 0 := by decide +kernel
theorem noWs_app (a b : List UInt8) : noWs (a ++ b) = (noWs a && noWs b) := by simp [noWs]
theorem one_some {l : List UInt8} {g : List UInt8} {n : Nat} (h : oneL l = some (g, n)) :
    ∃ a x t r, l = wordF a x t r ∧ (63 : UInt8) ∉ a ∧ (63 : UInt8) ∉ x ∧ (63 : UInt8) ∉ t ∧ labelK a ≠ 0 ∧ n = a.length + x.length + t.length + 6 ∧ ∃ b, bytesO x t = some b ∧ g = decodeL (labelK a) b := by
  unfold oneL at h
  split at h
  · rename_i hc
    obtain ⟨h1, h2, h3⟩ := hc
    have hl : l = [61, 63] ++ l.drop 2 := by conv => lhs; rw [← List.take_append_drop 2 l, h1]
    rcases cut_case 63 (l.drop 2) with ⟨_, _, e⟩ | ⟨a, r1, e1, ha, b1, c1⟩
    · rw [e] at h2; exact absurd h2 (by decide)
    · rcases cut_case 63 r1 with ⟨_, _, e⟩ | ⟨x, r2, e2, hx, b2, c2⟩
      · rw [c1, e] at h2; exact absurd h2 (by decide)
      · rcases cut_case 63 r2 with ⟨_, _, e⟩ | ⟨t, r3, e3, ht, b3, c3⟩
        · rw [c1, c2, e] at h2; exact absurd h2 (by decide)
        · rw [c1, c2, c3] at h2
          match r3, h2 with
          | z :: r, h2 =>
            have hz : z = 61 := by simpa using h2
            subst hz
            have hw : l = wordF a x t r := by rw [hl, e1, e2, e3]; rfl
            refine ⟨a, x, t, r, hw, ha, hx, ht, by rw [← b1]; exact h3, ?_⟩
            rw [b1, c1, c2, c3, b2, b3] at h
            cases hb : bytesO x t with
            | none => rw [hb] at h; cases h
            | some b =>
              rw [hb] at h
              simp only [Option.map_some, Option.some.injEq, Prod.mk.injEq] at h
              refine ⟨?_, b, rfl, h.1.symm⟩
              rw [← h.2, hw]; simp [wordF]; omega
  · cases h
theorem one_pos {l : List UInt8} (h : oneN l ≠ 0) : oneL l = some (oneT l, oneN l) ∧ oneN l ≤ l.length ∧ 6 ≤ oneN l := by
  unfold oneN oneT at *
  cases ho : oneL l with
  | none => rw [ho] at h; exact absurd rfl h
  | some p =>
    obtain ⟨g, n⟩ := p
    obtain ⟨a, x, t, r, hw, _, _, _, _, hn, _⟩ := one_some ho
    refine ⟨rfl, ?_, ?_⟩
    · show n ≤ l.length
      rw [hn, hw]; simp [wordF]; omega
    · show 6 ≤ n
      omega
theorem one_zero {l : List UInt8} (h : oneN l = 0) : oneL l = none ∧ oneT l = [] := by
  unfold oneN oneT at *
  cases ho : oneL l with
  | none => exact ⟨rfl, rfl⟩
  | some p =>
    obtain ⟨g, n⟩ := p
    obtain ⟨a, x, t, r, _, _, _, _, _, hn, _⟩ := one_some ho
    rw [ho] at h
    have : n = 0 := h
    omega
theorem one_begin {l : List UInt8} (h : oneN l ≠ 0) : l.take 2 = [61, 63] := by
  obtain ⟨ho, _⟩ := one_pos h
  obtain ⟨a, x, t, r, hw, _⟩ := one_some ho
  rw [hw]; rfl
theorem one_none {l : List UInt8} (h : l.take 2 ≠ [61, 63]) : oneN l = 0 := by
  by_cases hn : oneN l = 0
  · exact hn
  · exact absurd (one_begin hn) h
/-- a word is told by its own bytes -/
theorem one_local {l t : List UInt8} (h : oneN l ≠ 0) (ht : oneN l = l.length) : oneN (l ++ t) = oneN l ∧ oneT (l ++ t) = oneT l := by
  obtain ⟨ho, _⟩ := one_pos h
  obtain ⟨a, x, y, r, hw, h1, h2, h3, h4, hn, b, hb, hg⟩ := one_some ho
  have hr : r = [] := by
    apply List.eq_nil_of_length_eq_zero
    have := congrArg List.length hw
    simp [wordF] at this
    omega
  subst hr
  have e : l ++ t = wordF a x y t := by rw [hw]; simp [wordF]
  have h5 := one_form a x y t h1 h2 h3
  rw [if_neg h4, hb] at h5
  constructor
  · show (oneL (l ++ t)).elim 0 (·.2) = _
    rw [e, h5, hn]; rfl
  · show (oneL (l ++ t)).elim [] (·.1) = _
    rw [e, h5, hg]; rfl
theorem beforeC_le (c : UInt8) (l : List UInt8) : (beforeC c l).length ≤ l.length := (List.takeWhile_sublist _).length_le
theorem bytesO_length {x t b : List UInt8} (h : bytesO x t = some b) : b.length ≤ t.length := by
  unfold bytesO at h
  split at h
  · split at h
    · rw [← Option.some.inj h]; have := decB_len t; omega
    · split at h
      · rw [← Option.some.inj h]; exact qdec_length t
      · cases h
  · cases h
theorem oneT_length (l : List UInt8) : (oneT l).length ≤ 3 * oneN l := by
  by_cases h : oneN l = 0
  · rw [(one_zero h).2, h]; simp
  · obtain ⟨ho, _⟩ := one_pos h
    obtain ⟨a, x, t, r, hw, _, _, _, _, hn, b, hb, hg⟩ := one_some ho
    have h1 := decodeL_length (labelK a) b
    have h2 := bytesO_length hb
    rw [hg, hn]; omega
theorem oneT_whole (l : List UInt8) : allWhole (oneT l) = true := by
  by_cases h : oneN l = 0
  · rw [(one_zero h).2]; exact allWhole_nil
  · obtain ⟨ho, _⟩ := one_pos h
    obtain ⟨a, x, t, r, hw, _, _, _, _, hn, b, hb, hg⟩ := one_some ho
    rw [hg]; exact decodeL_whole _ _

/-! ### a text, read -/
def decW (behind : Bool) (piece l : List UInt8) : List UInt8 :=
  if h : l = [] then validL piece
  else if oneN l = 0 then decW behind (piece ++ l.take 1) (l.drop 1)
  else (if behind && allWs piece then [] else validL piece) ++ (oneT l ++ decW true [] (l.drop (oneN l)))
termination_by l.length
decreasing_by
  · have := List.length_pos_iff.2 h; rw [List.length_drop]; omega
  · have := List.length_pos_iff.2 h; rw [List.length_drop]; omega
theorem decW_nil (b : Bool) (p : List UInt8) : decW b p [] = validL p := by rw [decW]; simp
theorem decW_go {b : Bool} {p l : List UInt8} (h : l ≠ []) (h0 : oneN l = 0) : decW b p l = decW b (p ++ l.take 1) (l.drop 1) := by
  rw [decW, dif_neg h, if_pos h0]
theorem decW_word {b : Bool} {p l : List UInt8} (h0 : oneN l ≠ 0) : decW b p l = (if b && allWs p then [] else validL p) ++ (oneT l ++ decW true [] (l.drop (oneN l))) := by
  have hl : l ≠ [] := by
    rintro rfl
    have := (one_pos h0).2
    simp at this; omega
  rw [decW, dif_neg hl, if_neg h0]
theorem whole_append {a : List UInt8} (b : List UInt8) (h : allWhole a = true) : allWhole (a ++ b) = allWhole b := by
  revert h
  refine list_ind (p := fun a => allWhole a = true → allWhole (a ++ b) = allWhole b) ?_ a
  intro a ih h
  by_cases ha : a = []
  · subst ha; rfl
  · by_cases hz : wholeN a = 0
    · rw [allWhole_zero hz ha] at h; cases h
    · rw [allWhole_pos hz] at h
      have hw := wholeN_le a
      have e : a ++ b = a.take (wholeN a) ++ (a.drop (wholeN a) ++ b) := by rw [← List.append_assoc, List.take_append_drop]
      have h1 := whole_local a (a.drop (wholeN a) ++ b) (by omega)
      rw [← ih (a.drop (wholeN a)) (by rw [List.length_drop]; omega) h, e]
      exact allWhole_app (by rw [h1, List.length_take]; omega) (by intro e; have := congrArg List.length e; rw [List.length_take, List.length_nil] at this; omega)
theorem decW_whole (b : Bool) (p l : List UInt8) : allWhole (decW b p l) = true := by
  revert b p
  refine list_ind (p := fun l => ∀ b p, allWhole (decW b p l) = true) ?_ l
  intro l ih b p
  by_cases hl : l = []
  · subst hl; rw [decW_nil]; exact allWhole_valid p
  · have hl' := List.length_pos_iff.2 hl
    by_cases h0 : oneN l = 0
    · rw [decW_go hl h0]; exact ih _ (by rw [List.length_drop]; omega) _ _
    · rw [decW_word h0]
      have h1 := ih (l.drop (oneN l)) (by rw [List.length_drop]; omega) true []
      have h2 : allWhole (oneT l ++ decW true [] (l.drop (oneN l))) = true := by rw [whole_append _ (oneT_whole l)]; exact h1
      split
      · exact h2
      · rw [whole_append _ (allWhole_valid p)]; exact h2
theorem decW_length (b : Bool) (p l : List UInt8) : (decW b p l).length ≤ 3 * (p.length + l.length) := by
  revert b p
  refine list_ind (p := fun l => ∀ b p, (decW b p l).length ≤ 3 * (p.length + l.length)) ?_ l
  intro l ih b p
  by_cases hl : l = []
  · subst hl; rw [decW_nil]; have := validL_length p; simp; omega
  · have hl' := List.length_pos_iff.2 hl
    by_cases h0 : oneN l = 0
    · rw [decW_go hl h0]
      have := ih (l.drop 1) (by rw [List.length_drop]; omega) b (p ++ l.take 1)
      rw [List.length_drop, List.length_append, List.length_take] at this
      omega
    · rw [decW_word h0]
      have h1 := ih (l.drop (oneN l)) (by rw [List.length_drop]; omega) true []
      have h2 := oneT_length l
      have h3 := (one_pos h0).2.1
      have h4 := validL_length p
      rw [List.length_drop] at h1
      simp only [List.length_nil] at h1
      split
      · simp only [List.length_append, List.length_nil]; omega
      · simp only [List.length_append]; omega
/-- what has no sign of a word is one piece -/
theorem decW_plain (b : Bool) (p l : List UInt8) (h : ∀ i, ((l.drop i).take 2) ≠ [61, 63]) : decW b p l = validL (p ++ l) := by
  revert b p h
  refine list_ind (p := fun l => ∀ b p, (∀ i, ((l.drop i).take 2) ≠ [61, 63]) → decW b p l = validL (p ++ l)) ?_ l
  intro l ih b p h
  by_cases hl : l = []
  · subst hl; rw [decW_nil, List.append_nil]
  · have hl' := List.length_pos_iff.2 hl
    rw [decW_go hl (one_none (by have := h 0; rwa [List.drop_zero] at this)), ih (l.drop 1) (by rw [List.length_drop]; omega) b _ (fun i => by rw [List.drop_drop]; exact h _)]
    rw [List.append_assoc, List.take_append_drop]
end Go.Proofs.YtgokefodmjhhiaaGreatDoor

/- What package word writes, as functions on lists of bytes: groups of whole signs, their words, and that these are read back. No statement is proved here. -/
namespace Go.Proofs.YtgokefodmjhhiaaGreatDoor
set_option linter.unusedVariables false
set_option linter.unusedSimpArgs false

theorem whole_first {l : List UInt8} (h : wholeN l ≠ 0) : contB (l.getD 0 0) = false ∧ ∀ p, 0 < p → p < wholeN l → contB (l.getD p 0) = true := by
  have nc : ∀ a : UInt8, (a.toNat < 128 ∨ 192 ≤ a.toNat) → contB a = false := fun a ha => by
    cases hc : contB a with
    | false => rfl
    | true => have := (contB_iff a).1 hc; omega
  rcases whole_cases l with e | ⟨a, r, rfl, h1, e⟩ | ⟨a, b, r, rfl, h1, h2, h3, h4, e⟩ | ⟨a, b, c, r, rfl, h1, h2, h3, h4, h5, h6, e⟩ | ⟨a, b, c, d, r, rfl, h1, h2, h3, h4, h5, h6, h7, e⟩
  · exact absurd e h
  · rw [e]; exact ⟨nc a (.inl h1), fun p h0 h1 => by omega⟩
  · rw [e]; exact ⟨nc a (.inr h1), fun p h0 h1 => by
      obtain rfl : p = 1 := by omega
      exact h3⟩
  · rw [e]; exact ⟨nc a (.inr (by omega)), fun p h0 h1 => by
      obtain rfl | rfl : p = 1 ∨ p = 2 := by omega
      · exact h3
      · exact h4⟩
  · rw [e]; exact ⟨nc a (.inr (by omega)), fun p h0 h1 => by
      obtain rfl | rfl | rfl : p = 1 ∨ p = 2 ∨ p = 3 := by omega
      · exact h3
      · exact h4
      · exact h5⟩
theorem allWhole_ne {l : List UInt8} (h : allWhole l = true) (hl : l ≠ []) : wholeN l ≠ 0 := fun e => by rw [allWhole_zero e hl] at h; cases h
theorem allWhole_step {l : List UInt8} (h : allWhole l = true) : allWhole (l.drop (wholeN l)) = true := by
  by_cases hz : wholeN l = 0
  · rw [hz, List.drop_zero]; exact h
  · rw [← allWhole_pos hz]; exact h

/-- how many bytes the whole signs ahead have that have at most so many -/
def groupN (room : Nat) (l : List UInt8) : Nat := if h : wholeN l = 0 ∨ room < wholeN l then 0 else wholeN l + groupN (room - wholeN l) (l.drop (wholeN l))
termination_by l.length
decreasing_by
  have := wholeN_le l
  rw [List.length_drop]; omega
theorem group_stop {room : Nat} {l : List UInt8} (h : wholeN l = 0 ∨ room < wholeN l) : groupN room l = 0 := by rw [groupN, dif_pos h]
theorem group_go {room : Nat} {l : List UInt8} (h : wholeN l ≠ 0) (h' : wholeN l ≤ room) : groupN room l = wholeN l + groupN (room - wholeN l) (l.drop (wholeN l)) := by
  rw [groupN, dif_neg (by omega)]
theorem group_le (room : Nat) (l : List UInt8) : groupN room l ≤ room ∧ groupN room l ≤ l.length := by
  revert room
  refine list_ind (p := fun l => ∀ room, groupN room l ≤ room ∧ groupN room l ≤ l.length) ?_ l
  intro l ih room
  by_cases h : wholeN l = 0 ∨ room < wholeN l
  · rw [group_stop h]; omega
  · have hw := wholeN_le l
    have := ih (l.drop (wholeN l)) (by rw [List.length_drop]; omega) (room - wholeN l)
    rw [List.length_drop] at this
    rw [group_go (by omega) (by omega)]; omega
theorem group_whole (room : Nat) (l : List UInt8) (h : allWhole l = true) : allWhole (l.drop (groupN room l)) = true ∧ allWhole (l.take (groupN room l)) = true := by
  revert room h
  refine list_ind (p := fun l => ∀ room, allWhole l = true → allWhole (l.drop (groupN room l)) = true ∧ allWhole (l.take (groupN room l)) = true) ?_ l
  intro l ih room h
  by_cases hc : wholeN l = 0 ∨ room < wholeN l
  · rw [group_stop hc]; exact ⟨h, allWhole_nil⟩
  · have hw := wholeN_le l
    have := ih (l.drop (wholeN l)) (by rw [List.length_drop]; omega) (room - wholeN l) (allWhole_step h)
    rw [group_go (by omega) (by omega), ← List.drop_drop, List.take_add]
    refine ⟨this.1, ?_⟩
    have h1 := whole_local l ((l.drop (wholeN l)).take (groupN (room - wholeN l) (l.drop (wholeN l)))) (by omega)
    rw [allWhole_app (by rw [h1, List.length_take]; omega) (by intro e; have := congrArg List.length e; rw [List.length_take, List.length_nil] at this; omega)]
    exact this.2
theorem group_pos {room : Nat} {l : List UInt8} (hr : 4 ≤ room) (h : allWhole l = true) (hl : l ≠ []) : 0 < groupN room l := by
  have hz := allWhole_ne h hl
  have hw := wholeN_le l
  rw [group_go hz (by omega)]; omega
theorem group_all' (l : List UInt8) : ∀ room, allWhole l = true → l.length ≤ room → groupN room l = l.length := by
  refine list_ind (p := fun l => ∀ room, allWhole l = true → l.length ≤ room → groupN room l = l.length) ?_ l
  intro l ih room h hr
  by_cases hl : l = []
  · subst hl; rw [group_stop (.inl rfl)]; rfl
  · have hz := allWhole_ne h hl
    have hw := wholeN_le l
    rw [group_go hz (by omega), ih _ (by rw [List.length_drop]; omega) _ (allWhole_step h) (by rw [List.length_drop]; omega), List.length_drop]; omega
theorem group_all {room : Nat} {l : List UInt8} (h : allWhole l = true) (hr : l.length ≤ room) : groupN room l = l.length := group_all' l room h hr
/-- where a group ends a sign begins, and up to its room no other one -/
theorem group_cont' (l : List UInt8) : ∀ room, allWhole l = true → room < l.length →
    contB (l.getD (groupN room l) 0) = false ∧ ∀ p, groupN room l < p → p ≤ room → contB (l.getD p 0) = true := by
  refine list_ind (p := fun l => ∀ room, allWhole l = true → room < l.length → contB (l.getD (groupN room l) 0) = false ∧ ∀ p, groupN room l < p → p ≤ room → contB (l.getD p 0) = true) ?_ l
  intro l ih room h hr
  have hl : l ≠ [] := by rintro rfl; simp at hr
  have hz := allWhole_ne h hl
  have hw := wholeN_le l
  have hf := whole_first hz
  by_cases hc : room < wholeN l
  · rw [group_stop (.inr hc)]
    exact ⟨hf.1, fun p h0 h1 => hf.2 p h0 (by omega)⟩
  · have hi := ih (l.drop (wholeN l)) (by rw [List.length_drop]; omega) (room - wholeN l) (allWhole_step h) (by rw [List.length_drop]; omega)
    have hg : ∀ q, (l.drop (wholeN l)).getD q 0 = l.getD (wholeN l + q) 0 := fun q => by
      simp only [List.getD_eq_getElem?_getD, List.getElem?_drop]
    rw [group_go hz (by omega)]
    refine ⟨by rw [← hg]; exact hi.1, fun p h0 h1 => ?_⟩
    have := hi.2 (p - wholeN l) (by omega) (by omega)
    rw [hg, Nat.add_sub_cancel' (by omega)] at this
    exact this

theorem group_cont {room : Nat} {l : List UInt8} (h : allWhole l = true) (hr : room < l.length) :
    contB (l.getD (groupN room l) 0) = false ∧ ∀ p, groupN room l < p → p ≤ room → contB (l.getD p 0) = true := group_cont' l room h hr

/-! ### words -/
def wordL (g : List UInt8) : List UInt8 := wordF [117, 116, 102, 45, 56] [66] (encB g) []
theorem wordL_eq (g : List UInt8) : wordL g = [61, 63, 117, 116, 102, 45, 56, 63, 66, 63] ++ encB g ++ [63, 61] := by simp [wordL, wordF]
theorem wordL_app (g r : List UInt8) : wordL g ++ r = wordF [117, 116, 102, 45, 56] [66] (encB g) r := by simp [wordL, wordF]
theorem wordL_length (g : List UInt8) : (wordL g).length = 12 + (encB g).length := by rw [wordL_eq]; simp; omega
theorem letter_sign (n : Nat) (h : n < 64) : 33 ≤ (letter n).toNat ∧ (letter n).toNat ≤ 126 ∧ letter n ≠ 63 := by
  have : ∀ n, n < 64 → 33 ≤ (letter n).toNat ∧ (letter n).toNat ≤ 126 ∧ letter n ≠ 63 := by decide +kernel
  exact this n h
theorem encFrom_signs (l : List UInt8) : ∀ h w, (h = 0 ∨ (h = 2 ∧ w < 4) ∨ (h = 4 ∧ w < 16)) → ∀ c ∈ encFrom h w l, 33 ≤ c.toNat ∧ c.toNat ≤ 126 ∧ c ≠ 63 := by
  have h61 : 33 ≤ (61 : UInt8).toNat ∧ (61 : UInt8).toNat ≤ 126 ∧ (61 : UInt8) ≠ 63 := by decide
  induction l with
  | nil =>
    intro h w hh c hc
    rcases hh with rfl | ⟨rfl, hw⟩ | ⟨rfl, hw⟩
    · simp [encFrom] at hc
    · simp [encFrom] at hc
      rcases hc with rfl | rfl
      · exact letter_sign _ (by omega)
      · exact h61
    · simp [encFrom] at hc
      rcases hc with rfl | rfl
      · exact letter_sign _ (by omega)
      · exact h61
  | cons a r ih =>
    intro h w hh c hc
    have ha := a.toNat_lt
    rcases hh with rfl | ⟨rfl, hw⟩ | ⟨rfl, hw⟩
    · rw [encFrom, if_pos rfl] at hc
      rcases List.mem_cons.1 hc with rfl | hc
      · exact letter_sign _ (by omega)
      · exact ih 2 _ (.inr (.inl ⟨rfl, by omega⟩)) c hc
    · rw [encFrom, if_neg (by omega), if_pos rfl] at hc
      rcases List.mem_cons.1 hc with rfl | hc
      · exact letter_sign _ (by omega)
      · exact ih 4 _ (.inr (.inr ⟨rfl, by omega⟩)) c hc
    · rw [encFrom, if_neg (by omega), if_neg (by omega)] at hc
      rcases List.mem_cons.1 hc with rfl | hc
      · exact letter_sign _ (by omega)
      · rcases List.mem_cons.1 hc with rfl | hc
        · exact letter_sign _ (by omega)
        · exact ih 0 0 (.inl rfl) c hc
theorem encB_signs (l : List UInt8) : ∀ c ∈ encB l, 33 ≤ c.toNat ∧ c.toNat ≤ 126 ∧ c ≠ 63 := encFrom_signs l 0 0 (.inl rfl)
theorem noWs_signs {l : List UInt8} (h : ∀ c ∈ l, 33 ≤ c.toNat) : noWs l = true := by
  rw [noWs, List.all_eq_true]
  intro c hc
  have := h c hc
  have : ∀ c : UInt8, 33 ≤ c.toNat → (!wsB c) = true := u8_all (p := fun c => 33 ≤ c.toNat → (!wsB c) = true) (by decide +kernel)
  exact this c (h c hc)
theorem labelK_utf8 : labelK [117, 116, 102, 45, 56] = 1 := by decide +kernel
/-- a word is read as its group -/
theorem word_one (g r : List UInt8) (h : allWhole g = true) : oneN (wordL g ++ r) = (wordL g).length ∧ oneT (wordL g ++ r) = g := by
  have hs := encB_signs g
  have h1 := one_form [117, 116, 102, 45, 56] [66] (encB g) r (by decide) (by decide) (fun hm => (hs 63 hm).2.2 rfl)
  have hb : bytesO [66] (encB g) = some g := by
    unfold bytesO
    rw [if_pos (noWs_signs fun c hc => (hs c hc).1), if_pos (.inl rfl), decB_encB]
  rw [if_neg (by rw [labelK_utf8]; decide), hb, labelK_utf8] at h1
  have hd : decodeL 1 g = g := by
    show validL g = g
    exact valid_whole g h
  constructor
  · show (oneL (wordL g ++ r)).elim 0 (·.2) = _
    rw [wordL_app, h1, wordL_length]
    show 5 + 1 + (encB g).length + 6 = _
    omega
  · show (oneL (wordL g ++ r)).elim [] (·.1) = _
    rw [wordL_app, h1]
    exact hd

/-! ### the document's way -/
def encW (some l : List UInt8) : List UInt8 :=
  if h : wholeN l = 0 then wordL some
  else if 30 < some.length + wholeN l then wordL some ++ 32 :: encW (l.take (wholeN l)) (l.drop (wholeN l))
  else encW (some ++ l.take (wholeN l)) (l.drop (wholeN l))
termination_by l.length
decreasing_by
  all_goals
    have := wholeN_le l
    rw [List.length_drop]; omega
theorem encW_end {p l : List UInt8} (h : wholeN l = 0) : encW p l = wordL p := by rw [encW, dif_pos h]
theorem encW_new {p l : List UInt8} (h : wholeN l ≠ 0) (h' : 30 < p.length + wholeN l) : encW p l = wordL p ++ 32 :: encW (l.take (wholeN l)) (l.drop (wholeN l)) := by
  rw [encW, dif_neg h, if_pos h']
theorem encW_go {p l : List UInt8} (h : wholeN l ≠ 0) (h' : ¬ 30 < p.length + wholeN l) : encW p l = encW (p ++ l.take (wholeN l)) (l.drop (wholeN l)) := by
  rw [encW, dif_neg h, if_neg h']
/-! ### the program's way -/
def groups (l : List UInt8) : List (List UInt8) := if h : groupN 30 l = 0 then [] else l.take (groupN 30 l) :: groups (l.drop (groupN 30 l))
termination_by l.length
decreasing_by
  have := group_le 30 l
  rw [List.length_drop]; omega
theorem groups_end {l : List UInt8} (h : groupN 30 l = 0) : groups l = [] := by rw [groups, dif_pos h]
theorem groups_go {l : List UInt8} (h : groupN 30 l ≠ 0) : groups l = l.take (groupN 30 l) :: groups (l.drop (groupN 30 l)) := by rw [groups, dif_neg h]
theorem groups_nil : groups [] = [] := groups_end (group_stop (.inl rfl))
def joinW : List (List UInt8) → List UInt8
  | [] => []
  | [g] => wordL g
  | g :: r => wordL g ++ 32 :: joinW r
theorem encW_groups (l : List UInt8) : ∀ p : List UInt8, p.length ≤ 30 → allWhole l = true →
    encW p l = if l.drop (groupN (30 - p.length) l) = [] then wordL (p ++ l) else wordL (p ++ l.take (groupN (30 - p.length) l)) ++ 32 :: encW [] (l.drop (groupN (30 - p.length) l)) := by
  refine list_ind (p := fun l => ∀ p : List UInt8, p.length ≤ 30 → allWhole l = true →
    encW p l = if l.drop (groupN (30 - p.length) l) = [] then wordL (p ++ l) else wordL (p ++ l.take (groupN (30 - p.length) l)) ++ 32 :: encW [] (l.drop (groupN (30 - p.length) l))) ?_ l
  intro l ih p hp h
  by_cases hl : l = []
  · subst hl
    rw [if_pos (List.drop_nil), List.append_nil]; exact encW_end rfl
  · have hz := allWhole_ne h hl
    have hw := wholeN_le l
    by_cases hc : 30 < p.length + wholeN l
    · rw [group_stop (.inr (by omega)), List.drop_zero, if_neg hl, List.take_zero, List.append_nil, encW_new hz hc]
      conv => rhs; rw [encW_go (p := []) hz (by simp; omega)]
      rfl
    · rw [encW_go hz hc, ih (l.drop (wholeN l)) (by rw [List.length_drop]; omega) _ (by rw [List.length_append, List.length_take]; omega) (allWhole_step h)]
      have e : 30 - (p ++ l.take (wholeN l)).length = 30 - p.length - wholeN l := by rw [List.length_append, List.length_take]; omega
      rw [e, group_go (room := 30 - p.length) hz (by omega), ← List.drop_drop, List.take_add]
      rw [List.append_assoc, List.append_assoc, List.take_append_drop]
theorem encW_join (l : List UInt8) : allWhole l = true → l ≠ [] → encW [] l = joinW (groups l) := by
  refine list_ind (p := fun l => allWhole l = true → l ≠ [] → encW [] l = joinW (groups l)) ?_ l
  intro l ih h hl
  have hg := group_pos (room := 30) (by omega) h hl
  have hle := group_le 30 l
  rw [encW_groups l [] (by simp) h, groups_go (by omega)]
  show (if l.drop (groupN 30 l) = [] then wordL l else wordL (l.take (groupN 30 l)) ++ 32 :: encW [] (l.drop (groupN 30 l))) = _
  by_cases hd : l.drop (groupN 30 l) = []
  · rw [if_pos hd, hd, groups_nil]
    have := List.take_append_drop (groupN 30 l) l
    rw [hd, List.append_nil] at this
    rw [this]; rfl
  · rw [if_neg hd, ih _ (by rw [List.length_drop]; omega) (group_whole 30 l h).1 hd]
    have hg2 := group_pos (room := 30) (by omega) (group_whole 30 l h).1 hd
    rw [groups_go (l := l.drop (groupN 30 l)) (by omega)]; rfl
/-- what is written is read -/
theorem dec_ws (b : Bool) (p l : List UInt8) (c : UInt8) (h : c ≠ 61) : decW b p (c :: l) = decW b (p ++ [c]) l :=
  decW_go (by simp) (one_none (by
    intro e
    have := congrArg (·.head?) e
    simp at this
    exact h this))
theorem back_groups (l : List UInt8) : allWhole l = true → l ≠ [] → decW false [] (joinW (groups l)) = l ∧ decW true [32] (joinW (groups l)) = l := by
  refine list_ind (p := fun l => allWhole l = true → l ≠ [] → decW false [] (joinW (groups l)) = l ∧ decW true [32] (joinW (groups l)) = l) ?_ l
  intro l ih h hl
  have hg := group_pos (room := 30) (by omega) h hl
  have hle := group_le 30 l
  have hw := group_whole 30 l h
  rw [groups_go (by omega)]
  by_cases hd : l.drop (groupN 30 l) = []
  · have e := List.take_append_drop (groupN 30 l) l
    rw [hd, List.append_nil] at e
    rw [hd, groups_nil, e]
    show decW false [] (wordL l) = l ∧ decW true [32] (wordL l) = l
    obtain ⟨h1, h2⟩ := word_one l [] h
    rw [List.append_nil] at h1 h2
    have h0 : oneN (wordL l) ≠ 0 := by rw [h1, wordL_length]; omega
    have hdr : (wordL l).drop (wordL l).length = [] := List.drop_length
    rw [decW_word h0, decW_word h0, h1, h2, hdr, decW_nil, validL_nil]
    constructor <;> simp [allWs, wsB, validL_nil]
  · have hg2 := group_pos (room := 30) (by omega) hw.1 hd
    obtain ⟨i1, i2⟩ := ih _ (by rw [List.length_drop]; omega) hw.1 hd
    have e : joinW (l.take (groupN 30 l) :: groups (l.drop (groupN 30 l))) = wordL (l.take (groupN 30 l)) ++ 32 :: joinW (groups (l.drop (groupN 30 l))) := by
      rw [groups_go (l := l.drop (groupN 30 l)) (by omega)]; rfl
    rw [e]
    obtain ⟨h1, h2⟩ := word_one (l.take (groupN 30 l)) (32 :: joinW (groups (l.drop (groupN 30 l)))) hw.2
    have h0 : oneN (wordL (l.take (groupN 30 l)) ++ 32 :: joinW (groups (l.drop (groupN 30 l)))) ≠ 0 := by rw [h1, wordL_length]; omega
    rw [decW_word h0, decW_word h0, h1, h2, List.drop_left, dec_ws _ _ _ _ (by decide)]
    show _ ++ (_ ++ decW true [32] _) = l ∧ _ ++ (_ ++ decW true [32] _) = l
    rw [i2, List.take_append_drop]
    constructor <;> simp [allWs, wsB, validL_nil]

/-! ### signs alone, and no word longer than 52 -/
theorem wordL_signs (g : List UInt8) : ∀ c ∈ wordL g, 33 ≤ c.toNat ∧ c.toNat ≤ 126 := by
  intro c hc
  rw [wordL_eq] at hc
  simp only [List.mem_append] at hc
  rcases hc with (hc | hc) | hc
  · have : ∀ c ∈ ([61, 63, 117, 116, 102, 45, 56, 63, 66, 63] : List UInt8), 33 ≤ c.toNat ∧ c.toNat ≤ 126 := by decide
    exact this c hc
  · exact ⟨(encB_signs g c hc).1, (encB_signs g c hc).2.1⟩
  · have : ∀ c ∈ ([63, 61] : List UInt8), 33 ≤ c.toNat ∧ c.toNat ≤ 126 := by decide
    exact this c hc
theorem joinW_signs (L : List (List UInt8)) : ∀ c ∈ joinW L, 32 ≤ c.toNat ∧ c.toNat ≤ 126 := by
  induction L with
  | nil => intro c hc; cases hc
  | cons g r ih =>
    intro c hc
    match r, ih, hc with
    | [], _, hc => have := wordL_signs g c hc; omega
    | q :: r, ih, hc =>
      rcases List.mem_append.1 (show c ∈ wordL g ++ 32 :: joinW (q :: r) from hc) with h | h
      · have := wordL_signs g c h; omega
      · rcases List.mem_cons.1 h with rfl | h
        · decide
        · exact ih c h
/-- no run without a blank has more than 52 bytes, where n are behind -/
def runOK (n : Nat) : List UInt8 → Bool
  | [] => true
  | c :: r => if c = 32 then runOK 0 r else decide (n + 1 ≤ 52) && runOK (n + 1) r
theorem run_signs (a : List UInt8) (h : ∀ c ∈ a, 33 ≤ c.toNat) : ∀ (n : Nat) (r : List UInt8), n + a.length ≤ 52 → (∀ m, m ≤ 52 → runOK m r = true) → runOK n (a ++ r) = true := by
  induction a with
  | nil => intro n r hn hr; exact hr n (by simpa using hn)
  | cons c a ih =>
    intro n r hn hr
    have hc : c ≠ 32 := by
      rintro rfl
      have := h 32 (List.mem_cons_self ..)
      exact absurd this (by decide)
    rw [List.length_cons] at hn
    rw [List.cons_append, runOK, if_neg hc, ih (fun x hx => h x (List.mem_cons_of_mem _ hx)) (n + 1) r (by omega) hr]
    simp; omega
theorem groups_le (l : List UInt8) : ∀ g ∈ groups l, g.length ≤ 30 := by
  refine list_ind (p := fun l => ∀ g ∈ groups l, g.length ≤ 30) ?_ l
  intro l ih g hg
  by_cases h : groupN 30 l = 0
  · rw [groups_end h] at hg; cases hg
  · rw [groups_go h] at hg
    have hle := group_le 30 l
    rcases List.mem_cons.1 hg with rfl | hg
    · rw [List.length_take]; omega
    · exact ih _ (by rw [List.length_drop]; omega) g hg
theorem run_join (L : List (List UInt8)) (h : ∀ g ∈ L, g.length ≤ 30) : runOK 0 (joinW L) = true := by
  induction L with
  | nil => rfl
  | cons g r ih =>
    have hg := h g (List.mem_cons_self ..)
    have hl : (wordL g).length ≤ 52 := by rw [wordL_length, encB_len]; omega
    have hr := ih (fun x hx => h x (List.mem_cons_of_mem _ hx))
    match r, hr with
    | [], _ =>
      have := run_signs (wordL g) (fun c hc => (wordL_signs g c hc).1) 0 [] (by omega) (fun m _ => rfl)
      rw [List.append_nil] at this; exact this
    | q :: r, hr =>
      exact run_signs (wordL g) (fun c hc => (wordL_signs g c hc).1) 0 (32 :: joinW (q :: r)) (by omega) (fun m _ => by rw [runOK, if_pos rfl]; exact hr)
theorem joinW_length (l : List UInt8) : (joinW (groups l)).length ≤ 53 * l.length := by
  refine list_ind (p := fun l => (joinW (groups l)).length ≤ 53 * l.length) ?_ l
  intro l ih
  by_cases h : groupN 30 l = 0
  · rw [groups_end h]; simp [joinW]
  · have hle := group_le 30 l
    have hi := ih (l.drop (groupN 30 l)) (by rw [List.length_drop]; omega)
    have hl : (wordL (l.take (groupN 30 l))).length ≤ 52 := by
      have : (l.take (groupN 30 l)).length ≤ 30 := by rw [List.length_take]; omega
      rw [wordL_length, encB_len]; omega
    rw [List.length_drop] at hi
    rw [groups_go h]
    cases hg : groups (l.drop (groupN 30 l)) with
    | nil => show (wordL _).length ≤ _; omega
    | cons q r =>
      rw [hg] at hi
      show (wordL (l.take (groupN 30 l)) ++ 32 :: joinW (q :: r)).length ≤ _
      rw [List.length_append, List.length_cons]; omega
end Go.Proofs.YtgokefodmjhhiaaGreatDoor

