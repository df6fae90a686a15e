/- More of the first texts of this claim in one: each with its own head. No statement is proved here. -/
import Derived.Test.YtiejmkjpgjbodaaGreatDoorBaseO
import Derived.Test.YtiejmkjpgjbodaaGreatDoorBaseN
import Derived.Test.YtiejmkjpgjbodaaGreatDoorBaseM
import Derived.Test.YtiejmkjpgjbodaaGreatDoorShelf
import Derived.Lib.Replace
import Derived.Defers
import Derived.Laws.Pointers
import Derived.Laws.LoneSync
import Derived.RegionTactic
import Derived.RegionCalls
import Derived.ChangeAlike
import Derived.Laws.NewBlocks
namespace Go.Proofs.YtiejmkjpgjbodaaGreatDoor
open Go.RowKit
set_option linter.unusedVariables false
set_option linter.unusedSimpArgs false
set_option maxRecDepth 100000
def numAt (b most : Nat) (l : List UInt8) : Option Int :=
  match parseU b l with
  | none => none
  | some n => if most < l.length then none else some (signN n)
def entV : Option Int → Value
  | some x => .tuple #[.int .i32 x, .bool true]
  | none => .tuple #[.int .i32 0, .bool false]
theorem parseB_lt {b : Nat} (hb : 0 < b) (l : List UInt8) : ∀ m n, parseB b m l = some n → n + 1 ≤ (m + 1) * b ^ l.length := by
  induction l with
  | nil => intro m n h; injection h with h; subst h; simp
  | cons c r ih =>
    intro m n h
    rw [parseB] at h
    unfold digB at h
    by_cases hd : dgV c < b
    · rw [if_pos hd] at h
      have h1 := ih _ _ h
      have h2 : m * b + dgV c + 1 ≤ (m + 1) * b := by rw [Nat.succ_mul]; omega
      have h3 := Nat.mul_le_mul_right (b ^ r.length) h2
      rw [List.length_cons, Nat.pow_succ, Nat.mul_comm (b ^ r.length) b, ← Nat.mul_assoc]
      exact Nat.le_trans h1 h3
    · rw [if_neg hd] at h; cases h
theorem parse_lt {b : Nat} {l : List UInt8} (hb : 0 < b) : ∀ n, parseU b l = some n → n < b ^ l.length := by
  intro n h
  unfold parseU at h
  split at h
  · cases h
  · have := parseB_lt hb l 0 n h
    rw [Nat.zero_add, Nat.one_mul] at this
    exact this
theorem pref_size {D : ByteArray} {c : UInt8} (h : Lib.hasPrefix D.data.toList [c] = true) : 1 ≤ D.size := by
  rw [← toList_length]
  cases hl : D.data.toList with
  | nil => rw [hl] at h; cases h
  | cons a r => exact Nat.succ_pos _
set_option maxHeartbeats 4000000 in
theorem byNumber_x (D : ByteArray) (ev : Value) (w : World) (hs : D.size ≤ 8) (p1 : Lib.hasPrefix D.data.toList [120] = true) (hT : Tab w) (hU : Lib.Utf8Tabs 4 5 w)
    (hv : w.cell? ⟨1, 0, none⟩ = some ev) (hev : ev = .nilIface ∨ ∃ te pe, ev = .iface te pe) :
    Calls Tryz.prog 146 #[.string D] w fun e w' => e = .returned (entV (numAt 16 6 (D.extract 1 D.size).data.toList)) ∧ Below w.heap.size w w' := by
  have z1 : 1 ≤ D.size := pref_size p1
  have k1 : (1 : Int) ≤ D.size := by omega
  have P1 : Hid (Lib.hasPrefix D.data.toList [120] = true) := hide p1
  have HT := hide hT
  have HTU := hide hU
  have HC := hide (fun w1 (hb : Below w.heap.size w w1) => parse16_any (D.extract 1 D.size) ev w1 (Nat.le_trans (by rw [ByteArray.size_extract]; omega) hs) ((hb.cell (p := ⟨1, 0, none⟩) (World.block_lt_of_cell? _ _ hv)).trans hv) hev)
  have tok1 : True := trivial
  have tok2 : True := trivial
  have hrl : (D.extract 1 D.size).size = (D.size - 1) := (by rw [ByteArray.size_extract]; omega)
  have HB0 := hide (parse_lt (b := 16) (l := (D.extract 1 D.size).data.toList) (by decide))
  cases hu : parseU 16 (D.extract 1 D.size).data.toList with
  | none =>
    have HU := hide hu
    have HR : Hid (numAt 16 6 (D.extract 1 D.size).data.toList = none) := hide (by unfold numAt; rw [hu])
    clear hu hT hU hv hev p1
    go_enter Tryz.func146, Tryz.ntmps146
    go_wp2_with (first
      | (go_at_call 65; have _t := tok1; refine (Tryz.strings_HasPrefix D ⟨#[120]⟩ _).mono ?_; rintro e w1 ⟨rfl, hw1⟩; obtain rfl := hw1.symm; rw [show (⟨#[120]⟩ : ByteArray).data.toList = [120] from rfl, P1.out]; clear tok1)
      | (go_at_call 170; refine (HC.out _ (Below.refl _ _)).mono ?_; rintro e w1 ⟨he, hb1⟩; rw [HU.out] at he; obtain ⟨N, rfl⟩ := he; have HB1 := hide hb1; clear hb1)
      | (go_at_call 171; refine (signOf_any _ _ HN31.out (HT.out.below HB1.out HT.out.lt) (tabs_kept HTU.out HB1.out)).mono ?_; rintro e w2 ⟨rfl, hb2⟩; have HB2 := hide (HB1.out.trans (hb2.mono HB1.out.size)); clear hb2))
    go_ret2
    exact ⟨by rw [HR.out]; rfl, HB1.out⟩
  | some n =>
    have HU := hide hu
    have hlt := HB0.out n hu
    rw [toList_length, hrl] at hlt
    by_cases hm : 6 < (D.size - 1)
    · have HR : Hid (numAt 16 6 (D.extract 1 D.size).data.toList = none) := hide (by unfold numAt; rw [hu]; simp only []; rw [toList_length, hrl, if_pos hm])
      have t1 : decide ((6 : Int) < ((D.extract 1 D.size).size : Int)) = true := decide_eq_true (by rw [hrl]; omega)
      have t2 : decide (6 < (D.extract 1 D.size).size) = true := decide_eq_true (by rw [hrl]; exact hm)
      have t3 : decide ((6 : Int) < (((D.size - 1) : Nat) : Int)) = true := decide_eq_true (by omega)
      have t4 : decide (6 < (D.size - 1)) = true := decide_eq_true hm
      clear hu hT hU hv hev p1 hlt hm hrl
      go_enter Tryz.func146, Tryz.ntmps146
      go_wp2_with (first
      | (go_at_call 65; have _t := tok1; refine (Tryz.strings_HasPrefix D ⟨#[120]⟩ _).mono ?_; rintro e w1 ⟨rfl, hw1⟩; obtain rfl := hw1.symm; rw [show (⟨#[120]⟩ : ByteArray).data.toList = [120] from rfl, P1.out]; clear tok1)
      | (go_at_call 170; refine (HC.out _ (Below.refl _ _)).mono ?_; rintro e w1 ⟨he, hb1⟩; rw [HU.out] at he; obtain rfl := he; have HB1 := hide hb1; clear hb1)
      | (go_at_call 171; refine (signOf_any _ _ HN31.out (HT.out.below HB1.out HT.out.lt) (tabs_kept HTU.out HB1.out)).mono ?_; rintro e w2 ⟨rfl, hb2⟩; have HB2 := hide (HB1.out.trans (hb2.mono HB1.out.size)); clear hb2))
      go_ret2
      exact ⟨by rw [HR.out]; rfl, HB1.out⟩
    · have HR : Hid (numAt 16 6 (D.extract 1 D.size).data.toList = some (signN n)) := hide (by unfold numAt; rw [hu]; simp only []; rw [toList_length, hrl, if_neg hm])
      have t1 : decide ((6 : Int) < ((D.extract 1 D.size).size : Int)) = false := decide_eq_false (by rw [hrl]; omega)
      have t2 : decide (6 < (D.extract 1 D.size).size) = false := decide_eq_false (by rw [hrl]; exact hm)
      have t3 : decide ((6 : Int) < (((D.size - 1) : Nat) : Int)) = false := decide_eq_false (by omega)
      have t4 : decide (6 < (D.size - 1)) = false := decide_eq_false hm
      have hn31 : n < 2147483648 := Nat.lt_of_lt_of_le hlt (Nat.le_trans (Nat.pow_le_pow_right (by decide) (by omega : (D.size - 1) ≤ 6)) (by decide))
      have HN31 := hide hn31
      have x1 : IntKind.i32.wrap (n : Int) = (n : Int) := IntWalk.i32_in _ (by omega)
      clear hu hT hU hv hev p1 hlt hm hrl hn31
      go_enter Tryz.func146, Tryz.ntmps146
      go_wp2_with (first
      | (go_at_call 65; have _t := tok1; refine (Tryz.strings_HasPrefix D ⟨#[120]⟩ _).mono ?_; rintro e w1 ⟨rfl, hw1⟩; obtain rfl := hw1.symm; rw [show (⟨#[120]⟩ : ByteArray).data.toList = [120] from rfl, P1.out]; clear tok1)
      | (go_at_call 170; refine (HC.out _ (Below.refl _ _)).mono ?_; rintro e w1 ⟨he, hb1⟩; rw [HU.out] at he; obtain rfl := he; have HB1 := hide hb1; clear hb1)
      | (go_at_call 171; refine (signOf_any _ _ HN31.out (HT.out.below HB1.out HT.out.lt) (tabs_kept HTU.out HB1.out)).mono ?_; rintro e w2 ⟨rfl, hb2⟩; have HB2 := hide (HB1.out.trans (hb2.mono HB1.out.size)); clear hb2))
      go_ret2
      exact ⟨by rw [HR.out]; rfl, HB2.out⟩
set_option maxHeartbeats 4000000 in
theorem byNumber_X (D : ByteArray) (ev : Value) (w : World) (hs : D.size ≤ 8) (p1 : Lib.hasPrefix D.data.toList [120] = false) (p2 : Lib.hasPrefix D.data.toList [88] = true) (hT : Tab w) (hU : Lib.Utf8Tabs 4 5 w)
    (hv : w.cell? ⟨1, 0, none⟩ = some ev) (hev : ev = .nilIface ∨ ∃ te pe, ev = .iface te pe) :
    Calls Tryz.prog 146 #[.string D] w fun e w' => e = .returned (entV (numAt 16 6 (D.extract 1 D.size).data.toList)) ∧ Below w.heap.size w w' := by
  have z1 : 1 ≤ D.size := pref_size p2
  have k1 : (1 : Int) ≤ D.size := by omega
  have P1 : Hid (Lib.hasPrefix D.data.toList [120] = false) := hide p1
  have P2 : Hid (Lib.hasPrefix D.data.toList [88] = true) := hide p2
  have HT := hide hT
  have HTU := hide hU
  have HC := hide (fun w1 (hb : Below w.heap.size w w1) => parse16_any (D.extract 1 D.size) ev w1 (Nat.le_trans (by rw [ByteArray.size_extract]; omega) hs) ((hb.cell (p := ⟨1, 0, none⟩) (World.block_lt_of_cell? _ _ hv)).trans hv) hev)
  have tok1 : True := trivial
  have tok2 : True := trivial
  have hrl : (D.extract 1 D.size).size = (D.size - 1) := (by rw [ByteArray.size_extract]; omega)
  have HB0 := hide (parse_lt (b := 16) (l := (D.extract 1 D.size).data.toList) (by decide))
  cases hu : parseU 16 (D.extract 1 D.size).data.toList with
  | none =>
    have HU := hide hu
    have HR : Hid (numAt 16 6 (D.extract 1 D.size).data.toList = none) := hide (by unfold numAt; rw [hu])
    clear hu hT hU hv hev p1 p2
    go_enter Tryz.func146, Tryz.ntmps146
    go_wp2_with (first
      | (go_at_call 65; have _t := tok1; refine (Tryz.strings_HasPrefix D ⟨#[120]⟩ _).mono ?_; rintro e w1 ⟨rfl, hw1⟩; obtain rfl := hw1.symm; rw [show (⟨#[120]⟩ : ByteArray).data.toList = [120] from rfl, P1.out]; clear tok1)
      | (go_at_call 65; have _t := tok2; refine (Tryz.strings_HasPrefix D ⟨#[88]⟩ _).mono ?_; rintro e w1 ⟨rfl, hw1⟩; obtain rfl := hw1.symm; rw [show (⟨#[88]⟩ : ByteArray).data.toList = [88] from rfl, P2.out]; clear tok2)
      | (go_at_call 170; refine (HC.out _ (Below.refl _ _)).mono ?_; rintro e w1 ⟨he, hb1⟩; rw [HU.out] at he; obtain ⟨N, rfl⟩ := he; have HB1 := hide hb1; clear hb1)
      | (go_at_call 171; refine (signOf_any _ _ HN31.out (HT.out.below HB1.out HT.out.lt) (tabs_kept HTU.out HB1.out)).mono ?_; rintro e w2 ⟨rfl, hb2⟩; have HB2 := hide (HB1.out.trans (hb2.mono HB1.out.size)); clear hb2))
    go_ret2
    exact ⟨by rw [HR.out]; rfl, HB1.out⟩
  | some n =>
    have HU := hide hu
    have hlt := HB0.out n hu
    rw [toList_length, hrl] at hlt
    by_cases hm : 6 < (D.size - 1)
    · have HR : Hid (numAt 16 6 (D.extract 1 D.size).data.toList = none) := hide (by unfold numAt; rw [hu]; simp only []; rw [toList_length, hrl, if_pos hm])
      have t1 : decide ((6 : Int) < ((D.extract 1 D.size).size : Int)) = true := decide_eq_true (by rw [hrl]; omega)
      have t2 : decide (6 < (D.extract 1 D.size).size) = true := decide_eq_true (by rw [hrl]; exact hm)
      have t3 : decide ((6 : Int) < (((D.size - 1) : Nat) : Int)) = true := decide_eq_true (by omega)
      have t4 : decide (6 < (D.size - 1)) = true := decide_eq_true hm
      clear hu hT hU hv hev p1 p2 hlt hm hrl
      go_enter Tryz.func146, Tryz.ntmps146
      go_wp2_with (first
      | (go_at_call 65; have _t := tok1; refine (Tryz.strings_HasPrefix D ⟨#[120]⟩ _).mono ?_; rintro e w1 ⟨rfl, hw1⟩; obtain rfl := hw1.symm; rw [show (⟨#[120]⟩ : ByteArray).data.toList = [120] from rfl, P1.out]; clear tok1)
      | (go_at_call 65; have _t := tok2; refine (Tryz.strings_HasPrefix D ⟨#[88]⟩ _).mono ?_; rintro e w1 ⟨rfl, hw1⟩; obtain rfl := hw1.symm; rw [show (⟨#[88]⟩ : ByteArray).data.toList = [88] from rfl, P2.out]; clear tok2)
      | (go_at_call 170; refine (HC.out _ (Below.refl _ _)).mono ?_; rintro e w1 ⟨he, hb1⟩; rw [HU.out] at he; obtain rfl := he; have HB1 := hide hb1; clear hb1)
      | (go_at_call 171; refine (signOf_any _ _ HN31.out (HT.out.below HB1.out HT.out.lt) (tabs_kept HTU.out HB1.out)).mono ?_; rintro e w2 ⟨rfl, hb2⟩; have HB2 := hide (HB1.out.trans (hb2.mono HB1.out.size)); clear hb2))
      go_ret2
      exact ⟨by rw [HR.out]; rfl, HB1.out⟩
    · have HR : Hid (numAt 16 6 (D.extract 1 D.size).data.toList = some (signN n)) := hide (by unfold numAt; rw [hu]; simp only []; rw [toList_length, hrl, if_neg hm])
      have t1 : decide ((6 : Int) < ((D.extract 1 D.size).size : Int)) = false := decide_eq_false (by rw [hrl]; omega)
      have t2 : decide (6 < (D.extract 1 D.size).size) = false := decide_eq_false (by rw [hrl]; exact hm)
      have t3 : decide ((6 : Int) < (((D.size - 1) : Nat) : Int)) = false := decide_eq_false (by omega)
      have t4 : decide (6 < (D.size - 1)) = false := decide_eq_false hm
      have hn31 : n < 2147483648 := Nat.lt_of_lt_of_le hlt (Nat.le_trans (Nat.pow_le_pow_right (by decide) (by omega : (D.size - 1) ≤ 6)) (by decide))
      have HN31 := hide hn31
      have x1 : IntKind.i32.wrap (n : Int) = (n : Int) := IntWalk.i32_in _ (by omega)
      clear hu hT hU hv hev p1 p2 hlt hm hrl hn31
      go_enter Tryz.func146, Tryz.ntmps146
      go_wp2_with (first
      | (go_at_call 65; have _t := tok1; refine (Tryz.strings_HasPrefix D ⟨#[120]⟩ _).mono ?_; rintro e w1 ⟨rfl, hw1⟩; obtain rfl := hw1.symm; rw [show (⟨#[120]⟩ : ByteArray).data.toList = [120] from rfl, P1.out]; clear tok1)
      | (go_at_call 65; have _t := tok2; refine (Tryz.strings_HasPrefix D ⟨#[88]⟩ _).mono ?_; rintro e w1 ⟨rfl, hw1⟩; obtain rfl := hw1.symm; rw [show (⟨#[88]⟩ : ByteArray).data.toList = [88] from rfl, P2.out]; clear tok2)
      | (go_at_call 170; refine (HC.out _ (Below.refl _ _)).mono ?_; rintro e w1 ⟨he, hb1⟩; rw [HU.out] at he; obtain rfl := he; have HB1 := hide hb1; clear hb1)
      | (go_at_call 171; refine (signOf_any _ _ HN31.out (HT.out.below HB1.out HT.out.lt) (tabs_kept HTU.out HB1.out)).mono ?_; rintro e w2 ⟨rfl, hb2⟩; have HB2 := hide (HB1.out.trans (hb2.mono HB1.out.size)); clear hb2))
      go_ret2
      exact ⟨by rw [HR.out]; rfl, HB2.out⟩
set_option maxHeartbeats 4000000 in
theorem byNumber_d (D : ByteArray) (ev : Value) (w : World) (hs : D.size ≤ 8) (p1 : Lib.hasPrefix D.data.toList [120] = false) (p2 : Lib.hasPrefix D.data.toList [88] = false) (hT : Tab w) (hU : Lib.Utf8Tabs 4 5 w)
    (hv : w.cell? ⟨1, 0, none⟩ = some ev) (hev : ev = .nilIface ∨ ∃ te pe, ev = .iface te pe) :
    Calls Tryz.prog 146 #[.string D] w fun e w' => e = .returned (entV (numAt 10 7 D.data.toList)) ∧ Below w.heap.size w w' := by
  have P1 : Hid (Lib.hasPrefix D.data.toList [120] = false) := hide p1
  have P2 : Hid (Lib.hasPrefix D.data.toList [88] = false) := hide p2
  have HT := hide hT
  have HTU := hide hU
  have HC := hide (fun w1 (hb : Below w.heap.size w w1) => parse10_any D ev w1 hs ((hb.cell (p := ⟨1, 0, none⟩) (World.block_lt_of_cell? _ _ hv)).trans hv) hev)
  have tok1 : True := trivial
  have tok2 : True := trivial
  have hrl : D.size = D.size := rfl
  have HB0 := hide (parse_lt (b := 10) (l := D.data.toList) (by decide))
  cases hu : parseU 10 D.data.toList with
  | none =>
    have HU := hide hu
    have HR : Hid (numAt 10 7 D.data.toList = none) := hide (by unfold numAt; rw [hu])
    clear hu hT hU hv hev p1 p2
    go_enter Tryz.func146, Tryz.ntmps146
    go_wp2_with (first
      | (go_at_call 65; have _t := tok1; refine (Tryz.strings_HasPrefix D ⟨#[120]⟩ _).mono ?_; rintro e w1 ⟨rfl, hw1⟩; obtain rfl := hw1.symm; rw [show (⟨#[120]⟩ : ByteArray).data.toList = [120] from rfl, P1.out]; clear tok1)
      | (go_at_call 65; have _t := tok2; refine (Tryz.strings_HasPrefix D ⟨#[88]⟩ _).mono ?_; rintro e w1 ⟨rfl, hw1⟩; obtain rfl := hw1.symm; rw [show (⟨#[88]⟩ : ByteArray).data.toList = [88] from rfl, P2.out]; clear tok2)
      | (go_at_call 170; refine (HC.out _ (Below.refl _ _)).mono ?_; rintro e w1 ⟨he, hb1⟩; rw [HU.out] at he; obtain ⟨N, rfl⟩ := he; have HB1 := hide hb1; clear hb1)
      | (go_at_call 171; refine (signOf_any _ _ HN31.out (HT.out.below HB1.out HT.out.lt) (tabs_kept HTU.out HB1.out)).mono ?_; rintro e w2 ⟨rfl, hb2⟩; have HB2 := hide (HB1.out.trans (hb2.mono HB1.out.size)); clear hb2))
    go_ret2
    exact ⟨by rw [HR.out]; rfl, HB1.out⟩
  | some n =>
    have HU := hide hu
    have hlt := HB0.out n hu
    rw [toList_length, hrl] at hlt
    by_cases hm : 7 < D.size
    · have HR : Hid (numAt 10 7 D.data.toList = none) := hide (by unfold numAt; rw [hu]; simp only []; rw [toList_length, hrl, if_pos hm])
      have t1 : decide ((7 : Int) < (D.size : Int)) = true := decide_eq_true (by rw [hrl]; omega)
      have t2 : decide (7 < D.size) = true := decide_eq_true (by rw [hrl]; exact hm)
      have t3 : decide ((7 : Int) < ((D.size : Nat) : Int)) = true := decide_eq_true (by omega)
      have t4 : decide (7 < D.size) = true := decide_eq_true hm
      clear hu hT hU hv hev p1 p2 hlt hm hrl
      go_enter Tryz.func146, Tryz.ntmps146
      go_wp2_with (first
      | (go_at_call 65; have _t := tok1; refine (Tryz.strings_HasPrefix D ⟨#[120]⟩ _).mono ?_; rintro e w1 ⟨rfl, hw1⟩; obtain rfl := hw1.symm; rw [show (⟨#[120]⟩ : ByteArray).data.toList = [120] from rfl, P1.out]; clear tok1)
      | (go_at_call 65; have _t := tok2; refine (Tryz.strings_HasPrefix D ⟨#[88]⟩ _).mono ?_; rintro e w1 ⟨rfl, hw1⟩; obtain rfl := hw1.symm; rw [show (⟨#[88]⟩ : ByteArray).data.toList = [88] from rfl, P2.out]; clear tok2)
      | (go_at_call 170; refine (HC.out _ (Below.refl _ _)).mono ?_; rintro e w1 ⟨he, hb1⟩; rw [HU.out] at he; obtain rfl := he; have HB1 := hide hb1; clear hb1)
      | (go_at_call 171; refine (signOf_any _ _ HN31.out (HT.out.below HB1.out HT.out.lt) (tabs_kept HTU.out HB1.out)).mono ?_; rintro e w2 ⟨rfl, hb2⟩; have HB2 := hide (HB1.out.trans (hb2.mono HB1.out.size)); clear hb2))
      go_ret2
      exact ⟨by rw [HR.out]; rfl, HB1.out⟩
    · have HR : Hid (numAt 10 7 D.data.toList = some (signN n)) := hide (by unfold numAt; rw [hu]; simp only []; rw [toList_length, hrl, if_neg hm])
      have t1 : decide ((7 : Int) < (D.size : Int)) = false := decide_eq_false (by rw [hrl]; omega)
      have t2 : decide (7 < D.size) = false := decide_eq_false (by rw [hrl]; exact hm)
      have t3 : decide ((7 : Int) < ((D.size : Nat) : Int)) = false := decide_eq_false (by omega)
      have t4 : decide (7 < D.size) = false := decide_eq_false hm
      have hn31 : n < 2147483648 := Nat.lt_of_lt_of_le hlt (Nat.le_trans (Nat.pow_le_pow_right (by decide) (by omega : D.size ≤ 7)) (by decide))
      have HN31 := hide hn31
      have x1 : IntKind.i32.wrap (n : Int) = (n : Int) := IntWalk.i32_in _ (by omega)
      clear hu hT hU hv hev p1 p2 hlt hm hrl hn31
      go_enter Tryz.func146, Tryz.ntmps146
      go_wp2_with (first
      | (go_at_call 65; have _t := tok1; refine (Tryz.strings_HasPrefix D ⟨#[120]⟩ _).mono ?_; rintro e w1 ⟨rfl, hw1⟩; obtain rfl := hw1.symm; rw [show (⟨#[120]⟩ : ByteArray).data.toList = [120] from rfl, P1.out]; clear tok1)
      | (go_at_call 65; have _t := tok2; refine (Tryz.strings_HasPrefix D ⟨#[88]⟩ _).mono ?_; rintro e w1 ⟨rfl, hw1⟩; obtain rfl := hw1.symm; rw [show (⟨#[88]⟩ : ByteArray).data.toList = [88] from rfl, P2.out]; clear tok2)
      | (go_at_call 170; refine (HC.out _ (Below.refl _ _)).mono ?_; rintro e w1 ⟨he, hb1⟩; rw [HU.out] at he; obtain rfl := he; have HB1 := hide hb1; clear hb1)
      | (go_at_call 171; refine (signOf_any _ _ HN31.out (HT.out.below HB1.out HT.out.lt) (tabs_kept HTU.out HB1.out)).mono ?_; rintro e w2 ⟨rfl, hb2⟩; have HB2 := hide (HB1.out.trans (hb2.mono HB1.out.size)); clear hb2))
      go_ret2
      exact ⟨by rw [HR.out]; rfl, HB2.out⟩
end Go.Proofs.YtiejmkjpgjbodaaGreatDoor

namespace Go.Proofs.YtiejmkjpgjbodaaGreatDoor
open Go.RowKit
set_option linter.unusedVariables false
set_option linter.unusedSimpArgs false
theorem index_cut (c : UInt8) (l : List UInt8) : (Lib.indexByte l c = -1 ∧ c ∉ l ∧ beforeC c l = l ∧ afterC c l = []) ∨ ∃ o : Nat, Lib.indexByte l c = o ∧ o < l.length ∧ c ∈ l ∧ beforeC c l = l.take o ∧ afterC c l = l.drop (o + 1) := by
  induction l with
  | nil => exact .inl ⟨rfl, by simp, rfl, rfl⟩
  | cons a r ih =>
    by_cases h : a = c
    · subst h
      have := cut_at a (a :: r) 0 (by simp) rfl (fun j hj => absurd hj (by omega))
      exact .inr ⟨0, by simp [Lib.indexByte], by simp, this.1, this.2.1, this.2.2⟩
    · have h1 : (a == c) = false := by simp [h]
      have h2 : (a != c) = true := by simp [h]
      have eb : beforeC c (a :: r) = a :: beforeC c r := by simp [beforeC, List.takeWhile_cons, h2]
      have ea : afterC c (a :: r) = afterC c r := by simp [afterC, List.dropWhile_cons, h2]
      rcases ih with ⟨i1, i2, i3, i4⟩ | ⟨o, i1, i2, i3, i4, i5⟩
      · refine .inl ⟨by simp [Lib.indexByte, h1, i1], ?_, by rw [eb, i3], by rw [ea, i4]⟩
        intro hm
        rcases List.mem_cons.1 hm with e | e
        · exact h e.symm
        · exact i2 e
      · have hne : ((o : Int) == -1) = false := by rw [beq_eq_false_iff_ne]; omega
        refine .inr ⟨o + 1, by simp [Lib.indexByte, h1, i1, hne], by simp; omega, List.mem_cons_of_mem _ i3, by rw [eb, i4]; rfl, by rw [ea, i5]; rfl⟩
def cutV (c : UInt8) (l : List UInt8) : Value := .tuple #[.string (str (beforeC c l)), .string (str (afterC c l)), .bool (hasC c l)]
theorem ret_cut {a b x y : ByteArray} {d e : Bool} (h : a = b) (h' : x = y) (h'' : d = e) : Ending.returned (.tuple #[.string a, .string x, .bool d]) = .returned (.tuple #[.string b, .string y, .bool e]) := by rw [h, h', h'']
set_option maxHeartbeats 1000000 in
theorem cut_any (s : ByteArray) (c : UInt8) (w : World) (hs : s.size ≤ 70368744177664) :
    Calls Tryz.prog 143 #[.string s, .string ⟨#[c]⟩] w fun e w' => e = .returned (cutV c s.data.toList) ∧ Below w.heap.size w w' := by
  have hz : (⟨#[c]⟩ : ByteArray).size = 1 := rfl
  rcases index_cut c s.data.toList with ⟨i1, i2, i3, i4⟩ | ⟨o, i1, i2, i3, i4, i5⟩
  · have I1 := hide i1
    have I2 := hide i2
    have I3 := hide i3
    have I4 := hide i4
    clear i1 i2 i3 i4
    go_enter Tryz.func143, Tryz.ntmps143
    go_wp2_with fail
    refine (Tryz.stringslite_Index_one s c _).mono ?_
    rintro e w1 ⟨rfl, hw⟩
    subst hw
    rw [I1.out]
    go_wp2_with fail
    go_ret3
    exact ⟨ret_cut (by rw [I3.out, str_of]) (by rw [I4.out]; rfl) (by rw [hasC_false I2.out]), Below.refl _ _⟩
  · have I1 := hide i1
    have I3 := hide i3
    have I4 := hide i4
    have I5 := hide i5
    rw [toList_length] at i2
    have o1 : (o : Int) + 1 ≤ s.size := by omega
    have o0 : (0 : Int) ≤ o := by omega
    have o2 : (o : Int) ≤ s.size := by omega
    have o3 : (0 : Int) ≤ (o : Int) + 1 := by omega
    have o4 : ((o : Int) + 1).toNat = o + 1 := by omega
    clear i1 i3 i4 i5
    go_enter Tryz.func143, Tryz.ntmps143
    go_wp2_with fail
    refine (Tryz.stringslite_Index_one s c _).mono ?_
    rintro e w1 ⟨rfl, hw⟩
    subst hw
    rw [I1.out]
    go_wp2_with fail
    go_region
    all_goals (try go_wp2)
    all_goals
      go_ret3
      exact ⟨ret_cut (ext_list (by rw [extract_list, List.drop_zero, str_toList, I4.out])) (ext_list (by rw [extract_end, str_toList, I5.out])) (by rw [hasC_true I3.out]), (Below.refl _ _).drew⟩
set_option maxHeartbeats 1000000 in
theorem strCut_any (s : ByteArray) (c : UInt8) (w : World) (hs : s.size ≤ 70368744177664) :
    Calls Tryz.prog 113 #[.string s, .string ⟨#[c]⟩] w fun e w' => e = .returned (cutV c s.data.toList) ∧ Below w.heap.size w w' := by
  go_enter Tryz.func113, Tryz.ntmps113
  go_wp2_with fail
  refine (cut_any s c _ hs).mono ?_
  rintro e w1 ⟨rfl, hb⟩
  unfold cutV
  go_wp2_with fail
  go_ret3
  exact ⟨rfl, hb⟩
end Go.Proofs.YtiejmkjpgjbodaaGreatDoor

namespace Go.Proofs.YtiejmkjpgjbodaaGreatDoor
open Go.RowKit
set_option linter.unusedVariables false
set_option linter.unusedSimpArgs false
set_option maxRecDepth 100000
def byN (l : List UInt8) : Option Int := if Lib.hasPrefix l [120] || Lib.hasPrefix l [88] then numAt 16 6 (l.drop 1) else numAt 10 7 l
def sgn (l : List UInt8) : Option Int := if Lib.hasPrefix l [35] = true then byN (Lib.trimPrefix l [35]) else nameN l
def refN (l : List UInt8) : Int × Nat :=
  match sgn (beforeC 59 (l.take 9)), hasC 59 (l.take 9) with
  | some x, true => (x, (beforeC 59 (l.take 9)).length + 1)
  | _, _ => (0, 0)
theorem byNumber_any (D : ByteArray) (ev : Value) (w : World) (hs : D.size ≤ 8) (hT : Tab w) (hU : Lib.Utf8Tabs 4 5 w)
    (hv : w.cell? ⟨1, 0, none⟩ = some ev) (hev : ev = .nilIface ∨ ∃ te pe, ev = .iface te pe) :
    Calls Tryz.prog 146 #[.string D] w fun e w' => e = .returned (entV (byN D.data.toList)) ∧ Below w.heap.size w w' := by
  cases p1 : Lib.hasPrefix D.data.toList [120] with
  | true =>
    have e : byN D.data.toList = numAt 16 6 (D.extract 1 D.size).data.toList := by unfold byN; rw [p1, extract_end]; rfl
    rw [e]; exact byNumber_x D ev w hs p1 hT hU hv hev
  | false =>
    cases p2 : Lib.hasPrefix D.data.toList [88] with
    | true =>
      have e : byN D.data.toList = numAt 16 6 (D.extract 1 D.size).data.toList := by unfold byN; rw [p1, p2, extract_end]; rfl
      rw [e]; exact byNumber_X D ev w hs p1 p2 hT hU hv hev
    | false =>
      have e : byN D.data.toList = numAt 10 7 D.data.toList := by unfold byN; rw [p1, p2]; rfl
      rw [e]; exact byNumber_d D ev w hs p1 p2 hT hU hv hev
theorem dig_size {C D : ByteArray} (hp : Lib.hasPrefix C.data.toList [35] = true) (hD : D.data.toList = Lib.trimPrefix C.data.toList [35]) (h : C.size ≤ 9) : D.size ≤ 8 := by
  have := congrArg List.length hD
  rw [toList_length] at this
  rw [this]
  unfold Lib.trimPrefix
  rw [hp]
  have := pref_size hp
  simp only [if_true, List.length_drop, toList_length]
  have e1 : ([35] : List UInt8).length = 1 := rfl
  omega
def refV (o : Int × Nat) : Value := .tuple #[.int .i32 o.1, .int .i64 o.2]
set_option maxHeartbeats 4000000 in
theorem reference_any (R : ByteArray) (b : Nat) (ev : Value) (w : World) (hs : R.size ≤ 16777216) (hM : SMapN w b 16 nameN) (hT : Tab w) (hU : Lib.Utf8Tabs 4 5 w)
    (hv : w.cell? ⟨1, 0, none⟩ = some ev) (hev : ev = .nilIface ∨ ∃ te pe, ev = .iface te pe) :
    Calls Tryz.prog 118 #[.string R, .map (some b)] w fun e w' => e = .returned (refV (refN R.data.toList)) ∧ Below w.heap.size w w' := by
  have zC : (beforeC 59 (R.data.toList.take 9)).length ≤ 9 := Nat.le_trans ((List.takeWhile_sublist _).length_le) (List.length_take_le _ _)
  obtain ⟨C, hC⟩ : ∃ C, C = str (beforeC 59 (R.data.toList.take 9)) := ⟨_, rfl⟩
  have hCt : C.data.toList = beforeC 59 (R.data.toList.take 9) := by rw [hC, str_toList]
  have HCS : Hid (C.size ≤ maxLen) := hide (by rw [hC, str_size]; exact Nat.le_trans zC (by decide))
  have hCs : C.size ≤ 9 := by rw [hC, str_size]; exact zC
  have HM := hide hM
  obtain ⟨D, hD⟩ : ∃ D, D = (⟨(Lib.trimPrefix C.data.toList [35]).toArray⟩ : ByteArray) := ⟨_, rfl⟩
  have hDt : D.data.toList = Lib.trimPrefix C.data.toList [35] := by rw [hD]
  have hpre := fun w1 => Tryz.strings_CutPrefix C ⟨#[35]⟩ w1
  rw [show (⟨#[35]⟩ : ByteArray).data.toList = [35] from rfl, ← hD] at hpre
  by_cases hz : R.size < 9
  · have m1 : decide ((R.size : Int) < 9) = true := decide_eq_true (by omega)
    have mn : min (R.size : Int) 9 = R.size := by omega
    obtain ⟨N, hN⟩ : ∃ N, N = R := ⟨_, rfl⟩
    have hNt : N.data.toList = R.data.toList.take 9 := by rw [hN, List.take_of_length_le (by rw [toList_length]; omega)]
    have hcut := fun w1 => strCut_any N 59 w1 (by rw [← toList_length, hNt]; exact Nat.le_trans (List.length_take_le _ _) (by decide))
    simp only [cutV] at hcut
    rw [hNt, ← hC, hN] at hcut
    cases hp : Lib.hasPrefix C.data.toList [35]
    · have HP : Hid (Lib.hasPrefix C.data.toList [35] = false) := hide hp
      rw [hp] at hpre
      have HPRE := hide hpre
      have hsg : sgn C.data.toList = nameN C.data.toList := by unfold sgn; rw [hp, if_neg (by decide)]
      cases hsn : nameN C.data.toList with
      | none =>
        rw [hsn] at hsg
        have HNM := hide hsn
        cases hend : hasC 59 (R.data.toList.take 9) with
        | false =>
          have HR : Hid (refN R.data.toList = (0, 0)) := hide (by unfold refN; rw [← hCt, hsg, hend])
          rw [hend] at hcut
          have HCUT := hide hcut
          clear hcut hsg hsn hend hp hpre hT hU hv hev hM hC hCt hDt hD hN hNt zC
          go_enter Tryz.func118, Tryz.ntmps118
          go_wp2_with (first | (go_at_call 113; with_reducible refine (HCUT.out _).mono ?_; rintro e w1 ⟨rfl, hb1⟩; have HB1 := hide hb1; clear hb1) | (go_at_call 122; with_reducible refine (HPRE.out _).mono ?_; rintro e wp ⟨rfl, hwp⟩; obtain rfl := hwp) | (at_lookup; refine wpList_sm_look rfl _ _ rfl b 16 nameN rfl (HM.out.kept HB1.out) C HCS.out rfl ?_; rw [HNM.out]))
          go_ret2
          exact ⟨by rw [HR.out]; rfl, HB1.out⟩
        | true =>
          have HR : Hid (refN R.data.toList = (0, 0)) := hide (by unfold refN; rw [← hCt, hsg, hend])
          rw [hend] at hcut
          have HCUT := hide hcut
          clear hcut hsg hsn hend hp hpre hT hU hv hev hM hC hCt hDt hD hN hNt zC
          go_enter Tryz.func118, Tryz.ntmps118
          go_wp2_with (first | (go_at_call 113; with_reducible refine (HCUT.out _).mono ?_; rintro e w1 ⟨rfl, hb1⟩; have HB1 := hide hb1; clear hb1) | (go_at_call 122; with_reducible refine (HPRE.out _).mono ?_; rintro e wp ⟨rfl, hwp⟩; obtain rfl := hwp) | (at_lookup; refine wpList_sm_look rfl _ _ rfl b 16 nameN rfl (HM.out.kept HB1.out) C HCS.out rfl ?_; rw [HNM.out]))
          go_ret2
          exact ⟨by rw [HR.out]; rfl, HB1.out⟩
      | some x =>
        rw [hsn] at hsg
        have HNM := hide hsn
        cases hend : hasC 59 (R.data.toList.take 9) with
        | false =>
          have HR : Hid (refN R.data.toList = (0, 0)) := hide (by unfold refN; rw [← hCt, hsg, hend])
          rw [hend] at hcut
          have HCUT := hide hcut
          clear hcut hsg hsn hend hp hpre hT hU hv hev hM hC hCt hDt hD hN hNt zC
          go_enter Tryz.func118, Tryz.ntmps118
          go_wp2_with (first | (go_at_call 113; with_reducible refine (HCUT.out _).mono ?_; rintro e w1 ⟨rfl, hb1⟩; have HB1 := hide hb1; clear hb1) | (go_at_call 122; with_reducible refine (HPRE.out _).mono ?_; rintro e wp ⟨rfl, hwp⟩; obtain rfl := hwp) | (at_lookup; refine wpList_sm_look rfl _ _ rfl b 16 nameN rfl (HM.out.kept HB1.out) C HCS.out rfl ?_; rw [HNM.out]))
          go_ret2
          exact ⟨by rw [HR.out]; rfl, HB1.out⟩
        | true =>
          have HR : Hid (refN R.data.toList = (x, C.size + 1)) := hide (by unfold refN; rw [← hCt, hsg, hend]; simp only [toList_length])
          rw [hend] at hcut
          have HCUT := hide hcut
          clear hcut hsg hsn hend hp hpre hT hU hv hev hM hC hCt hDt hD hN hNt zC
          go_enter Tryz.func118, Tryz.ntmps118
          go_wp2_with (first | (go_at_call 113; with_reducible refine (HCUT.out _).mono ?_; rintro e w1 ⟨rfl, hb1⟩; have HB1 := hide hb1; clear hb1) | (go_at_call 122; with_reducible refine (HPRE.out _).mono ?_; rintro e wp ⟨rfl, hwp⟩; obtain rfl := hwp) | (at_lookup; refine wpList_sm_look rfl _ _ rfl b 16 nameN rfl (HM.out.kept HB1.out) C HCS.out rfl ?_; rw [HNM.out]))
          go_ret2
          exact ⟨by rw [HR.out]; rfl, HB1.out⟩
    · have HP : Hid (Lib.hasPrefix C.data.toList [35] = true) := hide hp
      rw [hp] at hpre
      have HPRE := hide hpre
      obtain ⟨nm, hnm⟩ : ∃ nm, nameN C.data.toList = nm := ⟨_, rfl⟩
      have HNM := hide hnm
      have hsg : sgn C.data.toList = byN D.data.toList := by unfold sgn; rw [hp, if_pos rfl, hDt]
      have hds : D.size ≤ 8 := dig_size hp hDt (by rw [← hCt] at zC; rw [toList_length] at zC; exact zC)
      have hnum := fun w1 (hb : Below w.heap.size w w1) => byNumber_any D ev w1 hds (hT.below hb hT.lt) (tabs_kept hU hb) ((hb.cell (p := ⟨1, 0, none⟩) (World.block_lt_of_cell? _ _ hv)).trans hv) hev
      cases hsn : byN D.data.toList with
      | none =>
        rw [hsn] at hsg
        rw [hsn] at hnum
        simp only [entV] at hnum
        have HNUM := hide hnum
        cases hend : hasC 59 (R.data.toList.take 9) with
        | false =>
          have HR : Hid (refN R.data.toList = (0, 0)) := hide (by unfold refN; rw [← hCt, hsg, hend])
          rw [hend] at hcut
          have HCUT := hide hcut
          clear hcut hsg hsn hend hp hpre hT hU hv hev hM hC hCt hDt hD hN hNt zC hnm hnum hds
          go_enter Tryz.func118, Tryz.ntmps118
          go_wp2_with (first | (go_at_call 113; with_reducible refine (HCUT.out _).mono ?_; rintro e w1 ⟨rfl, hb1⟩; have HB1 := hide hb1; clear hb1) | (go_at_call 122; with_reducible refine (HPRE.out _).mono ?_; rintro e wp ⟨rfl, hwp⟩; obtain rfl := hwp) | (at_lookup; refine wpList_sm_look rfl _ _ rfl b 16 nameN rfl (HM.out.kept HB1.out) C HCS.out rfl ?_; rw [HNM.out]) | (go_at_call 146; with_reducible refine (HNUM.out _ HB1.out).mono ?_; rintro e w2 ⟨rfl, hb2⟩; have HB2 := hide (HB1.out.trans (hb2.mono HB1.out.size)); clear hb2))
          go_ret2
          exact ⟨by rw [HR.out]; rfl, HB2.out⟩
        | true =>
          have HR : Hid (refN R.data.toList = (0, 0)) := hide (by unfold refN; rw [← hCt, hsg, hend])
          rw [hend] at hcut
          have HCUT := hide hcut
          clear hcut hsg hsn hend hp hpre hT hU hv hev hM hC hCt hDt hD hN hNt zC hnm hnum hds
          go_enter Tryz.func118, Tryz.ntmps118
          go_wp2_with (first | (go_at_call 113; with_reducible refine (HCUT.out _).mono ?_; rintro e w1 ⟨rfl, hb1⟩; have HB1 := hide hb1; clear hb1) | (go_at_call 122; with_reducible refine (HPRE.out _).mono ?_; rintro e wp ⟨rfl, hwp⟩; obtain rfl := hwp) | (at_lookup; refine wpList_sm_look rfl _ _ rfl b 16 nameN rfl (HM.out.kept HB1.out) C HCS.out rfl ?_; rw [HNM.out]) | (go_at_call 146; with_reducible refine (HNUM.out _ HB1.out).mono ?_; rintro e w2 ⟨rfl, hb2⟩; have HB2 := hide (HB1.out.trans (hb2.mono HB1.out.size)); clear hb2))
          go_ret2
          exact ⟨by rw [HR.out]; rfl, HB2.out⟩
      | some x =>
        rw [hsn] at hsg
        rw [hsn] at hnum
        simp only [entV] at hnum
        have HNUM := hide hnum
        cases hend : hasC 59 (R.data.toList.take 9) with
        | false =>
          have HR : Hid (refN R.data.toList = (0, 0)) := hide (by unfold refN; rw [← hCt, hsg, hend])
          rw [hend] at hcut
          have HCUT := hide hcut
          clear hcut hsg hsn hend hp hpre hT hU hv hev hM hC hCt hDt hD hN hNt zC hnm hnum hds
          go_enter Tryz.func118, Tryz.ntmps118
          go_wp2_with (first | (go_at_call 113; with_reducible refine (HCUT.out _).mono ?_; rintro e w1 ⟨rfl, hb1⟩; have HB1 := hide hb1; clear hb1) | (go_at_call 122; with_reducible refine (HPRE.out _).mono ?_; rintro e wp ⟨rfl, hwp⟩; obtain rfl := hwp) | (at_lookup; refine wpList_sm_look rfl _ _ rfl b 16 nameN rfl (HM.out.kept HB1.out) C HCS.out rfl ?_; rw [HNM.out]) | (go_at_call 146; with_reducible refine (HNUM.out _ HB1.out).mono ?_; rintro e w2 ⟨rfl, hb2⟩; have HB2 := hide (HB1.out.trans (hb2.mono HB1.out.size)); clear hb2))
          go_ret2
          exact ⟨by rw [HR.out]; rfl, HB2.out⟩
        | true =>
          have HR : Hid (refN R.data.toList = (x, C.size + 1)) := hide (by unfold refN; rw [← hCt, hsg, hend]; simp only [toList_length])
          rw [hend] at hcut
          have HCUT := hide hcut
          clear hcut hsg hsn hend hp hpre hT hU hv hev hM hC hCt hDt hD hN hNt zC hnm hnum hds
          go_enter Tryz.func118, Tryz.ntmps118
          go_wp2_with (first | (go_at_call 113; with_reducible refine (HCUT.out _).mono ?_; rintro e w1 ⟨rfl, hb1⟩; have HB1 := hide hb1; clear hb1) | (go_at_call 122; with_reducible refine (HPRE.out _).mono ?_; rintro e wp ⟨rfl, hwp⟩; obtain rfl := hwp) | (at_lookup; refine wpList_sm_look rfl _ _ rfl b 16 nameN rfl (HM.out.kept HB1.out) C HCS.out rfl ?_; rw [HNM.out]) | (go_at_call 146; with_reducible refine (HNUM.out _ HB1.out).mono ?_; rintro e w2 ⟨rfl, hb2⟩; have HB2 := hide (HB1.out.trans (hb2.mono HB1.out.size)); clear hb2))
          go_ret2
          exact ⟨by rw [HR.out]; rfl, HB2.out⟩
  · have m1 : decide ((R.size : Int) < 9) = false := decide_eq_false (by omega)
    have mn : min (R.size : Int) 9 = 9 := by omega
    have m4 : (9 : Int) ≤ R.size := by omega
    obtain ⟨N, hN⟩ : ∃ N, N = R.extract 0 9 := ⟨_, rfl⟩
    have hNt : N.data.toList = R.data.toList.take 9 := by rw [hN, extract_list, List.drop_zero]
    have hcut := fun w1 => strCut_any N 59 w1 (by rw [← toList_length, hNt]; exact Nat.le_trans (List.length_take_le _ _) (by decide))
    simp only [cutV] at hcut
    rw [hNt, ← hC, hN] at hcut
    cases hp : Lib.hasPrefix C.data.toList [35]
    · have HP : Hid (Lib.hasPrefix C.data.toList [35] = false) := hide hp
      rw [hp] at hpre
      have HPRE := hide hpre
      have hsg : sgn C.data.toList = nameN C.data.toList := by unfold sgn; rw [hp, if_neg (by decide)]
      cases hsn : nameN C.data.toList with
      | none =>
        rw [hsn] at hsg
        have HNM := hide hsn
        cases hend : hasC 59 (R.data.toList.take 9) with
        | false =>
          have HR : Hid (refN R.data.toList = (0, 0)) := hide (by unfold refN; rw [← hCt, hsg, hend])
          rw [hend] at hcut
          have HCUT := hide hcut
          clear hcut hsg hsn hend hp hpre hT hU hv hev hM hC hCt hDt hD hN hNt zC
          go_enter Tryz.func118, Tryz.ntmps118
          go_wp2_with (first | (go_at_call 113; with_reducible refine (HCUT.out _).mono ?_; rintro e w1 ⟨rfl, hb1⟩; have HB1 := hide hb1; clear hb1) | (go_at_call 122; with_reducible refine (HPRE.out _).mono ?_; rintro e wp ⟨rfl, hwp⟩; obtain rfl := hwp) | (at_lookup; refine wpList_sm_look rfl _ _ rfl b 16 nameN rfl (HM.out.kept HB1.out) C HCS.out rfl ?_; rw [HNM.out]))
          go_ret2
          exact ⟨by rw [HR.out]; rfl, HB1.out⟩
        | true =>
          have HR : Hid (refN R.data.toList = (0, 0)) := hide (by unfold refN; rw [← hCt, hsg, hend])
          rw [hend] at hcut
          have HCUT := hide hcut
          clear hcut hsg hsn hend hp hpre hT hU hv hev hM hC hCt hDt hD hN hNt zC
          go_enter Tryz.func118, Tryz.ntmps118
          go_wp2_with (first | (go_at_call 113; with_reducible refine (HCUT.out _).mono ?_; rintro e w1 ⟨rfl, hb1⟩; have HB1 := hide hb1; clear hb1) | (go_at_call 122; with_reducible refine (HPRE.out _).mono ?_; rintro e wp ⟨rfl, hwp⟩; obtain rfl := hwp) | (at_lookup; refine wpList_sm_look rfl _ _ rfl b 16 nameN rfl (HM.out.kept HB1.out) C HCS.out rfl ?_; rw [HNM.out]))
          go_ret2
          exact ⟨by rw [HR.out]; rfl, HB1.out⟩
      | some x =>
        rw [hsn] at hsg
        have HNM := hide hsn
        cases hend : hasC 59 (R.data.toList.take 9) with
        | false =>
          have HR : Hid (refN R.data.toList = (0, 0)) := hide (by unfold refN; rw [← hCt, hsg, hend])
          rw [hend] at hcut
          have HCUT := hide hcut
          clear hcut hsg hsn hend hp hpre hT hU hv hev hM hC hCt hDt hD hN hNt zC
          go_enter Tryz.func118, Tryz.ntmps118
          go_wp2_with (first | (go_at_call 113; with_reducible refine (HCUT.out _).mono ?_; rintro e w1 ⟨rfl, hb1⟩; have HB1 := hide hb1; clear hb1) | (go_at_call 122; with_reducible refine (HPRE.out _).mono ?_; rintro e wp ⟨rfl, hwp⟩; obtain rfl := hwp) | (at_lookup; refine wpList_sm_look rfl _ _ rfl b 16 nameN rfl (HM.out.kept HB1.out) C HCS.out rfl ?_; rw [HNM.out]))
          go_ret2
          exact ⟨by rw [HR.out]; rfl, HB1.out⟩
        | true =>
          have HR : Hid (refN R.data.toList = (x, C.size + 1)) := hide (by unfold refN; rw [← hCt, hsg, hend]; simp only [toList_length])
          rw [hend] at hcut
          have HCUT := hide hcut
          clear hcut hsg hsn hend hp hpre hT hU hv hev hM hC hCt hDt hD hN hNt zC
          go_enter Tryz.func118, Tryz.ntmps118
          go_wp2_with (first | (go_at_call 113; with_reducible refine (HCUT.out _).mono ?_; rintro e w1 ⟨rfl, hb1⟩; have HB1 := hide hb1; clear hb1) | (go_at_call 122; with_reducible refine (HPRE.out _).mono ?_; rintro e wp ⟨rfl, hwp⟩; obtain rfl := hwp) | (at_lookup; refine wpList_sm_look rfl _ _ rfl b 16 nameN rfl (HM.out.kept HB1.out) C HCS.out rfl ?_; rw [HNM.out]))
          go_ret2
          exact ⟨by rw [HR.out]; rfl, HB1.out⟩
    · have HP : Hid (Lib.hasPrefix C.data.toList [35] = true) := hide hp
      rw [hp] at hpre
      have HPRE := hide hpre
      obtain ⟨nm, hnm⟩ : ∃ nm, nameN C.data.toList = nm := ⟨_, rfl⟩
      have HNM := hide hnm
      have hsg : sgn C.data.toList = byN D.data.toList := by unfold sgn; rw [hp, if_pos rfl, hDt]
      have hds : D.size ≤ 8 := dig_size hp hDt (by rw [← hCt] at zC; rw [toList_length] at zC; exact zC)
      have hnum := fun w1 (hb : Below w.heap.size w w1) => byNumber_any D ev w1 hds (hT.below hb hT.lt) (tabs_kept hU hb) ((hb.cell (p := ⟨1, 0, none⟩) (World.block_lt_of_cell? _ _ hv)).trans hv) hev
      cases hsn : byN D.data.toList with
      | none =>
        rw [hsn] at hsg
        rw [hsn] at hnum
        simp only [entV] at hnum
        have HNUM := hide hnum
        cases hend : hasC 59 (R.data.toList.take 9) with
        | false =>
          have HR : Hid (refN R.data.toList = (0, 0)) := hide (by unfold refN; rw [← hCt, hsg, hend])
          rw [hend] at hcut
          have HCUT := hide hcut
          clear hcut hsg hsn hend hp hpre hT hU hv hev hM hC hCt hDt hD hN hNt zC hnm hnum hds
          go_enter Tryz.func118, Tryz.ntmps118
          go_wp2_with (first | (go_at_call 113; with_reducible refine (HCUT.out _).mono ?_; rintro e w1 ⟨rfl, hb1⟩; have HB1 := hide hb1; clear hb1) | (go_at_call 122; with_reducible refine (HPRE.out _).mono ?_; rintro e wp ⟨rfl, hwp⟩; obtain rfl := hwp) | (at_lookup; refine wpList_sm_look rfl _ _ rfl b 16 nameN rfl (HM.out.kept HB1.out) C HCS.out rfl ?_; rw [HNM.out]) | (go_at_call 146; with_reducible refine (HNUM.out _ HB1.out).mono ?_; rintro e w2 ⟨rfl, hb2⟩; have HB2 := hide (HB1.out.trans (hb2.mono HB1.out.size)); clear hb2))
          go_ret2
          exact ⟨by rw [HR.out]; rfl, HB2.out⟩
        | true =>
          have HR : Hid (refN R.data.toList = (0, 0)) := hide (by unfold refN; rw [← hCt, hsg, hend])
          rw [hend] at hcut
          have HCUT := hide hcut
          clear hcut hsg hsn hend hp hpre hT hU hv hev hM hC hCt hDt hD hN hNt zC hnm hnum hds
          go_enter Tryz.func118, Tryz.ntmps118
          go_wp2_with (first | (go_at_call 113; with_reducible refine (HCUT.out _).mono ?_; rintro e w1 ⟨rfl, hb1⟩; have HB1 := hide hb1; clear hb1) | (go_at_call 122; with_reducible refine (HPRE.out _).mono ?_; rintro e wp ⟨rfl, hwp⟩; obtain rfl := hwp) | (at_lookup; refine wpList_sm_look rfl _ _ rfl b 16 nameN rfl (HM.out.kept HB1.out) C HCS.out rfl ?_; rw [HNM.out]) | (go_at_call 146; with_reducible refine (HNUM.out _ HB1.out).mono ?_; rintro e w2 ⟨rfl, hb2⟩; have HB2 := hide (HB1.out.trans (hb2.mono HB1.out.size)); clear hb2))
          go_ret2
          exact ⟨by rw [HR.out]; rfl, HB2.out⟩
      | some x =>
        rw [hsn] at hsg
        rw [hsn] at hnum
        simp only [entV] at hnum
        have HNUM := hide hnum
        cases hend : hasC 59 (R.data.toList.take 9) with
        | false =>
          have HR : Hid (refN R.data.toList = (0, 0)) := hide (by unfold refN; rw [← hCt, hsg, hend])
          rw [hend] at hcut
          have HCUT := hide hcut
          clear hcut hsg hsn hend hp hpre hT hU hv hev hM hC hCt hDt hD hN hNt zC hnm hnum hds
          go_enter Tryz.func118, Tryz.ntmps118
          go_wp2_with (first | (go_at_call 113; with_reducible refine (HCUT.out _).mono ?_; rintro e w1 ⟨rfl, hb1⟩; have HB1 := hide hb1; clear hb1) | (go_at_call 122; with_reducible refine (HPRE.out _).mono ?_; rintro e wp ⟨rfl, hwp⟩; obtain rfl := hwp) | (at_lookup; refine wpList_sm_look rfl _ _ rfl b 16 nameN rfl (HM.out.kept HB1.out) C HCS.out rfl ?_; rw [HNM.out]) | (go_at_call 146; with_reducible refine (HNUM.out _ HB1.out).mono ?_; rintro e w2 ⟨rfl, hb2⟩; have HB2 := hide (HB1.out.trans (hb2.mono HB1.out.size)); clear hb2))
          go_ret2
          exact ⟨by rw [HR.out]; rfl, HB2.out⟩
        | true =>
          have HR : Hid (refN R.data.toList = (x, C.size + 1)) := hide (by unfold refN; rw [← hCt, hsg, hend]; simp only [toList_length])
          rw [hend] at hcut
          have HCUT := hide hcut
          clear hcut hsg hsn hend hp hpre hT hU hv hev hM hC hCt hDt hD hN hNt zC hnm hnum hds
          go_enter Tryz.func118, Tryz.ntmps118
          go_wp2_with (first | (go_at_call 113; with_reducible refine (HCUT.out _).mono ?_; rintro e w1 ⟨rfl, hb1⟩; have HB1 := hide hb1; clear hb1) | (go_at_call 122; with_reducible refine (HPRE.out _).mono ?_; rintro e wp ⟨rfl, hwp⟩; obtain rfl := hwp) | (at_lookup; refine wpList_sm_look rfl _ _ rfl b 16 nameN rfl (HM.out.kept HB1.out) C HCS.out rfl ?_; rw [HNM.out]) | (go_at_call 146; with_reducible refine (HNUM.out _ HB1.out).mono ?_; rintro e w2 ⟨rfl, hb2⟩; have HB2 := hide (HB1.out.trans (hb2.mono HB1.out.size)); clear hb2))
          go_ret2
          exact ⟨by rw [HR.out]; rfl, HB2.out⟩
end Go.Proofs.YtiejmkjpgjbodaaGreatDoor

namespace Go.Proofs.YtiejmkjpgjbodaaGreatDoor
open Go.RowKit
set_option linter.unusedVariables false
set_option linter.unusedSimpArgs false
set_option maxRecDepth 100000
end Go.Proofs.YtiejmkjpgjbodaaGreatDoor

namespace Go.Proofs.YtiejmkjpgjbodaaGreatDoor
open Go.RowKit
set_option linter.unusedVariables false
set_option linter.unusedSimpArgs false
set_option maxRecDepth 100000
def KM (w w' : World) : Prop := ∀ (m : Nat) es c, w.heap[m]? = some (Obj.map es c) → w'.heap[m]? = some (Obj.map es c)
theorem KM.refl (w : World) : KM w w := fun _ _ _ h => h
theorem KM.trans {a b c : World} (h : KM a b) (k : KM b c) : KM a c := fun m es x hm => k m es x (h m es x hm)
theorem KM.alloc (w : World) (o : Obj) : KM w (w.alloc o) := fun m es x hm => (Below.heap_alloc w o m (Array.getElem?_eq_some_iff.1 hm).1).trans hm
theorem KM.below {w w' : World} (h : Below w.heap.size w w') : KM w w' := fun m es x hm => (h.block m (Array.getElem?_eq_some_iff.1 hm).1).trans hm
theorem KM.set {w : World} {b : Nat} {cs : Array Value} {t : TypeId} {fr : Nat × Nat} (h : w.heap[b]? = some (.cells cs t fr)) (i : Nat) (v : Value) : KM w (w.setCell ⟨b, i, none⟩ v) := fun m es x hm => by
  have hne : m ≠ b := by rintro rfl; rw [h] at hm; cases hm
  exact (Below.heap_setCell w _ v m hne).trans hm
theorem KM.own {w w' : World} {B n : Nat} {e : TypeId} {v : Value} {xs : List Value} (h : w.ownsRow B e 1 v n xs) (hg : w.grownBy w' v.ownBlock) : KM w w' := fun m es x hm => by
  refine (hg.block m (Array.getElem?_eq_some_iff.1 hm).1 (fun he => ?_)).trans hm
  rcases h.2 with ⟨rfl, _⟩ | ⟨g, cap, cur, rfl, _, hh, _⟩
  · simp [Value.ownBlock] at he
  · have e1 : g = m := by simpa [Value.ownBlock] using he.symm
    subst e1
    rw [hh] at hm; cases hm
theorem copyCheckM_any (B b : Nat) (bs : List Value) (w : World) (h : Lib.IsBuilder 78 5 B b bs w) :
    Calls Tryz.prog 103 #[.pointer (some ⟨b, 0, none⟩)] w fun e w' => e = .returned (.tuple #[]) ∧ Lib.BuilderAt 78 5 B b (.pointer (some ⟨b, 0, none⟩)) bs w' ∧ Below B w w' ∧ KM w w' := by
  rcases h with h | h
  · obtain ⟨hB, v, hbk, ho, hne⟩ := id h
    refine (copyCheck_fresh b w h.cell0 h.shape h.frozen0).mono ?_
    rintro e w' ⟨rfl, rfl⟩
    exact ⟨rfl, h.used _, (Below.refl B w).setCell (p := ⟨b, 0, none⟩) h.1 _, KM.set hbk _ _⟩
  · refine (copyCheck_used b w h.cell0).mono ?_
    rintro e w' ⟨rfl, rfl⟩
    exact ⟨rfl, h, Below.refl B _, KM.refl _⟩
set_option maxHeartbeats 1000000 in
theorem writeStringM_any (B b : Nat) (l : List UInt8) (s : ByteArray) (W0 w : World) (h : Bld B b l W0 w) (hlen : l.length + s.size ≤ 140737488355328) :
    Calls Tryz.prog 64 #[.pointer (some ⟨b, 0, none⟩), .string s] w fun e w' => e = .returned (.tuple #[.int .i64 s.size, .nilIface]) ∧ Bld B b (l ++ s.data.toList) W0 w' ∧ KM w w' := by
  obtain ⟨h, hbel, hBw⟩ := h
  obtain ⟨i0, hi, hz0, hz1, hz2⟩ := info_parts info_u8
  have HBL := hide hbel
  clear hbel
  go_enter Tryz.func64, Tryz.ntmps64
  go_wp2_with fail
  refine (copyCheckM_any B b (cellsOf l) _ h).mono ?_
  rintro e w1 ⟨rfl, h1, hb1, hk1⟩
  have HK1 := hide hk1
  clear hk1
  obtain ⟨hB, v, hbk, hown, hne⟩ := h1
  have c1 : w1.cell? ⟨b, 1, none⟩ = some v := by rw [Lib.cell_of_heap hbk]; rfl
  have hlt : b < w1.heap.size := lt_of_block hbk
  have hl1 : (cellsOf l).length = l.length := cellsOf_length l
  have HBK := hide hbk
  have HOWN := hide hown
  have HNE := hide hne
  have HB1 := hide hb1
  have hsz1 := hb1.size
  have HI := hide hi
  have HZ0 := hide hz0
  have HZ1 := hide hz1
  have HZ2 := hide hz2
  have HL1 := hide hl1
  clear hbk hown hne hb1 hi hz0 hz1 hz2 h
  go_wp2_with (refine Lib.wpList_append_own_string _ rfl _ _ 56 9 rfl B 5 i0 Tryz.underlying56 Tryz.underlying9 HI.out HZ0.out HZ1.out HZ2.out v (cellsOf l).length (cellsOf l) rfl HOWN.out s rfl (by rw [HL1.out]; unfold maxLen; omega) (by rw [HL1.out]; omega) (by omega) ?_
               intro v' w2 hown' hgrow _
               obtain ⟨ao, n', cap, rfl⟩ : ∃ ao n' cap, v' = .slice ao n' cap := by
                 rcases hown'.2 with ⟨hv, _⟩ | ⟨g, cap, cur, hv, _⟩
                 · exact ⟨_, _, _, hv⟩
                 · exact ⟨_, _, _, hv⟩
               have hb2 : w2.heap[b]? = some (.cells #[.pointer (some ⟨b, 0, none⟩), v] 78 (0, 0)) := by
                 rw [hgrow.block b hlt (fun e => HNE.out e.symm)]
                 exact HBK.out
               have d1 : w2.cell? ⟨b, 1, none⟩ = some v := by rw [Lib.cell_of_heap hb2]; rfl
               have f1 : w2.frozen? ⟨b, 1, none⟩ = false := Lib.frozen_of_heap hb2 1
               have HKM := hide (HK1.out.trans (KM.own HOWN.out hgrow))
               have HO2 := hide hown'
               have HG2 := hide hgrow
               have HB2 := hide hb2
               clear hown' hgrow hb2)
  go_ret2
  have hb3 : Below B w w2 := HB1.out.grown HG2.out (by omega) (fun k hk => (HOWN.out.lt k hk).1)
  refine ⟨rfl, ⟨.inr ?_, (HBL.out.trans hb3).setCell (p := ⟨b, 1, none⟩) hB _, ?_⟩, HKM.out.trans (KM.set HB2.out _ _)⟩
  · refine Lib.BuilderAt.put (T := 78) (e := 5) hB HB2.out (bs' := cellsOf (l ++ s.data.toList)) ?_ (by decide)
    have ho := HO2.out
    have e1 : cellsOf (l ++ s.data.toList) = cellsOf l ++ Lib.strCells s := by rw [cellsOf_str, cellsOf, List.map_append]; rfl
    rw [e1, List.length_append, Lib.strCells_length]
    exact ho
  · have := hb3.size
    simp [World.setCell]
    omega
end Go.Proofs.YtiejmkjpgjbodaaGreatDoor

namespace Go.Proofs.YtiejmkjpgjbodaaGreatDoor
open Go.RowKit
set_option linter.unusedVariables false
set_option linter.unusedSimpArgs false
set_option maxRecDepth 100000
theorem SMapN.km {w w' : World} {b n : Nat} {f : List UInt8 → Option Int} (h : SMapN w b n f) (hk : KM w w') : SMapN w' b n f := by
  obtain ⟨D, ⟨es, c, h1, h2, h3, h4⟩, h5⟩ := h
  exact ⟨D, ⟨es, c, hk b es c h1, h2, h3, h4⟩, h5⟩
set_option maxHeartbeats 2000000 in
theorem writeRuneM_any (B b : Nat) (l : List UInt8) (r : Int) (h0 : 0 ≤ r) (h1r : r ≤ 1114111) (W0 w : World) (h : Bld B b l W0 w) (hlen : l.length + 4 ≤ 140737488355328) :
    Calls Tryz.prog 119 #[.pointer (some ⟨b, 0, none⟩), .int .i32 r] w fun e w' => (∃ n, e = .returned (.tuple #[.int .i64 n, .nilIface])) ∧ Bld B b (l ++ runeL r) W0 w' ∧ KM w w' := by
  obtain ⟨h, hbel, hBw⟩ := h
  have HBL := hide hbel
  clear hbel
  go_enter Tryz.func119, Tryz.ntmps119
  go_wp2_with fail
  refine (copyCheckM_any B b (cellsOf l) _ h).mono ?_
  rintro e w1 ⟨rfl, h1, hb1, hk1⟩
  have HK1 := hide hk1
  clear hk1
  obtain ⟨hB, v, hbk, hown, hne⟩ := h1
  have c1 : w1.cell? ⟨b, 1, none⟩ = some v := by rw [Lib.cell_of_heap hbk]; rfl
  have hlt : b < w1.heap.size := lt_of_block hbk
  have hl1 : (cellsOf l).length = l.length := cellsOf_length l
  rw [hl1] at hown
  obtain ⟨A, cp, rfl⟩ : ∃ A cp, v = .slice A l.length cp := by
    rcases hown.2 with ⟨hv, hz⟩ | ⟨g, cap, cur, hv, _⟩
    · rw [hz]; exact ⟨_, _, hv⟩
    · exact ⟨_, _, hv⟩
  have HBK := hide hbk
  have HOWN := hide hown
  have HNE := hide hne
  have HB1 := hide hb1
  have hsz1 := hb1.size
  have HAR := hide (Tryz.utf8_AppendRune_plain B (.slice A l.length cp) l.length (cellsOf l) r (by omega) (by omega) w1 hown (by omega) (by omega))
  clear hbk hown hne hb1 h hl1
  go_wp2_with (go_at_call 147; refine HAR.out.mono ?_; rintro e w2 ⟨v', rfl, ho, o, hg⟩
               have e1 : Lib.runeCells r = cellsOf (runeL r) := (Lib.byteCells_encodeRune r).symm
               have e2 : (Lib.runeCells r).length = (runeL r).length := by rw [e1, cellsOf_length]
               rw [e2, e1] at ho
               obtain ⟨ao, cap, rfl⟩ : ∃ ao cap, v' = .slice ao (l.length + (runeL r).length) cap := by
                 rcases ho.2 with ⟨hv, hz⟩ | ⟨g, cap, cur, hv, _⟩
                 · rw [hz]; exact ⟨_, _, hv⟩
                 · exact ⟨_, _, hv⟩
               have hb2 : w2.heap[b]? = some (.cells #[.pointer (some ⟨b, 0, none⟩), .slice A l.length cp] 78 (0, 0)) := by
                 rw [hg.block b (Nat.lt_of_lt_of_le hlt ((Below.refl 0 w1).alloc (Nat.zero_le _) o).size) (fun e => HNE.out e.symm), Below.heap_alloc w1 o b hlt]
                 exact HBK.out
               have d1 : w2.cell? ⟨b, 1, none⟩ = some (.slice A l.length cp) := by rw [Lib.cell_of_heap hb2]; rfl
               have f1 : w2.frozen? ⟨b, 1, none⟩ = false := Lib.frozen_of_heap hb2 1
               obtain ⟨w3, hw3⟩ : ∃ w3, w3 = w2.setCell ⟨b, 1, none⟩ (.slice ao (l.length + (runeL r).length) cap) := ⟨_, rfl⟩
               have g1 : (w2.setCell ⟨b, 1, none⟩ (.slice ao (l.length + (runeL r).length) cap)).cell? ⟨b, 1, none⟩ = some (.slice ao (l.length + (runeL r).length) cap) := World.cell?_setCell_same _ _ _ d1
               have HKM := hide (HK1.out.trans ((KM.alloc w1 o).trans (KM.own (HOWN.out.alloc o) hg)))
               have HO2 := hide ho
               have HG2 : Hid (Below B w w2) := hide ((HB1.out.alloc (by omega) o).grown hg (Nat.le_trans (by omega) ((Below.refl 0 w1).alloc (Nat.zero_le _) o).size) (fun k hk => (HOWN.out.lt k hk).1))
               have HB2 := hide hb2
               clear ho hg hb2 e1 e2 hw3)
  go_ret2
  refine ⟨⟨_, rfl⟩, ⟨.inr ?_, (HBL.out.trans HG2.out).setCell (p := ⟨b, 1, none⟩) hB _, ?_⟩, HKM.out.trans (KM.set HB2.out _ _)⟩
  · refine Lib.BuilderAt.put (T := 78) (e := 5) hB HB2.out (bs' := cellsOf (l ++ runeL r)) ?_ (by decide)
    have ho := HO2.out
    have e1 : cellsOf (l ++ runeL r) = cellsOf l ++ cellsOf (runeL r) := by rw [cellsOf, List.map_append]; rfl
    rw [e1, List.length_append, cellsOf_length, cellsOf_length]
    exact ho
  · have := HG2.out.size
    simp [World.setCell]
    omega
end Go.Proofs.YtiejmkjpgjbodaaGreatDoor

namespace Go.Proofs.YtiejmkjpgjbodaaGreatDoor
open Go.RowKit
set_option linter.unusedVariables false
set_option linter.unusedSimpArgs false
set_option maxRecDepth 100000
def EnvE (w : World) : Prop := Tab w ∧ Lib.Utf8Tabs 4 5 w ∧ ∃ ev, w.cell? ⟨1, 0, none⟩ = some ev ∧ (ev = .nilIface ∨ ∃ te pe, ev = .iface te pe)
theorem EnvE.kept {w w' : World} (h : EnvE w) (hb : Below w.heap.size w w') : EnvE w' := by
  obtain ⟨h1, h2, ev, h3, h4⟩ := h
  exact ⟨h1.below hb h1.lt, tabs_kept h2 hb, ev, (hb.cell (p := ⟨1, 0, none⟩) (World.block_lt_of_cell? _ _ h3)).trans h3, h4⟩
def SignOK (c : Int) : Prop := 0 ≤ c ∧ c ≤ 1114111
theorem putN_ok {f : List UInt8 → Option Int} {k : List UInt8} {c : Int} (hf : ∀ l x, f l = some x → SignOK x) (hc : SignOK c) : ∀ l x, putN f k c l = some x → SignOK x := by
  intro l x h
  unfold putN at h
  split at h
  · injection h with h; rw [← h]; exact hc
  · exact hf l x h
theorem nameN_ok : ∀ l x, nameN l = some x → SignOK x := by
  unfold nameN
  repeat (refine putN_ok ?_ (by unfold SignOK; decide))
  intro l x h; cases h
theorem signN_ok (n : Nat) : SignOK (signN n) := by
  unfold signN SignOK
  split
  · decide
  · split
    · have := winR_range (UInt8.ofNat n); omega
    · omega
theorem numAt_ok {b m : Nat} {l : List UInt8} : ∀ x, numAt b m l = some x → SignOK x := by
  intro x h
  unfold numAt at h
  split at h
  · cases h
  · split at h
    · cases h
    · injection h with h; rw [← h]; exact signN_ok _
theorem sgn_ok {l : List UInt8} : ∀ x, sgn l = some x → SignOK x := by
  intro x h
  unfold sgn byN at h
  split at h
  · split at h <;> exact numAt_ok x h
  · exact nameN_ok _ x h
theorem refN_ok (l : List UInt8) : SignOK (refN l).1 ∧ (refN l).2 ≤ l.length := by
  unfold refN
  split
  · rename_i x h1 h2
    refine ⟨sgn_ok x h1, ?_⟩
    rcases cut_case 59 (l.take 9) with ⟨h3, h4, _⟩ | ⟨a, r, h3, _, h4, _⟩
    · have : hasC 59 (l.take 9) = false := by unfold hasC; simpa using h3
      rw [this] at h2; cases h2
    · have := congrArg List.length h3
      rw [List.length_append, List.length_cons, List.length_take] at this
      rw [h4]
      show a.length + 1 ≤ _
      omega
  · exact ⟨by unfold SignOK; decide, Nat.zero_le _⟩
def decE (l : List UInt8) : List UInt8 :=
  if h : hasC 38 l = true then
    beforeC 38 l ++ (if 0 < (refN (afterC 38 l)).2 then runeL (refN (afterC 38 l)).1 ++ decE ((afterC 38 l).drop (refN (afterC 38 l)).2) else 38 :: decE (afterC 38 l))
  else l
termination_by l.length
decreasing_by
  all_goals
    rcases cut_case 38 l with ⟨h3, _⟩ | ⟨a, r, h3, _, h4, h5⟩
    · exact absurd h (by unfold hasC; simpa using h3)
    · have := congrArg List.length h3
      rw [List.length_append, List.length_cons] at this
      rw [h5]
      first | (rw [List.length_drop]; omega) | omega
theorem decE_no {l : List UInt8} (h : hasC 38 l = false) : decE l = l := by rw [decE, dif_neg (by rw [h]; decide)]
theorem decE_yes {l : List UInt8} (h : hasC 38 l = true) : decE l = beforeC 38 l ++ (if 0 < (refN (afterC 38 l)).2 then runeL (refN (afterC 38 l)).1 ++ decE ((afterC 38 l).drop (refN (afterC 38 l)).2) else 38 :: decE (afterC 38 l)) := by rw [decE, dif_pos h]
theorem has_cut {c : UInt8} {l : List UInt8} (h : hasC c l = true) : l.length = (beforeC c l).length + 1 + (afterC c l).length := by
  rcases cut_case c l with ⟨h3, _⟩ | ⟨a, r, h3, _, h4, h5⟩
  · exact absurd h (by unfold hasC; simpa using h3)
  · have := congrArg List.length h3
    rw [List.length_append, List.length_cons] at this
    rw [h4, h5]; omega
theorem index_has (c : UInt8) (l : List UInt8) : decide (0 ≤ Lib.indexByte l c) = hasC c l := by
  rcases index_cut c l with ⟨h1, h2, _⟩ | ⟨o, h1, _, h2, _⟩
  · rw [h1]
    have : hasC c l = false := by unfold hasC; simpa using h2
    rw [this]; rfl
  · rw [h1]
    have : hasC c l = true := by unfold hasC; simpa using h2
    rw [this]; exact decide_eq_true (by omega)
set_option maxHeartbeats 4000000 in
theorem entDecode_any (s : ByteArray) (w : World) (hs : s.size ≤ 16777216) (hE : EnvE w) :
    Calls Tryz.prog 82 #[.string s] w fun e w' => e = .returned (.string (str (decE s.data.toList))) ∧ Below w.heap.size w w' := by
  have HC := hide (Tryz.strings_Contains_one s 38 w)
  rw [index_has] at HC
  cases hh : hasC 38 s.data.toList with
  | false =>
    have HR : Hid (decE s.data.toList = s.data.toList) := hide (decE_no hh)
    rw [hh] at HC
    clear hh hE
    go_enter Tryz.func82, Tryz.ntmps82
    go_wp2_with (go_at_call 116; refine HC.out.mono ?_; rintro e w1 ⟨rfl, hw⟩; obtain rfl := hw.symm)
    go_ret
    exact ⟨by rw [HR.out, str_of]; rfl, Below.refl _ _⟩
  | true =>
    rw [hh] at HC
    have HE := hide hE
    have KB : Hid (Below w.heap.size w (w.alloc (.cells #[.pointer none, .slice none 0 0] 78))) := hide ((Below.refl _ _).alloc (Nat.le_refl _) _)
    have HBD := hide (Bld.new (B := w.heap.size) (W0 := w) (Below.refl _ w) (Nat.le_refl _))
    clear hh hE
    go_enter Tryz.func82, Tryz.ntmps82
    go_wp2_with (first
      | (go_at_call 116; refine HC.out.mono ?_; rintro e w1 ⟨rfl, hw⟩; obtain rfl := hw.symm)
      | (go_at_call 117; refine (signs_any _).mono ?_; rintro e w2 ⟨rfl, hm2, hb2⟩; have HM2 := hide hm2; have HB2 := hide hb2; clear hm2 hb2))
    have HM2' : Hid (SMapN w2 (w.heap.size + 1) 16 nameN) := hide (by have := HM2.out; rwa [World.size_alloc] at this)
    go_loopw [0] (fun sv wr => ∃ (S : ByteArray) (acc : List UInt8), sv = .string S ∧ Hid (acc.length + 4 * S.size ≤ 4 * s.size) ∧ Hid (Bld w.heap.size w.heap.size acc w wr) ∧ Hid (SMapN wr (w.heap.size + 1) 16 nameN) ∧ Hid (acc ++ decE S.data.toList = decE s.data.toList)) (fun sv _ => szOfS sv)
    case atStart => exact ⟨s, [], rfl, hide (by simp), hide (HBD.out.kept HB2.out), HM2', hide rfl⟩
    case round =>
      obtain ⟨S, acc, rfl, HL, HB, HM, HG⟩ := hrel
      have hSz : S.size ≤ s.size := by have := HL.out; omega
      have hcut := fun w1 => strCut_any S 38 w1 (by omega)
      simp only [cutV] at hcut
      obtain ⟨A, hA⟩ : ∃ A, A = str (beforeC 38 S.data.toList) := ⟨_, rfl⟩
      obtain ⟨R, hR⟩ : ∃ R, R = str (afterC 38 S.data.toList) := ⟨_, rfl⟩
      rw [← hA, ← hR] at hcut
      have hAl : A.data.toList = beforeC 38 S.data.toList := by rw [hA, str_toList]
      have hRl : R.data.toList = afterC 38 S.data.toList := by rw [hR, str_toList]
      have hAs : A.size ≤ S.size := by rw [← toList_length, hAl, ← toList_length S]; exact (List.takeWhile_sublist _).length_le
      have HL1 : Hid (acc.length + A.size ≤ 140737488355328) := hide (by have := HL.out; omega)
      have tok1 : True := trivial
      cases hc : hasC 38 S.data.toList with
      | false =>
        rw [hc] at hcut
        have HCUT := hide hcut
        have HR : Hid (decE s.data.toList = acc ++ A.data.toList) := hide (by
          rw [← HG.out, decE_no hc, hAl]
          rcases cut_case 38 S.data.toList with ⟨_, h4, _⟩ | ⟨a, r, h3, _⟩
          · rw [h4]
          · exact absurd hc (by unfold hasC; rw [h3]; simp))
        clear hcut hc hA hR hAl hRl hAs hSz
        go_wp2_with (first
          | (go_at_call 113; with_reducible refine (HCUT.out _).mono ?_; rintro e w3 ⟨rfl, hb3⟩; have HB3 := hide (HB.out.kept hb3); have HM3 := hide (HM.out.kept hb3); clear hb3)
          | (go_at_call 64; have _t := tok1; refine (writeStringM_any _ _ acc A w _ HB3.out HL1.out).mono ?_; rintro e w4 ⟨rfl, hb4, hk4⟩; have HB4 := hide hb4; have HM4 := hide (HM3.out.km hk4); clear hb4 hk4 tok1)
          | (go_at_call 57; refine (HB4.out.string).mono ?_; rintro e w5 ⟨rfl, hb5⟩; have HB5 := hide hb5; clear hb5))
        go_ret
        exact ⟨by rw [HR.out]; rfl, HB5.out⟩
      | true =>
        rw [hc] at hcut
        have HCUT := hide hcut
        have hlen := has_cut hc
        rw [← hAl, ← hRl, toList_length, toList_length, toList_length] at hlen
        have hdec := decE_yes hc
        rw [← hAl, ← hRl] at hdec
        have hG := HG.out
        rw [hdec] at hG
        obtain ⟨hx, hnl⟩ := refN_ok R.data.toList
        rw [toList_length] at hnl
        have href := fun w1 (hm : SMapN w1 (w.heap.size + 1) 16 nameN) (he : EnvE w1) => reference_any R (w.heap.size + 1) he.2.2.choose w1 (by omega) hm he.1 he.2.1 he.2.2.choose_spec.1 he.2.2.choose_spec.2
        obtain ⟨⟨x, n⟩, hr⟩ : ∃ o, refN R.data.toList = o := ⟨_, rfl⟩
        rw [hr] at hx hnl href hG
        simp only [refV] at href
        simp only [] at hx hnl hG
        have HREF := hide href
        have HX := hide hx
        have hLL := HL.out
        by_cases hn : 0 < n
        · have t1 : decide ((n : Int) > 0) = true := decide_eq_true (by omega)
          have t2 : decide (0 < n) = true := decide_eq_true hn
          have k1 : (0 : Int) ≤ n := by omega
          have k2 : (n : Int) ≤ R.size := by omega
          rw [if_pos hn] at hG
          have hrl := (runeL_length x).2.1
          have hsz : (R.extract n R.size).size = R.size - n := by rw [ByteArray.size_extract]; omega
          have HL2 : Hid ((acc ++ A.data.toList).length + 4 ≤ 140737488355328) := hide (by rw [List.length_append, toList_length]; omega)
          have HLN : Hid (((acc ++ A.data.toList) ++ runeL x).length + 4 * (R.extract n R.size).size ≤ 4 * s.size) := hide (by rw [List.length_append, List.length_append, toList_length, hsz]; omega)
          have HGN : Hid (((acc ++ A.data.toList) ++ runeL x) ++ decE (R.extract n R.size).data.toList = decE s.data.toList) := hide (by rw [extract_end, ← hG]; simp)
          have HLT : Hid ((R.extract n R.size).size < S.size) := hide (by rw [hsz]; omega)
          clear hcut hc hA hR hAl hRl hAs hlen hdec hG hx hnl href hr hLL hn hrl hsz hSz
          go_wp2_with (first
            | (go_at_call 113; with_reducible refine (HCUT.out _).mono ?_; rintro e w3 ⟨rfl, hb3⟩; have HB3 := hide (HB.out.kept hb3); have HM3 := hide (HM.out.kept hb3); clear hb3)
            | (go_at_call 64; have _t := tok1; refine (writeStringM_any _ _ acc A w _ HB3.out HL1.out).mono ?_; rintro e w4 ⟨rfl, hb4, hk4⟩; have HB4 := hide hb4; have HM4 := hide (HM3.out.km hk4); clear hb4 hk4 tok1)
            | (go_at_call 118; refine (HREF.out _ HM4.out (HE.out.kept HB4.out.2.1)).mono ?_; rintro e w5 ⟨rfl, hb5⟩; have HB5 := hide (HB4.out.kept hb5); have HM5 := hide (HM4.out.kept hb5); clear hb5)
            | (go_at_call 119; refine (writeRuneM_any _ _ _ x HX.out.1 HX.out.2 w _ HB5.out HL2.out).mono ?_; rintro e w6 ⟨⟨m6, rfl⟩, hb6, hk6⟩; have HB6 := hide hb6; have HM6 := hide (HM5.out.km hk6); clear hb6 hk6))
          go_roundw
          case rel => exact ⟨_, _, rfl, HLN, HB6, HM6, HGN⟩
          case measure => exact HLT.out
        · have hn0 : n = 0 := by omega
          have t1 : decide ((n : Int) > 0) = false := decide_eq_false (by omega)
          have t2 : decide (0 < n) = false := decide_eq_false hn
          rw [if_neg hn] at hG
          have tok2 : True := trivial
          have HL2 : Hid ((acc ++ A.data.toList).length + (⟨#[38]⟩ : ByteArray).size ≤ 140737488355328) := hide (by rw [List.length_append, toList_length, show (⟨#[38]⟩ : ByteArray).size = 1 from rfl]; omega)
          have HLN : Hid (((acc ++ A.data.toList) ++ (⟨#[38]⟩ : ByteArray).data.toList).length + 4 * R.size ≤ 4 * s.size) := hide (by rw [List.length_append, List.length_append, toList_length, toList_length, show (⟨#[38]⟩ : ByteArray).size = 1 from rfl]; omega)
          have HGN : Hid (((acc ++ A.data.toList) ++ (⟨#[38]⟩ : ByteArray).data.toList) ++ decE R.data.toList = decE s.data.toList) := hide (by rw [← hG, show (⟨#[38]⟩ : ByteArray).data.toList = [38] from rfl]; simp)
          have HLT : Hid (R.size < S.size) := hide (by omega)
          clear hcut hc hA hR hAl hRl hAs hlen hdec hG hx hnl href hr hLL hn hn0 hSz
          go_wp2_with (first
            | (go_at_call 113; with_reducible refine (HCUT.out _).mono ?_; rintro e w3 ⟨rfl, hb3⟩; have HB3 := hide (HB.out.kept hb3); have HM3 := hide (HM.out.kept hb3); clear hb3)
            | (go_at_call 64; have _t := tok1; refine (writeStringM_any _ _ acc A w _ HB3.out HL1.out).mono ?_; rintro e w4 ⟨rfl, hb4, hk4⟩; have HB4 := hide hb4; have HM4 := hide (HM3.out.km hk4); clear hb4 hk4 tok1)
            | (go_at_call 118; refine (HREF.out _ HM4.out (HE.out.kept HB4.out.2.1)).mono ?_; rintro e w5 ⟨rfl, hb5⟩; have HB5 := hide (HB4.out.kept hb5); have HM5 := hide (HM4.out.kept hb5); clear hb5)
            | (go_at_call 64; have _t := tok2; refine (writeStringM_any _ _ _ ⟨#[38]⟩ w _ HB5.out HL2.out).mono ?_; rintro e w6 ⟨rfl, hb6, hk6⟩; have HB6 := hide hb6; have HM6 := hide (HM5.out.km hk6); clear hb6 hk6 tok2))
          go_roundw
          case rel => exact ⟨_, _, rfl, HLN, HB6, HM6, HGN⟩
          case measure => exact HLT.out
end Go.Proofs.YtiejmkjpgjbodaaGreatDoor

namespace Go.Proofs.YtiejmkjpgjbodaaGreatDoor
open Go.RowKit
set_option linter.unusedVariables false
set_option linter.unusedSimpArgs false
set_option maxRecDepth 100000
def quT : List UInt8 := [38, 113, 117, 111, 116, 59]
def escQ (q : Bool) : List UInt8 → List UInt8
  | [] => []
  | c :: r => if q = true ∧ c = 34 then quT ++ escQ q r else match lookL (c :: r) with
    | some (t, n) => t ++ escQ q (r.drop (n - 1))
    | none => c :: escQ q r
termination_by l => l.length
decreasing_by all_goals simp; try omega
theorem look_forms {l t : List UInt8} {n : Nat} (h : lookL l = some (t, n)) : ∃ r, (l = 38 :: r ∧ t = ampT ∧ n = 1) ∨ (l = 60 :: r ∧ t = ltT ∧ n = 1) ∨ (l = 62 :: r ∧ t = gtT ∧ n = 1) ∨ (l = 194 :: 160 :: r ∧ t = nbT ∧ n = 2) := by
  unfold lookL at h
  split at h <;> first
    | (rename_i r; injection h with h; injection h with h1 h2; subst h1 h2; exact ⟨r, by simp⟩)
    | cases h
theorem escQ_nil (q : Bool) : escQ q [] = [] := by rw [escQ]
theorem escQ_quote (r : List UInt8) : escQ true (34 :: r) = quT ++ escQ true r := by rw [escQ, if_pos ⟨rfl, rfl⟩]
theorem escQ_some {q : Bool} {l t : List UInt8} {n : Nat} (h : lookL l = some (t, n)) : escQ q l = t ++ escQ q (l.drop n) := by
  obtain ⟨r, ⟨rfl, rfl, rfl⟩ | ⟨rfl, rfl, rfl⟩ | ⟨rfl, rfl, rfl⟩ | ⟨rfl, rfl, rfl⟩⟩ := look_forms h
  all_goals
    rw [escQ, if_neg (by intro e; exact absurd e.2 (by decide)), h]
    rfl
theorem escQ_none {q : Bool} {c : UInt8} {r : List UInt8} (h : lookL (c :: r) = none) (hq : ¬(q = true ∧ c = 34)) : escQ q (c :: r) = c :: escQ q r := by
  rw [escQ, if_neg hq, h]
theorem esc_ind (q : Bool) {P : List UInt8 → Prop} (h0 : P []) (hq : q = true → ∀ r, P r → P (34 :: r)) (hs : ∀ l t n, lookL l = some (t, n) → P (l.drop n) → P l) (hn : ∀ c r, lookL (c :: r) = none → ¬(q = true ∧ c = 34) → P r → P (c :: r)) : ∀ (k : Nat) (l : List UInt8), l.length ≤ k → P l
  | _, [], _ => h0
  | 0, c :: r, h => absurd h (by simp)
  | k + 1, c :: r, h => by
    by_cases e : q = true ∧ c = 34
    · obtain ⟨e1, rfl⟩ := e
      exact hq e1 r (esc_ind q h0 hq hs hn k r (by simpa using h))
    · cases hl : lookL (c :: r) with
      | none => exact hn c r hl e (esc_ind q h0 hq hs hn k r (by simpa using h))
      | some p =>
        obtain ⟨t, n⟩ := p
        have hp := lookL_some hl
        exact hs _ t n hl (esc_ind q h0 hq hs hn k _ (by rw [List.length_drop]; simp only [List.length_cons] at h ⊢; omega))
theorem escG_Q (l : List UInt8) : escG l = escQ false l := by
  refine esc_ind false (P := fun l => escG l = escQ false l) ?_ ?_ ?_ ?_ l.length l (Nat.le_refl _)
  · rw [escQ_nil, escG]
  · intro h; cases h
  · intro l t n h ih
    rw [escQ_some h, escG_some h, ih]
  · intro c r h hq ih
    rw [escQ_none h hq, escG_none h, ih]
theorem look_off38 {c : UInt8} {r : List UInt8} (h : lookL (c :: r) = none) : c ≠ 38 ∧ c ≠ 60 ∧ c ≠ 62 := by
  refine ⟨?_, ?_, ?_⟩ <;> (rintro rfl; cases h)
theorem before_app {c : UInt8} {k : List UInt8} (hk : c ∉ k) (X : List UInt8) : beforeC c (k ++ c :: X) = k ∧ afterC c (k ++ c :: X) = X ∧ hasC c (k ++ c :: X) = true := by
  refine ⟨?_, ?_, by simp [hasC]⟩
  · induction k with
    | nil => simp [beforeC]
    | cons a k ih =>
      have h1 : (a != c) = true := by rw [bne_iff_ne]; rintro rfl; exact hk (by simp)
      have h2 := ih (fun h => hk (List.mem_cons_of_mem _ h))
      unfold beforeC at h2 ⊢
      rw [List.cons_append, List.takeWhile_cons, h1]
      simp only [if_true]
      rw [h2]
  · induction k with
    | nil => simp [afterC]
    | cons a k ih =>
      have h1 : (a != c) = true := by rw [bne_iff_ne]; rintro rfl; exact hk (by simp)
      have h2 := ih (fun h => hk (List.mem_cons_of_mem _ h))
      unfold afterC at h2 ⊢
      rw [List.cons_append, List.dropWhile_cons, h1]
      simp only [if_true]
      exact h2
theorem cons_off {c : UInt8} (hc : c ≠ 38) (r : List UInt8) : beforeC 38 (c :: r) = c :: beforeC 38 r ∧ afterC 38 (c :: r) = afterC 38 r ∧ hasC 38 (c :: r) = hasC 38 r := by
  have h1 : (c != 38) = true := by rw [bne_iff_ne]; exact hc
  refine ⟨?_, ?_, ?_⟩
  · unfold beforeC; rw [List.takeWhile_cons, h1]; rfl
  · unfold afterC; rw [List.dropWhile_cons, h1]; rfl
  · unfold hasC
    congr 1
    rw [List.mem_cons, eq_iff_iff]
    exact ⟨fun h => h.elim (fun e => absurd e.symm hc) id, .inr⟩
theorem decE_nil : decE [] = [] := decE_no rfl
theorem decE_cons {c : UInt8} (hc : c ≠ 38) (r : List UInt8) : decE (c :: r) = c :: decE r := by
  obtain ⟨e1, e2, e3⟩ := cons_off hc r
  cases h : hasC 38 r with
  | false => rw [decE_no h, decE_no (e3.trans h)]
  | true => rw [decE_yes h, decE_yes (e3.trans h), e1, e2, List.cons_append]
theorem decE_amp (r : List UInt8) : decE (38 :: r) = if 0 < (refN r).2 then runeL (refN r).1 ++ decE (r.drop (refN r).2) else 38 :: decE r := by
  have e1 : beforeC 38 (38 :: r) = [] := by simp [beforeC]
  have e2 : afterC 38 (38 :: r) = r := by simp [afterC]
  rw [decE_yes (by simp [hasC]), e1, e2, List.nil_append]
theorem refN_at {k : List UInt8} (hk : (59 : UInt8) ∉ k) (hl : k.length ≤ 8) (X : List UInt8) : refN (k ++ 59 :: X) = match sgn k with | some x => (x, k.length + 1) | none => (0, 0) := by
  have e : (k ++ 59 :: X).take 9 = k ++ 59 :: X.take (8 - k.length) := by
    rw [List.take_append, List.take_of_length_le (by omega)]
    obtain ⟨m, hm⟩ : ∃ m, 9 - k.length = m + 1 := ⟨8 - k.length, by omega⟩
    rw [hm, List.take_succ_cons, show m = 8 - k.length by omega]
  obtain ⟨e1, e2, e3⟩ := before_app hk (X.take (8 - k.length))
  unfold refN
  rw [e, e1, e3]
  cases sgn k <;> rfl
theorem dec_ref {k : List UInt8} {x : Int} (hk : (59 : UInt8) ∉ k) (hl : k.length ≤ 8) (hs : sgn k = some x) (X : List UInt8) : decE (38 :: (k ++ 59 :: X)) = runeL x ++ decE X := by
  rw [decE_amp, refN_at hk hl, hs]
  simp only
  rw [if_pos (Nat.succ_pos _), show (k ++ 59 :: X).drop (k.length + 1) = X by rw [List.drop_append]; simp]
theorem dec_esc (q : Bool) (l : List UInt8) : decE (escQ q l) = l := by
  refine esc_ind q (P := fun l => decE (escQ q l) = l) ?_ ?_ ?_ ?_ l.length l (Nat.le_refl _)
  · rw [escQ_nil, decE_nil]
  · rintro rfl r ih
    rw [escQ_quote]
    have := dec_ref (k := [113, 117, 111, 116]) (x := 34) (by decide) (by decide) (by decide) (escQ true r)
    rw [ih] at this
    exact this
  · intro l t n h ih
    rw [escQ_some h]
    obtain ⟨r, ⟨rfl, rfl, rfl⟩ | ⟨rfl, rfl, rfl⟩ | ⟨rfl, rfl, rfl⟩ | ⟨rfl, rfl, rfl⟩⟩ := look_forms h
    · have := dec_ref (k := [97, 109, 112]) (x := 38) (by decide) (by decide) (by decide) (escQ q r)
      exact this.trans (congrArg _ ih)
    · have := dec_ref (k := [108, 116]) (x := 60) (by decide) (by decide) (by decide) (escQ q r)
      exact this.trans (congrArg _ ih)
    · have := dec_ref (k := [103, 116]) (x := 62) (by decide) (by decide) (by decide) (escQ q r)
      exact this.trans (congrArg _ ih)
    · have := dec_ref (k := [110, 98, 115, 112]) (x := 160) (by decide) (by decide) (by decide) (escQ q r)
      exact this.trans (congrArg _ ih)
  · intro c r h hq ih
    rw [escQ_none h hq, decE_cons (look_off38 h).1, ih]
theorem name_one (c : UInt8) : nameN [c] = none := u8_all (p := fun c => nameN [c] = none) (by decide +kernel) c
theorem sgn_two {k : List UInt8} {x : Int} (h : sgn k = some x) : 2 ≤ k.length := by
  match k, h with
  | [], h => rw [show sgn [] = none by decide] at h; cases h
  | [c], h =>
    by_cases hc : c = 35
    · subst hc
      rw [show sgn [35] = none by decide] at h; cases h
    · unfold sgn at h
      split at h
      · rename_i hp
        have : 35 = c := by simpa [Lib.hasPrefix] using hp
        exact absurd this.symm hc
      · rw [name_one] at h; cases h
  | _ :: _ :: _, _ => simp
theorem refN_three {l : List UInt8} (h : 0 < (refN l).2) : 3 ≤ (refN l).2 := by
  unfold refN at h ⊢
  split
  · rename_i x h1 h2
    have := sgn_two h1
    show 3 ≤ _ + 1
    omega
  · rename_i hno
    split at h
    · rename_i x h1 h2
      exact absurd h2 (by intro h2; exact hno x h1 h2)
    · exact absurd h (by decide)
theorem decE_len : ∀ (k : Nat) (l : List UInt8), l.length ≤ k → (decE l).length ≤ l.length
  | _, [], _ => by rw [decE_nil]; exact Nat.le_refl _
  | 0, c :: r, h => absurd h (by simp)
  | k + 1, c :: r, h => by
    by_cases hc : c = 38
    · subst hc
      rw [decE_amp]
      split
      · rename_i hn
        have h3 := refN_three hn
        have hle := (refN_ok r).2
        have hr := (runeL_length (refN r).1).2.1
        have := decE_len k (r.drop (refN r).2) (by rw [List.length_drop]; simp only [List.length_cons] at h; omega)
        rw [List.length_drop] at this
        rw [List.length_append, List.length_cons]
        omega
      · have := decE_len k r (by simpa using h)
        simp only [List.length_cons]; omega
    · have := decE_len k r (by simpa using h)
      rw [decE_cons hc]
      simp only [List.length_cons]; omega
theorem esc_no (q : Bool) (l : List UInt8) : ∀ c ∈ escQ q l, c ≠ 60 ∧ c ≠ 62 ∧ (q = true → c ≠ 34) := by
  refine esc_ind q (P := fun l => ∀ c ∈ escQ q l, c ≠ 60 ∧ c ≠ 62 ∧ (q = true → c ≠ 34)) ?_ ?_ ?_ ?_ l.length l (Nat.le_refl _)
  · intro c h; rw [escQ_nil] at h; cases h
  · rintro rfl r ih c h
    rw [escQ_quote, List.mem_append] at h
    rcases h with h | h
    · have : ∀ c ∈ quT, c ≠ 60 ∧ c ≠ 62 ∧ c ≠ 34 := by decide
      obtain ⟨a1, a2, a3⟩ := this c h
      exact ⟨a1, a2, fun _ => a3⟩
    · exact ih c h
  · intro l t n h ih c hc
    rw [escQ_some h, List.mem_append] at hc
    rcases hc with hc | hc
    · have : ∀ c ∈ t, c ≠ 60 ∧ c ≠ 62 ∧ c ≠ 34 := by
        obtain ⟨r, ⟨rfl, rfl, rfl⟩ | ⟨rfl, rfl, rfl⟩ | ⟨rfl, rfl, rfl⟩ | ⟨rfl, rfl, rfl⟩⟩ := look_forms h <;> decide
      obtain ⟨a1, a2, a3⟩ := this c hc
      exact ⟨a1, a2, fun _ => a3⟩
    · exact ih c hc
  · intro c r h hq ih x hx
    rw [escQ_none h hq, List.mem_cons] at hx
    rcases hx with rfl | hx
    · obtain ⟨h1, h2, h3⟩ := look_off38 h
      exact ⟨h2, h3, fun e => fun e' => hq ⟨e, e'⟩⟩
    · exact ih x hx
theorem esc_len (q : Bool) (l : List UInt8) : (escQ q l).length ≤ 6 * l.length := by
  refine esc_ind q (P := fun l => (escQ q l).length ≤ 6 * l.length) ?_ ?_ ?_ ?_ l.length l (Nat.le_refl _)
  · rw [escQ_nil]; exact Nat.le_refl _
  · rintro rfl r ih
    rw [escQ_quote, List.length_append, show quT.length = 6 from rfl, List.length_cons]; omega
  · intro l t n h ih
    have hp := lookL_some h
    rw [List.length_drop] at ih
    rw [escQ_some h, List.length_append]; omega
  · intro c r h hq ih
    rw [escQ_none h hq, List.length_cons, List.length_cons]; omega
theorem repK_one (c : UInt8) (new : List UInt8) : ∀ l : List UInt8, Lib.replaceK [c] new (Lib.count l [c]) l = l.flatMap (fun x => if x = c then new else [x])
  | [] => by
    rw [Lib.count_one]
    rfl
  | b :: r => by
    have ih := repK_one c new r
    by_cases hb : b = c
    · subst hb
      rw [Lib.count_cons_eq, Nat.add_comm, Lib.replaceK_hit [b] new _ _ 0 (by rw [Lib.index_one]; simp [Lib.indexByte])]
      rw [List.flatMap_cons, if_pos rfl]
      show [] ++ new ++ Lib.replaceK [b] new (Lib.count r [b]) r = _
      rw [ih, List.nil_append]
    · rw [Lib.count_cons_ne b c r hb, List.flatMap_cons, if_neg hb, ← ih]
      cases hn : Lib.count r [c] with
      | zero => rfl
      | succ k =>
        obtain ⟨i, hi⟩ := Lib.index_of_count (s := r) (old := [c]) (by rw [hn]; exact Nat.succ_pos _)
        have hi2 : Lib.index (b :: r) [c] = ((i + 1 : Nat) : Int) := by
          rw [Lib.index_one] at hi ⊢
          have h1 : (b == c) = false := by simp [hb]
          have h2 : ((i : Int) == -1) = false := by rw [beq_eq_false_iff_ne]; omega
          simp [Lib.indexByte, h1, hi, h2]
        rw [Lib.replaceK_hit [c] new k _ _ hi2, Lib.replaceK_hit [c] new k _ _ hi]
        simp [Nat.add_right_comm]
theorem repAll_one (c : UInt8) (new : List UInt8) (hne : ([c] == new) = false) (l : List UInt8) : Lib.replaceAll l [c] new = l.flatMap (fun x => if x = c then new else [x]) := by
  unfold Lib.replaceAll Lib.replace Lib.replaceNum
  rw [hne, if_neg (by decide), if_pos (.inl (by decide)), repK_one]
theorem escQ_value (l : List UInt8) : escQ true l = Lib.replaceAll (escQ false l) [34] quT := by
  rw [repAll_one 34 quT (by decide)]
  refine esc_ind true (P := fun l => escQ true l = (escQ false l).flatMap (fun x => if x = 34 then quT else [x])) ?_ ?_ ?_ ?_ l.length l (Nat.le_refl _)
  · rw [escQ_nil, escQ_nil]; rfl
  · intro _ r ih
    rw [escQ_quote, escQ_none (q := false) (c := 34) (r := r) rfl (by intro e; cases e.1), List.flatMap_cons, if_pos rfl, ih]
  · intro l t n h ih
    rw [escQ_some h, escQ_some h, List.flatMap_append, ← ih]
    congr 1
    obtain ⟨r, ⟨rfl, rfl, rfl⟩ | ⟨rfl, rfl, rfl⟩ | ⟨rfl, rfl, rfl⟩ | ⟨rfl, rfl, rfl⟩⟩ := look_forms h <;> decide
  · intro c r h hq ih
    rw [escQ_none h hq, escQ_none h (by intro e; cases e.1), List.flatMap_cons, if_neg (by intro e; exact hq ⟨rfl, e⟩), ← ih]
    rfl
end Go.Proofs.YtiejmkjpgjbodaaGreatDoor

namespace Go.Proofs.YtiejmkjpgjbodaaGreatDoor
open Go.RowKit
set_option linter.unusedVariables false
set_option linter.unusedSimpArgs false
set_option maxRecDepth 100000
theorem race_off (w : World) : (callFunc 251 #[]).run Tryz.prog w = .ok (.value (.tuple #[])) w := run_call_mark0 Tryz.func251 (by kernel_rfl) (by kernel_rfl) (by kernel_rfl) .disable (by kernel_rfl) w
theorem race_on (w : World) : (callFunc 253 #[]).run Tryz.prog w = .ok (.value (.tuple #[])) w := run_call_mark0 Tryz.func253 (by kernel_rfl) (by kernel_rfl) (by kernel_rfl) .enable (by kernel_rfl) w
theorem race_got (a : Addr) (w : World) : (callFunc 254 #[.pointer (some a)]).run Tryz.prog w = .ok (.value (.tuple #[])) w := run_call_marked Tryz.func254 (by kernel_rfl) (by kernel_rfl) (by kernel_rfl) .acquire (by kernel_rfl) a w
theorem race_let (a : Addr) (w : World) : (callFunc 256 #[.pointer (some a)]).run Tryz.prog w = .ok (.value (.tuple #[])) w := run_call_marked Tryz.func256 (by kernel_rfl) (by kernel_rfl) (by kernel_rfl) .releaseMerge (by kernel_rfl) a w
theorem done_set (a : Addr) (x : Value) (u : FrameMode) (w : World) (hc : w.cell? a = some x) (hz : w.frozen? a = false) :
    CallsD Tryz.prog 213 #[.pointer (some a), .bool true] u w fun e u' w' => u' = u ∧ (e = .returned (.tuple #[]) ∧ w' = w.drew.setCell a (.int .u32 1)) := by
  have hc' : w.drew.cell? a = some x := by go_simp
  have hz' : w.drew.frozen? a = false := by go_simp
  have hst := run_call_store (P := Tryz.prog) Tryz.func240 (by kernel_rfl) (by kernel_rfl) (by kernel_rfl) (by kernel_rfl) (k := .u32) (y := 1) hc' hz'
  go_enter_d Tryz.func213, Tryz.ntmps213
  go_wp2
  go_region_calls
  all_goals (go_end0; exact ⟨rfl, rfl⟩)
theorem lock_let (a : Addr) (u : FrameMode) (w : World) (hc : w.cell? a = some (.int .i32 1)) (hz : w.frozen? a = false) :
    CallsD Tryz.prog 212 #[.pointer (some a)] u w fun e u' w' => u' = u ∧ (e = .returned (.tuple #[]) ∧ w' = w.setCell a (.int .i32 0)) := by
  have hd := race_off
  have he := race_on
  have hr := race_let
  have hadd := run_call_add (P := Tryz.prog) Tryz.func257 (by kernel_rfl) (by kernel_rfl) (by kernel_rfl) .i32 (by kernel_rfl) (y := -1) (s := 0) hc hz (by simp [go_sem]; rfl)
  have hcv := run_convert_to_unsafe (P := Tryz.prog) (src := 270) (dst := 153) Tryz.underlying270 Tryz.underlying153 (by kernel_rfl) hc
  go_enter_d Tryz.func212, Tryz.ntmps212
  go_wp2
  go_end0
  go_wp2
  go_end0
  exact ⟨rfl, rfl⟩
theorem lock_got (a : Addr) (w : World) (hc : w.cell? a = some (.int .i32 0)) (hz : w.frozen? a = false) :
    Calls Tryz.prog 211 #[.pointer (some a)] w fun e w' => e = .returned (.tuple #[]) ∧ w' = w.setCell a (.int .i32 1) := by
  have hd := race_off
  have he := race_on
  have ha := race_got
  have hcas := run_call_cas_hit (P := Tryz.prog) Tryz.func252 (by kernel_rfl) (by kernel_rfl) (by kernel_rfl) .i32 (by kernel_rfl) (y := 1) hc hz
  have hc' : (w.setCell a (.int .i32 1)).cell? a = some (.int .i32 1) := World.cell?_setCell_same w a _ hc
  have hcv := run_convert_to_unsafe (P := Tryz.prog) (src := 270) (dst := 153) Tryz.underlying270 Tryz.underlying153 (by kernel_rfl) hc'
  go_enter Tryz.func211, Tryz.ntmps211
  go_wp2
  first | go_end0 | (simp only [Exit.inBlock, Exit.then]; refine bodyPost_ret (results_none rfl _ _ _) rfl ?_) | refine bodyPost_ret (results_none rfl _ _ _) rfl ?_
  go_wp2
  go_end0
  exact ⟨rfl, rfl⟩
end Go.Proofs.YtiejmkjpgjbodaaGreatDoor

namespace Go.Proofs.YtiejmkjpgjbodaaGreatDoor
open Go.RowKit
set_option linter.unusedVariables false
set_option linter.unusedSimpArgs false
set_option maxRecDepth 100000
theorem done_get (a : Addr) (w : World) (h0 : w.cell? a = some (.int .u32 0)) :
    Calls Tryz.prog 182 #[.pointer (some a)] w fun e w' => e = .returned (.bool false) ∧ w = w' := by
  have hl := run_call_load (P := Tryz.prog) Tryz.func210 (by kernel_rfl) (by kernel_rfl) (by kernel_rfl) .u32 (by kernel_rfl) h0
  go_enter Tryz.func182, Tryz.ntmps182
  go_wp2
  go_ret
  exact ⟨rfl, rfl⟩
set_option maxHeartbeats 1600000 in
theorem slow_build (b : Nat) (w : World) (Q : World → Prop)
    (h0 : w.cell? ⟨b, 0, none⟩ = some (.int .u32 0)) (h1 : w.cell? ⟨b, 1, none⟩ = some (.int .i32 0)) (f0 : w.frozen? ⟨b, 0, none⟩ = false) (f1 : w.frozen? ⟨b, 1, none⟩ = false)
    (hC : Calls Tryz.prog 164 #[.pointer (some ⟨b, 0, none⟩)] (w.setCell ⟨b, 1, none⟩ (.int .i32 1)) fun e w' => e = .returned (.tuple #[]) ∧ Q w')
    (hQ : ∀ w', Q w' → w'.cell? ⟨b, 0, none⟩ = some (.int .u32 0) ∧ w'.cell? ⟨b, 1, none⟩ = some (.int .i32 1) ∧ w'.frozen? ⟨b, 0, none⟩ = false ∧ w'.frozen? ⟨b, 1, none⟩ = false) :
    Calls Tryz.prog 183 #[.pointer (some ⟨b, 0, none⟩), .func (.func 164) #[.pointer (some ⟨b, 0, none⟩)] #[]] w fun e w' => e = .returned (.tuple #[]) ∧
      ∃ w1, Q w1 ∧ w' = (w1.drew.setCell ⟨b, 0, none⟩ (.int .u32 1)).setCell ⟨b, 1, none⟩ (.int .i32 0) := by
  have hd1 : (w.setCell ⟨b, 1, none⟩ (.int .i32 1)).cell? ⟨b, 0, none⟩ = some (.int .u32 0) := (World.cell?_setCell_other _ ⟨b, 1, none⟩ ⟨b, 0, none⟩ _ (by simp)).trans h0
  have hnot : ∀ (x : Bool) (w : World), (Op.unary .not (.bool x)).run Tryz.prog w = .ok (.bool (!x)) w := fun _ _ => rfl
  go_enter_defers Tryz.func183, Tryz.ntmps183
  go_wp2_with (go_at_call 211; refine (lock_got ⟨b, 1, none⟩ _ (by go_simp) (by go_simp)).mono ?_; rintro e w' ⟨rfl, rfl⟩)
  go_wp2_with (first
    | (go_at_call 182; refine (done_get ⟨b, 0, none⟩ _ hd1).mono ?_; rintro e w' ⟨rfl, rfl⟩)
    | (go_at_call 164; refine hC.mono ?_; rintro e w2 ⟨rfl, hq⟩))
  refine leaves_cons (f := 213) (args := #[.pointer (some ⟨b, 0, none⟩), .bool true]) (by simp) (by simp [go_sem]) ?_
  refine (done_set ⟨b, 0, none⟩ (.int .u32 0) .returning _ (hQ _ hq).1 (hQ _ hq).2.2.1).mono ?_
  rintro e u' w'' ⟨rfl, rfl, rfl⟩
  refine leaves_cons (f := 212) (args := #[.pointer (some ⟨b, 1, none⟩)]) (by simp [settle]) (by simp [go_sem]) ?_
  refine (lock_let ⟨b, 1, none⟩ _ _ ?_ ?_).mono ?_
  · refine (World.cell?_setCell_other _ ⟨b, 0, none⟩ ⟨b, 1, none⟩ _ (by simp)).trans ?_
    rw [World.cell?_drew]
    exact (hQ _ hq).2.1
  · simp [(hQ _ hq).2.2.2]
  rintro e u' w'' ⟨rfl, rfl, rfl⟩
  simp [Leaves, settle, results, Tryz.results183]
  exact ⟨w2, hq, rfl⟩
set_option maxHeartbeats 1600000 in
theorem once_build (b : Nat) (w : World) (Q : World → Prop)
    (h0 : w.cell? ⟨b, 0, none⟩ = some (.int .u32 0)) (h1 : w.cell? ⟨b, 1, none⟩ = some (.int .i32 0)) (f0 : w.frozen? ⟨b, 0, none⟩ = false) (f1 : w.frozen? ⟨b, 1, none⟩ = false)
    (hC : Calls Tryz.prog 164 #[.pointer (some ⟨b, 0, none⟩)] (w.setCell ⟨b, 1, none⟩ (.int .i32 1)) fun e w' => e = .returned (.tuple #[]) ∧ Q w')
    (hQ : ∀ w', Q w' → w'.cell? ⟨b, 0, none⟩ = some (.int .u32 0) ∧ w'.cell? ⟨b, 1, none⟩ = some (.int .i32 1) ∧ w'.frozen? ⟨b, 0, none⟩ = false ∧ w'.frozen? ⟨b, 1, none⟩ = false) :
    Calls Tryz.prog 163 #[.pointer (some ⟨b, 0, none⟩), .func (.func 164) #[.pointer (some ⟨b, 0, none⟩)] #[]] w fun e w' => e = .returned (.tuple #[]) ∧
      ∃ w1, Q w1 ∧ w' = (w1.drew.setCell ⟨b, 0, none⟩ (.int .u32 1)).setCell ⟨b, 1, none⟩ (.int .i32 0) := by
  have hnot : ∀ (x : Bool) (w : World), (Op.unary .not (.bool x)).run Tryz.prog w = .ok (.bool (!x)) w := fun _ _ => rfl
  go_enter Tryz.func163, Tryz.ntmps163
  go_wp2_with (first
    | (go_at_call 182; refine (done_get ⟨b, 0, none⟩ _ h0).mono ?_; rintro e w' ⟨rfl, rfl⟩)
    | (go_at_call 183; refine (slow_build b _ Q h0 h1 f0 f1 hC hQ).mono ?_; rintro e w' ⟨rfl, hq⟩))
  go_end0
  exact ⟨rfl, hq⟩
end Go.Proofs.YtiejmkjpgjbodaaGreatDoor

namespace Go.Proofs.YtiejmkjpgjbodaaGreatDoor
open Go.RowKit
set_option linter.unusedVariables false
set_option linter.unusedSimpArgs false
set_option maxRecDepth 100000
set_option maxHeartbeats 2000000 in
theorem buildE_any (b g c : Nat) (w : World) (ho : w.cell? ⟨b, 4, none⟩ = some (.slice (some ⟨g, 0, none⟩) 8 c)) (hg : OldNewE g w) :
    Calls Tryz.prog 184 #[.pointer (some ⟨b, 0, none⟩)] w fun e w' => e = .returned (.iface 226 (.pointer (some ⟨w.heap.size, 0, none⟩))) ∧ TrieX w.heap.size w.heap.size w' ∧ Below w.heap.size w w' := by
  have g0 := (hg 0 (by omega)).1
  have g1 := (hg 0 (by omega)).2
  have g2 := (hg 1 (by omega)).1
  have g3 := (hg 1 (by omega)).2
  have g4 := (hg 2 (by omega)).1
  have g5 := (hg 2 (by omega)).2
  have g6 := (hg 3 (by omega)).1
  have e0 : w.cell? ⟨g, 0, none⟩ = some (.string ⟨#[38]⟩) := g0
  have e1 : w.cell? ⟨g, 1, none⟩ = some (.string ⟨#[38, 97, 109, 112, 59]⟩) := g1
  have e2 : w.cell? ⟨g, 2, none⟩ = some (.string ⟨#[60]⟩) := g2
  have e3 : w.cell? ⟨g, 3, none⟩ = some (.string ⟨#[38, 108, 116, 59]⟩) := g3
  have e4 : w.cell? ⟨g, 4, none⟩ = some (.string ⟨#[62]⟩) := g4
  have e5 : w.cell? ⟨g, 5, none⟩ = some (.string ⟨#[38, 103, 116, 59]⟩) := g5
  have e6 : w.cell? ⟨g, 6, none⟩ = some (.string ⟨#[194, 160]⟩) := g6
  have HG := hide hg
  clear g0 g1 g2 g3 g4 g5 g6 hg
  go_enter Tryz.func184, Tryz.ntmps184
  go_wp2_with fail
  go_loop [4, 5] (fun a i => (i = .int .i64 0 ∧ a = .bool true) ∨ (i = .int .i64 2 ∧ a = .bool false) ∨ (i = .int .i64 4 ∧ a = .bool false) ∨ (i = .int .i64 6 ∧ a = .bool false)) (fun _ i => 8 - (intOf i).toNat)
  case atStart => exact .inl ⟨rfl, rfl⟩
  case round =>
    rcases hrel with ⟨rfl, rfl⟩ | ⟨rfl, rfl⟩ | ⟨rfl, rfl⟩ | ⟨rfl, rfl⟩
    · go_wp2_with fail
      exact ⟨.inr (.inl ⟨rfl, rfl⟩), by decide⟩
    · go_wp2_with fail
      exact ⟨.inr (.inr (.inl ⟨rfl, rfl⟩)), by decide⟩
    · go_wp2_with fail
      exact ⟨.inr (.inr (.inr ⟨rfl, rfl⟩)), by decide⟩
    · go_wp2_with (go_at_call 215; refine (makeGen_any g c _ HG.out).mono ?_; rintro e w1 ⟨rfl, ht, hb⟩; have HT := hide ht; have HB := hide hb; clear ht hb)
      go_ret
      exact ⟨rfl, HT.out, HB.out⟩
def BuiltE (W : World) (b : Nat) (w w' : World) : Prop :=
  TrieX w.heap.size w.heap.size w' ∧ Below W.heap.size W w' ∧ w.heap.size ≤ w'.heap.size ∧ w'.cell? ⟨b, 3, none⟩ = some (.iface 226 (.pointer (some ⟨w.heap.size, 0, none⟩))) ∧
  w'.cell? ⟨b, 0, none⟩ = some (.int .u32 0) ∧ w'.cell? ⟨b, 1, none⟩ = some (.int .i32 1) ∧ w'.frozen? ⟨b, 0, none⟩ = false ∧ w'.frozen? ⟨b, 1, none⟩ = false
set_option maxHeartbeats 2000000 in
theorem buildOnceE_any (b g c : Nat) (W w : World) (hW : Below W.heap.size W w) (hWb : W.heap.size ≤ b) (h0 : w.cell? ⟨b, 0, none⟩ = some (.int .u32 0)) (h1 : w.cell? ⟨b, 1, none⟩ = some (.int .i32 1)) (h3 : w.cell? ⟨b, 3, none⟩ = some .nilIface)
    (hf : ∀ i : Nat, w.frozen? ⟨b, i, none⟩ = false) (h4 : w.cell? ⟨b, 4, none⟩ = some (.slice (some ⟨g, 0, none⟩) 8 c)) (hg : OldNewE g w) :
    Calls Tryz.prog 164 #[.pointer (some ⟨b, 0, none⟩)] w fun e w' => e = .returned (.tuple #[]) ∧ BuiltE W b w w' := by
  have hbl : b < w.heap.size := World.block_lt_of_cell? w _ h0
  have HF := hide hf
  have HG := hide hg
  clear hf hg
  go_enter Tryz.func164, Tryz.ntmps164
  go_wp2_with (go_at_call 184; refine (buildE_any b g c _ h4 HG.out).mono ?_; rintro e w2 ⟨rfl, ht, hb2⟩; have HT := hide ht; have k3 := (hb2.cell (p := ⟨b, 3, none⟩) hbl).trans h3; have k4 := (hb2.cell (p := ⟨b, 4, none⟩) hbl).trans h4; have z3 := (hb2.frozen (p := ⟨b, 3, none⟩) hbl).trans (HF.out 3); have z4 := (hb2.frozen (p := ⟨b, 4, none⟩) hbl).trans (HF.out 4); have HB2 := hide hb2; clear ht hb2)
  go_end0
  have k0 := (HB2.out.cell (p := ⟨b, 0, none⟩) hbl).trans h0
  have k1 := (HB2.out.cell (p := ⟨b, 1, none⟩) hbl).trans h1
  have z0 := (HB2.out.frozen (p := ⟨b, 0, none⟩) hbl).trans (HF.out 0)
  have z1 := (HB2.out.frozen (p := ⟨b, 1, none⟩) hbl).trans (HF.out 1)
  have hWw : W.heap.size ≤ w.heap.size := hW.size
  refine ⟨rfl, (HT.out.set hbl _).set hbl _, ((hW.trans (HB2.out.mono hWw)).setCell hWb _).setCell hWb _, ?_, ?_, ?_, ?_, ?_, ?_⟩
  · rw [z_set, z_set]; exact HB2.out.size
  · exact (World.cell?_setCell_other _ _ _ _ (ne_off (by decide))).trans (World.cell?_setCell_same _ _ _ k3)
  · exact ((World.cell?_setCell_other _ _ _ _ (ne_off (by decide))).trans (World.cell?_setCell_other _ _ _ _ (ne_off (by decide)))).trans k0
  · exact ((World.cell?_setCell_other _ _ _ _ (ne_off (by decide))).trans (World.cell?_setCell_other _ _ _ _ (ne_off (by decide)))).trans k1
  · rw [World.frozen?_setCell, World.frozen?_setCell]; exact z0
  · rw [World.frozen?_setCell, World.frozen?_setCell]; exact z1
def NewE (b : Nat) (w : World) : Prop :=
  w.cell? ⟨b, 0, none⟩ = some (.int .u32 0) ∧ w.cell? ⟨b, 1, none⟩ = some (.int .i32 0) ∧ w.cell? ⟨b, 3, none⟩ = some .nilIface ∧ (∀ i : Nat, w.frozen? ⟨b, i, none⟩ = false) ∧ ∃ g c : Nat, w.cell? ⟨b, 4, none⟩ = some (.slice (some ⟨g, 0, none⟩) 8 c) ∧ OldNewE g w ∧ b ≠ g
theorem doE_build (b : Nat) (W w : World) (hW : Below W.heap.size W w) (hWb : W.heap.size ≤ b) (hn : NewE b w) :
    Calls Tryz.prog 163 #[.pointer (some ⟨b, 0, none⟩), .func (.func 164) #[.pointer (some ⟨b, 0, none⟩)] #[]] w fun e w' => e = .returned (.tuple #[]) ∧
      TrieX w.heap.size w.heap.size w' ∧ Below W.heap.size W w' ∧ w.heap.size ≤ w'.heap.size ∧ w'.cell? ⟨b, 3, none⟩ = some (.iface 226 (.pointer (some ⟨w.heap.size, 0, none⟩))) := by
  obtain ⟨h0, h1, h3, hf, g, c, h4, ho, hbg⟩ := hn
  have hbl : b < w.heap.size := World.block_lt_of_cell? w _ h0
  have es : (w.setCell ⟨b, 1, none⟩ (.int .i32 1)).heap.size = w.heap.size := World.size_setCell ..
  have hb := buildOnceE_any b g c W (w.setCell ⟨b, 1, none⟩ (.int .i32 1)) (hW.setCell hWb _) hWb
    ((World.cell?_setCell_other _ _ _ _ (ne_off (by decide))).trans h0) (World.cell?_setCell_same _ _ _ h1) ((World.cell?_setCell_other _ _ _ _ (ne_off (by decide))).trans h3)
    (fun i => by rw [World.frozen?_setCell]; exact hf i) ((World.cell?_setCell_other _ _ _ _ (ne_off (by decide))).trans h4)
    (fun k hk => ⟨(World.cell?_setCell_other _ _ _ _ (ne_blk hbg)).trans (ho k hk).1, (World.cell?_setCell_other _ _ _ _ (ne_blk hbg)).trans (ho k hk).2⟩)
  refine (once_build b w _ h0 h1 (hf 0) (hf 1) hb (fun w' hq => ⟨hq.2.2.2.2.1, hq.2.2.2.2.2.1, hq.2.2.2.2.2.2.1, hq.2.2.2.2.2.2.2⟩)).mono ?_
  rintro e w' ⟨rfl, w1, hq, rfl⟩
  obtain ⟨q1, q2, q3, q4, _⟩ := hq
  rw [es] at q1 q3 q4
  refine ⟨rfl, ((q1.drew).set hbl _).set hbl _, ((q2.drew).setCell hWb _).setCell hWb _, ?_, ?_⟩
  · rw [z_set, z_set]; exact q3
  · refine ((World.cell?_setCell_other _ _ _ _ (ne_off (by decide))).trans (World.cell?_setCell_other _ _ _ _ (ne_off (by decide)))).trans ?_
    rw [World.cell?_drew]; exact q4
theorem meth_generic (a : Addr) (w : World) : (method 423 226 (.pointer (some a)) "Replace").run Tryz.prog w = .ok (307, .pointer (some a)) w := by kernel_rfl
set_option maxHeartbeats 2000000 in
theorem replacerE_any (s : ByteArray) (b : Nat) (W w : World) (hW : Below W.heap.size W w) (hWb : W.heap.size ≤ b) (hn : NewE b w) (hs : s.size ≤ 17592186044416) :
    Calls Tryz.prog 138 #[.pointer (some ⟨b, 0, none⟩), .string s] w fun e w' => e = .returned (.string (str (escQ false s.data.toList))) ∧ Below W.heap.size W w' := by
  rw [← escG_Q]
  have hmt := meth_generic
  have HD := hide (doE_build b W w hW hWb hn)
  have HS := hide hs
  have HW := hide hW.size
  clear hW hs hn
  go_enter Tryz.func138, Tryz.ntmps138
  go_wp2_with (first
    | (go_at_call 163; refine HD.out.mono ?_; rintro e w1 ⟨rfl, hr1, hb1, hz1, hc1⟩; have HR1 := hide hr1; have HB1 := hide hb1; have HZ1 := hide hz1; clear hr1 hb1 hz1)
    | (go_at_call 307; obtain ⟨T, n0, n1, n2, n4, n5, ht, _, hi⟩ := HR1.out; refine (greplace_any s _ T n0 n1 n2 n4 n5 _ ht hi HS.out).mono ?_; rintro e w2 ⟨rfl, hb2⟩; have HB2 := hide hb2; clear hb2 ht hi))
  go_ret
  exact ⟨rfl, HB1.out.trans (HB2.out.mono HB1.out.size)⟩
theorem newReplacerE_any (g : Nat) (w : World) (hg : OldNewE g w) :
    Calls Tryz.prog 137 #[.slice (some ⟨g, 0, none⟩) 8 8] w fun e w' => ∃ b : Nat, e = .returned (.pointer (some ⟨b, 0, none⟩)) ∧ w.heap.size ≤ b ∧ Below w.heap.size w w' ∧ NewE b w' := by
  have g0 := (hg 0 (by omega)).1
  have g1 := (hg 0 (by omega)).2
  have g2 := (hg 1 (by omega)).1
  have g3 := (hg 1 (by omega)).2
  have g4 := (hg 2 (by omega)).1
  have g5 := (hg 2 (by omega)).2
  have g6 := (hg 3 (by omega)).1
  have g7 := (hg 3 (by omega)).2
  have e0 : w.cell? ⟨g, 0, none⟩ = some (.string ⟨#[38]⟩) := g0
  have e1 : w.cell? ⟨g, 1, none⟩ = some (.string ⟨#[38, 97, 109, 112, 59]⟩) := g1
  have e2 : w.cell? ⟨g, 2, none⟩ = some (.string ⟨#[60]⟩) := g2
  have e3 : w.cell? ⟨g, 3, none⟩ = some (.string ⟨#[38, 108, 116, 59]⟩) := g3
  have e4 : w.cell? ⟨g, 4, none⟩ = some (.string ⟨#[62]⟩) := g4
  have e5 : w.cell? ⟨g, 5, none⟩ = some (.string ⟨#[38, 103, 116, 59]⟩) := g5
  have e6 : w.cell? ⟨g, 6, none⟩ = some (.string ⟨#[194, 160]⟩) := g6
  have e7 : w.cell? ⟨g, 7, none⟩ = some (.string ⟨#[38, 110, 98, 115, 112, 59]⟩) := g7
  clear g0 g1 g2 g3 g4 g5 g6 g7 hg
  go_enter Tryz.func137, Tryz.ntmps137
  go_wp2_with fail
  go_ret
  generalize (Question.appendCap 8 0 9).cut _ = cp
  have es : ∀ C T, (w.alloc (.cells C T)).heap.size = w.heap.size + 1 := fun C T => World.size_alloc ..
  refine ⟨w.heap.size + 1, rfl, Nat.le_succ _, (((Below.refl _ w).alloc (Nat.le_refl _) _).alloc (by rw [es]; exact Nat.le_succ _) _).drew, ?_, ?_, ?_, fun i => ?_, w.heap.size, cp, ?_, fun k hk => ?_, by omega⟩
  · rw [World.cell?_drew, World.cell?_alloc_at _ _ _ _ (es _ _).symm]; rfl
  · rw [World.cell?_drew, World.cell?_alloc_at _ _ _ _ (es _ _).symm]; rfl
  · rw [World.cell?_drew, World.cell?_alloc_at _ _ _ _ (es _ _).symm]; rfl
  · rw [World.frozen?_drew]; exact World.frozen?_alloc_at _ _ _ _ (es _ _).symm
  · rw [World.cell?_drew, World.cell?_alloc_at _ _ _ _ (es _ _).symm]; rfl
  · match k, hk with
    | 0, _ => exact ⟨by rw [World.cell?_drew, World.cell?_alloc_past _ _ _ (by rw [es]; exact Nat.lt_succ_self _), World.cell?_alloc_at _ _ _ _ rfl, Array.getElem?_append_left (by decide)]; rfl, by rw [World.cell?_drew, World.cell?_alloc_past _ _ _ (by rw [es]; exact Nat.lt_succ_self _), World.cell?_alloc_at _ _ _ _ rfl, Array.getElem?_append_left (by decide)]; rfl⟩
    | 1, _ => exact ⟨by rw [World.cell?_drew, World.cell?_alloc_past _ _ _ (by rw [es]; exact Nat.lt_succ_self _), World.cell?_alloc_at _ _ _ _ rfl, Array.getElem?_append_left (by decide)]; rfl, by rw [World.cell?_drew, World.cell?_alloc_past _ _ _ (by rw [es]; exact Nat.lt_succ_self _), World.cell?_alloc_at _ _ _ _ rfl, Array.getElem?_append_left (by decide)]; rfl⟩
    | 2, _ => exact ⟨by rw [World.cell?_drew, World.cell?_alloc_past _ _ _ (by rw [es]; exact Nat.lt_succ_self _), World.cell?_alloc_at _ _ _ _ rfl, Array.getElem?_append_left (by decide)]; rfl, by rw [World.cell?_drew, World.cell?_alloc_past _ _ _ (by rw [es]; exact Nat.lt_succ_self _), World.cell?_alloc_at _ _ _ _ rfl, Array.getElem?_append_left (by decide)]; rfl⟩
    | 3, _ => exact ⟨by rw [World.cell?_drew, World.cell?_alloc_past _ _ _ (by rw [es]; exact Nat.lt_succ_self _), World.cell?_alloc_at _ _ _ _ rfl, Array.getElem?_append_left (by decide)]; rfl, by rw [World.cell?_drew, World.cell?_alloc_past _ _ _ (by rw [es]; exact Nat.lt_succ_self _), World.cell?_alloc_at _ _ _ _ rfl, Array.getElem?_append_left (by decide)]; rfl⟩
theorem old_newE (w : World) (t : TypeId) : OldNewE w.heap.size (w.alloc (.cells #[.string ⟨#[38]⟩, .string ⟨#[38, 97, 109, 112, 59]⟩, .string ⟨#[60]⟩, .string ⟨#[38, 108, 116, 59]⟩, .string ⟨#[62]⟩, .string ⟨#[38, 103, 116, 59]⟩, .string ⟨#[194, 160]⟩, .string ⟨#[38, 110, 98, 115, 112, 59]⟩] t)) := by
  intro k hk
  match k, hk with
  | 0, _ => exact ⟨by rw [World.cell?_alloc_at _ _ _ _ rfl]; rfl, by rw [World.cell?_alloc_at _ _ _ _ rfl]; rfl⟩
  | 1, _ => exact ⟨by rw [World.cell?_alloc_at _ _ _ _ rfl]; rfl, by rw [World.cell?_alloc_at _ _ _ _ rfl]; rfl⟩
  | 2, _ => exact ⟨by rw [World.cell?_alloc_at _ _ _ _ rfl]; rfl, by rw [World.cell?_alloc_at _ _ _ _ rfl]; rfl⟩
  | 3, _ => exact ⟨by rw [World.cell?_alloc_at _ _ _ _ rfl]; rfl, by rw [World.cell?_alloc_at _ _ _ _ rfl]; rfl⟩
set_option maxHeartbeats 2000000 in
theorem entText_any (s : ByteArray) (w : World) (hs : s.size ≤ 17592186044416) :
    Calls Tryz.prog 97 #[.string s] w fun e w' => e = .returned (.string (str (escQ false s.data.toList))) ∧ Below w.heap.size w w' := by
  obtain ⟨X, hX⟩ : ∃ X, X = str (escQ false s.data.toList) := ⟨_, rfl⟩
  have HX := hide hX
  have HON := hide (old_newE w 9)
  have HB0 : Hid (Below w.heap.size w (w.alloc (.cells #[.string ⟨#[38]⟩, .string ⟨#[38, 97, 109, 112, 59]⟩, .string ⟨#[60]⟩, .string ⟨#[38, 108, 116, 59]⟩, .string ⟨#[62]⟩, .string ⟨#[38, 103, 116, 59]⟩, .string ⟨#[194, 160]⟩, .string ⟨#[38, 110, 98, 115, 112, 59]⟩] 9))) := hide ((Below.refl _ w).alloc (Nat.le_refl _) _)
  rw [← hX]
  clear hX
  go_enter Tryz.func97, Tryz.ntmps97
  go_wp2_with (first
    | (go_at_call 137; refine (newReplacerE_any _ _ HON.out).mono ?_; rintro e w1 ⟨b, rfl, hbb, hb1, hn1⟩; have HN1 := hide hn1; have HB1 := hide (HB0.out.trans (hb1.mono HB0.out.size)); have HBB := hide (Nat.le_trans HB0.out.size hbb); clear hbb hb1 hn1)
    | (go_at_call 138; refine (replacerE_any s b w _ HB1.out HBB.out HN1.out hs).mono ?_; rw [← HX.out]; rintro e w2 ⟨rfl, hb2⟩; have HB2 := hide hb2; clear hb2))
  go_ret
  exact ⟨rfl, HB2.out⟩
end Go.Proofs.YtiejmkjpgjbodaaGreatDoor

namespace Go.Proofs.YtiejmkjpgjbodaaGreatDoor
set_option linter.unusedVariables false
set_option linter.unusedSimpArgs false
theorem tw_of {p : UInt8 → Bool} {m b : List UInt8} {c : UInt8} (h : ∀ x ∈ m, p x = true) (hc : p c = false) : (m ++ c :: b).takeWhile p = m ∧ (m ++ c :: b).dropWhile p = c :: b := by
  induction m with
  | nil => simp [hc]
  | cons a r ih =>
    have ha := h a (List.mem_cons_self ..)
    have := ih (fun x hx => h x (List.mem_cons_of_mem _ hx))
    simp [ha, this.1, this.2]
def attrW (escV : List UInt8 → List UInt8) (a : AtL) : List UInt8 := 32 :: (a.1 ++ 61 :: 34 :: (escV a.2 ++ [34]))
def attrsW (escV : List UInt8 → List UInt8) (A : List AtL) : List UInt8 := A.flatMap (attrW escV)
def tokW (escT escV : List UInt8 → List UInt8) (t : TokL) : List UInt8 :=
  if t.kind = 1 then escT t.text else if t.kind = 2 then 60 :: (t.name ++ (attrsW escV t.attrs ++ [62])) else if t.kind = 3 then 60 :: 47 :: (t.name ++ [62]) else []
theorem alnum_ends (c : UInt8) (h : (letterB c || digitB c) = true) : attrEndB c = false ∧ whs c = false ∧ c ≠ 62 ∧ c ≠ 47 ∧ c ≠ 33 ∧ c ≠ 63 ∧ nameEndB c = false :=
  u8_all (p := fun c => (letterB c || digitB c) = true → (attrEndB c = false ∧ whs c = false ∧ c ≠ 62 ∧ c ≠ 47 ∧ c ≠ 33 ∧ c ≠ 63 ∧ nameEndB c = false)) (by decide +kernel) c h
structure EscOK (dec escT escV : List UInt8 → List UInt8) : Prop where
  t60 : ∀ x, 60 ∉ escT x
  tdec : ∀ x, dec (escT x) = x
  tne : ∀ x, x ≠ [] → escT x ≠ []
  v34 : ∀ x, 34 ∉ escV x
  vdec : ∀ x, dec (escV x) = x
theorem markN_upto {R : List UInt8} (hR : R = [] ∨ isMarkB R = true) : ∀ a : List UInt8, 60 ∉ a → markN (a ++ R) = a.length
  | [], _ => by
    cases R with
    | nil => rfl
    | cons c r =>
      show markN (c :: r) = 0
      unfold markN
      rcases hR with h | h
      · cases h
      · rw [if_pos h]
  | c :: a, h => by
    have hc : c ≠ 60 := fun e => h (by rw [e]; exact List.mem_cons_self ..)
    have hm : isMarkB (c :: (a ++ R)) = false := by
      unfold isMarkB
      split
      · rename_i heq; injection heq with h1 h2; exact absurd h1 hc
      · rfl
    rw [List.cons_append]
    unfold markN
    rw [if_neg (by rw [hm]; decide), markN_upto hR a (fun hm => h (List.mem_cons_of_mem _ hm))]; rfl
theorem mark_start {c : UInt8} (h : letterB c = true) (r : List UInt8) : isMarkB (60 :: c :: r) = true := by
  have := alnum_ends c (by rw [h]; rfl)
  unfold isMarkB
  simp only
  rw [if_neg (fun e => e.elim this.2.2.2.2.1 this.2.2.2.2.2.1), if_neg this.2.2.2.1]
  exact h
theorem markL_start {dec : List UInt8 → List UInt8} {c : UInt8} (h : letterB c = true) (r : List UInt8) : markL dec (c :: r) = startL dec (c :: r) := by
  have := alnum_ends c (by rw [h]; rfl)
  unfold markL
  split
  · rename_i q heq; injection heq with h1 h2; exact absurd h1 this.2.2.2.1
  · rename_i q heq; injection heq with h1 h2; exact absurd h1 this.2.2.2.2.1
  · rename_i q heq; injection heq with h1 h2; exact absurd h1 this.2.2.2.2.2.1
  · rfl
end Go.Proofs.YtiejmkjpgjbodaaGreatDoor

namespace Go.Proofs.YtiejmkjpgjbodaaGreatDoor
set_option linter.unusedVariables false
set_option linter.unusedSimpArgs false
def kindN (z : Int) : Nat := if z = 1 then 1 else if z = 2 then 2 else if z = 3 then 3 else 0
def toL (p : TokG) : TokL := ⟨kindN p.1, p.2.name, p.2.attrs, p.2.text⟩
def tokG (p : TokG) : List UInt8 := tokW (escQ false) (escQ true) (toL p)
def writeG (l : List TokG) : List UInt8 := l.flatMap tokG
theorem toL_kind {p : TokG} {n : Nat} (h : kindN p.1 = n) : (toL p).kind = n := h
theorem tokG_chars {p : TokG} (h : p.1 = 1) : tokG p = escQ false p.2.text := by
  have e : (toL p).kind = 1 := toL_kind (by rw [h]; rfl)
  unfold tokG tokW
  rw [if_pos e]; rfl
theorem tokG_start {p : TokG} (h : p.1 = 2) : tokG p = 60 :: (p.2.name ++ (attrsW (escQ true) p.2.attrs ++ [62])) := by
  have e : (toL p).kind = 2 := toL_kind (by rw [h]; rfl)
  unfold tokG tokW
  rw [if_neg (by rw [e]; decide), if_pos e]; rfl
theorem tokG_end {p : TokG} (h : p.1 = 3) : tokG p = 60 :: 47 :: (p.2.name ++ [62]) := by
  have e : (toL p).kind = 3 := toL_kind (by rw [h]; rfl)
  unfold tokG tokW
  rw [if_neg (by rw [e]; decide), if_neg (by rw [e]; decide), if_pos e]; rfl
theorem tokG_none {p : TokG} (h1 : p.1 ≠ 1) (h2 : p.1 ≠ 2) (h3 : p.1 ≠ 3) : tokG p = [] := by
  have e : (toL p).kind = 0 := toL_kind (by unfold kindN; rw [if_neg h1, if_neg h2, if_neg h3])
  unfold tokG tokW
  rw [if_neg (by rw [e]; decide), if_neg (by rw [e]; decide), if_neg (by rw [e]; decide)]
def fitA (a : AtL) : Bool := decide (a.1.length ≤ 300) && decide (a.2.length ≤ 300)
def fitT (t : TokL) : Bool := decide (t.name.length ≤ 300) && (decide (t.text.length ≤ 300) && (decide (t.attrs.length ≤ 40) && t.attrs.all fitA))
theorem fitT_len {t : TokL} (h : fitT t = true) : t.name.length ≤ 300 ∧ t.text.length ≤ 300 ∧ t.attrs.length ≤ 40 ∧ ∀ a ∈ t.attrs, a.1.length ≤ 300 ∧ a.2.length ≤ 300 := by
  unfold fitT at h
  simp only [Bool.and_eq_true, decide_eq_true_eq, List.all_eq_true, fitA] at h
  exact ⟨h.1, h.2.1, h.2.2.1, h.2.2.2⟩
theorem attrsW_len {A : List AtL} (h : ∀ a ∈ A, a.1.length ≤ 300 ∧ a.2.length ≤ 300) : (attrsW (escQ true) A).length ≤ 2104 * A.length := by
  unfold attrsW
  induction A with
  | nil => simp
  | cons a r ih =>
    have h1 := h a (List.mem_cons_self ..)
    have h2 := ih (fun x hx => h x (List.mem_cons_of_mem _ hx))
    have h3 := esc_len true a.2
    rw [List.flatMap_cons, List.length_append, List.length_cons]
    have e : (attrW (escQ true) a).length = a.1.length + (escQ true a.2).length + 4 := by
      unfold attrW; simp only [List.length_cons, List.length_append, List.length_nil]; omega
    rw [e]; omega
theorem tokG_len {p : TokG} (h : fitT p.2 = true) : (tokG p).length ≤ 84500 := by
  obtain ⟨h1, h2, h3, h4⟩ := fitT_len h
  by_cases k1 : p.1 = 1
  · rw [tokG_chars k1]; have := esc_len false p.2.text; omega
  by_cases k2 : p.1 = 2
  · rw [tokG_start k2]
    have := attrsW_len h4
    simp only [List.length_cons, List.length_append, List.length_nil]; omega
  by_cases k3 : p.1 = 3
  · rw [tokG_end k3]; simp only [List.length_cons, List.length_append, List.length_nil]; omega
  rw [tokG_none k1 k2 k3]; exact Nat.zero_le _
def wfitA (a : AtL) : Bool := decide (a.1.length ≤ 100000) && decide (a.2.length ≤ 100000)
def wfitT (t : TokL) : Bool := decide (t.name.length ≤ 100000) && (decide (t.text.length ≤ 100000) && (decide (t.attrs.length ≤ 40) && t.attrs.all wfitA))
theorem wfitT_len {t : TokL} (h : wfitT t = true) : t.name.length ≤ 100000 ∧ t.text.length ≤ 100000 ∧ t.attrs.length ≤ 40 ∧ ∀ a ∈ t.attrs, a.1.length ≤ 100000 ∧ a.2.length ≤ 100000 := by
  unfold wfitT at h
  simp only [Bool.and_eq_true, decide_eq_true_eq, List.all_eq_true, wfitA] at h
  exact ⟨h.1, h.2.1, h.2.2.1, h.2.2.2⟩
theorem wattrsW_len {A : List AtL} (h : ∀ a ∈ A, a.1.length ≤ 100000 ∧ a.2.length ≤ 100000) : (attrsW (escQ true) A).length ≤ 700004 * A.length := by
  unfold attrsW
  induction A with
  | nil => simp
  | cons a r ih =>
    have h1 := h a (List.mem_cons_self ..)
    have h2 := ih (fun x hx => h x (List.mem_cons_of_mem _ hx))
    have h3 := esc_len true a.2
    rw [List.flatMap_cons, List.length_append, List.length_cons]
    have e : (attrW (escQ true) a).length = a.1.length + (escQ true a.2).length + 4 := by
      unfold attrW; simp only [List.length_cons, List.length_append, List.length_nil]; omega
    rw [e]; omega
theorem wtokG_len {p : TokG} (h : wfitT p.2 = true) : (tokG p).length ≤ 28400000 := by
  obtain ⟨h1, h2, h3, h4⟩ := wfitT_len h
  by_cases k1 : p.1 = 1
  · rw [tokG_chars k1]; have := esc_len false p.2.text; omega
  by_cases k2 : p.1 = 2
  · rw [tokG_start k2]
    have := wattrsW_len h4
    simp only [List.length_cons, List.length_append, List.length_nil]; omega
  by_cases k3 : p.1 = 3
  · rw [tokG_end k3]; simp only [List.length_cons, List.length_append, List.length_nil]; omega
  rw [tokG_none k1 k2 k3]; exact Nat.zero_le _
theorem wwriteG_len {l : List TokG} (h : ∀ p ∈ l, wfitT p.2 = true) : (writeG l).length ≤ 28400000 * l.length := by
  unfold writeG
  induction l with
  | nil => simp
  | cons p r ih =>
    have h1 := wtokG_len (h p (List.mem_cons_self ..))
    have h2 := ih (fun x hx => h x (List.mem_cons_of_mem _ hx))
    rw [List.flatMap_cons, List.length_append, List.length_cons]; omega
theorem fitA_wide {a : AtL} (h : fitA a = true) : wfitA a = true := by
  unfold fitA at h
  unfold wfitA
  simp only [Bool.and_eq_true, decide_eq_true_eq] at h ⊢
  omega
theorem fitT_wide {t : TokL} (h : fitT t = true) : wfitT t = true := by
  unfold fitT at h
  unfold wfitT
  simp only [Bool.and_eq_true, decide_eq_true_eq, List.all_eq_true] at h ⊢
  exact ⟨by omega, by omega, by omega, fun a ha => fitA_wide (h.2.2.2 a ha)⟩
instance decTK2 : DecidableEq (List UInt8 × List AtL) := inferInstance
instance decTK1 : DecidableEq (List UInt8 × List UInt8 × List AtL) := inferInstance
instance decTK0 : DecidableEq (Int × List UInt8 × List UInt8 × List AtL) := inferInstance
theorem low_of {l : List UInt8} (h : ∀ x ∈ l, lowC x = x) : lowL l = l := by
  unfold lowL
  exact (List.map_congr_left h).trans (List.map_id _)
theorem escOK : EscOK decE (escQ false) (escQ true) := by
  refine ⟨fun x h => (esc_no false x 60 h).1 rfl, dec_esc false, fun x hx e => ?_, fun x h => (esc_no true x 34 h).2.2 rfl rfl, dec_esc true⟩
  apply hx
  rw [← dec_esc false x, e]
  exact decE_nil
end Go.Proofs.YtiejmkjpgjbodaaGreatDoor

namespace Go.Proofs.YtiejmkjpgjbodaaGreatDoor
open Go.RowKit
set_option linter.unusedVariables false
set_option linter.unusedSimpArgs false
set_option maxRecDepth 100000
def EnvX (w : World) : Prop := EnvE w ∧ ∃ m : Int, w.cell? ⟨0, 0, none⟩ = some (.int .i64 m)
theorem EnvX.kept {w w' : World} (h : EnvX w) (hb : Below w.heap.size w w') : EnvX w' := by
  obtain ⟨h1, m, h2⟩ := h
  exact ⟨h1.kept hb, m, (hb.cell (p := ⟨0, 0, none⟩) (World.block_lt_of_cell? _ _ h2)).trans h2⟩
set_option maxHeartbeats 2000000 in
theorem entValue_any (s : ByteArray) (w : World) (hs : s.size ≤ 1048576) (hE : EnvX w) :
    Calls Tryz.prog 185 #[.string s] w fun e w' => e = .returned (.string (str (escQ true s.data.toList))) ∧ Below w.heap.size w w' := by
  obtain ⟨V, hV⟩ : ∃ V, V = str (escQ false s.data.toList) := ⟨_, rfl⟩
  have hz : V.size ≤ 6 * s.size := by
    rw [hV, str_size, ← toList_length s]; exact esc_len false _
  have HT := hide (fun (w : World) => entText_any s w (by omega))
  rw [← hV] at HT
  have hVl : V.data.toList = escQ false s.data.toList := by rw [hV, str_toList]
  have HR : Hid ((⟨(Lib.replaceAll V.data.toList (⟨#[34]⟩ : ByteArray).data.toList (⟨#[38, 113, 117, 111, 116, 59]⟩ : ByteArray).data.toList).toArray⟩ : ByteArray) = str (escQ true s.data.toList)) := hide (by
    rw [hVl, escQ_value]; rfl)
  have hcb : Lib.countB V ⟨#[34]⟩ ≤ V.size + 1 := by
    have := Lib.count_le V.data.toList (⟨#[34]⟩ : ByteArray).data.toList
    rw [toList_length] at this; exact this
  have HLN : Hid (V.size + Lib.countB V ⟨#[34]⟩ * (⟨#[38, 113, 117, 111, 116, 59]⟩ : ByteArray).size ≤ 140737488355328) := hide (by
    rw [show (⟨#[38, 113, 117, 111, 116, 59]⟩ : ByteArray).size = 6 from rfl]; omega)
  have HVS : Hid (V.size < 4294967281) := hide (by omega)
  have HE := hide hE
  clear hV hVl hcb hE hz
  go_enter Tryz.func185, Tryz.ntmps185
  go_wp2_with (first
    | (go_at_call 97; refine (HT.out _).mono ?_; rintro e w1 ⟨rfl, hb1⟩; have HE1 := hide (HE.out.kept hb1); have HB1 := hide hb1; clear hb1; obtain ⟨_, m, hm⟩ := HE1.out; have HM := hide hm; clear hm)
    | (go_at_call 216; refine (Tryz.strings_ReplaceAll V ⟨#[34]⟩ ⟨#[38, 113, 117, 111, 116, 59]⟩ m _ HVS.out HM.out (by decide) HLN.out).mono ?_; rintro e w2 ⟨rfl, hb2⟩; have HB2 := hide (HB1.out.trans (hb2.mono HB1.out.size)); clear hb2))
  go_ret
  exact ⟨by rw [HR.out] <;> rfl, HB2.out⟩
end Go.Proofs.YtiejmkjpgjbodaaGreatDoor

namespace Go.Proofs.YtiejmkjpgjbodaaGreatDoor
open Go.RowKit
set_option linter.unusedVariables false
set_option linter.unusedSimpArgs false
set_option maxRecDepth 100000
def KB (w w' : World) : Prop := ∀ (m : Nat) cur e fr, w.heap[m]? = some (Obj.cells cur e fr) → e ≠ 78 → e ≠ 5 → w'.heap[m]? = some (Obj.cells cur e fr)
theorem KB.refl (w : World) : KB w w := fun _ _ _ _ h _ _ => h
theorem KB.trans {a b c : World} (h : KB a b) (k : KB b c) : KB a c := fun m cur e fr hm h1 h2 => k m cur e fr (h m cur e fr hm h1 h2) h1 h2
theorem KB.alloc (w : World) (o : Obj) : KB w (w.alloc o) := fun m cur e fr hm _ _ => (Below.heap_alloc w o m (Array.getElem?_eq_some_iff.1 hm).1).trans hm
theorem KB.below {w w' : World} (h : Below w.heap.size w w') : KB w w' := fun m cur e fr hm _ _ => (h.block m (Array.getElem?_eq_some_iff.1 hm).1).trans hm
theorem KB.set {w : World} {b : Nat} {cs : Array Value} {fr : Nat × Nat} (h : w.heap[b]? = some (.cells cs 78 fr)) (i : Nat) (v : Value) : KB w (w.setCell ⟨b, i, none⟩ v) := fun m cur e fr' hm h1 h2 => by
  have hne : m ≠ b := by
    rintro rfl
    rw [h] at hm
    injection hm with hm
    injection hm with _ hm
    exact h1 hm.symm
  exact (Below.heap_setCell w _ v m hne).trans hm
theorem KB.own {w w' : World} {B n : Nat} {v : Value} {xs : List Value} (h : w.ownsRow B 5 1 v n xs) (hg : w.grownBy w' v.ownBlock) : KB w w' := fun m cur e fr hm h1 h2 => by
  refine (hg.block m (Array.getElem?_eq_some_iff.1 hm).1 (fun he => ?_)).trans hm
  rcases h.2 with ⟨rfl, _⟩ | ⟨g, cap, cur', rfl, _, hh, _⟩
  · simp [Value.ownBlock] at he
  · have e1 : g = m := by simpa [Value.ownBlock] using he.symm
    subst e1
    rw [hh] at hm
    injection hm with hm
    injection hm with _ hm
    exact h2 hm.symm
theorem below_one' (w : World) (o : Obj) : Below w.heap.size w (w.alloc o) := (Below.refl _ _).alloc (Nat.le_refl _) _
theorem copyCheckK_any (B b : Nat) (bs : List Value) (w : World) (h : Lib.IsBuilder 78 5 B b bs w) :
    Calls Tryz.prog 103 #[.pointer (some ⟨b, 0, none⟩)] w fun e w' => e = .returned (.tuple #[]) ∧ Lib.BuilderAt 78 5 B b (.pointer (some ⟨b, 0, none⟩)) bs w' ∧ Below B w w' ∧ KB w w' := by
  rcases h with h | h
  · obtain ⟨hB, v, hbk, ho, hne⟩ := id h
    refine (copyCheck_fresh b w h.cell0 h.shape h.frozen0).mono ?_
    rintro e w' ⟨rfl, rfl⟩
    exact ⟨rfl, h.used _, (Below.refl B w).setCell (p := ⟨b, 0, none⟩) h.1 _, KB.set hbk _ _⟩
  · refine (copyCheck_used b w h.cell0).mono ?_
    rintro e w' ⟨rfl, rfl⟩
    exact ⟨rfl, h, Below.refl B _, KB.refl _⟩
set_option maxHeartbeats 1000000 in
theorem writeStringK_any (B b : Nat) (l : List UInt8) (s : ByteArray) (W0 w : World) (h : Bld B b l W0 w) (hlen : l.length + s.size ≤ 140737488355328) :
    Calls Tryz.prog 64 #[.pointer (some ⟨b, 0, none⟩), .string s] w fun e w' => e = .returned (.tuple #[.int .i64 s.size, .nilIface]) ∧ Bld B b (l ++ s.data.toList) W0 w' ∧ KB w w' := by
  obtain ⟨h, hbel, hBw⟩ := h
  obtain ⟨i0, hi, hz0, hz1, hz2⟩ := info_parts info_u8
  have HBL := hide hbel
  clear hbel
  go_enter Tryz.func64, Tryz.ntmps64
  go_wp2_with fail
  refine (copyCheckK_any B b (cellsOf l) _ h).mono ?_
  rintro e w1 ⟨rfl, h1, hb1, hk1⟩
  have HK1 := hide hk1
  clear hk1
  obtain ⟨hB, v, hbk, hown, hne⟩ := h1
  have c1 : w1.cell? ⟨b, 1, none⟩ = some v := by rw [Lib.cell_of_heap hbk]; rfl
  have hlt : b < w1.heap.size := lt_of_block hbk
  have hl1 : (cellsOf l).length = l.length := cellsOf_length l
  have HBK := hide hbk
  have HOWN := hide hown
  have HNE := hide hne
  have HB1 := hide hb1
  have hsz1 := hb1.size
  have HI := hide hi
  have HZ0 := hide hz0
  have HZ1 := hide hz1
  have HZ2 := hide hz2
  have HL1 := hide hl1
  clear hbk hown hne hb1 hi hz0 hz1 hz2 h
  go_wp2_with (refine Lib.wpList_append_own_string _ rfl _ _ 56 9 rfl B 5 i0 Tryz.underlying56 Tryz.underlying9 HI.out HZ0.out HZ1.out HZ2.out v (cellsOf l).length (cellsOf l) rfl HOWN.out s rfl (by rw [HL1.out]; unfold maxLen; omega) (by rw [HL1.out]; omega) (by omega) ?_
               intro v' w2 hown' hgrow _
               obtain ⟨ao, n', cap, rfl⟩ : ∃ ao n' cap, v' = .slice ao n' cap := by
                 rcases hown'.2 with ⟨hv, _⟩ | ⟨g, cap, cur, hv, _⟩
                 · exact ⟨_, _, _, hv⟩
                 · exact ⟨_, _, _, hv⟩
               have hb2 : w2.heap[b]? = some (.cells #[.pointer (some ⟨b, 0, none⟩), v] 78 (0, 0)) := by
                 rw [hgrow.block b hlt (fun e => HNE.out e.symm)]
                 exact HBK.out
               have d1 : w2.cell? ⟨b, 1, none⟩ = some v := by rw [Lib.cell_of_heap hb2]; rfl
               have f1 : w2.frozen? ⟨b, 1, none⟩ = false := Lib.frozen_of_heap hb2 1
               have HKB := hide (HK1.out.trans (KB.own HOWN.out hgrow))
               have HO2 := hide hown'
               have HG2 := hide hgrow
               have HB2 := hide hb2
               clear hown' hgrow hb2)
  go_ret2
  have hb3 : Below B w w2 := HB1.out.grown HG2.out (by omega) (fun k hk => (HOWN.out.lt k hk).1)
  refine ⟨rfl, ⟨.inr ?_, (HBL.out.trans hb3).setCell (p := ⟨b, 1, none⟩) hB _, ?_⟩, HKB.out.trans (KB.set HB2.out _ _)⟩
  · refine Lib.BuilderAt.put (T := 78) (e := 5) hB HB2.out (bs' := cellsOf (l ++ s.data.toList)) ?_ (by decide)
    have ho := HO2.out
    have e1 : cellsOf (l ++ s.data.toList) = cellsOf l ++ Lib.strCells s := by rw [cellsOf_str, cellsOf, List.map_append]; rfl
    rw [e1, List.length_append, Lib.strCells_length]
    exact ho
  · have := hb3.size
    simp [World.setCell]
    omega
end Go.Proofs.YtiejmkjpgjbodaaGreatDoor

namespace Go.Proofs.YtiejmkjpgjbodaaGreatDoor
open Go.RowKit
set_option linter.unusedVariables false
set_option linter.unusedSimpArgs false
set_option maxRecDepth 100000
theorem alloc_new_block (w : World) (o : Obj) : (w.alloc o).heap[w.heap.size]? = some o := by show (w.heap.push _)[w.heap.size]? = _; exact Array.getElem?_push_size
theorem toA_append (a b : ByteArray) : (a ++ b).data.toList = a.data.toList ++ b.data.toList := by
  simp
theorem attrsW_take {A : List AtL} {k : Nat} {f : AtL} (h : A[k]? = some f) : attrsW (escQ true) (A.take (k + 1)) = attrsW (escQ true) (A.take k) ++ attrW (escQ true) f := by
  unfold attrsW
  rw [List.take_add_one, h, List.flatMap_append]; simp
theorem writeG_take {A : List TokG} {k : Nat} {f : TokG} (h : A[k]? = some f) : writeG (A.take (k + 1)) = writeG (A.take k) ++ tokG f := by
  unfold writeG
  rw [List.take_add_one, h, List.flatMap_append]; simp
theorem wattrsW_take_len {A : List AtL} (h : ∀ a ∈ A, a.1.length ≤ 100000 ∧ a.2.length ≤ 100000) (k : Nat) : (attrsW (escQ true) (A.take k)).length ≤ 700004 * A.length := by
  have h1 := wattrsW_len (A := A.take k) (fun a ha => h a (List.mem_of_mem_take ha))
  have h2 : (A.take k).length ≤ A.length := by rw [List.length_take]; exact Nat.min_le_right _ _
  exact Nat.le_trans h1 (Nat.mul_le_mul_left _ h2)
set_option maxHeartbeats 8000000 in
theorem writeStart_any (b : Nat) (x : List UInt8) (K : Int) (N T : List UInt8) (A : List AtL) (d : Option Addr) (y : Nat) (W0 w : World) (h : Bld W0.heap.size b x W0 w) (ha : AttrsIn W0 (.slice d A.length y) A)
    (hN : N.length ≤ 100000) (hA : A.length ≤ 40) (hf : ∀ a ∈ A, a.1.length ≤ 100000 ∧ a.2.length ≤ 100000) (hE : EnvX W0) (hx : x.length ≤ 1099511627776) :
    Calls Tryz.prog 165 #[.pointer (some ⟨b, 0, none⟩), .agg #[.int .i64 K, .string (str N), .slice d A.length y, .string (str T)]] w fun e w' => e = .returned (.tuple #[]) ∧ Bld W0.heap.size b (x ++ 60 :: (N ++ (attrsW (escQ true) A ++ [62]))) W0 w' := by
  obtain ⟨n, hn⟩ : ∃ n, A.length = n := ⟨_, rfl⟩
  obtain ⟨X, hX⟩ : ∃ X, X = str N := ⟨_, rfl⟩
  obtain ⟨Y, hY⟩ : ∃ Y, Y = str T := ⟨_, rfl⟩
  have zX : X.size ≤ 100000 := by rw [hX, str_size]; exact hN
  have HXL : Hid (X.data.toList = N) := hide (by rw [hX, str_toList])
  rw [← hX, ← hY]
  have HA := hide ha
  have HF := hide hf
  have HE := hide hE
  have HXZ := hide hx
  have HNL := hide hn
  have HAL := hide hA
  have hn40 : n ≤ 40 := by omega
  rw [hn] at HA ⊢
  have hbx := h.kept (below_one' w (.cells #[.int .i64 K, .string X, .slice d n y, .string Y] 51))
  have HB := hide hbx
  have HBX := hide (alloc_new_block w (.cells #[.int .i64 K, .string X, .slice d n y, .string Y] 51))
  clear ha hf hE hx hn h hbx hX hY hA
  go_enter Tryz.func165, Tryz.ntmps165
  go_wp2_with fail
  refine (writeStringK_any _ _ x _ W0 _ HB.out (by rw [ByteArray.size_append]; have := HXZ.out; show _ + (1 + _) ≤ _; omega)).mono ?_
  rintro e w1 ⟨rfl, hb1, hk1⟩
  have HB1 := hide hb1
  have hc1 := hk1 _ _ _ _ HBX.out (by decide) (by decide)
  have k2 : w1.cell? ⟨w.heap.size, 2, none⟩ = some (.slice d n y) := by rw [Lib.cell_of_heap hc1]; rfl
  clear hb1 hk1 hc1
  go_wp2_with fail
  go_loopw [14] (fun i wr => ∃ k : Nat, k ≤ n ∧ i = .int .i64 k ∧ Hid (Bld W0.heap.size b (x ++ 60 :: (N ++ attrsW (escQ true) (A.take k))) W0 wr)) (fun i _ => n - (intOf i).toNat)
  case atStart => exact ⟨0, Nat.zero_le _, rfl, hide (by
    have h0 := HB1.out
    rw [toA_append, HXL.out] at h0
    rw [List.take_zero]
    simpa [attrsW] using h0)⟩
  case round =>
    obtain ⟨k, hk, rfl, HR⟩ := hrel
    by_cases hlt : k < n
    · obtain ⟨f, hf⟩ : ∃ f, A[k]? = some f := ⟨_, List.getElem?_eq_getElem (by have := HNL.out; omega)⟩
      obtain ⟨a, ha, hc1, hc2⟩ := (HA.out.kept HR.out.2.1).at k f hf
      subst ha
      obtain ⟨z1, z2⟩ := HF.out f (List.mem_of_getElem? hf)
      obtain ⟨P, hP⟩ : ∃ P, P = str f.1 := ⟨_, rfl⟩
      obtain ⟨V, hV⟩ : ∃ V, V = str f.2 := ⟨_, rfl⟩
      have zP : P.size ≤ 100000 := by rw [hP, str_size]; exact z1
      have zV : V.size ≤ 100000 := by rw [hV, str_size]; exact z2
      rw [← hP] at hc1
      rw [← hV] at hc2
      have hEV := fun w2 h => entValue_any V w2 (by omega) h
      obtain ⟨Q, hQ⟩ : ∃ Q, Q = str (escQ true V.data.toList) := ⟨_, rfl⟩
      have zQ : Q.size ≤ 600000 := by
        rw [hQ, str_size]
        have := esc_len true V.data.toList
        rw [toList_length] at this; omega
      rw [← hQ] at hEV
      have HEV := hide hEV
      have HEW : Hid (∀ w2, Below W0.heap.size W0 w2 → EnvX w2) := hide fun w2 h => HE.out.kept h
      have hxl : (x ++ 60 :: (N ++ attrsW (escQ true) (A.take k))).length ≤ 1099611727776 := by
        have := wattrsW_take_len HF.out k
        have := HXZ.out
        have := HAL.out
        rw [List.length_append, List.length_cons, List.length_append]; omega
      have HXX := hide hxl
      have HNX : Hid (∀ z : ByteArray, z.data.toList = attrW (escQ true) f → x ++ 60 :: (N ++ attrsW (escQ true) (A.take k)) ++ z.data.toList = x ++ 60 :: (N ++ attrsW (escQ true) (A.take (k + 1)))) := hide fun z hz => by
        rw [hz, attrsW_take hf]; simp
      have HAW : Hid (P.data.toList = f.1 ∧ Q.data.toList = escQ true f.2) := hide ⟨by rw [hP, str_toList], by rw [hQ, hV, str_toList, str_toList]⟩
      have q1 : ¬ (9223372036854775807 < 1 + P.size) := by omega
      have q2 : ¬ (9223372036854775807 < 1 + P.size + 2) := by omega
      have q3 : ¬ (9223372036854775807 < 1 + P.size + 2 + Q.size) := by omega
      have q4 : ¬ (9223372036854775807 < 1 + P.size + 2 + Q.size + 1) := by omega
      clear hf hP hV hQ hEV z1 z2 hxl
      have HBA : Hid (Bld W0.heap.size b _ W0 (wr.alloc (.cells #[.string P, .string V] 43)).drew) := hide (HR.out.kept ((below_one' wr (.cells #[.string P, .string V] 43)).trans (Below.refl _ _).drew))
      have HAL2 : Hid (∀ w3, Below (wr.alloc (.cells #[.string P, .string V] 43)).drew.heap.size (wr.alloc (.cells #[.string P, .string V] 43)).drew w3 → w3.heap[wr.heap.size]? = some (.cells #[.string P, .string V] 43)) := hide fun w3 h => by
        rw [h.block wr.heap.size (by show wr.heap.size < (wr.alloc _).heap.size; rw [World.size_alloc]; exact Nat.lt_succ_self _)]
        exact alloc_new_block wr _
      go_wp2_with fail
      go_region_with (first
        | (go_at_call 185; refine (HEV.out _ (HEW.out _ HBA.out.2.1)).mono ?_; rintro e w3 ⟨rfl, hb3⟩; have HB3 := hide (HBA.out.kept hb3); have k7 := cell_of_row w3 wr.heap.size 0 _ _ _ (HAL2.out _ hb3); have k8 := cell_of_row w3 wr.heap.size 1 _ _ _ (HAL2.out _ hb3); clear hb3)
        | (go_at_call 64; refine (writeString_any _ _ _ _ W0 _ HB3.out (by simp only [ByteArray.size_append]; have := HXX.out; show _ + (1 + _ + 2 + _ + 1) ≤ _; omega)).mono ?_; rintro e w4 ⟨rfl, hb4⟩; have HB4 := hide hb4; clear hb4)
        | fail)
      all_goals
        have HB5 : Hid (Bld W0.heap.size b (x ++ 60 :: (N ++ attrsW (escQ true) (A.take (k + 1)))) W0 w4) := hide (by
          rw [← HNX.out ((⟨#[32]⟩ : ByteArray) ++ P ++ ⟨#[61, 34]⟩ ++ Q ++ ⟨#[34]⟩) (by simp only [toA_append, HAW.out.1, HAW.out.2]; unfold attrW; simp)]
          exact HB4.out)
        go_wp2_with fail
        go_roundw
        case rel => exact ⟨k + 1, by omega, by go_num, HB5⟩
        case measure => simp [intOf]; omega
    · have hk2 : k = n := by omega
      subst hk2
      have HL : Hid (x ++ 60 :: (N ++ attrsW (escQ true) (A.take k)) ++ [62] = x ++ 60 :: (N ++ (attrsW (escQ true) A ++ [62]))) := hide (by
        rw [List.take_of_length_le (by have := HNL.out; omega)]; simp)
      have hxl : (x ++ 60 :: (N ++ attrsW (escQ true) (A.take k))).length ≤ 1099611727776 := by
        have := wattrsW_take_len HF.out k
        have := HXZ.out
        have := HAL.out
        rw [List.length_append, List.length_cons, List.length_append]; omega
      have HXX := hide hxl
      clear hxl
      go_wp2_with fail
      refine (writeString_any _ _ _ _ W0 _ HR.out (by have := HXX.out; show _ + 1 ≤ _; omega)).mono ?_
      rintro e w5 ⟨rfl, hb5⟩
      have HB5 := hide hb5
      clear hb5
      go_wp2_with fail
      go_end0
      exact ⟨rfl, by rw [← HL.out]; exact HB5.out⟩
set_option maxHeartbeats 8000000 in
theorem write_wide13 (v : Value) (l : List TokG) (w : World) (h : ToksIn w v l) (hl : l.length ≤ 1000) (hf : ∀ p ∈ l, wfitT p.2 = true) (hE : EnvX w) :
    Calls Tryz.prog 139 #[v] w fun e w' => e = .returned (.string (str (writeG l))) ∧ Below w.heap.size w w' := by
  obtain ⟨A, c, rfl⟩ := h.form
  obtain ⟨n, hn⟩ : ∃ n, l.length = n := ⟨_, rfl⟩
  have H := hide h
  have HF := hide hf
  have HE := hide hE
  have HNL := hide hn
  have HN0 := hide (Bld.new (w := w) (W0 := w) (B := w.heap.size) (Below.refl _ _) (Nat.le_refl _))
  rw [hn] at H hl ⊢
  clear h hf hE hn
  go_enter Tryz.func139, Tryz.ntmps139
  go_wp2_with fail
  go_loopw [8] (fun i wr => ∃ k : Nat, k ≤ n ∧ i = .int .i64 k ∧ Hid (Bld w.heap.size w.heap.size (writeG (l.take k)) w wr)) (fun i _ => n - (intOf i).toNat)
  case atStart => exact ⟨0, Nat.zero_le _, rfl, hide (by rw [List.take_zero]; exact HN0.out)⟩
  case round =>
    obtain ⟨k, hk, rfl, HR⟩ := hrel
    by_cases hlt : k < n
    · obtain ⟨f, hf⟩ : ∃ f, l[k]? = some f := ⟨_, List.getElem?_eq_getElem (by have := HNL.out; omega)⟩
      obtain ⟨a, d, y, ha, c1, c2, c3, c4, hA⟩ := (H.out.kept HR.out.2.1).at k f hf
      obtain ⟨a0, d0, y0, ha0, _, _, _, c40, hA0⟩ := H.out.at k f hf
      subst ha
      have hdy : AttrsIn w (.slice d f.2.attrs.length y) f.2.attrs := by
        injection ha0 with ha0
        subst ha0
        have e := (HR.out.2.1.cell (World.block_lt_of_cell? _ _ c40)).trans c40
        rw [c4] at e
        injection e with e
        rw [e]; exact hA0
      obtain ⟨z1, z2, z3, z4⟩ := wfitT_len (HF.out f (List.mem_of_getElem? hf))
      have hwl : (writeG (l.take k)).length ≤ 28400000000 := by
        have h1 := wwriteG_len (l := l.take k) (fun p hp => HF.out p (List.mem_of_mem_take hp))
        have h2 : (l.take k).length ≤ n := by rw [List.length_take, HNL.out]; exact Nat.min_le_right _ _
        omega
      have HNX : Hid (∀ z, z = tokG f → writeG (l.take k) ++ z = writeG (l.take (k + 1))) := hide fun z hz => by rw [hz, writeG_take hf]
      have HNO : Hid (tokG f = [] → writeG (l.take k) = writeG (l.take (k + 1))) := hide fun hz => by rw [writeG_take hf, hz, List.append_nil]
      have HEW : Hid (∀ w2, Below w.heap.size w w2 → EnvX w2) := hide fun w2 h => HE.out.kept h
      obtain ⟨X, hX⟩ : ∃ X, X = str f.2.name := ⟨_, rfl⟩
      obtain ⟨Y, hY⟩ : ∃ X, X = str f.2.text := ⟨_, rfl⟩
      have zX : X.size ≤ 100000 := by rw [hX, str_size]; exact z1
      have zY : Y.size ≤ 100000 := by rw [hY, str_size]; exact z2
      have HXL : Hid (X.data.toList = f.2.name) := hide (by rw [hX, str_toList])
      have HYL : Hid (Y.data.toList = f.2.text) := hide (by rw [hY, str_toList])
      obtain ⟨kf, hkf⟩ : ∃ z : Int, z = f.1 := ⟨_, rfl⟩
      rw [← hkf] at c1
      have HWS := hide (fun w2 (h2 : Bld w.heap.size w.heap.size (writeG (l.take k)) w w2) => writeStart_any w.heap.size (writeG (l.take k)) kf f.2.name f.2.text f.2.attrs d y w w2 h2 hdy z1 z3 z4 HE.out (by omega))
      rw [← hX, ← hY] at HWS
      rw [← hX] at c2
      rw [← hY] at c3
      obtain ⟨m, hm⟩ : ∃ m, f.2.attrs.length = m := ⟨_, rfl⟩
      rw [hm] at c4 HWS
      have HBA := hide (HR.out.kept (below_one' wr (.cells #[.int .i64 kf, .string X, .slice d m y, .string Y] 51)))
      have HWL := hide hwl
      clear hf ha0 c40 hA0 hA hdy z1 z2 z3 z4 hwl hX hY hm
      by_cases k1 : kf = 1
      · have s1 : (kf == 1) = true := by rw [k1]; rfl
        have HT := hide (entText_any Y (wr.alloc (.cells #[.int .i64 kf, .string X, .slice d m y, .string Y] 51)) (by omega))
        obtain ⟨Q, hQ⟩ : ∃ Q, Q = str (escQ false Y.data.toList) := ⟨_, rfl⟩
        have zQ : Q.size ≤ 600000 := by
          rw [hQ, str_size]
          have := esc_len false Y.data.toList
          rw [toList_length] at this; omega
        rw [← hQ] at HT
        have HQL : Hid (Q.data.toList = tokG f) := hide (by rw [hQ, str_toList, HYL.out, tokG_chars (by rw [← hkf]; exact k1)])
        clear hQ hkf
        subst k1
        go_wp2_with fail
        refine HT.out.mono ?_
        rintro e w2 ⟨rfl, hb2⟩
        have HB2 := hide (HBA.out.kept hb2)
        clear hb2
        go_wp2_with fail
        refine (writeString_any _ _ _ Q w _ HB2.out (by have := HWL.out; omega)).mono ?_
        rintro e w3 ⟨rfl, hb3⟩
        have HB3 := hide hb3
        clear hb3
        go_wp2_with fail
        go_roundw
        case rel => exact ⟨k + 1, by omega, by go_num, hide (by rw [← HNX.out _ HQL.out]; exact HB3.out)⟩
        case measure => simp [intOf]; omega
      have s1 : (kf == 1) = false := beq_eq_false_iff_ne.2 k1
      by_cases k2 : kf = 2
      · have s2 : (kf == 2) = true := by rw [k2]; rfl
        have HTG : Hid (60 :: (f.2.name ++ (attrsW (escQ true) f.2.attrs ++ [62])) = tokG f) := hide (tokG_start (by rw [← hkf]; exact k2)).symm
        clear hkf
        subst k2
        go_wp2_with fail
        refine (HWS.out _ HBA.out).mono ?_
        rintro e w3 ⟨rfl, hb3⟩
        have HB3 := hide hb3
        clear hb3
        go_wp2_with fail
        go_roundw
        case rel => exact ⟨k + 1, by omega, by go_num, hide (by rw [← HNX.out _ HTG.out]; exact HB3.out)⟩
        case measure => simp [intOf]; omega
      have s2 : (kf == 2) = false := beq_eq_false_iff_ne.2 k2
      by_cases k3 : kf = 3
      · have s3 : (kf == 3) = true := by rw [k3]; rfl
        have HTG : Hid (60 :: 47 :: (f.2.name ++ [62]) = tokG f) := hide (tokG_end (by rw [← hkf]; exact k3)).symm
        clear hkf
        subst k3
        go_wp2_with fail
        refine (writeString_any _ _ _ _ w _ HBA.out (by simp only [ByteArray.size_append]; have := HWL.out; show _ + (2 + _ + 1) ≤ _; omega)).mono ?_
        rintro e w3 ⟨rfl, hb3⟩
        have HB3 := hide hb3
        clear hb3
        go_wp2_with fail
        go_roundw
        case rel => exact ⟨k + 1, by omega, by go_num, hide (by
          have h := HB3.out
          rw [toA_append, toA_append, HXL.out] at h
          rw [← HNX.out _ HTG.out]
          simpa using h)⟩
        case measure => simp [intOf]; omega
      have s3 : (kf == 3) = false := beq_eq_false_iff_ne.2 k3
      have HTG := hide (HNO.out (tokG_none (by rw [← hkf]; exact k1) (by rw [← hkf]; exact k2) (by rw [← hkf]; exact k3)))
      clear hkf k1 k2 k3
      go_wp2_with fail
      go_roundw
      case rel => exact ⟨k + 1, by omega, by go_num, hide (by rw [← HTG.out]; exact HBA.out)⟩
      case measure => simp [intOf]; omega
    · have hk2 : k = n := by omega
      subst hk2
      have HL : Hid (writeG (l.take k) = writeG l) := hide (by rw [List.take_of_length_le (by have := HNL.out; omega)])
      rw [HL.out] at HR
      go_wp2_with fail
      refine HR.out.string.mono ?_
      rintro e w5 ⟨rfl, hb5⟩
      have HB5 := hide hb5
      clear hb5
      go_wp2_with fail
      go_ret
      exact ⟨rfl, HB5.out⟩
end Go.Proofs.YtiejmkjpgjbodaaGreatDoor

namespace Go.Proofs.YtiejmkjpgjbodaaGreatDoor
open Go.RowKit
set_option linter.unusedVariables false
set_option linter.unusedSimpArgs false
set_option maxRecDepth 100000
set_option maxHeartbeats 4000000 in
theorem rawW_any (n : ByteArray) (w : World) :
    Calls Tryz.prog 99 #[.string n] w fun e w' => e = .returned (.bool (rawL.contains n.data.toList)) ∧ w = w' := by
  cases hk : rawL.contains n.data.toList with
  | true =>
    rcases rawL_cases _ hk with h | h | h | h | h | h | h | h | h | h
    · obtain rfl : n = ⟨#[115, 99, 114, 105, 112, 116]⟩ := ext_list h
      clear hk h
      go_enter Tryz.func99, Tryz.ntmps99
      go_wp2_with fail
      go_ret
      exact ⟨rfl, rfl⟩
    · obtain rfl : n = ⟨#[115, 116, 121, 108, 101]⟩ := ext_list h
      clear hk h
      go_enter Tryz.func99, Tryz.ntmps99
      go_wp2_with fail
      go_ret
      exact ⟨rfl, rfl⟩
    · obtain rfl : n = ⟨#[116, 105, 116, 108, 101]⟩ := ext_list h
      clear hk h
      go_enter Tryz.func99, Tryz.ntmps99
      go_wp2_with fail
      go_ret
      exact ⟨rfl, rfl⟩
    · obtain rfl : n = ⟨#[116, 101, 120, 116, 97, 114, 101, 97]⟩ := ext_list h
      clear hk h
      go_enter Tryz.func99, Tryz.ntmps99
      go_wp2_with fail
      go_ret
      exact ⟨rfl, rfl⟩
    · obtain rfl : n = ⟨#[120, 109, 112]⟩ := ext_list h
      clear hk h
      go_enter Tryz.func99, Tryz.ntmps99
      go_wp2_with fail
      go_ret
      exact ⟨rfl, rfl⟩
    · obtain rfl : n = ⟨#[105, 102, 114, 97, 109, 101]⟩ := ext_list h
      clear hk h
      go_enter Tryz.func99, Tryz.ntmps99
      go_wp2_with fail
      go_ret
      exact ⟨rfl, rfl⟩
    · obtain rfl : n = ⟨#[110, 111, 101, 109, 98, 101, 100]⟩ := ext_list h
      clear hk h
      go_enter Tryz.func99, Tryz.ntmps99
      go_wp2_with fail
      go_ret
      exact ⟨rfl, rfl⟩
    · obtain rfl : n = ⟨#[110, 111, 102, 114, 97, 109, 101, 115]⟩ := ext_list h
      clear hk h
      go_enter Tryz.func99, Tryz.ntmps99
      go_wp2_with fail
      go_ret
      exact ⟨rfl, rfl⟩
    · obtain rfl : n = ⟨#[112, 108, 97, 105, 110, 116, 101, 120, 116]⟩ := ext_list h
      clear hk h
      go_enter Tryz.func99, Tryz.ntmps99
      go_wp2_with fail
      go_ret
      exact ⟨rfl, rfl⟩
    · obtain rfl : n = ⟨#[110, 111, 115, 99, 114, 105, 112, 116]⟩ := ext_list h
      clear hk h
      go_enter Tryz.func99, Tryz.ntmps99
      go_wp2_with fail
      go_ret
      exact ⟨rfl, rfl⟩
  | false =>
    obtain ⟨n0, n1, n2, n3, n4, n5, n6, n7, n8, n9⟩ := rawL_none _ hk
    have t0 : (n.toList == [115, 99, 114, 105, 112, 116]) = false := beq_eq_false_iff_ne.2 (by rw [bytes_list]; exact n0)
    have t1 : (n.toList == [115, 116, 121, 108, 101]) = false := beq_eq_false_iff_ne.2 (by rw [bytes_list]; exact n1)
    have t2 : (n.toList == [116, 105, 116, 108, 101]) = false := beq_eq_false_iff_ne.2 (by rw [bytes_list]; exact n2)
    have t3 : (n.toList == [116, 101, 120, 116, 97, 114, 101, 97]) = false := beq_eq_false_iff_ne.2 (by rw [bytes_list]; exact n3)
    have t4 : (n.toList == [120, 109, 112]) = false := beq_eq_false_iff_ne.2 (by rw [bytes_list]; exact n4)
    have t5 : (n.toList == [105, 102, 114, 97, 109, 101]) = false := beq_eq_false_iff_ne.2 (by rw [bytes_list]; exact n5)
    have t6 : (n.toList == [110, 111, 101, 109, 98, 101, 100]) = false := beq_eq_false_iff_ne.2 (by rw [bytes_list]; exact n6)
    have t7 : (n.toList == [110, 111, 102, 114, 97, 109, 101, 115]) = false := beq_eq_false_iff_ne.2 (by rw [bytes_list]; exact n7)
    have t8 : (n.toList == [112, 108, 97, 105, 110, 116, 101, 120, 116]) = false := beq_eq_false_iff_ne.2 (by rw [bytes_list]; exact n8)
    have t9 : (n.toList == [110, 111, 115, 99, 114, 105, 112, 116]) = false := beq_eq_false_iff_ne.2 (by rw [bytes_list]; exact n9)
    clear hk n0 n1 n2 n3 n4 n5 n6 n7 n8 n9
    go_enter Tryz.func99, Tryz.ntmps99
    go_wp2_with fail
    go_ret
    exact ⟨rfl, rfl⟩
end Go.Proofs.YtiejmkjpgjbodaaGreatDoor

namespace Go.Proofs.YtiejmkjpgjbodaaGreatDoor
open Go.RowKit
set_option linter.unusedVariables false
set_option linter.unusedSimpArgs false
set_option maxRecDepth 100000
def voidL : List (List UInt8) := [[97, 114, 101, 97], [98, 97, 115, 101], [98, 114], [99, 111, 108], [101, 109, 98, 101, 100], [104, 114], [105, 109, 103], [105, 110, 112, 117, 116], [108, 105, 110, 107], [109, 101, 116, 97], [115, 111, 117, 114, 99, 101], [116, 114, 97, 99, 107], [119, 98, 114]]
def blockNL : List (List UInt8) := [[97, 100, 100, 114, 101, 115, 115], [97, 114, 116, 105, 99, 108, 101], [97, 115, 105, 100, 101], [98, 108, 111, 99, 107, 113, 117, 111, 116, 101], [99, 101, 110, 116, 101, 114], [100, 101, 116, 97, 105, 108, 115], [100, 105, 118], [100, 108], [102, 105, 101, 108, 100, 115, 101, 116], [102, 105, 103, 117, 114, 101], [102, 111, 111, 116, 101, 114], [102, 111, 114, 109], [104, 101, 97, 100, 101, 114], [104, 114], [108, 105], [109, 97, 105, 110], [110, 97, 118], [111, 108], [112], [112, 114, 101], [115, 101, 99, 116, 105, 111, 110], [116, 97, 98, 108, 101], [117, 108], [100, 100], [100, 116], [104, 49], [104, 50], [104, 51], [104, 52], [104, 53], [104, 54]]
def wallL : List (List UInt8) := [[116, 97, 98, 108, 101], [98, 117, 116, 116, 111, 110], [117, 108], [111, 108], [100, 108], [115, 118, 103], [109, 97, 116, 104], [116, 101, 109, 112, 108, 97, 116, 101], [111, 98, 106, 101, 99, 116], [97, 112, 112, 108, 101, 116], [109, 97, 114, 113, 117, 101, 101]]
def headNL : List (List UInt8) := [[104, 49], [104, 50], [104, 51], [104, 52], [104, 53], [104, 54]]
def sameL : List (List UInt8) := [[108, 105], [97], [111, 112, 116, 105, 111, 110], [116, 114], [110, 111, 98, 114], [98, 117, 116, 116, 111, 110]]
def voidB (n : List UInt8) : Bool := voidL.contains n
def wallB (n : List UInt8) : Bool := wallL.contains n
def blockNB (n : List UInt8) : Bool := blockNL.contains n
def headNB (n : List UInt8) : Bool := headNL.contains n
def closesB (n o : List UInt8) : Bool :=
  if o = [112] then blockNB n
  else if o = [100, 100] ∨ o = [100, 116] then decide (n = [100, 100] ∨ n = [100, 116])
  else if o = [116, 100] ∨ o = [116, 104] then decide (n = [116, 100] ∨ n = [116, 104] ∨ n = [116, 114])
  else if sameL.contains o then decide (n = o)
  else headNB o && headNB n
structure PartL where
  name : List UInt8
  attrs : List AtL
  kids : List (NdH × Tr)
  tail : List UInt8
deriving DecidableEq
def rootL : PartL := ⟨[], [], [], []⟩
def textNd (x : List UInt8) : NdH × Tr := (⟨[], [], x⟩, .nil)
def endTextL (p : PartL) : PartL := if p.tail = [] then p else { p with kids := p.kids ++ [textNd p.tail], tail := [] }
def PartL.node (p : PartL) : NdH × Tr := (⟨p.name, p.attrs, []⟩, Tr.of p.kids)
def closeTop : List PartL → List PartL
  | p :: q :: r => { q with kids := q.kids ++ [(endTextL p).node] } :: r
  | st => st
def closeN : Nat → List PartL → List PartL
  | 0, st => st
  | n + 1, st => closeN n (closeTop st)
def findP (is : List UInt8 → Bool) : List PartL → Option Nat
  | p :: q :: r => if is p.name = true then some 1 else if wallB p.name = true then none else (findP is (q :: r)).map (· + 1)
  | _ => none
def closeAll (is : List UInt8 → Bool) : Nat → List PartL → List PartL
  | 0, st => st
  | f + 1, st => match findP is st with
    | none => st
    | some n => closeAll is f (closeN n st)
abbrev BsL := List PartL × Nat
def charsP (x : List UInt8) (s : BsL) : BsL := match s.1 with
  | [] => s
  | p :: r => if p.tail = [] then (if s.2 = 5000 then s else ({ p with tail := x } :: r, s.2 + 1)) else ({ p with tail := p.tail ++ x } :: r, s.2)
def putP (t : TokL) (st : List PartL) (n : Nat) : BsL := match st with
  | [] => (st, n)
  | p :: r => if voidB t.name = true ∨ 30 < st.length then ({ endTextL p with kids := (endTextL p).kids ++ [(⟨t.name, t.attrs, []⟩, Tr.nil)] } :: r, n + 1)
    else (⟨t.name, t.attrs, [], []⟩ :: endTextL p :: r, n + 1)
def startP (t : TokL) (s : BsL) : BsL :=
  if s.2 = 5000 then (closeAll (closesB t.name) s.1.length s.1, s.2) else putP t (closeAll (closesB t.name) s.1.length s.1) s.2
def endP (n : List UInt8) (s : BsL) : BsL := match findP (fun o => o == n) s.1 with
  | none => s
  | some k => (closeN k s.1, s.2)
def tokB (s : BsL) (t : TokL) : BsL := if t.kind = 1 then charsP t.text s else if t.kind = 2 then startP t s else if t.kind = 3 then endP t.name s else s
def endTree (st : List PartL) : Tr := match closeN (st.length - 1) st with
  | p :: _ => Tr.of (endTextL p).kids
  | [] => .nil
def buildP (L : List TokL) : Tr := endTree (L.foldl tokB ([rootL], 0)).1
theorem closeTop_length (st : List PartL) : (closeTop st).length = if 2 ≤ st.length then st.length - 1 else st.length := by
  match st with
  | [] => rfl
  | [p] => rfl
  | p :: q :: r => simp [closeTop]
theorem closeN_length (n : Nat) (st : List PartL) (h : n < st.length) : (closeN n st).length = st.length - n := by
  induction n generalizing st with
  | zero => rfl
  | succ n ih =>
    rw [closeN, ih _ (by rw [closeTop_length, if_pos (by omega)]; omega), closeTop_length, if_pos (by omega)]; omega
theorem findP_lt {is : List UInt8 → Bool} {st : List PartL} {n : Nat} (h : findP is st = some n) : 0 < n ∧ n < st.length := by
  induction st generalizing n with
  | nil => cases h
  | cons p r ih => cases r with
    | nil => cases h
    | cons q r =>
      simp only [findP] at h
      split at h
      · injection h with h; subst h; simp
      · split at h
        · cases h
        · obtain ⟨m, h1, rfl⟩ := Option.map_eq_some_iff.1 h
          have := ih h1
          simp only [List.length_cons] at this ⊢; omega
theorem closeAll_length (is : List UInt8 → Bool) (f : Nat) (st : List PartL) : (closeAll is f st).length ≤ st.length ∧ (st ≠ [] → closeAll is f st ≠ []) := by
  induction f generalizing st with
  | zero => exact ⟨Nat.le_refl _, id⟩
  | succ f ih =>
    rw [closeAll]
    split
    · exact ⟨Nat.le_refl _, id⟩
    · rename_i n h
      obtain ⟨h1, h2⟩ := findP_lt h
      have h3 := closeN_length n st h2
      have h4 := ih (closeN n st)
      refine ⟨by omega, fun _ => h4.2 (fun e => by rw [e] at h3; simp only [List.length_nil] at h3; omega)⟩
theorem closeAll_done (is : List UInt8 → Bool) (f : Nat) (st : List PartL) (h : st.length ≤ f + 1) : findP is (closeAll is f st) = none := by
  induction f generalizing st with
  | zero =>
    rw [closeAll]
    match st, h with
    | [], _ => rfl
    | [p], _ => rfl
  | succ f ih =>
    rw [closeAll]
    split
    · assumption
    · rename_i n hn
      obtain ⟨h1, h2⟩ := findP_lt hn
      exact ih _ (by rw [closeN_length n st h2]; omega)
theorem closeAll_more (is : List UInt8 → Bool) (f g : Nat) (st : List PartL) (h : st.length ≤ f + 1) (hg : f ≤ g) : closeAll is g st = closeAll is f st := by
  induction f generalizing g st with
  | zero =>
    have hn : findP is st = none := by
      match st, h with
      | [], _ => rfl
      | [p], _ => rfl
    cases g with
    | zero => rfl
    | succ g => simp only [closeAll, hn]
  | succ f ih =>
    obtain ⟨g, rfl⟩ : ∃ g', g = g' + 1 := ⟨g - 1, by omega⟩
    rw [closeAll, closeAll]
    cases hn : findP is st with
    | none => rfl
    | some n =>
      obtain ⟨h1, h2⟩ := findP_lt hn
      exact ih g _ (by rw [closeN_length n st h2]; omega) (by omega)
theorem closeAll_step {is : List UInt8 → Bool} {st : List PartL} {n : Nat} (h : findP is st = some n) : closeAll is st.length st = closeAll is (closeN n st).length (closeN n st) := by
  obtain ⟨h1, h2⟩ := findP_lt h
  have h3 := closeN_length n st h2
  obtain ⟨k, hk⟩ : ∃ k, st.length = k + 1 := ⟨st.length - 1, by omega⟩
  rw [hk, closeAll, h]
  exact closeAll_more is _ _ _ (by omega) (by omega)
theorem closeAll_none {is : List UInt8 → Bool} {st : List PartL} (h : findP is st = none) : closeAll is st.length st = st := by
  cases hl : st.length with
  | zero => rfl
  | succ k => rw [closeAll, h]
end Go.Proofs.YtiejmkjpgjbodaaGreatDoor

namespace Go.Proofs.YtiejmkjpgjbodaaGreatDoor
open Go.RowKit
set_option linter.unusedVariables false
set_option linter.unusedSimpArgs false
set_option maxRecDepth 100000
set_option maxHeartbeats 8000000 in
theorem isWall_any (n : ByteArray) (w : World) : Calls Tryz.prog 87 #[.string n] w fun e w' => e = .returned (.bool (wallL.contains n.data.toList)) ∧ w = w' := by
  cases hk : wallL.contains n.data.toList with
  | true =>
    have hc : n.data.toList = [116, 97, 98, 108, 101] ∨ n.data.toList = [98, 117, 116, 116, 111, 110] ∨ n.data.toList = [117, 108] ∨ n.data.toList = [111, 108] ∨ n.data.toList = [100, 108] ∨ n.data.toList = [115, 118, 103] ∨ n.data.toList = [109, 97, 116, 104] ∨ n.data.toList = [116, 101, 109, 112, 108, 97, 116, 101] ∨ n.data.toList = [111, 98, 106, 101, 99, 116] ∨ n.data.toList = [97, 112, 112, 108, 101, 116] ∨ n.data.toList = [109, 97, 114, 113, 117, 101, 101] := by simpa [wallL] using hk
    clear hk
    rcases hc with h | h | h | h | h | h | h | h | h | h | h
    · obtain rfl : n = ⟨#[116, 97, 98, 108, 101]⟩ := ext_list h
      clear h
      go_enter Tryz.func87, Tryz.ntmps87
      go_wp2_with fail
      go_ret
      exact ⟨rfl, rfl⟩
    · obtain rfl : n = ⟨#[98, 117, 116, 116, 111, 110]⟩ := ext_list h
      clear h
      go_enter Tryz.func87, Tryz.ntmps87
      go_wp2_with fail
      go_ret
      exact ⟨rfl, rfl⟩
    · obtain rfl : n = ⟨#[117, 108]⟩ := ext_list h
      clear h
      go_enter Tryz.func87, Tryz.ntmps87
      go_wp2_with fail
      go_ret
      exact ⟨rfl, rfl⟩
    · obtain rfl : n = ⟨#[111, 108]⟩ := ext_list h
      clear h
      go_enter Tryz.func87, Tryz.ntmps87
      go_wp2_with fail
      go_ret
      exact ⟨rfl, rfl⟩
    · obtain rfl : n = ⟨#[100, 108]⟩ := ext_list h
      clear h
      go_enter Tryz.func87, Tryz.ntmps87
      go_wp2_with fail
      go_ret
      exact ⟨rfl, rfl⟩
    · obtain rfl : n = ⟨#[115, 118, 103]⟩ := ext_list h
      clear h
      go_enter Tryz.func87, Tryz.ntmps87
      go_wp2_with fail
      go_ret
      exact ⟨rfl, rfl⟩
    · obtain rfl : n = ⟨#[109, 97, 116, 104]⟩ := ext_list h
      clear h
      go_enter Tryz.func87, Tryz.ntmps87
      go_wp2_with fail
      go_ret
      exact ⟨rfl, rfl⟩
    · obtain rfl : n = ⟨#[116, 101, 109, 112, 108, 97, 116, 101]⟩ := ext_list h
      clear h
      go_enter Tryz.func87, Tryz.ntmps87
      go_wp2_with fail
      go_ret
      exact ⟨rfl, rfl⟩
    · obtain rfl : n = ⟨#[111, 98, 106, 101, 99, 116]⟩ := ext_list h
      clear h
      go_enter Tryz.func87, Tryz.ntmps87
      go_wp2_with fail
      go_ret
      exact ⟨rfl, rfl⟩
    · obtain rfl : n = ⟨#[97, 112, 112, 108, 101, 116]⟩ := ext_list h
      clear h
      go_enter Tryz.func87, Tryz.ntmps87
      go_wp2_with fail
      go_ret
      exact ⟨rfl, rfl⟩
    · obtain rfl : n = ⟨#[109, 97, 114, 113, 117, 101, 101]⟩ := ext_list h
      clear h
      go_enter Tryz.func87, Tryz.ntmps87
      go_wp2_with fail
      go_ret
      exact ⟨rfl, rfl⟩
  | false =>
    have hc : n.data.toList ≠ [116, 97, 98, 108, 101] ∧ n.data.toList ≠ [98, 117, 116, 116, 111, 110] ∧ n.data.toList ≠ [117, 108] ∧ n.data.toList ≠ [111, 108] ∧ n.data.toList ≠ [100, 108] ∧ n.data.toList ≠ [115, 118, 103] ∧ n.data.toList ≠ [109, 97, 116, 104] ∧ n.data.toList ≠ [116, 101, 109, 112, 108, 97, 116, 101] ∧ n.data.toList ≠ [111, 98, 106, 101, 99, 116] ∧ n.data.toList ≠ [97, 112, 112, 108, 101, 116] ∧ n.data.toList ≠ [109, 97, 114, 113, 117, 101, 101] := by simpa [wallL] using hk
    clear hk
    obtain ⟨tn0, tn1, tn2, tn3, tn4, tn5, tn6, tn7, tn8, tn9, tn10⟩ := hc
    have t0 : (n.toList == [116, 97, 98, 108, 101]) = false := beq_eq_false_iff_ne.2 (by rw [bytes_list]; exact tn0)
    have t1 : (n.toList == [98, 117, 116, 116, 111, 110]) = false := beq_eq_false_iff_ne.2 (by rw [bytes_list]; exact tn1)
    have t2 : (n.toList == [117, 108]) = false := beq_eq_false_iff_ne.2 (by rw [bytes_list]; exact tn2)
    have t3 : (n.toList == [111, 108]) = false := beq_eq_false_iff_ne.2 (by rw [bytes_list]; exact tn3)
    have t4 : (n.toList == [100, 108]) = false := beq_eq_false_iff_ne.2 (by rw [bytes_list]; exact tn4)
    have t5 : (n.toList == [115, 118, 103]) = false := beq_eq_false_iff_ne.2 (by rw [bytes_list]; exact tn5)
    have t6 : (n.toList == [109, 97, 116, 104]) = false := beq_eq_false_iff_ne.2 (by rw [bytes_list]; exact tn6)
    have t7 : (n.toList == [116, 101, 109, 112, 108, 97, 116, 101]) = false := beq_eq_false_iff_ne.2 (by rw [bytes_list]; exact tn7)
    have t8 : (n.toList == [111, 98, 106, 101, 99, 116]) = false := beq_eq_false_iff_ne.2 (by rw [bytes_list]; exact tn8)
    have t9 : (n.toList == [97, 112, 112, 108, 101, 116]) = false := beq_eq_false_iff_ne.2 (by rw [bytes_list]; exact tn9)
    have t10 : (n.toList == [109, 97, 114, 113, 117, 101, 101]) = false := beq_eq_false_iff_ne.2 (by rw [bytes_list]; exact tn10)
    clear tn0 tn1 tn2 tn3 tn4 tn5 tn6 tn7 tn8 tn9 tn10
    go_enter Tryz.func87, Tryz.ntmps87
    go_wp2_with fail
    go_ret
    exact ⟨rfl, rfl⟩
set_option maxHeartbeats 8000000 in
theorem isHeading_any (n : ByteArray) (w : World) : Calls Tryz.prog 80 #[.string n] w fun e w' => e = .returned (.bool (headNL.contains n.data.toList)) ∧ w = w' := by
  cases hk : headNL.contains n.data.toList with
  | true =>
    have hc : n.data.toList = [104, 49] ∨ n.data.toList = [104, 50] ∨ n.data.toList = [104, 51] ∨ n.data.toList = [104, 52] ∨ n.data.toList = [104, 53] ∨ n.data.toList = [104, 54] := by simpa [headNL] using hk
    clear hk
    rcases hc with h | h | h | h | h | h
    · obtain rfl : n = ⟨#[104, 49]⟩ := ext_list h
      clear h
      go_enter Tryz.func80, Tryz.ntmps80
      go_wp2_with fail
      go_ret
      exact ⟨rfl, rfl⟩
    · obtain rfl : n = ⟨#[104, 50]⟩ := ext_list h
      clear h
      go_enter Tryz.func80, Tryz.ntmps80
      go_wp2_with fail
      go_ret
      exact ⟨rfl, rfl⟩
    · obtain rfl : n = ⟨#[104, 51]⟩ := ext_list h
      clear h
      go_enter Tryz.func80, Tryz.ntmps80
      go_wp2_with fail
      go_ret
      exact ⟨rfl, rfl⟩
    · obtain rfl : n = ⟨#[104, 52]⟩ := ext_list h
      clear h
      go_enter Tryz.func80, Tryz.ntmps80
      go_wp2_with fail
      go_ret
      exact ⟨rfl, rfl⟩
    · obtain rfl : n = ⟨#[104, 53]⟩ := ext_list h
      clear h
      go_enter Tryz.func80, Tryz.ntmps80
      go_wp2_with fail
      go_ret
      exact ⟨rfl, rfl⟩
    · obtain rfl : n = ⟨#[104, 54]⟩ := ext_list h
      clear h
      go_enter Tryz.func80, Tryz.ntmps80
      go_wp2_with fail
      go_ret
      exact ⟨rfl, rfl⟩
  | false =>
    have hc : n.data.toList ≠ [104, 49] ∧ n.data.toList ≠ [104, 50] ∧ n.data.toList ≠ [104, 51] ∧ n.data.toList ≠ [104, 52] ∧ n.data.toList ≠ [104, 53] ∧ n.data.toList ≠ [104, 54] := by simpa [headNL] using hk
    clear hk
    obtain ⟨tn0, tn1, tn2, tn3, tn4, tn5⟩ := hc
    have t0 : (n.toList == [104, 49]) = false := beq_eq_false_iff_ne.2 (by rw [bytes_list]; exact tn0)
    have t1 : (n.toList == [104, 50]) = false := beq_eq_false_iff_ne.2 (by rw [bytes_list]; exact tn1)
    have t2 : (n.toList == [104, 51]) = false := beq_eq_false_iff_ne.2 (by rw [bytes_list]; exact tn2)
    have t3 : (n.toList == [104, 52]) = false := beq_eq_false_iff_ne.2 (by rw [bytes_list]; exact tn3)
    have t4 : (n.toList == [104, 53]) = false := beq_eq_false_iff_ne.2 (by rw [bytes_list]; exact tn4)
    have t5 : (n.toList == [104, 54]) = false := beq_eq_false_iff_ne.2 (by rw [bytes_list]; exact tn5)
    clear tn0 tn1 tn2 tn3 tn4 tn5
    go_enter Tryz.func80, Tryz.ntmps80
    go_wp2_with fail
    go_ret
    exact ⟨rfl, rfl⟩
set_option maxHeartbeats 8000000 in
theorem void14_any (n : ByteArray) (w : World) : Calls Tryz.prog 31 #[.string n] w fun e w' => e = .returned (.bool (voidL.contains n.data.toList)) ∧ w = w' := by
  cases hk : voidL.contains n.data.toList with
  | true =>
    have hc : n.data.toList = [97, 114, 101, 97] ∨ n.data.toList = [98, 97, 115, 101] ∨ n.data.toList = [98, 114] ∨ n.data.toList = [99, 111, 108] ∨ n.data.toList = [101, 109, 98, 101, 100] ∨ n.data.toList = [104, 114] ∨ n.data.toList = [105, 109, 103] ∨ n.data.toList = [105, 110, 112, 117, 116] ∨ n.data.toList = [108, 105, 110, 107] ∨ n.data.toList = [109, 101, 116, 97] ∨ n.data.toList = [115, 111, 117, 114, 99, 101] ∨ n.data.toList = [116, 114, 97, 99, 107] ∨ n.data.toList = [119, 98, 114] := by simpa [voidL] using hk
    clear hk
    rcases hc with h | h | h | h | h | h | h | h | h | h | h | h | h
    · obtain rfl : n = ⟨#[97, 114, 101, 97]⟩ := ext_list h
      clear h
      go_enter Tryz.func31, Tryz.ntmps31
      go_wp2_with fail
      go_ret
      exact ⟨rfl, rfl⟩
    · obtain rfl : n = ⟨#[98, 97, 115, 101]⟩ := ext_list h
      clear h
      go_enter Tryz.func31, Tryz.ntmps31
      go_wp2_with fail
      go_ret
      exact ⟨rfl, rfl⟩
    · obtain rfl : n = ⟨#[98, 114]⟩ := ext_list h
      clear h
      go_enter Tryz.func31, Tryz.ntmps31
      go_wp2_with fail
      go_ret
      exact ⟨rfl, rfl⟩
    · obtain rfl : n = ⟨#[99, 111, 108]⟩ := ext_list h
      clear h
      go_enter Tryz.func31, Tryz.ntmps31
      go_wp2_with fail
      go_ret
      exact ⟨rfl, rfl⟩
    · obtain rfl : n = ⟨#[101, 109, 98, 101, 100]⟩ := ext_list h
      clear h
      go_enter Tryz.func31, Tryz.ntmps31
      go_wp2_with fail
      go_ret
      exact ⟨rfl, rfl⟩
    · obtain rfl : n = ⟨#[104, 114]⟩ := ext_list h
      clear h
      go_enter Tryz.func31, Tryz.ntmps31
      go_wp2_with fail
      go_ret
      exact ⟨rfl, rfl⟩
    · obtain rfl : n = ⟨#[105, 109, 103]⟩ := ext_list h
      clear h
      go_enter Tryz.func31, Tryz.ntmps31
      go_wp2_with fail
      go_ret
      exact ⟨rfl, rfl⟩
    · obtain rfl : n = ⟨#[105, 110, 112, 117, 116]⟩ := ext_list h
      clear h
      go_enter Tryz.func31, Tryz.ntmps31
      go_wp2_with fail
      go_ret
      exact ⟨rfl, rfl⟩
    · obtain rfl : n = ⟨#[108, 105, 110, 107]⟩ := ext_list h
      clear h
      go_enter Tryz.func31, Tryz.ntmps31
      go_wp2_with fail
      go_ret
      exact ⟨rfl, rfl⟩
    · obtain rfl : n = ⟨#[109, 101, 116, 97]⟩ := ext_list h
      clear h
      go_enter Tryz.func31, Tryz.ntmps31
      go_wp2_with fail
      go_ret
      exact ⟨rfl, rfl⟩
    · obtain rfl : n = ⟨#[115, 111, 117, 114, 99, 101]⟩ := ext_list h
      clear h
      go_enter Tryz.func31, Tryz.ntmps31
      go_wp2_with fail
      go_ret
      exact ⟨rfl, rfl⟩
    · obtain rfl : n = ⟨#[116, 114, 97, 99, 107]⟩ := ext_list h
      clear h
      go_enter Tryz.func31, Tryz.ntmps31
      go_wp2_with fail
      go_ret
      exact ⟨rfl, rfl⟩
    · obtain rfl : n = ⟨#[119, 98, 114]⟩ := ext_list h
      clear h
      go_enter Tryz.func31, Tryz.ntmps31
      go_wp2_with fail
      go_ret
      exact ⟨rfl, rfl⟩
  | false =>
    have hc : n.data.toList ≠ [97, 114, 101, 97] ∧ n.data.toList ≠ [98, 97, 115, 101] ∧ n.data.toList ≠ [98, 114] ∧ n.data.toList ≠ [99, 111, 108] ∧ n.data.toList ≠ [101, 109, 98, 101, 100] ∧ n.data.toList ≠ [104, 114] ∧ n.data.toList ≠ [105, 109, 103] ∧ n.data.toList ≠ [105, 110, 112, 117, 116] ∧ n.data.toList ≠ [108, 105, 110, 107] ∧ n.data.toList ≠ [109, 101, 116, 97] ∧ n.data.toList ≠ [115, 111, 117, 114, 99, 101] ∧ n.data.toList ≠ [116, 114, 97, 99, 107] ∧ n.data.toList ≠ [119, 98, 114] := by simpa [voidL] using hk
    clear hk
    obtain ⟨tn0, tn1, tn2, tn3, tn4, tn5, tn6, tn7, tn8, tn9, tn10, tn11, tn12⟩ := hc
    have t0 : (n.toList == [97, 114, 101, 97]) = false := beq_eq_false_iff_ne.2 (by rw [bytes_list]; exact tn0)
    have t1 : (n.toList == [98, 97, 115, 101]) = false := beq_eq_false_iff_ne.2 (by rw [bytes_list]; exact tn1)
    have t2 : (n.toList == [98, 114]) = false := beq_eq_false_iff_ne.2 (by rw [bytes_list]; exact tn2)
    have t3 : (n.toList == [99, 111, 108]) = false := beq_eq_false_iff_ne.2 (by rw [bytes_list]; exact tn3)
    have t4 : (n.toList == [101, 109, 98, 101, 100]) = false := beq_eq_false_iff_ne.2 (by rw [bytes_list]; exact tn4)
    have t5 : (n.toList == [104, 114]) = false := beq_eq_false_iff_ne.2 (by rw [bytes_list]; exact tn5)
    have t6 : (n.toList == [105, 109, 103]) = false := beq_eq_false_iff_ne.2 (by rw [bytes_list]; exact tn6)
    have t7 : (n.toList == [105, 110, 112, 117, 116]) = false := beq_eq_false_iff_ne.2 (by rw [bytes_list]; exact tn7)
    have t8 : (n.toList == [108, 105, 110, 107]) = false := beq_eq_false_iff_ne.2 (by rw [bytes_list]; exact tn8)
    have t9 : (n.toList == [109, 101, 116, 97]) = false := beq_eq_false_iff_ne.2 (by rw [bytes_list]; exact tn9)
    have t10 : (n.toList == [115, 111, 117, 114, 99, 101]) = false := beq_eq_false_iff_ne.2 (by rw [bytes_list]; exact tn10)
    have t11 : (n.toList == [116, 114, 97, 99, 107]) = false := beq_eq_false_iff_ne.2 (by rw [bytes_list]; exact tn11)
    have t12 : (n.toList == [119, 98, 114]) = false := beq_eq_false_iff_ne.2 (by rw [bytes_list]; exact tn12)
    clear tn0 tn1 tn2 tn3 tn4 tn5 tn6 tn7 tn8 tn9 tn10 tn11 tn12
    go_enter Tryz.func31, Tryz.ntmps31
    go_wp2_with fail
    go_ret
    exact ⟨rfl, rfl⟩
set_option maxHeartbeats 8000000 in
theorem isBlock_any (n : ByteArray) (w : World) : Calls Tryz.prog 79 #[.string n] w fun e w' => e = .returned (.bool (blockNL.contains n.data.toList)) ∧ w = w' := by
  have hh : ∀ bb : Bool, headNL.contains n.data.toList = bb → Calls Tryz.prog 80 #[.string n] w fun e w' => e = .returned (.bool bb) ∧ w = w' := fun bb e => by rw [← e]; exact isHeading_any n w
  cases hk : blockNL.contains n.data.toList with
  | true =>
    have hc : n.data.toList = [97, 100, 100, 114, 101, 115, 115] ∨ n.data.toList = [97, 114, 116, 105, 99, 108, 101] ∨ n.data.toList = [97, 115, 105, 100, 101] ∨ n.data.toList = [98, 108, 111, 99, 107, 113, 117, 111, 116, 101] ∨ n.data.toList = [99, 101, 110, 116, 101, 114] ∨ n.data.toList = [100, 101, 116, 97, 105, 108, 115] ∨ n.data.toList = [100, 105, 118] ∨ n.data.toList = [100, 108] ∨ n.data.toList = [102, 105, 101, 108, 100, 115, 101, 116] ∨ n.data.toList = [102, 105, 103, 117, 114, 101] ∨ n.data.toList = [102, 111, 111, 116, 101, 114] ∨ n.data.toList = [102, 111, 114, 109] ∨ n.data.toList = [104, 101, 97, 100, 101, 114] ∨ n.data.toList = [104, 114] ∨ n.data.toList = [108, 105] ∨ n.data.toList = [109, 97, 105, 110] ∨ n.data.toList = [110, 97, 118] ∨ n.data.toList = [111, 108] ∨ n.data.toList = [112] ∨ n.data.toList = [112, 114, 101] ∨ n.data.toList = [115, 101, 99, 116, 105, 111, 110] ∨ n.data.toList = [116, 97, 98, 108, 101] ∨ n.data.toList = [117, 108] ∨ n.data.toList = [100, 100] ∨ n.data.toList = [100, 116] ∨ n.data.toList = [104, 49] ∨ n.data.toList = [104, 50] ∨ n.data.toList = [104, 51] ∨ n.data.toList = [104, 52] ∨ n.data.toList = [104, 53] ∨ n.data.toList = [104, 54] := by simpa [blockNL] using hk
    clear hk
    rcases hc with h | h | h | h | h | h | h | h | h | h | h | h | h | h | h | h | h | h | h | h | h | h | h | h | h | h | h | h | h | h | h
    · obtain rfl : n = ⟨#[97, 100, 100, 114, 101, 115, 115]⟩ := ext_list h
      clear h hh
      go_enter Tryz.func79, Tryz.ntmps79
      go_wp2_with fail
      go_ret
      exact ⟨rfl, rfl⟩
    · obtain rfl : n = ⟨#[97, 114, 116, 105, 99, 108, 101]⟩ := ext_list h
      clear h hh
      go_enter Tryz.func79, Tryz.ntmps79
      go_wp2_with fail
      go_ret
      exact ⟨rfl, rfl⟩
    · obtain rfl : n = ⟨#[97, 115, 105, 100, 101]⟩ := ext_list h
      clear h hh
      go_enter Tryz.func79, Tryz.ntmps79
      go_wp2_with fail
      go_ret
      exact ⟨rfl, rfl⟩
    · obtain rfl : n = ⟨#[98, 108, 111, 99, 107, 113, 117, 111, 116, 101]⟩ := ext_list h
      clear h hh
      go_enter Tryz.func79, Tryz.ntmps79
      go_wp2_with fail
      go_ret
      exact ⟨rfl, rfl⟩
    · obtain rfl : n = ⟨#[99, 101, 110, 116, 101, 114]⟩ := ext_list h
      clear h hh
      go_enter Tryz.func79, Tryz.ntmps79
      go_wp2_with fail
      go_ret
      exact ⟨rfl, rfl⟩
    · obtain rfl : n = ⟨#[100, 101, 116, 97, 105, 108, 115]⟩ := ext_list h
      clear h hh
      go_enter Tryz.func79, Tryz.ntmps79
      go_wp2_with fail
      go_ret
      exact ⟨rfl, rfl⟩
    · obtain rfl : n = ⟨#[100, 105, 118]⟩ := ext_list h
      clear h hh
      go_enter Tryz.func79, Tryz.ntmps79
      go_wp2_with fail
      go_ret
      exact ⟨rfl, rfl⟩
    · obtain rfl : n = ⟨#[100, 108]⟩ := ext_list h
      clear h hh
      go_enter Tryz.func79, Tryz.ntmps79
      go_wp2_with fail
      go_ret
      exact ⟨rfl, rfl⟩
    · obtain rfl : n = ⟨#[102, 105, 101, 108, 100, 115, 101, 116]⟩ := ext_list h
      clear h hh
      go_enter Tryz.func79, Tryz.ntmps79
      go_wp2_with fail
      go_ret
      exact ⟨rfl, rfl⟩
    · obtain rfl : n = ⟨#[102, 105, 103, 117, 114, 101]⟩ := ext_list h
      clear h hh
      go_enter Tryz.func79, Tryz.ntmps79
      go_wp2_with fail
      go_ret
      exact ⟨rfl, rfl⟩
    · obtain rfl : n = ⟨#[102, 111, 111, 116, 101, 114]⟩ := ext_list h
      clear h hh
      go_enter Tryz.func79, Tryz.ntmps79
      go_wp2_with fail
      go_ret
      exact ⟨rfl, rfl⟩
    · obtain rfl : n = ⟨#[102, 111, 114, 109]⟩ := ext_list h
      clear h hh
      go_enter Tryz.func79, Tryz.ntmps79
      go_wp2_with fail
      go_ret
      exact ⟨rfl, rfl⟩
    · obtain rfl : n = ⟨#[104, 101, 97, 100, 101, 114]⟩ := ext_list h
      clear h hh
      go_enter Tryz.func79, Tryz.ntmps79
      go_wp2_with fail
      go_ret
      exact ⟨rfl, rfl⟩
    · obtain rfl : n = ⟨#[104, 114]⟩ := ext_list h
      clear h hh
      go_enter Tryz.func79, Tryz.ntmps79
      go_wp2_with fail
      go_ret
      exact ⟨rfl, rfl⟩
    · obtain rfl : n = ⟨#[108, 105]⟩ := ext_list h
      clear h hh
      go_enter Tryz.func79, Tryz.ntmps79
      go_wp2_with fail
      go_ret
      exact ⟨rfl, rfl⟩
    · obtain rfl : n = ⟨#[109, 97, 105, 110]⟩ := ext_list h
      clear h hh
      go_enter Tryz.func79, Tryz.ntmps79
      go_wp2_with fail
      go_ret
      exact ⟨rfl, rfl⟩
    · obtain rfl : n = ⟨#[110, 97, 118]⟩ := ext_list h
      clear h hh
      go_enter Tryz.func79, Tryz.ntmps79
      go_wp2_with fail
      go_ret
      exact ⟨rfl, rfl⟩
    · obtain rfl : n = ⟨#[111, 108]⟩ := ext_list h
      clear h hh
      go_enter Tryz.func79, Tryz.ntmps79
      go_wp2_with fail
      go_ret
      exact ⟨rfl, rfl⟩
    · obtain rfl : n = ⟨#[112]⟩ := ext_list h
      clear h hh
      go_enter Tryz.func79, Tryz.ntmps79
      go_wp2_with fail
      go_ret
      exact ⟨rfl, rfl⟩
    · obtain rfl : n = ⟨#[112, 114, 101]⟩ := ext_list h
      clear h hh
      go_enter Tryz.func79, Tryz.ntmps79
      go_wp2_with fail
      go_ret
      exact ⟨rfl, rfl⟩
    · obtain rfl : n = ⟨#[115, 101, 99, 116, 105, 111, 110]⟩ := ext_list h
      clear h hh
      go_enter Tryz.func79, Tryz.ntmps79
      go_wp2_with fail
      go_ret
      exact ⟨rfl, rfl⟩
    · obtain rfl : n = ⟨#[116, 97, 98, 108, 101]⟩ := ext_list h
      clear h hh
      go_enter Tryz.func79, Tryz.ntmps79
      go_wp2_with fail
      go_ret
      exact ⟨rfl, rfl⟩
    · obtain rfl : n = ⟨#[117, 108]⟩ := ext_list h
      clear h hh
      go_enter Tryz.func79, Tryz.ntmps79
      go_wp2_with fail
      go_ret
      exact ⟨rfl, rfl⟩
    · obtain rfl : n = ⟨#[100, 100]⟩ := ext_list h
      clear h hh
      go_enter Tryz.func79, Tryz.ntmps79
      go_wp2_with fail
      go_ret
      exact ⟨rfl, rfl⟩
    · obtain rfl : n = ⟨#[100, 116]⟩ := ext_list h
      clear h hh
      go_enter Tryz.func79, Tryz.ntmps79
      go_wp2_with fail
      go_ret
      exact ⟨rfl, rfl⟩
    · obtain rfl : n = ⟨#[104, 49]⟩ := ext_list h
      have HH := hide (hh true (by decide))
      clear h hh
      go_enter Tryz.func79, Tryz.ntmps79
      go_wp2_with fail
      refine HH.out.mono ?_
      rintro e w1 ⟨rfl, rfl⟩
      go_wp2_with fail
      go_ret
      exact ⟨rfl, rfl⟩
    · obtain rfl : n = ⟨#[104, 50]⟩ := ext_list h
      have HH := hide (hh true (by decide))
      clear h hh
      go_enter Tryz.func79, Tryz.ntmps79
      go_wp2_with fail
      refine HH.out.mono ?_
      rintro e w1 ⟨rfl, rfl⟩
      go_wp2_with fail
      go_ret
      exact ⟨rfl, rfl⟩
    · obtain rfl : n = ⟨#[104, 51]⟩ := ext_list h
      have HH := hide (hh true (by decide))
      clear h hh
      go_enter Tryz.func79, Tryz.ntmps79
      go_wp2_with fail
      refine HH.out.mono ?_
      rintro e w1 ⟨rfl, rfl⟩
      go_wp2_with fail
      go_ret
      exact ⟨rfl, rfl⟩
    · obtain rfl : n = ⟨#[104, 52]⟩ := ext_list h
      have HH := hide (hh true (by decide))
      clear h hh
      go_enter Tryz.func79, Tryz.ntmps79
      go_wp2_with fail
      refine HH.out.mono ?_
      rintro e w1 ⟨rfl, rfl⟩
      go_wp2_with fail
      go_ret
      exact ⟨rfl, rfl⟩
    · obtain rfl : n = ⟨#[104, 53]⟩ := ext_list h
      have HH := hide (hh true (by decide))
      clear h hh
      go_enter Tryz.func79, Tryz.ntmps79
      go_wp2_with fail
      refine HH.out.mono ?_
      rintro e w1 ⟨rfl, rfl⟩
      go_wp2_with fail
      go_ret
      exact ⟨rfl, rfl⟩
    · obtain rfl : n = ⟨#[104, 54]⟩ := ext_list h
      have HH := hide (hh true (by decide))
      clear h hh
      go_enter Tryz.func79, Tryz.ntmps79
      go_wp2_with fail
      refine HH.out.mono ?_
      rintro e w1 ⟨rfl, rfl⟩
      go_wp2_with fail
      go_ret
      exact ⟨rfl, rfl⟩
  | false =>
    have hc : n.data.toList ≠ [97, 100, 100, 114, 101, 115, 115] ∧ n.data.toList ≠ [97, 114, 116, 105, 99, 108, 101] ∧ n.data.toList ≠ [97, 115, 105, 100, 101] ∧ n.data.toList ≠ [98, 108, 111, 99, 107, 113, 117, 111, 116, 101] ∧ n.data.toList ≠ [99, 101, 110, 116, 101, 114] ∧ n.data.toList ≠ [100, 101, 116, 97, 105, 108, 115] ∧ n.data.toList ≠ [100, 105, 118] ∧ n.data.toList ≠ [100, 108] ∧ n.data.toList ≠ [102, 105, 101, 108, 100, 115, 101, 116] ∧ n.data.toList ≠ [102, 105, 103, 117, 114, 101] ∧ n.data.toList ≠ [102, 111, 111, 116, 101, 114] ∧ n.data.toList ≠ [102, 111, 114, 109] ∧ n.data.toList ≠ [104, 101, 97, 100, 101, 114] ∧ n.data.toList ≠ [104, 114] ∧ n.data.toList ≠ [108, 105] ∧ n.data.toList ≠ [109, 97, 105, 110] ∧ n.data.toList ≠ [110, 97, 118] ∧ n.data.toList ≠ [111, 108] ∧ n.data.toList ≠ [112] ∧ n.data.toList ≠ [112, 114, 101] ∧ n.data.toList ≠ [115, 101, 99, 116, 105, 111, 110] ∧ n.data.toList ≠ [116, 97, 98, 108, 101] ∧ n.data.toList ≠ [117, 108] ∧ n.data.toList ≠ [100, 100] ∧ n.data.toList ≠ [100, 116] ∧ n.data.toList ≠ [104, 49] ∧ n.data.toList ≠ [104, 50] ∧ n.data.toList ≠ [104, 51] ∧ n.data.toList ≠ [104, 52] ∧ n.data.toList ≠ [104, 53] ∧ n.data.toList ≠ [104, 54] := by simpa [blockNL] using hk
    obtain ⟨tn0, tn1, tn2, tn3, tn4, tn5, tn6, tn7, tn8, tn9, tn10, tn11, tn12, tn13, tn14, tn15, tn16, tn17, tn18, tn19, tn20, tn21, tn22, tn23, tn24, tn25, tn26, tn27, tn28, tn29, tn30⟩ := hc
    have HH := hide (hh false (by
      have : ¬ headNL.contains n.data.toList = true := by
        simp only [headNL, List.contains_cons, List.contains_nil, Bool.or_false, Bool.or_eq_true, beq_iff_eq, not_or]
        exact ⟨tn25, tn26, tn27, tn28, tn29, tn30⟩
      simpa using this))
    clear hk hh
    have t0 : (n.toList == [97, 100, 100, 114, 101, 115, 115]) = false := beq_eq_false_iff_ne.2 (by rw [bytes_list]; exact tn0)
    have t1 : (n.toList == [97, 114, 116, 105, 99, 108, 101]) = false := beq_eq_false_iff_ne.2 (by rw [bytes_list]; exact tn1)
    have t2 : (n.toList == [97, 115, 105, 100, 101]) = false := beq_eq_false_iff_ne.2 (by rw [bytes_list]; exact tn2)
    have t3 : (n.toList == [98, 108, 111, 99, 107, 113, 117, 111, 116, 101]) = false := beq_eq_false_iff_ne.2 (by rw [bytes_list]; exact tn3)
    have t4 : (n.toList == [99, 101, 110, 116, 101, 114]) = false := beq_eq_false_iff_ne.2 (by rw [bytes_list]; exact tn4)
    have t5 : (n.toList == [100, 101, 116, 97, 105, 108, 115]) = false := beq_eq_false_iff_ne.2 (by rw [bytes_list]; exact tn5)
    have t6 : (n.toList == [100, 105, 118]) = false := beq_eq_false_iff_ne.2 (by rw [bytes_list]; exact tn6)
    have t7 : (n.toList == [100, 108]) = false := beq_eq_false_iff_ne.2 (by rw [bytes_list]; exact tn7)
    have t8 : (n.toList == [102, 105, 101, 108, 100, 115, 101, 116]) = false := beq_eq_false_iff_ne.2 (by rw [bytes_list]; exact tn8)
    have t9 : (n.toList == [102, 105, 103, 117, 114, 101]) = false := beq_eq_false_iff_ne.2 (by rw [bytes_list]; exact tn9)
    have t10 : (n.toList == [102, 111, 111, 116, 101, 114]) = false := beq_eq_false_iff_ne.2 (by rw [bytes_list]; exact tn10)
    have t11 : (n.toList == [102, 111, 114, 109]) = false := beq_eq_false_iff_ne.2 (by rw [bytes_list]; exact tn11)
    have t12 : (n.toList == [104, 101, 97, 100, 101, 114]) = false := beq_eq_false_iff_ne.2 (by rw [bytes_list]; exact tn12)
    have t13 : (n.toList == [104, 114]) = false := beq_eq_false_iff_ne.2 (by rw [bytes_list]; exact tn13)
    have t14 : (n.toList == [108, 105]) = false := beq_eq_false_iff_ne.2 (by rw [bytes_list]; exact tn14)
    have t15 : (n.toList == [109, 97, 105, 110]) = false := beq_eq_false_iff_ne.2 (by rw [bytes_list]; exact tn15)
    have t16 : (n.toList == [110, 97, 118]) = false := beq_eq_false_iff_ne.2 (by rw [bytes_list]; exact tn16)
    have t17 : (n.toList == [111, 108]) = false := beq_eq_false_iff_ne.2 (by rw [bytes_list]; exact tn17)
    have t18 : (n.toList == [112]) = false := beq_eq_false_iff_ne.2 (by rw [bytes_list]; exact tn18)
    have t19 : (n.toList == [112, 114, 101]) = false := beq_eq_false_iff_ne.2 (by rw [bytes_list]; exact tn19)
    have t20 : (n.toList == [115, 101, 99, 116, 105, 111, 110]) = false := beq_eq_false_iff_ne.2 (by rw [bytes_list]; exact tn20)
    have t21 : (n.toList == [116, 97, 98, 108, 101]) = false := beq_eq_false_iff_ne.2 (by rw [bytes_list]; exact tn21)
    have t22 : (n.toList == [117, 108]) = false := beq_eq_false_iff_ne.2 (by rw [bytes_list]; exact tn22)
    have t23 : (n.toList == [100, 100]) = false := beq_eq_false_iff_ne.2 (by rw [bytes_list]; exact tn23)
    have t24 : (n.toList == [100, 116]) = false := beq_eq_false_iff_ne.2 (by rw [bytes_list]; exact tn24)
    clear tn0 tn1 tn2 tn3 tn4 tn5 tn6 tn7 tn8 tn9 tn10 tn11 tn12 tn13 tn14 tn15 tn16 tn17 tn18 tn19 tn20 tn21 tn22 tn23 tn24
    go_enter Tryz.func79, Tryz.ntmps79
    go_wp2_with fail
    refine HH.out.mono ?_
    rintro e w1 ⟨rfl, rfl⟩
    go_wp2_with fail
    go_ret
    exact ⟨rfl, rfl⟩
end Go.Proofs.YtiejmkjpgjbodaaGreatDoor

