/- WALK of the law CharsNames. No statement is proved here. -/
import Derived.Test.YtommgcihcadeaaaDoorCharsLaw0
namespace Go.Proofs.YtommgcihcadeaaaDoor
open Go.RowKit
set_option linter.unusedVariables false
set_option linter.unusedSimpArgs false

/-- A to Z in the place of a to z -/
def upC (c : UInt8) : UInt8 := if 97 ≤ c ∧ c ≤ 122 then c - 32 else c
theorem upC_case (c : UInt8) : (97 ≤ c.toNat ∧ c.toNat ≤ 122 ∧ (upC c).toNat = c.toNat - 32) ∨ (c.toNat < 97 ∧ upC c = c) ∨ (97 ≤ c.toNat ∧ 122 < c.toNat ∧ upC c = c) :=
  u8_all (p := fun c => (97 ≤ c.toNat ∧ c.toNat ≤ 122 ∧ (upC c).toNat = c.toNat - 32) ∨ (c.toNat < 97 ∧ upC c = c) ∨ (97 ≤ c.toNat ∧ 122 < c.toNat ∧ upC c = c)) (by decide +kernel) c
def upAt (l : List UInt8) (k : Nat) : List UInt8 := (l.take k).map upC ++ l.drop k
theorem upAt_length (l : List UInt8) (k : Nat) : (upAt l k).length = l.length := by simp [upAt]; omega
theorem upAt_zero (l : List UInt8) : upAt l 0 = l := by simp [upAt]
theorem upAt_end (l : List UInt8) (k : Nat) (h : l.length ≤ k) : upAt l k = l.map upC := by
  rw [upAt, List.take_of_length_le h, List.drop_eq_nil_of_le h, List.append_nil]
theorem upAt_get (l : List UInt8) (k : Nat) (h : k < l.length) (h' : k < (upAt l k).length) : (upAt l k)[k] = l[k] := by
  simp [upAt, Nat.min_eq_left (Nat.le_of_lt h)]
theorem upAt_set (l : List UInt8) (k : Nat) (h : k < l.length) : (upAt l k).set k (upC l[k]) = upAt l (k + 1) := by
  have e : ((l.take k).map upC).length = k := by simp; omega
  rw [upAt, List.set_append_right _ _ (by omega), e, Nat.sub_self, List.drop_eq_getElem_cons h, List.set_cons_zero, upAt]
  rw [List.take_succ_eq_append_getElem h, List.map_append, List.append_assoc]
  rfl
theorem upAt_same (l : List UInt8) (k : Nat) (h : k < l.length) (e : upC l[k] = l[k]) : upAt l k = upAt l (k + 1) := by
  rw [← upAt_set l k h, e]
  have := upAt_get l k h (by rw [upAt_length]; exact h)
  conv => rhs; rw [← this]
  exact (List.set_getElem_self _).symm
theorem up_kind (k : Nat) (h : 0 < k) (h5 : k < 5) : kindL ((32 :: nameL k ++ [10]).map upC) = k := by
  have : k = 1 ∨ k = 2 ∨ k = 3 ∨ k = 4 := by omega
  rcases this with rfl | rfl | rfl | rfl <;> decide +kernel
theorem name_size (k : Nat) : (nameL k).length ≤ 12 := by
  match k with
  | 0 => decide
  | 1 => decide
  | 2 => decide
  | 3 => decide
  | 4 => decide
  | k + 5 => simp [nameL]

set_option maxHeartbeats 4000000 in
theorem law_CharsNames (label : ByteArray) (hlabellabel : label.size ≤ maxLen) (w : World) (hT : Tab w) :
    Calls Tryd.prog 8 #[.string label] w fun e w' => e = .returned (.bool true) ∧ Below w.heap.size w w' := by
  have H0 := hide hT.lt
  have HT := hide hT
  clear hT
  rcases Nat.lt_or_ge 5000 label.size with hqlabel | hlabel
  · have HDlabel : Hid (decide (label.size ≤ 5000) = false) := decide_eq_false (by omega)
    go_enter Tryd.func8, Tryd.ntmps8
    go_wp2_with fail
    refine (short4_any label _ hlabellabel).mono ?_
    rintro e w1 ⟨rfl, rfl⟩
    rw [HDlabel.out]
    go_wp2_with fail
    refine (live4_any _ (HT.out.below (Below.refl _ _) H0.out)).mono ?_
    rintro e w1 ⟨rfl, hb1⟩
    go_wp2_with fail
    go_ret
    exact ⟨rfl, hb1⟩
  have HDlabel : Hid (decide (label.size ≤ 5000) = true) := decide_eq_true hlabel
  have HK := hide (fun (w : World) => known_any label w (by omega))
  have hk5 := kind_lt label.data.toList
  generalize kindL label.data.toList = k at HK hk5
  by_cases hk0 : k = 0
  · subst hk0
    have KV0 : Hid (knownV 0 = .tuple #[.string ⟨#[]⟩, .bool false]) := hide rfl
    clear hk5
    go_enter Tryd.func8, Tryd.ntmps8
    go_wp2_with fail
    refine (short4_any label _ hlabellabel).mono ?_
    rintro e w1 ⟨rfl, rfl⟩
    rw [HDlabel.out]
    go_wp2_with fail
    refine (HK.out _).mono ?_
    rintro e w1 ⟨rfl, hb1⟩
    rw [KV0.out]
    go_wp2_with fail
    refine (live4_any _ (HT.out.below hb1 H0.out)).mono ?_
    rintro e wl ⟨rfl, hbl⟩
    go_wp2_with fail
    go_ret
    exact ⟨rfl, hb1.trans (hbl.mono hb1.size)⟩
  obtain ⟨X, hX⟩ : ∃ X, X = str (nameL k) := ⟨_, rfl⟩
  have KV : Hid (knownV k = .tuple #[.string X, .bool true]) := hide (by unfold knownV; rw [← hX, decide_eq_true (show 0 < k by omega)])
  have zX : X.size ≤ 12 := by rw [hX, str_size]; exact name_size k
  have hSl : ((⟨#[32]⟩ : ByteArray) ++ X ++ ⟨#[10]⟩).data.toList = 32 :: nameL k ++ [10] := by rw [hX]; simp [str]
  obtain ⟨S, hS⟩ : ∃ S, S = (⟨#[32]⟩ : ByteArray) ++ X ++ ⟨#[10]⟩ := ⟨_, rfl⟩
  have zS : S.size = X.size + 2 := by rw [hS, ByteArray.size_append, ByteArray.size_append]; show 1 + X.size + 1 = _; omega
  rw [← hS] at hSl
  have HE : Hid (knownV (kindL (str (S.data.toList.map upC)).data.toList) = .tuple #[.string X, .bool true]) := hide (by
    rw [str_toList, hSl, up_kind k (by omega) hk5]; exact KV.out)
  have HZ : Hid ((str (S.data.toList.map upC)).size ≤ 70368744177664) := hide (by rw [str_size, List.length_map, toList_length]; omega)
  have HS := hide hS
  clear hX hSl hS hk5 hk0
  go_enter Tryd.func8, Tryd.ntmps8
  go_wp2_with fail
  refine (short4_any label _ hlabellabel).mono ?_
  rintro e w1 ⟨rfl, rfl⟩
  rw [HDlabel.out]
  go_wp2_with fail
  refine (HK.out _).mono ?_
  rintro e w1 ⟨rfl, hb1⟩
  rw [KV.out]
  have z1 : (⟨#[32]⟩ : ByteArray).size = 1 := rfl
  have z2 : (⟨#[10]⟩ : ByteArray).size = 1 := rfl
  go_wp2_with (refine wpList_bytes rfl _ rfl S (by rw [HS.out]; rfl) ?_; intro cap w0 ha0; have HA0 := hide ha0; clear ha0)
  go_loopw [6] (fun i wr => ∃ j : Nat, j ≤ S.size ∧ i = .int .i64 j ∧ Arr w1.heap.size w1.heap.size (upAt S.data.toList j) w1 wr) (fun i _ => S.size - (intOf i).toNat)
  case atStart => exact ⟨0, Nat.zero_le _, rfl, by rw [upAt_zero]; exact HA0.out⟩
  case round =>
    obtain ⟨j, hj, rfl, ha⟩ := hrel
    by_cases hlt : j < S.size
    · have hl : j < S.data.toList.length := by rw [toList_length]; exact hlt
      have hl' : j < (upAt S.data.toList j).length := by rw [upAt_length]; exact hl
      have hcell := ha.cell j hl'
      have hfree := ha.free j hl'
      rw [upAt_get _ _ hl hl'] at hcell
      have hset := upAt_set S.data.toList j hl
      have hcase := upC_case S.data.toList[j]
      have hsame := upAt_same S.data.toList j hl
      have HST := fun (c : UInt8) (n : Int) (hn : n = c.toNat) => hide (ha.set j hl' c n hn)
      generalize S.data.toList[j] = c at hcell hset hcase hsame
      have HA := hide ha
      have HSET := hide hset
      clear ha hset hl hl'
      rcases hcase with ⟨c1, c2, c3⟩ | ⟨c1, c2⟩ | ⟨c0, c1, c2⟩
      · clear hsame
        go_wp2
        go_roundw
        case rel => exact ⟨j + 1, by omega, by go_num, by rw [← HSET.out]; exact (HST (upC c) _ (by omega)).out⟩
        case measure => simp [intOf]; omega
      all_goals
        have HSM := hide (hsame c2)
        clear hsame c2
        go_wp2
        go_roundw
        case rel => exact ⟨j + 1, by omega, by go_num, by rw [← HSM.out]; exact HA.out⟩
        case measure => simp [intOf]; omega
    · have hc := ha.convert cap
      rw [upAt_length, toList_length, upAt_end _ _ (by rw [toList_length]; omega), zS] at hc
      have k1 := hb1.trans (ha.below.mono hb1.size)
      have HKK := hide k1
      clear ha k1
      go_wp2_with fail
      refine (known_any _ _ HZ.out).mono ?_
      rintro e w2 ⟨rfl, hb2⟩
      rw [HE.out]
      have k2 := HKK.out.trans (hb2.mono HKK.out.size)
      go_wp2_with fail
      refine (live4_any _ (HT.out.below k2 H0.out)).mono ?_
      rintro e wl ⟨rfl, hbl⟩
      go_wp2_with fail
      go_ret
      exact ⟨rfl, k2.trans (hbl.mono k2.size)⟩
end Go.Proofs.YtommgcihcadeaaaDoor
