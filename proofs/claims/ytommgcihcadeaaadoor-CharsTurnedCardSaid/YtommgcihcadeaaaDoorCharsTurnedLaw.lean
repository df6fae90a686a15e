/- WALK of the law CharsTurned. No statement is proved here. -/
import Derived.Test.YtommgcihcadeaaaDoorCharsLaw0
namespace Go.Proofs.YtommgcihcadeaaaDoor
open Go.RowKit
set_option linter.unusedVariables false
set_option linter.unusedSimpArgs false

/-- the first k pairs turned -/
def swapAt : Nat → List UInt8 → List UInt8
  | k + 1, a :: b :: r => b :: a :: swapAt k r
  | _, l => l
theorem swapAt_zero (l : List UInt8) : swapAt 0 l = l := by unfold swapAt; rfl
theorem swapAt_length (k : Nat) (l : List UInt8) : (swapAt k l).length = l.length := by
  induction k generalizing l with
  | zero => rw [swapAt_zero]
  | succ k ih =>
    match l with
    | [] => rfl
    | [_] => rfl
    | a :: b :: r => simp [swapAt, ih r]
theorem swapAt_get (k : Nat) (l : List UInt8) (j : Nat) (h : 2 * k ≤ j) : (swapAt k l)[j]? = l[j]? := by
  induction k generalizing l j with
  | zero => rw [swapAt_zero]
  | succ k ih =>
    match l with
    | [] => rfl
    | [_] => rfl
    | a :: b :: r =>
      obtain ⟨i, rfl⟩ : ∃ i, j = i + 2 := ⟨j - 2, by omega⟩
      simp only [swapAt, List.getElem?_cons_succ]
      exact ih r i (by omega)
theorem swapAt_end (k : Nat) (l : List UInt8) (h : l.length ≤ 2 * k + 1) : swapAt k l = swapL l := by
  induction k generalizing l with
  | zero =>
    match l, h with
    | [], _ => rfl
    | [_], _ => rfl
  | succ k ih =>
    match l, h with
    | [], _ => rfl
    | [_], _ => rfl
    | a :: b :: r, h => simp only [swapAt, swapL]; rw [ih r (by simp at h; omega)]
theorem swapAt_step (k : Nat) (l : List UInt8) (x y : UInt8) (hx : l[2 * k]? = some x) (hy : l[2 * k + 1]? = some y) : ((swapAt k l).set (2 * k) y).set (2 * k + 1) x = swapAt (k + 1) l := by
  induction k generalizing l with
  | zero =>
    match l, hx, hy with
    | a :: b :: r, hx, hy =>
      simp at hx hy
      subst hx; subst hy
      simp [swapAt]
  | succ k ih =>
    match l, hx, hy with
    | a :: b :: r, hx, hy =>
      have e1 : 2 * (k + 1) = 2 * k + 1 + 1 := by omega
      rw [e1] at hx hy ⊢
      simp only [List.getElem?_cons_succ] at hx hy
      show ((b :: a :: swapAt k r).set (2 * k + 1 + 1) y).set (2 * k + 1 + 1 + 1) x = b :: a :: swapAt (k + 1) r
      simp only [List.set_cons_succ]
      rw [ih r hx hy]
theorem kind_le : kindL [117, 116, 102, 45, 49, 54, 108, 101] = 3 := by decide +kernel
theorem kind_be : kindL [117, 116, 102, 45, 49, 54, 98, 101] = 4 := by decide +kernel

set_option maxHeartbeats 2000000 in
theorem law_CharsTurned (s : ByteArray) (hss : s.size ≤ maxLen) (w : World) (hT : Tab w) :
    Calls Tryd.prog 6 #[.string s] w fun e w' => e = .returned (.bool true) ∧ Below w.heap.size w w' := by
  have H0 := hide hT.lt
  have HT := hide hT
  clear hT
  rcases Nat.lt_or_ge 5000 s.size with hqs | hs
  · have HDs : Hid (decide (s.size ≤ 5000) = false) := decide_eq_false (by omega)
    go_enter Tryd.func6, Tryd.ntmps6
    go_wp2_with fail
    refine (short4_any s _ hss).mono ?_
    rintro e w1 ⟨rfl, rfl⟩
    rw [HDs.out]
    go_wp2_with fail
    refine (live4_any _ (HT.out.below (Below.refl _ _) H0.out)).mono ?_
    rintro e w1 ⟨rfl, hb1⟩
    go_wp2_with fail
    go_ret
    exact ⟨rfl, hb1⟩
  have HDs : Hid (decide (s.size ≤ 5000) = true) := decide_eq_true hs
  have HL : Hid (decV (kindL (⟨#[117, 116, 102, 45, 49, 54, 108, 101]⟩ : ByteArray).data.toList) s.data.toList = .tuple #[.string (str (pairsL false s.data.toList)), .bool true]) := hide (by
    rw [show kindL _ = 3 from kind_le]; rfl)
  have HB : Hid (decV (kindL (⟨#[117, 116, 102, 45, 49, 54, 98, 101]⟩ : ByteArray).data.toList) (str (swapL s.data.toList)).data.toList = .tuple #[.string (str (pairsL false s.data.toList)), .bool true]) := hide (by
    rw [show kindL _ = 4 from kind_be, str_toList, ← swap_pairs]; rfl)
  have hzs : (str (swapL s.data.toList)).size = s.size := by rw [str_size, swap_length, toList_length]
  have HZS := hide hzs
  clear hzs
  go_enter Tryd.func6, Tryd.ntmps6
  go_wp2_with fail
  refine (short4_any s _ hss).mono ?_
  rintro e w1 ⟨rfl, rfl⟩
  rw [HDs.out]
  go_wp2_with (refine wpList_bytes rfl _ rfl s rfl ?_; intro cap w0 ha0; have HA0 := hide ha0; clear ha0)
  go_loopw [4] (fun i wr => ∃ k m : Nat, m = 2 * k ∧ m ≤ s.size ∧ i = .int .i64 m ∧ Arr w.heap.size w.heap.size (swapAt k s.data.toList) w wr) (fun i _ => s.size - (intOf i).toNat)
  case atStart => exact ⟨0, 0, rfl, Nat.zero_le _, rfl, by rw [swapAt_zero]; exact HA0.out⟩
  case round =>
    obtain ⟨k, m, hm, hms, rfl, ha⟩ := hrel
    have hl := toList_length s
    have hsl := swapAt_length k s.data.toList
    by_cases hlt : m + 1 < s.size
    · obtain ⟨x, hx⟩ : ∃ x, s.data.toList[m]? = some x := ⟨_, List.getElem?_eq_getElem (by omega)⟩
      obtain ⟨y, hy⟩ : ∃ y, s.data.toList[m + 1]? = some y := ⟨_, List.getElem?_eq_getElem (by omega)⟩
      have gx : (swapAt k s.data.toList)[m]'(by omega) = x := by
        have := swapAt_get k s.data.toList m (by omega)
        rw [hx, List.getElem?_eq_getElem (by omega)] at this
        exact Option.some.inj this
      have gy : (swapAt k s.data.toList)[m + 1]'(by omega) = y := by
        have := swapAt_get k s.data.toList (m + 1) (by omega)
        rw [hy, List.getElem?_eq_getElem (by omega)] at this
        exact Option.some.inj this
      have hcx := ha.cell m (by omega)
      have hcy := ha.cell (m + 1) (by omega)
      rw [gx] at hcx
      rw [gy] at hcy
      have hfx := ha.free m (by omega)
      have ha1 := ha.set m (by omega) y (y.toNat : Int) rfl
      have hcy1 := ha1.cell (m + 1) (by rw [List.length_set]; omega)
      rw [List.getElem_set_ne (by omega), gy] at hcy1
      have hfy1 := ha1.free (m + 1) (by rw [List.length_set]; omega)
      have ha2 := ha1.set (m + 1) (by rw [List.length_set]; omega) x (x.toNat : Int) rfl
      have hst := swapAt_step k s.data.toList x y (by rw [← hm]; exact hx) (by rw [← hm]; exact hy)
      rw [← hm] at hst
      rw [hst] at ha2
      have HA2 := hide ha2
      have HM := hide hm
      have hlt' : (m : Int) + 1 < s.size := by omega
      clear ha ha1 ha2 hst gx gy hx hy hl hsl hm
      go_wp2
      go_roundw
      case rel => exact ⟨k + 1, m + 2, by have := HM.out; omega, by omega, by go_num, HA2.out⟩
      case measure => simp [intOf]; omega
    · have e := swapAt_end k s.data.toList (by omega)
      rw [e] at ha
      have hcv := ha.convert cap
      rw [swap_length, hl] at hcv
      have HA1 := hide ha
      have kb := ha.below
      have HKB := hide kb
      clear e ha hl hsl hm
      have hlt' : ¬ (m : Int) + 1 < s.size := by omega
      go_wp2_with fail
      refine (charsDecode_any _ s _ (by decide) (by omega) (HT.out.below HKB.out H0.out)).mono ?_
      rintro e w1 ⟨rfl, hb1⟩
      rw [HL.out]
      have k1 := HKB.out.trans (hb1.mono HKB.out.size)
      have hcv1 : (convert 29 9 (.slice (some ⟨w.heap.size, 0, none⟩) s.size cap)).run Tryd.prog w1 = .ok (.string (str (swapL s.data.toList))) w1 := by
        have ha1 := HA1.out.kept hb1
        have := ha1.convert cap
        rw [swap_length, toList_length] at this
        exact this
      go_wp2_with fail
      refine (charsDecode_any _ _ _ (by decide) (by rw [HZS.out]; omega) (HT.out.below k1 H0.out)).mono ?_
      rintro e w2 ⟨rfl, hb2⟩
      rw [HB.out]
      have k2 := k1.trans (hb2.mono k1.size)
      go_wp2_with fail
      refine (live4_any _ (HT.out.below k2 H0.out)).mono ?_
      rintro e wl ⟨rfl, hbl⟩
      go_wp2_with fail
      go_ret
      exact ⟨rfl, k2.trans (hbl.mono k2.size)⟩
end Go.Proofs.YtommgcihcadeaaaDoor
