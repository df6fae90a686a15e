/- strings.TrimFunc at 'a sign up to a blank', on lists of bytes: what stays is the bytes between those up to 32. No statement is proved here. Own work of the verifier. -/
import Derived.Test.YtlhjdjjbmljilaaDoorKit
import Derived.Lib.TrimUEq
import Derived.Shelf.GgClosure.StringsTrimFunc
namespace Go.Proofs.YtlhjdjjbmljilaaDoor
open Go.Lib
set_option linter.unusedVariables false
set_option linter.unusedSimpArgs false

def lowR (r : Nat) : Bool := decide (r ≤ 32)
def wB (c : UInt8) : Bool := decide (c.toNat ≤ 32)
/-- without bytes up to 32 at the end -/
def trimR (l : List UInt8) : List UInt8 := (l.reverse.dropWhile wB).reverse
/-- without bytes up to 32 at both ends -/
def trimW (l : List UInt8) : List UInt8 := trimR (l.dropWhile wB)

theorem decodeN_hi (n b0 b1 b2 b3 : Nat) (h : 128 ≤ b0) : 32 < (decodeN n b0 b1 b2 b3).1 := by
  unfold decodeN
  repeat' split
  all_goals (simp only; omega)
theorem getD_byte (s : ByteArray) (k : Nat) (h : k < s.size) : s.data.toList.getD k 0 = s[k] := by
  have hl : k < s.data.toList.length := by rw [toList_length]; exact h
  rw [List.getD_eq_getElem?_getD, List.getElem?_eq_getElem hl]; rfl
theorem decode_low (s : ByteArray) (k : Nat) (h : k < s.size) (hc : (s[k]'h).toNat < 128) : Utf8.decode s k = ((s[k]'h).toNat, 1) := by
  rw [decode_N, getD_byte s k h, decodeN_ascii _ _ _ _ _ hc]
theorem decode_high (s : ByteArray) (k : Nat) (h : k < s.size) (hc : 128 ≤ (s[k]'h).toNat) : 32 < (Utf8.decode s k).1 := by
  rw [decode_N, getD_byte s k h]; exact decodeN_hi _ _ _ _ _ hc

theorem idx_w {s : ByteArray} {f pos : Nat} (hp : pos < s.size) (h : lowR (Utf8.decode s pos).1 = true) : idxFuncFrom lowR false s (f + 1) pos = idxFuncFrom lowR false s f (pos + (Utf8.decode s pos).2) := by
  rw [idxFuncFrom, if_pos hp, if_neg (by rw [h]; decide)]
theorem idx_n {s : ByteArray} {f pos : Nat} (hp : pos < s.size) (h : lowR (Utf8.decode s pos).1 = false) : idxFuncFrom lowR false s (f + 1) pos = (pos : Int) := by
  rw [idxFuncFrom, if_pos hp, if_pos h]
theorem last_w {s : ByteArray} {f i : Nat} (hi : 0 < i) (h : lowR (decodeLastL (s.data.toList.take i)).1 = true) : lastIdxFuncFrom lowR false s (f + 1) i = lastIdxFuncFrom lowR false s f (i - (decodeLastL (s.data.toList.take i)).2) := by
  rw [lastIdxFuncFrom, if_pos hi, if_neg (by rw [h]; decide)]
theorem last_n {s : ByteArray} {f i : Nat} (hi : 0 < i) (h : lowR (decodeLastL (s.data.toList.take i)).1 = false) : lastIdxFuncFrom lowR false s (f + 1) i = ((i - (decodeLastL (s.data.toList.take i)).2 : Nat) : Int) := by
  rw [lastIdxFuncFrom, if_pos hi, if_pos h]
theorem left_low (s : ByteArray) : ∀ (f pos : Nat), s.size ≤ pos + f →
    (s.data.toList.drop pos).dropWhile wB = if idxFuncFrom lowR false s f pos = -1 then [] else s.data.toList.drop (idxFuncFrom lowR false s f pos).toNat
  | 0, pos, h => by
    have e : s.data.toList.drop pos = [] := drop_nil s pos (by omega)
    simp [idxFuncFrom, e]
  | f + 1, pos, h => by
    by_cases hp : pos < s.size
    · have hc := drop_cons s pos hp
      by_cases ha : s[pos].toNat ≤ 32
      · have hd := decode_low s pos hp (by omega)
        rw [idx_w hp (by rw [hd]; exact decide_eq_true ha), hd, hc, List.dropWhile_cons, if_pos (by simp [wB, ha])]
        exact left_low s f (pos + 1) (by omega)
      · have h32 : 32 < (Utf8.decode s pos).1 := by
          by_cases hb : s[pos].toNat < 128
          · rw [decode_low s pos hp hb]; simp only; omega
          · exact decode_high s pos hp (by omega)
        rw [idx_n hp (decide_eq_false (by omega)), if_neg (by omega), Int.toNat_natCast, hc, List.dropWhile_cons, if_neg (by simp [wB]; omega)]
    · have e : s.data.toList.drop pos = [] := drop_nil s pos (by omega)
      rw [idxFuncFrom_end _ _ _ _ _ hp, if_pos rfl, e]; rfl
theorem trimLeft_low (s : ByteArray) : (trimLeftF lowR s).data.toList = s.data.toList.dropWhile wB := by
  have h := left_low s s.size 0 (by omega)
  rw [List.drop_zero] at h
  rw [h]
  unfold trimLeftF idxFunc
  split
  · rfl
  · rw [extract_end]

theorem trimR_snoc_w (l : List UInt8) (c : UInt8) (h : wB c = true) : trimR (l ++ [c]) = trimR l := by simp [trimR, h]
theorem trimR_snoc_n (l : List UInt8) (c : UInt8) (h : wB c = false) : trimR (l ++ [c]) = l ++ [c] := by simp [trimR, h]
theorem trimR_nil : trimR [] = [] := rfl
theorem take_last (l : List UInt8) (i : Nat) (h0 : 0 < i) (h : i ≤ l.length) : l.take i = l.take (i - 1) ++ [l.getD (i - 1) 0] := by
  obtain ⟨j, rfl⟩ : ∃ j, i = j + 1 := ⟨i - 1, by omega⟩
  have hj : j < l.length := by omega
  rw [Nat.add_sub_cancel, List.take_succ_eq_append_getElem hj, List.getD_eq_getElem?_getD, List.getElem?_eq_getElem hj]; rfl

theorem right_low (s : ByteArray) : ∀ (f i : Nat), i ≤ f → i ≤ s.data.toList.length → OpenAt s.data.toList i →
    trimR (s.data.toList.take i) = s.data.toList.take (if 0 ≤ lastIdxFuncFrom lowR false s f i then (lastIdxFuncFrom lowR false s f i).toNat + (decodeL (s.data.toList.drop (lastIdxFuncFrom lowR false s f i).toNat)).2 else 0)
  | 0, i, hf, _, _ => by
    obtain rfl : i = 0 := by omega
    simp [trimR, lastIdxFuncFrom]
  | f + 1, i, hf, hil, ho => by
    by_cases hi : 0 < i
    · have hlen : (s.data.toList.take i).length = i := by rw [List.length_take]; omega
      have hw := decodeLastL_width (s.data.toList.take i) (by omega)
      rw [hlen] at hw
      have hsn := take_last s.data.toList i hi hil
      have hlc := last_cases s.data.toList i hi hil
      by_cases h32 : (s.data.toList.getD (i - 1) 0).toNat ≤ 32
      · have hd : decodeLastL (s.data.toList.take i) = ((s.data.toList.getD (i - 1) 0).toNat, 1) := by
          rcases hlc with ⟨_, hd⟩ | ⟨ha, _⟩ | ⟨ha, _⟩
          · exact hd
          · omega
          · omega
        rw [last_w hi (by rw [hd]; exact decide_eq_true h32), hd, hsn, trimR_snoc_w _ _ (decide_eq_true h32)]
        exact right_low s f (i - 1) (by omega) (by omega) (.inr (by omega))
      · have hp : lowR (decodeLastL (s.data.toList.take i)).1 = false := by
          unfold lowR
          apply decide_eq_false
          rcases hlc with ⟨_, hd⟩ | ⟨_, hd⟩ | ⟨ha, st, hst, hd, hsum⟩
          · rw [hd]; exact h32
          · rw [hd]; decide
          · rw [hd]
            by_cases hb : (s.data.toList.getD st 0).toNat < 128
            · exfalso
              have e : decodeL ((s.data.toList.take i).drop st) = ((s.data.toList.getD st 0).toNat, 1) := by
                rw [decodeL_N, getD_dropU, Nat.add_zero, getD_takeU _ _ _ hst, decodeN_ascii _ _ _ _ _ hb]
              rw [e] at hsum
              obtain rfl : st = i - 1 := by simp only at hsum; omega
              omega
            · have : 32 < (decodeL ((s.data.toList.take i).drop st)).1 := by
                rw [decodeL_N, getD_dropU, Nat.add_zero, getD_takeU _ _ _ hst]
                exact decodeN_hi _ _ _ _ _ (by omega)
              omega
        rw [last_n hi hp, if_pos (by omega), Int.toNat_natCast, fw_width _ i hi hil ho, Nat.sub_add_cancel hw.2, hsn, trimR_snoc_n _ _ (decide_eq_false h32)]
    · obtain rfl : i = 0 := by omega
      rw [lastIdxFuncFrom_zero]
      simp [trimR]
theorem lastIdx_lt (s : ByteArray) : ∀ (f i : Nat), i ≤ s.size → 0 ≤ lastIdxFuncFrom lowR false s f i → lastIdxFuncFrom lowR false s f i < i
  | 0, i, _, h => by simp [lastIdxFuncFrom] at h
  | f + 1, i, hi, h => by
    unfold lastIdxFuncFrom at h ⊢
    by_cases h0 : 0 < i
    · have hw := decodeLastL_width (s.data.toList.take i) (by rw [List.length_take, toList_length]; omega)
      rw [List.length_take, toList_length, Nat.min_eq_left hi] at hw
      rw [if_pos h0] at h ⊢
      split
      · omega
      · rename_i hn
        rw [if_neg hn] at h
        have := lastIdx_lt s f (i - (decodeLastL (s.data.toList.take i)).2) (by omega) h
        omega
    · rw [if_neg h0] at h; omega
theorem trimRight_low (s : ByteArray) : (trimRightF lowR s).data.toList = trimR s.data.toList := by
  have h := right_low s s.size s.size (Nat.le_refl _) (by rw [toList_length]; exact Nat.le_refl _) (.inl (toList_length s).symm)
  rw [List.take_of_length_le (by rw [toList_length]; exact Nat.le_refl _)] at h
  rw [h]
  unfold trimRightF rightEndF lastIdxFunc
  rw [extract_list, List.drop_zero]
  congr 1
  split
  · rename_i h0
    congr 2
    rcases lastIdxFuncFrom_range lowR false s s.size s.size with hm | hlt
    · omega
    · by_cases hz : (lastIdxFuncFrom lowR false s s.size s.size).toNat < s.size
      · have hx : s.extract (lastIdxFuncFrom lowR false s s.size s.size).toNat s.size = ⟨(s.data.toList.drop (lastIdxFuncFrom lowR false s s.size s.size).toNat).toArray⟩ := ext_list (by rw [extract_end])
        have hxs : (⟨(s.data.toList.drop (lastIdxFuncFrom lowR false s s.size s.size).toNat).toArray⟩ : ByteArray).size ≠ 0 := by
          rw [← hx, ByteArray.size_extract]; omega
        rw [hx]
        unfold decodeGoB decodeL
        rw [if_neg hxs]
      · exfalso
        -- the place that is found lies below the end
        have := lastIdx_lt s s.size s.size (Nat.le_refl _) hlt.1
        omega
  · rfl
theorem trimF_low (s : ByteArray) : (trimF lowR s).data.toList = trimW s.data.toList := by
  unfold trimF trimW
  rw [trimRight_low, trimLeft_low]
end Go.Proofs.YtlhjdjjbmljilaaDoor
