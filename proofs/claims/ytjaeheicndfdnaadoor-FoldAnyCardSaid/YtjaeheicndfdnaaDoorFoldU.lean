/- WALK of strings.Trim at the blanks, and of fold's isBlank and isQuote. No statement is proved here. Own work of the verifier. -/
import Derived.Test.YtjaeheicndfdnaaDoorFoldT
import Derived.Laws.Tables
namespace Go.Proofs.YtjaeheicndfdnaaDoor
open Go.RowKit
set_option linter.unusedVariables false
set_option linter.unusedSimpArgs false
set_option maxRecDepth 100000
abbrev Utf8T (w : World) : Prop := Lib.Utf8Tabs 0 1 w
/-- blanks are taken from the end -/
def rtrim : Nat → List UInt8 → List UInt8
  | 0, l => l
  | n + 1, l => if l = [] then [] else if blankR (Lib.decodeLastL l).1 = true then rtrim n (l.take (l.length - (Lib.decodeLastL l).2)) else l
/-- blanks are taken from the begin -/
def ltrim : Nat → List UInt8 → List UInt8
  | 0, l => l
  | n + 1, l => if l = [] then [] else if blankR (Lib.decodeL l).1 = true then ltrim n (l.drop (Lib.decodeL l).2) else l
def trimB (l : List UInt8) : List UInt8 := ltrim (rtrim l.length l).length (rtrim l.length l)
theorem rtrim_fuel : ∀ (a b : Nat) (l : List UInt8), l.length ≤ a → l.length ≤ b → rtrim a l = rtrim b l
  | 0, b, l, ha, hb => by
    have : l = [] := List.eq_nil_of_length_eq_zero (by omega)
    subst this
    cases b <;> simp [rtrim]
  | a + 1, 0, l, ha, hb => by
    have : l = [] := List.eq_nil_of_length_eq_zero (by omega)
    subst this
    simp [rtrim]
  | a + 1, b + 1, l, ha, hb => by
    by_cases hl : l = []
    · simp [rtrim, hl]
    · have hp := List.length_pos_iff.2 hl
      have hw := Lib.decodeLastL_width l hp
      simp only [rtrim, if_neg hl]
      split
      · exact rtrim_fuel a b _ (by rw [List.length_take]; omega) (by rw [List.length_take]; omega)
      · rfl
theorem ltrim_fuel : ∀ (a b : Nat) (l : List UInt8), l.length ≤ a → l.length ≤ b → ltrim a l = ltrim b l
  | 0, b, l, ha, hb => by
    have : l = [] := List.eq_nil_of_length_eq_zero (by omega)
    subst this
    cases b <;> simp [ltrim]
  | a + 1, 0, l, ha, hb => by
    have : l = [] := List.eq_nil_of_length_eq_zero (by omega)
    subst this
    simp [ltrim]
  | a + 1, b + 1, l, ha, hb => by
    by_cases hl : l = []
    · simp [ltrim, hl]
    · have hp := List.length_pos_iff.2 hl
      have hw := Lib.decodeL_width l
      simp only [ltrim, if_neg hl]
      split
      · exact ltrim_fuel a b _ (by rw [List.length_drop]; omega) (by rw [List.length_drop]; omega)
      · rfl
theorem rtrim_step {l : List UInt8} (hl : l ≠ []) : rtrim l.length l = if blankR (Lib.decodeLastL l).1 = true then rtrim (l.take (l.length - (Lib.decodeLastL l).2)).length (l.take (l.length - (Lib.decodeLastL l).2)) else l := by
  have hp := List.length_pos_iff.2 hl
  have hw := Lib.decodeLastL_width l hp
  obtain ⟨n, hn⟩ : ∃ n, l.length = n + 1 := ⟨l.length - 1, by omega⟩
  have e : rtrim l.length l = rtrim (n + 1) l := by rw [hn]
  rw [e]
  simp only [rtrim, if_neg hl]
  split
  · exact rtrim_fuel _ _ _ (by rw [List.length_take]; omega) (Nat.le_refl _)
  · rfl
theorem ltrim_step {l : List UInt8} (hl : l ≠ []) : ltrim l.length l = if blankR (Lib.decodeL l).1 = true then ltrim (l.drop (Lib.decodeL l).2).length (l.drop (Lib.decodeL l).2) else l := by
  have hp := List.length_pos_iff.2 hl
  have hw := Lib.decodeL_width l
  obtain ⟨n, hn⟩ : ∃ n, l.length = n + 1 := ⟨l.length - 1, by omega⟩
  have e : ltrim l.length l = ltrim (n + 1) l := by rw [hn]
  rw [e]
  simp only [ltrim, if_neg hl]
  split
  · exact ltrim_fuel _ _ _ (by rw [List.length_drop]; omega) (Nat.le_refl _)
  · rfl
theorem rtrim_le : ∀ (n : Nat) (l : List UInt8), (rtrim n l).length ≤ l.length
  | 0, l => Nat.le_refl _
  | n + 1, l => by
    simp only [rtrim]
    split
    · exact Nat.zero_le _
    · split
      · exact Nat.le_trans (rtrim_le n _) (by rw [List.length_take]; omega)
      · exact Nat.le_refl _
theorem utf8_kept {w w' : World} (h : Utf8T w) (hb : Below w.heap.size w w') : Utf8T w' := by
  obtain ⟨h1, h2⟩ := h
  refine ⟨fun c hc => (World.cell?_of_block (hb.block _ (World.block_lt_of_cell? _ _ (h1 c hc)))).trans (h1 c hc), fun i hi => ?_⟩
  obtain ⟨a, b⟩ := h2 i hi
  exact ⟨(World.cell?_of_block (hb.block _ (World.block_lt_of_cell? _ _ a))).trans a, (World.cell?_of_block (hb.block _ (World.block_lt_of_cell? _ _ b))).trans b⟩
theorem ext_take (x : ByteArray) (n : Nat) : (x.extract 0 n).data.toList = x.data.toList.take n := by
  rw [ByteArray.data_extract, Array.toList_extract]; simp [List.extract]
theorem ext_drop (x : ByteArray) (n : Nat) : (x.extract n x.size).data.toList = x.data.toList.drop n := by
  rw [ByteArray.data_extract, Array.toList_extract, List.extract, List.take_of_length_le]
  rw [List.length_drop, toList_length]; omega
set_option maxHeartbeats 2000000 in
theorem trimRU_any (l : List UInt8) (w : World) (hT : Utf8T w) (hl : l.length ≤ 1000000) :
    Calls Tryd.prog 41 #[.string (str l), .string blankS] w fun e w' => e = .returned (.string (str (rtrim l.length l))) ∧ Below w.heap.size w w' := by
  obtain ⟨R, hR⟩ : ∃ R, R = rtrim l.length l := ⟨_, rfl⟩
  rw [← hR]
  obtain ⟨S, hS⟩ : ∃ S, S = blankS := ⟨_, rfl⟩
  have HC : Hid (∀ (r : Nat) (w : World), r ≤ 1114111 → Calls Tryd.prog 44 #[.string S, .int .i32 r] w fun e w' => e = .returned (.bool (blankR r)) ∧ Below w.heap.size w w') := hide (fun r w h => by rw [hS]; exact contR_any r h w)
  rw [← hS]
  have HT := hide hT
  have HR := hide hR
  clear hS hT hR
  go_enter Tryd.func41, Tryd.ntmps41
  go_wp2_with fail
  go_loopw [0] (fun v wr => ∃ x : ByteArray, v = .string x ∧ Hid (x.data.toList.length ≤ 1000000 ∧ R = rtrim x.data.toList.length x.data.toList) ∧ Hid (Below w.heap.size w wr)) (fun v _ => match v with | .string x => x.size | _ => 0)
  case atStart => exact ⟨str l, rfl, hide ⟨by rw [str_toList]; exact hl, by rw [str_toList]; exact HR.out⟩, hide (Below.refl _ _)⟩
  case round =>
    obtain ⟨x, rfl, HX, HB⟩ := hrel
    by_cases hx : x.data.toList = []
    · have hz : x.size = 0 := by rw [← toList_length, hx]; rfl
      have HE : Hid (R = x.data.toList) := hide (by rw [HX.out.2, hx]; rfl)
      have z0 : ¬ 0 < x.size := by omega
      clear hx hz
      go_wp2_with fail
      go_ret
      exact ⟨by rw [HE.out, str_of]; rfl, HB.out⟩
    · have hp : 0 < x.size := by rw [← toList_length]; exact List.length_pos_iff.2 hx
      obtain ⟨n, hn⟩ : ∃ n, x.size = n + 1 := ⟨x.size - 1, by omega⟩
      have hni : n < x.size := by omega
      have hw1 : wrap64 ((x.size : Int) - 1) = (n : Int) := by have := HX.out.1; rw [toList_length] at this; unfold wrap64; omega
      have hxb : (x[n]).toNat < 256 := byte_lt _
      have hw2 : wrap32 ((x[n]).toNat : Int) = ((x[n]).toNat : Int) := by unfold wrap32; omega
      have hnt : ((n : Int)).toNat = n := Int.toNat_natCast n
      have hlen : x.data.toList.length = n + 1 := by rw [toList_length]; exact hn
      have hgd : x.data.toList.getD (x.data.toList.length - 1) 0 = x[n] := by
        rw [hlen, Nat.add_sub_cancel, List.getD_eq_getElem?_getD, List.getElem?_eq_getElem (by omega)]; rfl
      obtain ⟨D, hD⟩ : ∃ D, D = Lib.decodeLastL x.data.toList := ⟨_, rfl⟩
      have hwd := Lib.decodeLastL_width x.data.toList (by omega)
      have hrn := Lib.decodeLastL_rune x.data.toList
      have hst := rtrim_step hx
      rw [← HX.out.2, ← hD] at hst
      rw [← hD] at hwd hrn
      have HS := hide hst
      have hasc : (x[n]).toNat < 128 → D = ((x[n]).toNat, 1) := fun h => by
        rw [hD]; unfold Lib.decodeLastL; rw [if_neg hx, hgd, if_pos h]
      obtain ⟨r, k⟩ := D
      simp only at hwd hrn hst
      have HDL : Hid (∀ w', Utf8T w' → Calls Tryd.prog 45 #[.string x] w' fun e w'' => e = .returned (.tuple #[.int .i32 (r : Int), .int .i64 (k : Int)]) ∧ Below w'.heap.size w' w'') := hide (fun w' ht => by
        have := Tryd.utf8_DecodeLastRuneInString x w' (by have := HX.out.1; rw [toList_length] at this; omega) ht
        rw [← hD] at this; exact this)
      have hks : k ≤ x.size := by rw [hn, ← hlen]; exact hwd.2
      have HK := hide hwd
      have HN := hide hn
      clear hst hgd hD hlen hwd hx hn
      by_cases ha : (x[n]).toNat < 128
      · have he := hasc ha
        injection he with e1 e2
        subst e1 e2
        have ha2 : decide ((128 : Int) ≤ (x[n]).toNat) = false := decide_eq_false (by omega)
        have HC2 := hide (HC.out (x[n]).toNat wr hrn)
        go_wp2_with fail
        refine HC2.out.mono ?_
        rintro e w2 ⟨rfl, hb2⟩
        have HB2 := hide (bl_two HB.out hb2)
        clear hb2
        cases hbl : blankR (x[n]).toNat with
        | true =>
          have HX2 : Hid ((x.extract 0 n).data.toList.length ≤ 1000000 ∧ R = rtrim (x.extract 0 n).data.toList.length (x.extract 0 n).data.toList) := hide (by
            have h := HS.out
            rw [if_pos hbl, toList_length, HN.out, Nat.add_sub_cancel] at h
            rw [ext_take]
            exact ⟨by rw [List.length_take]; have := HX.out.1; omega, h⟩)
          have HM : Hid ((x.extract 0 n).size < x.size) := hide (by rw [← toList_length, ext_take, List.length_take, toList_length]; omega)
          clear hbl
          go_wp2_with fail
          go_roundw
          case rel => exact ⟨x.extract 0 n, rfl, HX2, HB2⟩
          case measure => exact HM.out
        | false =>
          have HE : Hid (R = x.data.toList) := hide (by
            have h := HS.out
            rw [if_neg (by rw [hbl]; decide)] at h
            exact h)
          clear hbl
          go_wp2_with fail
          go_ret
          exact ⟨by rw [HE.out, str_of]; rfl, HB2.out⟩
      · have ha2 : decide ((128 : Int) ≤ (x[n]).toNat) = true := decide_eq_true (by omega)
        obtain ⟨m, hm⟩ : ∃ m, m + k = x.size := ⟨x.size - k, by omega⟩
        have hms : m ≤ x.size := by omega
        have hwk : wrap64 ((x.size : Int) - (k : Int)) = (m : Int) := by have := HX.out.1; rw [toList_length] at this; unfold wrap64; omega
        have HMK := hide hm
        clear hm hasc
        go_wp2_with fail
        refine (HDL.out _ (utf8_kept HT.out HB.out)).mono ?_
        rintro e w2 ⟨rfl, hb2⟩
        have HB2 := hide (bl_two HB.out hb2)
        clear hb2
        go_wp2_with fail
        refine (HC.out r _ hrn).mono ?_
        rintro e w3 ⟨rfl, hb3⟩
        have HB3 := hide (bl_two HB2.out hb3)
        clear hb3
        cases hbl : blankR r with
        | true =>
          have HX2 : Hid ((x.extract 0 m).data.toList.length ≤ 1000000 ∧ R = rtrim (x.extract 0 m).data.toList.length (x.extract 0 m).data.toList) := hide (by
            have h := HS.out
            rw [if_pos hbl, toList_length, show x.size - k = m by have := HMK.out; omega] at h
            rw [ext_take]
            exact ⟨by rw [List.length_take]; have := HX.out.1; omega, h⟩)
          have HM : Hid ((x.extract 0 m).size < x.size) := hide (by rw [← toList_length, ext_take, List.length_take, toList_length]; have := HMK.out; have := HK.out.1; omega)
          clear hbl
          go_wp2_with fail
          go_roundw
          case rel => exact ⟨x.extract 0 m, rfl, HX2, HB3⟩
          case measure => exact HM.out
        | false =>
          have HE : Hid (R = x.data.toList) := hide (by
            have h := HS.out
            rw [if_neg (by rw [hbl]; decide)] at h
            exact h)
          clear hbl
          go_wp2_with fail
          go_ret
          exact ⟨by rw [HE.out, str_of]; rfl, HB3.out⟩
set_option maxHeartbeats 2000000 in
theorem trimLU_any (l : List UInt8) (w : World) (hT : Utf8T w) (hl : l.length ≤ 1000000) :
    Calls Tryd.prog 40 #[.string (str l), .string blankS] w fun e w' => e = .returned (.string (str (ltrim l.length l))) ∧ Below w.heap.size w w' := by
  obtain ⟨R, hR⟩ : ∃ R, R = ltrim l.length l := ⟨_, rfl⟩
  rw [← hR]
  obtain ⟨S, hS⟩ : ∃ S, S = blankS := ⟨_, rfl⟩
  have HC : Hid (∀ (r : Nat) (w : World), r ≤ 1114111 → Calls Tryd.prog 44 #[.string S, .int .i32 r] w fun e w' => e = .returned (.bool (blankR r)) ∧ Below w.heap.size w w') := hide (fun r w h => by rw [hS]; exact contR_any r h w)
  rw [← hS]
  have HT := hide hT
  have HR := hide hR
  clear hS hT hR
  go_enter Tryd.func40, Tryd.ntmps40
  go_wp2_with fail
  go_loopw [0] (fun v wr => ∃ x : ByteArray, v = .string x ∧ Hid (x.data.toList.length ≤ 1000000 ∧ R = ltrim x.data.toList.length x.data.toList) ∧ Hid (Below w.heap.size w wr)) (fun v _ => match v with | .string x => x.size | _ => 0)
  case atStart => exact ⟨str l, rfl, hide ⟨by rw [str_toList]; exact hl, by rw [str_toList]; exact HR.out⟩, hide (Below.refl _ _)⟩
  case round =>
    obtain ⟨x, rfl, HX, HB⟩ := hrel
    by_cases hx : x.data.toList = []
    · have hz : x.size = 0 := by rw [← toList_length, hx]; rfl
      have HE : Hid (R = x.data.toList) := hide (by rw [HX.out.2, hx]; rfl)
      have z0 : ¬ 0 < x.size := by omega
      clear hx hz
      go_wp2_with fail
      go_ret
      exact ⟨by rw [HE.out, str_of]; rfl, HB.out⟩
    · have hp : 0 < x.size := by rw [← toList_length]; exact List.length_pos_iff.2 hx
      obtain ⟨D, hD⟩ : ∃ D, D = Lib.decodeL x.data.toList := ⟨_, rfl⟩
      have hwd := Lib.decodeL_width x.data.toList
      have hwe : (Lib.decodeL x.data.toList).2 ≤ x.data.toList.length := by
        have h1 := Lib.decodeGo_le_size x
        unfold Lib.decodeGo at h1
        rw [if_neg (by omega)] at h1
        rw [toList_length]
        unfold Lib.decodeL
        rw [Array.toArray_toList]; exact h1
      have hrn := Lib.decodeL_rune x.data.toList
      have hst := ltrim_step hx
      rw [← HX.out.2, ← hD] at hst
      rw [← hD] at hwd hrn hwe
      have HS := hide hst
      obtain ⟨r, k⟩ := D
      simp only at hwd hrn hwe
      have HDL : Hid (∀ w', Utf8T w' → Calls Tryd.prog 43 #[.string x] w' fun e w'' => e = .returned (.tuple #[.int .i32 (r : Int), .int .i64 (k : Int)]) ∧ Below w'.heap.size w' w'') := hide (fun w' ht => by
        have := Tryd.utf8_DecodeRuneInString x w' ht
        have e : Lib.decodeGo x = (r, k) := by
          unfold Lib.decodeGo
          rw [if_neg (by omega), hD]
          unfold Lib.decodeL
          rw [Array.toArray_toList]
        rw [e] at this; exact this)
      have hks : k ≤ x.size := by rw [← toList_length]; exact hwe
      have HK := hide hwd
      clear hst hD hwd hwe hx
      go_wp2_with fail
      refine (HDL.out _ (utf8_kept HT.out HB.out)).mono ?_
      rintro e w2 ⟨rfl, hb2⟩
      have HB2 := hide (bl_two HB.out hb2)
      clear hb2
      go_wp2_with fail
      refine (HC.out r _ hrn).mono ?_
      rintro e w3 ⟨rfl, hb3⟩
      have HB3 := hide (bl_two HB2.out hb3)
      clear hb3
      cases hbl : blankR r with
      | true =>
        have HX2 : Hid ((x.extract k x.size).data.toList.length ≤ 1000000 ∧ R = ltrim (x.extract k x.size).data.toList.length (x.extract k x.size).data.toList) := hide (by
          have h := HS.out
          rw [if_pos hbl] at h
          rw [ext_drop]
          exact ⟨by rw [List.length_drop]; have := HX.out.1; omega, h⟩)
        have HM : Hid ((x.extract k x.size).size < x.size) := hide (by rw [← toList_length, ext_drop, List.length_drop, toList_length]; have := HK.out; omega)
        clear hbl
        go_wp2_with fail
        go_roundw
        case rel => exact ⟨x.extract k x.size, rfl, HX2, HB3⟩
        case measure => exact HM.out
      | false =>
        have HE : Hid (R = x.data.toList) := hide (by
          have h := HS.out
          rw [if_neg (by rw [hbl]; decide)] at h
          exact h)
        clear hbl
        go_wp2_with fail
        go_ret
        exact ⟨by rw [HE.out, str_of]; rfl, HB3.out⟩
set_option maxHeartbeats 4000000 in
theorem trimBlank_any (l : List UInt8) (w : World) (hT : Utf8T w) (hl : l.length ≤ 1000000) :
    Calls Tryd.prog 30 #[.string (str l), .string blankS] w fun e w' => e = .returned (.string (str (trimB l))) ∧ Below w.heap.size w w' := by
  obtain ⟨S, hS⟩ : ∃ S, S = blankS := ⟨_, rfl⟩
  have hs6 : S.size = 6 := by rw [hS]; rfl
  have hse : S.toList.isEmpty = false := by rw [hS]; decide +kernel
  have hs1 : ((6 : Int) == 1) = false := by decide
  have HM : Hid (∀ w, Calls Tryd.prog 37 #[.string S] w fun e w' => ∃ cs : Array Value, cs.size = 256 ∧ cs.all (·.oneCell') = true ∧ e = .returned (.tuple #[.agg cs, .bool false]) ∧ Below w.heap.size w w') := hide (fun w => by rw [hS]; exact makeSet_blank w)
  have HRT : Hid (∀ w', Below w.heap.size w w' → Calls Tryd.prog 41 #[.string (str l), .string S] w' fun e w'' => e = .returned (.string (str (rtrim l.length l))) ∧ Below w'.heap.size w' w'') := hide (fun w' hb => by rw [hS]; exact trimRU_any l w' (utf8_kept hT hb) hl)
  have HLT : Hid (∀ w', Below w.heap.size w w' → Calls Tryd.prog 40 #[.string (str (rtrim l.length l)), .string S] w' fun e w'' => e = .returned (.string (str (trimB l))) ∧ Below w'.heap.size w' w'') := hide (fun w' hb => by rw [hS]; exact trimLU_any _ w' (utf8_kept hT hb) (Nat.le_trans (rtrim_le _ _) hl))
  rw [← hS]
  by_cases hx : l = []
  · subst hx
    have h0 : (str []).toList.isEmpty = true := by rw [str_list]; rfl
    have HE : Hid (trimB [] = []) := hide rfl
    obtain ⟨X, hX⟩ : ∃ X, X = str [] := ⟨_, rfl⟩
    rw [← hX] at h0 ⊢
    have HXE : Hid (X = str (trimB [])) := hide (by rw [hX]; rfl)
    rw [← HXE.out]
    clear HM HRT HLT hS hX hT
    go_enter Tryd.func30, Tryd.ntmps30
    go_wp2_with fail
    go_ret
    exact ⟨rfl, Below.refl _ _⟩
  · have h0 : (str l).toList.isEmpty = false := by
      rw [str_list]
      cases l with
      | nil => exact absurd rfl hx
      | cons _ _ => rfl
    obtain ⟨X, hX⟩ : ∃ X, X = str l := ⟨_, rfl⟩
    rw [← hX] at h0 HRT ⊢
    clear hS hX hx hT
    have hv116 : ∀ w, (zeroValue 51).run Tryd.prog w = .ok (.agg (Array.replicate 256 (.bool false))) w := fun w => by kernel_rfl
    have hi116 : (Tryd.prog.info? 51).map (·.size) = some 256 := by kernel_rfl
    go_enter Tryd.func30, Tryd.ntmps30
    go_wp2_with fail
    refine (HM.out _).mono ?_
    rintro e w1 ⟨cs, hc1, hc2, rfl, hb1⟩
    have HB1 := hide hb1
    have hblk : (w1.alloc (Obj.cells (Array.replicate 256 (.bool false)) 51)).heap[w1.heap.size]? = some (.cells (Array.replicate 256 (.bool false)) 51 (0, 0)) := heap_alloc_new w1 _
    have hsc := run_storeCells_new (P := Tryd.prog) w1 51 (Array.replicate 256 (.bool false)) cs (by rw [hc1]; exact hi116) (by rw [hc1]; rfl) hc2
    clear hb1 hc2
    go_wp2_with fail
    refine (HRT.out _ (bl_two HB1.out (below_one w1 _))).mono ?_
    rintro e w2 ⟨rfl, hb2⟩
    have HB2 := hide (bl_two (bl_two HB1.out (below_one w1 _)) hb2)
    clear hb2 hsc hblk hc1
    go_wp2_with fail
    refine (HLT.out _ HB2.out).mono ?_
    rintro e w3 ⟨rfl, hb3⟩
    have HB3 := hide (bl_two HB2.out hb3)
    clear hb3
    go_wp2_with fail
    go_ret
    exact ⟨rfl, HB3.out⟩
/-- what fold takes for blank -/
def blankN (h : NdH) : Bool := if h.name = [] then decide (trimB h.text = []) else decide (h.name = [98, 114])
def quoteN (h : NdH) : Bool := decide (h.name = [98, 108, 111, 99, 107, 113, 117, 111, 116, 101])
theorem name_eq (n c : List UInt8) : (n == c) = decide (n = c) := by
  by_cases e : n = c
  · rw [decide_eq_true e, e]; exact beq_self_eq_true c
  · rw [decide_eq_false e]; exact beq_eq_false_iff_ne.2 e
set_option maxHeartbeats 4000000 in
theorem isQuote_any (h : NdH) (A1 A2 : Option Addr) (n1 c1 n2 c2 : Nat) (w : World) :
    Calls Tryd.prog 21 #[.agg #[.string (str h.name), .slice A1 n1 c1, .string (str h.text), .slice A2 n2 c2]] w fun e w' => e = .returned (.bool (quoteN h)) ∧ Below w.heap.size w w' := by
  have HBK := hide (below_one w (Obj.cells #[.string (str h.name), .slice A1 n1 c1, .string (str h.text), .slice A2 n2 c2] 32))
  obtain ⟨X, hX⟩ : ∃ X, X = str h.name := ⟨_, rfl⟩
  have HQ : Hid ((X.toList == [98, 108, 111, 99, 107, 113, 117, 111, 116, 101]) = quoteN h) := hide (by rw [hX, str_list, name_eq]; rfl)
  rw [← hX] at HBK ⊢
  clear hX
  go_enter Tryd.func21, Tryd.ntmps21
  go_wp2_with fail
  go_ret
  exact ⟨ret_bool HQ.out, HBK.out⟩
set_option maxHeartbeats 4000000 in
theorem isBlank_any (h : NdH) (A1 A2 : Option Addr) (n1 c1 n2 c2 : Nat) (w : World) (hT : Utf8T w) (hl : h.text.length ≤ 1000000) :
    Calls Tryd.prog 22 #[.agg #[.string (str h.name), .slice A1 n1 c1, .string (str h.text), .slice A2 n2 c2]] w fun e w' => e = .returned (.bool (blankN h)) ∧ Below w.heap.size w w' := by
  have hbk := below_one w (Obj.cells #[.string (str h.name), .slice A1 n1 c1, .string (str h.text), .slice A2 n2 c2] 32)
  have HTR := trimBlank_any h.text _ (utf8_kept hT hbk) hl
  have HBK := hide hbk
  obtain ⟨X, hX⟩ : ∃ X, X = str h.name := ⟨_, rfl⟩
  obtain ⟨Y, hY⟩ : ∃ X, X = str h.text := ⟨_, rfl⟩
  obtain ⟨Z, hZ⟩ : ∃ X, X = str (trimB h.text) := ⟨_, rfl⟩
  have hS : blankS = ⟨#[32, 9, 10, 13, 194, 160]⟩ := rfl
  rw [← hX, ← hY, ← hZ, hS] at HTR
  rw [← hX, ← hY] at HBK ⊢
  replace HTR := hide HTR
  by_cases hn : h.name = []
  · have h0 : X.toList.isEmpty = true := by rw [hX, str_list, hn]; rfl
    have HQ : Hid (Z.toList.isEmpty = blankN h) := hide (by
      rw [hZ, str_list]; unfold blankN; rw [if_pos hn]
      cases trimB h.text <;> rfl)
    clear hX hY hZ hS hn hbk hT
    go_enter Tryd.func22, Tryd.ntmps22
    go_wp2_with fail
    refine HTR.out.mono ?_
    rintro e w1 ⟨rfl, hb1⟩
    have HB1 := hide (bl_two HBK.out hb1)
    clear hb1
    go_wp2_with fail
    go_ret
    exact ⟨ret_bool HQ.out, HB1.out⟩
  · have h0 : X.toList.isEmpty = false := by
      rw [hX, str_list]
      cases hq : h.name with
      | nil => exact absurd hq hn
      | cons _ _ => rfl
    have HQ : Hid ((X.toList == [98, 114]) = blankN h) := hide (by
      rw [hX, str_list, name_eq]; unfold blankN; rw [if_neg hn])
    clear hX hY hZ hS hn hbk hT HTR
    go_enter Tryd.func22, Tryd.ntmps22
    go_wp2_with fail
    go_ret
    exact ⟨ret_bool HQ.out, HBK.out⟩
end Go.Proofs.YtjaeheicndfdnaaDoor
