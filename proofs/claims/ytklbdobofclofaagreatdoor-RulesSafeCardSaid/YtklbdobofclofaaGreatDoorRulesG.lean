/- WALKS of rules' gate: what becomes of a value, one by one. No statement is proved here. Own work of the verifier. -/
import Derived.Test.YtklbdobofclofaaGreatDoorBaseN
import Derived.Test.YtklbdobofclofaaGreatDoorCssK
import Derived.Test.YtklbdobofclofaaGreatDoorLinkK
import Derived.Test.YtklbdobofclofaaGreatDoorBaseM
namespace Go.Proofs.YtklbdobofclofaaGreatDoor
open Go.RowKit
set_option linter.unusedVariables false
set_option linter.unusedSimpArgs false
set_option maxRecDepth 100000
/-- a value that is let through, or that is not -/
def valV (o : Option (List UInt8)) : Value := .tuple #[.string (str (o.getD [])), .bool o.isSome]
theorem valV_some (v : ByteArray) : valV (some v.data.toList) = .tuple #[.string v, .bool true] := by unfold valV; rw [Option.getD_some, str_of]; rfl
theorem valV_str (l : List UInt8) : valV (some l) = .tuple #[.string (str l), .bool true] := rfl
theorem valV_none : valV none = .tuple #[.string ⟨#[]⟩, .bool false] := rfl
theorem onlyT_any (v : ByteArray) (w : World) : Calls Tryz.prog 52 #[.bool true, .string v] w fun e w' => e = .returned (.tuple #[.string v, .bool true]) ∧ w = w' := only_any true v w
theorem onlyF_any (v : ByteArray) (w : World) : Calls Tryz.prog 52 #[.bool false, .string v] w fun e w' => e = .returned (.tuple #[.string ⟨#[]⟩, .bool false]) ∧ w = w' := only_any false v w
theorem alloc_below (w : World) (o : Obj) : Below w.heap.size w (w.alloc o) := (Below.refl _ _).alloc (Nat.le_refl _) _
/-- a gate in its box -/
def GBox (w : World) (b : Nat) (r s q : Bool) (v : Value) : Prop :=
  w.cell? ⟨b, 0, none⟩ = some (.bool r) ∧ w.cell? ⟨b, 1, none⟩ = some (.bool s) ∧ w.cell? ⟨b, 2, none⟩ = some (.bool q) ∧ w.cell? ⟨b, 3, none⟩ = some v
theorem GBox.new (w : World) (r s q : Bool) (v : Value) (t : TypeId) : GBox (w.alloc (.cells #[.bool r, .bool s, .bool q, v] t)) w.heap.size r s q v := by
  refine ⟨?_, ?_, ?_, ?_⟩ <;> (rw [World.cell?_alloc_at _ _ _ _ rfl]; rfl)
theorem GBox.kept {w w' : World} {b : Nat} {r s q : Bool} {v : Value} (h : GBox w b r s q v) (hb : Below w.heap.size w w') : GBox w' b r s q v := by
  obtain ⟨h0, h1, h2, h3⟩ := h
  exact ⟨(hb.cell (World.block_lt_of_cell? _ _ h0)).trans h0, (hb.cell (World.block_lt_of_cell? _ _ h1)).trans h1, (hb.cell (World.block_lt_of_cell? _ _ h2)).trans h2, (hb.cell (World.block_lt_of_cell? _ _ h3)).trans h3⟩
theorem kind_le5 (l : List UInt8) : lkKind l ≤ 5 := by
  unfold lkKind
  split
  · omega
  · exact (lkKindOf_pos _ _).2
theorem kind_cases (l : List UInt8) : lkKind l = 0 ∨ lkKind l = 1 ∨ lkKind l = 2 ∨ lkKind l = 3 ∨ lkKind l = 4 ∨ lkKind l = 5 := by
  have := kind_le5 l
  omega
theorem gWords_any (r s q : Bool) (A : Option Addr) (F : List FileL) (cap : Nat) (v : ByteArray) (w : World) :
    Calls Tryz.prog 38 #[.agg #[.bool r, .bool s, .bool q, .slice A F.length cap], .string v] w fun e w' => e = .returned (valV (some v.data.toList)) ∧ Below w.heap.size w w' := by
  rw [valV_some]
  go_enter Tryz.func38, Tryz.ntmps38
  go_wp2_with fail
  go_ret2
  exact ⟨rfl, alloc_below _ _⟩
set_option maxHeartbeats 1000000 in
theorem gDir_any (r s q : Bool) (A : Option Addr) (F : List FileL) (cap : Nat) (v : ByteArray) (w : World) :
    Calls Tryz.prog 36 #[.agg #[.bool r, .bool s, .bool q, .slice A F.length cap], .string v] w fun e w' => e = .returned (valV (keepO (dirB v.data.toList) v.data.toList)) ∧ Below w.heap.size w w' := by
  cases h0 : (v.data.toList == [108, 116, 114]) with
  | true =>
    have t0 : (v.toList == [108, 116, 114]) = true := by rw [bytes_list]; exact h0
    have hd : dirB v.data.toList = true := by unfold dirB; rw [h0]; rfl
    rw [hd]
    clear hd h0
    go_enter Tryz.func36, Tryz.ntmps36
    go_wp2_with fail
    refine (onlyT_any _ _).mono ?_
    rintro e wo ⟨rfl, rfl⟩
    go_wp2_with fail
    go_ret2
    exact ⟨by rw [keepO, if_pos rfl, valV_some] <;> rfl, alloc_below _ _⟩
  | false =>
    cases h1 : (v.data.toList == [114, 116, 108]) with
    | true =>
      have t0 : (v.toList == [108, 116, 114]) = false := by rw [bytes_list]; exact h0
      have t1 : (v.toList == [114, 116, 108]) = true := by rw [bytes_list]; exact h1
      have hd : dirB v.data.toList = true := by unfold dirB; rw [h0, h1]; rfl
      rw [hd]
      clear hd h0 h1
      go_enter Tryz.func36, Tryz.ntmps36
      go_wp2_with fail
      refine (onlyT_any _ _).mono ?_
      rintro e wo ⟨rfl, rfl⟩
      go_wp2_with fail
      go_ret2
      exact ⟨by rw [keepO, if_pos rfl, valV_some] <;> rfl, alloc_below _ _⟩
    | false =>
      cases h2 : (v.data.toList == [97, 117, 116, 111]) with
      | true =>
        have t0 : (v.toList == [108, 116, 114]) = false := by rw [bytes_list]; exact h0
        have t1 : (v.toList == [114, 116, 108]) = false := by rw [bytes_list]; exact h1
        have t2 : (v.toList == [97, 117, 116, 111]) = true := by rw [bytes_list]; exact h2
        have hd : dirB v.data.toList = true := by unfold dirB; rw [h0, h1, h2]; rfl
        rw [hd]
        clear hd h0 h1 h2
        go_enter Tryz.func36, Tryz.ntmps36
        go_wp2_with fail
        refine (onlyT_any _ _).mono ?_
        rintro e wo ⟨rfl, rfl⟩
        go_wp2_with fail
        go_ret2
        exact ⟨by rw [keepO, if_pos rfl, valV_some] <;> rfl, alloc_below _ _⟩
      | false =>
        have t0 : (v.toList == [108, 116, 114]) = false := by rw [bytes_list]; exact h0
        have t1 : (v.toList == [114, 116, 108]) = false := by rw [bytes_list]; exact h1
        have t2 : (v.toList == [97, 117, 116, 111]) = false := by rw [bytes_list]; exact h2
        have hd : dirB v.data.toList = false := by unfold dirB; rw [h0, h1, h2]; rfl
        rw [hd]
        clear hd h0 h1 h2
        go_enter Tryz.func36, Tryz.ntmps36
        go_wp2_with fail
        refine (onlyF_any _ _).mono ?_
        rintro e wo ⟨rfl, rfl⟩
        go_wp2_with fail
        go_ret2
        exact ⟨rfl, alloc_below _ _⟩
theorem within_dig (l : List UInt8) : withinB 48 57 l = l.all digitB := by
  unfold withinB
  congr 1
  funext c
  exact u8_all (p := fun c => (decide ((48 : Int) ≤ (c.toNat : Int)) && decide ((c.toNat : Int) ≤ 57)) = digitB c) (by decide +kernel) c
set_option maxHeartbeats 1000000 in
theorem gNum_any (r s q : Bool) (A : Option Addr) (F : List FileL) (cap : Nat) (v : ByteArray) (w : World) (hs : v.size ≤ maxLen) :
    Calls Tryz.prog 35 #[.agg #[.bool r, .bool s, .bool q, .slice A F.length cap], .string v] w fun e w' => e = .returned (valV (keepO (digsB v.data.toList) v.data.toList)) ∧ Below w.heap.size w w' := by
  by_cases hz : v.size = 0
  · have h0 : v = ⟨#[]⟩ := ext_list (size0 hz).1
    subst h0
    go_enter Tryz.func35, Tryz.ntmps35
    go_wp2_with fail
    refine (onlyF_any _ _).mono ?_
    rintro e wo ⟨rfl, rfl⟩
    go_wp2_with fail
    go_ret2
    exact ⟨rfl, alloc_below _ _⟩
  · have e1 : v.toList.isEmpty = false := (sizeP hz).2
    have e2 : (!v.toList.isEmpty) = true := by rw [e1]; rfl
    have e3 : v.data.toList.isEmpty = false := by rw [← bytes_list]; exact e1
    by_cases hl : v.size ≤ 4
    · have l1 : decide ((v.size : Int) ≤ 4) = true := decide_eq_true (by omega)
      cases hp : withinB 48 57 v.data.toList with
      | true =>
        have hd : digsB v.data.toList = true := by unfold digsB; rw [e3, toList_length, decide_eq_true hl]; simpa [within_dig] using hp
        rw [hd]
        have HC := hide (fun w2 => within_any v 48 57 w2 hs)
        rw [hp] at HC
        clear hd e3 hz hp
        go_enter Tryz.func35, Tryz.ntmps35
        go_wp2_with fail
        refine (HC.out _).mono ?_
        rintro e w1 ⟨rfl, rfl⟩
        go_wp2_with fail
        refine (onlyT_any _ _).mono ?_
        rintro e wo ⟨rfl, rfl⟩
        go_wp2_with fail
        go_ret2
        exact ⟨by rw [keepO, if_pos rfl, valV_some] <;> rfl, alloc_below _ _⟩
      | false =>
        have hd : digsB v.data.toList = false := by unfold digsB; rw [e3, toList_length, decide_eq_true hl]; simpa [within_dig] using hp
        rw [hd]
        have HC := hide (fun w2 => within_any v 48 57 w2 hs)
        rw [hp] at HC
        clear hd e3 hz hp
        go_enter Tryz.func35, Tryz.ntmps35
        go_wp2_with fail
        refine (HC.out _).mono ?_
        rintro e w1 ⟨rfl, rfl⟩
        go_wp2_with fail
        refine (onlyF_any _ _).mono ?_
        rintro e wo ⟨rfl, rfl⟩
        go_wp2_with fail
        go_ret2
        exact ⟨rfl, alloc_below _ _⟩
    · have l1 : decide ((v.size : Int) ≤ 4) = false := decide_eq_false (by omega)
      have hd : digsB v.data.toList = false := by unfold digsB; rw [e3, toList_length, decide_eq_false (by omega)]; rfl
      rw [hd]
      clear hd e3 hz hl
      go_enter Tryz.func35, Tryz.ntmps35
      go_wp2_with fail
      refine (onlyF_any _ _).mono ?_
      rintro e wo ⟨rfl, rfl⟩
      go_wp2_with fail
      go_ret2
      exact ⟨rfl, alloc_below _ _⟩
set_option maxHeartbeats 1000000 in
theorem gLang_any (r s q : Bool) (A : Option Addr) (F : List FileL) (cap : Nat) (v : ByteArray) (w : World) (hs : v.size ≤ maxLen) :
    Calls Tryz.prog 37 #[.agg #[.bool r, .bool s, .bool q, .slice A F.length cap], .string v] w fun e w' => e = .returned (valV (keepO (langB v.data.toList) v.data.toList)) ∧ Below w.heap.size w w' := by
  by_cases hz : v.size = 0
  · have h0 : v = ⟨#[]⟩ := ext_list (size0 hz).1
    subst h0
    go_enter Tryz.func37, Tryz.ntmps37
    go_wp2_with fail
    refine (onlyF_any _ _).mono ?_
    rintro e wo ⟨rfl, rfl⟩
    go_wp2_with fail
    go_ret2
    exact ⟨rfl, alloc_below _ _⟩
  · have e1 : v.toList.isEmpty = false := (sizeP hz).2
    have e2 : (!v.toList.isEmpty) = true := by rw [e1]; rfl
    have e3 : v.data.toList.isEmpty = false := by rw [← bytes_list]; exact e1
    by_cases hl : v.size ≤ 20
    · have l1 : decide ((v.size : Int) ≤ 20) = true := decide_eq_true (by omega)
      cases hp : allMark (⟨#[45]⟩ : ByteArray).data.toList v.data.toList with
      | true =>
        have hd : langB v.data.toList = true := by unfold langB; rw [e3, toList_length, decide_eq_true hl]; simpa [allMark] using hp
        rw [hd]
        have HC := hide (fun w2 => allPlain_any v ⟨#[45]⟩ w2 hs)
        rw [hp] at HC
        clear hd e3 hz hp
        go_enter Tryz.func37, Tryz.ntmps37
        go_wp2_with fail
        refine (HC.out _).mono ?_
        rintro e w1 ⟨rfl, rfl⟩
        go_wp2_with fail
        refine (onlyT_any _ _).mono ?_
        rintro e wo ⟨rfl, rfl⟩
        go_wp2_with fail
        go_ret2
        exact ⟨by rw [keepO, if_pos rfl, valV_some] <;> rfl, alloc_below _ _⟩
      | false =>
        have hd : langB v.data.toList = false := by unfold langB; rw [e3, toList_length, decide_eq_true hl]; simpa [allMark] using hp
        rw [hd]
        have HC := hide (fun w2 => allPlain_any v ⟨#[45]⟩ w2 hs)
        rw [hp] at HC
        clear hd e3 hz hp
        go_enter Tryz.func37, Tryz.ntmps37
        go_wp2_with fail
        refine (HC.out _).mono ?_
        rintro e w1 ⟨rfl, rfl⟩
        go_wp2_with fail
        refine (onlyF_any _ _).mono ?_
        rintro e wo ⟨rfl, rfl⟩
        go_wp2_with fail
        go_ret2
        exact ⟨rfl, alloc_below _ _⟩
    · have l1 : decide ((v.size : Int) ≤ 20) = false := decide_eq_false (by omega)
      have hd : langB v.data.toList = false := by unfold langB; rw [e3, toList_length, decide_eq_false (by omega)]; rfl
      rw [hd]
      clear hd e3 hz hl
      go_enter Tryz.func37, Tryz.ntmps37
      go_wp2_with fail
      refine (onlyF_any _ _).mono ?_
      rintro e wo ⟨rfl, rfl⟩
      go_wp2_with fail
      go_ret2
      exact ⟨rfl, alloc_below _ _⟩
set_option maxHeartbeats 1000000 in
theorem gStyle_any (r s q : Bool) (A : Option Addr) (F : List FileL) (cap : Nat) (v : ByteArray) (w : World) (hs : v.size ≤ 10000) (hE : EnvC w) :
    Calls Tryz.prog 34 #[.agg #[.bool r, .bool s, .bool q, .slice A F.length cap], .string v] w fun e w' => e = .returned (valV (keepO (styleB s v.data.toList) (cleanD v.data.toList))) ∧ Below w.heap.size w w' := by
  have HS := hide hs
  have HE := hide hE
  clear hs hE
  obtain ⟨C, hC⟩ : ∃ C, str (cleanD v.data.toList) = C := ⟨_, rfl⟩
  have hCl : cleanD v.data.toList = C.data.toList := by rw [← hC, str_toList]
  have HC := hide (fun w2 hE2 => cssClean_any v (Nat.le_trans HS.out (by decide)) w2 hE2)
  rw [hC] at HC
  rw [hCl]
  by_cases hz : C.size = 0
  · have e1 : C.toList.isEmpty = true := (size0 hz).2
    have e2 : (!C.toList.isEmpty) = false := by rw [e1]; rfl
    have hd : styleB s v.data.toList = false := by unfold styleB; rw [hCl, ← bytes_list, e1]; simp
    rw [hd]
    clear hd hCl hC hz
    cases s
    all_goals
      go_enter Tryz.func34, Tryz.ntmps34
      go_wp2_with fail
      refine (HC.out _ (HE.out.kept (alloc_below _ _))).mono ?_
      rintro e w1 ⟨rfl, hb1⟩
      obtain ⟨c0, c1, c2, c3⟩ := (GBox.new w r _ q (.slice A F.length cap) 42).kept hb1
      have HB := hide ((alloc_below w _).trans (hb1.mono (by simp)))
      clear hb1
      go_wp2_with fail
      refine (onlyF_any _ _).mono ?_
      rintro e wo ⟨rfl, rfl⟩
      go_wp2_with fail
      go_ret2
      exact ⟨rfl, HB.out⟩
  · have e1 : C.toList.isEmpty = false := (sizeP hz).2
    have e2 : (!C.toList.isEmpty) = true := by rw [e1]; rfl
    have hd : styleB s v.data.toList = s := by unfold styleB; rw [hCl, ← bytes_list, e1]; simp
    rw [hd]
    clear hd hCl hC hz
    cases s
    · go_enter Tryz.func34, Tryz.ntmps34
      go_wp2_with fail
      refine (HC.out _ (HE.out.kept (alloc_below _ _))).mono ?_
      rintro e w1 ⟨rfl, hb1⟩
      obtain ⟨c0, c1, c2, c3⟩ := (GBox.new w r _ q (.slice A F.length cap) 42).kept hb1
      have HB := hide ((alloc_below w _).trans (hb1.mono (by simp)))
      clear hb1
      go_wp2_with fail
      refine (onlyF_any _ _).mono ?_
      rintro e wo ⟨rfl, rfl⟩
      go_wp2_with fail
      go_ret2
      exact ⟨rfl, HB.out⟩
    · go_enter Tryz.func34, Tryz.ntmps34
      go_wp2_with fail
      refine (HC.out _ (HE.out.kept (alloc_below _ _))).mono ?_
      rintro e w1 ⟨rfl, hb1⟩
      obtain ⟨c0, c1, c2, c3⟩ := (GBox.new w r _ q (.slice A F.length cap) 42).kept hb1
      have HB := hide ((alloc_below w _).trans (hb1.mono (by simp)))
      clear hb1
      go_wp2_with fail
      refine (onlyT_any _ _).mono ?_
      rintro e wo ⟨rfl, rfl⟩
      go_wp2_with fail
      go_ret2
      exact ⟨by rw [keepO, if_pos rfl, valV_some] <;> rfl, HB.out⟩
set_option maxHeartbeats 2000000 in
theorem gHref_any (r s q : Bool) (A : Option Addr) (F : List FileL) (cap : Nat) (v : ByteArray) (w : World) (hs : v.size ≤ 10000) (hE : EnvU w) :
    Calls Tryz.prog 32 #[.agg #[.bool r, .bool s, .bool q, .slice A F.length cap], .string v] w fun e w' => e = .returned (valV (keepO (hrefB v.data.toList) (lkClean v.data.toList))) ∧ Below w.heap.size w w' := by
  have HS := hide hs
  have HE := hide hE
  clear hs hE
  have HKC := hide (fun w2 hE2 => linkKind_any v w2 (Nat.le_trans HS.out (by decide)) hE2)
  rcases kind_cases (lkClean v.data.toList) with h | h | h | h | h | h
  · have hd : hrefB v.data.toList = false := by unfold hrefB; rw [h]; rfl
    rw [hd]
    rw [h] at HKC
    clear hd h
    go_enter Tryz.func32, Tryz.ntmps32
    go_wp2_with fail
    refine (HKC.out _ (HE.out.kept (alloc_below _ _))).mono ?_
    rintro e w1 ⟨rfl, hb1⟩
    have HB := hide ((alloc_below w _).trans (hb1.mono (by simp)))
    clear hb1
    go_wp2_with fail
    refine (linkClean_any v _ (Nat.le_trans HS.out (by decide)) (HE.out.kept HB.out)).mono ?_
    rintro e w2 ⟨rfl, hb2⟩
    have HB2 := hide (HB.out.trans (hb2.mono HB.out.size))
    clear hb2
    go_wp2_with fail
    refine (onlyF_any _ _).mono ?_
    rintro e wo ⟨rfl, rfl⟩
    go_wp2_with fail
    go_ret2
    exact ⟨rfl, HB2.out⟩
  · have hd : hrefB v.data.toList = true := by unfold hrefB; rw [h]; rfl
    rw [hd]
    rw [h] at HKC
    clear hd h
    go_enter Tryz.func32, Tryz.ntmps32
    go_wp2_with fail
    refine (HKC.out _ (HE.out.kept (alloc_below _ _))).mono ?_
    rintro e w1 ⟨rfl, hb1⟩
    have HB := hide ((alloc_below w _).trans (hb1.mono (by simp)))
    clear hb1
    go_wp2_with fail
    refine (linkClean_any v _ (Nat.le_trans HS.out (by decide)) (HE.out.kept HB.out)).mono ?_
    rintro e w2 ⟨rfl, hb2⟩
    have HB2 := hide (HB.out.trans (hb2.mono HB.out.size))
    clear hb2
    go_wp2_with fail
    refine (onlyT_any _ _).mono ?_
    rintro e wo ⟨rfl, rfl⟩
    go_wp2_with fail
    go_ret2
    exact ⟨rfl, HB2.out⟩
  · have hd : hrefB v.data.toList = true := by unfold hrefB; rw [h]; rfl
    rw [hd]
    rw [h] at HKC
    clear hd h
    go_enter Tryz.func32, Tryz.ntmps32
    go_wp2_with fail
    refine (HKC.out _ (HE.out.kept (alloc_below _ _))).mono ?_
    rintro e w1 ⟨rfl, hb1⟩
    have HB := hide ((alloc_below w _).trans (hb1.mono (by simp)))
    clear hb1
    go_wp2_with fail
    refine (linkClean_any v _ (Nat.le_trans HS.out (by decide)) (HE.out.kept HB.out)).mono ?_
    rintro e w2 ⟨rfl, hb2⟩
    have HB2 := hide (HB.out.trans (hb2.mono HB.out.size))
    clear hb2
    go_wp2_with fail
    refine (onlyT_any _ _).mono ?_
    rintro e wo ⟨rfl, rfl⟩
    go_wp2_with fail
    go_ret2
    exact ⟨rfl, HB2.out⟩
  · have hd : hrefB v.data.toList = true := by unfold hrefB; rw [h]; rfl
    rw [hd]
    rw [h] at HKC
    clear hd h
    go_enter Tryz.func32, Tryz.ntmps32
    go_wp2_with fail
    refine (HKC.out _ (HE.out.kept (alloc_below _ _))).mono ?_
    rintro e w1 ⟨rfl, hb1⟩
    have HB := hide ((alloc_below w _).trans (hb1.mono (by simp)))
    clear hb1
    go_wp2_with fail
    refine (linkClean_any v _ (Nat.le_trans HS.out (by decide)) (HE.out.kept HB.out)).mono ?_
    rintro e w2 ⟨rfl, hb2⟩
    have HB2 := hide (HB.out.trans (hb2.mono HB.out.size))
    clear hb2
    go_wp2_with fail
    refine (onlyT_any _ _).mono ?_
    rintro e wo ⟨rfl, rfl⟩
    go_wp2_with fail
    go_ret2
    exact ⟨rfl, HB2.out⟩
  · have hd : hrefB v.data.toList = false := by unfold hrefB; rw [h]; rfl
    rw [hd]
    rw [h] at HKC
    clear hd h
    go_enter Tryz.func32, Tryz.ntmps32
    go_wp2_with fail
    refine (HKC.out _ (HE.out.kept (alloc_below _ _))).mono ?_
    rintro e w1 ⟨rfl, hb1⟩
    have HB := hide ((alloc_below w _).trans (hb1.mono (by simp)))
    clear hb1
    go_wp2_with fail
    refine (linkClean_any v _ (Nat.le_trans HS.out (by decide)) (HE.out.kept HB.out)).mono ?_
    rintro e w2 ⟨rfl, hb2⟩
    have HB2 := hide (HB.out.trans (hb2.mono HB.out.size))
    clear hb2
    go_wp2_with fail
    refine (onlyF_any _ _).mono ?_
    rintro e wo ⟨rfl, rfl⟩
    go_wp2_with fail
    go_ret2
    exact ⟨rfl, HB2.out⟩
  · have hd : hrefB v.data.toList = false := by unfold hrefB; rw [h]; rfl
    rw [hd]
    rw [h] at HKC
    clear hd h
    go_enter Tryz.func32, Tryz.ntmps32
    go_wp2_with fail
    refine (HKC.out _ (HE.out.kept (alloc_below _ _))).mono ?_
    rintro e w1 ⟨rfl, hb1⟩
    have HB := hide ((alloc_below w _).trans (hb1.mono (by simp)))
    clear hb1
    go_wp2_with fail
    refine (linkClean_any v _ (Nat.le_trans HS.out (by decide)) (HE.out.kept HB.out)).mono ?_
    rintro e w2 ⟨rfl, hb2⟩
    have HB2 := hide (HB.out.trans (hb2.mono HB.out.size))
    clear hb2
    go_wp2_with fail
    refine (onlyF_any _ _).mono ?_
    rintro e wo ⟨rfl, rfl⟩
    go_wp2_with fail
    go_ret2
    exact ⟨rfl, HB2.out⟩
/-- what picture tells -/
def picO (F : List FileL) (i : Nat) : Option (List UInt8) := if imgAt F i = true then some (attN i) else none
theorem picO_yes {F : List FileL} {i : Nat} (h : imgAt F i = true) : valV (picO F i) = .tuple #[.string ((⟨#[97, 116, 116, 58]⟩ : ByteArray) ++ str (numL i)), .bool true] := by
  unfold picO
  rw [if_pos h, valV_str, attN, str_append]; rfl
theorem picO_no {F : List FileL} {i : Nat} (h : imgAt F i = false) : valV (picO F i) = .tuple #[.string ⟨#[]⟩, .bool false] := by
  unfold picO
  rw [if_neg (by rw [h]; decide)]; rfl
theorem img_has (f : FileL) : Lib.hasPrefix (str f.kind).data.toList (⟨#[105, 109, 97, 103, 101, 47]⟩ : ByteArray).data.toList = imgB f := rfl
set_option maxHeartbeats 2000000 in
theorem gPic_any (r s q : Bool) (A : Option Addr) (F : List FileL) (cap i : Nat) (w : World) (hF : FilesIn w (.slice A F.length cap) F) (hl : F.length ≤ 40) (hi : i ≤ 2147483647) :
    Calls Tryz.prog 72 #[.agg #[.bool r, .bool s, .bool q, .slice A F.length cap], .int .i64 i] w fun e w' => e = .returned (valV (picO F i)) ∧ Below w.heap.size w w' := by
  by_cases hlt : i < F.length
  · have g1 : decide ((F.length : Int) ≤ i) = false := decide_eq_false (by omega)
    have g2 : decide (F.length ≤ i) = false := decide_eq_false (by omega)
    have hF2 := hF.kept (alloc_below w (.cells #[.bool r, .bool s, .bool q, .slice A F.length cap] 42))
    obtain ⟨a, rfl, d0, d1, d2, d3⟩ := hF2.at i _ (List.getElem?_eq_getElem hlt)
    have him : imgAt F i = imgB F[i] := imgAt_at hlt
    obtain ⟨f, hf⟩ : ∃ f, F[i] = f := ⟨_, rfl⟩
    rw [hf] at d1 him
    obtain ⟨K, hK⟩ : ∃ K, str f.kind = K := ⟨_, rfl⟩
    rw [hK] at d1
    have HC := hide (fun w2 => Tryz.strings_HasPrefix K ⟨#[105, 109, 97, 103, 101, 47]⟩ w2)
    rw [← hK, img_has, ← him] at HC
    rw [hK] at HC
    have HI := hide (fun w2 => Tryz.strconv_Itoa_small i (by omega) w2)
    have HN : Hid ((⟨(Lib.decDigits i).toArray⟩ : ByteArray) = str (numL i)) := hide (by rw [dec_num i (by omega)]; rfl)
    rw [HN.out] at HI
    clear hF hF2 d0 d2 d3 him hK hf
    cases hb : imgAt F i with
    | true =>
      have HV := hide (picO_yes hb)
      rw [hb] at HC
      clear hb
      obtain ⟨c0, c1, c2, c3⟩ := GBox.new w r s q (.slice (some a) F.length cap) 42
      go_enter Tryz.func72, Tryz.ntmps72
      go_wp2_with fail
      refine (HC.out _).mono ?_
      rintro e w1 ⟨rfl, rfl⟩
      go_wp2_with fail
      refine (HI.out _).mono ?_
      rintro e w1 ⟨rfl, rfl⟩
      obtain ⟨X, hX⟩ : ∃ X, str (numL i) = X := ⟨_, rfl⟩
      have hXs : X.size ≤ 2 := by rw [← hX, str_size]; unfold numL; split <;> simp
      rw [hX]
      have HX := hide hX
      clear hX
      go_wp2_with fail
      go_ret2
      exact ⟨by rw [HV.out, HX.out]; rfl, alloc_below _ _⟩
    | false =>
      have HV := hide (picO_no hb)
      rw [hb] at HC
      clear hb
      obtain ⟨c0, c1, c2, c3⟩ := GBox.new w r s q (.slice (some a) F.length cap) 42
      go_enter Tryz.func72, Tryz.ntmps72
      go_wp2_with fail
      refine (HC.out _).mono ?_
      rintro e w1 ⟨rfl, rfl⟩
      go_wp2_with fail
      go_ret2
      exact ⟨by rw [HV.out]; rfl, alloc_below _ _⟩
  · have hn : imgAt F i = false := imgAt_off (by omega)
    have g1 : decide ((F.length : Int) ≤ i) = true := decide_eq_true (by omega)
    have g2 : decide (F.length ≤ i) = true := decide_eq_true (by omega)
    have HV := hide (picO_no hn)
    clear hn hF
    obtain ⟨c0, c1, c2, c3⟩ := GBox.new w r s q (.slice A F.length cap) 42
    go_enter Tryz.func72, Tryz.ntmps72
    go_wp2_with fail
    go_ret2
    exact ⟨by rw [HV.out]; rfl, alloc_below _ _⟩
end Go.Proofs.YtklbdobofclofaaGreatDoor
