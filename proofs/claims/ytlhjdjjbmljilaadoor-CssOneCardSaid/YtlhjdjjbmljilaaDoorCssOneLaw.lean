/- WALK of the law CssOne. No statement is proved here. Own work of the verifier. -/
import Derived.Test.YtlhjdjjbmljilaaDoorCssL0
namespace Go.Proofs.YtlhjdjjbmljilaaDoor
open Go.RowKit
set_option linter.unusedVariables false
set_option linter.unusedSimpArgs false
set_option maxRecDepth 100000
attribute [local go_sem] eqTwo
theorem joinA (a b : ByteArray) : (a ++ b).data.toList = a.data.toList ++ b.data.toList := by simp
theorem trim_id {v : List UInt8} (h : ∀ c r, v = c :: r → spaceB c = false) (k : ∀ c r, v.reverse = c :: r → spaceB c = false) : trimV v = v := by
  have e1 : leftW v = v := by
    cases v with
    | nil => rfl
    | cons c r => rw [leftW_cons, h c r rfl]; rfl
  unfold trimV
  rw [e1]
  unfold rightW
  have e2 : leftW v.reverse = v.reverse := by
    cases e : v.reverse with
    | nil => rfl
    | cons c r => rw [leftW_cons, k c r e]; rfl
  unfold leftW at e2
  rw [e2, List.reverse_reverse]
theorem cut_one {p : List UInt8} (h : ∀ c ∈ p, calmB c = true) : cutD p = (declL p).toList := by
  have e := pcs_calm p h [] []
  rw [List.append_nil] at e
  unfold cutD
  rw [e]
  show [p].filterMap declL = _
  cases hd : declL p <;> simp [hd]
theorem declL_nil : declL [] = none := by decide
theorem last_one {n v : List UInt8} (h : safeD (n, v) = true) : lastD [(n, v)] = [(n, v)] := by rw [lastD, if_pos ⟨h, rfl⟩, lastD]
theorem last_two {n x v : List UInt8} (h : safeD (n, v) = true) : lastD [(n, x), (n, v)] = [(n, v)] := by
  rw [lastD, if_neg (fun e => by have := e.2; simp [h] at this), last_one h]
theorem pair_calm {n v : List UInt8} (h : safeD (n, v) = true) : ∀ c ∈ n ++ 58 :: v, calmB c = true := by
  intro c hc
  refine show_calm h c ?_
  show c ∈ n ++ 58 :: 32 :: v
  rcases List.mem_append.1 hc with hc | hc
  · exact List.mem_append_left _ hc
  · rcases List.mem_cons.1 hc with rfl | hc
    · exact List.mem_append_right _ (List.mem_cons_self ..)
    · exact List.mem_append_right _ (List.mem_cons_of_mem _ (List.mem_cons_of_mem _ hc))
theorem one_a {n v : List UInt8} (h : safeD (n, v) = true) (ht : trimV v = v) : cleanD (n ++ 58 :: v) = showD (n, v) := by
  obtain ⟨hn, hv0, _, hm⟩ := safe_facts h
  have htn := (name_facts hn).2.2.2
  have hd : declL (n ++ 58 :: v) = some (n, v) := by
    have := declL_of (a := []) (b := []) (c := v) hn ht hv0 (by simpa using htn) (by simp) ht
    simpa using this
  unfold cleanD
  rw [cut_one (pair_calm h), hd]
  show joinD (lastD [(n, v)]) = _
  rw [last_one h]; rfl
theorem one_w {n v : List UInt8} (h : safeD (n, v) = true) (ht : trimV v = v) : cutD (showD (n, v)) = [(n, v)] := by
  rw [cut_one (show_calm h), (decl_show h ht).1]; rfl
theorem one_b {n v : List UInt8} (h : safeD (n, v) = true) (ht : trimV v = v) : cleanD ([32, 10] ++ n ++ [9] ++ 58 :: (32 :: (v ++ [32])) ++ [59, 59]) = showD (n, v) := by
  obtain ⟨hn, hv0, _, hm⟩ := safe_facts h
  have htn := (name_facts hn).2.2.2
  have hc : trimV (32 :: (v ++ [32])) = v := by rw [trimV_cons (by decide), trimV_snoc (by decide), ht]
  have ha : trimV ([32, 10] ++ n ++ [9]) = n := by
    rw [trimV_snoc (by decide)]
    show trimV (32 :: 10 :: n) = n
    rw [trimV_cons (by decide), trimV_cons (by decide), htn]
  have hd : declL ([32, 10] ++ n ++ [9] ++ 58 :: (32 :: (v ++ [32]))) = some (n, v) := declL_of hn ht hv0 ha (by decide) hc
  have hp : ∀ c ∈ [32, 10] ++ n ++ [9] ++ 58 :: (32 :: (v ++ [32])), calmB c = true := by
    intro c hc
    have hq := pair_calm h
    simp only [List.mem_append, List.mem_cons, List.not_mem_nil, or_false] at hc
    rcases hc with (((rfl | rfl) | hc) | rfl) | rfl | rfl | hc | rfl
    all_goals first | decide | exact hq c (List.mem_append_left _ hc) | exact hq c (List.mem_append_right _ (List.mem_cons_of_mem _ hc))
  have e : cutD ([32, 10] ++ n ++ [9] ++ 58 :: (32 :: (v ++ [32])) ++ [59, 59]) = [(n, v)] := by
    unfold cutD
    rw [pcs_calm _ hp [] [59, 59], pcs_semi, pcs_semi]
    show List.filterMap declL [[] ++ ([32, 10] ++ n ++ [9] ++ 58 :: (32 :: (v ++ [32]))), [], []] = _
    rw [List.nil_append, List.filterMap_cons_some hd]
    rfl
  unfold cleanD
  rw [e, last_one h]; rfl
theorem one_c {n v o : List UInt8} (h : safeD (n, v) = true) (ht : trimV v = v) (ho : safeD (n, o) = true) : cleanD (n ++ 58 :: o ++ 59 :: showD (n, v)) = showD (n, v) := by
  obtain ⟨hn, hv0, _, hm⟩ := safe_facts h
  obtain ⟨_, hnc, hln, htn⟩ := name_facts hn
  have hq := pair_calm ho
  have hs : ∀ c ∈ n ++ 58 :: o, ¬ (c = 34 ∨ c = 39 ∨ c = 40) := fun c hc e => by
    have := calm_not c (hq c hc)
    rcases e with e | e | e
    · exact this.1 e
    · exact this.2.1 e
    · exact this.2.2.1 e
  have e1 := cut_join (n ++ 58 :: o) (showD (n, v)) hs
  have e2 := cut_one hq
  obtain ⟨b1, b2⟩ := split58 (m := n) (b := o) (fun x hx => (hnc x hx).2.1)
  have hd : declL (n ++ 58 :: o) = none ∨ declL (n ++ 58 :: o) = some (n, trimV o) := by
    unfold declL
    rw [b1, b2, htn, hln]
    split
    · exact .inl rfl
    · exact .inr rfl
  unfold cleanD
  rw [e1, e2, one_w h ht]
  rcases hd with hd | hd
  · rw [hd]
    show joinD (lastD [(n, v)]) = _
    rw [last_one h]; rfl
  · rw [hd]
    show joinD (lastD [(n, trimV o), (n, v)]) = _
    rw [last_two h]; rfl
theorem one_ends (t : ByteArray) (h : ∀ c ∈ t.data.toList, markB cssMarks c = true) (n : Nat) (h0 : 0 < t.size) (hn : n < t.size) (hz : n + 1 = t.size) (h1 : t[0] ≠ 32) (h2 : t[n] ≠ 32) : trimV t.data.toList = t.data.toList := by
  have hm : ∀ c ∈ t.data.toList, c ≠ 32 → spaceB c = false := fun c hc hne => by
    cases e : spaceB c with
    | false => rfl
    | true => exact absurd ((mark_calm c (h c hc)).2 e) hne
  have e0 := drop_cons t 0 h0
  rw [List.drop_zero] at e0
  refine trim_id (fun c r e => ?_) (fun c r e => ?_)
  · have : c = t[0] := (List.cons.inj (e.symm.trans e0)).1
    exact hm c (by rw [e]; exact List.mem_cons_self ..) (by rw [this]; exact h1)
  · have e3 := take_snoc t n hn
    rw [hz, List.take_of_length_le (by rw [toList_length]; omega)] at e3
    have e4 : t.data.toList.reverse = t[n] :: (t.data.toList.take n).reverse := by
      conv => lhs; rw [e3]
      rw [List.reverse_append]; rfl
    have : c = t[n] := (List.cons.inj (e.symm.trans e4)).1
    exact hm c (by rw [← List.mem_reverse, e]; exact List.mem_cons_self ..) (by rw [this]; exact h2)
set_option maxHeartbeats 4000000 in
theorem law_CssOne (s : ByteArray) (hss : s.size ≤ maxLen) (t : ByteArray) (hts : t.size ≤ maxLen) (u : ByteArray) (hus : u.size ≤ maxLen) (w : World) (hE : EnvC w) :
    Calls Tryd.prog 12 #[.string s, .string t, .string u] w fun e w' => e = .returned (.bool true) ∧ Below w.heap.size w w' := by
  rcases Nat.lt_or_ge 3000 s.size with hqs | hls
  · have HDs : Hid (decide (s.size ≤ 3000) = false) := decide_eq_false (by omega)
    have HE := hide hE
    clear hE
    go_enter Tryd.func12, Tryd.ntmps12
    go_wp2_with fail
    refine (short17_any s _ hss).mono ?_
    rintro e w1 ⟨rfl, rfl⟩
    rw [HDs.out]
    go_wp2_with fail
    refine (live17_any _ HE.out).mono ?_
    rintro e w1 ⟨rfl, hb1⟩
    go_wp2_with fail
    go_ret
    exact ⟨rfl, hb1⟩
  have HDs : Hid (decide (s.size ≤ 3000) = true) := decide_eq_true hls
  rcases Nat.lt_or_ge 3000 t.size with hqt | hlt
  · have HDt : Hid (decide (t.size ≤ 3000) = false) := decide_eq_false (by omega)
    have HE := hide hE
    clear hE
    go_enter Tryd.func12, Tryd.ntmps12
    go_wp2_with fail
    refine (short17_any s _ hss).mono ?_
    rintro e w1 ⟨rfl, rfl⟩
    rw [HDs.out]
    go_wp2_with fail
    refine (short17_any t _ hts).mono ?_
    rintro e w1 ⟨rfl, rfl⟩
    rw [HDt.out]
    go_wp2_with fail
    refine (live17_any _ HE.out).mono ?_
    rintro e w1 ⟨rfl, hb1⟩
    go_wp2_with fail
    go_ret
    exact ⟨rfl, hb1⟩
  have HDt : Hid (decide (t.size ≤ 3000) = true) := decide_eq_true hlt
  rcases Nat.lt_or_ge 3000 u.size with hqu | hlu
  · have HDu : Hid (decide (u.size ≤ 3000) = false) := decide_eq_false (by omega)
    have HE := hide hE
    clear hE
    go_enter Tryd.func12, Tryd.ntmps12
    go_wp2_with fail
    refine (short17_any s _ hss).mono ?_
    rintro e w1 ⟨rfl, rfl⟩
    rw [HDs.out]
    go_wp2_with fail
    refine (short17_any t _ hts).mono ?_
    rintro e w1 ⟨rfl, rfl⟩
    rw [HDt.out]
    go_wp2_with fail
    refine (short17_any u _ hus).mono ?_
    rintro e w1 ⟨rfl, rfl⟩
    rw [HDu.out]
    go_wp2_with fail
    refine (live17_any _ HE.out).mono ?_
    rintro e w1 ⟨rfl, hb1⟩
    go_wp2_with fail
    go_ret
    exact ⟨rfl, hb1⟩
  have HDu : Hid (decide (u.size ≤ 3000) = true) := decide_eq_true hlu
  cases hsf : safeD (s.data.toList, t.data.toList) with
  | false =>
    have HSF := hide hsf
    have HE0 := hide hE
    have HB0 : Hid (Below w.heap.size w w) := hide (Below.refl _ _)
    clear hsf hE
    go_enter Tryd.func12, Tryd.ntmps12
    go_wp2_with fail
    refine (short17_any s _ hss).mono ?_
    rintro e w1 ⟨rfl, rfl⟩
    rw [HDs.out]
    go_wp2_with fail
    refine (short17_any t _ hts).mono ?_
    rintro e w1 ⟨rfl, rfl⟩
    rw [HDt.out]
    go_wp2_with fail
    refine (short17_any u _ hus).mono ?_
    rintro e w1 ⟨rfl, rfl⟩
    rw [HDu.out]
    go_wp2_with fail
    refine (cssSafe_any s t _ HE0.out hts).mono ?_
    rintro e w1 ⟨rfl, rfl⟩
    rw [HSF.out]
    go_wp2_with fail
    refine (live17_any _ HE0.out).mono ?_
    rintro e w1_ ⟨rfl, hb⟩
    go_wp2_with fail
    go_ret
    exact ⟨rfl, HB0.out.trans (hb.mono HB0.out.size)⟩
  | true =>
    have HSF := hide hsf
    obtain ⟨_, hne, _, hmk⟩ := safe_facts hsf
    have ht0 : 0 < t.size := by rw [← toList_length]; exact List.length_pos_iff.2 hne
    obtain ⟨n, hn1⟩ : ∃ n, n + 1 = t.size := ⟨t.size - 1, by omega⟩
    have hn : n < t.size := by omega
    have hz : (t.size : Int) - 1 = n := by omega
    have HMK := hide hmk
    have HN1 := hide hn1
    have HE0 := hide hE
    have HB0 : Hid (Below w.heap.size w w) := hide (Below.refl _ _)
    clear hsf hE hne hmk
    by_cases h32 : t[0] = 32
    · have q0 : ((t[0].toNat : Int) == 32) = true := tT 32 (c := t[0]) h32 (by decide)
      clear h32
      go_enter Tryd.func12, Tryd.ntmps12
      go_wp2_with fail
      refine (short17_any s _ hss).mono ?_
      rintro e w1 ⟨rfl, rfl⟩
      rw [HDs.out]
      go_wp2_with fail
      refine (short17_any t _ hts).mono ?_
      rintro e w1 ⟨rfl, rfl⟩
      rw [HDt.out]
      go_wp2_with fail
      refine (short17_any u _ hus).mono ?_
      rintro e w1 ⟨rfl, rfl⟩
      rw [HDu.out]
      go_wp2_with fail
      refine (cssSafe_any s t _ HE0.out hts).mono ?_
      rintro e w1 ⟨rfl, rfl⟩
      rw [HSF.out]
      go_wp2_with fail
      refine (live17_any _ HE0.out).mono ?_
      rintro e w1_ ⟨rfl, hb⟩
      go_wp2_with fail
      go_ret
      exact ⟨rfl, HB0.out.trans (hb.mono HB0.out.size)⟩
    have q0 : ((t[0].toNat : Int) == 32) = false := tF 32 (c := t[0]) h32 (by decide)
    by_cases g32 : t[n] = 32
    · have q1 : ((t[n].toNat : Int) == 32) = true := tT 32 (c := t[n]) g32 (by decide)
      clear h32 g32
      go_enter Tryd.func12, Tryd.ntmps12
      go_wp2_with fail
      refine (short17_any s _ hss).mono ?_
      rintro e w1 ⟨rfl, rfl⟩
      rw [HDs.out]
      go_wp2_with fail
      refine (short17_any t _ hts).mono ?_
      rintro e w1 ⟨rfl, rfl⟩
      rw [HDt.out]
      go_wp2_with fail
      refine (short17_any u _ hus).mono ?_
      rintro e w1 ⟨rfl, rfl⟩
      rw [HDu.out]
      go_wp2_with fail
      refine (cssSafe_any s t _ HE0.out hts).mono ?_
      rintro e w1 ⟨rfl, rfl⟩
      rw [HSF.out]
      go_wp2_with fail
      refine (live17_any _ HE0.out).mono ?_
      rintro e w1_ ⟨rfl, hb⟩
      go_wp2_with fail
      go_ret
      exact ⟨rfl, HB0.out.trans (hb.mono HB0.out.size)⟩
    have q1 : ((t[n].toNat : Int) == 32) = false := tF 32 (c := t[n]) g32 (by decide)
    have htr : trimV t.data.toList = t.data.toList := one_ends t HMK.out n ht0 hn HN1.out h32 g32
    obtain ⟨W, hW⟩ : ∃ W : ByteArray, s ++ ⟨#[58, 32]⟩ ++ t = W := ⟨_, rfl⟩
    have hWl : W = str (showD (s.data.toList, t.data.toList)) := by
      rw [← hW]
      refine ext_list ?_
      rw [str_toList, joinA, joinA]
      show s.data.toList ++ [58, 32] ++ t.data.toList = s.data.toList ++ 58 :: 32 :: t.data.toList
      simp
    have HWl : Hid (W.data.toList = showD (s.data.toList, t.data.toList)) := hide (by rw [hWl, str_toList])
    have hWz : W.size = s.size + t.size + 2 := by rw [hWl, str_size]; unfold showD; simp [toList_length]; omega
    have HA : Hid (str (cleanD (s ++ ⟨#[58]⟩ ++ t : ByteArray).data.toList) = W) := hide (by
      rw [hWl, ← one_a HSF.out htr, joinA, joinA]
      refine congrArg (fun l => str (cleanD l)) ?_
      show s.data.toList ++ [58] ++ t.data.toList = _
      simp)
    have HB : Hid (str (cleanD ((⟨#[32, 10]⟩ : ByteArray) ++ s ++ ⟨#[9, 58, 32]⟩ ++ t ++ ⟨#[32, 59, 59]⟩).data.toList) = W) := hide (by
      rw [hWl, ← one_b HSF.out htr, joinA, joinA, joinA, joinA]
      refine congrArg (fun l => str (cleanD l)) ?_
      show [32, 10] ++ s.data.toList ++ [9, 58, 32] ++ t.data.toList ++ [32, 59, 59] = _
      simp)
    have HC : Hid (safeD (s.data.toList, u.data.toList) = true → str (cleanD (s ++ ⟨#[58]⟩ ++ u ++ ⟨#[59]⟩ ++ W : ByteArray).data.toList) = W) := hide (fun hu => by
      conv => rhs; rw [hWl, ← one_c HSF.out htr hu]
      rw [joinA, joinA, joinA, joinA, HWl.out]
      refine congrArg (fun l => str (cleanD l)) ?_
      show s.data.toList ++ [58] ++ u.data.toList ++ [59] ++ showD _ = _
      simp)
    have HW := hide hW
    have HZA : Hid ((s ++ ⟨#[58]⟩ ++ t : ByteArray).size ≤ 1048575) := hide (by
      rw [← toList_length, joinA, joinA, List.length_append, List.length_append, toList_length, toList_length]
      show s.size + 1 + t.size ≤ 1048575
      omega)
    have HZB : Hid (((⟨#[32, 10]⟩ : ByteArray) ++ s ++ ⟨#[9, 58, 32]⟩ ++ t ++ ⟨#[32, 59, 59]⟩).size ≤ 1048575) := hide (by
      rw [← toList_length, joinA, joinA, joinA, joinA, List.length_append, List.length_append, List.length_append, List.length_append, toList_length, toList_length]
      show 2 + s.size + 3 + t.size + 3 ≤ 1048575
      omega)
    have HZC : Hid ((s ++ ⟨#[58]⟩ ++ u ++ ⟨#[59]⟩ ++ W : ByteArray).size ≤ 1048575) := hide (by
      rw [← toList_length, joinA, joinA, joinA, joinA, List.length_append, List.length_append, List.length_append, List.length_append, toList_length, toList_length, toList_length]
      show s.size + 1 + u.size + 1 + W.size ≤ 1048575
      omega)
    clear h32 g32 htr hW hWl
    go_enter Tryd.func12, Tryd.ntmps12
    go_wp2_with fail
    refine (short17_any s _ hss).mono ?_
    rintro e w1 ⟨rfl, rfl⟩
    rw [HDs.out]
    go_wp2_with fail
    refine (short17_any t _ hts).mono ?_
    rintro e w1 ⟨rfl, rfl⟩
    rw [HDt.out]
    go_wp2_with fail
    refine (short17_any u _ hus).mono ?_
    rintro e w1 ⟨rfl, rfl⟩
    rw [HDu.out]
    go_wp2_with fail
    refine (cssSafe_any s t _ HE0.out hts).mono ?_
    rintro e w1 ⟨rfl, rfl⟩
    rw [HSF.out]
    go_wp2_with fail
    rw [HW.out]
    refine (cssClean_any _ HZA.out _ HE0.out).mono ?_
    rintro e w1_ ⟨rfl, hb⟩
    have HE1 := hide (HE0.out.kept hb)
    have HB1 := hide (HB0.out.trans (hb.mono HB0.out.size))
    clear hb
    rw [HA.out]
    go_wp2_with fail
    refine (cssClean_any _ HZB.out _ HE1.out).mono ?_
    rintro e w2_ ⟨rfl, hb⟩
    have HE2 := hide (HE1.out.kept hb)
    have HB2 := hide (HB1.out.trans (hb.mono HB1.out.size))
    clear hb
    rw [HB.out]
    go_wp2_with fail
    cases hu : safeD (s.data.toList, u.data.toList) with
    | false =>
      have HU := hide hu
      clear hu
      refine (cssSafe_any s u _ HE2.out hus).mono ?_
      rintro e w1 ⟨rfl, rfl⟩
      rw [HU.out]
      go_wp2_with fail
      refine (live17_any _ HE2.out).mono ?_
      rintro e w3_ ⟨rfl, hb⟩
      go_wp2_with fail
      go_ret
      exact ⟨rfl, HB2.out.trans (hb.mono HB2.out.size)⟩
    | true =>
      have HU := hide hu
      have HCC := hide (HC.out hu)
      clear hu
      refine (cssSafe_any s u _ HE2.out hus).mono ?_
      rintro e w1 ⟨rfl, rfl⟩
      rw [HU.out]
      go_wp2_with fail
      refine (cssClean_any _ HZC.out _ HE2.out).mono ?_
      rintro e w3_ ⟨rfl, hb⟩
      have HE3 := hide (HE2.out.kept hb)
      have HB3 := hide (HB2.out.trans (hb.mono HB2.out.size))
      clear hb
      rw [HCC.out]
      go_wp2_with fail
      refine (live17_any _ HE3.out).mono ?_
      rintro e w4_ ⟨rfl, hb⟩
      go_wp2_with fail
      go_ret
      exact ⟨rfl, HB3.out.trans (hb.mono HB3.out.size)⟩
end Go.Proofs.YtlhjdjjbmljilaaDoor
