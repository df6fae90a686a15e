/- WALK of the law TreeText. No statement is proved here. Own work of the verifier. -/
import Derived.Test.YtgokefodmjhhiaaGreatDoorRef14L
import Derived.Test.YtgokefodmjhhiaaGreatDoorTreeA
import Derived.Test.YtgokefodmjhhiaaGreatDoorBaseO
import Derived.Test.YtgokefodmjhhiaaGreatDoorBaseX
namespace Go.Proofs.YtgokefodmjhhiaaGreatDoor
open Go.RowKit
set_option linter.unusedVariables false
set_option linter.unusedSimpArgs false
set_option maxRecDepth 100000
theorem scan_rem (c : UInt8) (hc : c = 120 ∨ c = 121) (L : List TokL) (x R : List UInt8) : scanL decE L x (60 :: 33 :: 45 :: 45 :: c :: 45 :: 45 :: 62 :: R) = scanL decE (flushT L x ++ [remT [c]]) [] R := by
  have hm : isMarkB (60 :: 33 :: 45 :: 45 :: c :: 45 :: 45 :: 62 :: R) = true := rfl
  have hl : markL decE (33 :: 45 :: 45 :: c :: 45 :: 45 :: 62 :: R) = (some (remT [c]), [], R) := by
    have h1 : longL (c :: 45 :: 45 :: 62 :: R) = (some (remT [c]), [], R) := by
      have h2 : longL (c :: 45 :: 45 :: 62 :: R) = (some (remT (cutAt remEnd (c :: 45 :: 45 :: 62 :: R)).1), [], (cutAt remEnd (c :: 45 :: 45 :: 62 :: R)).2) := by
        rcases hc with rfl | rfl <;> rfl
      have h3 : cutAt remEnd (c :: 45 :: 45 :: 62 :: R) = ([c], R) := by
        rcases hc with rfl | rfl <;> simp [cutAt, remEnd, List.isPrefixOf]
      rw [h2, h3]
    exact h1
  rw [scanL_mark decE L x hm, hl]
  rfl
theorem scan_wrap (s : List UInt8) (h60 : 60 ∉ s) (hne : s ≠ []) : scanL decE [] [] ([60, 33, 45, 45, 120, 45, 45, 62] ++ s ++ [60, 33, 45, 45, 121, 45, 45, 62, 60, 47, 113, 62]) = [remT [120], charsT (decE s), remT [121], endT [113]] := by
  have e1 := scan_rem 120 (.inl rfl) [] [] (s ++ [60, 33, 45, 45, 121, 45, 45, 62, 60, 47, 113, 62])
  have hmn : markN (s ++ [60, 33, 45, 45, 121, 45, 45, 62, 60, 47, 113, 62]) = s.length := markN_upto (.inr rfl) s h60
  have e2 : ∀ L, scanL decE L [] (s ++ [60, 33, 45, 45, 121, 45, 45, 62, 60, 47, 113, 62]) = scanL decE L (decE s) [60, 33, 45, 45, 121, 45, 45, 62, 60, 47, 113, 62] := fun L => by
    cases hs : s with
    | nil => exact absurd hs hne
    | cons c r =>
      rw [hs] at hmn
      rw [List.cons_append] at hmn ⊢
      rw [scanL_text decE L [] (by rw [hmn]; simp), hmn]
      rw [← List.cons_append, List.take_left, List.drop_left, List.nil_append]
  have hx : decE s ≠ [] := decE_ne hne
  have e3 := scan_rem 121 (.inr rfl) [remT [120]] (decE s) [60, 47, 113, 62]
  have h1 : nameOK [113] ∧ lowL [113] = [113] := ⟨⟨_, _, rfl, by decide +kernel, by decide +kernel⟩, by decide +kernel⟩
  have e4 := scan_end (N := [113]) (R := []) (flushT [remT [120]] (decE s) ++ [remT [121]]) h1.1 h1.2
  rw [List.append_assoc]
  refine e1.trans ((e2 _).trans (e3.trans (e4.trans ?_)))
  rw [scanL_nil]
  unfold flushT
  rw [if_neg hx, if_pos rfl]
  rfl
theorem build_chars (x : List UInt8) (hx : x ≠ []) : buildP [charsT x] = .cons (txH x) .nil .nil := by
  show Tr.of (endTextL ⟨[], [], [], x⟩).kids = _
  unfold endTextL
  rw [if_neg hx]
  rfl
theorem build_wrap (x : List UInt8) (hx : x ≠ []) : buildP [remT [120], charsT x, remT [121], endT [113]] = .cons (txH x) .nil .nil := by
  show Tr.of (endTextL ⟨[], [], [], x⟩).kids = _
  unfold endTextL
  rw [if_neg hx]
  rfl
theorem bl_next {w w1 w2 : World} (h : Below w.heap.size w w1) (h2 : Below w1.heap.size w1 w2) : Below w.heap.size w w2 := h.trans (h2.mono h.size)
set_option maxHeartbeats 16000000 in
theorem law_TreeText (s : ByteArray) (hss : s.size ≤ maxLen) (w : World) (hE : EnvX w) :
    Calls Tryz.prog 9 #[.string s] w fun e w' => e = .returned (.bool true) ∧ Below w.heap.size w w' := by
  have HE := hide hE
  clear hE
  unfold maxLen at hss
  rcases Nat.lt_or_ge 600 s.size with hqs | hs
  · have t0 : decide ((600 : Int) < s.size) = true := decide_eq_true (by omega)
    go_enter Tryz.func9, Tryz.ntmps9
    go_wp2_with fail
    refine (live14_any _ HE.out).mono ?_
    rintro e wl ⟨rfl, hbl⟩
    have HBL := hide (hbl)
    clear hbl
    go_wp2_with fail
    go_ret
    exact ⟨rfl, HBL.out⟩
  have t0 : decide ((600 : Int) < s.size) = false := decide_eq_false (by omega)
  cases hl : s.data.toList with
  | nil =>
    have q0 : s.toList.isEmpty = true := by rw [bytes_list, hl]; rfl
    have q1 : s.toList = [] := by rw [bytes_list, hl]
    clear hl
    go_enter Tryz.func9, Tryz.ntmps9
    go_wp2_with fail
    refine (live14_any _ HE.out).mono ?_
    rintro e wl ⟨rfl, hbl⟩
    have HBL := hide (hbl)
    clear hbl
    go_wp2_with fail
    go_ret
    exact ⟨rfl, HBL.out⟩
  | cons d0 r0 =>
  have q0 : s.toList.isEmpty = false := by rw [bytes_list, hl]; rfl
  have hne : s.data.toList ≠ [] := by rw [hl]; simp
  have HNE := hide hne
  obtain ⟨m, hm⟩ := HE.out.2
  have HSC := hide (treeBuild_any s m w (by omega) HE.out.1 hm)
  clear hm hl hne
  go_enter Tryz.func9, Tryz.ntmps9
  go_wp2_with fail
  go_loopw [3] (fun iv wr => ∃ k : Nat, k ≤ s.size ∧ iv = .int .i64 k ∧ Hid ((60 : UInt8) ∉ s.data.toList.take k) ∧ Hid (wr = w)) (fun iv _ => s.size - (intOf iv).toNat)
  case atStart => exact ⟨0, Nat.zero_le _, rfl, hide (by simp), hide rfl⟩
  case round =>
    obtain ⟨k, hk, rfl, HN, HW⟩ := hrel
    obtain rfl := HW.out
    by_cases hlt : k < s.size
    · by_cases h60 : s[k] = 60
      · have t1 : ((s[k].toNat : Int) == 60) = true := tT 60 h60 (by omega)
        clear h60
        go_wp2_with fail
        refine (live14_any _ HE.out).mono ?_
        rintro e wl ⟨rfl, hbl⟩
        have HBL := hide (hbl)
        clear hbl
        go_wp2_with fail
        go_ret
        exact ⟨rfl, HBL.out⟩
      · have t1 : ((s[k].toNat : Int) == 60) = false := tF 60 h60 (by omega)
        have HN2 : Hid ((60 : UInt8) ∉ s.data.toList.take (k + 1)) := hide (by
          rw [take_snoc s k hlt, List.mem_append, List.mem_singleton]
          exact fun e => e.elim HN.out (fun e => h60 e.symm))
        clear h60
        go_wp2_with fail
        go_roundw
        case rel => exact ⟨k + 1, by omega, by go_num, HN2, by first | exact trivial | exact hide rfl⟩
        case measure => simp [intOf]; omega
    · have h60 : (60 : UInt8) ∉ s.data.toList := by
        have := HN.out
        rwa [List.take_of_length_le (by rw [toList_length]; omega)] at this
      have hx : decE s.data.toList ≠ [] := decE_ne HNE.out
      have hb1 : buildP (scanL decE [] [] s.data.toList) = .cons (txH (decE s.data.toList)) .nil .nil := by
        rw [scan_plain decE _ h60 HNE.out]
        unfold flushT
        rw [if_neg hx]
        exact build_chars _ hx
      obtain ⟨P, hP⟩ : ∃ P, P = (⟨#[60, 33, 45, 45, 120, 45, 45, 62]⟩ : ByteArray) ++ s ++ (⟨#[60, 33, 45, 45, 121, 45, 45, 62, 60, 47, 113, 62]⟩ : ByteArray) := ⟨_, rfl⟩
      have hPz : P.size = 20 + s.size := by rw [hP, ByteArray.size_append, ByteArray.size_append]; show 8 + s.size + 12 = _; omega
      have hb2 : buildP (scanL decE [] [] P.data.toList) = .cons (txH (decE s.data.toList)) .nil .nil := by
        have : P.data.toList = [60, 33, 45, 45, 120, 45, 45, 62] ++ s.data.toList ++ [60, 33, 45, 45, 121, 45, 45, 62, 60, 47, 113, 62] := by rw [hP]; simp
        rw [this, scan_wrap _ h60 HNE.out]
        exact build_wrap _ hx
      have HP := hide hP
      have HPZ := hide (show P.size ≤ 1000000 by omega)
      have HB1 := hide hb1
      have HB2 := hide hb2
      have q1 : ¬ (9223372036854775807 < 8 + s.size) := by omega
      have q2 : ¬ (9223372036854775807 < 8 + s.size + 12) := by omega
      have q4 : 8 + s.size ≤ 9223372036854775807 := by omega
      have hsz : (⟨#[60, 33, 45, 45, 120, 45, 45, 62]⟩ : ByteArray).size = 8 := rfl
      have hsz2 : (⟨#[60, 33, 45, 45, 121, 45, 45, 62, 60, 47, 113, 62]⟩ : ByteArray).size = 12 := rfl
      clear h60 hx hb1 hb2 hP hPz HN
      go_wp2_with fail
      refine HSC.out.mono ?_
      rintro e w1 ⟨v1, rfl, hn1, hbb⟩
      rw [HB1.out] at hn1
      have hE1 := HE.out.kept hbb
      obtain ⟨m1, hm1⟩ := hE1.2
      have HE1 := hide hE1
      have HBD2 := hide (treeBuild_any P m1 w1 HPZ.out hE1.1 hm1)
      obtain ⟨A1, c1, hv1⟩ := NodesC.form hn1
      replace hv1 : v1 = .slice A1 1 c1 := hv1
      subst hv1
      have HN1 := hide hn1
      have HBB1 := hide hbb
      clear hn1 hbb hE1 hm1
      go_wp2_with fail
      rw [← HP.out]
      refine HBD2.out.mono ?_
      rintro e w2 ⟨v2, rfl, hn2, hb2⟩
      rw [HB2.out] at hn2
      obtain ⟨A2, c2, hv2⟩ := NodesC.form hn2
      replace hv2 : v2 = .slice A2 1 c2 := hv2
      subst hv2
      have hfew : (Tr.cons (txH (decE s.data.toList)) .nil .nil).all attrsFew = true := by rfl
      obtain ⟨a1, d1, x1, y1, z1, m1, rfl, -, -, -, -, tx1, -, -, -⟩ := NodesC.at (HN1.out.kept hb2) 0 (txH (decE s.data.toList)) .nil rfl
      obtain ⟨X, hX⟩ : ∃ X, X = str (decE s.data.toList) := ⟨_, rfl⟩
      have htx : w2.cell? { block := a1.block, off := a1.off + 2 } = some (.string X) := by rw [Nat.zero_mul, Addr.add_zero'] at tx1; rw [hX]; exact tx1
      have HK : Hid (∀ w', Below w2.heap.size w2 w' → w'.cell? { block := a1.block, off := a1.off + 2 } = some (.string X) ∧ Calls Tryz.prog 25 #[.slice (some a1) 1 c1, .slice A2 1 c2] w' (fun e w'' => e = .returned (.bool true) ∧ ∃ m, w'' = w'.drewN m) ∧ EnvX w' ∧ Below wr.heap.size wr w') := hide (by
        intro w' hb
        refine ⟨?_, ?_, (HE1.out.kept hb2).kept hb, (HBB1.out.trans (hb2.mono HBB1.out.size)).trans (hb.mono (HBB1.out.trans (hb2.mono HBB1.out.size)).size)⟩
        · obtain ⟨a1', d1', x1', y1', z1', m1', he, -, -, -, -, tx1', -, -, -⟩ := NodesC.at ((HN1.out.kept hb2).kept hb) 0 (txH (decE s.data.toList)) .nil rfl
          obtain rfl := Option.some.inj he
          rw [Nat.zero_mul, Addr.add_zero'] at tx1'; rw [hX]; exact tx1'
        · have := same14_any _ _ _ _ w' (by show 1 + 0 + 0 < 1048576; omega) ((HN1.out.kept hb2).kept hb) (hn2.kept hb) hfew
          rw [decide_eq_true rfl] at this
          exact this)
      have HX := hide hX
      have HD : Hid (s.size ≤ 1048576) := hide (by omega)
      clear hn2 hb2 hfew tx1 hX HN1 HE1 HBB1 HB1 HB2 HSC HBD2
      go_wp2_with fail
      go_region_with (first
        | (go_at_call 36; refine (refDecode12_any s _ HD.out).mono ?_; rintro e w3 ⟨rfl, hb3⟩; rw [← HX.out]; have HB3 := hide (show Below w2.heap.size w2 w3 by first | exact hb3 | exact (Below.refl _ w2).drew.trans hb3 | exact (Below.refl _ w2).drew.drew.trans hb3); have htx3 := (HK.out _ HB3.out).1; clear hb3)
        | (go_at_call 25; refine (HK.out _ (by first | exact HB3.out | exact HB3.out.drew | exact HB3.out.drew.drew)).2.1.mono ?_; rintro e w4 ⟨rfl, q, hq⟩; have hb4 := below_of13 ⟨q, hq⟩; have HB4 := hide (show Below w2.heap.size w2 w4 by first | exact bl_next HB3.out hb4 | exact bl_next HB3.out.drew hb4 | exact bl_next HB3.out.drew.drew hb4); clear hq hb4)
        | (go_at_call 22; refine (live14_any _ (HK.out _ (by first | exact HB4.out | exact HB4.out.drew | exact HB4.out.drew.drew)).2.2.1).mono ?_; rintro e w5 ⟨rfl, hb5⟩; have HB5 := hide (show Below wr.heap.size wr w5 by first | exact bl_next (HK.out _ HB4.out).2.2.2 hb5 | exact bl_next (HK.out _ HB4.out.drew).2.2.2 hb5 | exact bl_next (HK.out _ HB4.out.drew.drew).2.2.2 hb5); clear hb5))
      all_goals
        try go_wp2_with fail
        go_ret
        exact ⟨rfl, HB5.out⟩
end Go.Proofs.YtgokefodmjhhiaaGreatDoor
