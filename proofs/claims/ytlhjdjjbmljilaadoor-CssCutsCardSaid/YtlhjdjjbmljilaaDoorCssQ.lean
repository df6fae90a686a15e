/- WALK of css.pieces. No statement is proved here. Own work of the verifier. -/
import Derived.Test.YtlhjdjjbmljilaaDoorCssO
namespace Go.Proofs.YtlhjdjjbmljilaaDoor
open Go.RowKit
set_option linter.unusedVariables false
set_option linter.unusedSimpArgs false
set_option maxRecDepth 100000

/-- the signs that are open, of a state -/
def stk (s : CSt) : List UInt8 := List.replicate s.1 40 ++ ((if s.2.1 = 0 then [] else [s.2.1]) ++ (if s.2.2 = true then [92] else []))
def okS (s : CSt) : Prop := (s.2.1 = 0 ∨ s.2.1 = 34 ∨ s.2.1 = 39) ∧ (s.2.2 = true → s.2.1 ≠ 0)
theorem okS_0 : okS st0 := ⟨.inl rfl, fun h => by cases h⟩
theorem stk_0 : stk st0 = [] := rfl
theorem lastO_rep (d : Nat) : lastO (List.replicate d 40) = if d = 0 then 0 else 40 := by
  cases d with
  | zero => rfl
  | succ n => rw [List.replicate_succ', lastO_snoc]; rfl
theorem drop_rep (d : Nat) : (List.replicate d (40 : UInt8)).dropLast = List.replicate (d - 1) 40 := by
  cases d with
  | zero => rfl
  | succ n => rw [List.replicate_succ', List.dropLast_concat]; rfl
theorem rep_empty (d : Nat) : (List.replicate d (40 : UInt8)).isEmpty = decide (d = 0) := by cases d <;> rfl
theorem read_stk (s : CSt) (c : UInt8) (h : okS s) : readO (stk s) c = (stk (cstep s c).1, (cstep s c).2) ∧ okS (cstep s c).1 := by
  obtain ⟨d, q, x⟩ := s
  obtain ⟨h1, h2⟩ := h
  simp only at h1 h2
  cases x with
  | true =>
    have hq := h2 rfl
    have e : stk (d, q, true) = (List.replicate d 40 ++ [q]) ++ [92] := by simp [stk, hq]
    have e2 : cstep (d, q, true) c = ((d, q, false), false) := rfl
    rw [e, e2]
    refine ⟨?_, h1, fun h => by cases h⟩
    unfold readO
    rw [lastO_snoc, if_pos rfl, List.dropLast_concat]
    simp [stk, hq]
  | false =>
    by_cases hq : q = 0
    · subst hq
      have e : stk (d, 0, false) = List.replicate d 40 := by simp [stk]
      rw [e]
      have hl := lastO_rep d
      have hro : readO (List.replicate d 40) c = roL (List.replicate d 40) c := by
        unfold readO
        rw [hl]
        split
        · rfl
        · rfl
      rw [hro]
      unfold roL cstep
      simp only [Bool.false_eq_true, if_false, ne_eq, not_true_eq_false]
      by_cases c1 : c = 34 ∨ c = 39
      · rw [if_pos c1, if_pos (c1.elim (fun a => .inl a) (fun a => .inr (.inl a)))]
        refine ⟨?_, .inr c1, fun h => by cases h⟩
        have : c ≠ 0 := by rcases c1 with a | a <;> rw [a] <;> decide
        simp [stk, this]
      · rw [if_neg c1]
        by_cases c2 : c = 40
        · rw [if_pos c2, if_pos (.inr (.inr c2))]
          refine ⟨?_, .inl rfl, fun h => by cases h⟩
          subst c2
          simp only [stk, if_true, List.append_nil, Bool.false_eq_true, if_false]
          rw [List.replicate_succ']
        · rw [if_neg c2, if_neg (fun h => h.elim (fun a => c1 (.inl a)) (fun h => h.elim (fun a => c1 (.inr a)) c2))]
          by_cases c3 : c = 41
          · rw [if_pos c3, if_pos c3]
            refine ⟨?_, .inl rfl, fun h => by cases h⟩
            rw [drop_rep]; simp [stk]
          · rw [if_neg c3, if_neg c3]
            refine ⟨?_, .inl rfl, fun h => by cases h⟩
            by_cases c4 : c = 59
            · rw [if_pos c4, rep_empty]
              simp [stk, c4]
            · rw [if_neg c4]
              simp [stk, c4]
    · have e : stk (d, q, false) = List.replicate d 40 ++ [q] := by simp [stk, hq]
      have hq2 : q = 34 ∨ q = 39 := h1.resolve_left hq
      rw [e]
      unfold readO
      rw [lastO_snoc, if_neg (by rcases hq2 with a | a <;> rw [a] <;> decide), if_pos hq2]
      unfold cstep
      simp only [Bool.false_eq_true, if_false, ne_eq, hq, not_false_eq_true, if_true]
      by_cases c1 : c = q
      · rw [if_pos c1, if_pos c1, List.dropLast_concat]
        exact ⟨by simp [stk], .inl rfl, fun h => by cases h⟩
      · rw [if_neg c1, if_neg c1]
        by_cases c2 : c = 92
        · rw [if_pos c2, if_pos c2]
          refine ⟨?_, .inr hq2, fun _ => hq⟩
          subst c2
          simp [stk, hq]
        · rw [if_neg c2, if_neg c2]
          exact ⟨by simp [stk, hq], .inr hq2, fun h => by cases h⟩
theorem readO_len (st : List UInt8) (c : UInt8) : (readO st c).1.length ≤ st.length + 1 := by
  have hd : st.dropLast.length ≤ st.length + 1 := by rw [List.length_dropLast]; omega
  unfold readO roL
  repeat' split
  all_goals first | exact hd | (simp; done) | (simp; omega) | omega
def pcsAt (s : ByteArray) (ff k : Nat) : List UInt8 := (s.data.toList.take k).drop ff
theorem pcsAt_same (s : ByteArray) (k : Nat) : pcsAt s k k = [] := List.drop_eq_nil_of_le (List.length_take_le _ _)
theorem pcsAt_snoc (s : ByteArray) (ff k : Nat) (h : ff ≤ k) (hk : k < s.size) : pcsAt s ff (k + 1) = pcsAt s ff k ++ [s[k]] := by
  unfold pcsAt
  rw [take_snoc s k hk, List.drop_append_of_le_length (by rw [List.length_take, toList_length]; omega)]
theorem pcsAt_str (s : ByteArray) (ff k : Nat) : s.extract ff k = str (pcsAt s ff k) := ext_list (by rw [extract_list, str_toList]; rfl)
set_option maxHeartbeats 2000000 in
theorem pieces_any (s : ByteArray) (w : World) (hs : s.size ≤ 1048575) :
    Calls Tryd.prog 34 #[.string s] w fun e w' => ∃ v, e = .returned v ∧ SBuf w.heap.size v ((pcs st0 [] s.data.toList).map str) w w' := by
  have HS0 : Hid (SBuf w.heap.size (.slice none 0 0) [] w (w.alloc (.cells #[.slice none 0 0] 76))) := hide (SBuf.nil ((Below.refl _ w).alloc (Nat.le_refl _) _) (by rw [World.size_alloc]; omega))
  have HO0 : Hid (OAt w.heap.size w.heap.size (stk st0) w (w.alloc (.cells #[.slice none 0 0] 76))) := hide ⟨_, Box.new w _ _, Buf.nil ((Below.refl _ w).alloc (Nat.le_refl _) _) (by rw [World.size_alloc]; omega), Nat.le_refl _⟩
  go_enter Tryd.func34, Tryd.ntmps34
  go_wp2_with fail
  go_loopw [3, 5, 9] (fun v f i wr => ∃ (k ff : Nat) (acc : List (List UInt8)) (st : CSt), k ≤ s.size ∧ ff ≤ k ∧ i = .int .i64 k ∧ f = .int .i64 ff ∧ acc.length ≤ k ∧
      Hid (SBuf w.heap.size v (acc.map str) w wr) ∧ Hid (OAt w.heap.size w.heap.size (stk st) w wr) ∧ Hid (okS st) ∧ Hid ((stk st).length ≤ k) ∧ Hid (acc ++ pcs st (pcsAt s ff k) (s.data.toList.drop k) = pcs st0 [] s.data.toList)) (fun _ _ i _ => s.size - (intOf i).toNat)
  case atStart => exact ⟨0, 0, [], st0, Nat.zero_le _, Nat.le_refl _, rfl, rfl, Nat.le_refl _, HS0, HO0, hide okS_0, hide (Nat.zero_le _), hide (by rw [pcsAt_same]; rfl)⟩
  case round =>
    obtain ⟨k, ff, acc, st, hk, hff, rfl, rfl, hacc, HS, HO, HK, HL, HP⟩ := hrel
    by_cases hlt : k < s.size
    · have hdc := drop_cons s k hlt
      obtain ⟨hrd, hok⟩ := read_stk st s[k] HK.out
      have hln := readO_len (stk st) s[k]
      rw [hrd] at hln
      obtain ⟨st', hst'⟩ : ∃ x, (cstep st s[k]).1 = x := ⟨_, rfl⟩
      have hP := HP.out
      rw [hdc] at hP
      have HRD : Hid (readO (stk st) s[k] = (stk st', (cstep st s[k]).2)) := hide (by rw [hrd, hst'])
      have HOK : Hid (okS st') := hide (by rw [← hst']; exact hok)
      have HLN : Hid ((stk st').length ≤ k + 1) := hide (by have := HL.out; rw [← hst']; simp only at hln; omega)
      have HSL : Hid ((stk st).length ≤ 1048576) := hide (by have := HL.out; omega)
      cases he : (cstep st s[k]).2 with
      | true =>
        rw [pcs_end he, hst'] at hP
        obtain ⟨X, hX⟩ : ∃ X, s.extract ff k = X := ⟨_, rfl⟩
        have HX : Hid (X = str (pcsAt s ff k)) := hide (by rw [← hX, pcsAt_str])
        have HP2 : Hid ((acc ++ [pcsAt s ff k]) ++ pcs st' (pcsAt s (k + 1) (k + 1)) (s.data.toList.drop (k + 1)) = pcs st0 [] s.data.toList) := hide (by rw [← hP, pcsAt_same]; simp)
        rw [he] at HRD
        clear hdc hrd hok hln hst' hP he
        go_wp2_with fail
        refine (oRead_any w.heap.size w.heap.size (stk st) s[k] w _ HO.out HSL.out).mono ?_
        rintro e w1 ⟨rfl, ho1, hr1⟩
        rw [HRD.out] at ho1
        rw [HRD.out]
        have HO1 := hide ho1
        have HS1 := hide (HS.out.rows hr1 ho1.below ho1.size)
        clear ho1 hr1
        go_wp2_with (refine wpList_strs_o rfl _ _ rfl w.heap.size u3 (acc.map str) rfl w w1 X HS1.out rfl (by rw [List.length_map]; omega) ?_; intro v2 w2 hb2 ho2 hz2; have HS2 := hide hb2; have HO2 := hide (HO1.out.others ho2 hb2.below hb2.2.2); clear hb2 ho2 hz2)
        go_roundw
        case rel => exact ⟨k + 1, k + 1, acc ++ [pcsAt s ff k], st', by omega, Nat.le_refl _, by go_num, by go_num, by simp; omega, by rw [HX.out] at HS2; simpa using HS2, HO2, HOK, HLN, HP2⟩
        case measure => simp [intOf]; omega
      | false =>
        rw [pcs_go he, hst', ← pcsAt_snoc s ff k hff hlt] at hP
        have HP2 := hide hP
        rw [he] at HRD
        clear hdc hrd hok hln hst' hP he
        go_wp2_with fail
        refine (oRead_any w.heap.size w.heap.size (stk st) s[k] w _ HO.out HSL.out).mono ?_
        rintro e w1 ⟨rfl, ho1, hr1⟩
        rw [HRD.out] at ho1
        rw [HRD.out]
        have HO1 := hide ho1
        have HS1 := hide (HS.out.rows hr1 ho1.below ho1.size)
        clear ho1 hr1
        go_wp2_with fail
        go_roundw
        case rel => exact ⟨k + 1, ff, acc, st', by omega, by omega, by go_num, rfl, by omega, HS1, HO1, HOK, HLN, HP2⟩
        case measure => simp [intOf]; omega
    · obtain rfl : k = s.size := by omega
      obtain ⟨X, hX⟩ : ∃ X, s.extract ff s.size = X := ⟨_, rfl⟩
      have HX : Hid (X = str (pcsAt s ff s.size)) := hide (by rw [← hX, pcsAt_str])
      have hP := HP.out
      rw [drop_nil s s.size (Nat.le_refl _), pcs] at hP
      have HP2 := hide hP
      clear hP
      go_wp2_with (refine wpList_strs_o rfl _ _ rfl w.heap.size u3 (acc.map str) rfl w wr X HS.out rfl (by rw [List.length_map]; omega) ?_; intro v2 w2 hb2 ho2 hz2; have HS2 := hide hb2; clear hb2 ho2 hz2)
      go_ret
      refine ⟨_, rfl, ?_⟩
      have h2 := HS2.out
      rw [HX.out] at h2
      rw [← HP2.out]
      simpa using h2
end Go.Proofs.YtlhjdjjbmljilaaDoor
