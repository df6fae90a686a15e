/- WALK of muslinlaw08's live; sizes of what is written. No statement is proved here. -/
import Derived.Test.YtcmmbceacjechaaGreatDoorAddrH
import Derived.Test.YtcmmbceacjechaaGreatDoorRef08A
namespace Go.Proofs.YtcmmbceacjechaaGreatDoor
open Go.RowKit
set_option linter.unusedVariables false
set_option linter.unusedSimpArgs false
set_option maxRecDepth 100000
/-- the world's listed tables, and a number of the library's own -/
def Env (w : World) : Prop := Tab w ∧ ∃ m : Int, w.cell? ⟨0, 0, none⟩ = some (.int .i64 m)
theorem cell_lt {w : World} {b : Nat} {v : Value} (h : w.cell? ⟨b, 0, none⟩ = some v) : b < w.heap.size := by
  rcases Nat.lt_or_ge b w.heap.size with h1 | h1
  · exact h1
  · unfold World.cell? at h
    simp [Array.getElem?_eq_none h1] at h
theorem Env.kept {w w' : World} (h : Env w) (hb : Below w.heap.size w w') : Env w' := by
  obtain ⟨hT, m, hm⟩ := h
  exact ⟨hT.below hb hT.lt, m, (hb.cell (p := ⟨0, 0, none⟩) (cell_lt hm)).trans hm⟩
/-! ### sizes -/
theorem group_big (l : List UInt8) : ∀ room, allWhole l = true → groupN room l = l.length ∨ room ≤ groupN room l + 3 := by
  refine list_ind (p := fun l => ∀ room, allWhole l = true → groupN room l = l.length ∨ room ≤ groupN room l + 3) ?_ l
  intro l ih room h
  by_cases hl : l = []
  · subst hl; exact .inl (group_stop (.inl rfl))
  · have hz := allWhole_ne h hl
    have hw := wholeN_le l
    by_cases hr : wholeN l ≤ room
    · rw [group_go hz hr]
      rcases ih (l.drop (wholeN l)) (by rw [List.length_drop]; have := List.length_pos_iff.2 hl; omega) (room - wholeN l) (allWhole_step h) with h1 | h1
      · left; rw [h1, List.length_drop]; omega
      · right; omega
    · rw [group_stop (.inr (by omega))]; right; omega
theorem joinW_short (l : List UInt8) : allWhole l = true → (joinW (groups l)).length ≤ 53 + 2 * l.length := by
  refine list_ind (p := fun l => allWhole l = true → (joinW (groups l)).length ≤ 53 + 2 * l.length) ?_ l
  intro l ih h
  by_cases hz : groupN 30 l = 0
  · rw [groups_end hz]; simp [joinW]
  · have hle := group_le 30 l
    have hwl := group_whole 30 l h
    have hl : (wordL (l.take (groupN 30 l))).length ≤ 52 := by
      have : (l.take (groupN 30 l)).length ≤ 30 := by rw [List.length_take]; omega
      rw [wordL_length, encB_len]; omega
    have hi := ih (l.drop (groupN 30 l)) (by rw [List.length_drop]; omega) hwl.1
    rw [List.length_drop] at hi
    rw [groups_go hz]
    rcases group_big l 30 h with h1 | h1
    · have e : l.drop (groupN 30 l) = [] := List.drop_eq_nil_of_le (by omega)
      rw [e, groups_nil]
      show (wordL _).length ≤ _
      omega
    · cases hg : groups (l.drop (groupN 30 l)) with
      | nil => show (wordL _).length ≤ _; omega
      | cons q r =>
        rw [hg] at hi
        show (wordL _ ++ 32 :: joinW (q :: r)).length ≤ _
        rw [List.length_append, List.length_cons]
        omega
theorem encodeL_short (l : List UInt8) : (encodeL l).length ≤ 53 + 6 * l.length := by
  unfold encodeL
  split
  · omega
  · have h1 := joinW_short (validL l) (allWhole_valid l)
    have h2 := validL_length l
    omega
theorem wBox_length (b : BoxL) (n : Nat) (h1 : b.1.length ≤ n) (h2 : b.2.length ≤ n) : (wBox b).length ≤ 13 * n + 115 := by
  unfold wBox writeBoxL
  have h3 := encodeL_short b.1
  have h4 := quoteL_length (encodeL b.1)
  split
  · omega
  · rw [List.length_append, List.length_append, List.length_append]
    simp only [List.length_cons, List.length_nil]
    split <;> omega
theorem joinTail_len (L : List (List UInt8)) (n : Nat) (h : ∀ t ∈ L, t.length ≤ n) : (Lib.joinTail [44, 32] L).length ≤ L.length * (n + 2) := by
  induction L with
  | nil => exact Nat.zero_le _
  | cons a r ih =>
    have h1 := ih (fun t ht => h t (List.mem_cons_of_mem _ ht))
    have h2 := h a (List.mem_cons_self ..)
    show (([44, 32] ++ a) ++ Lib.joinTail [44, 32] r).length ≤ _
    have h3 : (a :: r).length * (n + 2) = r.length * (n + 2) + (n + 2) := Nat.succ_mul ..
    rw [List.length_append, List.length_append, h3]
    simp only [List.length_cons, List.length_nil]
    omega
theorem join_len (L : List (List UInt8)) (n : Nat) (h : ∀ t ∈ L, t.length ≤ n) : (Lib.join L [44, 32]).length ≤ L.length * (n + 2) := by
  cases L with
  | nil => exact Nat.zero_le _
  | cons a r =>
    have h1 := joinTail_len r n (fun t ht => h t (List.mem_cons_of_mem _ ht))
    have h2 := h a (List.mem_cons_self ..)
    have h3 : (a :: r).length * (n + 2) = r.length * (n + 2) + (n + 2) := Nat.succ_mul ..
    rw [Lib.join_cons, List.length_append, h3]
    omega
theorem few_sizes {l : List BoxL} (h : fewX l = true) : (∀ b ∈ l, b.1.length ≤ 100000 ∧ (encodeL b.1).length ≤ 100000000 ∧ b.2.length ≤ 1048576) ∧ l.length ≤ 1048576 ∧ (Lib.join (l.map wBox) [44, 32]).length ≤ 200000 := by
  obtain ⟨h1, h2⟩ := few_fitsX h
  refine ⟨fun b hb => ?_, by omega, ?_⟩
  · have := h2 b hb
    have h3 := encodeL_short b.1
    omega
  · have h3 := join_len (l.map wBox) 4015 (fun t ht => by
      obtain ⟨b, hb, rfl⟩ := List.mem_map.1 ht
      have := h2 b hb
      exact wBox_length b 300 this.1 this.2)
    rw [List.length_map] at h3
    have h4 : l.length * (4015 + 2) ≤ 40 * (4015 + 2) := Nat.mul_le_mul_right _ h1
    omega
theorem BBuf.in {B : Nat} {v : Value} {l : List BoxL} {W0 w : World} (h : BBuf B v l W0 w) : BoxesIn w v l := by
  have h1 := h.1
  rcases h.1.2 with ⟨rfl, h0⟩ | ⟨g, cap, cur, rfl, hg, hh, hc, hm, _⟩
  · exact .inl ⟨rfl, List.eq_nil_of_length_eq_zero h0⟩
  · refine .inr ⟨⟨g, 0, none⟩, cap, rfl, hc, hm, fun j hj => ?_⟩
    obtain ⟨a1, a2⟩ := boxVals_at (l := l) (j := j) (List.getElem?_eq_getElem hj)
    exact ⟨h1.cells (g := g) rfl _ _ a1, h1.cells (g := g) rfl _ _ a2⟩
/-! ### live -/
/-- a []api.Box, just made -/
theorem boxes_new (w : World) (l : List BoxL) (n : Nat) (cs : Array Value) (hn : l.length = n) (h0 : n ≠ 0) (hm : n ≤ maxLen) (h : cs.toList = boxVals l) :
    BoxesIn (w.alloc (.cells cs 79)) (.slice (some ⟨w.heap.size, 0, none⟩) n n) l := by
  subst hn
  refine .inr ⟨⟨w.heap.size, 0, none⟩, _, rfl, Nat.le_refl _, hm, fun j hj => ?_⟩
  obtain ⟨e1, e2⟩ := boxVals_at (l := l) (j := j) (List.getElem?_eq_getElem hj)
  rw [← h, Array.getElem?_toList] at e1 e2
  rw [Addr.add_lit, Addr.add_lit, World.cell?_alloc_at _ _ _ _ rfl, World.cell?_alloc_at _ _ _ _ rfl]
  exact ⟨by simpa using e1, by simpa using e2⟩
theorem live8a : parseF [34, 65, 44, 32, 92, 34, 66, 34, 32, 60, 97, 64, 98, 62, 44, 32, 99, 64, 100, 32, 40, 67, 32, 40, 120, 41, 41, 44, 32, 61, 63, 97, 115, 99, 105, 105, 63, 81, 63, 68, 63, 61, 32, 60, 98, 97, 100, 62, 59, 32, 101, 64, 102, 44, 44] = [([65, 44, 32, 34, 66], [97, 64, 98]), ([67, 32, 40, 120, 41], [99, 64, 100]), ([68], []), ([], [101, 64, 102])] := by decide +kernel
theorem live8b : writeAll [([65, 32, 34], [97, 64, 98]), ([], [99, 64, 100]), ([195, 169], [101, 64, 102])] = ([34, 65, 32, 92, 34, 34, 32, 60, 97, 64, 98, 62, 44, 32, 99, 64, 100, 44, 32, 61, 63, 117, 116, 102, 45, 56, 63, 66, 63, 119, 54, 107, 61, 63, 61, 32, 60, 101, 64, 102, 62], 0) := by decide +kernel
theorem live8c : writeAll [([], [120])] = ([], 1) := by decide +kernel
theorem live8d : goodL [97, 64, 98] = true := by decide +kernel
theorem live8e : goodL [97, 64] = false := by decide +kernel
set_option maxHeartbeats 4000000 in
theorem live8_any (w : World) (hE : Env w) : Calls Tryz.prog 27 #[] w fun e w' => e = .returned (.bool true) ∧ Below w.heap.size w w' := by
  have HE := hide hE
  clear hE
  have H1 : Hid (parseL ⟨#[34, 65, 44, 32, 92, 34, 66, 34, 32, 60, 97, 64, 98, 62, 44, 32, 99, 64, 100, 32, 40, 67, 32, 40, 120, 41, 41, 44, 32, 61, 63, 97, 115, 99, 105, 105, 63, 81, 63, 68, 63, 61, 32, 60, 98, 97, 100, 62, 59, 32, 101, 64, 102, 44, 44]⟩ = [([65, 44, 32, 34, 66], [97, 64, 98]), ([67, 32, 40, 120, 41], [99, 64, 100]), ([68], []), ([], [101, 64, 102])]) := hide (by rw [parseL_F]; exact live8a)
  have H2 : Hid (Value.tuple #[.string (str (writeAll [([65, 32, 34], [97, 64, 98]), ([], [99, 64, 100]), ([195, 169], [101, 64, 102])]).1), .int .i64 (writeAll [([65, 32, 34], [97, 64, 98]), ([], [99, 64, 100]), ([195, 169], [101, 64, 102])]).2] = .tuple #[.string ⟨#[34, 65, 32, 92, 34, 34, 32, 60, 97, 64, 98, 62, 44, 32, 99, 64, 100, 44, 32, 61, 63, 117, 116, 102, 45, 56, 63, 66, 63, 119, 54, 107, 61, 63, 61, 32, 60, 101, 64, 102, 62]⟩, .int .i64 0]) := hide (by rw [live8b]; rfl)
  have H3 : Hid (Value.tuple #[.string (str (writeAll [([], [120])]).1), .int .i64 (writeAll [([], [120])]).2] = .tuple #[.string ⟨#[]⟩, .int .i64 1]) := hide (by rw [live8c]; rfl)
  have H4 : Hid (goodL (⟨#[97, 64, 98]⟩ : ByteArray).data.toList = true) := hide live8d
  have H5 : Hid (goodL (⟨#[97, 64]⟩ : ByteArray).data.toList = false) := hide live8e
  go_enter Tryz.func27, Tryz.ntmps27
  go_wp2_with fail
  refine (addrParse_any _ _ (by decide) HE.out.1).mono ?_
  rintro e w1 ⟨v1, rfl, hf1⟩
  rw [H1.out] at hf1
  obtain ⟨A1, c1, rfl⟩ := hf1.slice_len
  have K1 := hide hf1.below
  have F1 := hide hf1.in
  clear hf1
  go_wp2_with fail
  refine (addrWrite_any _ [([65, 32, 34], [97, 64, 98]), ([], [99, 64, 100]), ([195, 169], [101, 64, 102])] _ _ (boxes_new w1 _ 3 _ rfl (by decide) (by decide) rfl) (by decide +kernel) (by decide) (by decide +kernel) (HE.out.kept (K1.out.alloc K1.out.size _)).2.choose_spec).mono ?_
  rintro e w2 ⟨rfl, hb2⟩
  rw [H2.out]
  have K2 := hide ((K1.out.alloc K1.out.size _).trans (hb2.mono (K1.out.alloc K1.out.size _).size))
  have F2 := hide (F1.out.kept (((Below.refl w1.heap.size w1).alloc (Nat.le_refl _) _).trans (hb2.mono ((Below.refl w1.heap.size w1).alloc (Nat.le_refl _) _).size)))
  clear hb2
  go_wp2_with fail
  refine (addrWrite_any _ [([], [120])] _ _ (boxes_new w2 _ 1 _ rfl (by decide) (by decide) rfl) (by decide +kernel) (by decide) (by decide +kernel) (HE.out.kept (K2.out.alloc K2.out.size _)).2.choose_spec).mono ?_
  rintro e w3 ⟨rfl, hb3⟩
  rw [H3.out]
  have K3 := hide ((K2.out.alloc K2.out.size _).trans (hb3.mono (K2.out.alloc K2.out.size _).size))
  have F3 := hide (F2.out.kept (((Below.refl w2.heap.size w2).alloc (Nat.le_refl _) _).trans (hb3.mono ((Below.refl w2.heap.size w2).alloc (Nat.le_refl _) _).size)))
  clear hb3
  go_wp2_with fail
  refine (same08_any _ _ [([65, 44, 32, 34, 66], [97, 64, 98]), ([67, 32, 40, 120, 41], [99, 64, 100]), ([68], []), ([], [101, 64, 102])] [([65, 44, 32, 34, 66], [97, 64, 98]), ([67, 32, 40, 120, 41], [99, 64, 100]), ([68], []), ([], [101, 64, 102])] _ (F3.out.kept ((Below.refl _ _).alloc (Nat.le_refl _) _)) (boxes_new w3 _ 4 _ rfl (by decide) (by decide) rfl) (by decide)).mono ?_
  rintro e w4 ⟨rfl, hb4⟩
  rw [show decide (([([65, 44, 32, 34, 66], [97, 64, 98]), ([67, 32, 40, 120, 41], [99, 64, 100]), ([68], []), ([], [101, 64, 102])] : List BoxL) = [([65, 44, 32, 34, 66], [97, 64, 98]), ([67, 32, 40, 120, 41], [99, 64, 100]), ([68], []), ([], [101, 64, 102])]) = true from decide_eq_true rfl]
  have K4 := hide ((K3.out.alloc K3.out.size _).trans (hb4.mono (K3.out.alloc K3.out.size _).size))
  clear hb4
  go_wp2_with fail
  refine (good_any _ _ (by decide)).mono ?_
  rintro e w5 ⟨rfl, hb5⟩
  rw [H4.out]
  have K5 := hide (K4.out.trans (hb5.mono K4.out.size))
  clear hb5
  go_wp2_with fail
  refine (good_any _ _ (by decide)).mono ?_
  rintro e w6 ⟨rfl, hb6⟩
  rw [H5.out]
  have K6 := hide (K5.out.trans (hb6.mono K5.out.size))
  clear hb6
  go_wp2_with fail
  go_ret
  exact ⟨rfl, K6.out⟩
end Go.Proofs.YtcmmbceacjechaaGreatDoor
