import Derived.Test.YtiejmkjpgjbodaaGreatDoorRef13V
namespace Go.Proofs.YtiejmkjpgjbodaaGreatDoor
open Go.RowKit
set_option linter.unusedVariables false
set_option linter.unusedSimpArgs false
set_option maxRecDepth 100000
theorem remAt_le {l : List UInt8} {f : Nat} {t : List UInt8} (ht : t ≠ []) (hf : f ≤ l.length) : (remAt l f t).2 ≤ l.length := by
  unfold remAt
  cases h : findAt t (l.drop f) with
  | none => exact Nat.le_refl _
  | some k =>
    have := findAt_le ht h
    rw [List.length_drop] at this
    simp only; omega
theorem pre_33 {t q : List UInt8} : ((60 : UInt8) :: 33 :: t).isPrefixOf (60 :: 33 :: q) = t.isPrefixOf q := by simp [List.isPrefixOf]
theorem pre_ext {u v q : List UInt8} (h : u.isPrefixOf q = false) : (u ++ v).isPrefixOf q = false := by
  cases hp : (u ++ v).isPrefixOf q with
  | false => rfl
  | true =>
    have h1 : u <+: q := List.IsPrefix.trans (List.prefix_append u v) (List.isPrefixOf_iff_prefix.1 hp)
    rw [List.isPrefixOf_iff_prefix.2 h1] at h; cases h
theorem mark_comment {B b : Nat} {s : ByteArray} {vs : List TokV} {f : Nat} {t : List UInt8} {m : MarkR} {W0 w' : World} {e : Ending} (hm : m = (some (remT (cutAt t (s.data.toList.drop f)).1), [], (cutAt t (s.data.toList.drop f)).2)) (ht : t ≠ []) (hf : f ≤ s.size)
    (he : e = .returned (.int .i64 ((remAt s.data.toList f t).2 : Nat))) (hp : ScP B b s (vs.map Prod.fst ++ [remT (remAt s.data.toList f t).1]) (vs.length + 1) W0 w') : MarkS B b s (vs.map Prod.fst) m (vs.length + 1) W0 e w' := by
  obtain ⟨c1, c2⟩ := remAt_cut (l := s.data.toList) (f := f) (t := t)
  rw [hm]
  refine ⟨(remAt s.data.toList f t).2, he, ?_, c2.symm, ?_⟩
  · have := remAt_le (l := s.data.toList) ht (by rw [toList_length]; exact hf)
    rw [toList_length] at this; exact this
  · rw [flush_nil, c1]; exact hp
set_option maxHeartbeats 8000000 in
theorem markup_a1 (B b : Nat) (s : ByteArray) (o : Value) (vs : List TokV) (a : Nat) (q : List UInt8) (W0 w : World) (h : Sc B b s o vs W0 w) (hn : vs.length ≤ 16777216) (hs : s.size ≤ 16777216) (hd : s.data.toList.drop a = 60 :: 47 :: 62 :: q) :
    Calls Tryz.prog 90 #[.pointer (some ⟨b, 0, none⟩), .int .i64 a] w fun e w' => MarkS B b s (vs.map Prod.fst) (markL decE (47 :: 62 :: q)) (vs.length + 1) W0 e w' := by
  have hla := toList_length s
  have hlen := congrArg List.length hd
  rw [List.length_drop, hla] at hlen
  simp only [List.length_cons] at hlen
  have HA0 := hide (fun w2 h2 => hasAt_any s ⟨#[60, 47, 62]⟩ b a w2 (by omega) (by omega) (by decide) (by decide) h2)
  rw [show (⟨#[60, 47, 62]⟩ : ByteArray).data.toList = [60, 47, 62] from rfl, hd, show ([60, 47, 62] : List UInt8).isPrefixOf (60 :: 47 :: 62 :: q) = true from (by simp [List.isPrefixOf])] at HA0
  have hdo : s.data.toList.drop (a + 3) = q := by rw [← List.drop_drop, hd]; rfl
  have HDO := hide hdo
  have HF := hide (show a + 3 ≤ s.size by omega)
  have HI := hide (show wrap64 ((a : Int) + 3) = ((a + 3 : Nat) : Int) by unfold wrap64; omega)
  have hm : markL decE (47 :: 62 :: q) = (none, [], q) := rfl
  rw [hm]
  have d0 := h.c0
  obtain ⟨A0, c0, rfl⟩ := h.toks.slice_len
  have d1 := h.c1
  have H := hide h
  have HN := hide hn
  clear hm hd hlen hla h hdo hn
  go_enter Tryz.func90, Tryz.ntmps90
  go_wp2_with fail
  refine (HA0.out _ d0).mono ?_
  rintro e wh ⟨rfl, hwh⟩
  subst hwh
  go_wp2_with fail
  go_ret
  exact ⟨a + 3, ret_int13 HI.out, HF.out, HDO.out, _, vs, H.out, by rw [show (none : Option TokL).toList = [] from rfl, List.append_nil, flush_nil], Nat.le_succ _⟩
set_option maxHeartbeats 8000000 in
theorem markup_a2 (B b : Nat) (s : ByteArray) (o : Value) (vs : List TokV) (a : Nat) (c : UInt8) (q : List UInt8) (W0 w : World) (h : Sc B b s o vs W0 w) (hn : vs.length ≤ 16777216) (hs : s.size ≤ 16777216) (hd : s.data.toList.drop a = 60 :: 47 :: c :: q) (h62 : c ≠ 62) (hl : letterB c = false) :
    Calls Tryz.prog 90 #[.pointer (some ⟨b, 0, none⟩), .int .i64 a] w fun e w' => MarkS B b s (vs.map Prod.fst) (markL decE (47 :: c :: q)) (vs.length + 1) W0 e w' := by
  have hla := toList_length s
  have hlen := congrArg List.length hd
  rw [List.length_drop, hla] at hlen
  simp only [List.length_cons] at hlen
  have HA0 := hide (fun w2 h2 => hasAt_any s ⟨#[60, 47, 62]⟩ b a w2 (by omega) (by omega) (by decide) (by decide) h2)
  rw [show (⟨#[60, 47, 62]⟩ : ByteArray).data.toList = [60, 47, 62] from rfl, hd, show ([60, 47, 62] : List UInt8).isPrefixOf (60 :: 47 :: c :: q) = false from (by simp [List.isPrefixOf, beq_eq_false_iff_ne.2 (fun e : (62 : UInt8) = c => h62 e.symm)])] at HA0
  have HA1 := hide (fun w2 h2 => hasAt_any s ⟨#[60, 47]⟩ b a w2 (by omega) (by omega) (by decide) (by decide) h2)
  rw [show (⟨#[60, 47]⟩ : ByteArray).data.toList = [60, 47] from rfl, hd, show ([60, 47] : List UInt8).isPrefixOf (60 :: 47 :: c :: q) = true from (by simp [List.isPrefixOf, beq_eq_false_iff_ne.2 (fun e : (62 : UInt8) = c => h62 e.symm)])] at HA1
  have hm : markL decE (47 :: c :: q) = (some (remT (cutAt [62] (s.data.toList.drop (a + 2))).1), [], (cutAt [62] (s.data.toList.drop (a + 2))).2) := by
    have hdo : s.data.toList.drop (a + 2) = c :: q := by rw [← List.drop_drop, hd]; rfl
    rw [hdo]
    rw [cut_one13]
    unfold markL
    simp only
    rw [if_neg (by rw [hl]; decide), if_neg h62]
    rfl
  rw [hm]
  have HM := hide (show ([62] : List UInt8) ≠ [] by decide)
  have HC := hide (comment13_any B b s o vs (a + 2) ⟨#[62]⟩ W0 w h hn hs (by omega) (by decide) (by decide))
  rw [show (⟨#[62]⟩ : ByteArray).data.toList = [62] from rfl, show ((a + 2 : Nat) : Int) = (a : Int) + 2 by omega] at HC
  have hw : wrap64 ((a : Int) + 2) = (a : Int) + 2 := by unfold wrap64; omega
  have d0 := h.c0
  have HF := hide (show a + 2 ≤ s.size by omega)
  clear hm hd hlen hla h
  go_enter Tryz.func90, Tryz.ntmps90
  go_wp2_with fail
  refine (HA0.out _ d0).mono ?_
  rintro e wh ⟨rfl, hwh⟩
  subst hwh
  go_wp2_with fail
  refine (HA1.out _ d0).mono ?_
  rintro e wh ⟨rfl, hwh⟩
  subst hwh
  go_wp2_with fail
  refine HC.out.mono ?_
  rintro e w2 ⟨rfl, hp⟩
  have HP := hide hp
  clear hp
  go_wp2_with fail
  go_ret
  exact mark_comment rfl HM.out HF.out rfl HP.out
set_option maxHeartbeats 8000000 in
theorem markup_a3 (B b : Nat) (s : ByteArray) (o : Value) (vs : List TokV) (a : Nat) (q : List UInt8) (W0 w : World) (h : Sc B b s o vs W0 w) (hn : vs.length ≤ 16777216) (hs : s.size ≤ 16777216) (hd : s.data.toList.drop a = 60 :: 33 :: 45 :: 45 :: 62 :: q) :
    Calls Tryz.prog 90 #[.pointer (some ⟨b, 0, none⟩), .int .i64 a] w fun e w' => MarkS B b s (vs.map Prod.fst) (markL decE (33 :: 45 :: 45 :: 62 :: q)) (vs.length + 1) W0 e w' := by
  have hla := toList_length s
  have hlen := congrArg List.length hd
  rw [List.length_drop, hla] at hlen
  simp only [List.length_cons] at hlen
  have HA0 := hide (fun w2 h2 => hasAt_any s ⟨#[60, 47, 62]⟩ b a w2 (by omega) (by omega) (by decide) (by decide) h2)
  rw [show (⟨#[60, 47, 62]⟩ : ByteArray).data.toList = [60, 47, 62] from rfl, hd, show ([60, 47, 62] : List UInt8).isPrefixOf (60 :: 33 :: 45 :: 45 :: 62 :: q) = false from (by simp [List.isPrefixOf])] at HA0
  have HA1 := hide (fun w2 h2 => hasAt_any s ⟨#[60, 47]⟩ b a w2 (by omega) (by omega) (by decide) (by decide) h2)
  rw [show (⟨#[60, 47]⟩ : ByteArray).data.toList = [60, 47] from rfl, hd, show ([60, 47] : List UInt8).isPrefixOf (60 :: 33 :: 45 :: 45 :: 62 :: q) = false from (by simp [List.isPrefixOf])] at HA1
  have HA2 := hide (fun w2 h2 => hasAt_any s ⟨#[60, 33, 45, 45, 62]⟩ b a w2 (by omega) (by omega) (by decide) (by decide) h2)
  rw [show (⟨#[60, 33, 45, 45, 62]⟩ : ByteArray).data.toList = [60, 33, 45, 45, 62] from rfl, hd, show ([60, 33, 45, 45, 62] : List UInt8).isPrefixOf (60 :: 33 :: 45 :: 45 :: 62 :: q) = true from (by simp [List.isPrefixOf])] at HA2
  have hdo : s.data.toList.drop (a + 5) = q := by rw [← List.drop_drop, hd]; rfl
  have HDO := hide hdo
  have HF := hide (show a + 5 ≤ s.size by omega)
  have HI := hide (show wrap64 ((a : Int) + 5) = ((a + 5 : Nat) : Int) by unfold wrap64; omega)
  have hm : markL decE (33 :: 45 :: 45 :: 62 :: q) = (some (remT []), [], q) := rfl
  rw [hm]
  have d0 := h.c0
  obtain ⟨A0, c0, rfl⟩ := h.toks.slice_len
  have d1 := h.c1
  have H := hide h
  have HN := hide hn
  clear hm hd hlen hla h hdo hn
  go_enter Tryz.func90, Tryz.ntmps90
  go_wp2_with fail
  refine (HA0.out _ d0).mono ?_
  rintro e wh ⟨rfl, hwh⟩
  subst hwh
  go_wp2_with fail
  refine (HA1.out _ d0).mono ?_
  rintro e wh ⟨rfl, hwh⟩
  subst hwh
  go_wp2_with fail
  refine (HA2.out _ d0).mono ?_
  rintro e wh ⟨rfl, hwh⟩
  subst hwh
  go_wp2_with (at_builtin; go_must (refine wpList_toks rfl _ _ rfl B _ vs rfl (remT []) (.slice none 0 0) (H.out.toks.alloc _) (World.ownsRow_nil _ B _ 2) (by rw [World.size_alloc]; exact Nat.le_succ_of_le H.out.size) ⟨w.heap.size, 0, none⟩ rfl (tok_row _ _ _ _ _).1 (tok_row _ _ _ _ _).2.1 (tok_row _ _ _ _ _).2.2.1 (tok_row _ _ _ _ _).2.2.2 (by have := HN.out; omega) ?_; intro v2 w4 ht2 hg2; obtain ⟨A2, n2, c2, rfl⟩ : ∃ A n c, v2 = .slice A n c := ⟨_, _, _, ht2.slice_len.choose_spec.choose_spec⟩; obtain ⟨x1, x2, x3⟩ := storedS H.out ht2 hg2; have HS := hide x3; clear ht2 hg2 x3))
  go_ret
  exact ⟨a + 5, ret_int13 HI.out, HF.out, HDO.out, _, _, HS.out, by rw [flush_nil, List.map_append]; rfl, by rw [List.length_append]; exact Nat.le_refl _⟩
set_option maxHeartbeats 8000000 in
theorem markup_a4 (B b : Nat) (s : ByteArray) (o : Value) (vs : List TokV) (a : Nat) (q : List UInt8) (W0 w : World) (h : Sc B b s o vs W0 w) (hn : vs.length ≤ 16777216) (hs : s.size ≤ 16777216) (hd : s.data.toList.drop a = 60 :: 33 :: 45 :: 45 :: 45 :: 62 :: q) :
    Calls Tryz.prog 90 #[.pointer (some ⟨b, 0, none⟩), .int .i64 a] w fun e w' => MarkS B b s (vs.map Prod.fst) (markL decE (33 :: 45 :: 45 :: 45 :: 62 :: q)) (vs.length + 1) W0 e w' := by
  have hla := toList_length s
  have hlen := congrArg List.length hd
  rw [List.length_drop, hla] at hlen
  simp only [List.length_cons] at hlen
  have HA0 := hide (fun w2 h2 => hasAt_any s ⟨#[60, 47, 62]⟩ b a w2 (by omega) (by omega) (by decide) (by decide) h2)
  rw [show (⟨#[60, 47, 62]⟩ : ByteArray).data.toList = [60, 47, 62] from rfl, hd, show ([60, 47, 62] : List UInt8).isPrefixOf (60 :: 33 :: 45 :: 45 :: 45 :: 62 :: q) = false from (by simp [List.isPrefixOf])] at HA0
  have HA1 := hide (fun w2 h2 => hasAt_any s ⟨#[60, 47]⟩ b a w2 (by omega) (by omega) (by decide) (by decide) h2)
  rw [show (⟨#[60, 47]⟩ : ByteArray).data.toList = [60, 47] from rfl, hd, show ([60, 47] : List UInt8).isPrefixOf (60 :: 33 :: 45 :: 45 :: 45 :: 62 :: q) = false from (by simp [List.isPrefixOf])] at HA1
  have HA2 := hide (fun w2 h2 => hasAt_any s ⟨#[60, 33, 45, 45, 62]⟩ b a w2 (by omega) (by omega) (by decide) (by decide) h2)
  rw [show (⟨#[60, 33, 45, 45, 62]⟩ : ByteArray).data.toList = [60, 33, 45, 45, 62] from rfl, hd, show ([60, 33, 45, 45, 62] : List UInt8).isPrefixOf (60 :: 33 :: 45 :: 45 :: 45 :: 62 :: q) = false from (by simp [List.isPrefixOf])] at HA2
  have HA3 := hide (fun w2 h2 => hasAt_any s ⟨#[60, 33, 45, 45, 45, 62]⟩ b a w2 (by omega) (by omega) (by decide) (by decide) h2)
  rw [show (⟨#[60, 33, 45, 45, 45, 62]⟩ : ByteArray).data.toList = [60, 33, 45, 45, 45, 62] from rfl, hd, show ([60, 33, 45, 45, 45, 62] : List UInt8).isPrefixOf (60 :: 33 :: 45 :: 45 :: 45 :: 62 :: q) = true from (by simp [List.isPrefixOf])] at HA3
  have hdo : s.data.toList.drop (a + 6) = q := by rw [← List.drop_drop, hd]; rfl
  have HDO := hide hdo
  have HF := hide (show a + 6 ≤ s.size by omega)
  have HI := hide (show wrap64 ((a : Int) + 6) = ((a + 6 : Nat) : Int) by unfold wrap64; omega)
  have hm : markL decE (33 :: 45 :: 45 :: 45 :: 62 :: q) = (some (remT []), [], q) := rfl
  rw [hm]
  have d0 := h.c0
  obtain ⟨A0, c0, rfl⟩ := h.toks.slice_len
  have d1 := h.c1
  have H := hide h
  have HN := hide hn
  clear hm hd hlen hla h hdo hn
  go_enter Tryz.func90, Tryz.ntmps90
  go_wp2_with fail
  refine (HA0.out _ d0).mono ?_
  rintro e wh ⟨rfl, hwh⟩
  subst hwh
  go_wp2_with fail
  refine (HA1.out _ d0).mono ?_
  rintro e wh ⟨rfl, hwh⟩
  subst hwh
  go_wp2_with fail
  refine (HA2.out _ d0).mono ?_
  rintro e wh ⟨rfl, hwh⟩
  subst hwh
  go_wp2_with fail
  refine (HA3.out _ d0).mono ?_
  rintro e wh ⟨rfl, hwh⟩
  subst hwh
  go_wp2_with (at_builtin; go_must (refine wpList_toks rfl _ _ rfl B _ vs rfl (remT []) (.slice none 0 0) (H.out.toks.alloc _) (World.ownsRow_nil _ B _ 2) (by rw [World.size_alloc]; exact Nat.le_succ_of_le H.out.size) ⟨w.heap.size, 0, none⟩ rfl (tok_row _ _ _ _ _).1 (tok_row _ _ _ _ _).2.1 (tok_row _ _ _ _ _).2.2.1 (tok_row _ _ _ _ _).2.2.2 (by have := HN.out; omega) ?_; intro v2 w4 ht2 hg2; obtain ⟨A2, n2, c2, rfl⟩ : ∃ A n c, v2 = .slice A n c := ⟨_, _, _, ht2.slice_len.choose_spec.choose_spec⟩; obtain ⟨x1, x2, x3⟩ := storedS H.out ht2 hg2; have HS := hide x3; clear ht2 hg2 x3))
  go_ret
  exact ⟨a + 6, ret_int13 HI.out, HF.out, HDO.out, _, _, HS.out, by rw [flush_nil, List.map_append]; rfl, by rw [List.length_append]; exact Nat.le_refl _⟩
set_option maxHeartbeats 8000000 in
theorem markup_a5 (B b : Nat) (s : ByteArray) (o : Value) (vs : List TokV) (a : Nat) (q : List UInt8) (W0 w : World) (h : Sc B b s o vs W0 w) (hn : vs.length ≤ 16777216) (hs : s.size ≤ 16777216) (hd : s.data.toList.drop a = 60 :: 33 :: 45 :: 45 :: q) (h1 : ([62] : List UInt8).isPrefixOf q = false) (h2 : ([45, 62] : List UInt8).isPrefixOf q = false) :
    Calls Tryz.prog 90 #[.pointer (some ⟨b, 0, none⟩), .int .i64 a] w fun e w' => MarkS B b s (vs.map Prod.fst) (markL decE (33 :: 45 :: 45 :: q)) (vs.length + 1) W0 e w' := by
  have hla := toList_length s
  have hlen := congrArg List.length hd
  rw [List.length_drop, hla] at hlen
  simp only [List.length_cons] at hlen
  have HA0 := hide (fun w2 h2 => hasAt_any s ⟨#[60, 47, 62]⟩ b a w2 (by omega) (by omega) (by decide) (by decide) h2)
  rw [show (⟨#[60, 47, 62]⟩ : ByteArray).data.toList = [60, 47, 62] from rfl, hd, show ([60, 47, 62] : List UInt8).isPrefixOf (60 :: 33 :: 45 :: 45 :: q) = false from (by first | (simp [List.isPrefixOf]; done) | (simpa [List.isPrefixOf] using h1) | (simpa [List.isPrefixOf] using h2))] at HA0
  have HA1 := hide (fun w2 h2 => hasAt_any s ⟨#[60, 47]⟩ b a w2 (by omega) (by omega) (by decide) (by decide) h2)
  rw [show (⟨#[60, 47]⟩ : ByteArray).data.toList = [60, 47] from rfl, hd, show ([60, 47] : List UInt8).isPrefixOf (60 :: 33 :: 45 :: 45 :: q) = false from (by first | (simp [List.isPrefixOf]; done) | (simpa [List.isPrefixOf] using h1) | (simpa [List.isPrefixOf] using h2))] at HA1
  have HA2 := hide (fun w2 h2 => hasAt_any s ⟨#[60, 33, 45, 45, 62]⟩ b a w2 (by omega) (by omega) (by decide) (by decide) h2)
  rw [show (⟨#[60, 33, 45, 45, 62]⟩ : ByteArray).data.toList = [60, 33, 45, 45, 62] from rfl, hd, show ([60, 33, 45, 45, 62] : List UInt8).isPrefixOf (60 :: 33 :: 45 :: 45 :: q) = false from (by first | (simp [List.isPrefixOf]; done) | (simpa [List.isPrefixOf] using h1) | (simpa [List.isPrefixOf] using h2))] at HA2
  have HA3 := hide (fun w2 h2 => hasAt_any s ⟨#[60, 33, 45, 45, 45, 62]⟩ b a w2 (by omega) (by omega) (by decide) (by decide) h2)
  rw [show (⟨#[60, 33, 45, 45, 45, 62]⟩ : ByteArray).data.toList = [60, 33, 45, 45, 45, 62] from rfl, hd, show ([60, 33, 45, 45, 45, 62] : List UInt8).isPrefixOf (60 :: 33 :: 45 :: 45 :: q) = false from (by first | (simp [List.isPrefixOf]; done) | (simpa [List.isPrefixOf] using h1) | (simpa [List.isPrefixOf] using h2))] at HA3
  have HA4 := hide (fun w2 h2 => hasAt_any s ⟨#[60, 33, 45, 45]⟩ b a w2 (by omega) (by omega) (by decide) (by decide) h2)
  rw [show (⟨#[60, 33, 45, 45]⟩ : ByteArray).data.toList = [60, 33, 45, 45] from rfl, hd, show ([60, 33, 45, 45] : List UInt8).isPrefixOf (60 :: 33 :: 45 :: 45 :: q) = true from (by first | (simp [List.isPrefixOf]; done) | (simpa [List.isPrefixOf] using h1) | (simpa [List.isPrefixOf] using h2))] at HA4
  have hm : markL decE (33 :: 45 :: 45 :: q) = (some (remT (cutAt [45, 45, 62] (s.data.toList.drop (a + 4))).1), [], (cutAt [45, 45, 62] (s.data.toList.drop (a + 4))).2) := by
    have hdo : s.data.toList.drop (a + 4) = q := by rw [← List.drop_drop, hd]; rfl
    rw [hdo]
    unfold markL
    simp only
    unfold longL
    split
    · simp [List.isPrefixOf] at h1
    · simp [List.isPrefixOf] at h2
    · rfl
  rw [hm]
  have HM := hide (show ([45, 45, 62] : List UInt8) ≠ [] by decide)
  have HC := hide (comment13_any B b s o vs (a + 4) ⟨#[45, 45, 62]⟩ W0 w h hn hs (by omega) (by decide) (by decide))
  rw [show (⟨#[45, 45, 62]⟩ : ByteArray).data.toList = [45, 45, 62] from rfl, show ((a + 4 : Nat) : Int) = (a : Int) + 4 by omega] at HC
  have hw : wrap64 ((a : Int) + 4) = (a : Int) + 4 := by unfold wrap64; omega
  have d0 := h.c0
  have HF := hide (show a + 4 ≤ s.size by omega)
  clear hm hd hlen hla h
  go_enter Tryz.func90, Tryz.ntmps90
  go_wp2_with fail
  refine (HA0.out _ d0).mono ?_
  rintro e wh ⟨rfl, hwh⟩
  subst hwh
  go_wp2_with fail
  refine (HA1.out _ d0).mono ?_
  rintro e wh ⟨rfl, hwh⟩
  subst hwh
  go_wp2_with fail
  refine (HA2.out _ d0).mono ?_
  rintro e wh ⟨rfl, hwh⟩
  subst hwh
  go_wp2_with fail
  refine (HA3.out _ d0).mono ?_
  rintro e wh ⟨rfl, hwh⟩
  subst hwh
  go_wp2_with fail
  refine (HA4.out _ d0).mono ?_
  rintro e wh ⟨rfl, hwh⟩
  subst hwh
  go_wp2_with fail
  refine HC.out.mono ?_
  rintro e w2 ⟨rfl, hp⟩
  have HP := hide hp
  clear hp
  go_wp2_with fail
  go_ret
  exact mark_comment rfl HM.out HF.out rfl HP.out
set_option maxHeartbeats 8000000 in
theorem markup_a6 (B b : Nat) (s : ByteArray) (o : Value) (vs : List TokV) (a : Nat) (q : List UInt8) (W0 w : World) (h : Sc B b s o vs W0 w) (hn : vs.length ≤ 16777216) (hs : s.size ≤ 16777216) (hd : s.data.toList.drop a = 60 :: 33 :: q) (h1 : ([45, 45] : List UInt8).isPrefixOf q = false) :
    Calls Tryz.prog 90 #[.pointer (some ⟨b, 0, none⟩), .int .i64 a] w fun e w' => MarkS B b s (vs.map Prod.fst) (markL decE (33 :: q)) (vs.length + 1) W0 e w' := by
  have hla := toList_length s
  have hlen := congrArg List.length hd
  rw [List.length_drop, hla] at hlen
  simp only [List.length_cons] at hlen
  have HA0 := hide (fun w2 h2 => hasAt_any s ⟨#[60, 47, 62]⟩ b a w2 (by omega) (by omega) (by decide) (by decide) h2)
  rw [show (⟨#[60, 47, 62]⟩ : ByteArray).data.toList = [60, 47, 62] from rfl, hd, show ([60, 47, 62] : List UInt8).isPrefixOf (60 :: 33 :: q) = false from (by first | (simp [List.isPrefixOf]; done) | (rw [pre_33]; first | exact h1 | exact pre_ext (u := [45, 45]) (v := [62]) h1 | exact pre_ext (u := [45, 45]) (v := [45, 62]) h1))] at HA0
  have HA1 := hide (fun w2 h2 => hasAt_any s ⟨#[60, 47]⟩ b a w2 (by omega) (by omega) (by decide) (by decide) h2)
  rw [show (⟨#[60, 47]⟩ : ByteArray).data.toList = [60, 47] from rfl, hd, show ([60, 47] : List UInt8).isPrefixOf (60 :: 33 :: q) = false from (by first | (simp [List.isPrefixOf]; done) | (rw [pre_33]; first | exact h1 | exact pre_ext (u := [45, 45]) (v := [62]) h1 | exact pre_ext (u := [45, 45]) (v := [45, 62]) h1))] at HA1
  have HA2 := hide (fun w2 h2 => hasAt_any s ⟨#[60, 33, 45, 45, 62]⟩ b a w2 (by omega) (by omega) (by decide) (by decide) h2)
  rw [show (⟨#[60, 33, 45, 45, 62]⟩ : ByteArray).data.toList = [60, 33, 45, 45, 62] from rfl, hd, show ([60, 33, 45, 45, 62] : List UInt8).isPrefixOf (60 :: 33 :: q) = false from (by first | (simp [List.isPrefixOf]; done) | (rw [pre_33]; first | exact h1 | exact pre_ext (u := [45, 45]) (v := [62]) h1 | exact pre_ext (u := [45, 45]) (v := [45, 62]) h1))] at HA2
  have HA3 := hide (fun w2 h2 => hasAt_any s ⟨#[60, 33, 45, 45, 45, 62]⟩ b a w2 (by omega) (by omega) (by decide) (by decide) h2)
  rw [show (⟨#[60, 33, 45, 45, 45, 62]⟩ : ByteArray).data.toList = [60, 33, 45, 45, 45, 62] from rfl, hd, show ([60, 33, 45, 45, 45, 62] : List UInt8).isPrefixOf (60 :: 33 :: q) = false from (by first | (simp [List.isPrefixOf]; done) | (rw [pre_33]; first | exact h1 | exact pre_ext (u := [45, 45]) (v := [62]) h1 | exact pre_ext (u := [45, 45]) (v := [45, 62]) h1))] at HA3
  have HA4 := hide (fun w2 h2 => hasAt_any s ⟨#[60, 33, 45, 45]⟩ b a w2 (by omega) (by omega) (by decide) (by decide) h2)
  rw [show (⟨#[60, 33, 45, 45]⟩ : ByteArray).data.toList = [60, 33, 45, 45] from rfl, hd, show ([60, 33, 45, 45] : List UInt8).isPrefixOf (60 :: 33 :: q) = false from (by first | (simp [List.isPrefixOf]; done) | (rw [pre_33]; first | exact h1 | exact pre_ext (u := [45, 45]) (v := [62]) h1 | exact pre_ext (u := [45, 45]) (v := [45, 62]) h1))] at HA4
  have HA5 := hide (fun w2 h2 => hasAt_any s ⟨#[60, 33]⟩ b a w2 (by omega) (by omega) (by decide) (by decide) h2)
  rw [show (⟨#[60, 33]⟩ : ByteArray).data.toList = [60, 33] from rfl, hd, show ([60, 33] : List UInt8).isPrefixOf (60 :: 33 :: q) = true from (by first | (simp [List.isPrefixOf]; done) | (rw [pre_33]; first | exact h1 | exact pre_ext (u := [45, 45]) (v := [62]) h1 | exact pre_ext (u := [45, 45]) (v := [45, 62]) h1))] at HA5
  have hm : markL decE (33 :: q) = (some (remT (cutAt [62] (s.data.toList.drop (a + 2))).1), [], (cutAt [62] (s.data.toList.drop (a + 2))).2) := by
    have hdo : s.data.toList.drop (a + 2) = q := by rw [← List.drop_drop, hd]; rfl
    rw [hdo]
    rw [cut_one13]
    unfold markL
    simp only
    split
    · simp [List.isPrefixOf] at h1
    · rfl
  rw [hm]
  have HM := hide (show ([62] : List UInt8) ≠ [] by decide)
  have HC := hide (comment13_any B b s o vs (a + 2) ⟨#[62]⟩ W0 w h hn hs (by omega) (by decide) (by decide))
  rw [show (⟨#[62]⟩ : ByteArray).data.toList = [62] from rfl, show ((a + 2 : Nat) : Int) = (a : Int) + 2 by omega] at HC
  have hw : wrap64 ((a : Int) + 2) = (a : Int) + 2 := by unfold wrap64; omega
  have d0 := h.c0
  have HF := hide (show a + 2 ≤ s.size by omega)
  clear hm hd hlen hla h
  go_enter Tryz.func90, Tryz.ntmps90
  go_wp2_with fail
  refine (HA0.out _ d0).mono ?_
  rintro e wh ⟨rfl, hwh⟩
  subst hwh
  go_wp2_with fail
  refine (HA1.out _ d0).mono ?_
  rintro e wh ⟨rfl, hwh⟩
  subst hwh
  go_wp2_with fail
  refine (HA2.out _ d0).mono ?_
  rintro e wh ⟨rfl, hwh⟩
  subst hwh
  go_wp2_with fail
  refine (HA3.out _ d0).mono ?_
  rintro e wh ⟨rfl, hwh⟩
  subst hwh
  go_wp2_with fail
  refine (HA4.out _ d0).mono ?_
  rintro e wh ⟨rfl, hwh⟩
  subst hwh
  go_wp2_with fail
  refine (HA5.out _ d0).mono ?_
  rintro e wh ⟨rfl, hwh⟩
  subst hwh
  go_wp2_with fail
  refine HC.out.mono ?_
  rintro e w2 ⟨rfl, hp⟩
  have HP := hide hp
  clear hp
  go_wp2_with fail
  go_ret
  exact mark_comment rfl HM.out HF.out rfl HP.out
set_option maxHeartbeats 8000000 in
theorem markup_a7 (B b : Nat) (s : ByteArray) (o : Value) (vs : List TokV) (a : Nat) (q : List UInt8) (W0 w : World) (h : Sc B b s o vs W0 w) (hn : vs.length ≤ 16777216) (hs : s.size ≤ 16777216) (hd : s.data.toList.drop a = 60 :: 63 :: q) :
    Calls Tryz.prog 90 #[.pointer (some ⟨b, 0, none⟩), .int .i64 a] w fun e w' => MarkS B b s (vs.map Prod.fst) (markL decE (63 :: q)) (vs.length + 1) W0 e w' := by
  have hla := toList_length s
  have hlen := congrArg List.length hd
  rw [List.length_drop, hla] at hlen
  simp only [List.length_cons] at hlen
  have HA0 := hide (fun w2 h2 => hasAt_any s ⟨#[60, 47, 62]⟩ b a w2 (by omega) (by omega) (by decide) (by decide) h2)
  rw [show (⟨#[60, 47, 62]⟩ : ByteArray).data.toList = [60, 47, 62] from rfl, hd, show ([60, 47, 62] : List UInt8).isPrefixOf (60 :: 63 :: q) = false from (by simp [List.isPrefixOf])] at HA0
  have HA1 := hide (fun w2 h2 => hasAt_any s ⟨#[60, 47]⟩ b a w2 (by omega) (by omega) (by decide) (by decide) h2)
  rw [show (⟨#[60, 47]⟩ : ByteArray).data.toList = [60, 47] from rfl, hd, show ([60, 47] : List UInt8).isPrefixOf (60 :: 63 :: q) = false from (by simp [List.isPrefixOf])] at HA1
  have HA2 := hide (fun w2 h2 => hasAt_any s ⟨#[60, 33, 45, 45, 62]⟩ b a w2 (by omega) (by omega) (by decide) (by decide) h2)
  rw [show (⟨#[60, 33, 45, 45, 62]⟩ : ByteArray).data.toList = [60, 33, 45, 45, 62] from rfl, hd, show ([60, 33, 45, 45, 62] : List UInt8).isPrefixOf (60 :: 63 :: q) = false from (by simp [List.isPrefixOf])] at HA2
  have HA3 := hide (fun w2 h2 => hasAt_any s ⟨#[60, 33, 45, 45, 45, 62]⟩ b a w2 (by omega) (by omega) (by decide) (by decide) h2)
  rw [show (⟨#[60, 33, 45, 45, 45, 62]⟩ : ByteArray).data.toList = [60, 33, 45, 45, 45, 62] from rfl, hd, show ([60, 33, 45, 45, 45, 62] : List UInt8).isPrefixOf (60 :: 63 :: q) = false from (by simp [List.isPrefixOf])] at HA3
  have HA4 := hide (fun w2 h2 => hasAt_any s ⟨#[60, 33, 45, 45]⟩ b a w2 (by omega) (by omega) (by decide) (by decide) h2)
  rw [show (⟨#[60, 33, 45, 45]⟩ : ByteArray).data.toList = [60, 33, 45, 45] from rfl, hd, show ([60, 33, 45, 45] : List UInt8).isPrefixOf (60 :: 63 :: q) = false from (by simp [List.isPrefixOf])] at HA4
  have HA5 := hide (fun w2 h2 => hasAt_any s ⟨#[60, 33]⟩ b a w2 (by omega) (by omega) (by decide) (by decide) h2)
  rw [show (⟨#[60, 33]⟩ : ByteArray).data.toList = [60, 33] from rfl, hd, show ([60, 33] : List UInt8).isPrefixOf (60 :: 63 :: q) = false from (by simp [List.isPrefixOf])] at HA5
  have hm : markL decE (63 :: q) = (some (remT (cutAt [62] (s.data.toList.drop (a + 1))).1), [], (cutAt [62] (s.data.toList.drop (a + 1))).2) := by
    have hdo : s.data.toList.drop (a + 1) = 63 :: q := by rw [← List.drop_drop, hd]; rfl
    rw [hdo]
    rw [cut_one13]
    rfl
  rw [hm]
  have HM := hide (show ([62] : List UInt8) ≠ [] by decide)
  have HC := hide (comment13_any B b s o vs (a + 1) ⟨#[62]⟩ W0 w h hn hs (by omega) (by decide) (by decide))
  rw [show (⟨#[62]⟩ : ByteArray).data.toList = [62] from rfl, show ((a + 1 : Nat) : Int) = (a : Int) + 1 by omega] at HC
  have hw : wrap64 ((a : Int) + 1) = (a : Int) + 1 := by unfold wrap64; omega
  have d0 := h.c0
  have HF := hide (show a + 1 ≤ s.size by omega)
  clear hm hd hlen hla h
  go_enter Tryz.func90, Tryz.ntmps90
  go_wp2_with fail
  refine (HA0.out _ d0).mono ?_
  rintro e wh ⟨rfl, hwh⟩
  subst hwh
  go_wp2_with fail
  refine (HA1.out _ d0).mono ?_
  rintro e wh ⟨rfl, hwh⟩
  subst hwh
  go_wp2_with fail
  refine (HA2.out _ d0).mono ?_
  rintro e wh ⟨rfl, hwh⟩
  subst hwh
  go_wp2_with fail
  refine (HA3.out _ d0).mono ?_
  rintro e wh ⟨rfl, hwh⟩
  subst hwh
  go_wp2_with fail
  refine (HA4.out _ d0).mono ?_
  rintro e wh ⟨rfl, hwh⟩
  subst hwh
  go_wp2_with fail
  refine (HA5.out _ d0).mono ?_
  rintro e wh ⟨rfl, hwh⟩
  subst hwh
  go_wp2_with fail
  refine HC.out.mono ?_
  rintro e w2 ⟨rfl, hp⟩
  have HP := hide hp
  clear hp
  go_wp2_with fail
  go_ret
  exact mark_comment rfl HM.out HF.out rfl HP.out
end Go.Proofs.YtiejmkjpgjbodaaGreatDoor
