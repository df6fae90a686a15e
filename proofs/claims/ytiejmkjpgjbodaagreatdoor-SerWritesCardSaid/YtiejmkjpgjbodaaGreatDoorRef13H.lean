import Derived.Test.YtiejmkjpgjbodaaGreatDoorRef13G
namespace Go.Proofs.YtiejmkjpgjbodaaGreatDoor
open Go.RowKit
set_option linter.unusedVariables false
set_option linter.unusedSimpArgs false
set_option maxRecDepth 100000
theorem Sc.drew {B b:Nat} {s:ByteArray} {o:Value} {vs:List TokV} {W0 w:World} (h:Sc B b s o vs W0 w):Sc B b s o vs W0 w.drew:=h.kept ((Below.refl _ _).drew)
def remAt (l:List UInt8) (f:Nat) (t:List UInt8):List UInt8 × Nat:=match findAt t (l.drop f) with
  | some k=>((l.drop f).take k,f + k + t.length)
  | none=>(l.drop f,l.length)
theorem remAt_cut {l:List UInt8} {f:Nat} {t:List UInt8}:(cutAt t (l.drop f)).1 = (remAt l f t).1 /\ (cutAt t (l.drop f)).2 = l.drop (remAt l f t).2:=by
 unfold remAt;rw [cut_find];cases findAt t (l.drop f) with
 | none=>exact ⟨rfl,by rw [List.drop_length]⟩
 | some k=>exact ⟨rfl,by simp only;rw [List.drop_drop,Nat.add_assoc]⟩
set_option maxHeartbeats 8000000 in
theorem comment13_any (B b : Nat) (s : ByteArray) (o : Value) (vs : List TokV) (f : Nat) (t : ByteArray) (W0 w : World) (h : Sc B b s o vs W0 w) (hn : vs.length ≤ 16777216) (hs : s.size ≤ 16777216) (hf : f ≤ s.size) (ht : 1 ≤ t.size) (ht2 : t.size ≤ 10) :
    Calls Tryz.prog 134 #[.pointer (some ⟨b, 0, none⟩), .int .i64 f, .string t] w fun e w' => e = .returned (.int .i64 ((remAt s.data.toList f t.data.toList).2 : Nat)) ∧ ScP B b s (vs.map Prod.fst ++ [remT (remAt s.data.toList f t.data.toList).1]) (vs.length + 1) W0 w' := by
  have hla := toList_length s
  have hta := toList_length t
  have HIX := hide (fun w2 => index13_any s f t w2 hf (by omega) ht (by omega))
  obtain ⟨R, N, hRN⟩ : ∃ R N, remAt s.data.toList f t.data.toList = (R, N) := ⟨_, _, rfl⟩
  rw [hRN]
  show Calls Tryz.prog 134 #[.pointer (some ⟨b, 0, none⟩), .int .i64 f, .string t] w fun e w' => e = .returned (.int .i64 (N : Nat)) ∧ ScP B b s (vs.map Prod.fst ++ [remT R]) (vs.length + 1) W0 w'
  obtain ⟨A, c, rfl⟩ := h.toks.slice_len
  have d0 := h.c0
  have d1 := h.c1
  have k0 : ∀ ob, (w.alloc ob).cell? ⟨b, 0, none⟩ = some (.string s) := fun ob => (h.kept (below_one' w ob)).c0
  have k1 : ∀ ob, (w.alloc ob).cell? ⟨b, 1, none⟩ = some (.slice A vs.length c) := fun ob => (h.kept (below_one' w ob)).c1
  have k2 : ∀ ob, (w.drew.alloc ob).cell? ⟨b, 0, none⟩ = some (.string s) := fun ob => (h.drew.kept (below_one' w.drew ob)).c0
  have k3 : ∀ ob, (w.drew.alloc ob).cell? ⟨b, 1, none⟩ = some (.slice A vs.length c) := fun ob => (h.drew.kept (below_one' w.drew ob)).c1
  have H := hide h.drew
  have HN := hide hn
  obtain ⟨n, hnn⟩ : ∃ n, vs.length = n := ⟨_, rfl⟩
  rw [hnn] at H d1
  simp only [hnn] at k1 k3
  have HNN := hide hnn
  clear h hn hnn
  have hix : idxZ t.data.toList s.data.toList f = match findAt t.data.toList (s.data.toList.drop f) with | some k => ((f + k : Nat) : Int) | none => -1 := rfl
  unfold remAt at hRN
  cases hfi : findAt t.data.toList (s.data.toList.drop f) with
  | none =>
    rw [hfi] at hRN hix
    simp only at hRN hix
    injection hRN with hR hNn
    rw [hla] at hNn
    subst hNn
    rw [hix] at HIX
    obtain ⟨P, hP⟩ : ∃ P, s.extract f s.size = P := ⟨_, rfl⟩
    have HPR : Hid (P = str R) := hide (by rw [← hP, ← hR, ← extract_end, str_of])
    have q0 : (f : Int) ≤ s.size := by omega
    clear hfi hix hR hla hta
    go_enter Tryz.func134, Tryz.ntmps134
    go_wp2_with fail
    refine (HIX.out _).mono ?_
    rintro e w1 ⟨rfl, hw⟩
    subst hw
    go_wp2_with fail
    go_region_law (first
      | (refine step_toks rfl _ _ rfl B _ vs rfl (remT R) (.slice none 0 0) (H.out.toks.alloc _) (World.ownsRow_nil _ B _ 2) ?_ ⟨w.heap.size, 0, none⟩ rfl (tok_row _ _ _ _ _).1 (tok_row _ _ _ _ _).2.1 (tok_row _ _ _ _ _).2.2.1 ((tok_row _ _ _ _ _).2.2.2.trans (by show some (Value.string P) = some (Value.string (str R)); rw [HPR.out])) (by have := HN.out; omega) ?_
         · show B ≤ (w.drew.alloc _).heap.size
           rw [World.size_alloc]
           exact Nat.le_succ_of_le H.out.size
         intro v2 w2 ht2 hg2
         obtain ⟨A2, n2, c2, rfl⟩ : ∃ A n c, v2 = .slice A n c := ⟨_, _, _, ht2.slice_len.choose_spec.choose_spec⟩
         obtain ⟨x1, x2, x3⟩ := storedS H.out ht2 hg2
         have x4 : (w2.setCell ⟨b, 1, none⟩ (.slice A2 n2 c2)).cell? ⟨b, 0, none⟩ = some (.string s) := x3.c0
         have HS := hide x3
         clear ht2 hg2 x3)
      | fail)
    all_goals
      try go_wp2_with fail
      go_ret
      exact ⟨rfl, _, _, HS.out, by rw [List.map_append]; rfl, by rw [List.length_append]; exact Nat.le_refl _⟩
  | some k =>
    have hkl := findAt_le (t := t.data.toList) (by intro e; rw [e] at hta; simp at hta; omega) hfi
    rw [List.length_drop, hla, hta] at hkl
    rw [hfi] at hRN hix
    simp only at hRN hix
    injection hRN with hR hNn
    obtain ⟨E, hE⟩ : ∃ E, E = f + k := ⟨_, rfl⟩
    rw [← hE] at hix hNn
    rw [hta] at hNn
    rw [hix] at HIX
    obtain ⟨P, hP⟩ : ∃ P, s.extract f E = P := ⟨_, rfl⟩
    have HPR : Hid (P = str R) := hide (by
      rw [← hP, ← hR, ← str_of (s.extract f E), extract_list, List.drop_take, hE, Nat.add_sub_cancel_left])
    have q0 : (f : Int) ≤ E := by omega
    have q1 : (E : Int) ≤ s.size := by omega
    have q2 : decide ((E : Int) < 0) = false := decide_eq_false (by omega)
    have HEN : Hid ((E : Int) + (t.size : Int) = ((N : Nat) : Int)) := hide (by omega)
    have q3 : wrap64 ((E : Int) + (t.size : Int)) = (E : Int) + t.size := by unfold wrap64; omega
    clear hfi hix hR hla hta hkl hE hNn
    go_enter Tryz.func134, Tryz.ntmps134
    go_wp2_with fail
    refine (HIX.out _).mono ?_
    rintro e w1 ⟨rfl, hw⟩
    subst hw
    go_wp2_with fail
    go_region_law (first
      | (refine step_toks rfl _ _ rfl B _ vs rfl (remT R) (.slice none 0 0) (H.out.toks.alloc _) (World.ownsRow_nil _ B _ 2) ?_ ⟨w.heap.size, 0, none⟩ rfl (tok_row _ _ _ _ _).1 (tok_row _ _ _ _ _).2.1 (tok_row _ _ _ _ _).2.2.1 ((tok_row _ _ _ _ _).2.2.2.trans (by show some (Value.string P) = some (Value.string (str R)); rw [HPR.out])) (by have := HN.out; omega) ?_
         · show B ≤ (w.drew.alloc _).heap.size
           rw [World.size_alloc]
           exact Nat.le_succ_of_le H.out.size
         intro v2 w2 ht2 hg2
         obtain ⟨A2, n2, c2, rfl⟩ : ∃ A n c, v2 = .slice A n c := ⟨_, _, _, ht2.slice_len.choose_spec.choose_spec⟩
         obtain ⟨x1, x2, x3⟩ := storedS H.out ht2 hg2
         have x4 : (w2.setCell ⟨b, 1, none⟩ (.slice A2 n2 c2)).cell? ⟨b, 0, none⟩ = some (.string s) := x3.c0
         have HS := hide x3
         clear ht2 hg2 x3)
      | fail)
    all_goals
      try go_wp2_with fail
      go_ret
      exact ⟨ret_int13 HEN.out, _, _, HS.out, by rw [List.map_append]; rfl, by rw [List.length_append]; exact Nat.le_refl _⟩
end Go.Proofs.YtiejmkjpgjbodaaGreatDoor
