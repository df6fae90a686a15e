/- More of the first texts of this claim in one: each with its own head. No statement is proved here. -/
import Derived.Test.YtiejmkjpgjbodaaGreatDoorBaseQ
import Derived.Test.YtiejmkjpgjbodaaGreatDoorBaseM
import Derived.Test.YtiejmkjpgjbodaaGreatDoorBaseN
import Derived.StillTailTactics
import Derived.Test.YtiejmkjpgjbodaaGreatDoorBaseP
namespace Go.Proofs.YtiejmkjpgjbodaaGreatDoor
open Go.RowKit
set_option linter.unusedVariables false
set_option linter.unusedSimpArgs false
set_option maxRecDepth 100000
theorem Sc.drew {B b : Nat} {s : ByteArray} {o : Value} {vs : List TokV} {W0 w : World} (h : Sc B b s o vs W0 w) : Sc B b s o vs W0 w.drew := h.kept ((Below.refl _ _).drew)
def remAt (l : List UInt8) (f : Nat) (t : List UInt8) : List UInt8 × Nat := match findAt t (l.drop f) with
  | some k => ((l.drop f).take k, f + k + t.length)
  | none => (l.drop f, l.length)
theorem remAt_cut {l : List UInt8} {f : Nat} {t : List UInt8} : (cutAt t (l.drop f)).1 = (remAt l f t).1 ∧ (cutAt t (l.drop f)).2 = l.drop (remAt l f t).2 := by
  unfold remAt
  rw [cut_find]
  cases findAt t (l.drop f) with
  | none => exact ⟨rfl, by rw [List.drop_length]⟩
  | some k => exact ⟨rfl, by simp only; rw [List.drop_drop, Nat.add_assoc]⟩
set_option maxHeartbeats 8000000 in
theorem comment13_any (B b : Nat) (s : ByteArray) (o : Value) (vs : List TokV) (f : Nat) (t : ByteArray) (W0 w : World) (h : Sc B b s o vs W0 w) (hn : vs.length ≤ 16777216) (hs : s.size ≤ 16777216) (hf : f ≤ s.size) (ht : 1 ≤ t.size) (ht2 : t.size ≤ 10) :
    Calls Tryz.prog 134 #[.pointer (some ⟨b, 0, none⟩), .int .i64 f, .string t] w fun e w' => e = .returned (.int .i64 ((remAt s.data.toList f t.data.toList).2 : Nat)) ∧ ScP B b s (vs.map Prod.fst ++ [remT (remAt s.data.toList f t.data.toList).1]) (vs.length + 1) W0 w' := by
  have hla := toList_length s
  have hta := toList_length t
  have HIX := hide (fun w2 => index13_any s f t w2 hf (by omega) ht (by omega))
  obtain ⟨R, N, hRN⟩ : ∃ R N, remAt s.data.toList f t.data.toList = (R, N) := ⟨_, _, rfl⟩
  rw [hRN]
  show Calls Tryz.prog 134 #[.pointer (some ⟨b, 0, none⟩), .int .i64 f, .string t] w fun e w' => e = .returned (.int .i64 (N : Nat)) ∧ ScP B b s (vs.map Prod.fst ++ [remT R]) (vs.length + 1) W0 w'
  obtain ⟨A, c, rfl⟩ := h.toks.slice_len
  have d0 := h.c0
  have d1 := h.c1
  have k0 : ∀ ob, (w.alloc ob).cell? ⟨b, 0, none⟩ = some (.string s) := fun ob => (h.kept (below_one' w ob)).c0
  have k1 : ∀ ob, (w.alloc ob).cell? ⟨b, 1, none⟩ = some (.slice A vs.length c) := fun ob => (h.kept (below_one' w ob)).c1
  have k2 : ∀ ob, (w.drew.alloc ob).cell? ⟨b, 0, none⟩ = some (.string s) := fun ob => (h.drew.kept (below_one' w.drew ob)).c0
  have k3 : ∀ ob, (w.drew.alloc ob).cell? ⟨b, 1, none⟩ = some (.slice A vs.length c) := fun ob => (h.drew.kept (below_one' w.drew ob)).c1
  have H := hide h.drew
  have HN := hide hn
  obtain ⟨n, hnn⟩ : ∃ n, vs.length = n := ⟨_, rfl⟩
  rw [hnn] at H d1
  simp only [hnn] at k1 k3
  have HNN := hide hnn
  clear h hn hnn
  have hix : idxZ t.data.toList s.data.toList f = match findAt t.data.toList (s.data.toList.drop f) with | some k => ((f + k : Nat) : Int) | none => -1 := rfl
  unfold remAt at hRN
  cases hfi : findAt t.data.toList (s.data.toList.drop f) with
  | none =>
    rw [hfi] at hRN hix
    simp only at hRN hix
    injection hRN with hR hNn
    rw [hla] at hNn
    subst hNn
    rw [hix] at HIX
    obtain ⟨P, hP⟩ : ∃ P, s.extract f s.size = P := ⟨_, rfl⟩
    have HPR : Hid (P = str R) := hide (by rw [← hP, ← hR, ← extract_end, str_of])
    have q0 : (f : Int) ≤ s.size := by omega
    clear hfi hix hR hla hta
    go_enter Tryz.func134, Tryz.ntmps134
    go_wp2_with fail
    refine (HIX.out _).mono ?_
    rintro e w1 ⟨rfl, hw⟩
    subst hw
    go_wp2_with fail
    go_region_law (first
      | (refine step_toks rfl _ _ rfl B _ vs rfl (remT R) (.slice none 0 0) (H.out.toks.alloc _) (World.ownsRow_nil _ B _ 2) ?_ ⟨w.heap.size, 0, none⟩ rfl (tok_row _ _ _ _ _).1 (tok_row _ _ _ _ _).2.1 (tok_row _ _ _ _ _).2.2.1 ((tok_row _ _ _ _ _).2.2.2.trans (by show some (Value.string P) = some (Value.string (str R)); rw [HPR.out])) (by have := HN.out; omega) ?_
         · show B ≤ (w.drew.alloc _).heap.size
           rw [World.size_alloc]
           exact Nat.le_succ_of_le H.out.size
         intro v2 w2 ht2 hg2
         obtain ⟨A2, n2, c2, rfl⟩ : ∃ A n c, v2 = .slice A n c := ⟨_, _, _, ht2.slice_len.choose_spec.choose_spec⟩
         obtain ⟨x1, x2, x3⟩ := storedS H.out ht2 hg2
         have x4 : (w2.setCell ⟨b, 1, none⟩ (.slice A2 n2 c2)).cell? ⟨b, 0, none⟩ = some (.string s) := x3.c0
         have HS := hide x3
         clear ht2 hg2 x3)
      | fail)
    all_goals
      try go_wp2_with fail
      go_ret
      exact ⟨rfl, _, _, HS.out, by rw [List.map_append]; rfl, by rw [List.length_append]; exact Nat.le_refl _⟩
  | some k =>
    have hkl := findAt_le (t := t.data.toList) (by intro e; rw [e] at hta; simp at hta; omega) hfi
    rw [List.length_drop, hla, hta] at hkl
    rw [hfi] at hRN hix
    simp only at hRN hix
    injection hRN with hR hNn
    obtain ⟨E, hE⟩ : ∃ E, E = f + k := ⟨_, rfl⟩
    rw [← hE] at hix hNn
    rw [hta] at hNn
    rw [hix] at HIX
    obtain ⟨P, hP⟩ : ∃ P, s.extract f E = P := ⟨_, rfl⟩
    have HPR : Hid (P = str R) := hide (by
      rw [← hP, ← hR, ← str_of (s.extract f E), extract_list, List.drop_take, hE, Nat.add_sub_cancel_left])
    have q0 : (f : Int) ≤ E := by omega
    have q1 : (E : Int) ≤ s.size := by omega
    have q2 : decide ((E : Int) < 0) = false := decide_eq_false (by omega)
    have HEN : Hid ((E : Int) + (t.size : Int) = ((N : Nat) : Int)) := hide (by omega)
    have q3 : wrap64 ((E : Int) + (t.size : Int)) = (E : Int) + t.size := by unfold wrap64; omega
    clear hfi hix hR hla hta hkl hE hNn
    go_enter Tryz.func134, Tryz.ntmps134
    go_wp2_with fail
    refine (HIX.out _).mono ?_
    rintro e w1 ⟨rfl, hw⟩
    subst hw
    go_wp2_with fail
    go_region_law (first
      | (refine step_toks rfl _ _ rfl B _ vs rfl (remT R) (.slice none 0 0) (H.out.toks.alloc _) (World.ownsRow_nil _ B _ 2) ?_ ⟨w.heap.size, 0, none⟩ rfl (tok_row _ _ _ _ _).1 (tok_row _ _ _ _ _).2.1 (tok_row _ _ _ _ _).2.2.1 ((tok_row _ _ _ _ _).2.2.2.trans (by show some (Value.string P) = some (Value.string (str R)); rw [HPR.out])) (by have := HN.out; omega) ?_
         · show B ≤ (w.drew.alloc _).heap.size
           rw [World.size_alloc]
           exact Nat.le_succ_of_le H.out.size
         intro v2 w2 ht2 hg2
         obtain ⟨A2, n2, c2, rfl⟩ : ∃ A n c, v2 = .slice A n c := ⟨_, _, _, ht2.slice_len.choose_spec.choose_spec⟩
         obtain ⟨x1, x2, x3⟩ := storedS H.out ht2 hg2
         have x4 : (w2.setCell ⟨b, 1, none⟩ (.slice A2 n2 c2)).cell? ⟨b, 0, none⟩ = some (.string s) := x3.c0
         have HS := hide x3
         clear ht2 hg2 x3)
      | fail)
    all_goals
      try go_wp2_with fail
      go_ret
      exact ⟨ret_int13 HEN.out, _, _, HS.out, by rw [List.map_append]; rfl, by rw [List.length_append]; exact Nat.le_refl _⟩
end Go.Proofs.YtiejmkjpgjbodaaGreatDoor

namespace Go.Proofs.YtiejmkjpgjbodaaGreatDoor
open Go.RowKit
set_option linter.unusedVariables false
set_option linter.unusedSimpArgs false
set_option maxRecDepth 100000
theorem rawEnd_at {n l r : List UInt8} {k : Nat} (hd : l.drop k = r) : rawEndB n r = (([60, 47] : List UInt8).isPrefixOf r && (decide (k + 2 + n.length < l.length) && ((lowL ((l.drop (k + 2)).take n.length) == n) && nameEndB (l.getD (k + 2 + n.length) 0)))) := by
  have hlen := congrArg List.length hd
  rw [List.length_drop] at hlen
  unfold rawEndB
  split
  · rename_i q
    have h2 : l.drop (k + 2) = q := by rw [← List.drop_drop, hd]; rfl
    have hq : q.length = l.length - (k + 2) := by rw [← h2, List.length_drop]
    simp only [List.length_cons] at hlen
    have e1 : decide (n.length < q.length) = decide (k + 2 + n.length < l.length) := decide_eq_decide.2 (by omega)
    have e2 : q.getD n.length 0 = l.getD (k + 2 + n.length) 0 := by
      rw [← h2, List.getD_eq_getElem?_getD, List.getD_eq_getElem?_getD, List.getElem?_drop]
    rw [e1, e2, h2]
    simp [List.isPrefixOf]
  · rename_i hne
    cases r with
    | nil => simp [List.isPrefixOf]
    | cons c r =>
      cases r with
      | nil => simp [List.isPrefixOf]
      | cons d r =>
        by_cases h1 : c = 60
        · by_cases h2 : d = 47
          · subst h1 h2; exact absurd rfl (hne r)
          · have : ((47 : UInt8) == d) = false := beq_eq_false_iff_ne.2 (fun e => h2 e.symm)
            simp [List.isPrefixOf, h1, this]
        · have : ((60 : UInt8) == c) = false := beq_eq_false_iff_ne.2 (fun e => h1 e.symm)
          simp [List.isPrefixOf, this]
theorem rawN_go {n l r : List UInt8} {k : Nat} {c : UInt8} (hd : l.drop k = c :: r) : rawN n (l.drop k) = if rawEndB n (l.drop k) = true then 0 else rawN n (l.drop (k + 1)) + 1 := by
  rw [drop_succ13 hd, hd]
  conv => lhs; unfold rawN
end Go.Proofs.YtiejmkjpgjbodaaGreatDoor

namespace Go.Proofs.YtiejmkjpgjbodaaGreatDoor
open Go.RowKit
set_option linter.unusedVariables false
set_option linter.unusedSimpArgs false
set_option maxRecDepth 100000
theorem rawSize_plain {n l : List UInt8} (h : n = plainText) : rawSizeL n l = l.length := by unfold rawSizeL; rw [if_pos h]
theorem rawSize_other {n l : List UInt8} (h : n ≠ plainText) : rawSizeL n l = rawN n l := by unfold rawSizeL; rw [if_neg h]
theorem nameEnd_eq (c : UInt8) : nameEndB c = (whB c || (c == 47 || c == 62)) := rfl
set_option maxHeartbeats 16000000 in
theorem raw13w_any (B b : Nat) (s : ByteArray) (o : Value) (vs : List TokV) (NM : ByteArray) (f : Nat) (W0 w : World) (h : Sc B b s o vs W0 w) (hn : vs.length ≤ 16777216) (hz : ∀ p, vs.getLast? = some p → p.1.kind = 1 → p.1.text.length ≤ 16777216) (hs : s.size ≤ 16777216) (hf : f ≤ s.size) (hN : NM.size ≤ 16777216) :
    Calls Tryz.prog 133 #[.pointer (some ⟨b, 0, none⟩), .string NM, .int .i64 f] w fun e w' => ∃ k : Nat, e = .returned (.int .i64 (k : Nat)) ∧ k = f + rawSizeL NM.data.toList (s.data.toList.drop f) ∧ ScP B b s (addC (vs.map Prod.fst) ((s.data.toList.drop f).take (rawSizeL NM.data.toList (s.data.toList.drop f)))) (vs.length + 1) W0 w' := by
  have hla := toList_length s
  have hna := toList_length NM
  have HSX := hide h
  have HCH := hide (fun (P : ByteArray) (w2 : World) (h2 : Sc B b s o vs W0 w2) (hp : P.size ≤ 16777216) => chars13_any B b s o vs P W0 w2 h2 hn (fun p hp2 hk2 => by have := hz p hp2 hk2; omega))
  obtain ⟨PT, hPT⟩ : ∃ PT : ByteArray, PT = ⟨#[112, 108, 97, 105, 110, 116, 101, 120, 116]⟩ := ⟨_, rfl⟩
  have tcase : (NM.data.toList = plainText ∧ (NM.toList == [112, 108, 97, 105, 110, 116, 101, 120, 116]) = true) ∨ (NM.data.toList ≠ plainText ∧ (NM.toList == [112, 108, 97, 105, 110, 116, 101, 120, 116]) = false) := by
    rw [bytes_list]
    by_cases e : NM.data.toList = plainText
    · exact .inl ⟨e, by rw [e]; rfl⟩
    · exact .inr ⟨e, beq_eq_false_iff_ne.2 e⟩
  clear h hn hz hPT
  go_enter Tryz.func133, Tryz.ntmps133
  go_wp2_with fail
  go_loopw [7] (fun av wr => ∃ k : Nat, f ≤ k ∧ k ≤ s.size ∧ av = .int .i64 k ∧ Hid (Sc B b s o vs W0 wr) ∧ Hid (NM.data.toList ≠ plainText → rawN NM.data.toList (s.data.toList.drop f) = (k - f) + rawN NM.data.toList (s.data.toList.drop k))) (fun av _ => s.size - (intOf av).toNat)
  case atStart => exact ⟨f, Nat.le_refl _, hf, rfl, HSX, hide (fun _ => by rw [Nat.sub_self, Nat.zero_add])⟩
  case round =>
    clear HSX
    obtain ⟨k, hfk, hk, rfl, HS, HI⟩ := hrel
    have c0 := HS.out.c0
    by_cases hlt : k < s.size
    · have hd := drop_cons s k hlt
      have hw1 : wrap64 ((k : Int) + 2) = (k : Int) + 2 := by unfold wrap64; omega
      have hw2 : wrap64 ((k : Int) + 2 + (NM.size : Int)) = (k : Int) + 2 + NM.size := by unfold wrap64; omega
      have HSX := HS
      rcases tcase with ⟨hpl, tp⟩ | ⟨hpl, tp⟩
      · have tq : (NM.toList != [112, 108, 97, 105, 110, 116, 101, 120, 116]) = false := by rw [bne, tp]; rfl
        have HNX : Hid (NM.data.toList ≠ plainText → rawN NM.data.toList (s.data.toList.drop f) = (k + 1 - f) + rawN NM.data.toList (s.data.toList.drop (k + 1))) := hide (fun h => absurd hpl h)
        clear hd HI hla hna
        go_wp2_with fail
        go_roundw
        case rel => exact ⟨k + 1, by omega, by omega, by go_num, HSX, HNX⟩
        case measure => simp [intOf]; omega
      · have tq : (NM.toList != [112, 108, 97, 105, 110, 116, 101, 120, 116]) = true := by rw [bne, tp]; rfl
        have hgo := rawN_go (n := NM.data.toList) hd
        have hre := rawEnd_at (n := NM.data.toList) hd
        rw [hna, hla] at hre
        have HAS := hide (fun w2 h2 => hasAt_any s ⟨#[60, 47]⟩ b k w2 (by omega) (by omega) (by decide) (by decide) h2)
        rw [hd, show (⟨#[60, 47]⟩ : ByteArray).data.toList = [60, 47] from rfl] at HAS
        rw [← hd] at hre
        have HFALSE : Hid (rawEndB NM.data.toList (s.data.toList.drop k) = false → (NM.data.toList ≠ plainText → rawN NM.data.toList (s.data.toList.drop f) = (k + 1 - f) + rawN NM.data.toList (s.data.toList.drop (k + 1)))) := hide (fun h hp => by
          have h1 := HI.out hp
          rw [hgo, h, if_neg (by decide)] at h1
          omega)
        have HTRUE : Hid (rawEndB NM.data.toList (s.data.toList.drop k) = true → rawSizeL NM.data.toList (s.data.toList.drop f) = k - f) := hide (fun h => by
          have h1 := HI.out hpl
          rw [hgo, h, if_pos rfl] at h1
          rw [rawSize_other hpl]; omega)
        obtain ⟨RB, hRB⟩ : ∃ RB, RB = rawEndB NM.data.toList (s.data.toList.drop k) := ⟨_, rfl⟩
        rw [← hRB] at hre HFALSE HTRUE
        clear hgo hRB
        cases h1 : ([60, 47] : List UInt8).isPrefixOf (s[k] :: s.data.toList.drop (k + 1)) with
        | false =>
          rw [hd, h1] at hre
          rw [h1] at HAS
          have HNX := hide (HFALSE.out hre)
          clear hre h1 hd HI HFALSE HTRUE hla hna
          go_wp2_with fail
          refine (HAS.out _ c0).mono ?_
          rintro e wa ⟨rfl, hw⟩
          subst hw
          go_wp2_with fail
          go_roundw
          case rel => exact ⟨k + 1, by omega, by omega, by go_num, HSX, HNX⟩
          case measure => simp [intOf]; omega
        | true =>
          rw [hd, h1, Bool.true_and] at hre
          rw [h1] at HAS
          by_cases h2 : k + 2 + NM.size < s.size
          · rw [decide_eq_true h2, Bool.true_and] at hre
            have t2 : decide ((k : Int) + 2 + NM.size < s.size) = true := decide_eq_true (by omega)
            obtain ⟨P, hP⟩ : ∃ P, s.extract (k + 2) (k + 2 + NM.size) = P := ⟨_, rfl⟩
            have hPl : P.data.toList = (s.data.toList.drop (k + 2)).take NM.size := by
              rw [← hP, extract_list, List.drop_take, Nat.add_sub_cancel_left]
            have zP : P.size ≤ 16777216 := by rw [← toList_length, hPl, List.length_take]; omega
            have HSM := hide (fun w2 => small_any P w2 (by omega))
            obtain ⟨Q, hQ⟩ : ∃ Q, Q = str (lowL P.data.toList) := ⟨_, rfl⟩
            rw [← hQ] at HSM
            have hQN : (Q.toList == NM.toList) = (lowL ((s.data.toList.drop (k + 2)).take NM.size) == NM.data.toList) := by
              rw [hQ, str_list, hPl, bytes_list]
            have e1 : ((k : Int) + 2).toNat = k + 2 := by omega
            have e2 : ((k : Int) + 2 + NM.size).toNat = k + 2 + NM.size := by omega
            have e3 : (k : Int) + 2 ≤ (k : Int) + 2 + NM.size := by omega
            have e4 : (k : Int) + 2 + NM.size ≤ s.size := by omega
            rw [← hQN] at hre
            clear hPl zP hQ hQN
            cases h3 : (Q.toList == NM.toList) with
            | false =>
              rw [h3, Bool.false_and] at hre
              have HNX := hide (HFALSE.out hre)
              clear hre h1 hd HI HFALSE HTRUE hla hna
              go_wp2_with fail
              refine (HAS.out _ c0).mono ?_
              rintro e wa ⟨rfl, hw⟩
              subst hw
              go_wp2_with fail
              refine (HSM.out _).mono ?_
              rintro e ws ⟨rfl, hbs⟩
              have HS2 := hide (HS.out.kept hbs)
              have c2 := HS2.out.c0
              clear hbs
              go_wp2_with fail
              go_roundw
              case rel => exact ⟨k + 1, by omega, by omega, by go_num, HS2, HNX⟩
              case measure => simp [intOf]; omega
            | true =>
              rw [h3, Bool.true_and] at hre
              have hg : s.data.toList.getD (k + 2 + NM.size) 0 = s[k + 2 + NM.size] := by
                rw [List.getD_eq_getElem?_getD, List.getElem?_eq_getElem (by rw [hla]; exact h2)]; rfl
              rw [hg, nameEnd_eq] at hre
              have HSP := hide (fun w2 => space13_any s[k + 2 + NM.size] w2)
              obtain ⟨c, hc⟩ : ∃ c, s[k + 2 + NM.size] = c := ⟨_, rfl⟩
              have hcn : (s[k + 2 + NM.size]'h2).toNat = c.toNat := by rw [hc]
              rw [hc] at hre HSP
              obtain ⟨P2, hP2⟩ : ∃ P2, s.extract f k = P2 := ⟨_, rfl⟩
              have hP2l : P2.data.toList = (s.data.toList.drop f).take (k - f) := by rw [← hP2, extract_list, List.drop_take]
              have zP2 : P2.size ≤ 16777216 := by rw [← toList_length, hP2l, List.length_take, List.length_drop]; omega
              have HC := hide (fun w2 h2 => HCH.out P2 w2 h2 zP2)
              rw [hP2l] at HC
              have HRK : Hid (RB = true → k = f + rawSizeL NM.data.toList (s.data.toList.drop f)) := hide (fun h => by rw [HTRUE.out h]; omega)
              have q0 : (f : Int) ≤ k := by omega
              have q1 : (k : Int) ≤ s.size := by omega
              clear hg hc hP2l zP2
              cases hw : whB c with
              | true =>
                rw [hw, Bool.true_or] at hre
                rw [hw] at HSP
                have HRS := hide (HTRUE.out hre)
                have HK := hide (HRK.out hre)
                clear hre h1 hd HI HFALSE HTRUE hla hna hw
                go_wp2_with fail
                refine (HAS.out _ c0).mono ?_
                rintro e wa ⟨rfl, hw⟩
                subst hw
                go_wp2_with fail
                refine (HSM.out _).mono ?_
                rintro e ws ⟨rfl, hbs⟩
                have HS2 := hide (HS.out.kept hbs)
                have c2 := HS2.out.c0
                clear hbs
                go_wp2_with fail
                refine (HSP.out _).mono ?_
                rintro e wq ⟨rfl, hw⟩
                subst hw
                go_wp2_with fail
                refine (HC.out _ HS2.out).mono ?_
                rintro e wc ⟨rfl, o2, vs2, hs2, hm2, hl2⟩
                have HP2 := hide (⟨o2, vs2, hs2, hm2, hl2⟩ : ScP B b s _ _ W0 wc)
                clear hs2 hm2 hl2
                go_wp2_with fail
                go_ret
                exact ⟨k, rfl, HK.out, by rw [HRS.out]; exact HP2.out⟩
              | false =>
                rw [hw, Bool.false_or] at hre
                rw [hw] at HSP
                by_cases g47 : c = 47
                · have t47 : ((c.toNat : Int) == 47) = true := tT 47 g47 (by omega)
                  rw [g47] at hre
                  have HRS := hide (HTRUE.out (hre.trans rfl))
                  have HK := hide (HRK.out (hre.trans rfl))
                  clear hre h1 hd HI HFALSE HTRUE hla hna hw g47
                  go_wp2_with fail
                  refine (HAS.out _ c0).mono ?_
                  rintro e wa ⟨rfl, hw⟩
                  subst hw
                  go_wp2_with fail
                  refine (HSM.out _).mono ?_
                  rintro e ws ⟨rfl, hbs⟩
                  have HS2 := hide (HS.out.kept hbs)
                  have c2 := HS2.out.c0
                  clear hbs
                  go_wp2_with fail
                  refine (HSP.out _).mono ?_
                  rintro e wq ⟨rfl, hw⟩
                  subst hw
                  go_wp2_with fail
                  refine (HC.out _ HS2.out).mono ?_
                  rintro e wc ⟨rfl, o2, vs2, hs2, hm2, hl2⟩
                  have HP2 := hide (⟨o2, vs2, hs2, hm2, hl2⟩ : ScP B b s _ _ W0 wc)
                  clear hs2 hm2 hl2
                  go_wp2_with fail
                  go_ret
                  exact ⟨k, rfl, HK.out, by rw [HRS.out]; exact HP2.out⟩
                have t47 : ((c.toNat : Int) == 47) = false := tF 47 g47 (by omega)
                rw [beq_eq_false_iff_ne.2 g47, Bool.false_or] at hre
                by_cases g62 : c = 62
                · have t62 : ((c.toNat : Int) == 62) = true := tT 62 g62 (by omega)
                  rw [g62] at hre
                  have HRS := hide (HTRUE.out (hre.trans rfl))
                  have HK := hide (HRK.out (hre.trans rfl))
                  clear hre h1 hd HI HFALSE HTRUE hla hna hw g47 g62
                  go_wp2_with fail
                  refine (HAS.out _ c0).mono ?_
                  rintro e wa ⟨rfl, hw⟩
                  subst hw
                  go_wp2_with fail
                  refine (HSM.out _).mono ?_
                  rintro e ws ⟨rfl, hbs⟩
                  have HS2 := hide (HS.out.kept hbs)
                  have c2 := HS2.out.c0
                  clear hbs
                  go_wp2_with fail
                  refine (HSP.out _).mono ?_
                  rintro e wq ⟨rfl, hw⟩
                  subst hw
                  go_wp2_with fail
                  refine (HC.out _ HS2.out).mono ?_
                  rintro e wc ⟨rfl, o2, vs2, hs2, hm2, hl2⟩
                  have HP2 := hide (⟨o2, vs2, hs2, hm2, hl2⟩ : ScP B b s _ _ W0 wc)
                  clear hs2 hm2 hl2
                  go_wp2_with fail
                  go_ret
                  exact ⟨k, rfl, HK.out, by rw [HRS.out]; exact HP2.out⟩
                have t62 : ((c.toNat : Int) == 62) = false := tF 62 g62 (by omega)
                rw [beq_eq_false_iff_ne.2 g62] at hre
                have HNX := hide (HFALSE.out hre)
                clear hre h1 hd HI HFALSE HTRUE hla hna hw g47 g62
                go_wp2_with fail
                refine (HAS.out _ c0).mono ?_
                rintro e wa ⟨rfl, hw⟩
                subst hw
                go_wp2_with fail
                refine (HSM.out _).mono ?_
                rintro e ws ⟨rfl, hbs⟩
                have HS2 := hide (HS.out.kept hbs)
                have c2 := HS2.out.c0
                clear hbs
                go_wp2_with fail
                refine (HSP.out _).mono ?_
                rintro e wq ⟨rfl, hw⟩
                subst hw
                go_wp2_with fail
                go_roundw
                case rel => exact ⟨k + 1, by omega, by omega, by go_num, HS2, HNX⟩
                case measure => simp [intOf]; omega
          · rw [decide_eq_false h2, Bool.false_and] at hre
            have t2 : decide ((k : Int) + 2 + NM.size < s.size) = false := decide_eq_false (by omega)
            have HNX := hide (HFALSE.out hre)
            clear hre h1 hd HI HFALSE HTRUE hla hna
            go_wp2_with fail
            refine (HAS.out _ c0).mono ?_
            rintro e wa ⟨rfl, hw⟩
            subst hw
            go_wp2_with fail
            go_roundw
            case rel => exact ⟨k + 1, by omega, by omega, by go_num, HSX, HNX⟩
            case measure => simp [intOf]; omega
    · have hkk : k = s.size := by omega
      have hrs : rawSizeL NM.data.toList (s.data.toList.drop f) = s.size - f := by
        rcases tcase with ⟨hpl, _⟩ | ⟨hpl, _⟩
        · rw [rawSize_plain hpl, List.length_drop, hla]
        · rw [rawSize_other hpl, HI.out hpl, hkk, List.drop_eq_nil_of_le (by omega)]; rfl
      obtain ⟨P, hP⟩ : ∃ P, s.extract f s.size = P := ⟨_, rfl⟩
      have hPl : P.data.toList = s.data.toList.drop f := by rw [← hP, extract_end]
      have zP : P.size ≤ 16777216 := by rw [← toList_length, hPl, List.length_drop]; omega
      have HC := hide (HCH.out P wr HS.out zP)
      rw [hPl] at HC
      have HR : Hid (s.size = f + (s.size - f)) := hide (by omega)
      have HTK : Hid ((s.data.toList.drop f).take (s.size - f) = s.data.toList.drop f) := hide (by rw [List.take_of_length_le (by rw [List.length_drop]; omega)])
      have HRS := hide hrs
      have q0 : (f : Int) ≤ s.size := by omega
      have t1 : decide ((k : Int) < s.size) = false := decide_eq_false (by omega)
      clear hkk hrs hPl zP HI hla hna tcase
      go_wp2_with fail
      refine HC.out.mono ?_
      rintro e wc ⟨rfl, o2, vs2, hs2, hm2, hl2⟩
      have z0 := hs2.c0
      have HP2 := hide (⟨o2, vs2, hs2, hm2, hl2⟩ : ScP B b s _ _ W0 wc)
      clear hs2 hm2 hl2
      go_wp2_with fail
      go_ret
      exact ⟨s.size, rfl, by rw [HRS.out]; exact HR.out, by rw [HRS.out, HTK.out]; exact HP2.out⟩
end Go.Proofs.YtiejmkjpgjbodaaGreatDoor

namespace Go.Proofs.YtiejmkjpgjbodaaGreatDoor
open Go.RowKit
set_option linter.unusedVariables false
set_option linter.unusedSimpArgs false
set_option maxRecDepth 100000
def isRB (c : UInt8) : Bool := letterB c || digitB c || c == 35
theorem dig10_rb (c : UInt8) : digB 10 c ≠ none → isRB c = true := u8_all (p := fun c => digB 10 c ≠ none → isRB c = true) (by decide +kernel) c
theorem dig16_rb (c : UInt8) : digB 16 c ≠ none → isRB c = true := u8_all (p := fun c => digB 16 c ≠ none → isRB c = true) (by decide +kernel) c
theorem parse_rb {b : Nat} (hb : ∀ c, digB b c ≠ none → isRB c = true) (l : List UInt8) : ∀ m n, parseB b m l = some n → l.all isRB = true := by
  induction l with
  | nil => intro _ _ _; rfl
  | cons c r ih =>
    intro m n h
    rw [parseB] at h
    cases hd : digB b c with
    | none => rw [hd] at h; cases h
    | some d =>
      rw [hd] at h
      rw [List.all_cons, hb c (by rw [hd]; intro e; cases e), ih _ _ h]; rfl
theorem numAt_rb {b m : Nat} (hb : ∀ c, digB b c ≠ none → isRB c = true) {l : List UInt8} {x : Int} (h : numAt b m l = some x) : l.all isRB = true ∧ l.length ≤ m := by
  unfold numAt at h
  split at h
  · cases h
  · rename_i n hn
    split at h
    · cases h
    · rename_i hl
      refine ⟨?_, by omega⟩
      unfold parseU at hn
      split at hn
      · cases hn
      · exact parse_rb hb l _ _ hn
def namesL : List (List UInt8) := [[97, 109, 112], [108, 116], [103, 116], [113, 117, 111, 116], [97, 112, 111, 115], [110, 98, 115, 112], [99, 111, 112, 121], [114, 101, 103], [101, 117, 114, 111], [104, 101, 108, 108, 105, 112], [110, 100, 97, 115, 104], [109, 100, 97, 115, 104], [108, 115, 113, 117, 111], [114, 115, 113, 117, 111], [108, 100, 113, 117, 111], [114, 100, 113, 117, 111]]
theorem putN_mem {f : List UInt8 → Option Int} {k : List UInt8} {c : Int} (hk : k ∈ namesL) (hf : ∀ y x, f y = some x → y ∈ namesL) : ∀ y x, putN f k c y = some x → y ∈ namesL := by
  intro y x h
  unfold putN at h
  split at h
  · rename_i e; rw [e]; exact hk
  · exact hf y x h
theorem name_mem : ∀ y x, nameN y = some x → y ∈ namesL := by
  unfold nameN
  repeat (refine putN_mem (by decide) ?_)
  intro y x h; cases h
theorem pref_one (l : List UInt8) (c : UInt8) : Lib.hasPrefix l [c] = true ↔ ∃ r, l = c :: r := by
  cases l with
  | nil => exact ⟨fun h => by simp [Lib.hasPrefix] at h, fun ⟨r, h⟩ => by cases h⟩
  | cons a r =>
    refine ⟨fun h => ⟨r, ?_⟩, fun ⟨q, h⟩ => by injection h with h1 h2; subst h1; simp [Lib.hasPrefix]⟩
    have : c = a := by simpa [Lib.hasPrefix] using h
    rw [this]
theorem trim_one (c : UInt8) (r : List UInt8) : Lib.trimPrefix (c :: r) [c] = r := by
  unfold Lib.trimPrefix
  rw [(pref_one _ c).2 ⟨r, rfl⟩]; rfl
theorem sgn_num (r : List UInt8) : sgn (35 :: r) = byN r := by
  unfold sgn
  rw [if_pos ((pref_one _ 35).2 ⟨r, rfl⟩), trim_one]
theorem byN_x (c : UInt8) (r : List UInt8) (h : c = 120 ∨ c = 88) : byN (c :: r) = numAt 16 6 r := by
  unfold byN
  rcases h with rfl | rfl
  · rw [(pref_one _ 120).2 ⟨r, rfl⟩]; rfl
  · rw [(pref_one _ 88).2 ⟨r, rfl⟩, Bool.or_true]; rfl
theorem byN_d (l : List UInt8) (h : ∀ c r, l = c :: r → ¬(c = 120 ∨ c = 88)) : byN l = numAt 10 7 l := by
  unfold byN
  have h1 : Lib.hasPrefix l [120] = false := by
    cases e : Lib.hasPrefix l [120] with
    | false => rfl
    | true => obtain ⟨r, hr⟩ := (pref_one _ _).1 e; exact absurd (.inl rfl) (h _ _ hr)
  have h2 : Lib.hasPrefix l [88] = false := by
    cases e : Lib.hasPrefix l [88] with
    | false => rfl
    | true => obtain ⟨r, hr⟩ := (pref_one _ _).1 e; exact absurd (.inr rfl) (h _ _ hr)
  rw [h1, h2]; rfl
theorem sgn_name (l : List UInt8) (h : ∀ r, l ≠ 35 :: r) : sgn l = nameN l := by
  unfold sgn
  rw [if_neg (by intro e; obtain ⟨r, hr⟩ := (pref_one _ _).1 e; exact h r hr)]
theorem byN_rb {l : List UInt8} {x : Int} (h : byN l = some x) : l.all isRB = true ∧ l.length ≤ 7 := by
  match l, h with
  | [], h => rw [show byN [] = none by decide] at h; cases h
  | c :: r, h =>
    by_cases hc : c = 120 ∨ c = 88
    · rw [byN_x c r hc] at h
      obtain ⟨h1, h2⟩ := numAt_rb dig16_rb h
      refine ⟨?_, by simp; omega⟩
      rw [List.all_cons, h1]
      rcases hc with rfl | rfl <;> decide
    · rw [byN_d (c :: r) (by intro c' r' e; injection e with e1 e2; subst e1; exact hc)] at h
      exact numAt_rb dig10_rb h
theorem sgn_rb {k : List UInt8} {x : Int} (h : sgn k = some x) : k.all isRB = true ∧ k.length ≤ 8 := by
  by_cases hk : ∃ r, k = 35 :: r
  · obtain ⟨r, rfl⟩ := hk
    rw [sgn_num] at h
    obtain ⟨h1, h2⟩ := byN_rb h
    exact ⟨by rw [List.all_cons, h1]; decide, by simp; omega⟩
  · rw [sgn_name k (fun r e => hk ⟨r, e⟩)] at h
    have := name_mem k x h
    have ha : ∀ y ∈ namesL, y.all isRB = true ∧ y.length ≤ 8 := by decide
    exact ha k this
theorem rb_semi {k : List UInt8} (h : k.all isRB = true) : (59 : UInt8) ∉ k := fun hm => absurd (List.all_eq_true.1 h 59 hm) (by decide)
def runV (k q : List UInt8) : Int × Nat := match q with
  | 59 :: _ => (match sgn k with | some x => (x, k.length + 1) | none => (0, 0))
  | _ => (0, 0)
theorem runV_semi (k X : List UInt8) : runV k (59 :: X) = match sgn k with | some x => (x, k.length + 1) | none => (0, 0) := rfl
theorem runV_no {k q : List UInt8} (h : ∀ X, q ≠ 59 :: X) : runV k q = (0, 0) := by
  unfold runV
  split
  · rename_i X; exact absurd rfl (h X)
  · rfl
theorem refN_run {r k q : List UInt8} (e : r = k ++ q) (hk : k.all isRB = true) (hq : ∀ c t, q = c :: t → isRB c = false) :
    refN r = runV k q := by
  by_cases hs : ∃ X, q = 59 :: X
  · obtain ⟨X, rfl⟩ := hs
    subst e
    rw [runV_semi]
    by_cases hl : k.length ≤ 8
    · exact refN_at (rb_semi hk) hl X
    · have hn : sgn k = none := by
        cases h : sgn k with
        | none => rfl
        | some x => exact absurd (sgn_rb h).2 hl
      rw [hn]
      have ht : (k ++ 59 :: X).take 9 = k.take 9 := by rw [List.take_append_of_le_length (by omega)]
      have hh : hasC 59 ((k ++ 59 :: X).take 9) = false := by
        rw [ht]
        exact hasC_false (fun hm => rb_semi hk (List.mem_of_mem_take hm))
      unfold refN
      rw [hh]
      split
      · rename_i h; cases h
      · rfl
  · rw [runV_no (fun X e => hs ⟨X, e⟩)]
    unfold refN
    split
    · rename_i x h1 h2
      exfalso
      rcases cut_case 59 (r.take 9) with ⟨h3, _, _⟩ | ⟨a, t, h3, h4, h5, _⟩
      · rw [hasC_false h3] at h2; cases h2
      · rw [h5] at h1
        have ha := (sgn_rb h1).1
        have h6 : r = a ++ 59 :: (t ++ r.drop 9) := by
          conv => lhs; rw [← List.take_append_drop 9 r, h3]
          simp
        rw [e] at h6
        rcases List.append_eq_append_iff.1 h6 with ⟨u, hu1, hu2⟩ | ⟨u, hu1, hu2⟩
        · cases u with
          | nil => exact hs ⟨_, by simpa using hu2⟩
          | cons c u =>
            have := hq c _ hu2
            rw [hu1, List.all_append, Bool.and_eq_true] at ha
            rw [List.all_cons, Bool.and_eq_true] at ha
            rw [this] at ha
            exact absurd ha.2.1 (by decide)
        · cases u with
          | nil => exact hs ⟨_, by simpa using hu2.symm⟩
          | cons c u =>
            rw [List.cons_append] at hu2
            injection hu2 with hu3 _
            rw [hu1, List.all_append, Bool.and_eq_true] at hk
            rw [List.all_cons, Bool.and_eq_true, ← hu3] at hk
            exact absurd hk.2.1 (by decide)
    · rfl
end Go.Proofs.YtiejmkjpgjbodaaGreatDoor

namespace Go.Proofs.YtiejmkjpgjbodaaGreatDoor
open Go.RowKit
set_option linter.unusedVariables false
set_option linter.unusedSimpArgs false
theorem conv2s (w : World) (x y : Int) : (convert 56 9 (.slice (some ⟨w.heap.size, 0, none⟩) 2 2)).run Tryz.prog (w.alloc (.cells #[.int .u8 x, .int .u8 y] 5)) = .ok (.string (strOfNums [x, y])) (w.alloc (.cells #[.int .u8 x, .int .u8 y] 5)) :=
  run_convert_bytes_arg (P := Tryz.prog) _ 56 5 Tryz.underlying56 Tryz.underlying5 w.heap.size 0 2 2 [x, y] rfl (fun i hi => by
    rw [World.cell?_alloc_at _ _ _ _ (by simp)]
    obtain rfl | rfl : i = 0 ∨ i = 1 := by omega
    all_goals rfl) 9 Tryz.underlying9
theorem conv4s (w : World) (x y z u : Int) : (convert 56 9 (.slice (some ⟨w.heap.size, 0, none⟩) 4 4)).run Tryz.prog (w.alloc (.cells #[.int .u8 x, .int .u8 y, .int .u8 z, .int .u8 u] 5)) = .ok (.string (strOfNums [x, y, z, u])) (w.alloc (.cells #[.int .u8 x, .int .u8 y, .int .u8 z, .int .u8 u] 5)) :=
  run_convert_bytes_arg (P := Tryz.prog) _ 56 5 Tryz.underlying56 Tryz.underlying5 w.heap.size 0 4 4 [x, y, z, u] rfl (fun i hi => by
    rw [World.cell?_alloc_at _ _ _ _ (by simp)]
    obtain rfl | rfl | rfl | rfl : i = 0 ∨ i = 1 ∨ i = 2 ∨ i = 3 := by omega
    all_goals rfl) 9 Tryz.underlying9
theorem natI (m : Nat) : UInt8.ofNat ((m : Nat) : Int).toNat = UInt8.ofNat m := by rw [Int.toNat_natCast]
set_option maxHeartbeats 2000000 in
theorem sign_any (n : Nat) (w : World) (hn : n ≤ 1114111) :
    Calls Tryz.prog 181 #[.int .i64 n] w fun e w' => e = .returned (.string (str (runeL n))) ∧ Below w.heap.size w w' := by
  have t1 : decide ((n : Int) < 0) = false := decide_eq_false (by omega)
  have t2 : decide ((1114111 : Int) < n) = false := decide_eq_false (by omega)
  by_cases hs : 55296 ≤ n ∧ n ≤ 57343
  · have t3 : decide ((55296 : Int) ≤ n) = true := decide_eq_true (by omega)
    have t4 : decide ((n : Int) ≤ 57343) = true := decide_eq_true (by omega)
    have HB : Hid (runeL (n : Int) = bad) := hide (runeL_bad (by omega))
    clear hs hn
    go_enter Tryz.func181, Tryz.ntmps181
    go_wp2
    go_ret
    exact ⟨ret_str (by rw [HB.out]; rfl), Below.refl _ _⟩
  have t34 : decide ((55296 : Int) ≤ n) = false ∨ (decide ((55296 : Int) ≤ n) = true ∧ decide ((n : Int) ≤ 57343) = false) := by
    by_cases g : 55296 ≤ n
    · exact .inr ⟨decide_eq_true (by omega), decide_eq_false (by omega)⟩
    · exact .inl (decide_eq_false (by omega))
  by_cases h1 : n < 128
  · have HR : Hid (runeL (n : Int) = [UInt8.ofNat n]) := hide (runeL_one h1)
    have u1 : decide ((n : Int) < 128) = true := decide_eq_true (by omega)
    have w1 : IntKind.u8.wrap (n : Int) = n := IntWalk.u8_in _ (by omega)
    have hcv := conv1
    clear hn hs h1
    rcases t34 with t3 | ⟨t3, t4⟩
    all_goals
      go_enter Tryz.func181, Tryz.ntmps181
      go_wp2
      go_ret
      exact ⟨ret_str (by rw [HR.out]; exact nums_str (by simp only [List.map_cons, List.map_nil, natI])), (Below.refl _ _).alloc (Nat.le_refl _) _⟩
  have u1 : decide ((n : Int) < 128) = false := decide_eq_false (by omega)
  by_cases h2 : n < 2048
  · have HR : Hid (runeL (n : Int) = [UInt8.ofNat (192 + n / 64), UInt8.ofNat (128 + n % 64)]) := hide (runeL_two (by omega) (by omega))
    have u2 : decide ((n : Int) < 2048) = true := decide_eq_true (by omega)
    obtain ⟨x, hx⟩ : ∃ x : Nat, x = n / 64 := ⟨_, rfl⟩
    obtain ⟨y, hy⟩ : ∃ y : Nat, y = n % 64 := ⟨_, rfl⟩
    have hx' : (n : Int) / 64 = x := by omega
    have hy' : (n : Int) % 64 = y := by omega
    have hxb : x < 32 := by omega
    have hyb : y < 64 := by omega
    rw [← hx, ← hy] at HR
    have hcv := conv2s
    clear hn hs h1 h2 hx hy
    rcases t34 with t3 | ⟨t3, t4⟩
    all_goals
      go_enter Tryz.func181, Tryz.ntmps181
      go_wp2
      go_ret
      exact ⟨ret_str (by rw [HR.out]; exact nums_str (by simp only [List.map_cons, List.map_nil]; rfl)), (Below.refl _ _).alloc (Nat.le_refl _) _⟩
  have u2 : decide ((n : Int) < 2048) = false := decide_eq_false (by omega)
  by_cases h3 : n < 65536
  · have HR : Hid (runeL (n : Int) = [UInt8.ofNat (224 + n / 4096), UInt8.ofNat (128 + n / 64 % 64), UInt8.ofNat (128 + n % 64)]) := hide (runeL_three (by omega) (by omega) hs)
    have u3 : decide ((n : Int) < 65536) = true := decide_eq_true (by omega)
    obtain ⟨x, hx⟩ : ∃ x : Nat, x = n / 4096 := ⟨_, rfl⟩
    obtain ⟨p, hp⟩ : ∃ p : Nat, p = n / 64 := ⟨_, rfl⟩
    obtain ⟨y, hy⟩ : ∃ y : Nat, y = p % 64 := ⟨_, rfl⟩
    obtain ⟨z, hz⟩ : ∃ z : Nat, z = n % 64 := ⟨_, rfl⟩
    have hx' : (n : Int) / 4096 = x := by omega
    have hp' : (n : Int) / 64 = p := by omega
    have hy' : (p : Int) % 64 = y := by omega
    have hz' : (n : Int) % 64 = z := by omega
    have hxb : x < 16 := by omega
    have hyb : y < 64 := by omega
    have hzb : z < 64 := by omega
    rw [← hx, ← hp, ← hy, ← hz] at HR
    have hcv := conv3
    clear hn hs h1 h2 h3 hx hy hz hp
    rcases t34 with t3 | ⟨t3, t4⟩
    all_goals
      go_enter Tryz.func181, Tryz.ntmps181
      go_wp2
      go_ret
      exact ⟨ret_str (by rw [HR.out]; exact nums_str (by simp only [List.map_cons, List.map_nil]; rfl)), (Below.refl _ _).alloc (Nat.le_refl _) _⟩
  · have HR : Hid (runeL (n : Int) = [UInt8.ofNat (240 + n / 262144), UInt8.ofNat (128 + n / 4096 % 64), UInt8.ofNat (128 + n / 64 % 64), UInt8.ofNat (128 + n % 64)]) := hide (runeL_four (by omega) hn)
    have u3 : decide ((n : Int) < 65536) = false := decide_eq_false (by omega)
    obtain ⟨x, hx⟩ : ∃ x : Nat, x = n / 262144 := ⟨_, rfl⟩
    obtain ⟨q, hq⟩ : ∃ q : Nat, q = n / 4096 := ⟨_, rfl⟩
    obtain ⟨p, hp⟩ : ∃ p : Nat, p = n / 64 := ⟨_, rfl⟩
    obtain ⟨y, hy⟩ : ∃ y : Nat, y = q % 64 := ⟨_, rfl⟩
    obtain ⟨z, hz⟩ : ∃ z : Nat, z = p % 64 := ⟨_, rfl⟩
    obtain ⟨u, hu⟩ : ∃ u : Nat, u = n % 64 := ⟨_, rfl⟩
    have hx' : (n : Int) / 262144 = x := by omega
    have hq' : (n : Int) / 4096 = q := by omega
    have hp' : (n : Int) / 64 = p := by omega
    have hy' : (q : Int) % 64 = y := by omega
    have hz' : (p : Int) % 64 = z := by omega
    have hu' : (n : Int) % 64 = u := by omega
    have hxb : x < 8 := by omega
    have hyb : y < 64 := by omega
    have hzb : z < 64 := by omega
    have hub : u < 64 := by omega
    rw [← hx, ← hq, ← hp, ← hy, ← hz, ← hu] at HR
    have hcv := conv4s
    clear hn hs h1 h2 h3 hx hy hz hu hp hq
    rcases t34 with t3 | ⟨t3, t4⟩
    all_goals
      go_enter Tryz.func181, Tryz.ntmps181
      go_wp2
      go_ret
      exact ⟨ret_str (by rw [HR.out]; exact nums_str (by simp only [List.map_cons, List.map_nil]; rfl)), (Below.refl _ _).alloc (Nat.le_refl _) _⟩
theorem win_at (j : Nat) (h : j < 32) : ∃ m : Nat, winTab.getD j 0 = m ∧ m ≤ 65535 := by
  have : ∀ j, j < 32 → 0 ≤ winTab.getD j 0 ∧ winTab.getD j 0 ≤ 65535 := by decide +kernel
  exact ⟨(winTab.getD j 0).toNat, by have := (this j h).1; omega, by have := (this j h).2; omega⟩
set_option maxRecDepth 100000 in
set_option maxHeartbeats 2000000 in
theorem high_any (c : UInt8) (w : World) (h0 : 128 ≤ c.toNat) (h1 : c.toNat < 160) :
    Calls Tryz.prog 207 #[.int .u8 c.toNat] w fun e w' => e = .returned (.int .i64 (winTab.getD (c.toNat - 128) 0)) ∧ Below w.heap.size w w' := by
  have e : ∃ j : Nat, j < 32 ∧ c.toNat = 128 + j := ⟨c.toNat - 128, by omega, by omega⟩
  obtain ⟨j, hj, hc⟩ := e
  rw [hc, show 128 + j - 128 = j from by omega]
  clear h0 h1 hc
  have hcell : ∀ z, (w.alloc (.cells #[.int .i64 8364, .int .i64 129, .int .i64 8218, .int .i64 402, .int .i64 8222, .int .i64 8230, .int .i64 8224, .int .i64 8225, .int .i64 710, .int .i64 8240, .int .i64 352, .int .i64 8249, .int .i64 338, .int .i64 141, .int .i64 381, .int .i64 143, .int .i64 144, .int .i64 8216, .int .i64 8217, .int .i64 8220, .int .i64 8221, .int .i64 8226, .int .i64 8211, .int .i64 8212, .int .i64 732, .int .i64 8482, .int .i64 353, .int .i64 8250, .int .i64 339, .int .i64 157, .int .i64 382, .int .i64 376] z)).cell? ⟨w.heap.size, j, none⟩ = some (.int .i64 (winTab.getD j 0)) := by
    intro z
    rw [World.cell?_alloc_at _ _ _ _ (by simp)]
    have : ∀ j, j < 32 → (#[Value.int .i64 8364, .int .i64 129, .int .i64 8218, .int .i64 402, .int .i64 8222, .int .i64 8230, .int .i64 8224, .int .i64 8225, .int .i64 710, .int .i64 8240, .int .i64 352, .int .i64 8249, .int .i64 338, .int .i64 141, .int .i64 381, .int .i64 143, .int .i64 144, .int .i64 8216, .int .i64 8217, .int .i64 8220, .int .i64 8221, .int .i64 8226, .int .i64 8211, .int .i64 8212, .int .i64 732, .int .i64 8482, .int .i64 353, .int .i64 8250, .int .i64 339, .int .i64 157, .int .i64 382, .int .i64 376] : Array Value)[j]? = some (.int .i64 (winTab.getD j 0)) := by
      intro j hj
      have hw : winTab.length = 32 := rfl
      have e : (#[Value.int .i64 8364, .int .i64 129, .int .i64 8218, .int .i64 402, .int .i64 8222, .int .i64 8230, .int .i64 8224, .int .i64 8225, .int .i64 710, .int .i64 8240, .int .i64 352, .int .i64 8249, .int .i64 338, .int .i64 141, .int .i64 381, .int .i64 143, .int .i64 144, .int .i64 8216, .int .i64 8217, .int .i64 8220, .int .i64 8221, .int .i64 8226, .int .i64 8211, .int .i64 8212, .int .i64 732, .int .i64 8482, .int .i64 353, .int .i64 8250, .int .i64 339, .int .i64 157, .int .i64 382, .int .i64 376] : Array Value) = (winTab.map fun z => Value.int .i64 z).toArray := rfl
      rw [e]
      simp [List.getD, hw, hj]
    exact this j hj
  have q1 : IntKind.u8.wrap (128 + (j : Int) - 128) = j := by rw [show 128 + (j : Int) - 128 = j from by omega]; exact IntWalk.u8_in _ (by omega)
  have hj' : (j : Int) < 32 := by omega
  show Calls _ _ #[.int .u8 ((128 + j : Nat) : Int)] _ _
  rw [show ((128 + j : Nat) : Int) = 128 + (j : Int) from by omega]
  go_enter Tryz.func207, Tryz.ntmps207
  go_wp2
  go_ret
  exact ⟨rfl, (Below.refl _ _).alloc (Nat.le_refl _) _⟩
end Go.Proofs.YtiejmkjpgjbodaaGreatDoor

namespace Go.Proofs.YtiejmkjpgjbodaaGreatDoor
open Go.RowKit
set_option linter.unusedVariables false
set_option linter.unusedSimpArgs false
set_option maxRecDepth 100000
def namedB (l : List UInt8) : ByteArray := match nameN l with | some x => str (runeL x) | none => ⟨#[]⟩
theorem sign_lit (n : Nat) (z : Int) (hz : z = n) (w : World) (hn : n ≤ 1114111) :
    Calls Tryz.prog 181 #[.int .i64 z] w fun e w' => e = .returned (.string (str (runeL n))) ∧ Below w.heap.size w w' := by
  subst hz; exact sign_any n w hn
set_option maxHeartbeats 4000000 in
theorem refNamed_any (s : ByteArray) (w : World) :
    Calls Tryz.prog 160 #[.string s] w fun e w' => e = .returned (.string (namedB s.data.toList)) ∧ Below w.heap.size w w' := by
  by_cases h0 : s.data.toList = [97, 109, 112]
  · have HV : Hid (namedB s.data.toList = ⟨#[38]⟩) := hide (by rw [h0]; decide)
    have t0 : (s.toList == [97, 109, 112]) = true := by rw [bytes_list, h0]; rfl
    clear h0
    go_enter Tryz.func160, Tryz.ntmps160
    go_wp2_with fail
    go_ret
    exact ⟨by rw [HV.out] <;> rfl, Below.refl _ _⟩
  have t0 : (s.toList == [97, 109, 112]) = false := by rw [bytes_list]; simp only [beq_eq_false_iff_ne, ne_eq]; exact h0
  by_cases h1 : s.data.toList = [108, 116]
  · have HV : Hid (namedB s.data.toList = ⟨#[60]⟩) := hide (by rw [h1]; decide)
    have t1 : (s.toList == [108, 116]) = true := by rw [bytes_list, h1]; rfl
    clear h0 h1
    go_enter Tryz.func160, Tryz.ntmps160
    go_wp2_with fail
    go_ret
    exact ⟨by rw [HV.out] <;> rfl, Below.refl _ _⟩
  have t1 : (s.toList == [108, 116]) = false := by rw [bytes_list]; simp only [beq_eq_false_iff_ne, ne_eq]; exact h1
  by_cases h2 : s.data.toList = [103, 116]
  · have HV : Hid (namedB s.data.toList = ⟨#[62]⟩) := hide (by rw [h2]; decide)
    have t2 : (s.toList == [103, 116]) = true := by rw [bytes_list, h2]; rfl
    clear h0 h1 h2
    go_enter Tryz.func160, Tryz.ntmps160
    go_wp2_with fail
    go_ret
    exact ⟨by rw [HV.out] <;> rfl, Below.refl _ _⟩
  have t2 : (s.toList == [103, 116]) = false := by rw [bytes_list]; simp only [beq_eq_false_iff_ne, ne_eq]; exact h2
  by_cases h3 : s.data.toList = [113, 117, 111, 116]
  · have HV : Hid (namedB s.data.toList = ⟨#[34]⟩) := hide (by rw [h3]; decide)
    have t3 : (s.toList == [113, 117, 111, 116]) = true := by rw [bytes_list, h3]; rfl
    clear h0 h1 h2 h3
    go_enter Tryz.func160, Tryz.ntmps160
    go_wp2_with fail
    go_ret
    exact ⟨by rw [HV.out] <;> rfl, Below.refl _ _⟩
  have t3 : (s.toList == [113, 117, 111, 116]) = false := by rw [bytes_list]; simp only [beq_eq_false_iff_ne, ne_eq]; exact h3
  by_cases h4 : s.data.toList = [97, 112, 111, 115]
  · have HV : Hid (namedB s.data.toList = ⟨#[39]⟩) := hide (by rw [h4]; decide)
    have t4 : (s.toList == [97, 112, 111, 115]) = true := by rw [bytes_list, h4]; rfl
    clear h0 h1 h2 h3 h4
    go_enter Tryz.func160, Tryz.ntmps160
    go_wp2_with fail
    go_ret
    exact ⟨by rw [HV.out] <;> rfl, Below.refl _ _⟩
  have t4 : (s.toList == [97, 112, 111, 115]) = false := by rw [bytes_list]; simp only [beq_eq_false_iff_ne, ne_eq]; exact h4
  by_cases h5 : s.data.toList = [110, 98, 115, 112]
  · have HV : Hid (namedB s.data.toList = str (runeL (160 : Nat))) := hide (by rw [h5]; rfl)
    have t5 : (s.toList == [110, 98, 115, 112]) = true := by rw [bytes_list, h5]; rfl
    clear h0 h1 h2 h3 h4 h5
    go_enter Tryz.func160, Tryz.ntmps160
    go_wp2_with (go_at_call 181; refine (sign_lit 160 _ rfl _ (by decide)).mono ?_; rintro e w1 ⟨rfl, hb1⟩)
    go_ret
    exact ⟨by rw [HV.out] <;> rfl, hb1⟩
  have t5 : (s.toList == [110, 98, 115, 112]) = false := by rw [bytes_list]; simp only [beq_eq_false_iff_ne, ne_eq]; exact h5
  by_cases h6 : s.data.toList = [99, 111, 112, 121]
  · have HV : Hid (namedB s.data.toList = str (runeL (169 : Nat))) := hide (by rw [h6]; rfl)
    have t6 : (s.toList == [99, 111, 112, 121]) = true := by rw [bytes_list, h6]; rfl
    clear h0 h1 h2 h3 h4 h5 h6
    go_enter Tryz.func160, Tryz.ntmps160
    go_wp2_with (go_at_call 181; refine (sign_lit 169 _ rfl _ (by decide)).mono ?_; rintro e w1 ⟨rfl, hb1⟩)
    go_ret
    exact ⟨by rw [HV.out] <;> rfl, hb1⟩
  have t6 : (s.toList == [99, 111, 112, 121]) = false := by rw [bytes_list]; simp only [beq_eq_false_iff_ne, ne_eq]; exact h6
  by_cases h7 : s.data.toList = [114, 101, 103]
  · have HV : Hid (namedB s.data.toList = str (runeL (174 : Nat))) := hide (by rw [h7]; rfl)
    have t7 : (s.toList == [114, 101, 103]) = true := by rw [bytes_list, h7]; rfl
    clear h0 h1 h2 h3 h4 h5 h6 h7
    go_enter Tryz.func160, Tryz.ntmps160
    go_wp2_with (go_at_call 181; refine (sign_lit 174 _ rfl _ (by decide)).mono ?_; rintro e w1 ⟨rfl, hb1⟩)
    go_ret
    exact ⟨by rw [HV.out] <;> rfl, hb1⟩
  have t7 : (s.toList == [114, 101, 103]) = false := by rw [bytes_list]; simp only [beq_eq_false_iff_ne, ne_eq]; exact h7
  by_cases h8 : s.data.toList = [104, 101, 108, 108, 105, 112]
  · have HV : Hid (namedB s.data.toList = str (runeL (8230 : Nat))) := hide (by rw [h8]; rfl)
    have t8 : (s.toList == [104, 101, 108, 108, 105, 112]) = true := by rw [bytes_list, h8]; rfl
    clear h0 h1 h2 h3 h4 h5 h6 h7 h8
    go_enter Tryz.func160, Tryz.ntmps160
    go_wp2_with (go_at_call 181; refine (sign_lit 8230 _ rfl _ (by decide)).mono ?_; rintro e w1 ⟨rfl, hb1⟩)
    go_ret
    exact ⟨by rw [HV.out] <;> rfl, hb1⟩
  have t8 : (s.toList == [104, 101, 108, 108, 105, 112]) = false := by rw [bytes_list]; simp only [beq_eq_false_iff_ne, ne_eq]; exact h8
  by_cases h9 : s.data.toList = [110, 100, 97, 115, 104]
  · have HV : Hid (namedB s.data.toList = str (runeL (8211 : Nat))) := hide (by rw [h9]; rfl)
    have t9 : (s.toList == [110, 100, 97, 115, 104]) = true := by rw [bytes_list, h9]; rfl
    clear h0 h1 h2 h3 h4 h5 h6 h7 h8 h9
    go_enter Tryz.func160, Tryz.ntmps160
    go_wp2_with (go_at_call 181; refine (sign_lit 8211 _ rfl _ (by decide)).mono ?_; rintro e w1 ⟨rfl, hb1⟩)
    go_ret
    exact ⟨by rw [HV.out] <;> rfl, hb1⟩
  have t9 : (s.toList == [110, 100, 97, 115, 104]) = false := by rw [bytes_list]; simp only [beq_eq_false_iff_ne, ne_eq]; exact h9
  by_cases h10 : s.data.toList = [109, 100, 97, 115, 104]
  · have HV : Hid (namedB s.data.toList = str (runeL (8212 : Nat))) := hide (by rw [h10]; rfl)
    have t10 : (s.toList == [109, 100, 97, 115, 104]) = true := by rw [bytes_list, h10]; rfl
    clear h0 h1 h2 h3 h4 h5 h6 h7 h8 h9 h10
    go_enter Tryz.func160, Tryz.ntmps160
    go_wp2_with (go_at_call 181; refine (sign_lit 8212 _ rfl _ (by decide)).mono ?_; rintro e w1 ⟨rfl, hb1⟩)
    go_ret
    exact ⟨by rw [HV.out] <;> rfl, hb1⟩
  have t10 : (s.toList == [109, 100, 97, 115, 104]) = false := by rw [bytes_list]; simp only [beq_eq_false_iff_ne, ne_eq]; exact h10
  by_cases h11 : s.data.toList = [101, 117, 114, 111]
  · have HV : Hid (namedB s.data.toList = str (runeL (8364 : Nat))) := hide (by rw [h11]; rfl)
    have t11 : (s.toList == [101, 117, 114, 111]) = true := by rw [bytes_list, h11]; rfl
    clear h0 h1 h2 h3 h4 h5 h6 h7 h8 h9 h10 h11
    go_enter Tryz.func160, Tryz.ntmps160
    go_wp2_with (go_at_call 181; refine (sign_lit 8364 _ rfl _ (by decide)).mono ?_; rintro e w1 ⟨rfl, hb1⟩)
    go_ret
    exact ⟨by rw [HV.out] <;> rfl, hb1⟩
  have t11 : (s.toList == [101, 117, 114, 111]) = false := by rw [bytes_list]; simp only [beq_eq_false_iff_ne, ne_eq]; exact h11
  by_cases h12 : s.data.toList = [108, 115, 113, 117, 111]
  · have HV : Hid (namedB s.data.toList = str (runeL (8216 : Nat))) := hide (by rw [h12]; rfl)
    have t12 : (s.toList == [108, 115, 113, 117, 111]) = true := by rw [bytes_list, h12]; rfl
    clear h0 h1 h2 h3 h4 h5 h6 h7 h8 h9 h10 h11 h12
    go_enter Tryz.func160, Tryz.ntmps160
    go_wp2_with (go_at_call 181; refine (sign_lit 8216 _ rfl _ (by decide)).mono ?_; rintro e w1 ⟨rfl, hb1⟩)
    go_ret
    exact ⟨by rw [HV.out] <;> rfl, hb1⟩
  have t12 : (s.toList == [108, 115, 113, 117, 111]) = false := by rw [bytes_list]; simp only [beq_eq_false_iff_ne, ne_eq]; exact h12
  by_cases h13 : s.data.toList = [114, 115, 113, 117, 111]
  · have HV : Hid (namedB s.data.toList = str (runeL (8217 : Nat))) := hide (by rw [h13]; rfl)
    have t13 : (s.toList == [114, 115, 113, 117, 111]) = true := by rw [bytes_list, h13]; rfl
    clear h0 h1 h2 h3 h4 h5 h6 h7 h8 h9 h10 h11 h12 h13
    go_enter Tryz.func160, Tryz.ntmps160
    go_wp2_with (go_at_call 181; refine (sign_lit 8217 _ rfl _ (by decide)).mono ?_; rintro e w1 ⟨rfl, hb1⟩)
    go_ret
    exact ⟨by rw [HV.out] <;> rfl, hb1⟩
  have t13 : (s.toList == [114, 115, 113, 117, 111]) = false := by rw [bytes_list]; simp only [beq_eq_false_iff_ne, ne_eq]; exact h13
  by_cases h14 : s.data.toList = [108, 100, 113, 117, 111]
  · have HV : Hid (namedB s.data.toList = str (runeL (8220 : Nat))) := hide (by rw [h14]; rfl)
    have t14 : (s.toList == [108, 100, 113, 117, 111]) = true := by rw [bytes_list, h14]; rfl
    clear h0 h1 h2 h3 h4 h5 h6 h7 h8 h9 h10 h11 h12 h13 h14
    go_enter Tryz.func160, Tryz.ntmps160
    go_wp2_with (go_at_call 181; refine (sign_lit 8220 _ rfl _ (by decide)).mono ?_; rintro e w1 ⟨rfl, hb1⟩)
    go_ret
    exact ⟨by rw [HV.out] <;> rfl, hb1⟩
  have t14 : (s.toList == [108, 100, 113, 117, 111]) = false := by rw [bytes_list]; simp only [beq_eq_false_iff_ne, ne_eq]; exact h14
  by_cases h15 : s.data.toList = [114, 100, 113, 117, 111]
  · have HV : Hid (namedB s.data.toList = str (runeL (8221 : Nat))) := hide (by rw [h15]; rfl)
    have t15 : (s.toList == [114, 100, 113, 117, 111]) = true := by rw [bytes_list, h15]; rfl
    clear h0 h1 h2 h3 h4 h5 h6 h7 h8 h9 h10 h11 h12 h13 h14 h15
    go_enter Tryz.func160, Tryz.ntmps160
    go_wp2_with (go_at_call 181; refine (sign_lit 8221 _ rfl _ (by decide)).mono ?_; rintro e w1 ⟨rfl, hb1⟩)
    go_ret
    exact ⟨by rw [HV.out] <;> rfl, hb1⟩
  have t15 : (s.toList == [114, 100, 113, 117, 111]) = false := by rw [bytes_list]; simp only [beq_eq_false_iff_ne, ne_eq]; exact h15
  have HV : Hid (namedB s.data.toList = ⟨#[]⟩) := hide (by
    have : nameN s.data.toList = none := by
      cases e : nameN s.data.toList with
      | none => rfl
      | some x =>
        have := name_mem _ x e
        simp only [namesL, List.mem_cons, List.not_mem_nil, or_false] at this
        rcases this with h | h | h | h | h | h | h | h | h | h | h | h | h | h | h | h
        all_goals (first | exact absurd h h0 | exact absurd h h1 | exact absurd h h2 | exact absurd h h3 | exact absurd h h4 | exact absurd h h5 | exact absurd h h6 | exact absurd h h7 | exact absurd h h8 | exact absurd h h9 | exact absurd h h10 | exact absurd h h11 | exact absurd h h12 | exact absurd h h13 | exact absurd h h14 | exact absurd h h15)
    unfold namedB; rw [this])
  clear h0 h1 h2 h3 h4 h5 h6 h7 h8 h9 h10 h11 h12 h13 h14 h15
  go_enter Tryz.func160, Tryz.ntmps160
  go_wp2_with fail
  go_ret
  exact ⟨by rw [HV.out] <;> rfl, Below.refl _ _⟩
end Go.Proofs.YtiejmkjpgjbodaaGreatDoor

namespace Go.Proofs.YtiejmkjpgjbodaaGreatDoor
open Go.RowKit
set_option linter.unusedVariables false
set_option linter.unusedSimpArgs false
set_option maxHeartbeats 2000000 in
theorem clean_any (s : ByteArray) (w : World) (hs : s.size ≤ 70368744177664) :
    Calls Tryz.prog 236 #[.string s] w fun e w' => e = .returned (.string (str (cleanL s.data.toList))) ∧ Below w.heap.size w w' := by
  have HG : Hid (cleanL s.data.toList = lowL (rightW (leftW s.data.toList))) := hide (by unfold cleanL; rw [trim_eq, lr])
  go_enter Tryz.func236, Tryz.ntmps236
  go_wp2_with fail
  go_loop [0] (fun x => ∃ t : ByteArray, x = .string t ∧ t.size ≤ s.size ∧ leftW t.data.toList = leftW s.data.toList) (fun x => szOfC x)
  case atStart => exact ⟨s, rfl, Nat.le_refl _, rfl⟩
  case round =>
    obtain ⟨t, rfl, ht, hd⟩ := hrel
    by_cases hgo : ∃ h0 : 0 < t.size, spaceB t[0] = true
    · obtain ⟨h0, hsp⟩ := hgo
      have e := drop_cons t 0 h0
      rw [List.drop_zero] at e
      have hd2 : leftW (t.extract 1 t.size).data.toList = leftW s.data.toList := by
        rw [extract_end, ← hd]
        conv => rhs; rw [e, leftW_cons, hsp]
        simp
      have HD := hide hd2
      have HS := hide hsp
      clear hd hd2 hsp e
      go_wp2_with fail
      refine (space_any t[0] _).mono ?_
      rintro e w1 ⟨rfl, rfl⟩
      rw [HS.out]
      go_wp2_with fail
      go_round
      case rel => exact ⟨t.extract 1 t.size, rfl, by rw [ByteArray.size_extract]; omega, HD.out⟩
      case measure => simp [szOfC]; omega
    · have hcase : (∃ h0 : 0 < t.size, spaceB t[0] = false) ∨ t.size = 0 := by
        by_cases h0 : 0 < t.size
        · refine .inl ⟨h0, ?_⟩
          cases h : spaceB t[0] with
          | true => exact absurd ⟨h0, h⟩ hgo
          | false => rfl
        · exact .inr (by omega)
      have hlt : leftW t.data.toList = t.data.toList := by
        rcases hcase with ⟨h0, h⟩ | h
        · have e := drop_cons t 0 h0
          rw [List.drop_zero] at e
          rw [e, leftW_cons, h]; simp
        · have e : t.data.toList = [] := List.eq_nil_of_length_eq_zero (by rw [toList_length]; exact h)
          rw [e]; rfl
      rw [hlt] at hd
      have HD := hide hd
      clear hd hlt hgo
      rcases hcase with ⟨h0, h⟩ | h
      · have HS := hide h
        clear h
        go_wp2_with fail
        refine (space_any t[0] _).mono ?_
        rintro e w1 ⟨rfl, rfl⟩
        rw [HS.out]
        go_wp2_with fail
        go_loop [0] (fun x => ∃ u : ByteArray, x = .string u ∧ u.size ≤ s.size ∧ rightW u.data.toList = rightW (leftW s.data.toList)) (fun x => szOfC x)
        case atStart => exact ⟨t, rfl, ht, by rw [HD.out]⟩
        case round =>
          obtain ⟨u, rfl, hu, hr⟩ := hrel
          by_cases hgo : ∃ (n : Nat) (hn : u.size = n + 1), spaceB (u[n]'(by omega)) = true
          · obtain ⟨n, hn, hsp⟩ := hgo
            have hn' : n < u.size := by omega
            have e := snoc_of u n hn
            have hr2 : rightW (u.extract 0 n).data.toList = rightW (leftW s.data.toList) := by
              rw [← hr, e, rightW_snoc, hsp]; simp
            have HR := hide hr2
            have HS := hide hsp
            have hz : (u.size : Int) - 1 = n := by omega
            clear hr hr2 hsp e
            go_wp2_with fail
            refine (space_any u[n] _).mono ?_
            rintro e w1 ⟨rfl, rfl⟩
            rw [HS.out]
            go_wp2_with fail
            go_round
            case rel => exact ⟨u.extract 0 n, rfl, by rw [ByteArray.size_extract]; omega, HR.out⟩
            case measure => simp [szOfC]; omega
          · have hcase2 : (∃ (n : Nat) (hn : u.size = n + 1), spaceB (u[n]'(by omega)) = false) ∨ u.size = 0 := by
              by_cases h0 : 0 < u.size
              · refine .inl ⟨u.size - 1, by omega, ?_⟩
                cases h : spaceB (u[u.size - 1]'(by omega)) with
                | true => exact absurd ⟨u.size - 1, by omega, h⟩ hgo
                | false => rfl
              · exact .inr (by omega)
            have hrt : rightW u.data.toList = u.data.toList := by
              rcases hcase2 with ⟨n, hn, h⟩ | h
              · rw [snoc_of u n hn, rightW_snoc, h]; simp
              · have e : u.data.toList = [] := List.eq_nil_of_length_eq_zero (by rw [toList_length]; exact h)
                rw [e]; rfl
            rw [hrt] at hr
            have HR := hide hr
            clear hr hrt hgo
            rcases hcase2 with ⟨n, hn, h⟩ | h
            · have HS := hide h
              clear h
              have hn' : n < u.size := by omega
              have hz : (u.size : Int) - 1 = n := by omega
              go_wp2_with fail
              refine (space_any u[n] _).mono ?_
              rintro e w1 ⟨rfl, rfl⟩
              rw [HS.out]
              go_wp2_with fail
              refine (small_any _ _ (by omega)).mono ?_
              rintro e w2 ⟨rfl, hb⟩
              go_wp2_with fail
              go_ret
              exact ⟨ret_str (by rw [HR.out, HG.out]), hb⟩
            · go_wp2_with fail
              refine (small_any _ _ (by omega)).mono ?_
              rintro e w2 ⟨rfl, hb⟩
              go_wp2_with fail
              go_ret
              exact ⟨ret_str (by rw [HR.out, HG.out]), hb⟩
      · go_wp2_with fail
        go_loop [0] (fun x => ∃ u : ByteArray, x = .string u ∧ u.size ≤ s.size ∧ rightW u.data.toList = rightW (leftW s.data.toList)) (fun x => szOfC x)
        case atStart => exact ⟨t, rfl, ht, by rw [HD.out]⟩
        case round =>
          obtain ⟨u, rfl, hu, hr⟩ := hrel
          by_cases hgo : ∃ (n : Nat) (hn : u.size = n + 1), spaceB (u[n]'(by omega)) = true
          · obtain ⟨n, hn, hsp⟩ := hgo
            have hn' : n < u.size := by omega
            have e := snoc_of u n hn
            have hr2 : rightW (u.extract 0 n).data.toList = rightW (leftW s.data.toList) := by
              rw [← hr, e, rightW_snoc, hsp]; simp
            have HR := hide hr2
            have HS := hide hsp
            have hz : (u.size : Int) - 1 = n := by omega
            clear hr hr2 hsp e
            go_wp2_with fail
            refine (space_any u[n] _).mono ?_
            rintro e w1 ⟨rfl, rfl⟩
            rw [HS.out]
            go_wp2_with fail
            go_round
            case rel => exact ⟨u.extract 0 n, rfl, by rw [ByteArray.size_extract]; omega, HR.out⟩
            case measure => simp [szOfC]; omega
          · have hcase2 : (∃ (n : Nat) (hn : u.size = n + 1), spaceB (u[n]'(by omega)) = false) ∨ u.size = 0 := by
              by_cases h0 : 0 < u.size
              · refine .inl ⟨u.size - 1, by omega, ?_⟩
                cases h : spaceB (u[u.size - 1]'(by omega)) with
                | true => exact absurd ⟨u.size - 1, by omega, h⟩ hgo
                | false => rfl
              · exact .inr (by omega)
            have hrt : rightW u.data.toList = u.data.toList := by
              rcases hcase2 with ⟨n, hn, h⟩ | h
              · rw [snoc_of u n hn, rightW_snoc, h]; simp
              · have e : u.data.toList = [] := List.eq_nil_of_length_eq_zero (by rw [toList_length]; exact h)
                rw [e]; rfl
            rw [hrt] at hr
            have HR := hide hr
            clear hr hrt hgo
            rcases hcase2 with ⟨n, hn, h⟩ | h
            · have HS := hide h
              clear h
              have hn' : n < u.size := by omega
              have hz : (u.size : Int) - 1 = n := by omega
              go_wp2_with fail
              refine (space_any u[n] _).mono ?_
              rintro e w1 ⟨rfl, rfl⟩
              rw [HS.out]
              go_wp2_with fail
              refine (small_any _ _ (by omega)).mono ?_
              rintro e w2 ⟨rfl, hb⟩
              go_wp2_with fail
              go_ret
              exact ⟨ret_str (by rw [HR.out, HG.out]), hb⟩
            · go_wp2_with fail
              refine (small_any _ _ (by omega)).mono ?_
              rintro e w2 ⟨rfl, hb⟩
              go_wp2_with fail
              go_ret
              exact ⟨ret_str (by rw [HR.out, HG.out]), hb⟩
end Go.Proofs.YtiejmkjpgjbodaaGreatDoor

namespace Go.Proofs.YtiejmkjpgjbodaaGreatDoor
open Go.RowKit
set_option linter.unusedVariables false
set_option linter.unusedSimpArgs false
set_option maxRecDepth 100000 in
set_option maxHeartbeats 4000000 in
theorem refKnown_any (s : ByteArray) (w : World) (hs : s.size ≤ 70368744177664) :
    Calls Tryz.prog 206 #[.string s] w fun e w' => e = .returned (knownV (kindL s.data.toList)) ∧ Below w.heap.size w w' := by
  obtain ⟨x, hx⟩ : ∃ x, x = cleanL s.data.toList := ⟨_, rfl⟩
  obtain ⟨X, hX⟩ : ∃ X, X = str x := ⟨_, rfl⟩
  have HX : Hid (str (cleanL s.data.toList) = X) := hide (by rw [hX, hx])
  have hk : kindL s.data.toList = kindOf x := by rw [hx]; rfl
  rw [hk]
  have HXX := hide hX
  have HSZ : Hid ((str (Lib.trimS s.data.toList whiteSet)).size ≤ 70368744177664) := hide (by
    rw [str_size]
    have h := trimS_length s.data.toList whiteSet
    rw [toList_length] at h; omega)
  clear hx hX hk
  by_cases h0 : x = [117, 116, 102, 45, 56]
  · have HV : Hid (knownV (kindOf x) = .tuple #[.string ⟨#[117, 116, 102, 45, 56]⟩, .bool true]) := hide (by rw [h0, show kindOf [117, 116, 102, 45, 56] = 1 from by decide +kernel]; rfl)
    have t0 : (X.toList == [117, 116, 102, 45, 56]) = true := listT HXX.out h0
    clear h0
    go_enter Tryz.func206, Tryz.ntmps206
    go_wp2_with fail
    refine (clean_any s _ hs).mono ?_
    rintro e w1 ⟨rfl, hbb⟩
    rw [HX.out]
    go_wp2_with fail
    go_ret2
    exact ⟨by rw [HV.out]; rfl, hbb⟩
  have t0 : (X.toList == [117, 116, 102, 45, 56]) = false := listF HXX.out h0
  by_cases h1 : x = [117, 116, 102, 56]
  · have HV : Hid (knownV (kindOf x) = .tuple #[.string ⟨#[117, 116, 102, 45, 56]⟩, .bool true]) := hide (by rw [h1, show kindOf [117, 116, 102, 56] = 1 from by decide +kernel]; rfl)
    have t1 : (X.toList == [117, 116, 102, 56]) = true := listT HXX.out h1
    clear h0 h1
    go_enter Tryz.func206, Tryz.ntmps206
    go_wp2_with fail
    refine (clean_any s _ hs).mono ?_
    rintro e w1 ⟨rfl, hbb⟩
    rw [HX.out]
    go_wp2_with fail
    go_ret2
    exact ⟨by rw [HV.out]; rfl, hbb⟩
  have t1 : (X.toList == [117, 116, 102, 56]) = false := listF HXX.out h1
  by_cases h2 : x = [117, 110, 105, 99, 111, 100, 101, 45, 49, 45, 49, 45, 117, 116, 102, 45, 56]
  · have HV : Hid (knownV (kindOf x) = .tuple #[.string ⟨#[117, 116, 102, 45, 56]⟩, .bool true]) := hide (by rw [h2, show kindOf [117, 110, 105, 99, 111, 100, 101, 45, 49, 45, 49, 45, 117, 116, 102, 45, 56] = 1 from by decide +kernel]; rfl)
    have t2 : (X.toList == [117, 110, 105, 99, 111, 100, 101, 45, 49, 45, 49, 45, 117, 116, 102, 45, 56]) = true := listT HXX.out h2
    clear h0 h1 h2
    go_enter Tryz.func206, Tryz.ntmps206
    go_wp2_with fail
    refine (clean_any s _ hs).mono ?_
    rintro e w1 ⟨rfl, hbb⟩
    rw [HX.out]
    go_wp2_with fail
    go_ret2
    exact ⟨by rw [HV.out]; rfl, hbb⟩
  have t2 : (X.toList == [117, 110, 105, 99, 111, 100, 101, 45, 49, 45, 49, 45, 117, 116, 102, 45, 56]) = false := listF HXX.out h2
  by_cases h3 : x = [119, 105, 110, 100, 111, 119, 115, 45, 49, 50, 53, 50]
  · have HV : Hid (knownV (kindOf x) = .tuple #[.string ⟨#[119, 105, 110, 100, 111, 119, 115, 45, 49, 50, 53, 50]⟩, .bool true]) := hide (by rw [h3, show kindOf [119, 105, 110, 100, 111, 119, 115, 45, 49, 50, 53, 50] = 2 from by decide +kernel]; rfl)
    have t3 : (X.toList == [119, 105, 110, 100, 111, 119, 115, 45, 49, 50, 53, 50]) = true := listT HXX.out h3
    clear h0 h1 h2 h3
    go_enter Tryz.func206, Tryz.ntmps206
    go_wp2_with fail
    refine (clean_any s _ hs).mono ?_
    rintro e w1 ⟨rfl, hbb⟩
    rw [HX.out]
    go_wp2_with fail
    go_ret2
    exact ⟨by rw [HV.out]; rfl, hbb⟩
  have t3 : (X.toList == [119, 105, 110, 100, 111, 119, 115, 45, 49, 50, 53, 50]) = false := listF HXX.out h3
  by_cases h4 : x = [99, 112, 49, 50, 53, 50]
  · have HV : Hid (knownV (kindOf x) = .tuple #[.string ⟨#[119, 105, 110, 100, 111, 119, 115, 45, 49, 50, 53, 50]⟩, .bool true]) := hide (by rw [h4, show kindOf [99, 112, 49, 50, 53, 50] = 2 from by decide +kernel]; rfl)
    have t4 : (X.toList == [99, 112, 49, 50, 53, 50]) = true := listT HXX.out h4
    clear h0 h1 h2 h3 h4
    go_enter Tryz.func206, Tryz.ntmps206
    go_wp2_with fail
    refine (clean_any s _ hs).mono ?_
    rintro e w1 ⟨rfl, hbb⟩
    rw [HX.out]
    go_wp2_with fail
    go_ret2
    exact ⟨by rw [HV.out]; rfl, hbb⟩
  have t4 : (X.toList == [99, 112, 49, 50, 53, 50]) = false := listF HXX.out h4
  by_cases h5 : x = [117, 115, 45, 97, 115, 99, 105, 105]
  · have HV : Hid (knownV (kindOf x) = .tuple #[.string ⟨#[119, 105, 110, 100, 111, 119, 115, 45, 49, 50, 53, 50]⟩, .bool true]) := hide (by rw [h5, show kindOf [117, 115, 45, 97, 115, 99, 105, 105] = 2 from by decide +kernel]; rfl)
    have t5 : (X.toList == [117, 115, 45, 97, 115, 99, 105, 105]) = true := listT HXX.out h5
    clear h0 h1 h2 h3 h4 h5
    go_enter Tryz.func206, Tryz.ntmps206
    go_wp2_with fail
    refine (clean_any s _ hs).mono ?_
    rintro e w1 ⟨rfl, hbb⟩
    rw [HX.out]
    go_wp2_with fail
    go_ret2
    exact ⟨by rw [HV.out]; rfl, hbb⟩
  have t5 : (X.toList == [117, 115, 45, 97, 115, 99, 105, 105]) = false := listF HXX.out h5
  by_cases h6 : x = [97, 115, 99, 105, 105]
  · have HV : Hid (knownV (kindOf x) = .tuple #[.string ⟨#[119, 105, 110, 100, 111, 119, 115, 45, 49, 50, 53, 50]⟩, .bool true]) := hide (by rw [h6, show kindOf [97, 115, 99, 105, 105] = 2 from by decide +kernel]; rfl)
    have t6 : (X.toList == [97, 115, 99, 105, 105]) = true := listT HXX.out h6
    clear h0 h1 h2 h3 h4 h5 h6
    go_enter Tryz.func206, Tryz.ntmps206
    go_wp2_with fail
    refine (clean_any s _ hs).mono ?_
    rintro e w1 ⟨rfl, hbb⟩
    rw [HX.out]
    go_wp2_with fail
    go_ret2
    exact ⟨by rw [HV.out]; rfl, hbb⟩
  have t6 : (X.toList == [97, 115, 99, 105, 105]) = false := listF HXX.out h6
  by_cases h7 : x = [105, 115, 111, 45, 56, 56, 53, 57, 45, 49]
  · have HV : Hid (knownV (kindOf x) = .tuple #[.string ⟨#[119, 105, 110, 100, 111, 119, 115, 45, 49, 50, 53, 50]⟩, .bool true]) := hide (by rw [h7, show kindOf [105, 115, 111, 45, 56, 56, 53, 57, 45, 49] = 2 from by decide +kernel]; rfl)
    have t7 : (X.toList == [105, 115, 111, 45, 56, 56, 53, 57, 45, 49]) = true := listT HXX.out h7
    clear h0 h1 h2 h3 h4 h5 h6 h7
    go_enter Tryz.func206, Tryz.ntmps206
    go_wp2_with fail
    refine (clean_any s _ hs).mono ?_
    rintro e w1 ⟨rfl, hbb⟩
    rw [HX.out]
    go_wp2_with fail
    go_ret2
    exact ⟨by rw [HV.out]; rfl, hbb⟩
  have t7 : (X.toList == [105, 115, 111, 45, 56, 56, 53, 57, 45, 49]) = false := listF HXX.out h7
  by_cases h8 : x = [105, 115, 111, 56, 56, 53, 57, 45, 49]
  · have HV : Hid (knownV (kindOf x) = .tuple #[.string ⟨#[119, 105, 110, 100, 111, 119, 115, 45, 49, 50, 53, 50]⟩, .bool true]) := hide (by rw [h8, show kindOf [105, 115, 111, 56, 56, 53, 57, 45, 49] = 2 from by decide +kernel]; rfl)
    have t8 : (X.toList == [105, 115, 111, 56, 56, 53, 57, 45, 49]) = true := listT HXX.out h8
    clear h0 h1 h2 h3 h4 h5 h6 h7 h8
    go_enter Tryz.func206, Tryz.ntmps206
    go_wp2_with fail
    refine (clean_any s _ hs).mono ?_
    rintro e w1 ⟨rfl, hbb⟩
    rw [HX.out]
    go_wp2_with fail
    go_ret2
    exact ⟨by rw [HV.out]; rfl, hbb⟩
  have t8 : (X.toList == [105, 115, 111, 56, 56, 53, 57, 45, 49]) = false := listF HXX.out h8
  by_cases h9 : x = [108, 97, 116, 105, 110, 49]
  · have HV : Hid (knownV (kindOf x) = .tuple #[.string ⟨#[119, 105, 110, 100, 111, 119, 115, 45, 49, 50, 53, 50]⟩, .bool true]) := hide (by rw [h9, show kindOf [108, 97, 116, 105, 110, 49] = 2 from by decide +kernel]; rfl)
    have t9 : (X.toList == [108, 97, 116, 105, 110, 49]) = true := listT HXX.out h9
    clear h0 h1 h2 h3 h4 h5 h6 h7 h8 h9
    go_enter Tryz.func206, Tryz.ntmps206
    go_wp2_with fail
    refine (clean_any s _ hs).mono ?_
    rintro e w1 ⟨rfl, hbb⟩
    rw [HX.out]
    go_wp2_with fail
    go_ret2
    exact ⟨by rw [HV.out]; rfl, hbb⟩
  have t9 : (X.toList == [108, 97, 116, 105, 110, 49]) = false := listF HXX.out h9
  by_cases h10 : x = [108, 49]
  · have HV : Hid (knownV (kindOf x) = .tuple #[.string ⟨#[119, 105, 110, 100, 111, 119, 115, 45, 49, 50, 53, 50]⟩, .bool true]) := hide (by rw [h10, show kindOf [108, 49] = 2 from by decide +kernel]; rfl)
    have t10 : (X.toList == [108, 49]) = true := listT HXX.out h10
    clear h0 h1 h2 h3 h4 h5 h6 h7 h8 h9 h10
    go_enter Tryz.func206, Tryz.ntmps206
    go_wp2_with fail
    refine (clean_any s _ hs).mono ?_
    rintro e w1 ⟨rfl, hbb⟩
    rw [HX.out]
    go_wp2_with fail
    go_ret2
    exact ⟨by rw [HV.out]; rfl, hbb⟩
  have t10 : (X.toList == [108, 49]) = false := listF HXX.out h10
  by_cases h11 : x = [117, 116, 102, 45, 49, 54, 108, 101]
  · have HV : Hid (knownV (kindOf x) = .tuple #[.string ⟨#[117, 116, 102, 45, 49, 54, 108, 101]⟩, .bool true]) := hide (by rw [h11, show kindOf [117, 116, 102, 45, 49, 54, 108, 101] = 3 from by decide +kernel]; rfl)
    have t11 : (X.toList == [117, 116, 102, 45, 49, 54, 108, 101]) = true := listT HXX.out h11
    clear h0 h1 h2 h3 h4 h5 h6 h7 h8 h9 h10 h11
    go_enter Tryz.func206, Tryz.ntmps206
    go_wp2_with fail
    refine (clean_any s _ hs).mono ?_
    rintro e w1 ⟨rfl, hbb⟩
    rw [HX.out]
    go_wp2_with fail
    go_ret2
    exact ⟨by rw [HV.out]; rfl, hbb⟩
  have t11 : (X.toList == [117, 116, 102, 45, 49, 54, 108, 101]) = false := listF HXX.out h11
  by_cases h12 : x = [117, 116, 102, 45, 49, 54]
  · have HV : Hid (knownV (kindOf x) = .tuple #[.string ⟨#[117, 116, 102, 45, 49, 54, 108, 101]⟩, .bool true]) := hide (by rw [h12, show kindOf [117, 116, 102, 45, 49, 54] = 3 from by decide +kernel]; rfl)
    have t12 : (X.toList == [117, 116, 102, 45, 49, 54]) = true := listT HXX.out h12
    clear h0 h1 h2 h3 h4 h5 h6 h7 h8 h9 h10 h11 h12
    go_enter Tryz.func206, Tryz.ntmps206
    go_wp2_with fail
    refine (clean_any s _ hs).mono ?_
    rintro e w1 ⟨rfl, hbb⟩
    rw [HX.out]
    go_wp2_with fail
    go_ret2
    exact ⟨by rw [HV.out]; rfl, hbb⟩
  have t12 : (X.toList == [117, 116, 102, 45, 49, 54]) = false := listF HXX.out h12
  by_cases h13 : x = [117, 110, 105, 99, 111, 100, 101]
  · have HV : Hid (knownV (kindOf x) = .tuple #[.string ⟨#[117, 116, 102, 45, 49, 54, 108, 101]⟩, .bool true]) := hide (by rw [h13, show kindOf [117, 110, 105, 99, 111, 100, 101] = 3 from by decide +kernel]; rfl)
    have t13 : (X.toList == [117, 110, 105, 99, 111, 100, 101]) = true := listT HXX.out h13
    clear h0 h1 h2 h3 h4 h5 h6 h7 h8 h9 h10 h11 h12 h13
    go_enter Tryz.func206, Tryz.ntmps206
    go_wp2_with fail
    refine (clean_any s _ hs).mono ?_
    rintro e w1 ⟨rfl, hbb⟩
    rw [HX.out]
    go_wp2_with fail
    go_ret2
    exact ⟨by rw [HV.out]; rfl, hbb⟩
  have t13 : (X.toList == [117, 110, 105, 99, 111, 100, 101]) = false := listF HXX.out h13
  by_cases h14 : x = [117, 99, 115, 45, 50]
  · have HV : Hid (knownV (kindOf x) = .tuple #[.string ⟨#[117, 116, 102, 45, 49, 54, 108, 101]⟩, .bool true]) := hide (by rw [h14, show kindOf [117, 99, 115, 45, 50] = 3 from by decide +kernel]; rfl)
    have t14 : (X.toList == [117, 99, 115, 45, 50]) = true := listT HXX.out h14
    clear h0 h1 h2 h3 h4 h5 h6 h7 h8 h9 h10 h11 h12 h13 h14
    go_enter Tryz.func206, Tryz.ntmps206
    go_wp2_with fail
    refine (clean_any s _ hs).mono ?_
    rintro e w1 ⟨rfl, hbb⟩
    rw [HX.out]
    go_wp2_with fail
    go_ret2
    exact ⟨by rw [HV.out]; rfl, hbb⟩
  have t14 : (X.toList == [117, 99, 115, 45, 50]) = false := listF HXX.out h14
  by_cases h15 : x = [117, 116, 102, 45, 49, 54, 98, 101]
  · have HV : Hid (knownV (kindOf x) = .tuple #[.string ⟨#[117, 116, 102, 45, 49, 54, 98, 101]⟩, .bool true]) := hide (by rw [h15, show kindOf [117, 116, 102, 45, 49, 54, 98, 101] = 4 from by decide +kernel]; rfl)
    have t15 : (X.toList == [117, 116, 102, 45, 49, 54, 98, 101]) = true := listT HXX.out h15
    clear h0 h1 h2 h3 h4 h5 h6 h7 h8 h9 h10 h11 h12 h13 h14 h15
    go_enter Tryz.func206, Tryz.ntmps206
    go_wp2_with fail
    refine (clean_any s _ hs).mono ?_
    rintro e w1 ⟨rfl, hbb⟩
    rw [HX.out]
    go_wp2_with fail
    go_ret2
    exact ⟨by rw [HV.out]; rfl, hbb⟩
  have t15 : (X.toList == [117, 116, 102, 45, 49, 54, 98, 101]) = false := listF HXX.out h15
  by_cases h16 : x = [117, 110, 105, 99, 111, 100, 101, 102, 102, 102, 101]
  · have HV : Hid (knownV (kindOf x) = .tuple #[.string ⟨#[117, 116, 102, 45, 49, 54, 98, 101]⟩, .bool true]) := hide (by rw [h16, show kindOf [117, 110, 105, 99, 111, 100, 101, 102, 102, 102, 101] = 4 from by decide +kernel]; rfl)
    have t16 : (X.toList == [117, 110, 105, 99, 111, 100, 101, 102, 102, 102, 101]) = true := listT HXX.out h16
    clear h0 h1 h2 h3 h4 h5 h6 h7 h8 h9 h10 h11 h12 h13 h14 h15 h16
    go_enter Tryz.func206, Tryz.ntmps206
    go_wp2_with fail
    refine (clean_any s _ hs).mono ?_
    rintro e w1 ⟨rfl, hbb⟩
    rw [HX.out]
    go_wp2_with fail
    go_ret2
    exact ⟨by rw [HV.out]; rfl, hbb⟩
  have t16 : (X.toList == [117, 110, 105, 99, 111, 100, 101, 102, 102, 102, 101]) = false := listF HXX.out h16
  have HV : Hid (knownV (kindOf x) = .tuple #[.string ⟨#[]⟩, .bool false]) := hide (by
    rw [kind_none (x := x) (by
      intro y hy
      simp only [labels, List.mem_cons, List.mem_nil_iff, or_false] at hy
      rcases hy with rfl | rfl | rfl | rfl | rfl | rfl | rfl | rfl | rfl | rfl | rfl | rfl | rfl | rfl | rfl | rfl | rfl
      all_goals assumption)]
    rfl)
  clear h0 h1 h2 h3 h4 h5 h6 h7 h8 h9 h10 h11 h12 h13 h14 h15 h16
  go_enter Tryz.func206, Tryz.ntmps206
  go_wp2_with fail
  refine (clean_any s _ hs).mono ?_
  rintro e w1 ⟨rfl, hbb⟩
  rw [HX.out]
  go_wp2_with fail
  go_ret2
  exact ⟨by rw [HV.out]; rfl, hbb⟩
end Go.Proofs.YtiejmkjpgjbodaaGreatDoor

namespace Go.Proofs.YtiejmkjpgjbodaaGreatDoor
open Go.RowKit
set_option linter.unusedVariables false
set_option linter.unusedSimpArgs false
set_option maxRecDepth 100000 in
set_option maxHeartbeats 4000000 in
theorem refDec2 (label s : ByteArray) (w : World) (hl : label.size ≤ 70368744177664) (hs : s.size ≤ 1048576) (hk : kindL label.data.toList = 2) :
    Calls Tryz.prog 180 #[.string label, .string s] w fun e w' => e = .returned (.tuple #[.string (str (winL s.data.toList)), .bool true]) ∧ Below w.heap.size w w' := by
  have HK := hide (fun (w : World) => refKnown_any label w hl)
  rw [hk] at HK
  have KVV : Hid (knownV 2 = .tuple #[.string ⟨#[119, 105, 110, 100, 111, 119, 115, 45, 49, 50, 53, 50]⟩, .bool true]) := hide rfl
  clear hk
  go_enter Tryz.func180, Tryz.ntmps180
  go_wp2_with fail
  refine (HK.out _).mono ?_
  rintro e w1 ⟨rfl, hb1⟩
  rw [KVV.out]
  have hb0 : Buf w1.heap.size (.slice none 0 0) [] w1 w1 := Buf.nil (Below.refl _ _) (Nat.le_refl _)
  have HB0 := hide hb0
  clear hb0
  go_wp2_with fail
  go_loopw [8, 9] (fun v i wr => ∃ (k : Nat) (acc : List UInt8), k ≤ s.size ∧ i = .int .i64 k ∧ Buf w1.heap.size v acc w1 wr ∧ acc.length ≤ 3 * k ∧ acc ++ winL (s.data.toList.drop k) = winL s.data.toList) (fun _ i _ => s.size - (intOf i).toNat)
  case atStart => exact ⟨0, [], Nat.zero_le _, rfl, HB0.out, Nat.le_refl _, by simp⟩
  case round =>
    obtain ⟨k, acc, hk, rfl, hb, hacc, hd⟩ := hrel
    have HB := hide hb
    clear hb
    by_cases hlt : k < s.size
    · rw [drop_cons s k hlt, winL_cons, ← List.append_assoc] at hd
      have HR := hide hd
      have hcase := winR_case s[k]
      have hl3 := winR_length s[k]
      have hbl := byte_lt s[k]
      generalize hc : s[k] = c at hd hcase hl3 hbl
      rw [hc] at HR
      have wc : wrap64 (c.toNat : Int) = c.toNat := IntWalk.wrap64_in _ (by omega)
      clear hd
      rcases hcase with ⟨c1, e⟩ | ⟨c1, c2, e⟩ | ⟨c1, e⟩
      · rw [e] at HR hl3
        have t1 : decide ((128 : Int) ≤ c.toNat) = false := decide_eq_false (by omega)
        clear e
        go_wp2_with fail
        refine (sign_any c.toNat _ (by omega)).mono ?_
        rintro e w3 ⟨rfl, hb3⟩
        have HB3 := hide (HB.out.kept hb3)
        go_wp2_with (refine wpList_buf_text rfl _ _ rfl w1.heap.size u8 acc rfl w1 HB3.out (str (runeL c.toNat)) rfl (by rw [str_size]; omega) ?_; intro v4 w4 hb4; rw [str_toList] at hb4; have HB4 := hide hb4; clear hb4)
        go_roundw
        case rel => exact ⟨k + 1, acc ++ _, by omega, by go_num, HB4.out, by rw [List.length_append]; omega, HR.out⟩
        case measure => simp [intOf]; omega
      · obtain ⟨m, hm, hm2⟩ := win_at (c.toNat - 128) (by omega)
        rw [e, hm] at HR hl3
        have HM := hide hm
        have HIGH := hide (fun (w : World) => high_any c w c1 c2)
        have t1 : decide ((128 : Int) ≤ c.toNat) = true := decide_eq_true (by omega)
        have t2 : decide ((c.toNat : Int) < 160) = true := decide_eq_true (by omega)
        clear e hm
        go_wp2_with fail
        refine (HIGH.out _).mono ?_
        rintro e w2 ⟨rfl, hb2⟩
        rw [HM.out]
        have HB2 := hide (HB.out.kept hb2)
        go_wp2_with fail
        refine (sign_any m _ (by omega)).mono ?_
        rintro e w3 ⟨rfl, hb3⟩
        have HB3 := hide (HB2.out.kept hb3)
        go_wp2_with (refine wpList_buf_text rfl _ _ rfl w1.heap.size u8 acc rfl w1 HB3.out (str (runeL m)) rfl (by rw [str_size]; omega) ?_; intro v4 w4 hb4; rw [str_toList] at hb4; have HB4 := hide hb4; clear hb4)
        go_roundw
        case rel => exact ⟨k + 1, acc ++ _, by omega, by go_num, HB4.out, by rw [List.length_append]; omega, HR.out⟩
        case measure => simp [intOf]; omega
      · rw [e] at HR hl3
        have t1 : decide ((128 : Int) ≤ c.toNat) = true := decide_eq_true (by omega)
        have t2 : decide ((c.toNat : Int) < 160) = false := decide_eq_false (by omega)
        clear e
        go_wp2_with fail
        refine (sign_any c.toNat _ (by omega)).mono ?_
        rintro e w3 ⟨rfl, hb3⟩
        have HB3 := hide (HB.out.kept hb3)
        go_wp2_with (refine wpList_buf_text rfl _ _ rfl w1.heap.size u8 acc rfl w1 HB3.out (str (runeL c.toNat)) rfl (by rw [str_size]; omega) ?_; intro v4 w4 hb4; rw [str_toList] at hb4; have HB4 := hide hb4; clear hb4)
        go_roundw
        case rel => exact ⟨k + 1, acc ++ _, by omega, by go_num, HB4.out, by rw [List.length_append]; omega, HR.out⟩
        case measure => simp [intOf]; omega
    · have hcv := HB.out.convert
      have hbb := hb1.trans (HB.out.below.mono hb1.size)
      have HBB := hide hbb
      clear hbb
      rw [drop_nil s k (by omega)] at hd
      rw [show winL [] = [] from rfl, List.append_nil] at hd
      have HD := hide hd
      clear hd
      go_wp2_with fail
      go_ret2
      exact ⟨by rw [← HD.out]; rfl, HBB.out⟩
end Go.Proofs.YtiejmkjpgjbodaaGreatDoor

namespace Go.Proofs.YtiejmkjpgjbodaaGreatDoor
open Go.RowKit
set_option linter.unusedVariables false
set_option linter.unusedSimpArgs false
set_option maxRecDepth 100000
def digsI (b m : Nat) (l : List UInt8) : Int := if l.length < 1 ∨ m < l.length then -1 else match parseB b 0 l with
  | some n => n
  | none => -1
theorem digs_num {b m : Nat} (hb : 0 < b) (l : List UInt8) : (∃ n : Nat, digsI b m l = n ∧ numAt b m l = some (signN n) ∧ n < b ^ l.length ∧ l.length ≤ m) ∨ (digsI b m l = -1 ∧ numAt b m l = none) := by
  unfold digsI numAt parseU
  by_cases h0 : l = []
  · subst h0
    exact .inr ⟨by rw [if_pos (.inl (by decide))], by rw [if_pos rfl]⟩
  · have hl : ¬ l.length < 1 := by
      intro h; exact h0 (List.eq_nil_of_length_eq_zero (by omega))
    rw [if_neg h0]
    by_cases hm : m < l.length
    · refine .inr ⟨by rw [if_pos (.inr hm)], ?_⟩
      cases parseB b 0 l with
      | none => rfl
      | some n => simp only; rw [if_pos hm]
    · rw [if_neg (by omega)]
      cases hp : parseB b 0 l with
      | none => exact .inr ⟨rfl, rfl⟩
      | some n =>
        have := parseB_lt hb l 0 n hp
        refine .inl ⟨n, rfl, ?_, by omega, by omega⟩
        simp only; rw [if_neg hm]
theorem dig_hex10 (c : UInt8) : (∃ d : Nat, d < 10 ∧ hexI c = (d : Int) ∧ digB 10 c = some d) ∨ (hexI c = -1 ∧ digB 10 c = none) ∨ (∃ d : Nat, 10 ≤ d ∧ d < 16 ∧ hexI c = (d : Int) ∧ digB 10 c = none) := by
  have := u8_all (p := fun c => (dgV c < 10 ∧ hexI c = (dgV c : Int) ∧ digB 10 c = some (dgV c)) ∨ (hexI c = -1 ∧ digB 10 c = none) ∨ ((10 ≤ (hexI c).toNat ∧ (hexI c).toNat < 16 ∧ hexI c = ((hexI c).toNat : Int)) ∧ digB 10 c = none)) (by decide +kernel) c
  rcases this with ⟨h1, h2, h3⟩ | ⟨h1, h2⟩ | ⟨⟨h1, h2, h3⟩, h4⟩
  · exact .inl ⟨_, h1, h2, h3⟩
  · exact .inr (.inl ⟨h1, h2⟩)
  · exact .inr (.inr ⟨_, h1, h2, h3, h4⟩)
theorem dig_hex16 (c : UInt8) : (∃ d : Nat, d < 16 ∧ hexI c = (d : Int) ∧ digB 16 c = some d) ∨ (hexI c = -1 ∧ digB 16 c = none) ∨ (∃ d : Nat, 16 ≤ d ∧ d < 16 ∧ hexI c = (d : Int) ∧ digB 16 c = none) := by
  have := u8_all (p := fun c => (dgV c < 16 ∧ hexI c = (dgV c : Int) ∧ digB 16 c = some (dgV c)) ∨ (hexI c = -1 ∧ digB 16 c = none) ∨ ((16 ≤ (hexI c).toNat ∧ (hexI c).toNat < 16 ∧ hexI c = ((hexI c).toNat : Int)) ∧ digB 16 c = none)) (by decide +kernel) c
  rcases this with ⟨h1, h2, h3⟩ | ⟨h1, h2⟩ | ⟨⟨h1, h2, h3⟩, h4⟩
  · exact .inl ⟨_, h1, h2, h3⟩
  · exact .inr (.inl ⟨h1, h2⟩)
  · exact .inr (.inr ⟨_, h1, h2, h3, h4⟩)
set_option maxHeartbeats 4000000 in
theorem refDigs10 (s : ByteArray) (w : World) :
    Calls Tryz.prog 158 #[.string s, .int .i64 10, .int .i64 7] w fun e w' => e = .returned (.int .i64 (digsI 10 7 s.data.toList)) ∧ w' = w := by
  by_cases h0 : s.size < 1
  · have HV : Hid (digsI 10 7 s.data.toList = -1) := hide (by unfold digsI; rw [if_pos (.inl (by rw [toList_length]; exact h0))])
    have q1 : decide ((s.size : Int) < 1) = true := decide_eq_true (by omega)
    clear h0
    go_enter Tryz.func158, Tryz.ntmps158
    go_wp2_with fail
    go_ret
    exact ⟨by rw [HV.out] <;> rfl, rfl⟩
  have q1 : decide ((s.size : Int) < 1) = false := decide_eq_false (by omega)
  by_cases hm : 7 < s.size
  · have HV : Hid (digsI 10 7 s.data.toList = -1) := hide (by unfold digsI; rw [if_pos (.inr (by rw [toList_length]; exact hm))])
    have q2 : decide ((7 : Int) < (s.size : Int)) = true := decide_eq_true (by omega)
    clear h0 hm
    go_enter Tryz.func158, Tryz.ntmps158
    go_wp2_with fail
    go_ret
    exact ⟨by rw [HV.out] <;> rfl, rfl⟩
  have q2 : decide ((7 : Int) < (s.size : Int)) = false := decide_eq_false (by omega)
  have hs7 : s.size ≤ 7 := by omega
  have HS0 := hide h0
  have HM0 := hide hm
  clear h0 hm
  go_enter Tryz.func158, Tryz.ntmps158
  go_wp2_with fail
  clear q1 q2
  go_loopw [7, 8] (fun nv iv wr => ∃ k n : Nat, k ≤ s.size ∧ iv = .int .i64 k ∧ nv = .int .i64 n ∧ Hid (n + 1 ≤ 10 ^ k) ∧ Hid (parseB 10 n (s.data.toList.drop k) = parseB 10 0 s.data.toList) ∧ Hid (wr = w)) (fun _ iv _ => s.size - (intOf iv).toNat)
  case atStart => exact ⟨0, 0, Nat.zero_le _, rfl, rfl, hide (Nat.le_refl _), hide rfl, hide rfl⟩
  case round =>
    obtain ⟨k, n, hk, rfl, rfl, HP, HG, HW⟩ := hrel
    obtain rfl := HW.out
    by_cases hlt : k < s.size
    · have hst := HG.out
      rw [drop_cons s k hlt, parseB] at hst
      have hs0 := HS0.out
      rcases dig_hex10 s[k] with h | h | h
      ·
        obtain ⟨d, hd, he, hg⟩ := h
        rw [hg] at hst
        have HN : Hid (parseB 10 (n * 10 + d) (s.data.toList.drop (k + 1)) = parseB 10 0 s.data.toList) := hide hst
        have HB1 : Hid (n * 10 + d + 1 ≤ 10 ^ (k + 1)) := hide (par_step HP.out hd)
        have hb2 : n * 10 + d + 1 ≤ 10 ^ 7 := Nat.le_trans HB1.out (Nat.pow_le_pow_right (by decide) (by omega : k + 1 ≤ 7))
        have x1 : IntKind.i64.wrap ((n : Int) * 10) = (n : Int) * 10 := IntWalk.i64_in _ (by omega)
        have x2 : IntKind.i64.wrap ((n : Int) * 10 + (d : Int)) = (n : Int) * 10 + d := IntWalk.i64_in _ (by omega)
        have t1 : decide ((d : Int) < 0) = false := decide_eq_false (by omega)
        have t2 : decide ((10 : Int) ≤ (d : Int)) = false := decide_eq_false (by omega)
        have hdb : d < 10 := hd
        clear hst hg hb2 hd
        go_wp2_with (go_at_call 179; refine (refHex_still he _).mono ?_; rintro e wx ⟨rfl, hwx⟩; obtain rfl := hwx)
        go_roundw
        case rel => exact ⟨k + 1, n * 10 + d, by omega, by go_num, by first | rfl | simp, HB1, HN, by first | exact trivial | exact hide rfl⟩
        case measure => simp [intOf]; omega
      ·
        obtain ⟨he, hg⟩ := h
        rw [hg] at hst
        have HV : Hid (digsI 10 7 s.data.toList = -1) := hide (by unfold digsI; rw [if_neg (by rw [toList_length]; omega), ← hst])
        clear hst hg
        go_wp2_with (go_at_call 179; refine (refHex_still he _).mono ?_; rintro e wx ⟨rfl, hwx⟩; obtain rfl := hwx)
        go_ret
        exact ⟨by rw [HV.out] <;> rfl, rfl⟩
      ·
        obtain ⟨d, hd, hd2, he, hg⟩ := h
        rw [hg] at hst
        have HV : Hid (digsI 10 7 s.data.toList = -1) := hide (by unfold digsI; rw [if_neg (by rw [toList_length]; omega), ← hst])
        have t1 : decide ((d : Int) < 0) = false := decide_eq_false (by omega)
        have t2 : decide ((10 : Int) ≤ (d : Int)) = true := decide_eq_true (by omega)
        clear hst hg hd hd2
        go_wp2_with (go_at_call 179; refine (refHex_still he _).mono ?_; rintro e wx ⟨rfl, hwx⟩; obtain rfl := hwx)
        go_ret
        exact ⟨by rw [HV.out] <;> rfl, rfl⟩
    · have hst := HG.out
      rw [drop_nil s k (by omega), parseB] at hst
      have HV : Hid (digsI 10 7 s.data.toList = n) := hide (by unfold digsI; rw [if_neg (by rw [toList_length]; have := HS0.out; omega), ← hst])
      clear hst
      go_wp2_with fail
      go_ret
      exact ⟨by rw [HV.out] <;> rfl, rfl⟩
set_option maxHeartbeats 4000000 in
theorem refDigs16 (s : ByteArray) (w : World) :
    Calls Tryz.prog 158 #[.string s, .int .i64 16, .int .i64 6] w fun e w' => e = .returned (.int .i64 (digsI 16 6 s.data.toList)) ∧ w' = w := by
  by_cases h0 : s.size < 1
  · have HV : Hid (digsI 16 6 s.data.toList = -1) := hide (by unfold digsI; rw [if_pos (.inl (by rw [toList_length]; exact h0))])
    have q1 : decide ((s.size : Int) < 1) = true := decide_eq_true (by omega)
    clear h0
    go_enter Tryz.func158, Tryz.ntmps158
    go_wp2_with fail
    go_ret
    exact ⟨by rw [HV.out] <;> rfl, rfl⟩
  have q1 : decide ((s.size : Int) < 1) = false := decide_eq_false (by omega)
  by_cases hm : 6 < s.size
  · have HV : Hid (digsI 16 6 s.data.toList = -1) := hide (by unfold digsI; rw [if_pos (.inr (by rw [toList_length]; exact hm))])
    have q2 : decide ((6 : Int) < (s.size : Int)) = true := decide_eq_true (by omega)
    clear h0 hm
    go_enter Tryz.func158, Tryz.ntmps158
    go_wp2_with fail
    go_ret
    exact ⟨by rw [HV.out] <;> rfl, rfl⟩
  have q2 : decide ((6 : Int) < (s.size : Int)) = false := decide_eq_false (by omega)
  have hs7 : s.size ≤ 6 := by omega
  have HS0 := hide h0
  have HM0 := hide hm
  clear h0 hm
  go_enter Tryz.func158, Tryz.ntmps158
  go_wp2_with fail
  clear q1 q2
  go_loopw [7, 8] (fun nv iv wr => ∃ k n : Nat, k ≤ s.size ∧ iv = .int .i64 k ∧ nv = .int .i64 n ∧ Hid (n + 1 ≤ 16 ^ k) ∧ Hid (parseB 16 n (s.data.toList.drop k) = parseB 16 0 s.data.toList) ∧ Hid (wr = w)) (fun _ iv _ => s.size - (intOf iv).toNat)
  case atStart => exact ⟨0, 0, Nat.zero_le _, rfl, rfl, hide (Nat.le_refl _), hide rfl, hide rfl⟩
  case round =>
    obtain ⟨k, n, hk, rfl, rfl, HP, HG, HW⟩ := hrel
    obtain rfl := HW.out
    by_cases hlt : k < s.size
    · have hst := HG.out
      rw [drop_cons s k hlt, parseB] at hst
      have hs0 := HS0.out
      rcases dig_hex16 s[k] with h | h | h
      ·
        obtain ⟨d, hd, he, hg⟩ := h
        rw [hg] at hst
        have HN : Hid (parseB 16 (n * 16 + d) (s.data.toList.drop (k + 1)) = parseB 16 0 s.data.toList) := hide hst
        have HB1 : Hid (n * 16 + d + 1 ≤ 16 ^ (k + 1)) := hide (par_step HP.out hd)
        have hb2 : n * 16 + d + 1 ≤ 16 ^ 7 := Nat.le_trans HB1.out (Nat.pow_le_pow_right (by decide) (by omega : k + 1 ≤ 7))
        have x1 : IntKind.i64.wrap ((n : Int) * 16) = (n : Int) * 16 := IntWalk.i64_in _ (by omega)
        have x2 : IntKind.i64.wrap ((n : Int) * 16 + (d : Int)) = (n : Int) * 16 + d := IntWalk.i64_in _ (by omega)
        have t1 : decide ((d : Int) < 0) = false := decide_eq_false (by omega)
        have t2 : decide ((16 : Int) ≤ (d : Int)) = false := decide_eq_false (by omega)
        have hdb : d < 16 := hd
        clear hst hg hb2 hd
        go_wp2_with (go_at_call 179; refine (refHex_still he _).mono ?_; rintro e wx ⟨rfl, hwx⟩; obtain rfl := hwx)
        go_roundw
        case rel => exact ⟨k + 1, n * 16 + d, by omega, by go_num, by first | rfl | simp, HB1, HN, by first | exact trivial | exact hide rfl⟩
        case measure => simp [intOf]; omega
      ·
        obtain ⟨he, hg⟩ := h
        rw [hg] at hst
        have HV : Hid (digsI 16 6 s.data.toList = -1) := hide (by unfold digsI; rw [if_neg (by rw [toList_length]; omega), ← hst])
        clear hst hg
        go_wp2_with (go_at_call 179; refine (refHex_still he _).mono ?_; rintro e wx ⟨rfl, hwx⟩; obtain rfl := hwx)
        go_ret
        exact ⟨by rw [HV.out] <;> rfl, rfl⟩
      ·
        obtain ⟨d, hd, hd2, he, hg⟩ := h
        rw [hg] at hst
        have HV : Hid (digsI 16 6 s.data.toList = -1) := hide (by unfold digsI; rw [if_neg (by rw [toList_length]; omega), ← hst])
        have t1 : decide ((d : Int) < 0) = false := decide_eq_false (by omega)
        have t2 : decide ((16 : Int) ≤ (d : Int)) = true := decide_eq_true (by omega)
        clear hst hg hd hd2
        go_wp2_with (go_at_call 179; refine (refHex_still he _).mono ?_; rintro e wx ⟨rfl, hwx⟩; obtain rfl := hwx)
        go_ret
        exact ⟨by rw [HV.out] <;> rfl, rfl⟩
    · have hst := HG.out
      rw [drop_nil s k (by omega), parseB] at hst
      have HV : Hid (digsI 16 6 s.data.toList = n) := hide (by unfold digsI; rw [if_neg (by rw [toList_length]; have := HS0.out; omega), ← hst])
      clear hst
      go_wp2_with fail
      go_ret
      exact ⟨by rw [HV.out] <;> rfl, rfl⟩
theorem rune_bad {n : Int} (h : n < 0 ∨ (55296 ≤ n ∧ n ≤ 57343) ∨ 1114111 < n) : runeL n = runeL 65533 := by
  rw [show runeL n = bad from runeL_bad h]; decide
set_option maxHeartbeats 4000000 in
theorem sign_big (n : Nat) (w : World) (hn : 1114111 < n) (hb : n ≤ 16777216) :
    Calls Tryz.prog 181 #[.int .i64 n] w fun e w' => e = .returned (.string (str (runeL n))) ∧ Below w.heap.size w w' := by
  have t1 : decide ((n : Int) < 0) = false := decide_eq_false (by omega)
  have t2 : decide ((1114111 : Int) < n) = true := decide_eq_true (by omega)
  have HB : Hid (runeL (n : Int) = bad) := hide (runeL_bad (by omega))
  clear hn hb
  go_enter Tryz.func181, Tryz.ntmps181
  go_wp2
  go_ret
  exact ⟨ret_str (by rw [HB.out]; rfl), Below.refl _ _⟩
theorem sign_all (n : Nat) (w : World) (hb : n ≤ 16777216) :
    Calls Tryz.prog 181 #[.int .i64 n] w fun e w' => e = .returned (.string (str (runeL n))) ∧ Below w.heap.size w w' := by
  by_cases h : n ≤ 1114111
  · exact sign_any n w h
  · exact sign_big n w (by omega) hb
set_option maxHeartbeats 4000000 in
theorem refNumbered_any (n : Nat) (w : World) (hb : n ≤ 16777216) :
    Calls Tryz.prog 159 #[.int .i64 n] w fun e w' => e = .returned (.string (str (runeL (signN n)))) ∧ Below w.heap.size w w' := by
  by_cases h0 : n = 0
  · subst h0
    have HV : Hid (str (runeL (signN 0)) = ⟨#[239, 191, 189]⟩) := hide (by decide)
    go_enter Tryz.func159, Tryz.ntmps159
    go_wp2_with fail
    go_ret
    exact ⟨by rw [HV.out] <;> rfl, Below.refl _ _⟩
  have t0 : ((n : Int) == 0) = false := beq_eq_false_iff_ne.2 (by omega)
  by_cases h1 : 128 ≤ n ∧ n ≤ 159
  · have t1 : decide ((128 : Int) ≤ n) = true := decide_eq_true (by omega)
    have t2 : decide ((n : Int) ≤ 159) = true := decide_eq_true (by omega)
    have w1 : IntKind.u8.wrap (n : Int) = n := IntWalk.u8_in _ (by omega)
    have hcv := conv1
    have HV : Hid (winL (strOfNums [(n : Int)]).data.toList = runeL (signN n)) := hide (by
      rw [nums_list, List.map_cons, List.map_nil, Int.toNat_natCast, winL_cons, signN_window h1.1 h1.2]
      show _ ++ [] = _
      rw [List.append_nil])
    have HD := hide (fun (w : World) => refDec2 ⟨#[119, 105, 110, 100, 111, 119, 115, 45, 49, 50, 53, 50]⟩ (strOfNums [(n : Int)]) w (by decide) (by rw [← toList_length, nums_list]; simp) kind_win)
    rw [HV.out] at HD
    clear h0 h1 hb
    go_enter Tryz.func159, Tryz.ntmps159
    go_wp2_with (go_at_call 180; refine (HD.out _).mono ?_; rintro e w3 ⟨rfl, hb3⟩)
    go_ret
    exact ⟨rfl, ((Below.refl _ w).alloc (Nat.le_refl _) _).trans (hb3.mono (by rw [World.size_alloc]; omega))⟩
  · have HV : Hid (runeL (signN n) = runeL n) := hide (by
      by_cases hx : n = 0 ∨ 1114111 < n ∨ (55296 ≤ n ∧ n ≤ 57343)
      · rw [signN_bad hx, rune_bad (n := (n : Int)) (by omega)]
      · rw [signN_own hx h1])
    have tt : (decide ((128 : Int) ≤ n) = false) ∨ (decide ((128 : Int) ≤ n) = true ∧ decide ((n : Int) ≤ 159) = false) := by
      by_cases g : 128 ≤ n
      · exact .inr ⟨decide_eq_true (by omega), decide_eq_false (by omega)⟩
      · exact .inl (decide_eq_false (by omega))
    have HS := hide (fun (w : World) => sign_all n w hb)
    clear h0 h1 hb
    rcases tt with t1 | ⟨t1, t2⟩
    all_goals
      go_enter Tryz.func159, Tryz.ntmps159
      go_wp2_with (go_at_call 181; refine (HS.out _).mono ?_; rintro e w3 ⟨rfl, hb3⟩)
      go_ret
      exact ⟨by rw [HV.out] <;> rfl, hb3⟩
end Go.Proofs.YtiejmkjpgjbodaaGreatDoor

namespace Go.Proofs.YtiejmkjpgjbodaaGreatDoor
open Go.RowKit
set_option linter.unusedVariables false
set_option linter.unusedSimpArgs false
set_option maxRecDepth 100000
def onRV (o : Int × Nat) : Value := if 0 < o.2 then .tuple #[.string (str (runeL o.1)), .int .i64 (o.2 + 1 : Nat)] else .tuple #[.string ⟨#[]⟩, .int .i64 0]
def noneV : Value := .tuple #[.string ⟨#[]⟩, .int .i64 0]
def onRL : List UInt8 → Value
  | 38 :: r => onRV (refN r)
  | _ => noneV
theorem onRV_some (x : Int) (n : Nat) : onRV (x, n + 1) = .tuple #[.string (str (runeL x)), .int .i64 (n + 1 + 1 : Nat)] := by
  unfold onRV; rw [if_pos (Nat.succ_pos _)]
theorem name_two {l : List UInt8} {x : Int} (h : nameN l = some x) : 2 ≤ l.length := by
  have ha : ∀ y ∈ namesL, 2 ≤ y.length := by decide
  exact ha l (name_mem l x h)
theorem name_hash (r : List UInt8) : nameN (35 :: r) = none := by
  cases e : nameN (35 :: r) with
  | none => rfl
  | some x =>
    have ha : ∀ y ∈ namesL, y.head? ≠ some 35 := by decide
    exact absurd rfl (ha _ (name_mem _ x e))
theorem rune_ne (x : Int) : (str (runeL x)).toList.isEmpty = false := by
  rw [str_list]
  have := (runeL_length x).1
  cases h : runeL x with
  | nil => rw [h] at this; simp at this
  | cons a r => rfl
set_option maxHeartbeats 4000000 in
theorem refOnR_no (s : ByteArray) (w : World) (h : ∀ r, s.data.toList ≠ 38 :: r) :
    Calls Tryz.prog 135 #[.string s] w fun e w' => e = .returned (onRL s.data.toList) ∧ Below w.heap.size w w' := by
  have HV : Hid (onRL s.data.toList = noneV) := hide (by
    unfold onRL
    split
    · rename_i r e; exact absurd e (h r)
    · rfl)
  by_cases h0 : s.size = 0
  · obtain ⟨z1, z2⟩ := size0 (t := s) h0
    clear h
    go_enter Tryz.func135, Tryz.ntmps135
    go_wp2_with fail
    go_ret2
    exact ⟨by rw [HV.out] <;> rfl, Below.refl _ _⟩
  · have hp : 0 < s.size := by omega
    have h38 : s[0] ≠ 38 := by
      intro e
      have := drop_cons s 0 hp
      rw [List.drop_zero, e] at this
      exact h _ this
    have t0 : ((s[0].toNat : Int) == 38) = false := tF 38 h38 (by omega)
    have z2 := (sizeP h0).2
    clear h h38
    go_enter Tryz.func135, Tryz.ntmps135
    go_wp2_with fail
    go_ret2
    exact ⟨by rw [HV.out] <;> rfl, Below.refl _ _⟩
def sgnV (k : List UInt8) : Option Int → Value
  | some x => onRV (x, k.length + 1)
  | none => noneV
set_option maxHeartbeats 8000000 in
theorem refOnR_yes (s : ByteArray) (w : World) (r : List UInt8) (hs : s.data.toList = 38 :: r) (hsz : s.size ≤ 16777216) :
    Calls Tryz.prog 135 #[.string s] w fun e w' => e = .returned (onRL s.data.toList) ∧ Below w.heap.size w w' := by
  have hp : 0 < s.size := by rw [← toList_length, hs]; exact Nat.succ_pos _
  have h38 : s[0] = 38 := by
    have := drop_cons s 0 hp
    rw [List.drop_zero, hs] at this
    injection this with e _; exact e.symm
  have hr : s.data.toList.drop 1 = r := by rw [hs]; rfl
  have t0 : ((s[0].toNat : Int) == 38) = true := tT 38 h38 (by omega)
  have t0n : ((s[0].toNat : Int) != 38) = false := by rw [bne, t0]; rfl
  have z2 : s.toList.isEmpty = false := (sizeP (by omega)).2
  have HS := hide hs
  have HR := hide hr
  clear hs hr h38
  go_enter Tryz.func135, Tryz.ntmps135
  go_wp2_with fail
  clear t0 t0n z2
  go_loopw [4] (fun iv wr => ∃ k : Nat, 1 ≤ k ∧ k ≤ s.size ∧ iv = .int .i64 k ∧ Hid ((r.take (k - 1)).all isRB = true) ∧ Hid (wr = w)) (fun iv _ => s.size - (intOf iv).toNat)
  case atStart => exact ⟨1, Nat.le_refl _, hp, rfl, hide rfl, hide rfl⟩
  case round =>
    obtain ⟨k, k1, hk, rfl, HA, HW⟩ := hrel
    obtain rfl := HW.out
    by_cases hlt : k < s.size
    · have hdk : r.drop (k - 1) = s[k] :: s.data.toList.drop (k + 1) := by
        rw [← HR.out, List.drop_drop, show 1 + (k - 1) = k by omega]
        exact drop_cons s k hlt
      have hsnoc : r.take (k + 1 - 1) = r.take (k - 1) ++ [s[k]] := by
        have hl : k - 1 < r.length := by
          have := congrArg List.length HS.out
          rw [toList_length, List.length_cons] at this; omega
        rw [show k + 1 - 1 = (k - 1) + 1 by omega, List.take_add_one, List.getElem?_eq_getElem hl]
        have := List.drop_eq_getElem_cons hl
        rw [hdk] at this
        injection this with e _
        rw [← e]; rfl
      by_cases hl : letterB s[k] = true
      · have HA2 : Hid ((r.take (k + 1 - 1)).all isRB = true) := hide (by rw [hsnoc, List.all_append, HA.out]; simp [isRB, hl])
        have HL := hide hl
        clear hdk hsnoc hl
        go_wp2_with (go_at_call 152; refine (letter_any _ _).mono ?_; rintro e wx ⟨rfl, hwx⟩; obtain rfl := hwx; rw [HL.out])
        go_roundw
        case rel => exact ⟨k + 1, by omega, by omega, by go_num, HA2, by first | exact trivial | exact hide rfl⟩
        case measure => simp [intOf]; omega
      have hl0 : letterB s[k] = false := by simpa using hl
      by_cases hd : digitB s[k] = true
      · have HA2 : Hid ((r.take (k + 1 - 1)).all isRB = true) := hide (by rw [hsnoc, List.all_append, HA.out]; simp [isRB, hd])
        have HL := hide hl0
        have HD := hide hd
        clear hdk hsnoc hl hl0 hd
        go_wp2_with (first | (go_at_call 152; refine (letter_any _ _).mono ?_; rintro e wx ⟨rfl, hwx⟩; obtain rfl := hwx; rw [HL.out]) | (go_at_call 157; refine (digit03_any _ _).mono ?_; rintro e wx ⟨rfl, hwx⟩; obtain rfl := hwx; rw [HD.out]))
        go_roundw
        case rel => exact ⟨k + 1, by omega, by omega, by go_num, HA2, by first | exact trivial | exact hide rfl⟩
        case measure => simp [intOf]; omega
      have hd0 : digitB s[k] = false := by simpa using hd
      by_cases h35 : s[k] = 35
      · have HA2 : Hid ((r.take (k + 1 - 1)).all isRB = true) := hide (by rw [hsnoc, List.all_append, HA.out]; simp [isRB, h35])
        have HL := hide hl0
        have HD := hide hd0
        have t35 : ((s[k].toNat : Int) == 35) = true := tT 35 h35 (by omega)
        clear hdk hsnoc hl hl0 hd hd0 h35
        go_wp2_with (first | (go_at_call 152; refine (letter_any _ _).mono ?_; rintro e wx ⟨rfl, hwx⟩; obtain rfl := hwx; rw [HL.out]) | (go_at_call 157; refine (digit03_any _ _).mono ?_; rintro e wx ⟨rfl, hwx⟩; obtain rfl := hwx; rw [HD.out]))
        go_roundw
        case rel => exact ⟨k + 1, by omega, by omega, by go_num, HA2, by first | exact trivial | exact hide rfl⟩
        case measure => simp [intOf]; omega
      have t35 : ((s[k].toNat : Int) == 35) = false := tF 35 h35 (by omega)
      have hrun := refN_run (r := r) (k := r.take (k - 1)) (q := s[k] :: s.data.toList.drop (k + 1)) (by rw [← hdk, List.take_append_drop]) HA.out (by
        intro c t e
        injection e with e _
        subst e
        simp [isRB, hl0, hd0, h35])
      have HL := hide hl0
      have HD := hide hd0
      have kne : ((k : Int) == (s.size : Int)) = false := beq_eq_false_iff_ne.2 (by omega)
      have kne2 : (k == s.size) = false := beq_eq_false_iff_ne.2 (by omega)
      by_cases h59 : s[k] = 59
      · have t59 : ((s[k].toNat : Int) == 59) = true := tT 59 h59 (by omega)
        rw [h59] at hrun
        have HONE0 : Hid (onRL s.data.toList = sgnV (r.take (k - 1)) (sgn (r.take (k - 1)))) := hide (by
          rw [HS.out]
          show onRV (refN r) = _
          rw [hrun, runV_semi]
          cases sgn (r.take (k - 1)) <;> rfl)
        have hTl : (s.extract 1 k).data.toList = r.take (k - 1) := by
          rw [extract_list, ← HR.out, List.drop_take]
        have hTz : (s.extract 1 k).size = k - 1 := by rw [ByteArray.size_extract]; omega
        rw [← hTl] at HONE0
        have HTL0 : Hid ((s.extract 1 k).data.toList.length + 1 + 1 = k + 1) := hide (by rw [toList_length, hTz]; omega)
        clear hl hl0 hd hd0 h35 h59 hrun hdk hsnoc hTl
        have kk1 : (1 : Int) ≤ k := by omega
        have kk2 : (k : Int) ≤ s.size := by omega
        go_upto_region 9 with (first | (go_at_call 152; refine (letter_any _ _).mono ?_; rintro e wx ⟨rfl, hwx⟩; obtain rfl := hwx; rw [HL.out]) | (go_at_call 157; refine (digit03_any _ _).mono ?_; rintro e wx ⟨rfl, hwx⟩; obtain rfl := hwx; rw [HD.out]))
        generalize hT : s.extract 1 k = T at HONE0 HTL0 hTz
        have HONE := hide HONE0.out
        have HTL := hide HTL0.out
        clear HONE0 HTL0 hT kne kne2 t35 t59
        have tz : T.data.toList.length = T.size := toList_length T
        by_cases hz : 1 < T.size
        · have z1 : (1 : Int) < T.size := by omega
          have z0 : 0 < T.size := by omega
          have zd : decide ((1 : Int) < T.size) = true := decide_eq_true z1
          have z3 : (2 : Int) ≤ T.size := by omega
          have z4 : (1 : Int) ≤ T.size := by omega
          have hT0 := drop_cons T 0 z0
          have hT1 := drop_cons T 1 hz
          rw [List.drop_zero] at hT0
          rw [hT1] at hT0
          by_cases g0 : T[0] = 35
          · have e0 : ((T[0].toNat : Int) == 35) = true := tT 35 g0 (by omega)
            rw [g0] at hT0
            have HTH := hide hT0
            by_cases g1 : T[1] = 120
            · have e1 : ((T[1].toNat : Int) == 120) = true := tT 120 g1 (by omega)
              have HSG : Hid (sgn T.data.toList = numAt 16 6 (T.data.toList.drop 2)) := hide (by rw [hT0, sgn_num, byN_x _ _ (.inl g1)]; rfl)
              clear hT0 hT1 g0 g1 tz hTz
              have HNM : Hid (namedB T.data.toList = ⟨#[]⟩) := hide (by unfold namedB; rw [HTH.out, name_hash])
              have hD : (T.extract 2 T.size).data.toList = T.data.toList.drop 2 := extract_end T 2
              have hdig := refDigs16 (T.extract 2 T.size)
              rw [hD] at hdig
              rcases digs_num (b := 16) (m := 6) (by decide) (T.data.toList.drop 2) with ⟨n, hn1, hn2, hn3, hn4⟩ | ⟨hn1, hn2⟩
              · rw [hn1] at hdig
                have hnb : n ≤ 16777216 := by
                  have := Nat.pow_le_pow_right (n := 16) (by decide) hn4
                  omega
                have HDG := hide hdig
                have HNU := hide (fun (w : World) => refNumbered_any n w hnb)
                have HV : Hid (onRL s.data.toList = .tuple #[.string (str (runeL (signN n))), .int .i64 (k + 1 : Nat)]) := hide (by rw [HONE.out, HSG.out, hn2]; show onRV (signN n, T.data.toList.length + 1) = _; rw [onRV_some, HTL.out])
                have n0 : decide ((0 : Int) ≤ n) = true := decide_eq_true (by omega)
                clear hdig hD hn1 hn2 hn3 hn4
                go_wp2_with (first
                  | (go_at_call 158; refine (HDG.out _).mono ?_; rintro e wd ⟨rfl, hwd⟩; obtain rfl := hwd)
                  | (go_at_call 159; refine (HNU.out _).mono ?_; rintro e wn ⟨rfl, hbn⟩))
                go_ret2
                exact ⟨by rw [HV.out] <;> rfl, hbn⟩
              · rw [hn1] at hdig
                have HDG := hide hdig
                have HV : Hid (onRL s.data.toList = noneV) := hide (by rw [HONE.out, HSG.out, hn2]; rfl)
                clear hdig hD hn1 hn2
                go_wp2_with (first
                  | (go_at_call 158; refine (HDG.out _).mono ?_; rintro e wd ⟨rfl, hwd⟩; obtain rfl := hwd)
                  | (go_at_call 160; refine (refNamed_any _ _).mono ?_; rintro e wn ⟨rfl, hbn⟩; rw [HNM.out]))
                go_ret2
                exact ⟨by rw [HV.out] <;> rfl, hbn⟩
            by_cases g2 : T[1] = 88
            · have e1 : ((T[1].toNat : Int) == 120) = false := tF 120 g1 (by omega)
              have e2 : ((T[1].toNat : Int) == 88) = true := tT 88 g2 (by omega)
              have HSG : Hid (sgn T.data.toList = numAt 16 6 (T.data.toList.drop 2)) := hide (by rw [hT0, sgn_num, byN_x _ _ (.inr g2)]; rfl)
              clear hT0 hT1 g0 g1 g2 tz hTz
              have HNM : Hid (namedB T.data.toList = ⟨#[]⟩) := hide (by unfold namedB; rw [HTH.out, name_hash])
              have hD : (T.extract 2 T.size).data.toList = T.data.toList.drop 2 := extract_end T 2
              have hdig := refDigs16 (T.extract 2 T.size)
              rw [hD] at hdig
              rcases digs_num (b := 16) (m := 6) (by decide) (T.data.toList.drop 2) with ⟨n, hn1, hn2, hn3, hn4⟩ | ⟨hn1, hn2⟩
              · rw [hn1] at hdig
                have hnb : n ≤ 16777216 := by
                  have := Nat.pow_le_pow_right (n := 16) (by decide) hn4
                  omega
                have HDG := hide hdig
                have HNU := hide (fun (w : World) => refNumbered_any n w hnb)
                have HV : Hid (onRL s.data.toList = .tuple #[.string (str (runeL (signN n))), .int .i64 (k + 1 : Nat)]) := hide (by rw [HONE.out, HSG.out, hn2]; show onRV (signN n, T.data.toList.length + 1) = _; rw [onRV_some, HTL.out])
                have n0 : decide ((0 : Int) ≤ n) = true := decide_eq_true (by omega)
                clear hdig hD hn1 hn2 hn3 hn4
                go_wp2_with (first
                  | (go_at_call 158; refine (HDG.out _).mono ?_; rintro e wd ⟨rfl, hwd⟩; obtain rfl := hwd)
                  | (go_at_call 159; refine (HNU.out _).mono ?_; rintro e wn ⟨rfl, hbn⟩))
                go_ret2
                exact ⟨by rw [HV.out] <;> rfl, hbn⟩
              · rw [hn1] at hdig
                have HDG := hide hdig
                have HV : Hid (onRL s.data.toList = noneV) := hide (by rw [HONE.out, HSG.out, hn2]; rfl)
                clear hdig hD hn1 hn2
                go_wp2_with (first
                  | (go_at_call 158; refine (HDG.out _).mono ?_; rintro e wd ⟨rfl, hwd⟩; obtain rfl := hwd)
                  | (go_at_call 160; refine (refNamed_any _ _).mono ?_; rintro e wn ⟨rfl, hbn⟩; rw [HNM.out]))
                go_ret2
                exact ⟨by rw [HV.out] <;> rfl, hbn⟩
            · have e1 : ((T[1].toNat : Int) == 120) = false := tF 120 g1 (by omega)
              have e2 : ((T[1].toNat : Int) == 88) = false := tF 88 g2 (by omega)
              have HSG : Hid (sgn T.data.toList = numAt 10 7 (T.data.toList.drop 1)) := hide (by
                rw [hT0, sgn_num, byN_d]
                · rfl
                · intro c' r' e; injection e with e3 _; subst e3; exact fun e => e.elim g1 g2)
              clear hT0 hT1 g0 g1 g2 tz hTz
              have HNM : Hid (namedB T.data.toList = ⟨#[]⟩) := hide (by unfold namedB; rw [HTH.out, name_hash])
              have hD : (T.extract 1 T.size).data.toList = T.data.toList.drop 1 := extract_end T 1
              have hdig := refDigs10 (T.extract 1 T.size)
              rw [hD] at hdig
              rcases digs_num (b := 10) (m := 7) (by decide) (T.data.toList.drop 1) with ⟨n, hn1, hn2, hn3, hn4⟩ | ⟨hn1, hn2⟩
              · rw [hn1] at hdig
                have hnb : n ≤ 16777216 := by
                  have := Nat.pow_le_pow_right (n := 10) (by decide) hn4
                  omega
                have HDG := hide hdig
                have HNU := hide (fun (w : World) => refNumbered_any n w hnb)
                have HV : Hid (onRL s.data.toList = .tuple #[.string (str (runeL (signN n))), .int .i64 (k + 1 : Nat)]) := hide (by rw [HONE.out, HSG.out, hn2]; show onRV (signN n, T.data.toList.length + 1) = _; rw [onRV_some, HTL.out])
                have n0 : decide ((0 : Int) ≤ n) = true := decide_eq_true (by omega)
                clear hdig hD hn1 hn2 hn3 hn4
                go_wp2_with (first
                  | (go_at_call 158; refine (HDG.out _).mono ?_; rintro e wd ⟨rfl, hwd⟩; obtain rfl := hwd)
                  | (go_at_call 159; refine (HNU.out _).mono ?_; rintro e wn ⟨rfl, hbn⟩))
                go_ret2
                exact ⟨by rw [HV.out] <;> rfl, hbn⟩
              · rw [hn1] at hdig
                have HDG := hide hdig
                have HV : Hid (onRL s.data.toList = noneV) := hide (by rw [HONE.out, HSG.out, hn2]; rfl)
                clear hdig hD hn1 hn2
                go_wp2_with (first
                  | (go_at_call 158; refine (HDG.out _).mono ?_; rintro e wd ⟨rfl, hwd⟩; obtain rfl := hwd)
                  | (go_at_call 160; refine (refNamed_any _ _).mono ?_; rintro e wn ⟨rfl, hbn⟩; rw [HNM.out]))
                go_ret2
                exact ⟨by rw [HV.out] <;> rfl, hbn⟩
          · have e0 : ((T[0].toNat : Int) == 35) = false := tF 35 g0 (by omega)
            have HSG : Hid (sgn T.data.toList = nameN T.data.toList) := hide (sgn_name _ (by intro q e; rw [hT0] at e; injection e with e _; exact g0 e))
            clear hT0 hT1 g0 tz hTz
            cases hnm : nameN T.data.toList with
            | none =>
              have HNM : Hid (namedB T.data.toList = ⟨#[]⟩) := hide (by unfold namedB; rw [hnm])
              have HV : Hid (onRL s.data.toList = noneV) := hide (by rw [HONE.out, HSG.out, hnm]; rfl)
              clear hnm
              go_wp2_with (go_at_call 160; refine (refNamed_any _ _).mono ?_; rintro e wn ⟨rfl, hbn⟩; rw [HNM.out])
              go_ret2
              exact ⟨by rw [HV.out] <;> rfl, hbn⟩
            | some x =>
              obtain ⟨V, hV⟩ : ∃ V, V = str (runeL x) := ⟨_, rfl⟩
              have HNM : Hid (namedB T.data.toList = V) := hide (by unfold namedB; rw [hnm, hV])
              have HV : Hid (onRL s.data.toList = .tuple #[.string V, .int .i64 (k + 1 : Nat)]) := hide (by rw [HONE.out, HSG.out, hnm]; show onRV (x, T.data.toList.length + 1) = _; rw [onRV_some, HTL.out, ← hV])
              have ve : V.toList.isEmpty = false := by rw [hV]; exact rune_ne x
              clear hnm hV
              go_wp2_with (go_at_call 160; refine (refNamed_any _ _).mono ?_; rintro e wn ⟨rfl, hbn⟩; rw [HNM.out])
              go_ret2
              exact ⟨by rw [HV.out] <;> rfl, hbn⟩
        · have z1 : ¬ (1 : Int) < T.size := by omega
          have zd : decide ((1 : Int) < T.size) = false := decide_eq_false z1
          have HSG : Hid (sgn T.data.toList = nameN T.data.toList) := hide (by
            have h1 : sgn T.data.toList = none := by
              cases e : sgn T.data.toList with
              | none => rfl
              | some x => have := sgn_two e; omega
            have h2 : nameN T.data.toList = none := by
              cases e : nameN T.data.toList with
              | none => rfl
              | some x => have := name_two e; omega
            rw [h1, h2])
          clear hz tz hTz
          cases hnm : nameN T.data.toList with
          | none =>
            have HNM : Hid (namedB T.data.toList = ⟨#[]⟩) := hide (by unfold namedB; rw [hnm])
            have HV : Hid (onRL s.data.toList = noneV) := hide (by rw [HONE.out, HSG.out, hnm]; rfl)
            clear hnm
            go_wp2_with (go_at_call 160; refine (refNamed_any _ _).mono ?_; rintro e wn ⟨rfl, hbn⟩; rw [HNM.out])
            go_ret2
            exact ⟨by rw [HV.out] <;> rfl, hbn⟩
          | some x =>
            obtain ⟨V, hV⟩ : ∃ V, V = str (runeL x) := ⟨_, rfl⟩
            have HNM : Hid (namedB T.data.toList = V) := hide (by unfold namedB; rw [hnm, hV])
            have HV : Hid (onRL s.data.toList = .tuple #[.string V, .int .i64 (k + 1 : Nat)]) := hide (by rw [HONE.out, HSG.out, hnm]; show onRV (x, T.data.toList.length + 1) = _; rw [onRV_some, HTL.out, ← hV])
            have ve : V.toList.isEmpty = false := by rw [hV]; exact rune_ne x
            clear hnm hV
            go_wp2_with (go_at_call 160; refine (refNamed_any _ _).mono ?_; rintro e wn ⟨rfl, hbn⟩; rw [HNM.out])
            go_ret2
            exact ⟨by rw [HV.out] <;> rfl, hbn⟩
      · have t59 : ((s[k].toNat : Int) == 59) = false := tF 59 h59 (by omega)
        have HV : Hid (onRL s.data.toList = noneV) := hide (by
          rw [HS.out]
          show onRV (refN r) = _
          rw [hrun, runV_no (fun X e => by injection e with e _; exact absurd e h59)]
          rfl)
        clear hl hl0 hd hd0 h35 h59 hrun hdk hsnoc
        go_wp2_with (first | (go_at_call 152; refine (letter_any _ _).mono ?_; rintro e wx ⟨rfl, hwx⟩; obtain rfl := hwx; rw [HL.out]) | (go_at_call 157; refine (digit03_any _ _).mono ?_; rintro e wx ⟨rfl, hwx⟩; obtain rfl := hwx; rw [HD.out]))
        go_ret2
        exact ⟨by rw [HV.out] <;> rfl, Below.refl _ _⟩
    · have hks : k = s.size := by omega
      have hrun := refN_run (r := r) (k := r.take (k - 1)) (q := []) (by
        have hl : r.length = k - 1 := by
          have := congrArg List.length HS.out
          rw [toList_length, List.length_cons] at this; omega
        rw [List.append_nil, List.take_of_length_le (by omega)]) HA.out (by intro c t e; cases e)
      have HV : Hid (onRL s.data.toList = noneV) := hide (by
        rw [HS.out]
        show onRV (refN r) = _
        rw [hrun]; rfl)
      have kne : ((k : Int) == (s.size : Int)) = true := beq_iff_eq.2 (by omega)
      have kne2 : (k == s.size) = true := beq_iff_eq.2 (by omega)
      clear hrun hks
      go_wp2_with fail
      go_ret2
      exact ⟨by rw [HV.out] <;> rfl, Below.refl _ _⟩
theorem refOnR_any (s : ByteArray) (w : World) (hsz : s.size ≤ 16777216) :
    Calls Tryz.prog 135 #[.string s] w fun e w' => e = .returned (onRL s.data.toList) ∧ Below w.heap.size w w' := by
  by_cases h : ∃ r, s.data.toList = 38 :: r
  · obtain ⟨r, hr⟩ := h
    exact refOnR_yes s w r hr hsz
  · exact refOnR_no s w (fun r e => h ⟨r, e⟩)
end Go.Proofs.YtiejmkjpgjbodaaGreatDoor

namespace Go.Proofs.YtiejmkjpgjbodaaGreatDoor
open Go.RowKit
set_option linter.unusedVariables false
set_option linter.unusedSimpArgs false
set_option maxRecDepth 100000
theorem decE_onRL (l : List UInt8) (c : UInt8) (t : List UInt8) (h : l = c :: t) : (onRL l = noneV ∧ decE l = c :: decE t) ∨ ∃ (x : Int) (n : Nat), 0 < n ∧ n ≤ t.length ∧ onRL l = .tuple #[.string (str (runeL x)), .int .i64 (n + 1 : Nat)] ∧ decE l = runeL x ++ decE (t.drop n) := by
  subst h
  by_cases hc : c = 38
  · subst hc
    show (onRV (refN t) = _ ∧ _) ∨ _
    rw [decE_amp]
    by_cases hn : 0 < (refN t).2
    · refine .inr ⟨(refN t).1, (refN t).2, hn, (refN_ok t).2, ?_, by rw [if_pos hn]⟩
      show onRV (refN t) = _
      unfold onRV; rw [if_pos hn]
    · refine .inl ⟨?_, by rw [if_neg hn]⟩
      unfold onRV; rw [if_neg hn]; rfl
  · refine .inl ⟨?_, decE_cons hc t⟩
    unfold onRL
    split
    · rename_i e; injection e with e _; exact absurd e hc
    · rfl
set_option maxHeartbeats 4000000 in
theorem refDecode12_any (s : ByteArray) (w : World) (hs : s.size ≤ 16777216) :
    Calls Tryz.prog 92 #[.string s] w fun e w' => e = .returned (.string (str (decE s.data.toList))) ∧ Below w.heap.size w w' := by
  have hb0 : Buf w.heap.size (.slice none 0 0) [] w w := Buf.nil (Below.refl _ _) (Nat.le_refl _)
  have HB0 := hide hb0
  clear hb0
  go_enter Tryz.func92, Tryz.ntmps92
  go_wp2_with fail
  go_loopw [3, 4] (fun v i wr => ∃ (k : Nat) (acc : List UInt8), k ≤ s.size ∧ i = .int .i64 k ∧ Hid (Buf w.heap.size v acc w wr) ∧ Hid (acc.length ≤ 4 * k) ∧ Hid (acc ++ decE (s.data.toList.drop k) = decE s.data.toList)) (fun _ i _ => s.size - (intOf i).toNat)
  case atStart => exact ⟨0, [], Nat.zero_le _, rfl, HB0, hide (Nat.le_refl _), hide rfl⟩
  case round =>
    obtain ⟨k, acc, hk, rfl, HB, HL, HG⟩ := hrel
    by_cases hlt : k < s.size
    · have HO := hide (fun (w : World) => refOnR_any (s.extract k s.size) w (by rw [ByteArray.size_extract]; omega))
      rw [extract_end] at HO
      have hG := HG.out
      have hL := HL.out
      rcases decE_onRL (s.data.toList.drop k) s[k] (s.data.toList.drop (k + 1)) (drop_cons s k hlt) with ⟨o1, o2⟩ | ⟨x, n, n0, n1, o1, o2⟩
      · rw [o1, show noneV = .tuple #[.string ⟨#[]⟩, .int .i64 0] from rfl] at HO
        rw [o2] at hG
        have HGN : Hid ((acc ++ [s[k]]) ++ decE (s.data.toList.drop (k + 1)) = decE s.data.toList) := hide (by rw [← hG]; simp)
        have k1 : (k : Int) ≤ s.size := by omega
        have HLN : Hid (acc.length + 1 ≤ 140737488355328) := hide (by omega)
        clear o1 o2 hG hL
        go_wp2_with (first
          | (go_at_call 135; refine (HO.out _).mono ?_; rintro e w3 ⟨rfl, hb3⟩; have HB3 := hide (HB.out.kept hb3); clear hb3)
          | (refine wpList_buf_byte rfl _ _ rfl w.heap.size u3 acc rfl w _ s[k] HB3.out rfl (by first | exact HLN.out | (have := HLN.out; omega)) ?_; intro v2 w2 hb2; have HB2 := hide hb2; clear hb2))
        go_roundw
        case rel => exact ⟨k + 1, _, by omega, by go_num, HB2, hide (by have := HL.out; simp; omega), HGN⟩
        case measure => simp [intOf]; omega
      · rw [o1] at HO
        rw [o2, List.drop_drop] at hG
        rw [List.length_drop, toList_length] at n1
        have hrl := (runeL_length x).2.1
        obtain ⟨V, hV⟩ : ∃ V, V = str (runeL x) := ⟨_, rfl⟩
        rw [← hV] at HO
        have hVl : V.data.toList = runeL x := by rw [hV, str_toList]
        have HGN : Hid ((acc ++ V.data.toList) ++ decE (s.data.toList.drop (k + (n + 1))) = decE s.data.toList) := hide (by rw [← hG, hVl, show k + (n + 1) = k + 1 + n by omega]; simp)
        have HLV : Hid ((acc ++ V.data.toList).length ≤ 4 * (k + (n + 1))) := hide (by rw [List.length_append, hVl]; omega)
        have HLN : Hid (acc.length + V.size ≤ 140737488355328) := hide (by rw [← toList_length, hVl]; omega)
        have k1 : (k : Int) ≤ s.size := by omega
        have nn : (((n : Int) + 1) == 0) = false := beq_eq_false_iff_ne.2 (by omega)
        have q1 : IntKind.i64.wrap ((k : Int) + ((n : Int) + 1)) = ((k + (n + 1) : Nat) : Int) := by rw [IntWalk.i64_in _ (by omega)]; omega
        clear o1 o2 hG hL hrl hV hVl
        go_wp2_with (first
          | (go_at_call 135; refine (HO.out _).mono ?_; rintro e w3 ⟨rfl, hb3⟩; have HB3 := hide (HB.out.kept hb3); clear hb3)
          | (refine wpList_buf_text rfl _ _ rfl w.heap.size u3 acc rfl w HB3.out V rfl HLN.out ?_; intro v2 w2 hb2; have HB2 := hide hb2; clear hb2))
        go_roundw
        case rel => exact ⟨k + (n + 1), _, by omega, by go_num, HB2, HLV, HGN⟩
        case measure => simp [intOf]; omega
    · have hcv := HB.out.convert
      have hG := HG.out
      rw [drop_nil s k (by omega), decE_nil, List.append_nil] at hG
      have HR := hide hG
      clear hG
      go_wp2_with fail
      go_ret
      exact ⟨by rw [HR.out] <;> rfl, HB.out.below⟩
end Go.Proofs.YtiejmkjpgjbodaaGreatDoor

namespace Go.Proofs.YtiejmkjpgjbodaaGreatDoor
open Go.RowKit
set_option linter.unusedVariables false
set_option linter.unusedSimpArgs false
set_option maxRecDepth 100000
def valR (l : List UInt8) (a : Nat) : List UInt8 × Nat := match l.drop a with
  | c :: r => if c = 34 ∨ c = 39 then (match findAt [c] r with | none => ([], l.length) | some k => (decE (r.take k), a + 1 + k + 1)) else (decE ((l.drop a).take (untilN valueEndB l a - a)), untilN valueEndB l a)
  | [] => (decE ((l.drop a).take (untilN valueEndB l a - a)), untilN valueEndB l a)
theorem valR_plain {l : List UInt8} {a : Nat} (h : ∀ c r, l.drop a = c :: r → c ≠ 34 ∧ c ≠ 39) : valR l a = (decE ((l.drop a).take (untilN valueEndB l a - a)), untilN valueEndB l a) := by
  unfold valR
  split
  · rename_i c r hd
    obtain ⟨h1, h2⟩ := h c r hd
    rw [if_neg (fun e => e.elim h1 h2), hd]
  · rename_i hd; rw [hd]
theorem valR_quote {l r : List UInt8} {a : Nat} {c : UInt8} (hd : l.drop a = c :: r) (hc : c = 34 ∨ c = 39) : valR l a = match findAt [c] r with | none => ([], l.length) | some k => (decE (r.take k), a + 1 + k + 1) := by
  unfold valR
  split
  · rename_i c' r' hd'
    rw [hd] at hd'
    injection hd' with h1 h2
    subst h1 h2
    rw [if_pos hc]
  · rename_i hd'; rw [hd] at hd'; cases hd'
theorem valR_le {l : List UInt8} {a : Nat} (h : a ≤ l.length) : (valR l a).2 ≤ l.length ∧ (valR l a).1.length ≤ l.length := by
  have hp : ∀ x : List UInt8, x.length ≤ l.length → (decE x).length ≤ l.length := fun x hx => Nat.le_trans (decE_len _ x (Nat.le_refl _)) hx
  by_cases hq : ∀ c r, l.drop a = c :: r → c ≠ 34 ∧ c ≠ 39
  · rw [valR_plain hq]
    refine ⟨(until_le h).2, hp _ ?_⟩
    rw [List.length_take, List.length_drop]; omega
  · cases hd : l.drop a with
    | nil => exact absurd (fun c r e => by rw [hd] at e; cases e) hq
    | cons c r =>
      have hc : c = 34 ∨ c = 39 := by
        by_cases h1 : c = 34
        · exact .inl h1
        · by_cases h2 : c = 39
          · exact .inr h2
          · exact absurd (fun c' r' e => by rw [hd] at e; injection e with e1 _; subst e1; exact ⟨h1, h2⟩) hq
      have hlen := congrArg List.length hd
      rw [List.length_drop, List.length_cons] at hlen
      rw [valR_quote hd hc]
      cases hf : findAt [c] r with
      | none => exact ⟨Nat.le_refl _, Nat.zero_le _⟩
      | some k =>
        have := findAt_le (t := [c]) (by simp) hf
        simp only [List.length_cons, List.length_nil] at this
        refine ⟨by simp only; omega, hp _ ?_⟩
        rw [List.length_take]; omega
theorem valR_L (l : List UInt8) (a : Nat) (h : a ≤ l.length) : (valueL (l.drop a)).2 = l.drop (valR l a).2 ∧ ((valueL (l.drop a)).2 ≠ [] → decE (valueL (l.drop a)).1 = (valR l a).1) := by
  have hup := until_up valueEndB l a
  by_cases hq : ∀ c r, l.drop a = c :: r → c ≠ 34 ∧ c ≠ 39
  · rw [valR_plain hq]
    have hv : valueL (l.drop a) = upL valueEndB (l.drop a) := by
      cases hd : l.drop a with
      | nil => rfl
      | cons c r =>
        obtain ⟨h1, h2⟩ := hq c r hd
        unfold valueL
        simp only
        rw [if_neg h1, if_neg h2]
    rw [hv, hup]
    exact ⟨rfl, fun _ => rfl⟩
  · cases hd : l.drop a with
    | nil => exact absurd (fun c r e => by rw [hd] at e; cases e) hq
    | cons c r =>
      have hc : c = 34 ∨ c = 39 := by
        by_cases h1 : c = 34
        · exact .inl h1
        · by_cases h2 : c = 39
          · exact .inr h2
          · exact absurd (fun c' r' e => by rw [hd] at e; injection e with e1 _; subst e1; exact ⟨h1, h2⟩) hq
      have hv : valueL (c :: r) = cutAt [c] r := by
        rw [cut_one13]
        unfold valueL
        rcases hc with rfl | rfl
        · rfl
        · rfl
      rw [valR_quote hd hc, hv, cut_find]
      cases hf : findAt [c] r with
      | none => simp only; exact ⟨by rw [List.drop_length], fun h => absurd rfl h⟩
      | some k =>
        simp only
        refine ⟨?_, fun _ => by first | rfl | trivial⟩
        have : r = l.drop (a + 1) := (drop_succ13 hd).symm
        rw [this, List.drop_drop]
        congr 1
theorem valueEnd_has13 (c : UInt8) : valueEndB c = (whB c || (⟨#[62]⟩ : ByteArray).data.toList.contains c) := by
  unfold valueEndB
  simp only [List.contains_cons, List.contains_nil, Bool.or_false]
set_option maxHeartbeats 4000000 in
theorem value13_any (s : ByteArray) (a : Nat) (w : World) (ha : a ≤ s.size) (hs : s.size ≤ 16777216) :
    Calls Tryz.prog 155 #[.string s, .int .i64 a] w fun e w' => e = .returned (.tuple #[.string (str (valR s.data.toList a).1), .int .i64 ((valR s.data.toList a).2 : Nat)]) ∧ Below w.heap.size w w' := by
  have hla := toList_length s
  obtain ⟨V, N, hVN⟩ : ∃ V N, valR s.data.toList a = (V, N) := ⟨_, _, rfl⟩
  rw [hVN]
  show Calls Tryz.prog 155 #[.string s, .int .i64 a] w fun e w' => e = .returned (.tuple #[.string (str V), .int .i64 (N : Nat)]) ∧ Below w.heap.size w w'
  obtain ⟨X, hX⟩ : ∃ X, X = str V := ⟨_, rfl⟩
  rw [← hX]
  by_cases hq : ∀ c r, s.data.toList.drop a = c :: r → c ≠ 34 ∧ c ≠ 39
  · obtain ⟨U, hU⟩ : ∃ U, U = untilN valueEndB s.data.toList a := ⟨_, rfl⟩
    have hUl := until_le (p := valueEndB) (l := s.data.toList) (a := a) (by omega)
    rw [← hU, hla] at hUl
    have HUN := hide (fun w2 => until13_any s a ⟨#[62]⟩ valueEndB w2 ha (by omega) (by decide) valueEnd_has13)
    rw [← hU] at HUN
    obtain ⟨P, hP⟩ : ∃ P, s.extract a U = P := ⟨_, rfl⟩
    have hPl : P.data.toList = (s.data.toList.drop a).take (U - a) := by rw [← hP, extract_list, List.drop_take]
    have zP : P.size ≤ 16777216 := by rw [← toList_length, hPl, List.length_take, List.length_drop]; omega
    have HDE := hide (fun w2 => refDecode12_any P w2 zP)
    rw [hPl] at HDE
    have q0 : (a : Int) ≤ U := by omega
    have q1 : (U : Int) ≤ s.size := by omega
    have hv2 : valR s.data.toList a = (decE ((s.data.toList.drop a).take (U - a)), U) := by rw [valR_plain hq, hU]
    rw [hVN] at hv2
    injection hv2 with hv3 hv4
    rw [← hv3, ← hX] at HDE
    subst hv4
    by_cases hlt : a < s.size
    · have hd := drop_cons s a hlt
      obtain ⟨n1, n2⟩ := hq _ _ hd
      have t1 : ((s[a].toNat : Int) == 34) = false := tF 34 n1 (by omega)
      have t2 : ((s[a].toNat : Int) == 39) = false := tF 39 n2 (by omega)
      clear hd n1 n2 hq hU hPl hla hVN hv3 hX
      go_enter Tryz.func155, Tryz.ntmps155
      go_wp2_with fail
      refine (HUN.out _).mono ?_
      rintro e w1 ⟨rfl, hw1⟩
      have HB1 : Hid (Below w.heap.size w w1) := hide (by obtain ⟨m, rfl⟩ := hw1; exact ⟨rfl, rfl, rfl, Nat.le_refl _, fun _ _ => rfl⟩)
      clear hw1
      go_wp2_with fail
      refine (HDE.out _).mono ?_
      rintro e w2 ⟨rfl, hb2⟩
      have HB2 := hide (HB1.out.trans (hb2.mono HB1.out.size))
      clear hb2
      go_wp2_with fail
      go_ret2
      exact ⟨rfl, HB2.out⟩
    · clear hq hU hPl hla hVN hv3 hX
      go_enter Tryz.func155, Tryz.ntmps155
      go_wp2_with fail
      refine (HUN.out _).mono ?_
      rintro e w1 ⟨rfl, hw1⟩
      have HB1 : Hid (Below w.heap.size w w1) := hide (by obtain ⟨m, rfl⟩ := hw1; exact ⟨rfl, rfl, rfl, Nat.le_refl _, fun _ _ => rfl⟩)
      clear hw1
      go_wp2_with fail
      refine (HDE.out _).mono ?_
      rintro e w2 ⟨rfl, hb2⟩
      have HB2 := hide (HB1.out.trans (hb2.mono HB1.out.size))
      clear hb2
      go_wp2_with fail
      go_ret2
      exact ⟨rfl, HB2.out⟩
  · have hlt : a < s.size := by
      rcases Nat.lt_or_ge a s.size with h | h
      · exact h
      · exact absurd (fun c r e => by rw [List.drop_eq_nil_of_le (by omega)] at e; cases e) hq
    have hd := drop_cons s a hlt
    obtain ⟨c, hc⟩ : ∃ c, s[a] = c := ⟨_, rfl⟩
    obtain ⟨r, hr⟩ : ∃ r, r = s.data.toList.drop (a + 1) := ⟨_, rfl⟩
    rw [hc, ← hr] at hd
    have hcq : c = 34 ∨ c = 39 := by
      by_cases h1 : c = 34
      · exact .inl h1
      · by_cases h2 : c = 39
        · exact .inr h2
        · exact absurd (fun c' r' e => by rw [hd] at e; injection e with e1 _; subst e1; exact ⟨h1, h2⟩) hq
    obtain ⟨T, hT⟩ : ∃ T, s.extract a (a + 1) = T := ⟨_, rfl⟩
    have hTl : T.data.toList = [c] := by
      rw [← hT, extract_list, List.drop_take, hd, Nat.add_sub_cancel_left]; rfl
    have zT : T.size = 1 := by rw [← toList_length, hTl]; rfl
    have HIX := hide (fun w2 => index13_any s (a + 1) T w2 (by omega) (by omega) (by omega) (by omega))
    rw [hTl] at HIX
    have hvq := valR_quote hd hcq
    have hrl : r.length + a + 1 = s.size := by
      have := congrArg List.length hd
      rw [List.length_drop, List.length_cons, hla] at this; omega
    have hix : idxZ [c] s.data.toList (a + 1) = match findAt [c] r with | some k => ((a + 1 + k : Nat) : Int) | none => -1 := by
      unfold idxZ
      rw [← hr]
      cases findAt [c] r <;> rfl
    have q0 : (0 : Int) ≤ a := by omega
    have q1 : (a : Int) + 1 ≤ s.size := by omega
    have tc : ((s[a].toNat : Int) == 34) = true ∨ (((s[a].toNat : Int) == 34) = false ∧ ((s[a].toNat : Int) == 39) = true) := by
      rcases hcq with h | h
      · exact .inl (tT 34 (by rw [hc, h]; rfl) (by omega))
      · exact .inr ⟨tF 34 (by rw [hc, h]; decide) (by omega), tT 39 (by rw [hc, h]; rfl) (by omega)⟩
    have hca : ((a + 1 : Nat) : Int) = (a : Int) + 1 := by omega
    rw [hca] at HIX
    cases hf : findAt [c] r with
    | none =>
      rw [hf] at hvq hix
      simp only at hvq hix
      rw [hix] at HIX
      rw [hvq, hla] at hVN
      injection hVN with hv3 hv4
      rw [← hv3] at hX
      subst hX
      subst hv4
      clear hc hvq hv3 hix hf hd hr hrl hTl zT hq hcq hla hca
      rcases tc with t1 | ⟨t1, t2⟩
      all_goals
        go_enter Tryz.func155, Tryz.ntmps155
        go_wp2_with fail
        refine (HIX.out _).mono ?_
        rintro e w1 ⟨rfl, hw1⟩
        subst hw1
        go_wp2_with fail
        go_ret2
        exact ⟨rfl, Below.refl _ _⟩
    | some k =>
      rw [hf] at hvq hix
      simp only at hvq hix
      have hkl := findAt_le (t := [c]) (by simp) hf
      simp only [List.length_cons, List.length_nil] at hkl
      obtain ⟨E, hE⟩ : ∃ E, E = a + 1 + k := ⟨_, rfl⟩
      rw [← hE] at hvq hix
      rw [hix] at HIX
      obtain ⟨P, hP⟩ : ∃ P, s.extract (a + 1) E = P := ⟨_, rfl⟩
      have hPl : P.data.toList = r.take k := by rw [← hP, extract_list, List.drop_take, ← hr, hE]; congr 1; omega
      have zP : P.size ≤ 16777216 := by rw [← toList_length, hPl, List.length_take]; omega
      have HDE := hide (fun w2 => refDecode12_any P w2 zP)
      rw [hPl] at HDE
      rw [hvq] at hVN
      injection hVN with hv3 hv4
      rw [hv3, ← hX] at HDE
      subst hv4
      have q2 : (a : Int) + 1 ≤ E := by omega
      have q3 : (E : Int) ≤ s.size := by omega
      have q4 : decide ((E : Int) < 0) = false := decide_eq_false (by omega)
      have q5 : wrap64 ((E : Int) + 1) = ((E + 1 : Nat) : Int) := by unfold wrap64; omega
      clear hc hvq hv3 hX hix hf hd hr hrl hTl zT hq hcq hla hca hPl hE hkl
      rcases tc with t1 | ⟨t1, t2⟩
      all_goals
        go_enter Tryz.func155, Tryz.ntmps155
        go_wp2_with fail
        refine (HIX.out _).mono ?_
        rintro e w1 ⟨rfl, hw1⟩
        subst hw1
        go_wp2_with fail
        refine (HDE.out _).mono ?_
        rintro e w2 ⟨rfl, hb2⟩
        have HB2 := hide hb2
        clear hb2
        go_wp2_with fail
        go_ret2
        exact ⟨rfl, HB2.out⟩
end Go.Proofs.YtiejmkjpgjbodaaGreatDoor

namespace Go.Proofs.YtiejmkjpgjbodaaGreatDoor
open Go.RowKit
set_option linter.unusedVariables false
set_option linter.unusedSimpArgs false
set_option maxRecDepth 100000
theorem isMark_len {l : List UInt8} (h : l.length < 2) : isMarkB l = false := by
  match l, h with
  | [], _ => rfl
  | [a], _ => unfold isMarkB; split <;> first | rfl | (rename_i e; simp at e)
theorem isMark_head {a : UInt8} {r : List UInt8} (h : a ≠ 60) : isMarkB (a :: r) = false := by
  unfold isMarkB
  split
  · rename_i e
    exact absurd (List.cons.inj e).1 h
  · rfl
theorem isMark_mk (c : UInt8) (r : List UInt8) : isMarkB (60 :: c :: r) = if c = 33 ∨ c = 63 then true else if c = 47 then !r.isEmpty else letterB c := by unfold isMarkB; rfl
theorem hasPrefix_60 (a : UInt8) (r : List UInt8) : Lib.hasPrefix (a :: r) [60] = decide (a = 60) := by
  unfold Lib.hasPrefix
  show ((60 == a) && true) = _
  rw [Bool.and_true]
  by_cases h : a = 60
  · subst h; rfl
  · rw [decide_eq_false h]
    exact beq_false_of_ne (fun e => h e.symm)
set_option maxHeartbeats 2000000 in
theorem isMark_any (s : ByteArray) (w : World) (hs : s.size ≤ 16777216) :
    Calls Tryz.prog 115 #[.string s] w fun e w' => e = .returned (.bool (isMarkB s.data.toList)) ∧ w = w' := by
  have hlen := toList_length s
  by_cases h2 : s.size < 2
  · have HR := hide (isMark_len (l := s.data.toList) (by rw [hlen]; exact h2))
    clear hlen
    go_enter Tryz.func115, Tryz.ntmps115
    go_wp2_with fail
    all_goals first | (exact absurd h2 ‹_›) | skip
    go_ret
    exact ⟨ret_bool HR.out.symm, rfl⟩
  · have h0 : 0 < s.size := by omega
    have h1 : 1 < s.size := by omega
    have e0 := drop_cons s 0 h0
    rw [List.drop_zero] at e0
    have e1 := drop_cons s 1 h1
    have hl : s.data.toList = s[0] :: s[1] :: s.data.toList.drop 2 := by rw [← e1]; exact e0
    have n2 : ¬ s.size < 2 := h2
    by_cases ha : s[0] = 60
    · have HP : Hid (Lib.hasPrefix s.data.toList (⟨#[60]⟩ : ByteArray).data.toList = true) := hide (by
        show Lib.hasPrefix s.data.toList [60] = true
        rw [hl, hasPrefix_60]
        exact decide_eq_true ha)
      have hmk : isMarkB s.data.toList = if s[1] = 33 ∨ s[1] = 63 then true else if s[1] = 47 then !(s.data.toList.drop 2).isEmpty else letterB s[1] := by
        conv => lhs; rw [hl, ha]
        exact isMark_mk _ _
      have hc256 := byte_lt s[1]
      by_cases h33 : s[1] = 33
      · have t33 : ((s[1].toNat : Int) == 33) = true := tT 33 h33 (by omega)
        have HR : Hid (isMarkB s.data.toList = true) := hide (by rw [hmk, if_pos (.inl h33)])
        clear hmk hl e0 e1 hlen ha
        go_enter Tryz.func115, Tryz.ntmps115
        go_wp2_with fail
        refine (Tryz.strings_HasPrefix s _ _).mono ?_
        rintro e w1 ⟨rfl, hw⟩
        subst hw
        rw [HP.out]
        go_wp2_with fail
        go_ret
        exact ⟨ret_bool HR.out.symm, rfl⟩
      · have t33 : ((s[1].toNat : Int) == 33) = false := tF 33 h33 (by omega)
        by_cases h63 : s[1] = 63
        · have t63 : ((s[1].toNat : Int) == 63) = true := tT 63 h63 (by omega)
          have HR : Hid (isMarkB s.data.toList = true) := hide (by rw [hmk, if_pos (.inr h63)])
          clear hmk hl e0 e1 hlen ha
          go_enter Tryz.func115, Tryz.ntmps115
          go_wp2_with fail
          refine (Tryz.strings_HasPrefix s _ _).mono ?_
          rintro e w1 ⟨rfl, hw⟩
          subst hw
          rw [HP.out]
          go_wp2_with fail
          go_ret
          exact ⟨ret_bool HR.out.symm, rfl⟩
        · have t63 : ((s[1].toNat : Int) == 63) = false := tF 63 h63 (by omega)
          rw [if_neg (by rintro (h | h); exact h33 h; exact h63 h)] at hmk
          by_cases h47 : s[1] = 47
          · have t47 : ((s[1].toNat : Int) == 47) = true := tT 47 h47 (by omega)
            rw [if_pos h47] at hmk
            have HR : Hid (isMarkB s.data.toList = decide ((2 : Int) < s.size)) := hide (by
              rw [hmk]
              have hd : (s.data.toList.drop 2).length = s.size - 2 := by rw [List.length_drop, hlen]
              cases hdl : s.data.toList.drop 2 with
              | nil => rw [hdl] at hd; exact (decide_eq_false (by simp at hd; omega)).symm
              | cons a r => rw [hdl] at hd; exact (decide_eq_true (by simp at hd; omega)).symm)
            clear hmk hl e0 e1 hlen ha
            go_enter Tryz.func115, Tryz.ntmps115
            go_wp2_with fail
            refine (Tryz.strings_HasPrefix s _ _).mono ?_
            rintro e w1 ⟨rfl, hw⟩
            subst hw
            rw [HP.out]
            go_wp2_with fail
            go_ret
            exact ⟨ret_bool (by rw [HR.out]), rfl⟩
          · have t47 : ((s[1].toNat : Int) == 47) = false := tF 47 h47 (by omega)
            rw [if_neg h47] at hmk
            have HR := hide hmk
            clear hmk hl e0 e1 hlen ha
            go_enter Tryz.func115, Tryz.ntmps115
            go_wp2_with fail
            refine (Tryz.strings_HasPrefix s _ _).mono ?_
            rintro e w1 ⟨rfl, hw⟩
            subst hw
            rw [HP.out]
            go_wp2_with fail
            refine (letterW_any _ _).mono ?_
            rintro e w1 ⟨rfl, rfl⟩
            rw [← HR.out]
            go_wp2_with fail
            go_ret
            exact ⟨rfl, rfl⟩
    · have HP : Hid (Lib.hasPrefix s.data.toList (⟨#[60]⟩ : ByteArray).data.toList = false) := hide (by
        show Lib.hasPrefix s.data.toList [60] = false
        rw [hl, hasPrefix_60]
        exact decide_eq_false ha)
      have HR : Hid (isMarkB s.data.toList = false) := hide (by rw [hl]; exact isMark_head ha)
      clear hl e0 e1 hlen ha
      go_enter Tryz.func115, Tryz.ntmps115
      go_wp2_with fail
      refine (Tryz.strings_HasPrefix s _ _).mono ?_
      rintro e w1 ⟨rfl, hw⟩
      subst hw
      rw [HP.out]
      go_wp2_with fail
      go_ret
      exact ⟨ret_bool HR.out.symm, rfl⟩
set_option maxHeartbeats 2000000 in
theorem firstMark_any (s : ByteArray) (w : World) (hs : s.size ≤ 16777216) :
    Calls Tryz.prog 81 #[.string s] w fun e w' => e = .returned (.int .i64 (markN s.data.toList : Nat)) ∧ w = w' := by
  have hlen := toList_length s
  go_enter Tryz.func81, Tryz.ntmps81
  go_wp2_with fail
  go_loop [6] (fun i => ∃ k : Nat, k ≤ s.size ∧ i = .int .i64 k ∧ Hid (markN s.data.toList = k + markN (s.data.toList.drop k))) (fun i => s.size - (intOf i).toNat)
  case atStart => exact ⟨0, Nat.zero_le _, rfl, hide (by rw [List.drop_zero, Nat.zero_add])⟩
  case round =>
    obtain ⟨k, hk, rfl, HM⟩ := hrel
    by_cases hlt : k < s.size
    · have hd := drop_cons s k hlt
      have hel : (s.extract k s.size).data.toList = s.data.toList.drop k := extract_end s k
      have HI := hide (isMark_any (s.extract k s.size) w (by rw [ByteArray.size_extract]; omega))
      rw [hel] at HI
      cases hm : isMarkB (s.data.toList.drop k) with
      | true =>
        rw [hm] at HI
        have HR : Hid (markN s.data.toList = k) := hide (by
          rw [HM.out, hd]
          rw [hd] at hm
          unfold markN
          rw [if_pos hm, Nat.add_zero])
        clear hd hel hm hlen
        go_wp2_with fail
        refine HI.out.mono ?_
        rintro e w1 ⟨rfl, rfl⟩
        go_wp2_with fail
        go_ret
        exact ⟨ret_int (by rw [HR.out]), rfl⟩
      | false =>
        rw [hm] at HI
        have HM2 : Hid (markN s.data.toList = (k + 1) + markN (s.data.toList.drop (k + 1))) := hide (by
          rw [HM.out, hd]
          rw [hd] at hm
          conv => lhs; unfold markN
          rw [if_neg (by rw [hm]; exact Bool.false_ne_true)]
          omega)
        clear hd hel hm hlen
        go_wp2_with fail
        refine HI.out.mono ?_
        rintro e w1 ⟨rfl, rfl⟩
        go_wp2_with fail
        go_round
        case rel => exact ⟨k + 1, by omega, by go_num, HM2⟩
        case measure => simp [intOf]; omega
    · obtain rfl : k = s.size := by omega
      have HR : Hid (markN s.data.toList = s.size) := hide (by
        rw [HM.out, List.drop_eq_nil_of_le (by rw [hlen]; exact Nat.le_refl _)]
        rfl)
      clear hlen
      go_wp2_with fail
      go_ret
      exact ⟨ret_int (by rw [HR.out]), rfl⟩
end Go.Proofs.YtiejmkjpgjbodaaGreatDoor

namespace Go.Proofs.YtiejmkjpgjbodaaGreatDoor
open Go.RowKit
set_option linter.unusedVariables false
set_option linter.unusedSimpArgs false
set_option maxRecDepth 100000
theorem baList (b : ByteArray) : b.toList = b.data.toList := by
  conv => lhs; rw [← str_of b]
  exact str_list _
theorem ba_ne {a b : ByteArray} (h : a ≠ b) : (a.toList == b.toList) = false := by
  refine beq_false_of_ne (fun e => h ?_)
  rw [baList, baList] at e
  rw [← str_of a, e, str_of]
theorem rawEnd_not {n l : List UInt8} (h : Lib.hasPrefix l [60, 47] = false) : rawEndB n l = false := by
  unfold rawEndB
  split
  · simp [Lib.hasPrefix] at h
  · rfl
theorem rawEnd_yes {l : List UInt8} (h : Lib.hasPrefix l [60, 47] = true) : ∃ r, l = 60 :: 47 :: r := by
  unfold Lib.hasPrefix at h
  obtain ⟨r, hr⟩ := List.isPrefixOf_iff_prefix.1 h
  exact ⟨r, hr.symm⟩
theorem rawEnd_mk (n r : List UInt8) : rawEndB n (60 :: 47 :: r) = (decide (n.length < r.length) && (lowL (r.take n.length) == n && nameEndB (r.getD n.length 0))) := by unfold rawEndB; rfl
theorem idxHas (c : UInt8) : ∀ l : List UInt8, decide (0 ≤ Lib.indexByte l c) = l.contains c
  | [] => rfl
  | b :: l => by
    have ih := idxHas c l
    unfold Lib.indexByte
    by_cases h : b = c
    · subst h
      simp
    · simp only [List.contains_cons]
      rw [beq_false_of_ne (fun e : c = b => h e.symm), Bool.false_or, ← ih]
      have hb : (b == c) = false := beq_false_of_ne h
      simp only [hb]
      by_cases h2 : Lib.indexByte l c = -1
      · simp [h2]
      · have : (Lib.indexByte l c == -1) = false := beq_false_of_ne h2
        simp only [this]
        apply Bool.eq_iff_iff.2
        simp only [decide_eq_true_eq, Bool.false_eq_true, if_false]
        omega
theorem nameEnd_index (c : UInt8) : decide (0 ≤ Lib.indexByte (⟨#[32, 9, 10, 12, 13, 47, 62]⟩ : ByteArray).data.toList c) = nameEndB c := by
  show decide (0 ≤ Lib.indexByte [32, 9, 10, 12, 13, 47, 62] c) = nameEndB c
  rw [idxHas]
  unfold nameEndB whB
  simp only [List.contains_cons, List.contains_nil, Bool.or_false, Bool.or_assoc]
set_option maxHeartbeats 4000000 in
theorem isRawEnd_any (s n : ByteArray) (w : World) (hs : s.size ≤ 16777216) (hn : n.size ≤ 16777216) :
    Calls Tryz.prog 178 #[.string s, .string n] w fun e w' => e = .returned (.bool (rawEndB n.data.toList s.data.toList)) ∧ Below w.heap.size w w' := by
  cases hp : Lib.hasPrefix s.data.toList [60, 47] with
  | false =>
    have HR : Hid (rawEndB n.data.toList s.data.toList = false) := hide (rawEnd_not hp)
    have HP : Hid (Lib.hasPrefix s.data.toList (⟨#[60, 47]⟩ : ByteArray).data.toList = false) := hide hp
    clear hp
    go_enter Tryz.func178, Tryz.ntmps178
    go_wp2_with fail
    refine (Tryz.strings_CutPrefix s _ _).mono ?_
    rintro e w1 ⟨rfl, hw⟩
    subst hw
    rw [HP.out]
    go_wp2_with fail
    go_ret
    exact ⟨ret_bool HR.out.symm, Below.refl _ _⟩
  | true =>
    obtain ⟨r, hr⟩ := rawEnd_yes hp
    obtain ⟨T, hT⟩ : ∃ T : ByteArray, T = str r := ⟨_, rfl⟩
    have HP : Hid (Lib.hasPrefix s.data.toList (⟨#[60, 47]⟩ : ByteArray).data.toList = true) := hide hp
    have HT : Hid ((⟨(Lib.trimPrefix s.data.toList (⟨#[60, 47]⟩ : ByteArray).data.toList).toArray⟩ : ByteArray) = T) := hide (by
      rw [hT]
      unfold Lib.trimPrefix
      rw [show (⟨#[60, 47]⟩ : ByteArray).data.toList = [60, 47] from rfl, hp, hr]
      rfl)
    have hTl : T.data.toList = r := by rw [hT, str_toList]
    have hTs : T.size = r.length := by rw [hT, str_size]
    have hrl : r.length ≤ 16777216 := by
      have := congrArg List.length hr
      rw [toList_length] at this
      simp at this
      omega
    have hmk := (congrArg (rawEndB n.data.toList) hr).trans (rawEnd_mk _ _)
    rw [toList_length] at hmk
    by_cases hle : r.length ≤ n.size
    · have g1 : T.size ≤ n.size := by rw [hTs]; exact hle
      have HR : Hid (rawEndB n.data.toList s.data.toList = false) := hide (by rw [hmk, decide_eq_false (by omega)]; rfl)
      clear hp hr hT hTl hTs hmk hrl
      go_enter Tryz.func178, Tryz.ntmps178
      go_wp2_with fail
      refine (Tryz.strings_CutPrefix s _ _).mono ?_
      rintro e w1 ⟨rfl, hw⟩
      subst hw
      rw [HP.out, HT.out]
      go_wp2_with fail
      all_goals first | (exact absurd g1 ‹_›) | skip
      go_ret
      exact ⟨ret_bool HR.out.symm, Below.refl _ _⟩
    · have g1 : ¬ T.size ≤ n.size := by rw [hTs]; exact hle
      rw [decide_eq_true (show n.size < r.length by omega), Bool.true_and] at hmk
      have hlt : n.size < T.size := by omega
      have hg : r.getD n.size 0 = T[n.size] := by
        have e := drop_cons T n.size hlt
        rw [hTl] at e
        rw [List.getD_eq_getElem?_getD, ← List.head?_drop, e]
        rfl
      rw [hg] at hmk
      have hel : (T.extract 0 n.size).data.toList = r.take n.size := by rw [extract_list, List.drop_zero, hTl]
      have HLOW := hide (fun w2 => lower_any (T.extract 0 n.size) w2 (by rw [ByteArray.size_extract]; omega))
      rw [hel] at HLOW
      have hu : (T[n.size].toNat : Int).toNat.toUInt8 = T[n.size] := by rw [Int.toNat_natCast]; exact UInt8.ofNat_toNat
      have HU := hide hu
      have q1 : (n.size : Int) ≤ T.size := by omega
      have hc256 := byte_lt T[n.size]
      obtain ⟨L, hL⟩ : ∃ L, str (lowL (r.take n.size)) = L := ⟨_, rfl⟩
      have hLn : (lowL (r.take n.size) == n.data.toList) = decide (L = n) := by
        by_cases e : L = n
        · rw [decide_eq_true e, beq_iff_eq]
          have h2 : (str (lowL (r.take n.size))).data.toList = n.data.toList := by rw [hL, e]
          rw [str_toList] at h2
          exact h2
        · rw [decide_eq_false e]
          exact beq_false_of_ne (fun h => e (by rw [← hL, h, str_of]))
      rw [hLn] at hmk
      rw [hL] at HLOW
      have HIX := hide (nameEnd_index T[n.size])
      clear hp hr hT hTl hTs hrl hg hel hu hL hLn
      by_cases hq : L = n
      · subst hq
        rw [decide_eq_true rfl, Bool.true_and] at hmk
        have HMK := hide hmk
        clear hmk
        go_enter Tryz.func178, Tryz.ntmps178
        go_wp2_with fail
        refine (Tryz.strings_CutPrefix s _ _).mono ?_
        rintro e w1 ⟨rfl, hw⟩
        subst hw
        rw [HP.out, HT.out]
        go_wp2_with fail
        refine (HLOW.out _).mono ?_
        rintro e w2 ⟨rfl, hb⟩
        have HB := hide hb
        clear hb
        go_wp2_with fail
        refine (Tryz.strings_IndexByte _ _ _).mono ?_
        rintro e w3 ⟨rfl, rfl⟩
        rw [HU.out]
        go_wp2_with fail
        go_ret
        exact ⟨ret_bool (by rw [HMK.out]; exact HIX.out), HB.out⟩
      · rw [decide_eq_false hq, Bool.false_and] at hmk
        have tq := ba_ne hq
        have HMK := hide hmk
        clear hmk
        go_enter Tryz.func178, Tryz.ntmps178
        go_wp2_with fail
        refine (Tryz.strings_CutPrefix s _ _).mono ?_
        rintro e w1 ⟨rfl, hw⟩
        subst hw
        rw [HP.out, HT.out]
        go_wp2_with fail
        refine (HLOW.out _).mono ?_
        rintro e w2 ⟨rfl, hb⟩
        have HB := hide hb
        clear hb
        go_wp2_with fail
        go_ret
        exact ⟨ret_bool HMK.out.symm, HB.out⟩
set_option maxHeartbeats 2000000 in
theorem rawSize_any (s n : ByteArray) (w : World) (hs : s.size ≤ 16777216) (hn : n.size ≤ 16777216) :
    Calls Tryz.prog 151 #[.string s, .string n] w fun e w' => e = .returned (.int .i64 (rawSizeL n.data.toList s.data.toList : Nat)) ∧ Below w.heap.size w w' := by
  have hlen := toList_length s
  by_cases hpl : n = ⟨#[112, 108, 97, 105, 110, 116, 101, 120, 116]⟩
  · have HR : Hid (rawSizeL n.data.toList s.data.toList = s.size) := hide (by
      unfold rawSizeL
      rw [if_pos (by rw [hpl]; rfl), hlen])
    clear hlen
    go_enter Tryz.func151, Tryz.ntmps151
    go_wp2_with fail
    go_ret
    exact ⟨ret_int (by rw [HR.out]), Below.refl _ _⟩
  · have tq : (n.toList == [112, 108, 97, 105, 110, 116, 101, 120, 116]) = false := by
      have := ba_ne hpl
      rwa [show (⟨#[112, 108, 97, 105, 110, 116, 101, 120, 116]⟩ : ByteArray).toList = [112, 108, 97, 105, 110, 116, 101, 120, 116] from by rw [baList]] at this
    have hrs : rawSizeL n.data.toList s.data.toList = rawN n.data.toList s.data.toList := by
      unfold rawSizeL
      rw [if_neg (fun h => hpl (by
        have := congrArg str h
        rw [str_of] at this
        exact this))]
    have HRS := hide hrs
    clear hrs
    go_enter Tryz.func151, Tryz.ntmps151
    go_wp2_with fail
    go_loopw [12] (fun i wr => ∃ k : Nat, k ≤ s.size ∧ i = .int .i64 k ∧ Hid (rawN n.data.toList s.data.toList = k + rawN n.data.toList (s.data.toList.drop k)) ∧ Hid (Below w.heap.size w wr)) (fun i _ => s.size - (intOf i).toNat)
    case atStart => exact ⟨0, Nat.zero_le _, rfl, hide (by rw [List.drop_zero, Nat.zero_add]), hide (Below.refl _ _)⟩
    case round =>
      obtain ⟨k, hk, rfl, HM, HB⟩ := hrel
      by_cases hlt : k < s.size
      · have hd := drop_cons s k hlt
        have hel : (s.extract k s.size).data.toList = s.data.toList.drop k := extract_end s k
        have HI := hide (fun w2 => isRawEnd_any (s.extract k s.size) n w2 (by rw [ByteArray.size_extract]; omega) hn)
        rw [hel] at HI
        cases hm : rawEndB n.data.toList (s.data.toList.drop k) with
        | true =>
          rw [hm] at HI
          have HR : Hid (rawN n.data.toList s.data.toList = k) := hide (by
            rw [HM.out, hd]
            rw [hd] at hm
            unfold rawN
            rw [if_pos hm, Nat.add_zero])
          clear hd hel hm hlen
          go_wp2_with fail
          refine (HI.out _).mono ?_
          rintro e w1 ⟨rfl, hb⟩
          have HB2 := hide (HB.out.trans (hb.mono HB.out.size))
          clear hb
          go_wp2_with fail
          go_ret
          exact ⟨ret_int (by rw [HRS.out, HR.out]), HB2.out⟩
        | false =>
          rw [hm] at HI
          have HM2 : Hid (rawN n.data.toList s.data.toList = (k + 1) + rawN n.data.toList (s.data.toList.drop (k + 1))) := hide (by
            rw [HM.out, hd]
            rw [hd] at hm
            conv => lhs; unfold rawN
            rw [if_neg (by rw [hm]; exact Bool.false_ne_true)]
            omega)
          clear hd hel hm hlen
          go_wp2_with fail
          refine (HI.out _).mono ?_
          rintro e w1 ⟨rfl, hb⟩
          have HB2 := hide (HB.out.trans (hb.mono HB.out.size))
          clear hb
          go_wp2_with fail
          go_roundw
          case rel => exact ⟨k + 1, by omega, by go_num, HM2, HB2⟩
          case measure => simp [intOf]; omega
      · obtain rfl : k = s.size := by omega
        have HR : Hid (rawN n.data.toList s.data.toList = s.size) := hide (by
          rw [HM.out, List.drop_eq_nil_of_le (by rw [hlen]; exact Nat.le_refl _)]
          rfl)
        clear hlen
        go_wp2_with fail
        go_ret
        exact ⟨ret_int (by rw [HRS.out, HR.out]), HB.out⟩
end Go.Proofs.YtiejmkjpgjbodaaGreatDoor

namespace Go.Proofs.YtiejmkjpgjbodaaGreatDoor
open Go.RowKit
set_option linter.unusedVariables false
set_option linter.unusedSimpArgs false
set_option maxRecDepth 100000
theorem hasPrefix_q (q a : UInt8) (r : List UInt8) : Lib.hasPrefix (a :: r) [q] = decide (a = q) := by
  unfold Lib.hasPrefix
  show ((q == a) && true) = _
  rw [Bool.and_true]
  by_cases h : a = q
  · subst h; simp
  · rw [decide_eq_false h]
    exact beq_false_of_ne (fun e => h e.symm)
theorem quote_cut (q : UInt8) (l : List UInt8) : (Lib.hasPrefix l [q] = true ∧ ∃ r, l = q :: r ∧ Lib.trimPrefix l [q] = r) ∨ (Lib.hasPrefix l [q] = false ∧ l.head? ≠ some q) := by
  cases l with
  | nil => exact .inr ⟨rfl, by simp⟩
  | cons a r =>
    by_cases h : a = q
    · subst h
      have hp : Lib.hasPrefix (a :: r) [a] = true := by rw [hasPrefix_q]; exact decide_eq_true rfl
      refine .inl ⟨hp, r, rfl, ?_⟩
      unfold Lib.trimPrefix
      rw [hp]
      rfl
    · exact .inr ⟨by rw [hasPrefix_q]; exact decide_eq_false h, by simpa using h⟩
theorem value_q1 (r : List UInt8) : valueL (34 :: r) = (beforeC 34 r, afterC 34 r) := by unfold valueL; simp
theorem value_q2 (r : List UInt8) : valueL (39 :: r) = (beforeC 39 r, afterC 39 r) := by unfold valueL; simp
theorem value_no {l : List UInt8} (h1 : l.head? ≠ some 34) (h2 : l.head? ≠ some 39) : valueL l = upL valueEndB l := by
  cases l with
  | nil => rfl
  | cons c r =>
    unfold valueL
    simp only
    rw [if_neg (by simpa using h1), if_neg (by simpa using h2)]
theorem valueEnd_has (c : UInt8) : (⟨#[32, 9, 10, 12, 13, 62]⟩ : ByteArray).data.toList.contains c = valueEndB c := by
  show ([32, 9, 10, 12, 13, 62] : List UInt8).contains c = valueEndB c
  unfold valueEndB whB
  simp only [List.contains_cons, List.contains_nil, Bool.or_false, Bool.or_assoc]
theorem idxQ (k : Nat) (h : k < 2) (w : World) : (Instr.index 163 (Value.agg #[.string ⟨#[34]⟩, .string ⟨#[39]⟩]) (.int .i64 k)).run Tryz.prog w = .ok (.string (if k = 0 then ⟨#[34]⟩ else ⟨#[39]⟩)) w := by
  match k, h with
  | 0, _ => rfl
  | 1, _ => rfl
set_option maxHeartbeats 4000000 in
theorem readValue_any (s : ByteArray) (w : World) (hs : s.size ≤ 16777216) :
    Calls Tryz.prog 202 #[.string s] w fun e w' => e = .returned (upV (valueL s.data.toList)) ∧ Below w.heap.size w w' := by
  have hlen := toList_length s
  have i0 : ∀ w : World, (Instr.index 163 (Value.agg #[.string ⟨#[34]⟩, .string ⟨#[39]⟩]) (.int .i64 0)).run Tryz.prog w = .ok (.string ⟨#[34]⟩) w := fun w => idxQ 0 (by omega) w
  have i1 : ∀ w : World, (Instr.index 163 (Value.agg #[.string ⟨#[34]⟩, .string ⟨#[39]⟩]) (.int .i64 1)).run Tryz.prog w = .ok (.string ⟨#[39]⟩) w := fun w => idxQ 1 (by omega) w
  have HU0 := hide (fun w2 => upTo0_any s ⟨#[32, 9, 10, 12, 13, 62]⟩ valueEndB w2 valueEnd_has hs (by decide) (by decide) (by decide))
  go_enter Tryz.func202, Tryz.ntmps202
  go_wp2_with fail
  go_loopw [12] (fun i wr => ∃ k : Nat, k ≤ 2 ∧ i = .int .i64 k ∧ Hid (1 ≤ k → s.data.toList.head? ≠ some 34) ∧ Hid (2 ≤ k → s.data.toList.head? ≠ some 39) ∧ Hid (wr = w)) (fun i _ => 2 - (intOf i).toNat)
  case atStart => exact ⟨0, Nat.zero_le _, rfl, hide (fun h => absurd h (by omega)), hide (fun h => absurd h (by omega)), hide rfl⟩
  case round =>
    obtain ⟨k, hk, rfl, H1, H2, HW⟩ := hrel
    obtain rfl := HW.out
    match k, hk with
    | 0, _ =>
      rcases quote_cut 34 s.data.toList with ⟨hp, r, hr, htr⟩ | ⟨hp, hno⟩
      · obtain ⟨T, hT⟩ : ∃ T : ByteArray, T = str r := ⟨_, rfl⟩
        have HP : Hid (Lib.hasPrefix s.data.toList (⟨#[34]⟩ : ByteArray).data.toList = true) := hide hp
        have HT : Hid ((⟨(Lib.trimPrefix s.data.toList (⟨#[34]⟩ : ByteArray).data.toList).toArray⟩ : ByteArray) = T) := hide (by
          rw [hT]
          exact congrArg str htr)
        have hTl : T.data.toList = r := by rw [hT, str_toList]
        have hTs : T.size ≤ 70368744177664 := by
          have := congrArg List.length hr
          rw [hlen, List.length_cons] at this
          rw [hT, str_size]
          omega
        have HC := hide (fun w2 => strCut_any T 34 w2 hTs)
        rw [hTl] at HC
        have HR : Hid (valueL s.data.toList = (beforeC 34 r, afterC 34 r)) := hide (by rw [hr]; exact value_q1 r)
        clear hp hr htr hT hTl hTs
        go_wp2_with fail
        refine (Tryz.strings_CutPrefix s _ _).mono ?_
        rintro e w1 ⟨rfl, hw⟩
        subst hw
        rw [HP.out, HT.out]
        go_wp2_with fail
        refine (HC.out _).mono ?_
        rintro e w2 ⟨rfl, hb⟩
        have HB := hide hb
        clear hb
        unfold cutV
        go_wp2_with fail
        go_ret2
        exact ⟨by rw [HR.out]; rfl, HB.out⟩
      · have HP : Hid (Lib.hasPrefix s.data.toList (⟨#[34]⟩ : ByteArray).data.toList = false) := hide hp
        have HN := hide hno
        clear hp hno
        go_wp2_with fail
        refine (Tryz.strings_CutPrefix s _ _).mono ?_
        rintro e w1 ⟨rfl, hw⟩
        subst hw
        rw [HP.out]
        go_wp2_with fail
        go_roundw
        case rel => exact ⟨0 + 1, by omega, by go_num, hide (fun _ => HN.out), hide (fun h => absurd h (by omega)), by first | exact hide trivial | exact hide rfl | exact trivial⟩
        case measure => simp [intOf]
    | 1, _ =>
      rcases quote_cut 39 s.data.toList with ⟨hp, r, hr, htr⟩ | ⟨hp, hno⟩
      · obtain ⟨T, hT⟩ : ∃ T : ByteArray, T = str r := ⟨_, rfl⟩
        have HP : Hid (Lib.hasPrefix s.data.toList (⟨#[39]⟩ : ByteArray).data.toList = true) := hide hp
        have HT : Hid ((⟨(Lib.trimPrefix s.data.toList (⟨#[39]⟩ : ByteArray).data.toList).toArray⟩ : ByteArray) = T) := hide (by
          rw [hT]
          exact congrArg str htr)
        have hTl : T.data.toList = r := by rw [hT, str_toList]
        have hTs : T.size ≤ 70368744177664 := by
          have := congrArg List.length hr
          rw [hlen, List.length_cons] at this
          rw [hT, str_size]
          omega
        have HC := hide (fun w2 => strCut_any T 39 w2 hTs)
        rw [hTl] at HC
        have HR : Hid (valueL s.data.toList = (beforeC 39 r, afterC 39 r)) := hide (by rw [hr]; exact value_q2 r)
        clear hp hr htr hT hTl hTs
        go_wp2_with fail
        refine (Tryz.strings_CutPrefix s _ _).mono ?_
        rintro e w1 ⟨rfl, hw⟩
        subst hw
        rw [HP.out, HT.out]
        go_wp2_with fail
        refine (HC.out _).mono ?_
        rintro e w2 ⟨rfl, hb⟩
        have HB := hide hb
        clear hb
        unfold cutV
        go_wp2_with fail
        go_ret2
        exact ⟨by rw [HR.out]; rfl, HB.out⟩
      · have HP : Hid (Lib.hasPrefix s.data.toList (⟨#[39]⟩ : ByteArray).data.toList = false) := hide hp
        have HN := hide hno
        clear hp hno
        go_wp2_with fail
        refine (Tryz.strings_CutPrefix s _ _).mono ?_
        rintro e w1 ⟨rfl, hw⟩
        subst hw
        rw [HP.out]
        go_wp2_with fail
        go_roundw
        case rel => exact ⟨1 + 1, by omega, by go_num, hide (fun _ => H1.out (by omega)), hide (fun _ => HN.out), by first | exact hide trivial | exact hide rfl | exact trivial⟩
        case measure => simp [intOf]
    | 2, _ =>
      have HR := hide (value_no (H1.out (by omega)) (H2.out (by omega)))
      go_wp2_with fail
      refine (HU0.out _).mono ?_
      rintro e w1 ⟨rfl, hb⟩
      have HB := hide hb
      clear hb
      unfold upV
      go_wp2_with fail
      go_ret2
      exact ⟨by rw [HR.out]; rfl, HB.out⟩
end Go.Proofs.YtiejmkjpgjbodaaGreatDoor

namespace Go.Proofs.YtiejmkjpgjbodaaGreatDoor
open Go.RowKit
set_option linter.unusedVariables false
set_option linter.unusedSimpArgs false
set_option maxRecDepth 100000
theorem at_form {w : World} {B : Nat} {v : Value} {l : List AtL} (h : w.ownsRow B 43 2 v l.length (atVals l)) : ∃ A c, v = .slice A l.length c := by
  rcases h.2 with ⟨rfl, h0⟩ | ⟨g, cap, cur, rfl, _⟩
  · rw [h0]; exact ⟨_, _, rfl⟩
  · exact ⟨_, _, rfl⟩
theorem at_cells {w : World} {B : Nat} {A : Option Addr} {n cap : Nat} {l : List AtL} (h : w.ownsRow B 43 2 (.slice A n cap) l.length (atVals l)) (k : Nat) (f : AtL) (hk : l[k]? = some f) :
    ∃ a, A = some a ∧ w.cell? (a.add (k * 2)) = some (.string (str f.1)) ∧ w.cell? { block := (a.add (k * 2)).block, off := (a.add (k * 2)).off + 1 } = some (.string (str f.2)) := by
  rcases h.2 with ⟨_, h0⟩ | ⟨g, cap', cur, hv, hr⟩
  · rw [List.eq_nil_of_length_eq_zero h0] at hk; simp at hk
  · obtain ⟨a1, a2⟩ := atVals_at hk
    rw [hv] at h
    have hA : A = some ⟨g, 0, none⟩ := by injection hv
    refine ⟨⟨g, 0, none⟩, hA, h.cells (g := g) rfl _ _ a1, ?_⟩
    have e3 : ({ block := ((⟨g, 0, none⟩ : Addr).add (k * 2)).block, off := ((⟨g, 0, none⟩ : Addr).add (k * 2)).off + 1 } : Addr) = (⟨g, 0, none⟩ : Addr).add (k * 2 + 1) := by rw [← Addr.add_add]; rfl
    rw [e3]
    exact h.cells (g := g) rfl _ _ a2
theorem row_kept {w w' : World} {B : Nat} {e : TypeId} {sz n : Nat} {v : Value} {xs : List Value} (h : w.ownsRow B e sz v n xs) (hb : Below w.heap.size w w') : w'.ownsRow B e sz v n xs :=
  h.kept (row := none) ⟨hb.os, hb.tape, hb.output, hb.size, fun k hk _ => hb.block k hk⟩ (by cases hv : v.ownBlock <;> simp)
theorem box_kept {w w' : World} {b : Nat} {t : TypeId} {v : Value} (h : Box w b t v) (hb : Below w.heap.size w w') : Box w' b t v := (hb.block b (lt_of_block h)).trans h
set_option maxHeartbeats 1000000 in
theorem countsF_any (P1 P2 n : ByteArray) (b : Nat) (w : World) (hb : Box w b 9 (.string n)) :
    Calls Tryz.prog 204 #[.agg #[.string P1, .string P2], .pointer (some ⟨b, 0, none⟩)] w fun e w' => e = .returned (.bool (P1.toList == n.toList)) ∧ Below w.heap.size w w' := by
  have hc : ∀ o, (w.alloc o).cell? ⟨b, 0, none⟩ = some (.string n) := fun o => (box_kept hb ((Below.refl _ _).alloc (Nat.le_refl _) o)).cell
  have HB := hide (fun o => (Below.refl w.heap.size w).alloc (Nat.le_refl _) o)
  clear hb
  go_enter Tryz.func204, Tryz.ntmps204
  go_wp2_with fail
  go_ret
  exact ⟨rfl, HB.out _⟩
set_option maxHeartbeats 4000000 in
theorem indexAt_any (B : Nat) (v : Value) (l : List AtL) (n : ByteArray) (b : Nat) (w : World) (h : w.ownsRow B 43 2 v l.length (atVals l)) (hl : l.length ≤ 1000000) (hb : Box w b 9 (.string n)) :
    Calls Tryz.prog 235 #[v, .func (.func 204) #[] #[.pointer (some ⟨b, 0, none⟩)]] w fun e w' => ∃ i : Int, e = .returned (.int .i64 i) ∧ decide (0 ≤ i) = (l.any fun a => a.1 == n.data.toList) ∧ Below w.heap.size w w' := by
  obtain ⟨A, cap, rfl⟩ := at_form h
  have H := hide h
  have HBX := hide hb
  clear h hb
  go_enter Tryz.func235, Tryz.ntmps235
  go_wp2_with fail
  go_loopw [8] (fun iv wr => ∃ k : Nat, k ≤ l.length ∧ iv = .int .i64 k ∧ Hid (Below w.heap.size w wr) ∧ Hid (((l.drop k).any fun a => a.1 == n.data.toList) = (l.any fun a => a.1 == n.data.toList))) (fun iv _ => l.length - (intOf iv).toNat)
  case atStart => exact ⟨0, Nat.zero_le _, rfl, hide (Below.refl _ _), hide rfl⟩
  case round =>
    obtain ⟨k, hk, rfl, HB, HG⟩ := hrel
    have hk6 : k ≤ 1000000 := by omega
    by_cases hlt : k < l.length
    · obtain ⟨a, rfl, c0, c1⟩ := at_cells (row_kept H.out HB.out) k _ (List.getElem?_eq_getElem hlt)
      have hdr : l.drop k = l[k] :: l.drop (k + 1) := List.drop_eq_getElem_cons hlt
      have HG2 := HG.out
      rw [hdr] at HG2
      obtain ⟨p, hp⟩ : ∃ p, p = l[k]'hlt := ⟨_, rfl⟩
      rw [← hp] at c0 c1 HG2
      obtain ⟨P1, hP1⟩ : ∃ P1, P1 = str p.1 := ⟨_, rfl⟩
      obtain ⟨P2, hP2⟩ : ∃ P2, P2 = str p.2 := ⟨_, rfl⟩
      rw [← hP1] at c0
      rw [← hP2] at c1
      have HLT := hide hlt
      have HF := hide (countsF_any P1 P2 n b wr (box_kept HBX.out HB.out))
      have t1 : (P1.toList == n.toList) = (p.1 == n.data.toList) := by rw [hP1, str_list, bytes_list]
      rw [t1] at HF
      cases he : (p.1 == n.data.toList) with
      | true =>
        rw [he] at HF
        have HV : Hid ((l.any fun a => a.1 == n.data.toList) = true) := hide (by
          rw [← HG2, List.any_cons, he, Bool.true_or])
        clear he hdr HG2 hp hP1 hP2 t1
        go_wp2_with fail
        refine HF.out.mono ?_
        rintro e w1 ⟨rfl, hb⟩
        have HB2 := hide (HB.out.trans (hb.mono HB.out.size))
        clear hb
        go_wp2_with fail
        go_ret
        exact ⟨k, rfl, by rw [HV.out]; exact decide_eq_true (by omega), HB2.out⟩
      | false =>
        rw [he] at HF
        have HGN : Hid (((l.drop (k + 1)).any fun a => a.1 == n.data.toList) = (l.any fun a => a.1 == n.data.toList)) := hide (by
          rw [← HG2, List.any_cons, he, Bool.false_or])
        clear he hdr HG2 hp hP1 hP2 t1
        go_wp2_with fail
        refine HF.out.mono ?_
        rintro e w1 ⟨rfl, hb⟩
        have HB2 := hide (HB.out.trans (hb.mono HB.out.size))
        clear hb
        go_wp2_with fail
        go_roundw
        case rel => exact ⟨k + 1, HLT.out, by go_num, HB2, HGN⟩
        case measure => simp [intOf]; have := HLT.out; omega
    · have HV : Hid ((l.any fun a => a.1 == n.data.toList) = false) := hide (by
        rw [← HG.out, List.drop_eq_nil_of_le (by omega)]; rfl)
      go_wp2_with fail
      go_ret
      exact ⟨-1, rfl, by rw [HV.out]; rfl, HB.out⟩
set_option maxHeartbeats 1000000 in
theorem containsAt_any (B : Nat) (v : Value) (l : List AtL) (n : ByteArray) (b : Nat) (w : World) (h : w.ownsRow B 43 2 v l.length (atVals l)) (hl : l.length ≤ 1000000) (hb : Box w b 9 (.string n)) :
    Calls Tryz.prog 203 #[v, .func (.func 204) #[] #[.pointer (some ⟨b, 0, none⟩)]] w fun e w' => e = .returned (.bool (l.any fun a => a.1 == n.data.toList)) ∧ Below w.heap.size w w' := by
  have HI := hide (indexAt_any B v l n b w h hl hb)
  clear h hb
  go_enter Tryz.func203, Tryz.ntmps203
  go_wp2_with fail
  refine HI.out.mono ?_
  rintro e w1 ⟨i, rfl, hi, hb⟩
  have HV := hide hi
  have HB := hide hb
  clear hi hb
  go_wp2_with fail
  go_ret
  exact ⟨ret_bool HV.out, HB.out⟩
set_option maxHeartbeats 1000000 in
theorem counts_any (B : Nat) (v : Value) (l : List AtL) (n : ByteArray) (w : World) (h : w.ownsRow B 43 2 v l.length (atVals l)) (hl : l.length ≤ 1000000) :
    Calls Tryz.prog 177 #[v, .string n] w fun e w' => e = .returned (.bool (countsB l n.data.toList)) ∧ Below w.heap.size w w' := by
  have hk := (Below.refl w.heap.size w).alloc (Nat.le_refl _) (.cells #[.string n] 9)
  have hbx : Box (w.alloc (.cells #[.string n] 9)) w.heap.size 9 (.string n) := by
    show (w.heap.push _)[w.heap.size]? = _
    exact Array.getElem?_push_size
  have HC := hide (containsAt_any B v l n w.heap.size _ (row_kept h hk) hl hbx)
  obtain ⟨A, cap, rfl⟩ := at_form h
  have HK := hide hk
  clear h hk hbx
  by_cases h30 : l.length < 30
  · have HR : Hid (countsB l n.data.toList = !(l.any fun a => a.1 == n.data.toList)) := hide (by unfold countsB; rw [decide_eq_true h30, Bool.true_and])
    go_enter Tryz.func177, Tryz.ntmps177
    go_wp2_with fail
    all_goals first | (exact absurd h30 ‹_›) | skip
    refine HC.out.mono ?_
    rintro e w1 ⟨rfl, hb⟩
    have HB := hide (HK.out.trans (hb.mono HK.out.size))
    clear hb
    go_wp2_with fail
    go_ret
    exact ⟨ret_bool (by rw [HR.out]), HB.out⟩
  · have HR : Hid (countsB l n.data.toList = false) := hide (by unfold countsB; rw [decide_eq_false h30, Bool.false_and])
    go_enter Tryz.func177, Tryz.ntmps177
    go_wp2_with fail
    all_goals first | (exact absurd ‹_› h30) | skip
    go_ret
    exact ⟨ret_bool (by rw [HR.out]), HK.out⟩
end Go.Proofs.YtiejmkjpgjbodaaGreatDoor

namespace Go.Proofs.YtiejmkjpgjbodaaGreatDoor
open Go.RowKit
set_option linter.unusedVariables false
set_option linter.unusedSimpArgs false
set_option maxRecDepth 100000
theorem trimW_left (s : ByteArray) (w : World) :
    Calls Tryz.prog 174 #[.string s, .string ⟨#[32, 9, 10, 12, 13]⟩] w fun e w' => e = .returned (.string (str (s.data.toList.dropWhile whB))) ∧ Below w.heap.size w w' := by
  refine (Any.strings_TrimLeft_laid Tryz.lays161 (by kernel_rfl) s ⟨#[32, 9, 10, 12, 13]⟩ w (by decide) (ascii_of_all (by decide))).mono ?_
  rintro e w1 ⟨rfl, hb⟩
  refine ⟨?_, hb⟩
  have : (fun b => (⟨#[32, 9, 10, 12, 13]⟩ : ByteArray).data.toList.contains b) = whB := funext fun c => by
    show ([32, 9, 10, 12, 13] : List UInt8).contains c = whB c
    unfold whB
    simp only [List.contains_cons, List.contains_nil, Bool.or_false]
  unfold Lib.trimLeftS
  rw [this]
  rfl
theorem trimS_left (s : ByteArray) (w : World) :
    Calls Tryz.prog 174 #[.string s, .string ⟨#[32, 9, 10, 12, 13, 47]⟩] w fun e w' => e = .returned (.string (str (s.data.toList.dropWhile whs))) ∧ Below w.heap.size w w' := by
  refine (Any.strings_TrimLeft_laid Tryz.lays161 (by kernel_rfl) s ⟨#[32, 9, 10, 12, 13, 47]⟩ w (by decide) (ascii_of_all (by decide))).mono ?_
  rintro e w1 ⟨rfl, hb⟩
  refine ⟨?_, hb⟩
  have : (fun b => (⟨#[32, 9, 10, 12, 13, 47]⟩ : ByteArray).data.toList.contains b) = whs := funext fun c => by
    show ([32, 9, 10, 12, 13, 47] : List UInt8).contains c = whs c
    unfold whs whB
    simp only [List.contains_cons, List.contains_nil, Bool.or_false, Bool.or_assoc]
  unfold Lib.trimLeftS
  rw [this]
  rfl
def ACell (w : World) (b : Nat) (x y : ByteArray) : Prop := w.heap[b]? = some (.cells #[.string x, .string y] 43 (0, 0))
theorem ACell.cell0 {w : World} {b : Nat} {x y : ByteArray} (h : ACell w b x y) : w.cell? ⟨b, 0, none⟩ = some (.string x) := by rw [Lib.cell_of_heap h]; rfl
theorem ACell.cell1 {w : World} {b : Nat} {x y : ByteArray} (h : ACell w b x y) : w.cell? ⟨b, 1, none⟩ = some (.string y) := by rw [Lib.cell_of_heap h]; rfl
theorem ACell.free {w : World} {b : Nat} {x y : ByteArray} (h : ACell w b x y) (i : Nat) : w.frozen? ⟨b, i, none⟩ = false := Lib.frozen_of_heap h i
theorem ACell.kept {w w' : World} {b : Nat} {x y : ByteArray} (h : ACell w b x y) (hb : Below w.heap.size w w') : ACell w' b x y := (hb.block b (lt_of_block h)).trans h
theorem ACell.put0 {w : World} {b : Nat} {x y : ByteArray} (h : ACell w b x y) (u : ByteArray) : ACell (w.setCell ⟨b, 0, none⟩ (.string u)) b u y := heap_put (j := 0) _ h
theorem ACell.put1 {w : World} {b : Nat} {x y : ByteArray} (h : ACell w b x y) (u : ByteArray) : ACell (w.setCell ⟨b, 1, none⟩ (.string u)) b x u := heap_put (j := 1) _ h
theorem ACell.far {w : World} {b g j : Nat} {x y : ByteArray} (h : ACell w b x y) (hne : b ≠ g) (u : Value) : ACell (w.setCell ⟨g, j, none⟩ u) b x y := (Below.heap_setCell _ _ _ b (fun e => hne (by rw [e]))).trans h
theorem acell_new (w : World) : ACell (w.alloc (.cells #[.string ⟨#[]⟩, .string ⟨#[]⟩] 43)) w.heap.size ⟨#[]⟩ ⟨#[]⟩ := by
  show (w.heap.push _)[w.heap.size]? = _
  exact Array.getElem?_push_size
theorem acell_of (w : World) (x y : ByteArray) : ACell (w.alloc (.cells #[.string x, .string y] 43)) w.heap.size x y := by
  show (w.heap.push _)[w.heap.size]? = _
  exact Array.getElem?_push_size
theorem ACell.alloc {w : World} {b : Nat} {x y : ByteArray} (h : ACell w b x y) (o : Obj) : ACell (w.alloc o) b x y := h.kept ((Below.refl _ _).alloc (Nat.le_refl _) o)
theorem attrEnd_has (c : UInt8) : (⟨#[32, 9, 10, 12, 13, 47, 62, 61]⟩ : ByteArray).data.toList.contains c = attrEndB c := by
  show ([32, 9, 10, 12, 13, 47, 62, 61] : List UInt8).contains c = attrEndB c
  unfold attrEndB nameEndB whB
  simp only [List.contains_cons, List.contains_nil, Bool.or_false, Bool.or_assoc]
theorem nameEnd_has (c : UInt8) : (⟨#[32, 9, 10, 12, 13, 47, 62]⟩ : ByteArray).data.toList.contains c = nameEndB c := by
  show ([32, 9, 10, 12, 13, 47, 62] : List UInt8).contains c = nameEndB c
  unfold nameEndB whB
  simp only [List.contains_cons, List.contains_nil, Bool.or_false, Bool.or_assoc]
def attrV (x : AtL × List UInt8) : Value := .tuple #[.agg #[.string (str x.1.1), .string (str x.1.2)], .string (str x.2)]
theorem attrL_no {dec : List UInt8 → List UInt8} {c : UInt8} {r : List UInt8} (h : ((upL attrEndB r).2.dropWhile whB).head? ≠ some 61) : attrL dec (c :: r) = ((lowL (c :: (upL attrEndB r).1), []), (upL attrEndB r).2) := by
  unfold attrL
  simp only
  split
  · rename_i b e
    rw [e] at h
    exact absurd rfl h
  · rfl
theorem attrL_yes {dec : List UInt8 → List UInt8} {c : UInt8} {r b : List UInt8} (h : (upL attrEndB r).2.dropWhile whB = 61 :: b) : attrL dec (c :: r) = ((lowL (c :: (upL attrEndB r).1), dec (valueL (b.dropWhile whB)).1), (valueL (b.dropWhile whB)).2) := by
  unfold attrL
  simp only
  rw [h]
  rfl
theorem valueL_len2 (l : List UInt8) : (valueL l).1.length ≤ l.length := by
  unfold valueL
  cases l with
  | nil => exact Nat.le_refl _
  | cons c r =>
    simp only
    split
    · exact Nat.le_trans (List.takeWhile_sublist _).length_le (Nat.le_succ _)
    · split
      · exact Nat.le_trans (List.takeWhile_sublist _).length_le (Nat.le_succ _)
      · exact (List.takeWhile_sublist _).length_le
set_option maxHeartbeats 4000000 in
theorem readAttr_any (s : ByteArray) (w : World) (hs : s.size ≤ 16777216) (h0 : 0 < s.size) (hE : EnvE w) :
    Calls Tryz.prog 176 #[.string s] w fun e w' => e = .returned (attrV (attrL decE s.data.toList)) ∧ Below w.heap.size w w' := by
  have hlen := toList_length s
  obtain ⟨c, r, hl⟩ : ∃ c r, s.data.toList = c :: r := by
    cases h : s.data.toList with
    | nil => rw [h] at hlen; simp at hlen; omega
    | cons c r => exact ⟨c, r, rfl⟩
  have hU := fun w2 => upTo1_any s ⟨#[32, 9, 10, 12, 13, 47, 62, 61]⟩ attrEndB w2 attrEnd_has hs (by omega) (by decide) (by decide) (by decide)
  rw [hl] at hU
  have hu2 := upL_len attrEndB r
  rw [hl, List.length_cons] at hlen
  have hup : up1L attrEndB (c :: r) = (c :: (upL attrEndB r).1, (upL attrEndB r).2) := rfl
  rw [hup] at hU
  obtain ⟨N, hN⟩ : ∃ N, N = c :: (upL attrEndB r).1 := ⟨_, rfl⟩
  obtain ⟨R, hR⟩ : ∃ R, R = (upL attrEndB r).2 := ⟨_, rfl⟩
  have hNl : N.length ≤ 16777216 := by rw [hN, List.length_cons]; omega
  have hRl : R.length ≤ 16777216 := by rw [hR]; omega
  rw [← hN, ← hR] at hU
  have hLOW := fun w2 => lower_any (str N) w2 (by rw [str_size]; omega)
  have hTW := fun w2 => trimW_left (str R) w2
  rw [str_toList] at hLOW hTW
  have HU := hide hU
  have HLOW := hide hLOW
  have HTW := hide hTW
  clear hU hLOW hTW
  rcases quote_cut 61 (R.dropWhile whB) with ⟨hp, b, hb, htr⟩ | ⟨hp, hno⟩
  · obtain ⟨T, hT⟩ : ∃ T : ByteArray, T = str b := ⟨_, rfl⟩
    have HT : Hid ((⟨(Lib.trimPrefix (str (R.dropWhile whB)).data.toList (⟨#[61]⟩ : ByteArray).data.toList).toArray⟩ : ByteArray) = T) := hide (by
      rw [hT, str_toList]
      exact congrArg str htr)
    have HP : Hid (Lib.hasPrefix (str (R.dropWhile whB)).data.toList (⟨#[61]⟩ : ByteArray).data.toList = true) := hide (by rw [str_toList]; exact hp)
    have hbl : b.length ≤ 16777216 := by
      have h1 := drop_len whB R
      rw [hb, List.length_cons] at h1
      omega
    have hTl : T.data.toList = b := by rw [hT, str_toList]
    have HTT := hide (fun w2 => trimW_left T w2)
    rw [hTl] at HTT
    have hvl : (b.dropWhile whB).length ≤ 16777216 := Nat.le_trans (drop_len whB b) hbl
    obtain ⟨V, hV⟩ : ∃ V, V = b.dropWhile whB := ⟨_, rfl⟩
    rw [← hV] at HTT hvl
    have hRV := fun w2 => readValue_any (str V) w2 (by rw [str_size]; exact hvl)
    rw [str_toList] at hRV
    have hX := valueL_len2 V
    obtain ⟨X, hXe⟩ : ∃ X, X = (valueL V).1 := ⟨_, rfl⟩
    obtain ⟨Y, hYe⟩ : ∃ Y, Y = (valueL V).2 := ⟨_, rfl⟩
    have hRV2 : ∀ w2, Calls Tryz.prog 202 #[.string (str V)] w2 fun e w' => e = .returned (upV (X, Y)) ∧ Below w2.heap.size w2 w' := by
      rw [hXe, hYe]
      exact hRV
    have HRV := hide hRV2
    have HDEC := hide (fun w2 h => entDecode_any (str X) w2 (by rw [str_size, hXe]; omega) h)
    rw [str_toList] at HDEC
    have HV : Hid (attrL decE s.data.toList = ((lowL N, decE X), Y)) := hide (by rw [hl, attrL_yes (by rw [← hR]; exact hb), ← hN, ← hV, ← hXe, ← hYe])
    have HE := hide hE
    clear hE hb htr hT hbl hTl hvl hV hRV hX hXe hYe hRV2
    clear hp hN hR hl hlen hu2 hup
    go_enter Tryz.func176, Tryz.ntmps176
    go_wp2_with fail
    refine (HU.out _).mono ?_
    rintro e w1 ⟨rfl, hb1⟩
    have b1 := acell_new w
    have HA1 := hide (b1.kept hb1)
    have HB1 := hide (((Below.refl w.heap.size w).alloc (Nat.le_refl _) (.cells #[.string ⟨#[]⟩, .string ⟨#[]⟩] 43)).trans (hb1.mono (by rw [World.size_alloc]; exact Nat.le_succ _)))
    clear hb1 b1
    unfold upV
    go_wp2_with fail
    refine (HLOW.out _).mono ?_
    rintro e w2 ⟨rfl, hb2⟩
    have HA2 := hide (HA1.out.kept hb2)
    have HB2 := hide (HB1.out.trans (hb2.mono HB1.out.size))
    have hlt2 : w.heap.size < w2.heap.size := lt_of_block HA2.out
    clear hb2
    go_wp2_with fail
    refine (HTW.out _).mono ?_
    rintro e w3 ⟨rfl, hb3⟩
    have A3 := (HA2.out.alloc _).kept hb3
    have C3 := (acell_of w2 (str (lowL N)) ⟨#[]⟩).kept hb3
    have HB3 := hide ((HB2.out.alloc HB2.out.size _).trans (hb3.mono (HB2.out.alloc HB2.out.size _).size))
    clear hb3
    have HA3 := hide A3
    have HC3 := hide C3
    clear A3 C3
    go_wp2_with fail
    refine (Tryz.strings_CutPrefix _ _ _).mono ?_
    rintro e w4 ⟨rfl, hw⟩
    subst hw
    rw [HP.out, HT.out]
    go_wp2_with fail
    refine (HTT.out _).mono ?_
    rintro e w5 ⟨rfl, hb5⟩
    have HA5 := hide (HA3.out.kept hb5)
    have HC5 := hide (HC3.out.kept hb5)
    have HB5 := hide (HB3.out.trans (hb5.mono HB3.out.size))
    clear hb5
    go_wp2_with fail
    refine (HRV.out _).mono ?_
    rintro e w6 ⟨rfl, hb6⟩
    have HA6 := hide (HA5.out.kept hb6)
    have HC6 := hide (HC5.out.kept hb6)
    have HB6 := hide (HB5.out.trans (hb6.mono HB5.out.size))
    clear hb6
    unfold upV
    go_wp2_with fail
    refine (HDEC.out _ (HE.out.kept HB6.out)).mono ?_
    rintro e w7 ⟨rfl, hb7⟩
    have A7 := HA6.out.kept hb7
    have C7 := HC6.out.kept hb7
    have HB7 := hide (HB6.out.trans (hb7.mono HB6.out.size))
    clear hb7
    have g1 := C7.free 1
    have g1' := C7.cell1
    have C8 := C7.put1 (str (decE X))
    have A8 := A7.far (j := 1) (Nat.ne_of_lt hlt2) (.string (str (decE X)))
    have k0 := C8.cell0
    have k1 := C8.cell1
    have f0 := A8.free 0
    have f0' := A8.cell0
    have A9 := A8.put0 (str (lowL N))
    have f1 := A9.free 1
    have f1' := A9.cell1
    have A10 := A9.put1 (str (decE X))
    have hfa := A10.cell0
    have hfb := A10.cell1
    have HBF := hide (((HB7.out.setCell (p := ⟨w2.heap.size, 1, none⟩) (Nat.le_of_lt hlt2) (.string (str (decE X)))).setCell (p := ⟨w.heap.size, 0, none⟩) (Nat.le_refl _) (.string (str (lowL N)))).setCell (p := ⟨w.heap.size, 1, none⟩) (Nat.le_refl _) (.string (str (decE X))))
    clear A7 C7 C8 A8 A9 A10
    go_wp2_with fail
    refine bodyPost_ret (v := .tuple #[.agg #[.string (str (lowL N)), .string (str (decE X))], .string (str Y)]) (by simp [results, Tryz.f176, go_sem, hfa, hfb]) rfl ?_
    exact ⟨by rw [HV.out]; rfl, HBF.out⟩
  · have HV : Hid (attrL decE s.data.toList = ((lowL N, []), R)) := hide (by rw [hl, attrL_no (by rw [← hR]; exact hno), ← hN, ← hR])
    have HP : Hid (Lib.hasPrefix (str (R.dropWhile whB)).data.toList (⟨#[61]⟩ : ByteArray).data.toList = false) := hide (by rw [str_toList]; exact hp)
    clear hp hno hN hR hl hlen hu2 hup
    go_enter Tryz.func176, Tryz.ntmps176
    go_wp2_with fail
    refine (HU.out _).mono ?_
    rintro e w1 ⟨rfl, hb1⟩
    have b1 := acell_new w
    have HA1 := hide (b1.kept hb1)
    have HB1 := hide (((Below.refl w.heap.size w).alloc (Nat.le_refl _) (.cells #[.string ⟨#[]⟩, .string ⟨#[]⟩] 43)).trans (hb1.mono (by rw [World.size_alloc]; exact Nat.le_succ _)))
    clear hb1 b1
    unfold upV
    go_wp2_with fail
    refine (HLOW.out _).mono ?_
    rintro e w2 ⟨rfl, hb2⟩
    have HA2 := hide (HA1.out.kept hb2)
    have HB2 := hide (HB1.out.trans (hb2.mono HB1.out.size))
    have hlt2 : w.heap.size < w2.heap.size := lt_of_block HA2.out
    clear hb2
    go_wp2_with fail
    refine (HTW.out _).mono ?_
    rintro e w3 ⟨rfl, hb3⟩
    have A3 := (HA2.out.alloc _).kept hb3
    have C3 := (acell_of w2 (str (lowL N)) ⟨#[]⟩).kept hb3
    have HB3 := hide ((HB2.out.alloc HB2.out.size _).trans (hb3.mono (HB2.out.alloc HB2.out.size _).size))
    clear hb3
    have f0 := A3.free 0
    have f0' := A3.cell0
    have k0 := C3.cell0
    have k1 := C3.cell1
    have A4 := A3.put0 (str (lowL N))
    have f1 := A4.free 1
    have f1' := A4.cell1
    have A5 := A4.put1 ⟨#[]⟩
    have hfa := A5.cell0
    have hfb := A5.cell1
    have HBF := hide ((HB3.out.setCell (p := ⟨w.heap.size, 0, none⟩) (Nat.le_refl _) (.string (str (lowL N)))).setCell (p := ⟨w.heap.size, 1, none⟩) (Nat.le_refl _) (.string ⟨#[]⟩))
    clear A3 C3 A4 A5
    go_wp2_with fail
    refine (Tryz.strings_CutPrefix _ _ _).mono ?_
    rintro e w4 ⟨rfl, hw⟩
    subst hw
    rw [HP.out]
    go_wp2_with fail
    refine bodyPost_ret (v := .tuple #[.agg #[.string (str (lowL N)), .string ⟨#[]⟩], .string (str R)]) (by simp [results, Tryz.f176, go_sem, hfa, hfb]) rfl ?_
    exact ⟨by rw [HV.out]; rfl, HBF.out⟩
end Go.Proofs.YtiejmkjpgjbodaaGreatDoor

