/- WALK of the law CssJoined. No statement is proved here. Own work of the verifier. -/
import Derived.Test.YtlhjdjjbmljilaaDoorCssL0
namespace Go.Proofs.YtlhjdjjbmljilaaDoor
open Go.RowKit
set_option linter.unusedVariables false
set_option linter.unusedSimpArgs false
set_option maxRecDepth 100000
attribute [local go_sem] eqTwo
/-- append(l, m...): m is a row that the call owns, too -/
theorem wpList_decls_more {ops : Array Oper} {rest : List Oper} {o : Oper} {a : Act} {Q : Exit → Act → World → Prop} {w : World} (hgd : o.guard = none) (s x : Operand)
    (ho : o.op = .call { callee := .builtin .append, args := #[s, x], argTypes := #[33, 33] })
    (B : Nat) (v : Value) (l : List DeclL) (hs : a.eval s = v) (W0 : World) (hb : DBuf B v l W0 w) (B2 : Nat) (v2 : Value) (m : List DeclL) (W2 : World) (h2 : DBuf B2 v2 m W2 w)
    (hx : a.eval x = v2) (hlen : l.length + m.length ≤ 4398046511104)
    (h : ∀ v' w', DBuf B v' (l ++ m) W0 w' → wpList Tryd.prog ops Q rest (a.put o.dst v') w') : wpList Tryd.prog ops Q (o :: rest) a w := by
  obtain ⟨i0, hi, hz0, hz1, hz2⟩ := info_parts info_decl
  rcases h2.1.2 with ⟨rfl, h0⟩ | ⟨g, cap, cur, rfl, hg, hh, hc, hm, _⟩
  · obtain rfl : m = [] := List.eq_nil_of_length_eq_zero h0
    refine wpList_append_own_none hgd s x 33 ho B 36 i0 2 Tryd.underlying33 hi v l.length (declVals l) hs hb.1 hx ?_
    exact h v w (by rw [List.append_nil]; exact hb)
  · have h1 := h2.1
    refine wpList_append_own _ hgd s x 33 ho B 36 i0 (.agg #[.string ByteArray.empty, .string ByteArray.empty]) 2 32 Tryd.underlying33 hi hz0 hz1 hz2 rfl (by decide) v l.length (declVals l) hs hb.1 ⟨g, 0, none⟩ m.length cap (declVals m) hx (declVals_length m) ?_ ?_ (by unfold maxLen; omega) (by omega) hb.2.2 ?_
    · intro j u hj
      exact h1.cells (g := g) rfl _ _ hj
    · intro u hu
      unfold declVals at hu
      obtain ⟨f, _, hf⟩ := List.mem_flatMap.1 hu
      simp at hf
      rcases hf with rfl | rfl
      · rfl
      · rfl
    · intro v' w' ho' hg _
      exact h v' w' (hb.grown (l' := l ++ m) (by rw [declVals_append, List.length_append]; exact ho') hg)
theorem joinB (a b : ByteArray) : (a ++ b).data.toList = a.data.toList ++ b.data.toList := by simp
theorem cut_count (s : ByteArray) : (cutD s.data.toList).length ≤ s.size + 1 := by
  have h := cutD_weight s.data.toList
  rw [toList_length] at h
  exact Nat.le_trans (declW_len _) h
set_option maxHeartbeats 4000000 in
theorem law_CssJoined (s : ByteArray) (hss : s.size ≤ maxLen) (t : ByteArray) (hts : t.size ≤ maxLen) (w : World) (hE : EnvC w) :
    Calls Tryd.prog 11 #[.string s, .string t] w fun e w' => e = .returned (.bool true) ∧ Below w.heap.size w w' := by
  rcases Nat.lt_or_ge 3000 s.size with hqs | hls
  · have HDs : Hid (decide (s.size ≤ 3000) = false) := decide_eq_false (by omega)
    have HE := hide hE
    clear hE
    go_enter Tryd.func11, Tryd.ntmps11
    go_wp2_with fail
    refine (short17_any s _ hss).mono ?_
    rintro e w1 ⟨rfl, rfl⟩
    rw [HDs.out]
    go_wp2_with fail
    refine (live17_any _ HE.out).mono ?_
    rintro e w1 ⟨rfl, hb1⟩
    go_wp2_with fail
    go_ret
    exact ⟨rfl, hb1⟩
  have HDs : Hid (decide (s.size ≤ 3000) = true) := decide_eq_true hls
  rcases Nat.lt_or_ge 3000 t.size with hqt | hlt
  · have HDt : Hid (decide (t.size ≤ 3000) = false) := decide_eq_false (by omega)
    have HE := hide hE
    clear hE
    go_enter Tryd.func11, Tryd.ntmps11
    go_wp2_with fail
    refine (short17_any s _ hss).mono ?_
    rintro e w1 ⟨rfl, rfl⟩
    rw [HDs.out]
    go_wp2_with fail
    refine (short17_any t _ hts).mono ?_
    rintro e w1 ⟨rfl, rfl⟩
    rw [HDt.out]
    go_wp2_with fail
    refine (live17_any _ HE.out).mono ?_
    rintro e w1 ⟨rfl, hb1⟩
    go_wp2_with fail
    go_ret
    exact ⟨rfl, hb1⟩
  have HDt : Hid (decide (t.size ≤ 3000) = true) := decide_eq_true hlt
  obtain ⟨L1, hL1⟩ : ∃ L, cutD s.data.toList = L := ⟨_, rfl⟩
  obtain ⟨L2, hL2⟩ : ∃ L, cutD t.data.toList = L := ⟨_, rfl⟩
  have z1 := cut_count s
  have z2 := cut_count t
  rw [hL1] at z1
  rw [hL2] at z2
  have HN1 : Hid (([] : List DeclL).length + L1.length ≤ 4398046511104) := hide (by simp; omega)
  have HN2 : Hid ((([] : List DeclL) ++ L1).length + L2.length ≤ 4398046511104) := hide (by simp; omega)
  have HN3 : Hid ((L1 ++ L2).length ≤ 1048576) := hide (by simp; omega)
  have HL1 := hide hL1
  have HL2 := hide hL2
  have HZ3 : Hid ((s ++ ⟨#[59]⟩ ++ t : ByteArray).size ≤ 1048575) := hide (by
    rw [← toList_length, joinB, joinB, List.length_append, List.length_append, toList_length, toList_length]
    show s.size + 1 + t.size ≤ 1048575
    omega)
  have HE0 := hide hE
  have HB0 : Hid (Below w.heap.size w w) := hide (Below.refl _ _)
  clear hL1 hL2 z1 z2 hE
  go_enter Tryd.func11, Tryd.ntmps11
  go_wp2_with fail
  refine (short17_any s _ hss).mono ?_
  rintro e w1 ⟨rfl, rfl⟩
  rw [HDs.out]
  go_wp2_with fail
  refine (short17_any t _ hts).mono ?_
  rintro e w1 ⟨rfl, rfl⟩
  rw [HDt.out]
  go_wp2_with fail
  go_loop [5] (fun i => ∃ k : Nat, k ≤ s.size ∧ i = .int .i64 k ∧ Hid (∀ c ∈ s.data.toList.take k, ¬ (c = 34 ∨ c = 39 ∨ c = 40))) (fun i => s.size - (intOf i).toNat)
  case atStart => exact ⟨0, Nat.zero_le _, rfl, hide (fun c hc => by cases hc)⟩
  case round =>
    obtain ⟨k, hk, rfl, HG⟩ := hrel
    by_cases hlt : k < s.size
    · by_cases h34 : s[k] = 34
      · have q0 : ((s[k].toNat : Int) == 34) = true := tT 34 (c := s[k]) h34 (by decide)
        clear h34
        go_wp2_with fail
        refine (live17_any _ HE0.out).mono ?_
        rintro e w1_ ⟨rfl, hb⟩
        go_wp2_with fail
        go_ret
        exact ⟨rfl, HB0.out.trans (hb.mono HB0.out.size)⟩
      have q0 : ((s[k].toNat : Int) == 34) = false := tF 34 (c := s[k]) h34 (by decide)
      by_cases h39 : s[k] = 39
      · have q1 : ((s[k].toNat : Int) == 39) = true := tT 39 (c := s[k]) h39 (by decide)
        clear h34 h39
        go_wp2_with fail
        refine (live17_any _ HE0.out).mono ?_
        rintro e w1_ ⟨rfl, hb⟩
        go_wp2_with fail
        go_ret
        exact ⟨rfl, HB0.out.trans (hb.mono HB0.out.size)⟩
      have q1 : ((s[k].toNat : Int) == 39) = false := tF 39 (c := s[k]) h39 (by decide)
      by_cases h40 : s[k] = 40
      · have q2 : ((s[k].toNat : Int) == 40) = true := tT 40 (c := s[k]) h40 (by decide)
        clear h34 h39 h40
        go_wp2_with fail
        refine (live17_any _ HE0.out).mono ?_
        rintro e w1_ ⟨rfl, hb⟩
        go_wp2_with fail
        go_ret
        exact ⟨rfl, HB0.out.trans (hb.mono HB0.out.size)⟩
      have q2 : ((s[k].toNat : Int) == 40) = false := tF 40 (c := s[k]) h40 (by decide)
      have HN : Hid (∀ c ∈ s.data.toList.take (k + 1), ¬ (c = 34 ∨ c = 39 ∨ c = 40)) := hide (by
        rw [take_snoc s k hlt]
        intro c hc e
        rcases List.mem_append.1 hc with hc | hc
        · exact HG.out c hc e
        · have : c = s[k] := by simpa using hc
          rw [this] at e
          rcases e with e | e | e
          · exact h34 e
          · exact h39 e
          · exact h40 e)
      clear h34 h39 h40
      go_wp2_with fail
      go_round
      case rel => exact ⟨k + 1, by omega, by go_num, HN⟩
      case measure => simp [intOf]; omega
    · have HC3 : Hid (cutD (s ++ ⟨#[59]⟩ ++ t : ByteArray).data.toList = L1 ++ L2) := hide (by
        have hq := HG.out
        rw [List.take_of_length_le (by rw [toList_length]; omega)] at hq
        rw [joinB, joinB]
        show cutD (s.data.toList ++ [59] ++ t.data.toList) = _
        rw [List.append_assoc]
        show cutD (s.data.toList ++ 59 :: t.data.toList) = _
        rw [cut_join _ _ hq, HL1.out, HL2.out])
      go_wp2_with fail
      refine (cssCut_any s _ (by omega)).mono ?_
      rintro e w3 ⟨u3, rfl, hb3⟩
      rw [HL1.out] at hb3
      have K3 := hide hb3.below
      have B3 := hide hb3
      clear hb3
      go_wp2_with (at_builtin; go_must (refine wpList_decls_more rfl _ _ rfl w3.heap.size (.slice none 0 0) [] rfl w3 (DBuf.nil (Below.refl _ _) (Nat.le_refl _)) w.heap.size _ L1 w B3.out rfl HN1.out ?_; intro v4 w4 hb4; have B4 := hide hb4; have K4 := hide (K3.out.trans (hb4.below.mono K3.out.size)); clear hb4))
      refine (cssCut_any t _ (by omega)).mono ?_
      rintro e w5 ⟨u5, rfl, hb5⟩
      rw [HL2.out] at hb5
      have K5 := hide (K4.out.trans (hb5.below.mono K4.out.size))
      have B5 := hide hb5
      have B4' := hide (B4.out.kept hb5.below)
      clear hb5
      go_wp2_with (at_builtin; go_must (refine wpList_decls_more rfl _ _ rfl w3.heap.size v4 ([] ++ L1) rfl w3 B4'.out w4.heap.size _ L2 w4 B5.out rfl HN2.out ?_; intro v6 w6 hb6; have B6 := hide hb6; have K6 := hide (K3.out.trans (hb6.below.mono K3.out.size)); clear hb6))
      refine (cssCut_any _ _ HZ3.out).mono ?_
      rintro e w7 ⟨u7, rfl, hb7⟩
      rw [HC3.out] at hb7
      have K7 := hide (K6.out.trans (hb7.below.mono K6.out.size))
      have B7 := hide (B6.out.kept hb7.below)
      have F7 := hide hb7.in
      clear hb7
      go_wp2_with fail
      refine (same17_any _ _ (L1 ++ L2) (L1 ++ L2) _ F7.out (by have := B7.out.in; rwa [List.nil_append] at this) HN3.out).mono ?_
      rintro e w8 ⟨rfl, hb8⟩
      rw [show decide (L1 ++ L2 = L1 ++ L2) = true from decide_eq_true rfl]
      have HE8 := hide (HE0.out.kept (K7.out.trans (hb8.mono K7.out.size)))
      have HB8 := hide (K7.out.trans (hb8.mono K7.out.size))
      clear hb8
      go_wp2_with fail
      refine (live17_any _ HE8.out).mono ?_
      rintro e w9_ ⟨rfl, hb⟩
      go_wp2_with fail
      go_ret
      exact ⟨rfl, HB8.out.trans (hb.mono HB8.out.size)⟩
end Go.Proofs.YtlhjdjjbmljilaaDoor
