/- WALK of the reference's Extended. No statement is proved here. -/
import Derived.Test.YtienjpelmbldpaaGreatDoorPctRef
namespace Go.Proofs.YtienjpelmbldpaaGreatDoor
open Go.RowKit
set_option linter.unusedVariables false
set_option linter.unusedSimpArgs false

/-- where the first quote is, as the reference holds it -/
def firstAt (l : List UInt8) (k : Nat) (v : Value) : Prop :=
  (v = .int .i64 (-1) ∧ ∀ j, j < k → l[j]? ≠ some 39) ∨ ∃ f : Nat, f < k ∧ v = .int .i64 f ∧ l[f]? = some 39 ∧ (∀ j, j < f → l[j]? ≠ some 39) ∧ ∀ j, f < j → j < k → l[j]? ≠ some 39
theorem cut_at' (c : UInt8) (l : List UInt8) (o : Nat) (h : l[o]? = some c) (hb : ∀ j, j < o → l[j]? ≠ some c) : hasC c l = true ∧ beforeC c l = l.take o ∧ afterC c l = l.drop (o + 1) := by
  obtain ⟨ho, h⟩ := List.getElem?_eq_some_iff.1 h
  have := cut_at c l o ho h (fun j hj e => hb j hj (by rw [List.getElem?_eq_getElem (Nat.lt_trans hj ho), e]))
  exact ⟨hasC_true this.1, this.2⟩
theorem hasC_none {c : UInt8} {l : List UInt8} (h : ∀ j : Nat, l[j]? ≠ some c) : hasC c l = false := hasC_false (fun hm => by
  obtain ⟨j, hj⟩ := List.mem_iff_getElem?.1 hm
  exact h j hj)
theorem ext_two {l : List UInt8} {f k : Nat} (hf : l[f]? = some 39) (h0 : ∀ j, j < f → l[j]? ≠ some 39) (h1 : ∀ j, f < j → j < k → l[j]? ≠ some 39) (hfk : f < k) (hk : l[k]? = some 39) :
    pExt l = some (lowL (l.take f), pdec (l.drop (k + 1))) := by
  have a := cut_at' 39 l f hf h0
  have b := cut_at' 39 (l.drop (f + 1)) (k - (f + 1)) (by rw [List.getElem?_drop, show f + 1 + (k - (f + 1)) = k from by omega]; exact hk) (fun j hj => by rw [List.getElem?_drop]; exact h1 _ (by omega) (by omega))
  unfold pExt
  rw [a.2.2, b.1, if_pos rfl, b.2.2, a.2.1, List.drop_drop, show f + 1 + (k - (f + 1) + 1) = k + 1 from by omega]
theorem ext_none {l : List UInt8} {v : Value} (h : firstAt l l.length v) : pExt l = none := by
  have big : ∀ j, ¬ j < l.length → l[j]? ≠ some (39 : UInt8) := fun j hj => by rw [List.getElem?_eq_none (by omega)]; simp
  have hn : hasC 39 (afterC 39 l) = false := by
    rcases h with ⟨_, h⟩ | ⟨f, hf, _, h0, h1, h2⟩
    · have : (39 : UInt8) ∉ l := fun hm => by
        obtain ⟨j, hj⟩ := List.mem_iff_getElem?.1 hm
        by_cases hl : j < l.length
        · exact h j hl hj
        · exact big j hl hj
      rw [(cut_none 39 l this).2]; rfl
    · rw [(cut_at' 39 l f h0 h1).2.2]
      refine hasC_none fun j => ?_
      rw [List.getElem?_drop]
      by_cases hl : f + 1 + j < l.length
      · exact h2 _ (by omega) hl
      · exact big _ hl
  unfold pExt
  rw [hn]; rfl

set_option maxRecDepth 100000 in
set_option maxHeartbeats 4000000 in
theorem refExtended_any (s : ByteArray) (w : World) (hs : s.size ≤ 70368744177664) :
    Calls Tryz.prog 46 #[.string s] w fun e w' => e = .returned (extV (pExt s.data.toList)) ∧ Below w.heap.size w w' := by
  have hl := toList_length s
  go_enter Tryz.func46, Tryz.ntmps46
  go_wp2
  go_loop [5, 6] (fun v i => ∃ (k : Nat), k ≤ s.size ∧ i = .int .i64 k ∧ firstAt s.data.toList k v) (fun _ i => s.size - (intOf i).toNat)
  case atStart => exact ⟨0, Nat.zero_le _, rfl, .inl ⟨rfl, fun j hj => absurd hj (by omega)⟩⟩
  case round =>
    obtain ⟨k, hk, rfl, hd⟩ := hrel
    by_cases hlt : k < s.size
    · have hg : s.data.toList[k]? = some s[k] := by rw [List.getElem?_eq_getElem (by omega)]; rfl
      by_cases h39 : s[k] = 39
      · have t0' : ((s[k].toNat : Int) == 39) = true := tT 39 h39 (by omega)
        have t0 : ((s[k].toNat : Int) != 39) = false := by rw [bne, t0']; rfl
        clear t0'
        rw [h39] at hg
        clear h39
        rcases hd with ⟨rfl, h⟩ | ⟨f, hf, rfl, h0, h1, h2⟩
        · have HF : Hid (firstAt s.data.toList (k + 1) (.int .i64 k)) := hide (.inr ⟨k, by omega, rfl, hg, h, fun j h1 h2 => absurd h2 (by omega)⟩)
          clear h hg
          go_wp2
          go_round
          case rel => exact ⟨k + 1, by omega, by go_num, HF.out⟩
          case measure => simp [intOf]; omega
        · have HE := hide (ext_two h0 h1 h2 hf hg)
          have f1 : (0 : Int) ≤ f := by omega
          have f2 : (f : Int) ≤ s.size := by omega
          have f3 : (k : Int) + 1 ≤ s.size := by omega
          have f4 : ((k : Int) + 1).toNat = k + 1 := by omega
          have f5 : IntKind.i64.wrap ((k : Int) + 1) = (k : Int) + 1 := IntWalk.i64_in _ (by omega)
          have z1 : (s.extract 0 f).size ≤ 70368744177664 := by have := extract_size_le s 0 f; omega
          have z2 : (s.extract (k + 1) s.size).size ≤ 70368744177664 := by have := extract_size_le s (k + 1) s.size; omega
          have Z1 := hide z1
          have Z2 := hide z2
          have X1 : Hid ((s.extract 0 f).data.toList = s.data.toList.take f) := hide (by rw [extract_list, List.drop_zero])
          have X2 : Hid ((s.extract (k + 1) s.size).data.toList = s.data.toList.drop (k + 1)) := hide (extract_end s (k + 1))
          clear z1 z2 h0 h1 h2 hg
          go_wp2_with fail
          go_region_with (first
            | (go_at_call 27; refine (small_any _ _ Z1.out).mono ?_; rintro e w2 ⟨rfl, hb2⟩; rw [X1.out])
            | (go_at_call 72; refine (refDecode03_any _ _ Z2.out).mono ?_; rintro e w3 ⟨rfl, hb3⟩; rw [X2.out]))
          all_goals
            try go_wp2_with fail
            go_ret3
            refine ⟨by rw [HE.out]; rfl, ?_⟩
            have q1 : Below w.heap.size w w.drew := (Below.refl _ _).drew
            first
            | exact (q1.trans (hb2.mono q1.size)).trans (hb3.mono (q1.trans (hb2.mono q1.size)).size)
            | exact (q1.trans (hb3.mono q1.size)).trans (hb2.mono (q1.trans (hb3.mono q1.size)).size)
      · have t0' : ((s[k].toNat : Int) == 39) = false := tF 39 h39 (by omega)
        have t0 : ((s[k].toNat : Int) != 39) = true := by rw [bne, t0']; rfl
        clear t0'
        have HF : Hid (firstAt s.data.toList (k + 1) u5) := hide (by
          have hne : s.data.toList[k]? ≠ some 39 := by rw [hg]; intro e; exact h39 (Option.some.inj e)
          rcases hd with ⟨e, h⟩ | ⟨f, hf, e, h0, h1, h2⟩
          · refine .inl ⟨e, fun j hj => ?_⟩
            rcases Nat.lt_succ_iff_lt_or_eq.1 hj with h' | h'
            · exact h j h'
            · rw [h']; exact hne
          · refine .inr ⟨f, by omega, e, h0, h1, fun j hj hj' => ?_⟩
            rcases Nat.lt_succ_iff_lt_or_eq.1 hj' with h' | h'
            · exact h2 j hj h'
            · rw [h']; exact hne)
        clear h39 hg hd
        go_wp2
        go_round
        case rel => exact ⟨k + 1, by omega, by go_num, HF.out⟩
        case measure => simp [intOf]; omega
    · have HE : Hid (pExt s.data.toList = none) := hide (ext_none (v := u5) (by rw [hl, show s.size = k from by omega]; exact hd))
      clear hd
      go_wp2
      go_ret3
      exact ⟨by rw [HE.out]; rfl, Below.refl _ _⟩
end Go.Proofs.YtienjpelmbldpaaGreatDoor
