/- WALK of ent.Decode. No statement is proved here. -/
import Derived.Test.YtmojckphfbcibaaGreatDoorBaseO
import Derived.Test.YtmojckphfbcibaaGreatDoorBaseN
import Derived.Test.YtmojckphfbcibaaGreatDoorBldM
namespace Go.Proofs.YtmojckphfbcibaaGreatDoor
open Go.RowKit
set_option linter.unusedVariables false
set_option linter.unusedSimpArgs false
set_option maxRecDepth 100000
/-- what package ent asks of the world: the listed tables, an error of the library's -/
def EnvE (w : World) : Prop := Tab w ∧ Lib.Utf8Tabs 4 5 w ∧ ∃ ev, w.cell? ⟨1, 0, none⟩ = some ev ∧ (ev = .nilIface ∨ ∃ te pe, ev = .iface te pe)
theorem EnvE.kept {w w' : World} (h : EnvE w) (hb : Below w.heap.size w w') : EnvE w' := by
  obtain ⟨h1, h2, ev, h3, h4⟩ := h
  exact ⟨h1.below hb h1.lt, tabs_kept h2 hb, ev, (hb.cell (p := ⟨1, 0, none⟩) (World.block_lt_of_cell? _ _ h3)).trans h3, h4⟩
/-! ### bounds -/
def SignOK (c : Int) : Prop := 0 ≤ c ∧ c ≤ 1114111
theorem putN_ok {f : List UInt8 → Option Int} {k : List UInt8} {c : Int} (hf : ∀ l x, f l = some x → SignOK x) (hc : SignOK c) : ∀ l x, putN f k c l = some x → SignOK x := by
  intro l x h
  unfold putN at h
  split at h
  · injection h with h; rw [← h]; exact hc
  · exact hf l x h
theorem nameN_ok : ∀ l x, nameN l = some x → SignOK x := by
  unfold nameN
  repeat (refine putN_ok ?_ (by unfold SignOK; decide))
  intro l x h; cases h
theorem signN_ok (n : Nat) : SignOK (signN n) := by
  unfold signN SignOK
  split
  · decide
  · split
    · have := winR_range (UInt8.ofNat n); omega
    · omega
theorem numAt_ok {b m : Nat} {l : List UInt8} : ∀ x, numAt b m l = some x → SignOK x := by
  intro x h
  unfold numAt at h
  split at h
  · cases h
  · split at h
    · cases h
    · injection h with h; rw [← h]; exact signN_ok _
theorem sgn_ok {l : List UInt8} : ∀ x, sgn l = some x → SignOK x := by
  intro x h
  unfold sgn byN at h
  split at h
  · split at h <;> exact numAt_ok x h
  · exact nameN_ok _ x h
theorem refN_ok (l : List UInt8) : SignOK (refN l).1 ∧ (refN l).2 ≤ l.length := by
  unfold refN
  split
  · rename_i x h1 h2
    refine ⟨sgn_ok x h1, ?_⟩
    rcases cut_case 59 (l.take 9) with ⟨h3, h4, _⟩ | ⟨a, r, h3, _, h4, _⟩
    · have : hasC 59 (l.take 9) = false := by unfold hasC; simpa using h3
      rw [this] at h2; cases h2
    · have := congrArg List.length h3
      rw [List.length_append, List.length_cons, List.length_take] at this
      rw [h4]
      show a.length + 1 ≤ _
      omega
  · exact ⟨by unfold SignOK; decide, Nat.zero_le _⟩
/-- a text with references, read -/
def decE (l : List UInt8) : List UInt8 :=
  if h : hasC 38 l = true then
    beforeC 38 l ++ (if 0 < (refN (afterC 38 l)).2 then runeL (refN (afterC 38 l)).1 ++ decE ((afterC 38 l).drop (refN (afterC 38 l)).2) else 38 :: decE (afterC 38 l))
  else l
termination_by l.length
decreasing_by
  all_goals
    rcases cut_case 38 l with ⟨h3, _⟩ | ⟨a, r, h3, _, h4, h5⟩
    · exact absurd h (by unfold hasC; simpa using h3)
    · have := congrArg List.length h3
      rw [List.length_append, List.length_cons] at this
      rw [h5]
      first | (rw [List.length_drop]; omega) | omega
theorem decE_no {l : List UInt8} (h : hasC 38 l = false) : decE l = l := by rw [decE, dif_neg (by rw [h]; decide)]
theorem decE_yes {l : List UInt8} (h : hasC 38 l = true) : decE l = beforeC 38 l ++ (if 0 < (refN (afterC 38 l)).2 then runeL (refN (afterC 38 l)).1 ++ decE ((afterC 38 l).drop (refN (afterC 38 l)).2) else 38 :: decE (afterC 38 l)) := by rw [decE, dif_pos h]
theorem has_cut {c : UInt8} {l : List UInt8} (h : hasC c l = true) : l.length = (beforeC c l).length + 1 + (afterC c l).length := by
  rcases cut_case c l with ⟨h3, _⟩ | ⟨a, r, h3, _, h4, h5⟩
  · exact absurd h (by unfold hasC; simpa using h3)
  · have := congrArg List.length h3
    rw [List.length_append, List.length_cons] at this
    rw [h4, h5]; omega
theorem index_has (c : UInt8) (l : List UInt8) : decide (0 ≤ Lib.indexByte l c) = hasC c l := by
  rcases index_cut c l with ⟨h1, h2, _⟩ | ⟨o, h1, _, h2, _⟩
  · rw [h1]
    have : hasC c l = false := by unfold hasC; simpa using h2
    rw [this]; rfl
  · rw [h1]
    have : hasC c l = true := by unfold hasC; simpa using h2
    rw [this]; exact decide_eq_true (by omega)
set_option maxHeartbeats 4000000 in
theorem entDecode_any (s : ByteArray) (w : World) (hs : s.size ≤ 16777216) (hE : EnvE w) :
    Calls Tryz.prog 24 #[.string s] w fun e w' => e = .returned (.string (str (decE s.data.toList))) ∧ Below w.heap.size w w' := by
  have HC := hide (Tryz.strings_Contains_one s 38 w)
  rw [index_has] at HC
  cases hh : hasC 38 s.data.toList with
  | false =>
    have HR : Hid (decE s.data.toList = s.data.toList) := hide (decE_no hh)
    rw [hh] at HC
    clear hh hE
    go_enter Tryz.func24, Tryz.ntmps24
    go_wp2_with (go_at_call 40; refine HC.out.mono ?_; rintro e w1 ⟨rfl, hw⟩; obtain rfl := hw.symm)
    go_ret
    exact ⟨by rw [HR.out, str_of]; rfl, Below.refl _ _⟩
  | true =>
    rw [hh] at HC
    have HE := hide hE
    have KB : Hid (Below w.heap.size w (w.alloc (.cells #[.pointer none, .slice none 0 0] 40))) := hide ((Below.refl _ _).alloc (Nat.le_refl _) _)
    have HBD := hide (Bld.new (B := w.heap.size) (W0 := w) (Below.refl _ w) (Nat.le_refl _))
    clear hh hE
    go_enter Tryz.func24, Tryz.ntmps24
    go_wp2_with (first
      | (go_at_call 40; refine HC.out.mono ?_; rintro e w1 ⟨rfl, hw⟩; obtain rfl := hw.symm)
      | (go_at_call 41; refine (signs_any _).mono ?_; rintro e w2 ⟨rfl, hm2, hb2⟩; have HM2 := hide hm2; have HB2 := hide hb2; clear hm2 hb2))
    have HM2' : Hid (SMapN w2 (w.heap.size + 1) 16 nameN) := hide (by have := HM2.out; rwa [World.size_alloc] at this)
    go_loopw [0] (fun sv wr => ∃ (S : ByteArray) (acc : List UInt8), sv = .string S ∧ Hid (acc.length + 4 * S.size ≤ 4 * s.size) ∧ Hid (Bld w.heap.size w.heap.size acc w wr) ∧ Hid (SMapN wr (w.heap.size + 1) 16 nameN) ∧ Hid (acc ++ decE S.data.toList = decE s.data.toList)) (fun sv _ => szOfS sv)
    case atStart => exact ⟨s, [], rfl, hide (by simp), hide (HBD.out.kept HB2.out), HM2', hide rfl⟩
    case round =>
      obtain ⟨S, acc, rfl, HL, HB, HM, HG⟩ := hrel
      have hSz : S.size ≤ s.size := by have := HL.out; omega
      have hcut := fun w1 => strCut_any S 38 w1 (by omega)
      simp only [cutV] at hcut
      obtain ⟨A, hA⟩ : ∃ A, A = str (beforeC 38 S.data.toList) := ⟨_, rfl⟩
      obtain ⟨R, hR⟩ : ∃ R, R = str (afterC 38 S.data.toList) := ⟨_, rfl⟩
      rw [← hA, ← hR] at hcut
      have hAl : A.data.toList = beforeC 38 S.data.toList := by rw [hA, str_toList]
      have hRl : R.data.toList = afterC 38 S.data.toList := by rw [hR, str_toList]
      have hAs : A.size ≤ S.size := by rw [← toList_length, hAl, ← toList_length S]; exact (List.takeWhile_sublist _).length_le
      have HL1 : Hid (acc.length + A.size ≤ 140737488355328) := hide (by have := HL.out; omega)
      have tok1 : True := trivial
      cases hc : hasC 38 S.data.toList with
      | false =>
        rw [hc] at hcut
        have HCUT := hide hcut
        have HR : Hid (decE s.data.toList = acc ++ A.data.toList) := hide (by
          rw [← HG.out, decE_no hc, hAl]
          rcases cut_case 38 S.data.toList with ⟨_, h4, _⟩ | ⟨a, r, h3, _⟩
          · rw [h4]
          · exact absurd hc (by unfold hasC; rw [h3]; simp))
        clear hcut hc hA hR hAl hRl hAs hSz
        go_wp2_with (first
          | (go_at_call 42; with_reducible refine (HCUT.out _).mono ?_; rintro e w3 ⟨rfl, hb3⟩; have HB3 := hide (HB.out.kept hb3); have HM3 := hide (HM.out.kept hb3); clear hb3)
          | (go_at_call 23; have _t := tok1; refine (writeStringM_any _ _ acc A w _ HB3.out HL1.out).mono ?_; rintro e w4 ⟨rfl, hb4, hk4⟩; have HB4 := hide hb4; have HM4 := hide (HM3.out.km hk4); clear hb4 hk4 tok1)
          | (go_at_call 34; refine (HB4.out.string).mono ?_; rintro e w5 ⟨rfl, hb5⟩; have HB5 := hide hb5; clear hb5))
        go_ret
        exact ⟨by rw [HR.out]; rfl, HB5.out⟩
      | true =>
        rw [hc] at hcut
        have HCUT := hide hcut
        have hlen := has_cut hc
        rw [← hAl, ← hRl, toList_length, toList_length, toList_length] at hlen
        have hdec := decE_yes hc
        rw [← hAl, ← hRl] at hdec
        have hG := HG.out
        rw [hdec] at hG
        obtain ⟨hx, hnl⟩ := refN_ok R.data.toList
        rw [toList_length] at hnl
        have href := fun w1 (hm : SMapN w1 (w.heap.size + 1) 16 nameN) (he : EnvE w1) => reference_any R (w.heap.size + 1) he.2.2.choose w1 (by omega) hm he.1 he.2.1 he.2.2.choose_spec.1 he.2.2.choose_spec.2
        obtain ⟨⟨x, n⟩, hr⟩ : ∃ o, refN R.data.toList = o := ⟨_, rfl⟩
        rw [hr] at hx hnl href hG
        simp only [refV] at href
        simp only [] at hx hnl hG
        have HREF := hide href
        have HX := hide hx
        have hLL := HL.out
        by_cases hn : 0 < n
        · have t1 : decide ((n : Int) > 0) = true := decide_eq_true (by omega)
          have t2 : decide (0 < n) = true := decide_eq_true hn
          have k1 : (0 : Int) ≤ n := by omega
          have k2 : (n : Int) ≤ R.size := by omega
          rw [if_pos hn] at hG
          have hrl := (runeL_length x).2.1
          have hsz : (R.extract n R.size).size = R.size - n := by rw [ByteArray.size_extract]; omega
          have HL2 : Hid ((acc ++ A.data.toList).length + 4 ≤ 140737488355328) := hide (by rw [List.length_append, toList_length]; omega)
          have HLN : Hid (((acc ++ A.data.toList) ++ runeL x).length + 4 * (R.extract n R.size).size ≤ 4 * s.size) := hide (by rw [List.length_append, List.length_append, toList_length, hsz]; omega)
          have HGN : Hid (((acc ++ A.data.toList) ++ runeL x) ++ decE (R.extract n R.size).data.toList = decE s.data.toList) := hide (by rw [extract_end, ← hG]; simp)
          have HLT : Hid ((R.extract n R.size).size < S.size) := hide (by rw [hsz]; omega)
          clear hcut hc hA hR hAl hRl hAs hlen hdec hG hx hnl href hr hLL hn hrl hsz hSz
          go_wp2_with (first
            | (go_at_call 42; with_reducible refine (HCUT.out _).mono ?_; rintro e w3 ⟨rfl, hb3⟩; have HB3 := hide (HB.out.kept hb3); have HM3 := hide (HM.out.kept hb3); clear hb3)
            | (go_at_call 23; have _t := tok1; refine (writeStringM_any _ _ acc A w _ HB3.out HL1.out).mono ?_; rintro e w4 ⟨rfl, hb4, hk4⟩; have HB4 := hide hb4; have HM4 := hide (HM3.out.km hk4); clear hb4 hk4 tok1)
            | (go_at_call 43; refine (HREF.out _ HM4.out (HE.out.kept HB4.out.2.1)).mono ?_; rintro e w5 ⟨rfl, hb5⟩; have HB5 := hide (HB4.out.kept hb5); have HM5 := hide (HM4.out.kept hb5); clear hb5)
            | (go_at_call 44; refine (writeRuneM_any _ _ _ x HX.out.1 HX.out.2 w _ HB5.out HL2.out).mono ?_; rintro e w6 ⟨⟨m6, rfl⟩, hb6, hk6⟩; have HB6 := hide hb6; have HM6 := hide (HM5.out.km hk6); clear hb6 hk6))
          go_roundw
          case rel => exact ⟨_, _, rfl, HLN, HB6, HM6, HGN⟩
          case measure => exact HLT.out
        · have hn0 : n = 0 := by omega
          have t1 : decide ((n : Int) > 0) = false := decide_eq_false (by omega)
          have t2 : decide (0 < n) = false := decide_eq_false hn
          rw [if_neg hn] at hG
          have tok2 : True := trivial
          have HL2 : Hid ((acc ++ A.data.toList).length + (⟨#[38]⟩ : ByteArray).size ≤ 140737488355328) := hide (by rw [List.length_append, toList_length, show (⟨#[38]⟩ : ByteArray).size = 1 from rfl]; omega)
          have HLN : Hid (((acc ++ A.data.toList) ++ (⟨#[38]⟩ : ByteArray).data.toList).length + 4 * R.size ≤ 4 * s.size) := hide (by rw [List.length_append, List.length_append, toList_length, toList_length, show (⟨#[38]⟩ : ByteArray).size = 1 from rfl]; omega)
          have HGN : Hid (((acc ++ A.data.toList) ++ (⟨#[38]⟩ : ByteArray).data.toList) ++ decE R.data.toList = decE s.data.toList) := hide (by rw [← hG, show (⟨#[38]⟩ : ByteArray).data.toList = [38] from rfl]; simp)
          have HLT : Hid (R.size < S.size) := hide (by omega)
          clear hcut hc hA hR hAl hRl hAs hlen hdec hG hx hnl href hr hLL hn hn0 hSz
          go_wp2_with (first
            | (go_at_call 42; with_reducible refine (HCUT.out _).mono ?_; rintro e w3 ⟨rfl, hb3⟩; have HB3 := hide (HB.out.kept hb3); have HM3 := hide (HM.out.kept hb3); clear hb3)
            | (go_at_call 23; have _t := tok1; refine (writeStringM_any _ _ acc A w _ HB3.out HL1.out).mono ?_; rintro e w4 ⟨rfl, hb4, hk4⟩; have HB4 := hide hb4; have HM4 := hide (HM3.out.km hk4); clear hb4 hk4 tok1)
            | (go_at_call 43; refine (HREF.out _ HM4.out (HE.out.kept HB4.out.2.1)).mono ?_; rintro e w5 ⟨rfl, hb5⟩; have HB5 := hide (HB4.out.kept hb5); have HM5 := hide (HM4.out.kept hb5); clear hb5)
            | (go_at_call 23; have _t := tok2; refine (writeStringM_any _ _ _ ⟨#[38]⟩ w _ HB5.out HL2.out).mono ?_; rintro e w6 ⟨rfl, hb6, hk6⟩; have HB6 := hide hb6; have HM6 := hide (HM5.out.km hk6); clear hb6 hk6 tok2))
          go_roundw
          case rel => exact ⟨_, _, rfl, HLN, HB6, HM6, HGN⟩
          case measure => exact HLT.out
end Go.Proofs.YtmojckphfbcibaaGreatDoor
