/- WALKS of strings.ContainsRune at stamp's three signs, tokens' closure, tokens. No statement is proved here. -/
import Derived.Test.YtiojfknphpnlhaaDoorStampF
import Derived.Test.YtiojfknphpnlhaaDoorStampM
import Derived.Test.YtiojfknphpnlhaaDoorStrs
import Derived.Shelf.Strings.Runes
namespace Go.Proofs.YtiojfknphpnlhaaDoor
set_option maxRecDepth 100000
open Go.RowKit
set_option linter.unusedVariables false
set_option linter.unusedSimpArgs false

theorem sep_index (x : Nat) (h : x < 128) : decide (0 ≤ Lib.indexByte (⟨#[32, 9, 44]⟩ : ByteArray).data.toList (x : Int).toNat.toUInt8) = sepR x := by
  have : (List.range 128).all (fun x => decide (decide (0 ≤ Lib.indexByte [32, 9, 44] (x : Int).toNat.toUInt8) = sepR x)) = true := by decide +kernel
  have h2 := List.all_eq_true.1 this x (List.mem_range.2 h)
  exact of_decide_eq_true h2
set_option maxHeartbeats 400000 in
theorem contSep_any (x : Nat) (w : World) (hx : x ≤ 1114111) :
    Calls Tryd.prog 40 #[.string ⟨#[32, 9, 44]⟩, .int .i32 x] w fun e w' => e = .returned (.bool (sepR x)) ∧ Below w.heap.size w w' := by
  by_cases h : x < 128
  · refine (Tryd.strings_ContainsRune_ascii ⟨#[32, 9, 44]⟩ x w (by omega) (by omega)).mono ?_
    rintro e w1 ⟨rfl, rfl⟩
    exact ⟨by rw [sep_index x h], Below.refl _ _⟩
  · have HS := hide (sepR_high x (by omega))
    go_enter Tryd.func40, Tryd.ntmps40
    go_wp2_with fail
    refine (indexRune_high ⟨#[32, 9, 44]⟩ x _ (by decide) (by decide +kernel) (by omega) (by omega)).mono ?_
    rintro e w1 ⟨rfl, hb⟩
    have HB := hide hb
    clear hb
    go_wp2_with fail
    go_ret
    exact ⟨ret_bool HS.out.symm, HB.out⟩
theorem tokC_any (x : Nat) (w : World) (hx : x ≤ 1114111) :
    Calls Tryd.prog 39 #[.int .i32 x] w fun e w' => e = .returned (.bool (sepR x)) ∧ Below w.heap.size w w' := by
  go_enter Tryd.func39, Tryd.ntmps39
  go_wp2_with fail
  refine (contSep_any x _ hx).mono ?_
  rintro e w1 ⟨rfl, hb⟩
  have HB := hide hb
  clear hb
  go_wp2_with fail
  go_ret
  exact ⟨rfl, HB.out⟩
theorem enters_tok : ∀ args w, (callFunc 39 args).run Tryd.prog w = .ok (.enter 39 args) w := enters_of Tryd.func39 (by kernel_rfl) rfl
theorem fields_any (s : ByteArray) (w : World) (hs : s.size ≤ 4294967296) :
    Calls Tryd.prog 37 #[.string s, .func (.func 39) #[] #[]] w fun e w' => ∃ A, e = .returned (.slice (some ⟨A, 0, none⟩) (tokB [] s.data.toList).length (tokB [] s.data.toList).length) ∧
      SBuf w.heap.size (.slice (some ⟨A, 0, none⟩) (tokB [] s.data.toList).length (tokB [] s.data.toList).length) ((tokB [] s.data.toList).map str) w w' := by
  refine (Tryd.strings_FieldsFunc_grows 39 #[] enters_tok sepR s w hs (fun W x hx hb => tokC_any x W hx)).mono ?_
  rintro e w1 ⟨A, rfl, h1, h2, h3⟩
  rw [fields_tok, List.length_map] at h2 ⊢
  refine ⟨A, rfl, ?_, h3, h3.size⟩
  rw [List.length_map]
  exact h2
/-- a row of texts that the call owns, from some place of its block on -/
def TRow (w0 w : World) (v : Value) (T : List (List UInt8)) : Prop := ∃ g off cap, v = .slice (some ⟨g, off, none⟩) T.length cap ∧ T.length ≤ cap ∧ cap ≤ maxLen ∧ w0.heap.size ≤ g ∧ g < w.heap.size ∧
  (∀ j (h : j < T.length), w.cell? ⟨g, off + j, none⟩ = some (.string (str T[j]))) ∧ ∀ j, j < cap → (w.cell? ⟨g, off + j, none⟩).isSome = true ∧ w.frozen? ⟨g, off + j, none⟩ = false
theorem TRow.of_buf {w0 w : World} {A c : Nat} {T : List (List UInt8)} (h : SBuf w0.heap.size (.slice (some ⟨A, 0, none⟩) T.length c) (T.map str) w0 w) (k : Nat) (hk : k ≤ T.length) : TRow w0 w (.slice (some ⟨A, 0, none⟩) k c) (T.take k) := by
  have h1 := h.1
  rcases h1.2 with ⟨e, _⟩ | ⟨g, cap, cur, e, hg, hh, hc, hm, hs, ht⟩
  · cases e
  · injection e with e1 e2 e3
    injection e1 with e1
    injection e1 with e1
    subst e1; subst e3
    rw [List.length_map] at hc e2
    have hl : (T.take k).length = k := by rw [List.length_take]; omega
    refine ⟨A, 0, c, by rw [hl], by rw [hl]; omega, hm, hg, ?_, fun j hj => ?_, fun j hj => ?_⟩
    · exact (Array.getElem?_eq_some_iff.1 hh).1
    · rw [hl] at hj
      rw [Nat.zero_add, cell_of_row w A j cur _ _ hh]
      rw [List.length_map, Nat.mul_one] at ht
      have e2 := congrArg (fun l => l[j]?) ht
      simp only [List.getElem?_take_of_lt (show j < T.length by omega), Array.getElem?_toList] at e2
      rw [e2]
      simp [strVals, show j < T.length by omega]
    · rw [Nat.zero_add]
      constructor
      · rw [cell_of_row w A j cur _ _ hh, Array.getElem?_eq_getElem (by omega)]; rfl
      · simp [World.frozen?, hh]
theorem TRow.base {w0 w1 w : World} {v : Value} {T : List (List UInt8)} (h : TRow w1 w v T) (hle : w0.heap.size ≤ w1.heap.size) : TRow w0 w v T := by
  obtain ⟨g, off, cap, h1, h2, h3, h4, h5⟩ := h
  exact ⟨g, off, cap, h1, h2, h3, Nat.le_trans hle h4, h5⟩
theorem TRow.cell0 {w0 w : World} {A n c : Nat} {T : List (List UInt8)} (h : TRow w0 w (.slice (some ⟨A, 0, none⟩) n c) T) (j : Nat) (hj : j < T.length) : w.cell? ⟨A, j, none⟩ = some (.string (str T[j])) := by
  obtain ⟨g, off, cap, e, _, _, _, _, hc, _⟩ := h
  injection e with e1 e2 e3
  injection e1 with e1
  injection e1 with e1 e4
  subst e1; subst e4
  have := hc j hj
  rwa [Nat.zero_add] at this
theorem hasPre_rem (t : List UInt8) : Lib.hasPrefix (str t).data.toList (⟨#[40]⟩ : ByteArray).data.toList = !notRem t := by
  rw [str_toList]
  cases t with
  | nil => rfl
  | cons a t =>
    show ([40].isPrefixOf (a :: t)) = !(!(a == 40))
    rw [Bool.not_not]
    by_cases h : a = 40
    · subst h; rfl
    · have h1 : (a == 40) = false := beq_eq_false_iff_ne.2 h
      have h2 : ((40 : UInt8) == a) = false := beq_eq_false_iff_ne.2 (fun e => h e.symm)
      rw [h1]; simp [List.isPrefixOf, h2]
theorem take_while_at (p : List UInt8 → Bool) (T : List (List UInt8)) (k : Nat) (hk : k < T.length) (h : ∀ j (hj : j < k), p (T[j]'(by omega)) = true) (hn : p T[k] = false) : T.takeWhile p = T.take k := by
  induction T generalizing k with
  | nil => simp at hk
  | cons a T ih =>
    cases k with
    | zero => rw [List.takeWhile_cons, show p a = false from hn]; rfl
    | succ k =>
      rw [List.takeWhile_cons, show p a = true from h 0 (by omega), if_pos rfl, List.take_succ_cons, ih k (by simpa using hk) (fun j hj => h (j + 1) (by omega)) hn]
theorem take_while_all (p : List UInt8 → Bool) (T : List (List UInt8)) (h : ∀ j (hj : j < T.length), p (T[j]'hj) = true) : T.takeWhile p = T := by
  induction T with
  | nil => rfl
  | cons a T ih =>
    rw [List.takeWhile_cons, show p a = true from h 0 (by simp), if_pos rfl, ih (fun j hj => h (j + 1) (by simpa using hj))]
theorem tok_len : ∀ (l cur : List UInt8), (tokB cur l).length ≤ l.length + 1 := by
  intro l
  induction l with
  | nil => intro cur; unfold tokB; split <;> simp
  | cons c r ih =>
    intro cur
    unfold tokB
    have h0 := ih []
    have h1 := ih (cur ++ [c])
    split
    · split <;> simp <;> omega
    · simp; omega
def TokP (s : ByteArray) (w : World) (e : Ending) (w' : World) : Prop := ∃ v, e = .returned v ∧ TRow w w' v (toksL s.data.toList) ∧ Below w.heap.size w w'
set_option maxHeartbeats 1000000 in
theorem tokens_any (s : ByteArray) (w : World) (hs : s.size ≤ 100000) :
    Calls Tryd.prog 17 #[.string s] w (TokP s w) := by
  obtain ⟨L, hL⟩ : ∃ L, L = str (lowL s.data.toList) := ⟨_, rfl⟩
  have hl := lower_any s w (by omega)
  rw [← hL] at hl
  have hLs : L.size ≤ 4294967296 := by rw [hL, str_size, lowL_length, toList_length]; omega
  have hT : toksL s.data.toList = (tokB [] L.data.toList).takeWhile notRem := by rw [hL]; rfl
  have htl := tok_len L.data.toList []
  rw [toList_length, hL, str_size, lowL_length, toList_length, ← hL] at htl
  have HL := hide hl
  have HLS := hide hLs
  clear hl hL hLs
  go_enter Tryd.func17, Tryd.ntmps17
  go_wp2_with fail
  refine HL.out.mono ?_
  rintro e w1 ⟨rfl, hb1⟩
  go_wp2_with fail
  refine (fields_any L _ HLS.out).mono ?_
  rintro e w2 ⟨A, rfl, hbuf⟩
  have hb2 := hb1.trans (hbuf.below.mono hb1.size)
  have HB := hide hb2
  have HB1 := hide hb1
  have HBUF := hide hbuf
  obtain ⟨T, hTT⟩ : ∃ T, T = tokB [] L.data.toList := ⟨_, rfl⟩
  rw [← hTT] at hT htl HBUF ⊢
  have HT := hide hT
  have HROW := fun k hk => hide ((TRow.of_buf (k := k) HBUF.out hk).base HB1.out.size)
  clear hb1 hb2 hbuf hTT hT HL HLS
  go_wp2_with fail
  go_loop [11] (fun i => ∃ k : Nat, k ≤ T.length ∧ i = .int .i64 k ∧ Hid (∀ j (hj : j < k) (h : j < T.length), notRem T[j] = true)) (fun i => T.length - (intOf i).toNat)
  case atStart => exact ⟨0, Nat.zero_le _, rfl, hide (fun j hj => absurd hj (by omega))⟩
  case round =>
    obtain ⟨k, hk, rfl, HN⟩ := hrel
    by_cases hlt : k < T.length
    · have hcell := TRow.cell0 (HROW T.length (Nat.le_refl _)).out k (by simpa using hlt)
      rw [List.getElem_take] at hcell
      obtain ⟨x, hx⟩ : ∃ x, x = str T[k] := ⟨_, rfl⟩
      have hp := hasPre_rem T[k]
      rw [← hx] at hcell hp
      have HP := hide hp
      clear hp hx
      cases hn : notRem T[k]
      · have HV : Hid (toksL s.data.toList = T.take k) := hide (by rw [HT.out]; exact take_while_at notRem T k hlt (fun j hj => HN.out j hj (by omega)) hn)
        have HNN := hide hn
        clear hn
        go_wp2_with fail
        refine (Tryd.strings_HasPrefix x ⟨#[40]⟩ _).mono ?_
        rintro e w3 ⟨rfl, hw⟩
        subst hw
        rw [HP.out, HNN.out]
        go_wp2_with fail
        go_ret
        exact ⟨_, rfl, by rw [HV.out]; exact (HROW k hk).out, HB.out⟩
      · have HN2 : Hid (∀ j (hj : j < k + 1) (h : j < T.length), notRem T[j] = true) := hide (fun j hj h => by
          rcases Nat.lt_or_ge j k with h1 | h1
          · exact HN.out j h1 h
          · obtain rfl : j = k := by omega
            exact hn)
        have HNN := hide hn
        clear hn
        go_wp2_with fail
        refine (Tryd.strings_HasPrefix x ⟨#[40]⟩ _).mono ?_
        rintro e w3 ⟨rfl, hw⟩
        subst hw
        rw [HP.out, HNN.out]
        go_wp2_with fail
        go_round
        case rel => exact ⟨k + 1, by omega, by go_num, HN2⟩
        case measure => simp [intOf]; omega
    · have HV : Hid (toksL s.data.toList = T) := hide (by rw [HT.out]; exact take_while_all notRem T (fun j hj => HN.out j (by omega) hj))
      have hrow := (HROW T.length (Nat.le_refl _)).out
      rw [List.take_length] at hrow
      have HR := hide hrow
      clear hrow
      go_wp2_with fail
      go_ret
      exact ⟨_, rfl, by rw [HV.out]; exact HR.out, HB.out⟩
end Go.Proofs.YtiojfknphpnlhaaDoor
