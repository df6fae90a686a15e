/- The library's pieces of a text cut at blanks, tabs and commas by runes are those by bytes; WALKS of stamp.tokens' closure. No statement is proved here. -/
import Derived.Test.YtiojfknphpnlhaaDoorStampT
import Derived.Test.YtiojfknphpnlhaaDoorIdxR
import Derived.Test.YtiojfknphpnlhaaDoorShelf
import Derived.Lib.FieldsP
import Derived.Shelf.Strings.FieldsFuncGrows
namespace Go.Proofs.YtiojfknphpnlhaaDoor
open Go.RowKit
set_option linter.unusedVariables false
set_option linter.unusedSimpArgs false

def sepR (r : Nat) : Bool := r == 32 || r == 9 || r == 44
theorem sepR_byte (c : UInt8) : sepR c.toNat = isSep c := u8_all (p := fun c => sepR c.toNat = isSep c) (by decide +kernel) c
theorem sepR_high (r : Nat) (h : 128 ≤ r) : sepR r = false := by
  unfold sepR
  rw [show (r == 32) = false from beq_eq_false_iff_ne.2 (by omega), show (r == 9) = false from beq_eq_false_iff_ne.2 (by omega), show (r == 44) = false from beq_eq_false_iff_ne.2 (by omega)]; rfl
theorem sep_high (c : UInt8) (h : 128 ≤ c.toNat) : isSep c = false := by rw [← sepR_byte]; exact sepR_high _ h
def curS (l : List UInt8) (st : Option Nat) (pos : Nat) : List UInt8 := match st with | none => [] | some a => (l.take pos).drop a
theorem curS_step (l : List UInt8) (st : Option Nat) (pos K : Nat) (h : ∀ a, st = some a → a ≤ pos) (hp : pos ≤ l.length) :
    curS l (some (st.getD pos)) (pos + K) = curS l st pos ++ (l.drop pos).take K := by
  cases st with
  | none =>
    show (l.take (pos + K)).drop pos = [] ++ _
    rw [List.nil_append, List.take_drop]
  | some a =>
    show (l.take (pos + K)).drop a = (l.take pos).drop a ++ _
    have ha := h a rfl
    rw [List.take_add, List.drop_append_of_le_length (by rw [List.length_take]; omega)]
theorem ext_str (s : ByteArray) (a b : Nat) : s.extract a b = str ((s.data.toList.take b).drop a) := ext_list (by rw [extract_list, str_toList])
theorem spans_tok (s : ByteArray) : ∀ (f pos : Nat) (st : Option Nat) (acc : List (Nat × Nat)), s.size ≤ pos + f → pos ≤ s.size → (∀ a, st = some a → a < pos) →
    (Lib.closeSpans s (Lib.spansFromP sepR s f pos st acc)).map (fun x => s.extract x.1 x.2) = acc.map (fun x => s.extract x.1 x.2) ++ (tokB (curS s.data.toList st pos) (s.data.toList.drop pos)).map str := by
  have hend : ∀ (pos : Nat) (st : Option Nat) (acc : List (Nat × Nat)), pos = s.size → (∀ a, st = some a → a < pos) →
      (Lib.closeSpans s (acc, st)).map (fun x => s.extract x.1 x.2) = acc.map (fun x => s.extract x.1 x.2) ++ (tokB (curS s.data.toList st pos) (s.data.toList.drop pos)).map str := by
    intro pos st acc hp hst
    subst hp
    rw [List.drop_eq_nil_of_le (by rw [toList_length]; exact Nat.le_refl _)]
    cases st with
    | none => simp [Lib.closeSpans, curS, tokB]
    | some a =>
      have ha := hst a rfl
      have hne : (s.data.toList.take s.size).drop a ≠ [] := by
        intro e
        have := congrArg List.length e
        rw [List.length_drop, List.length_take, toList_length, Nat.min_self] at this
        simp at this; omega
      simp only [Lib.closeSpans, curS, List.map_append, List.map_cons, List.map_nil]
      rw [tokB_end _ hne, ext_str]; rfl
  intro f
  induction f with
  | zero =>
    intro pos st acc h1 h2 h3
    exact hend pos st acc (by omega) h3
  | succ f ih =>
    intro pos st acc h1 h2 h3
    by_cases hlt : pos < s.size
    · have hln := toList_length s
      have hk := decode_end s pos hlt
      -- the sign's bytes, and whether it parts
      have hno : ∀ K, 1 ≤ K → pos + K ≤ s.size → sepR (Utf8.decode s pos).1 = false → (Utf8.decode s pos).2 = K → ((s.data.toList.drop pos).take K).all (fun c => !isSep c) = true →
          (Lib.closeSpans s (Lib.spansFromP sepR s (f + 1) pos st acc)).map (fun x => s.extract x.1 x.2) = acc.map (fun x => s.extract x.1 x.2) ++ (tokB (curS s.data.toList st pos) (s.data.toList.drop pos)).map str := by
        intro K k1 k2 hs hK hall
        have hstep := curS_step s.data.toList st pos K (fun a ha => Nat.le_of_lt (h3 a ha)) (by omega)
        have hih := ih (pos + K) (some (st.getD pos)) acc (by omega) k2 (fun a ha => by
          cases st with
          | none => cases ha; show pos < pos + K; omega
          | some b => cases ha; have := h3 b rfl; show b < pos + K; omega)
        have hrun := tokB_run _ hall (curS s.data.toList st pos) (s.data.toList.drop (pos + K))
        rw [← hstep] at hrun
        rw [show (s.data.toList.drop pos).take K ++ s.data.toList.drop (pos + K) = s.data.toList.drop pos by
          rw [← List.drop_drop, List.take_append_drop]] at hrun
        rw [hrun, ← hih]
        simp only [Lib.spansFromP, hlt, if_true, hs, hK]
        cases st <;> rfl
      rcases decode_high_or s pos hlt with ⟨ha, hd⟩ | ⟨ha, hd1, hd2⟩
      · have hdrop := drop_cons s pos hlt
        cases hs : isSep s[pos]
        · refine hno 1 (Nat.le_refl _) (by omega) ?_ (by rw [hd]) ?_
          · rw [hd]; show sepR s[pos].toNat = false; rw [sepR_byte, hs]
          · rw [hdrop]; simp [hs]
        · have hR : sepR (Utf8.decode s pos).1 = true := by rw [hd]; show sepR s[pos].toNat = true; rw [sepR_byte, hs]
          have hK : (Utf8.decode s pos).2 = 1 := by rw [hd]
          simp only [Lib.spansFromP, hlt, if_true, hR, hK]
          rw [hdrop]
          cases st with
          | none =>
            have hih := ih (pos + 1) none acc (by omega) (by omega) (fun a ha => by cases ha)
            show (Lib.closeSpans s (Lib.spansFromP sepR s f (pos + 1) none acc)).map _ = _
            rw [hih]
            show _ ++ (tokB [] _).map str = _ ++ (tokB [] _).map str
            rw [tokB_sep0 _ _ hs]
          | some a =>
            have hap := h3 a rfl
            have hih := ih (pos + 1) none (acc ++ [(a, pos)]) (by omega) (by omega) (fun a ha => by cases ha)
            have hne : (s.data.toList.take pos).drop a ≠ [] := by
              intro e
              have := congrArg List.length e
              rw [List.length_drop, List.length_take, hln, Nat.min_eq_left h2] at this
              simp at this; omega
            show (Lib.closeSpans s (Lib.spansFromP sepR s f (pos + 1) none (acc ++ [(a, pos)]))).map _ = _
            rw [hih]
            show _ = _ ++ (tokB ((s.data.toList.take pos).drop a) _).map str
            rw [tokB_sep _ _ _ hs hne, List.map_append, List.map_cons, List.map_cons, List.map_nil, ext_str, List.append_assoc]
            rfl
      · refine hno (Utf8.decode s pos).2 hd2 hk (sepR_high _ hd1) rfl ?_
        rw [List.all_eq_true]
        intro c hc
        obtain ⟨j, hj⟩ := List.getElem?_of_mem hc
        have hjl := (List.getElem?_eq_some_iff.1 hj).1
        rw [List.length_take] at hjl
        rw [List.getElem?_take_of_lt (by omega), List.getElem?_drop] at hj
        have := decode_span s pos hlt ha (pos + j) (by omega) (by omega) c hj
        rw [sep_high c this]; rfl
    · rw [Lib.spansFromP_end _ _ _ _ _ _ hlt]
      exact hend pos st acc (by omega) h3
theorem fields_tok (s : ByteArray) : Lib.goFieldsP sepR s = (tokB [] s.data.toList).map str := by
  have h := spans_tok s s.size 0 none [] (by omega) (Nat.zero_le _) (fun a ha => by cases ha)
  rw [List.map_nil, List.nil_append, List.drop_zero] at h
  exact h
end Go.Proofs.YtiojfknphpnlhaaDoor
