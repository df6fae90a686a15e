/- PURE: what the reference of layer 7 writes. No statement is proved here. -/
import Derived.Test.YtienjpelmbldpaaGreatDoorParBackLaw
import Derived.Test.YtienjpelmbldpaaGreatDoorConAll
namespace Go.Proofs.YtienjpelmbldpaaGreatDoor
open Go.RowKit
set_option linter.unusedVariables false
set_option linter.unusedSimpArgs false
set_option maxRecDepth 100000
/-! ### what is encoded is not the text itself -/
theorem validL_ge7 (l : List UInt8) : l.length ≤ (validL l).length := by
  refine list_ind (p := fun l => l.length ≤ (validL l).length) ?_ l
  intro l ih
  by_cases hl : l = []
  · subst hl; exact Nat.zero_le _
  · have hv := vStep_pos' l hl
    have hi := ih (l.drop (vStep l).2) (by rw [List.length_drop]; omega)
    rw [validL_cons hl, List.length_append]
    rw [List.length_drop] at hi
    have : (vStep l).2 ≤ (vStep l).1.length := by
      unfold vStep
      split
      · decide
      · rw [List.length_take]; have := wholeN_le l; omega
    omega
theorem joinW_longer7 (l : List UInt8) : allWhole l = true → l ≠ [] → l.length < (joinW (groups l)).length := by
  refine list_ind (p := fun l => allWhole l = true → l ≠ [] → l.length < (joinW (groups l)).length) ?_ l
  intro l ih h hl
  have hg := group_pos (room := 30) (by omega) h hl
  have hle := group_le 30 l
  have hw := group_whole 30 l h
  have hwl : (l.take (groupN 30 l)).length + 12 ≤ (wordL (l.take (groupN 30 l))).length := by rw [wordL_length, encB_len]; omega
  rw [List.length_take] at hwl
  rw [groups_go (by omega)]
  by_cases hd : l.drop (groupN 30 l) = []
  · have e := List.drop_eq_nil_iff.1 hd
    rw [hd, groups_nil]
    show _ < (wordL _).length
    omega
  · have hi := ih _ (by rw [List.length_drop]; omega) hw.1 hd
    have hg2 := group_pos (room := 30) (by omega) hw.1 hd
    rw [List.length_drop] at hi
    rw [groups_go (l := l.drop (groupN 30 l)) (by omega)] at hi ⊢
    show _ < (wordL _ ++ 32 :: joinW (_ :: _)).length
    rw [List.length_append, List.length_cons]
    omega
theorem enc_ne7 {a : List UInt8} (h : plainL a = false) : encodeL a ≠ a := by
  have ha : a ≠ [] := by rintro rfl; exact absurd h (by decide)
  have h1 := validL_ge7 a
  have h2 := joinW_longer7 (validL a) (allWhole_valid a) (by
    intro e
    rw [e] at h1
    have := List.length_pos_iff.2 ha
    have h3 : a.length ≤ 0 := h1
    omega)
  intro e
  unfold encodeL at e
  rw [h] at e
  have := congrArg List.length e
  simp only [Bool.false_eq_true, if_false] at this
  omega
theorem enc_same7 {a : List UInt8} (h : plainL a = true) : encodeL a = a := by unfold encodeL; rw [h]; rfl

def plnB (more : Bool) (c : UInt8) : Bool := !(decide (c.toNat < 32) || c == 127 || (decide (127 < c.toNat) && !more))
theorem pln_true (c : UInt8) : plnB true c = !ctlB c := by unfold plnB ctlB; simp
theorem pln_false (c : UInt8) : plnB false c = (decide (32 ≤ c.toNat) && decide (c.toNat ≤ 126)) :=
  u8_all (p := fun c => plnB false c = (decide (32 ≤ c.toNat) && decide (c.toNat ≤ 126))) (by decide +kernel) c
def plnL (more : Bool) (l : List UInt8) : Bool := l.all (plnB more)
theorem plnL_true (l : List UInt8) : plnL true l = !ctlL l := by
  unfold plnL ctlL
  rw [List.all_eq_not_any_not]
  congr 2
  funext c
  rw [pln_true, Bool.not_not]
theorem app_data7 (a b : ByteArray) : (a ++ b).data.toList = a.data.toList ++ b.data.toList := by simp
theorem byte_str7 (c : UInt8) : strOfNums [(c.toNat : Int)] = ⟨#[c]⟩ := by apply ext_list; rw [nums_list]; simp
theorem okPs_app (a b : List ParL) : ∀ seen, okPs seen (a ++ b) = (okPs seen a && okPs (seen ++ a.map (·.1)) b) := by
  induction a with
  | nil => intro seen; simp [okPs]
  | cons p r ih =>
    intro seen
    rw [List.cons_append, okPs, okPs, ih, List.map_cons]
    simp only [Bool.and_assoc, List.append_assoc, List.singleton_append]
theorem okPs_at {l : List ParL} {k : Nat} {f : ParL} (h : l[k]? = some f) : okPs [] (l.take (k + 1)) = (okPs [] (l.take k) && (nameB f.1 && !decide (f.1 ∈ (l.take k).map (·.1)) && !ctlL f.2)) := by
  rw [List.take_add_one, h, okPs_app]
  simp [okPs]
theorem okPs_take {l : List ParL} (k : Nat) (h : okPs [] (l.take k) = false) : okPs [] l = false := by
  rw [← List.take_append_drop k l, okPs_app, h, Bool.false_and]
theorem getP_some {l : List ParL} {k : List UInt8} : (getP l k).isSome = decide (k ∈ l.map (·.1)) := by
  unfold getP
  induction l with
  | nil => rfl
  | cons p r ih =>
    by_cases h : p.1 = k
    · rw [List.find?_cons_of_pos (by simpa using h)]; simp [h]
    · rw [List.find?_cons_of_neg (by simpa using h), ih]
      have : ¬ k = p.1 := fun e => h e.symm
      simp [this]
theorem mainB_eq (m : List UInt8) : mainB m = (!ctlL m && (decide (lowL m = m) && (decide (trP m = m) && !hasAny [59, 34] m))) := by
  unfold mainB
  by_cases h : tsL m = m
  · have h1 : trP m = m := by
      have h2 : (trP m).length = m.length := by
        have := congrArg List.length h
        unfold tsL at this
        rw [lowL_len] at this; exact this
      have h3 : (trP m).Sublist m := by
        rw [trP_eq]
        unfold rtP
        refine (List.dropWhile_sublist _).trans ?_
        have := (List.dropWhile_sublist (l := m.reverse) wsP).reverse
        rwa [List.reverse_reverse] at this
      exact h3.eq_of_length h2
    have h2 : lowL m = m := by unfold tsL at h; rwa [h1] at h
    rw [decide_eq_true h1, decide_eq_true h2, show (tsL m == m) = true by rw [h]; exact beq_self_eq_true _]
    cases ctlL m <;> cases hasAny [59, 34] m <;> rfl
  · rw [show (tsL m == m) = false from beq_eq_false_iff_ne.2 h]
    by_cases h1 : trP m = m
    · have h2 : ¬ lowL m = m := fun e => h (by unfold tsL; rw [h1, e])
      rw [decide_eq_false h2]; simp
    · rw [decide_eq_false h1]; simp
def bareTo (l : List UInt8) (k : Nat) : Bool := plnL false l && (List.range k).all fun i => decide ((l.drop i).take 2 ≠ [61, 63])
theorem bareTo_zero (l : List UInt8) : bareTo l 0 = plnL false l := by unfold bareTo; simp
theorem bareTo_succ (l : List UInt8) (k : Nat) : bareTo l (k + 1) = (bareTo l k && decide ((l.drop k).take 2 ≠ [61, 63])) := by
  unfold bareTo
  rw [List.range_succ, List.all_append, ← Bool.and_assoc]
  simp
theorem plnL_within (l : List UInt8) : plnL false l = withinB 32 126 l := by
  unfold plnL withinB
  congr 1
  funext c
  rw [pln_false]
  congr 1
  · exact decide_eq_decide.2 (by omega)
  · exact decide_eq_decide.2 (by omega)
theorem bareTo_end (s : ByteArray) : bareTo s.data.toList s.size = plainL s.data.toList := by
  unfold bareTo plainL
  rw [contains_all, plnL_within, toList_length]
theorem wr_plain {a : List UInt8} (h : plainL a = true) : wrL a = [61, 34] ++ escL a ++ [34] := by
  unfold wrL; rw [if_pos (enc_same7 h)]; simp [quoteL]
theorem wr_enc {a : List UInt8} (h : plainL a = false) : wrL a = [42, 61, 117, 116, 102, 45, 56, 39, 39] ++ penc a := by
  unfold wrL; rw [if_neg (enc_ne7 h)]
/-- what is written, and what is known, ahead of parameter k -/
def WSt7 (m : List UInt8) (l : List ParL) (k : Nat) (O : ByteArray) : Prop := O.data.toList = m ++ parTs (l.take k) ∧ okPs [] (l.take k) = true ∧ O.size ≤ 1500 + 1300 * k
theorem wSt7_next {m : List UInt8} {l : List ParL} {k : Nat} {f : ParL} {O P : ByteArray} (h : WSt7 m l k O) (hk : l[k]? = some f) (hf : (nameB f.1 && !decide (f.1 ∈ (l.take k).map (·.1)) && !ctlL f.2) = true) (hz : f.1.length ≤ 300 ∧ f.2.length ≤ 300)
    (hP : P.data.toList = O.data.toList ++ ([59, 32] ++ f.1 ++ wrL f.2)) : WSt7 m l (k + 1) P := by
  obtain ⟨h1, h2, h3⟩ := h
  refine ⟨by rw [hP, h1, parTs_take l k f hk, List.append_assoc], by rw [okPs_at hk, h2, hf]; rfl, ?_⟩
  have h4 := congrArg List.length hP
  have h5 := wrL_len f.2
  rw [toList_length, List.length_append, toList_length, List.length_append, List.length_append] at h4
  simp only [List.length_cons, List.length_nil] at h4
  omega
theorem wSt7_plain {m : List UInt8} {l : List ParL} {k : Nat} {f : ParL} {O T Y : ByteArray} (h : WSt7 m l k O) (hk : l[k]? = some f) (hf : (nameB f.1 && !decide (f.1 ∈ (l.take k).map (·.1)) && !ctlL f.2) = true) (hz : f.1.length ≤ 300 ∧ f.2.length ≤ 300)
    (hT : T.data.toList = escL f.2) (hY : Y.data.toList = f.1) (hp : plainL f.2 = true) : WSt7 m l (k + 1) (O ++ ⟨#[59, 32]⟩ ++ Y ++ ⟨#[61, 34]⟩ ++ T ++ ⟨#[34]⟩) := by
  refine wSt7_next h hk hf hz ?_
  rw [wr_plain hp]
  simp only [app_data7, hT, hY, List.append_assoc]
theorem wSt7_enc {m : List UInt8} {l : List ParL} {k : Nat} {f : ParL} {O E Y : ByteArray} (h : WSt7 m l k O) (hk : l[k]? = some f) (hf : (nameB f.1 && !decide (f.1 ∈ (l.take k).map (·.1)) && !ctlL f.2) = true) (hz : f.1.length ≤ 300 ∧ f.2.length ≤ 300)
    (hE : E.data.toList = penc f.2) (hY : Y.data.toList = f.1) (hp : plainL f.2 = false) : WSt7 m l (k + 1) (O ++ ⟨#[59, 32]⟩ ++ Y ++ ⟨#[42, 61, 117, 116, 102, 45, 56, 39, 39]⟩ ++ E) := by
  refine wSt7_next h hk hf hz ?_
  rw [wr_enc hp]
  simp only [app_data7, hE, hY, List.append_assoc]
theorem ParsIn.take {w : World} {a : Addr} {cap : Nat} {l : List ParL} (h : ParsIn w (.slice (some a) l.length cap) l) (k : Nat) (hk : k ≤ l.length) : ParsIn w (.slice (some a) k cap) (l.take k) := by
  rcases h with ⟨h, _⟩ | ⟨a', cap', h1, h2, h3, h4⟩
  · cases h
  · injection h1 with h1 _ h5
    injection h1 with h1
    subst h1 h5
    have e : (l.take k).length = k := by rw [List.length_take]; omega
    refine .inr ⟨a, cap, by rw [e], by omega, h3, fun j hj => ?_⟩
    rw [e] at hj
    rw [List.getElem_take]
    exact h4 j (by omega)
end Go.Proofs.YtienjpelmbldpaaGreatDoor
