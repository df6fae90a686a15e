/- WALK of the reference's Write (layer 8). No statement is proved here. -/
import Derived.Test.YtnckbdkofbhilaaGreatDoorRef08G
import Derived.Test.YtnckbdkofbhilaaGreatDoorRef05E
import Derived.Test.YtnckbdkofbhilaaGreatDoorRef08S
import Derived.Test.YtnckbdkofbhilaaGreatDoorAddrL0
import Derived.Deep.Cut
import Derived.Deep.CutRange
import Derived.Deep.RegionHeld3
namespace Go.Proofs.YtnckbdkofbhilaaGreatDoor
open Go.RowKit
set_option linter.unusedVariables false
set_option linter.unusedSimpArgs false
set_option maxRecDepth 100000
/-! ### what is encoded is not the text itself -/
theorem validL_ge (l : List UInt8) : l.length ≤ (validL l).length := by
  refine list_ind (p := fun l => l.length ≤ (validL l).length) ?_ l
  intro l ih
  by_cases hl : l = []
  · subst hl; exact Nat.zero_le _
  · have hv := vStep_pos' l hl
    have hi := ih (l.drop (vStep l).2) (by rw [List.length_drop]; omega)
    rw [validL_cons hl, List.length_append]
    rw [List.length_drop] at hi
    have : (vStep l).2 ≤ (vStep l).1.length := by
      unfold vStep
      split
      · decide
      · rw [List.length_take]; have := wholeN_le l; omega
    omega
theorem joinW_longer (l : List UInt8) : allWhole l = true → l ≠ [] → l.length < (joinW (groups l)).length := by
  refine list_ind (p := fun l => allWhole l = true → l ≠ [] → l.length < (joinW (groups l)).length) ?_ l
  intro l ih h hl
  have hg := group_pos (room := 30) (by omega) h hl
  have hle := group_le 30 l
  have hw := group_whole 30 l h
  have hwl : (l.take (groupN 30 l)).length + 12 ≤ (wordL (l.take (groupN 30 l))).length := by rw [wordL_length, encB_len]; omega
  rw [List.length_take] at hwl
  rw [groups_go (by omega)]
  by_cases hd : l.drop (groupN 30 l) = []
  · have e := List.drop_eq_nil_iff.1 hd
    rw [hd, groups_nil]
    show _ < (wordL _).length
    omega
  · have hi := ih _ (by rw [List.length_drop]; omega) hw.1 hd
    have hg2 := group_pos (room := 30) (by omega) hw.1 hd
    rw [List.length_drop] at hi
    rw [groups_go (l := l.drop (groupN 30 l)) (by omega)] at hi ⊢
    show _ < (wordL _ ++ 32 :: joinW (_ :: _)).length
    rw [List.length_append, List.length_cons]
    omega
theorem enc_ne {a : List UInt8} (h : plainL a = false) : encodeL a ≠ a := by
  have ha : a ≠ [] := by rintro rfl; exact absurd h (by decide)
  have h1 := validL_ge a
  have h2 := joinW_longer (validL a) (allWhole_valid a) (by
    intro e
    rw [e] at h1
    have := List.length_pos_iff.2 ha
    have h3 : a.length ≤ 0 := h1
    omega)
  intro e
  unfold encodeL at e
  rw [h] at e
  have := congrArg List.length e
  simp only [Bool.false_eq_true, if_false] at this
  omega
theorem enc_same {a : List UInt8} (h : plainL a = true) : encodeL a = a := by unfold encodeL; rw [h]; rfl
theorem wBox_none (d : List UInt8) : wBox ([], d) = d := by unfold wBox writeBoxL; rw [if_pos rfl]
theorem wBox_plain {a d : List UInt8} (h : plainL a = true) (ha : a ≠ []) : wBox (a, d) = [34] ++ escL a ++ [34, 32, 60] ++ d ++ [62] := by
  unfold wBox writeBoxL; rw [if_neg ha, enc_same h, if_pos rfl]; simp [quoteL]
theorem wBox_enc {a d : List UInt8} (h : plainL a = false) (ha : a ≠ []) : wBox (a, d) = encodeL a ++ [32, 60] ++ d ++ [62] := by
  unfold wBox writeBoxL; rw [if_neg ha, if_neg (enc_ne h)]
theorem join_snoc (L : List (List UInt8)) (x : List UInt8) : Lib.join (L ++ [x]) [44, 32] = Lib.join L [44, 32] ++ ((if L = [] then [] else [44, 32]) ++ x) := by
  cases L with
  | nil => rw [List.nil_append, Lib.join_one]; rfl
  | cons a r =>
    rw [List.cons_append, Lib.join_cons, Lib.join_cons, if_neg (by simp)]
    unfold Lib.joinTail
    simp
theorem ctlL_snoc (l : List UInt8) (c : UInt8) : ctlL (l ++ [c]) = (ctlL l || ctlB c) := by unfold ctlL; rw [List.any_append]; simp
theorem take_add_one8 {l : List BoxL} {k : Nat} {f : BoxL} (h : l[k]? = some f) : l.take (k + 1) = l.take k ++ [f] := by rw [List.take_add_one, h]; rfl
theorem ctl_any {l : List UInt8} {c : UInt8} (h : c ∈ l) (hc : ctlB c = true) : ctlL l = true := List.any_eq_true.2 ⟨c, h, hc⟩
theorem byte_str (c : UInt8) : strOfNums [(c.toNat : Int)] = ⟨#[c]⟩ := by apply ext_list; rw [nums_list]; simp
theorem app_data (a b : ByteArray) : (a ++ b).data.toList = a.data.toList ++ b.data.toList := by simp
theorem text_none {O Y : ByteArray} {d : List UInt8} (hY : Y.data.toList = d) : (O ++ Y).data.toList = O.data.toList ++ wBox ([], d) := by rw [app_data, hY, wBox_none]
theorem text_plain {O T Y : ByteArray} {a d : List UInt8} (hT : T.data.toList = escL a) (hY : Y.data.toList = d) (h : plainL a = true) (ha : a ≠ []) :
    (O ++ ⟨#[34]⟩ ++ T ++ ⟨#[34, 32, 60]⟩ ++ Y ++ ⟨#[62]⟩).data.toList = O.data.toList ++ wBox (a, d) := by
  rw [wBox_plain h ha]
  simp only [app_data, hT, hY, List.append_assoc]
theorem text_enc {O E Y : ByteArray} {a d : List UInt8} (hE : E.data.toList = encodeL a) (hY : Y.data.toList = d) (h : plainL a = false) (ha : a ≠ []) :
    (O ++ E ++ ⟨#[32, 60]⟩ ++ Y ++ ⟨#[62]⟩).data.toList = O.data.toList ++ wBox (a, d) := by
  rw [wBox_enc h ha]
  simp only [app_data, hE, hY, List.append_assoc]
theorem text_first {O P : ByteArray} {x : List UInt8} {k : Nat} (hk : k = 0) (h : P.data.toList = O.data.toList ++ x) : P.data.toList = O.data.toList ++ ((if k = 0 then [] else [44, 32]) ++ x) := by rw [if_pos hk, h]; rfl
theorem text_more {O P : ByteArray} {x : List UInt8} {k : Nat} (hk : ¬ k = 0) (h : P.data.toList = (O ++ (⟨#[44, 32]⟩ : ByteArray)).data.toList ++ x) : P.data.toList = O.data.toList ++ ((if k = 0 then [] else [44, 32]) ++ x) := by
  rw [if_neg hk, h, app_data, List.append_assoc]
/-- what is written, and what is known, ahead of box k -/
def WSt (l : List BoxL) (k : Nat) (O : ByteArray) : Prop := O.data.toList = Lib.join ((l.take k).map wBox) [44, 32] ∧ (l.take k).all okBox = true ∧ O.size ≤ 200000
theorem WSt.next {l : List BoxL} {k : Nat} {f : BoxL} {O P : ByteArray} (h : WSt l k O) (hk : l[k]? = some f) (hf : okBox f = true) (hfew : fewX l = true)
    (hP : P.data.toList = O.data.toList ++ ((if k = 0 then [] else [44, 32]) ++ wBox f)) : WSt l (k + 1) P := by
  obtain ⟨h1, h2, _⟩ := h
  have hlt := (List.getElem?_eq_some_iff.1 hk).1
  have e : (List.map wBox (l.take k) = []) ↔ k = 0 := by
    rw [List.map_eq_nil_iff, List.take_eq_nil_iff]
    constructor
    · rintro (h | h)
      · exact h
      · rw [h] at hlt; simp at hlt
    · exact .inl
  have h3 : P.data.toList = Lib.join ((l.take (k + 1)).map wBox) [44, 32] := by
    rw [hP, h1, take_add_one8 hk, List.map_append, List.map_cons, List.map_nil, join_snoc]
    simp only [e]
  refine ⟨h3, by rw [take_add_one8 hk, List.all_append, h2]; simp [hf], ?_⟩
  obtain ⟨g1, g2⟩ := few_fitsX hfew
  have h4 := join_len ((l.take (k + 1)).map wBox) 4015 (fun t ht => by
    obtain ⟨b, hb, rfl⟩ := List.mem_map.1 ht
    have := g2 b (List.mem_of_mem_take hb)
    exact wBox_length b 300 this.1 this.2)
  rw [← h3, toList_length, List.length_map, List.length_take] at h4
  have h5 : min (k + 1) l.length * (4015 + 2) ≤ 40 * (4015 + 2) := Nat.mul_le_mul_right _ (by omega)
  omega
def Led (k : Nat) (O O1 : ByteArray) : Prop := (k = 0 ∧ O1 = O) ∨ (¬ k = 0 ∧ O1 = O ++ (⟨#[44, 32]⟩ : ByteArray))
theorem WSt.led {l : List BoxL} {k : Nat} {f : BoxL} {O O1 P : ByteArray} (h : WSt l k O) (hk : l[k]? = some f) (hf : okBox f = true) (hfew : fewX l = true) (h1 : Led k O O1)
    (hP : P.data.toList = O1.data.toList ++ wBox f) : WSt l (k + 1) P := by
  refine h.next hk hf hfew ?_
  rcases h1 with ⟨h1, rfl⟩ | ⟨h1, rfl⟩
  · exact text_first h1 hP
  · exact text_more h1 hP
theorem WSt.none {l : List BoxL} {k : Nat} {f : BoxL} {O O1 Y : ByteArray} (h : WSt l k O) (hk : l[k]? = some f) (hf : okBox f = true) (hfew : fewX l = true) (h1 : Led k O O1)
    (hY : Y.data.toList = f.2) (hx : f.1 = []) : WSt l (k + 1) (O1 ++ Y) := by
  obtain ⟨a, d⟩ := f
  simp only [] at hx hY
  subst hx
  exact h.led hk hf hfew h1 (text_none hY)
theorem WSt.plain {l : List BoxL} {k : Nat} {f : BoxL} {O O1 T Y : ByteArray} (h : WSt l k O) (hk : l[k]? = some f) (hf : okBox f = true) (hfew : fewX l = true) (h1 : Led k O O1)
    (hT : T.data.toList = escL f.1) (hY : Y.data.toList = f.2) (hp : plainL f.1 = true) (hx : f.1 ≠ []) : WSt l (k + 1) (O1 ++ ⟨#[34]⟩ ++ T ++ ⟨#[34, 32, 60]⟩ ++ Y ++ ⟨#[62]⟩) := by
  obtain ⟨a, d⟩ := f
  exact h.led hk hf hfew h1 (text_plain hT hY hp hx)
theorem WSt.enc {l : List BoxL} {k : Nat} {f : BoxL} {O O1 E Y : ByteArray} (h : WSt l k O) (hk : l[k]? = some f) (hf : okBox f = true) (hfew : fewX l = true) (h1 : Led k O O1)
    (hE : E.data.toList = encodeL f.1) (hY : Y.data.toList = f.2) (hp : plainL f.1 = false) (hx : f.1 ≠ []) : WSt l (k + 1) (O1 ++ E ++ ⟨#[32, 60]⟩ ++ Y ++ ⟨#[62]⟩) := by
  obtain ⟨a, d⟩ := f
  exact h.led hk hf hfew h1 (text_enc hE hY hp hx)
end Go.Proofs.YtnckbdkofbhilaaGreatDoor
