/- More of the first texts of this claim in one: each with its own head. No statement is proved here. -/
import Derived.Test.YtiejmkjpgjbodaaGreatDoorProg
import Derived.Test.YtiejmkjpgjbodaaGreatDoorBaseM
import Derived.Laws.AppendOwnNone
import Derived.DataElems
import Derived.Laws.OwnMore
import Derived.Below
import Derived.Test.YtiejmkjpgjbodaaGreatDoorShelf
import Derived.Lib.Builder
import Derived.Laws.Externs
import Derived.Lib.UnsafeStr
import Derived.BigRegion
import Derived.Deep.RegionWith
namespace Go.Proofs.YtiejmkjpgjbodaaGreatDoor
set_option linter.unusedVariables false
set_option linter.unusedSimpArgs false
set_option maxRecDepth 100000
abbrev AtL := List UInt8 × List UInt8
structure NdH where
  name : List UInt8
  attrs : List AtL
  text : List UInt8
deriving DecidableEq
inductive Tr where
  | nil : Tr
  | cons : NdH → Tr → Tr → Tr
deriving DecidableEq
def Tr.len : Tr → Nat
  | .nil => 0
  | .cons _ _ r => r.len + 1
def Tr.count : Tr → Nat
  | .nil => 0
  | .cons _ k r => 1 + k.count + r.count
def Tr.depth : Tr → Nat
  | .nil => 0
  | .cons _ k r => max (1 + k.depth) r.depth
def Tr.app : Tr → Tr → Tr
  | .nil, t => t
  | .cons h k r, t => .cons h k (r.app t)
def Tr.list : Tr → List (NdH × Tr)
  | .nil => []
  | .cons h k r => (h, k) :: r.list
def Tr.of : List (NdH × Tr) → Tr
  | [] => .nil
  | (h, k) :: r => .cons h k (Tr.of r)
def Tr.drop : Nat → Tr → Tr
  | 0, t => t
  | _ + 1, .nil => .nil
  | n + 1, .cons _ _ r => Tr.drop n r
theorem Tr.of_list (t : Tr) : Tr.of t.list = t := by induction t with
  | nil => rfl
  | cons h k r _ ih => simp [Tr.list, Tr.of, ih]
theorem Tr.list_of (l : List (NdH × Tr)) : (Tr.of l).list = l := by induction l with
  | nil => rfl
  | cons p r ih => simp [Tr.list, Tr.of, ih]
theorem Tr.len_list (t : Tr) : t.list.length = t.len := by induction t with
  | nil => rfl
  | cons h k r _ ih => simp [Tr.list, Tr.len, ih]
theorem Tr.len_of (l : List (NdH × Tr)) : (Tr.of l).len = l.length := by rw [← Tr.len_list, Tr.list_of]
theorem Tr.len_count (t : Tr) : t.len ≤ t.count := by induction t with
  | nil => exact Nat.le_refl _
  | cons h k r _ ih => simp only [Tr.len, Tr.count]; omega
theorem Tr.list_inj {a b : Tr} (h : a.list = b.list) : a = b := by rw [← Tr.of_list a, h, Tr.of_list]
theorem Tr.list_app (a b : Tr) : (a.app b).list = a.list ++ b.list := by induction a with
  | nil => rfl
  | cons h k r _ ih => simp [Tr.app, Tr.list, ih]
theorem Tr.drop_cons (n : Nat) (t : Tr) (h : n < t.len) : ∃ p k, Tr.drop n t = .cons p k (Tr.drop (n + 1) t) ∧ t.list[n]? = some (p, k) := by
  induction n generalizing t with
  | zero => cases t with
    | nil => exact absurd h (Nat.not_lt_zero _)
    | cons p k r => exact ⟨p, k, rfl, rfl⟩
  | succ n ih => cases t with
    | nil => exact absurd h (Nat.not_lt_zero _)
    | cons p k r =>
      obtain ⟨p', k', h1, h2⟩ := ih r (by simp only [Tr.len] at h; omega)
      exact ⟨p', k', h1, by simpa [Tr.list] using h2⟩
theorem Tr.at_count {t : Tr} {n : Nat} {p : NdH} {k : Tr} (h : t.list[n]? = some (p, k)) : k.count < t.count := by
  induction n generalizing t with
  | zero => cases t with
    | nil => cases h
    | cons h' k' r => simp [Tr.list] at h; obtain ⟨rfl, rfl⟩ := h; simp only [Tr.count]; omega
  | succ n ih => cases t with
    | nil => cases h
    | cons h' k' r => have := ih (t := r) (by simpa [Tr.list] using h); simp only [Tr.count]; omega
def Tr.all (f : NdH → Bool) : Tr → Bool
  | .nil => true
  | .cons h k r => f h && (k.all f && r.all f)
theorem Tr.all_at {f : NdH → Bool} {t : Tr} {n : Nat} {p : NdH} {k : Tr} (ha : t.all f = true) (h : t.list[n]? = some (p, k)) : f p = true ∧ k.all f = true := by
  induction n generalizing t with
  | zero => cases t with
    | nil => cases h
    | cons h' k' r =>
      simp only [Tr.all, Bool.and_eq_true] at ha
      simp [Tr.list] at h; obtain ⟨rfl, rfl⟩ := h; exact ⟨ha.1, ha.2.1⟩
  | succ n ih => cases t with
    | nil => cases h
    | cons h' k' r =>
      simp only [Tr.all, Bool.and_eq_true] at ha
      exact ih (t := r) ha.2.2 (by simpa [Tr.list] using h)
end Go.Proofs.YtiejmkjpgjbodaaGreatDoor

namespace Go.Proofs.YtiejmkjpgjbodaaGreatDoor
set_option linter.unusedVariables false
set_option linter.unusedSimpArgs false
def beforeC (c : UInt8) (l : List UInt8) : List UInt8 := l.takeWhile fun x => x != c
def hasC (c : UInt8) (l : List UInt8) : Bool := decide (c ∈ l)
theorem hasC_true {c : UInt8} {l : List UInt8} (h : c ∈ l) : hasC c l = true := decide_eq_true h
theorem hasC_false {c : UInt8} {l : List UInt8} (h : c ∉ l) : hasC c l = false := decide_eq_false h
def afterC (c : UInt8) (l : List UInt8) : List UInt8 := (l.dropWhile fun x => x != c).drop 1
theorem cut_at (c : UInt8) (l : List UInt8) (o : Nat) (ho : o < l.length) (h : l[o] = c) (hb : ∀ j (hj : j < o), l[j]'(Nat.lt_trans hj ho) ≠ c) : c ∈ l ∧ beforeC c l = l.take o ∧ afterC c l = l.drop (o + 1) := by
  refine ⟨h ▸ List.getElem_mem ho, ?_⟩
  induction o generalizing l with
  | zero =>
    match l, ho, h with
    | a :: l, _, h =>
      have : (a != c) = false := by rw [bne_eq_false_iff_eq]; exact h
      unfold beforeC afterC
      rw [List.takeWhile_cons, List.dropWhile_cons, this]
      simp
  | succ o ih =>
    match l, ho, h, hb with
    | a :: l, ho, h, hb =>
      have h1 : (a != c) = true := by rw [bne_iff_ne]; exact hb 0 (by omega)
      have := ih l (by simpa using ho) (by simpa using h) (fun j hj => by simpa using hb (j + 1) (by omega))
      unfold beforeC afterC at this ⊢
      rw [List.takeWhile_cons, List.dropWhile_cons, h1]
      simp [this]
theorem cut_case (c : UInt8) (l : List UInt8) : (c ∉ l ∧ beforeC c l = l ∧ afterC c l = []) ∨ ∃ a r, l = a ++ c :: r ∧ c ∉ a ∧ beforeC c l = a ∧ afterC c l = r := by
  induction l with
  | nil => exact .inl ⟨by simp, rfl, rfl⟩
  | cons x l ih =>
    by_cases hx : x = c
    · subst hx
      exact .inr ⟨[], l, rfl, by simp, by simp [beforeC], by simp [afterC]⟩
    · have hne : (x != c) = true := by rw [bne_iff_ne]; exact hx
      have e1 : beforeC c (x :: l) = x :: beforeC c l := by unfold beforeC; rw [List.takeWhile_cons, hne]; rfl
      have e2 : afterC c (x :: l) = afterC c l := by unfold afterC; rw [List.dropWhile_cons, hne]; rfl
      rcases ih with ⟨h1, h2, h3⟩ | ⟨a, r, h1, h2, h3, h4⟩
      · exact .inl ⟨by simp [h1]; exact fun e => hx e.symm, by rw [e1, h2], by rw [e2, h3]⟩
      · exact .inr ⟨x :: a, r, by rw [h1]; rfl, by simp [h2]; exact fun e => hx e.symm, by rw [e1, h3], by rw [e2, h4]⟩
end Go.Proofs.YtiejmkjpgjbodaaGreatDoor

namespace Go.Proofs.YtiejmkjpgjbodaaGreatDoor
set_option linter.unusedVariables false
set_option linter.unusedSimpArgs false
set_option maxRecDepth 100000
end Go.Proofs.YtiejmkjpgjbodaaGreatDoor

namespace Go.Proofs.YtiejmkjpgjbodaaGreatDoor
set_option linter.unusedVariables false
set_option linter.unusedSimpArgs false
def rawL : List (List UInt8) := [
  [115, 99, 114, 105, 112, 116],
  [115, 116, 121, 108, 101],
  [116, 105, 116, 108, 101],
  [116, 101, 120, 116, 97, 114, 101, 97],
  [120, 109, 112],
  [105, 102, 114, 97, 109, 101],
  [110, 111, 101, 109, 98, 101, 100],
  [110, 111, 102, 114, 97, 109, 101, 115],
  [112, 108, 97, 105, 110, 116, 101, 120, 116],
  [110, 111, 115, 99, 114, 105, 112, 116]]
theorem rawL_cases (n : List UInt8) (h : rawL.contains n = true) : n = [115, 99, 114, 105, 112, 116] ∨ n = [115, 116, 121, 108, 101] ∨ n = [116, 105, 116, 108, 101] ∨ n = [116, 101, 120, 116, 97, 114, 101, 97] ∨ n = [120, 109, 112] ∨ n = [105, 102, 114, 97, 109, 101] ∨ n = [110, 111, 101, 109, 98, 101, 100] ∨ n = [110, 111, 102, 114, 97, 109, 101, 115] ∨ n = [112, 108, 97, 105, 110, 116, 101, 120, 116] ∨ n = [110, 111, 115, 99, 114, 105, 112, 116] := by
  simpa [rawL] using h
theorem rawL_none (n : List UInt8) (h : rawL.contains n = false) : n ≠ [115, 99, 114, 105, 112, 116] ∧ n ≠ [115, 116, 121, 108, 101] ∧ n ≠ [116, 105, 116, 108, 101] ∧ n ≠ [116, 101, 120, 116, 97, 114, 101, 97] ∧ n ≠ [120, 109, 112] ∧ n ≠ [105, 102, 114, 97, 109, 101] ∧ n ≠ [110, 111, 101, 109, 98, 101, 100] ∧ n ≠ [110, 111, 102, 114, 97, 109, 101, 115] ∧ n ≠ [112, 108, 97, 105, 110, 116, 101, 120, 116] ∧ n ≠ [110, 111, 115, 99, 114, 105, 112, 116] := by
  simpa [rawL] using h
end Go.Proofs.YtiejmkjpgjbodaaGreatDoor

namespace Go.Proofs.YtiejmkjpgjbodaaGreatDoor
set_option linter.unusedVariables false
set_option linter.unusedSimpArgs false
structure TokL where
  kind : Nat
  name : List UInt8
  attrs : List AtL
  text : List UInt8
def whB (c : UInt8) : Bool := c == 32 || (c == 9 || (c == 10 || (c == 12 || c == 13)))
def whs (c : UInt8) : Bool := whB c || c == 47
def nameEndB (c : UInt8) : Bool := whB c || (c == 47 || c == 62)
def attrEndB (c : UInt8) : Bool := nameEndB c || c == 61
def valueEndB (c : UInt8) : Bool := whB c || c == 62
def upL (p : UInt8 → Bool) (l : List UInt8) : List UInt8 × List UInt8 := (l.takeWhile fun c => !p c, l.dropWhile fun c => !p c)
theorem upL_len (p : UInt8 → Bool) (l : List UInt8) : (upL p l).1.length + (upL p l).2.length = l.length := by
  unfold upL
  rw [← List.length_append, List.takeWhile_append_dropWhile]
theorem drop_len (p : UInt8 → Bool) (l : List UInt8) : (l.dropWhile p).length ≤ l.length := (List.dropWhile_sublist p).length_le
theorem afterC_le13 (c : UInt8) (l : List UInt8) : (afterC c l).length ≤ l.length := by
  unfold afterC; have := drop_len (fun x => x != c) l
  rw [List.length_drop]; omega
def valueL (l : List UInt8) : List UInt8 × List UInt8 := match l with
  | [] => ([], [])
  | c :: r => if c = 34 then (beforeC 34 r, afterC 34 r) else if c = 39 then (beforeC 39 r, afterC 39 r) else upL valueEndB (c :: r)
theorem valueL_len (l : List UInt8) : (valueL l).2.length ≤ l.length := by
  unfold valueL
  cases l with
  | nil => exact Nat.le_refl _
  | cons c r =>
    simp only
    split
    · have := afterC_le13 34 r
      simp only [List.length_cons]; omega
    · split
      · have := afterC_le13 39 r
        simp only [List.length_cons]; omega
      · have := upL_len valueEndB (c :: r)
        omega
def attrL (dec : List UInt8 → List UInt8) (l : List UInt8) : AtL × List UInt8 := match l with
  | [] => (([], []), [])
  | c :: r =>
    match (upL attrEndB r).2.dropWhile whB with
    | 61 :: b => ((lowL (c :: (upL attrEndB r).1), dec (valueL (b.dropWhile whB)).1), (valueL (b.dropWhile whB)).2)
    | _ => ((lowL (c :: (upL attrEndB r).1), []), (upL attrEndB r).2)
theorem attrL_len (dec : List UInt8 → List UInt8) (c : UInt8) (r : List UInt8) : (attrL dec (c :: r)).2.length ≤ r.length := by
  have h1 := upL_len attrEndB r
  have h2 := drop_len whB (upL attrEndB r).2
  unfold attrL
  simp only
  split
  · rename_i b hb
    rw [hb] at h2
    have h3 := drop_len whB b
    have h4 := valueL_len (b.dropWhile whB)
    simp only [List.length_cons] at h2
    show (valueL (b.dropWhile whB)).2.length ≤ _
    omega
  · show (upL attrEndB r).2.length ≤ _
    omega
theorem attrL_val {dec : List UInt8 → List UInt8} {c : UInt8} {r b : List UInt8} (h : (upL attrEndB r).2.dropWhile whB = 61 :: b) :
    attrL dec (c :: r) = ((lowL (c :: (upL attrEndB r).1), dec (valueL (b.dropWhile whB)).1), (valueL (b.dropWhile whB)).2) := by
  unfold attrL
  simp only [h]
theorem attrL_none {dec : List UInt8 → List UInt8} {c : UInt8} {r : List UInt8} (h : ∀ b, (upL attrEndB r).2.dropWhile whB ≠ 61 :: b) :
    attrL dec (c :: r) = ((lowL (c :: (upL attrEndB r).1), []), (upL attrEndB r).2) := by
  unfold attrL
  simp only
def countsB (A : List AtL) (n : List UInt8) : Bool := decide (A.length < 30) && !(A.any fun a => a.1 == n)
def attrsLL (dec : List UInt8 → List UInt8) (A : List AtL) (l : List UInt8) : Option (List AtL × List UInt8) :=
  match h : l.dropWhile whs with
  | [] => none
  | c :: r =>
    if c = 62 then some (A, r)
    else attrsLL dec (if countsB A (attrL dec (c :: r)).1.1 = true then A ++ [(attrL dec (c :: r)).1] else A) (attrL dec (c :: r)).2
termination_by l.length
decreasing_by
  have h1 := drop_len whs l
  rw [h] at h1
  have h2 := attrL_len dec c r
  simp only [List.length_cons] at h1
  omega
theorem attrsLL_nil {dec : List UInt8 → List UInt8} {A : List AtL} {l : List UInt8} (h : l.dropWhile whs = []) : attrsLL dec A l = none := by
  rw [attrsLL]
  split
  · rfl
  · rename_i c r h2; rw [h] at h2; cases h2
theorem attrsLL_end {dec : List UInt8 → List UInt8} {A : List AtL} {l r : List UInt8} (h : l.dropWhile whs = 62 :: r) : attrsLL dec A l = some (A, r) := by
  rw [attrsLL]
  split
  · rename_i h2; rw [h] at h2; cases h2
  · rename_i c r2 h2
    rw [h] at h2
    injection h2 with h3 h4
    subst h3 h4
    rw [if_pos rfl]
theorem attrsLL_go {dec : List UInt8 → List UInt8} {A : List AtL} {l r : List UInt8} {c : UInt8} (h : l.dropWhile whs = c :: r) (hc : c ≠ 62) :
    attrsLL dec A l = attrsLL dec (if countsB A (attrL dec (c :: r)).1.1 = true then A ++ [(attrL dec (c :: r)).1] else A) (attrL dec (c :: r)).2 := by
  rw [attrsLL]
  split
  · rename_i h2; rw [h] at h2; cases h2
  · rename_i c2 r2 h2
    rw [h] at h2
    injection h2 with h3 h4
    subst h3 h4
    rw [if_neg hc]
theorem attrsLL_ind (dec : List UInt8 → List UInt8) {P : List AtL → List UInt8 → Prop}
    (hstep : ∀ A l c r, l.dropWhile whs = c :: r → c ≠ 62 → P A l → P (if countsB A (attrL dec (c :: r)).1.1 = true then A ++ [(attrL dec (c :: r)).1] else A) (attrL dec (c :: r)).2) :
    ∀ (k : Nat) (A : List AtL) (l : List UInt8), l.length ≤ k → P A l → ∀ B b, attrsLL dec A l = some (B, b) → ∃ l', P B l' ∧ l'.dropWhile whs = 62 :: b := by
  intro k
  induction k with
  | zero =>
    intro A l hl hP B b hb
    obtain rfl : l = [] := List.eq_nil_of_length_eq_zero (by omega)
    rw [attrsLL_nil rfl] at hb; cases hb
  | succ k ih =>
    intro A l hl hP B b hb
    cases hd : l.dropWhile whs with
    | nil => rw [attrsLL_nil hd] at hb; cases hb
    | cons c r =>
      have h1 := drop_len whs l
      rw [hd] at h1
      simp only [List.length_cons] at h1
      by_cases hc : c = 62
      · subst hc
        rw [attrsLL_end hd] at hb
        injection hb with hb
        injection hb with hb1 hb2
        subst hb1 hb2
        exact ⟨l, hP, hd⟩
      · rw [attrsLL_go hd hc] at hb
        have h2 := attrL_len dec c r
        exact ih _ _ (by omega) (hstep A l c r hd hc hP) B b hb
theorem attrsLL_len {dec : List UInt8 → List UInt8} {A : List AtL} {l : List UInt8} {B : List AtL} {b : List UInt8} (h : attrsLL dec A l = some (B, b)) : b.length < l.length := by
  obtain ⟨l', h1, h2⟩ := attrsLL_ind dec (P := fun _ x => x.length ≤ l.length) (fun A x c r hx hc hP => by
    have h1 := drop_len whs x
    rw [hx] at h1
    simp only [List.length_cons] at h1
    have h2 := attrL_len dec c r
    omega) l.length A l (Nat.le_refl _) (Nat.le_refl _) B b h
  have h3 := drop_len whs l'
  rw [h2] at h3
  simp only [List.length_cons] at h3
  omega
def tagL (dec : List UInt8 → List UInt8) (l : List UInt8) : Option (List UInt8 × List AtL × List UInt8) :=
  match attrsLL dec [] (upL nameEndB l).2 with
  | none => none
  | some (A, b) => some (lowL (upL nameEndB l).1, A, b)
theorem tagL_len {dec : List UInt8 → List UInt8} {l n b : List UInt8} {A : List AtL} (h : tagL dec l = some (n, A, b)) : b.length < l.length := by
  unfold tagL at h
  have h1 := upL_len nameEndB l
  cases ha : attrsLL dec [] (upL nameEndB l).2 with
  | none => rw [ha] at h; cases h
  | some p =>
    obtain ⟨B, x⟩ := p
    rw [ha] at h
    have h2 := attrsLL_len ha
    injection h with h
    injection h with _ h
    injection h with _ h
    rw [← h]; omega
def rawEndB (n l : List UInt8) : Bool := match l with
  | 60 :: 47 :: r => decide (n.length < r.length) && (lowL (r.take n.length) == n && nameEndB (r.getD n.length 0))
  | _ => false
def rawN (n : List UInt8) : List UInt8 → Nat
  | [] => 0
  | c :: r => if rawEndB n (c :: r) = true then 0 else rawN n r + 1
def plainText : List UInt8 := [112, 108, 97, 105, 110, 116, 101, 120, 116]
def rawSizeL (n l : List UInt8) : Nat := if n = plainText then l.length else rawN n l
theorem rawN_le (n : List UInt8) : ∀ l, rawN n l ≤ l.length
  | [] => Nat.le_refl _
  | c :: r => by
    unfold rawN
    split
    · exact Nat.zero_le _
    · have := rawN_le n r
      simp only [List.length_cons]; omega
theorem rawSizeL_le (n l : List UInt8) : rawSizeL n l ≤ l.length := by
  unfold rawSizeL
  split
  · exact Nat.le_refl _
  · exact rawN_le n l
def isMarkB (l : List UInt8) : Bool := match l with
  | 60 :: c :: r => if c = 33 ∨ c = 63 then true else if c = 47 then !r.isEmpty else letterB c
  | _ => false
def markN : List UInt8 → Nat
  | [] => 0
  | c :: r => if isMarkB (c :: r) = true then 0 else markN r + 1
theorem markN_le : ∀ l, markN l ≤ l.length
  | [] => Nat.le_refl _
  | c :: r => by
    unfold markN
    split
    · exact Nat.zero_le _
    · have := markN_le r
      simp only [List.length_cons]; omega
theorem markN_zero {c : UInt8} {r : List UInt8} (h : markN (c :: r) = 0) : isMarkB (c :: r) = true := by
  unfold markN at h
  split at h
  · assumption
  · omega
def charsT (x : List UInt8) : TokL := ⟨1, [], [], x⟩
def startT (n : List UInt8) (A : List AtL) : TokL := ⟨2, n, A, []⟩
def endT (n : List UInt8) : TokL := ⟨3, n, [], []⟩
def remT (x : List UInt8) : TokL := ⟨4, [], [], x⟩
def cutAt (t : List UInt8) : List UInt8 → List UInt8 × List UInt8
  | [] => ([], [])
  | c :: r => if t.isPrefixOf (c :: r) = true then ([], (c :: r).drop t.length) else (c :: (cutAt t r).1, (cutAt t r).2)
theorem cutAt_len (t : List UInt8) : ∀ l, (cutAt t l).2.length ≤ l.length
  | [] => Nat.le_refl _
  | c :: r => by
    unfold cutAt
    split
    · show ((c :: r).drop t.length).length ≤ _
      rw [List.length_drop]; omega
    · have := cutAt_len t r
      simp only [List.length_cons]; omega
def remEnd : List UInt8 := [45, 45, 62]
abbrev MarkR := Option TokL × List UInt8 × List UInt8
def startL (dec : List UInt8 → List UInt8) (l : List UInt8) : MarkR := match tagL dec l with
  | none => (none, [], [])
  | some (n, A, b) => if rawL.contains n = true then (some (startT n A), b.take (rawSizeL n b), b.drop (rawSizeL n b)) else (some (startT n A), [], b)
def endL (dec : List UInt8 → List UInt8) (l : List UInt8) : MarkR := match tagL dec l with
  | none => (none, [], [])
  | some (n, A, b) => (some (endT n), [], b)
def remL (l : List UInt8) : MarkR := (some (remT (beforeC 62 l)), [], afterC 62 l)
def longL (l : List UInt8) : MarkR := match l with
  | 62 :: b => (some (remT []), [], b)
  | 45 :: 62 :: b => (some (remT []), [], b)
  | _ => (some (remT (cutAt remEnd l).1), [], (cutAt remEnd l).2)
def markL (dec : List UInt8 → List UInt8) (l : List UInt8) : MarkR := match l with
  | 47 :: r => match r with
    | [] => (none, [], [])
    | c :: q => if letterB c = true then endL dec (c :: q) else if c = 62 then (none, [], q) else remL (c :: q)
  | 33 :: r => match r with
    | 45 :: 45 :: b => longL b
    | _ => remL r
  | 63 :: r => remL (63 :: r)
  | _ => startL dec l
theorem markL_end {dec : List UInt8 → List UInt8} {c : UInt8} (h : letterB c = true) (r : List UInt8) : markL dec (47 :: c :: r) = endL dec (c :: r) := if_pos h
theorem remL_len (l : List UInt8) : (remL l).2.2.length ≤ l.length := afterC_le13 62 l
theorem longL_len (l : List UInt8) : (longL l).2.2.length ≤ l.length := by
  unfold longL
  split
  · simp only [List.length_cons]; omega
  · simp only [List.length_cons]; omega
  · exact cutAt_len remEnd l
theorem startL_len (dec : List UInt8 → List UInt8) (l : List UInt8) : (startL dec l).2.2.length ≤ l.length := by
  unfold startL
  cases h : tagL dec l with
  | none => exact Nat.zero_le _
  | some p =>
    obtain ⟨n, A, b⟩ := p
    have := tagL_len h
    simp only
    split
    · show (b.drop _).length ≤ _
      rw [List.length_drop]; omega
    · show b.length ≤ _
      omega
theorem endL_len (dec : List UInt8 → List UInt8) (l : List UInt8) : (endL dec l).2.2.length ≤ l.length := by
  unfold endL
  cases h : tagL dec l with
  | none => exact Nat.zero_le _
  | some p =>
    obtain ⟨n, A, b⟩ := p
    have := tagL_len h
    show b.length ≤ _
    omega
theorem markL_len (dec : List UInt8 → List UInt8) (l : List UInt8) : (markL dec l).2.2.length ≤ l.length := by
  unfold markL
  split
  · rename_i r
    split
    · exact Nat.zero_le _
    · rename_i c q
      split
      · have := endL_len dec (c :: q)
        simp only [List.length_cons] at this ⊢; omega
      · split
        · simp only [List.length_cons]; omega
        · have := remL_len (c :: q)
          simp only [List.length_cons] at this ⊢; omega
  · rename_i r
    split
    · rename_i b
      have := longL_len b
      simp only [List.length_cons]; omega
    · have := remL_len r
      simp only [List.length_cons]; omega
  · rename_i r
    exact remL_len (63 :: r)
  · exact startL_len dec l
def flushT (L : List TokL) (x : List UInt8) : List TokL := if x = [] then L else L ++ [charsT x]
def addT (L : List TokL) (x : List UInt8) (m : MarkR) : List TokL × List UInt8 := match m.1 with
  | none => (L, x ++ m.2.1)
  | some t => (flushT L x ++ [t], m.2.1)
def scanL (dec : List UInt8 → List UInt8) (L : List TokL) (x : List UInt8) (l : List UInt8) : List TokL :=
  match h : l with
  | [] => flushT L x
  | c :: r =>
    if h2 : 0 < markN (c :: r) then scanL dec L (x ++ dec ((c :: r).take (markN (c :: r)))) ((c :: r).drop (markN (c :: r)))
    else scanL dec (addT L x (markL dec r)).1 (addT L x (markL dec r)).2 (markL dec r).2.2
termination_by l.length
decreasing_by
  · rw [List.length_drop]
    have := markN_le (c :: r)
    simp only [List.length_cons] at this ⊢
    omega
  · have := markL_len dec r
    simp only [List.length_cons]
    omega
theorem scanL_nil (dec : List UInt8 → List UInt8) (L : List TokL) (x : List UInt8) : scanL dec L x [] = flushT L x := by rw [scanL]
theorem scanL_text (dec : List UInt8 → List UInt8) (L : List TokL) (x : List UInt8) {c : UInt8} {r : List UInt8} (h : 0 < markN (c :: r)) :
    scanL dec L x (c :: r) = scanL dec L (x ++ dec ((c :: r).take (markN (c :: r)))) ((c :: r).drop (markN (c :: r))) := by
  rw [scanL, dif_pos h]
theorem scanL_mark (dec : List UInt8 → List UInt8) (L : List TokL) (x : List UInt8) {c : UInt8} {r : List UInt8} (h : isMarkB (c :: r) = true) :
    scanL dec L x (c :: r) = scanL dec (addT L x (markL dec r)).1 (addT L x (markL dec r)).2 (markL dec r).2.2 := by
  have h0 : markN (c :: r) = 0 := by unfold markN; rw [if_pos h]
  rw [scanL, dif_neg (by rw [h0]; exact Nat.lt_irrefl 0)]
end Go.Proofs.YtiejmkjpgjbodaaGreatDoor

namespace Go.Proofs.YtiejmkjpgjbodaaGreatDoor
open Go.RowKit
set_option linter.unusedVariables false
set_option linter.unusedSimpArgs false
def atVals (l : List AtL) : List Value := l.flatMap fun f => [Value.string (str f.1), Value.string (str f.2)]
theorem atVals_at {l : List AtL} {j : Nat} {f : AtL} (h : l[j]? = some f) : (atVals l)[j * 2]? = some (.string (str f.1)) ∧ (atVals l)[j * 2 + 1]? = some (.string (str f.2)) := by
  induction l generalizing j with
  | nil => simp at h
  | cons g r ih =>
    cases j with
    | zero => simp at h; subst h; exact ⟨rfl, rfl⟩
    | succ j =>
      have := ih (j := j) (by simpa using h)
      have e : atVals (g :: r) = Value.string (str g.1) :: Value.string (str g.2) :: atVals r := rfl
      rw [e, show (j + 1) * 2 = j * 2 + 1 + 1 by omega]
      simpa using this
theorem atVals_append (a b : List AtL) : atVals (a ++ b) = atVals a ++ atVals b := by unfold atVals; rw [List.flatMap_append]
def ABuf (B : Nat) (v : Value) (l : List AtL) (W0 w : World) : Prop :=
  w.ownsRow B 43 2 v l.length (atVals l) ∧ Below B W0 w ∧ B ≤ w.heap.size
theorem info_at : (Tryz.prog.info? 43).map (fun i => (i.zero, i.size, i.bytes)) = some (some (.agg #[.string ByteArray.empty, .string ByteArray.empty]), 2, 32) := by kernel_rfl
theorem ABuf.nil {B : Nat} {W0 w : World} (hb : Below B W0 w) (hB : B ≤ w.heap.size) : ABuf B (.slice none 0 0) [] W0 w := ⟨World.ownsRow_nil w B _ 2, hb, hB⟩
theorem ABuf.below {B : Nat} {v : Value} {l : List AtL} {W0 w : World} (h : ABuf B v l W0 w) : Below B W0 w := h.2.1
theorem ABuf.grown {B : Nat} {v v' : Value} {l l' : List AtL} {W0 w w' : World} (h : ABuf B v l W0 w) (ho : w'.ownsRow B 43 2 v' l'.length (atVals l')) (hg : w.grownBy w' v.ownBlock) : ABuf B v' l' W0 w' :=
  ⟨ho, h.2.1.grown hg h.2.2 (fun k hk => (h.1.lt k hk).1), Nat.le_trans h.2.2 hg.size⟩
theorem ABuf.alloc {B : Nat} {v : Value} {l : List AtL} {W0 w : World} (h : ABuf B v l W0 w) (o : Obj) : ABuf B v l W0 (w.alloc o) :=
  ⟨h.1.alloc o, h.2.1.alloc h.2.2 o, Nat.le_trans h.2.2 ((Below.refl 0 w).alloc (Nat.zero_le _) o).size⟩
theorem ABuf.drew {B : Nat} {v : Value} {l : List AtL} {W0 w : World} (h : ABuf B v l W0 w) : ABuf B v l W0 w.drew := ⟨h.1, h.2.1.drew, h.2.2⟩
theorem ABuf.kept {B : Nat} {v : Value} {l : List AtL} {W0 w w' : World} (h : ABuf B v l W0 w) (hb : Below w.heap.size w w') : ABuf B v l W0 w' :=
  ⟨h.1.kept (row := none) ⟨hb.os, hb.tape, hb.output, hb.size, fun k hk _ => hb.block k hk⟩ (by cases hv : v.ownBlock <;> simp), h.2.1.trans (hb.mono h.2.2), Nat.le_trans h.2.2 hb.size⟩
theorem ABuf.slice_len {B : Nat} {v : Value} {l : List AtL} {W0 w : World} (h : ABuf B v l W0 w) : ∃ A c, v = .slice A l.length c := by
  rcases h.1.2 with ⟨rfl, h0⟩ | ⟨g, cap, cur, rfl, _⟩
  · rw [h0]; exact ⟨_, _, rfl⟩
  · exact ⟨_, _, rfl⟩
theorem ABuf.form {B : Nat} {v : Value} {l : List AtL} {W0 w : World} (h : ABuf B v l W0 w) (hl : l ≠ []) : ∃ g cap, v = .slice (some ⟨g, 0, none⟩) l.length cap ∧ B ≤ g := by
  rcases h.1.2 with ⟨rfl, h0⟩ | ⟨g, cap, cur, rfl, hg, _⟩
  · exact absurd (List.eq_nil_of_length_eq_zero h0) hl
  · exact ⟨g, cap, rfl, hg⟩
theorem wpList_ats {ops : Array Oper} {rest : List Oper} {o : Oper} {a : Act} {Q : Exit → Act → World → Prop} {w : World} (hgd : o.guard = none) (s x : Operand)
    (ho : o.op = .call { callee := .builtin .append, args := #[s, x], argTypes := #[31, 31] })
    (B : Nat) (v : Value) (l : List AtL) (hs : a.eval s = v) (W0 : World) (f : AtL) (hb : ABuf B v l W0 w) (ad : Addr)
    (hx : a.eval x = .slice (some ad) 1 1) (h0 : w.cell? (ad.add 0) = some (.string (str f.1))) (h1 : w.cell? (ad.add 1) = some (.string (str f.2))) (hlen : l.length + 1 ≤ 4398046511104)
    (h : ∀ v' w', ABuf B v' (l ++ [f]) W0 w' → wpList Tryz.prog ops Q rest (a.put o.dst v') w') : wpList Tryz.prog ops Q (o :: rest) a w := by
  obtain ⟨i0, hi, hz0, hz1, hz2⟩ := info_parts info_at
  refine wpList_append_own _ hgd s x 31 ho B 43 i0 (.agg #[.string ByteArray.empty, .string ByteArray.empty]) 2 32 Tryz.underlying31 hi hz0 hz1 hz2 rfl (by decide) v l.length (atVals l) hs hb.1 ad 1 1 [.string (str f.1), .string (str f.2)] hx rfl ?_ ?_ (by unfold maxLen; omega) (by omega) hb.2.2 ?_
  · intro j u hj
    match j, hj with
    | 0, hj => simp at hj; subst hj; exact h0
    | 1, hj => simp at hj; subst hj; exact h1
    | (j + 2), hj => simp at hj
  · intro u hu
    simp at hu
    rcases hu with rfl | rfl
    · rfl
    · rfl
  · intro v' w' ho' hg _
    exact h v' w' (hb.grown (l' := l ++ [f]) (by rw [atVals_append, List.length_append]; exact ho') hg)
end Go.Proofs.YtiejmkjpgjbodaaGreatDoor

namespace Go.Proofs.YtiejmkjpgjbodaaGreatDoor
open Go.RowKit
set_option linter.unusedVariables false
set_option linter.unusedSimpArgs false
set_option maxRecDepth 100000
theorem ownsRow_other {w : World} {B : Nat} {e : TypeId} {sz n : Nat} {v : Value} {xs : List Value} (h : w.ownsRow B e sz v n xs) {r : Nat} (hr : ∀ cur, w.heap[r]? ≠ some (.cells cur e (0, 0))) : v.ownBlock ≠ some r := by
  rcases h.2 with ⟨rfl, _⟩ | ⟨g, cap, cur, rfl, hg, hh, _⟩
  · simp [Value.ownBlock]
  · intro e2
    simp [Value.ownBlock] at e2
    subst e2
    exact hr cur hh
theorem ownsRow_diff {w : World} {B B' : Nat} {e e' : TypeId} (he : e ≠ e') {sz sz' n n' : Nat} {v v' : Value} {xs xs' : List Value} (h : w.ownsRow B e sz v n xs) (h' : w.ownsRow B' e' sz' v' n' xs') : v.ownBlock = none ∨ v.ownBlock ≠ v'.ownBlock := by
  rcases h'.2 with ⟨rfl, _⟩ | ⟨g, cap, cur, rfl, hg, hh, _⟩
  · cases hv : v.ownBlock
    · exact .inl rfl
    · exact .inr (by simp [Value.ownBlock])
  · refine .inr ?_
    have := ownsRow_other h (r := g) (fun cur' e2 => by
      rw [hh] at e2
      injection e2 with e2
      injection e2 with _ e2
      exact he e2.symm)
    simpa [Value.ownBlock] using this
theorem ownsRow_down {w : World} {B B' : Nat} {e : TypeId} {sz n : Nat} {v : Value} {xs : List Value} (h : w.ownsRow B e sz v n xs) (hB : B' ≤ B) : w.ownsRow B' e sz v n xs := by
  refine ⟨h.1, ?_⟩
  rcases h.2 with h2 | ⟨g, cap, cur, h1, hg, h3⟩
  · exact .inl h2
  · exact .inr ⟨g, cap, cur, h1, Nat.le_trans hB hg, h3⟩
abbrev TokV := TokL × Value
def tokVals (ls : List TokV) : List Value := ls.flatMap fun p => [.int .i64 (p.1.kind : Int), .string (str p.1.name), p.2, .string (str p.1.text)]
theorem tokVals_length (ls : List TokV) : (tokVals ls).length = ls.length * 4 := by
  induction ls with
  | nil => rfl
  | cons f r ih => unfold tokVals at *; rw [List.flatMap_cons, List.length_append, ih]; simp; omega
theorem tokVals_append (a b : List TokV) : tokVals (a ++ b) = tokVals a ++ tokVals b := by unfold tokVals; rw [List.flatMap_append]
theorem tokVals_at {l : List TokV} {j : Nat} {p : TokV} (h : l[j]? = some p) : (tokVals l)[j * 4]? = some (.int .i64 (p.1.kind : Int)) ∧ (tokVals l)[j * 4 + 1]? = some (.string (str p.1.name)) ∧ (tokVals l)[j * 4 + 2]? = some p.2 ∧ (tokVals l)[j * 4 + 3]? = some (.string (str p.1.text)) := by
  induction l generalizing j with
  | nil => simp at h
  | cons g r ih =>
    cases j with
    | zero => simp at h; subst h; exact ⟨rfl, rfl, rfl, rfl⟩
    | succ j =>
      have := ih (j := j) (by simpa using h)
      have e : tokVals (g :: r) = .int .i64 (g.1.kind : Int) :: .string (str g.1.name) :: g.2 :: .string (str g.1.text) :: tokVals r := rfl
      rw [e, show (j + 1) * 4 = j * 4 + 1 + 1 + 1 + 1 by omega]
      simpa using this
structure TRow (B : Nat) (v : Value) (ls : List TokV) (w : World) : Prop where
  row : w.ownsRow B 51 4 v ls.length (tokVals ls)
  each : ∀ p ∈ ls, w.ownsRow B 43 2 p.2 p.1.attrs.length (atVals p.1.attrs)
theorem TRow.nil (B : Nat) (w : World) : TRow B (.slice none 0 0) [] w := ⟨World.ownsRow_nil w B _ 4, fun p h => by cases h⟩
theorem TRow.turned {B : Nat} {v : Value} {ls : List TokV} {w w' : World} {row : Option Nat} (h : TRow B v ls w) (hg : w.grownBy w' row)
    (hr : ∀ r, row = some r → ∀ cur, w.heap[r]? ≠ some (.cells cur 51 (0, 0)) ∧ w.heap[r]? ≠ some (.cells cur 43 (0, 0))) : TRow B v ls w' := by
  refine ⟨h.row.kept hg ?_, fun p hp => (h.each p hp).kept hg ?_⟩
  · cases row with
    | none => cases hv : v.ownBlock <;> simp
    | some r => exact .inr (ownsRow_other h.row fun cur => (hr r rfl cur).1)
  · cases row with
    | none => cases hv : p.2.ownBlock <;> simp
    | some r => exact .inr (ownsRow_other (h.each p hp) fun cur => (hr r rfl cur).2)
theorem TRow.kept {B : Nat} {v : Value} {ls : List TokV} {w w' : World} (h : TRow B v ls w) (hb : Below w.heap.size w w') : TRow B v ls w' :=
  h.turned (row := none) ⟨hb.os, hb.tape, hb.output, hb.size, fun k hk _ => hb.block k hk⟩ (fun r e => by cases e)
theorem TRow.alloc {B : Nat} {v : Value} {ls : List TokV} {w : World} (h : TRow B v ls w) (o : Obj) : TRow B v ls (w.alloc o) := h.turned (World.grownBy_alloc w o none) (fun r e => by cases e)
theorem TRow.push {B : Nat} {v v' u : Value} {ls : List TokV} {w w' : World} {t : TokL} (h : TRow B v ls w) (hu : w.ownsRow B 43 2 u t.attrs.length (atVals t.attrs))
    (ho : w'.ownsRow B 51 4 v' (ls.length + 1) (tokVals ls ++ tokVals [(t, u)])) (hg : w.grownBy w' v.ownBlock) : TRow B v' (ls ++ [(t, u)]) w' := by
  refine ⟨by rw [tokVals_append, List.length_append]; exact ho, fun p hp => ?_⟩
  have hne : ∀ {y : Value} {k : Nat} {xs : List Value}, w.ownsRow B 43 2 y k xs → w'.ownsRow B 43 2 y k xs := fun hy => hy.kept hg (ownsRow_diff (by decide) hy h.row)
  rcases List.mem_append.1 hp with hp | hp
  · exact hne (h.each p hp)
  · obtain rfl := List.mem_singleton.1 hp
    exact hne hu
theorem TRow.slice_len {B : Nat} {v : Value} {ls : List TokV} {w : World} (h : TRow B v ls w) : ∃ A c, v = .slice A ls.length c := by
  rcases h.row.2 with ⟨rfl, h0⟩ | ⟨g, cap, cur, rfl, _⟩
  · rw [h0]; exact ⟨_, _, rfl⟩
  · exact ⟨_, _, rfl⟩
theorem info_tok : (Tryz.prog.info? 51).map (fun i => (i.zero, i.size, i.bytes)) = some (some (.agg #[.int .i64 0, .string ByteArray.empty, .slice none 0 0, .string ByteArray.empty]), 4, 64) := by kernel_rfl
theorem wpList_toks {ops : Array Oper} {rest : List Oper} {o : Oper} {a : Act} {Q : Exit → Act → World → Prop} {w : World} (hgd : o.guard = none) (s x : Operand)
    (ho : o.op = .call { callee := .builtin .append, args := #[s, x], argTypes := #[48, 48] })
    (B : Nat) (v : Value) (ls : List TokV) (hs : a.eval s = v) (t : TokL) (u : Value) (hb : TRow B v ls w) (hu : w.ownsRow B 43 2 u t.attrs.length (atVals t.attrs)) (hB : B ≤ w.heap.size) (ad : Addr)
    (hx : a.eval x = .slice (some ad) 1 1) (h0 : w.cell? (ad.add 0) = some (.int .i64 (t.kind : Int))) (h1 : w.cell? (ad.add 1) = some (.string (str t.name))) (h2 : w.cell? (ad.add 2) = some u) (h3 : w.cell? (ad.add 3) = some (.string (str t.text)))
    (hlen : ls.length + 1 ≤ 2199023255552)
    (h : ∀ v' w', TRow B v' (ls ++ [(t, u)]) w' → w.grownBy w' v.ownBlock → wpList Tryz.prog ops Q rest (a.put o.dst v') w') : wpList Tryz.prog ops Q (o :: rest) a w := by
  obtain ⟨i0, hi, hz0, hz1, hz2⟩ := info_parts info_tok
  obtain ⟨A, c, rfl⟩ : ∃ A c, u = .slice A t.attrs.length c := by
    rcases hu.2 with ⟨rfl, h0⟩ | ⟨g, cap, cur, rfl, _⟩
    · rw [h0]; exact ⟨_, _, rfl⟩
    · exact ⟨_, _, rfl⟩
  refine wpList_append_own _ hgd s x 48 ho B 51 i0 (.agg #[.int .i64 0, .string ByteArray.empty, .slice none 0 0, .string ByteArray.empty]) 4 64 Tryz.underlying48 hi hz0 hz1 hz2 rfl (by decide) v ls.length (tokVals ls) hs hb.row ad 1 1 (tokVals [(t, .slice A t.attrs.length c)]) hx rfl ?_ ?_ (by unfold maxLen; omega) (by omega) hB ?_
  · intro j u hj
    match j, hj with
    | 0, hj => simp [tokVals] at hj; subst hj; exact h0
    | 1, hj => simp [tokVals] at hj; subst hj; exact h1
    | 2, hj => simp [tokVals] at hj; subst hj; exact h2
    | 3, hj => simp [tokVals] at hj; subst hj; exact h3
    | (j + 4), hj => simp [tokVals] at hj
  · intro u hu
    simp [tokVals] at hu
    rcases hu with rfl | rfl | rfl | rfl <;> rfl
  · intro v' w' ho' hg _
    exact h v' w' (hb.push hu ho' hg) hg
end Go.Proofs.YtiejmkjpgjbodaaGreatDoor

namespace Go.Proofs.YtiejmkjpgjbodaaGreatDoor
open Go.RowKit
set_option linter.unusedVariables false
set_option linter.unusedSimpArgs false
set_option maxRecDepth 100000
def AttrsIn (w : World) (v : Value) (l : List AtL) : Prop :=
  (v = .slice none 0 0 ∧ l = []) ∨ ∃ a cap, v = .slice (some a) l.length cap ∧ l.length ≤ cap ∧ cap ≤ maxLen ∧
    ∀ j (f : AtL), l[j]? = some f → w.cell? (a.add (j * 2)) = some (.string (str f.1)) ∧ w.cell? (a.add (j * 2 + 1)) = some (.string (str f.2))
theorem AttrsIn.kept {w w' : World} {v : Value} {l : List AtL} (h : AttrsIn w v l) (hb : Below w.heap.size w w') : AttrsIn w' v l := by
  rcases h with h | ⟨a, cap, h1, h2, h3, h4⟩
  · exact .inl h
  · refine .inr ⟨a, cap, h1, h2, h3, fun j f hj => ?_⟩
    obtain ⟨c1, c2⟩ := h4 j f hj
    exact ⟨(hb.cell (World.block_lt_of_cell? _ _ c1)).trans c1, (hb.cell (World.block_lt_of_cell? _ _ c2)).trans c2⟩
theorem AttrsIn.form {w : World} {v : Value} {l : List AtL} (h : AttrsIn w v l) : ∃ a cap, v = .slice a l.length cap := by
  rcases h with ⟨rfl, rfl⟩ | ⟨a, cap, rfl, _⟩
  · exact ⟨_, _, rfl⟩
  · exact ⟨_, _, rfl⟩
theorem AttrsIn.at {w : World} {A : Option Addr} {n cap : Nat} {l : List AtL} (h : AttrsIn w (.slice A n cap) l) (k : Nat) (f : AtL) (hk : l[k]? = some f) :
    ∃ a, A = some a ∧ w.cell? (a.add (k * 2)) = some (.string (str f.1)) ∧ w.cell? { block := (a.add (k * 2)).block, off := (a.add (k * 2)).off + 1 } = some (.string (str f.2)) := by
  rcases h with ⟨_, rfl⟩ | ⟨a, cap', h1, _, _, h4⟩
  · cases hk
  · injection h1 with h1 _ _
    have e3 : ({ block := (a.add (k * 2)).block, off := (a.add (k * 2)).off + 1 } : Addr) = a.add (k * 2 + 1) := by rw [← Addr.add_add]; rfl
    obtain ⟨c1, c2⟩ := h4 k f hk
    exact ⟨a, h1, c1, by rw [e3]; exact c2⟩
theorem attrs_of_row {B : Nat} {w : World} {v : Value} {l : List AtL} (h : w.ownsRow B 43 2 v l.length (atVals l)) : AttrsIn w v l := by
  rcases h.2 with ⟨rfl, h0⟩ | ⟨g, cap, cur, rfl, hg, hh, h1, h2, h3, h4⟩
  · exact .inl ⟨rfl, List.eq_nil_of_length_eq_zero h0⟩
  · refine .inr ⟨⟨g, 0, none⟩, cap, rfl, h1, h2, fun j f hj => ?_⟩
    obtain ⟨c1, c2⟩ := atVals_at hj
    exact ⟨h.cells (g := g) rfl _ _ c1, h.cells (g := g) rfl _ _ c2⟩
abbrev TokG := Int × TokL
def ToksIn (w : World) (v : Value) (l : List TokG) : Prop :=
  (v = .slice none 0 0 ∧ l = []) ∨ ∃ a cap, v = .slice (some a) l.length cap ∧ l.length ≤ cap ∧ cap ≤ maxLen ∧
    ∀ j (f : TokG), l[j]? = some f → w.cell? (a.add (j * 4)) = some (.int .i64 f.1) ∧ w.cell? (a.add (j * 4 + 1)) = some (.string (str f.2.name)) ∧ w.cell? (a.add (j * 4 + 3)) = some (.string (str f.2.text)) ∧
      ∃ u, w.cell? (a.add (j * 4 + 2)) = some u ∧ AttrsIn w u f.2.attrs
theorem ToksIn.kept {w w' : World} {v : Value} {l : List TokG} (h : ToksIn w v l) (hb : Below w.heap.size w w') : ToksIn w' v l := by
  rcases h with h | ⟨a, cap, h1, h2, h3, h4⟩
  · exact .inl h
  · refine .inr ⟨a, cap, h1, h2, h3, fun j f hj => ?_⟩
    obtain ⟨c1, c2, c3, u, c4, hu⟩ := h4 j f hj
    exact ⟨(hb.cell (World.block_lt_of_cell? _ _ c1)).trans c1, (hb.cell (World.block_lt_of_cell? _ _ c2)).trans c2, (hb.cell (World.block_lt_of_cell? _ _ c3)).trans c3, u, (hb.cell (World.block_lt_of_cell? _ _ c4)).trans c4, hu.kept hb⟩
theorem ToksIn.form {w : World} {v : Value} {l : List TokG} (h : ToksIn w v l) : ∃ a cap, v = .slice a l.length cap := by
  rcases h with ⟨rfl, rfl⟩ | ⟨a, cap, rfl, _⟩
  · exact ⟨_, _, rfl⟩
  · exact ⟨_, _, rfl⟩
theorem ToksIn.at {w : World} {A : Option Addr} {n cap : Nat} {l : List TokG} (h : ToksIn w (.slice A n cap) l) (k : Nat) (f : TokG) (hk : l[k]? = some f) :
    ∃ a d y, A = some a ∧ w.cell? (a.add (k * 4)) = some (.int .i64 f.1) ∧ w.cell? { block := (a.add (k * 4)).block, off := (a.add (k * 4)).off + 1 } = some (.string (str f.2.name)) ∧ w.cell? { block := (a.add (k * 4)).block, off := (a.add (k * 4)).off + 3 } = some (.string (str f.2.text)) ∧
      w.cell? { block := (a.add (k * 4)).block, off := (a.add (k * 4)).off + 2 } = some (.slice d f.2.attrs.length y) ∧ AttrsIn w (.slice d f.2.attrs.length y) f.2.attrs := by
  rcases h with ⟨_, rfl⟩ | ⟨a, cap', h1, _, _, h4⟩
  · cases hk
  · injection h1 with h1 _ _
    have e1 : ({ block := (a.add (k * 4)).block, off := (a.add (k * 4)).off + 1 } : Addr) = a.add (k * 4 + 1) := by rw [← Addr.add_add]; rfl
    have e2 : ({ block := (a.add (k * 4)).block, off := (a.add (k * 4)).off + 2 } : Addr) = a.add (k * 4 + 2) := by rw [← Addr.add_add]; rfl
    have e3 : ({ block := (a.add (k * 4)).block, off := (a.add (k * 4)).off + 3 } : Addr) = a.add (k * 4 + 3) := by rw [← Addr.add_add]; rfl
    obtain ⟨c1, c2, c3, u, c4, hu⟩ := h4 k f hk
    obtain ⟨d, y, rfl⟩ := hu.form
    exact ⟨a, d, y, h1, c1, by rw [e1]; exact c2, by rw [e3]; exact c3, by rw [e2]; exact c4, hu⟩
def gOf (t : TokL) : TokG := ((t.kind : Int), t)
theorem TRow.in {B : Nat} {v : Value} {ls : List TokV} {w : World} (h : TRow B v ls w) : ToksIn w v ((ls.map Prod.fst).map gOf) := by
  rcases h.row.2 with ⟨rfl, h0⟩ | ⟨g, cap, cur, rfl, hg, hh, h1, h2, h3, h4⟩
  · exact .inl ⟨rfl, by rw [List.eq_nil_of_length_eq_zero h0]; rfl⟩
  · refine .inr ⟨⟨g, 0, none⟩, cap, by simp, by simpa using h1, h2, fun j f hj => ?_⟩
    rw [List.map_map, List.getElem?_map] at hj
    obtain ⟨p, hp, rfl⟩ := Option.map_eq_some_iff.1 hj
    obtain ⟨c1, c2, c3, c4⟩ := tokVals_at hp
    have hc : ∀ (i : Nat) (x : Value), (tokVals ls)[i]? = some x → w.cell? ((⟨g, 0, none⟩ : Addr).add i) = some x := fun i x hx => h.row.cells (g := g) rfl _ _ hx
    exact ⟨hc _ _ c1, hc _ _ c2, hc _ _ c4, p.2, hc _ _ c3, attrs_of_row (h.each p (List.mem_of_getElem? hp))⟩
theorem attrs_lit {w : World} {g : Nat} {T : TypeId} {fz : Nat × Nat} (l : List AtL) (h : w.heap[g]? = some (.cells (atVals l).toArray T fz)) (hl : l.length ≤ maxLen) : AttrsIn w (.slice (some ⟨g, 0, none⟩) l.length l.length) l := by
  refine .inr ⟨⟨g, 0, none⟩, l.length, rfl, Nat.le_refl _, hl, fun j f hj => ?_⟩
  obtain ⟨c1, c2⟩ := atVals_at hj
  have hc : ∀ (i : Nat) (x : Value), (atVals l)[i]? = some x → w.cell? ((⟨g, 0, none⟩ : Addr).add i) = some x := fun i x hx => by
    rw [Addr.add_lit, Lib.cell_of_heap h, List.getElem?_toArray]; simpa using hx
  exact ⟨hc _ _ c1, hc _ _ c2⟩
end Go.Proofs.YtiejmkjpgjbodaaGreatDoor

namespace Go.Proofs.YtiejmkjpgjbodaaGreatDoor
open Go.RowKit
set_option linter.unusedVariables false
set_option linter.unusedSimpArgs false
set_option maxRecDepth 100000
def AttrsC (C : Nat → Prop) (w : World) (v : Value) (l : List AtL) : Prop :=
  AttrsIn w v l ∧ ∀ a n c, v = .slice (some a) n c → l ≠ [] → C a.block
def NodesAt (C : Nat → Prop) (w : World) : Tr → Addr → Prop
  | .nil, _ => True
  | .cons h k r, a =>
    C a.block ∧ w.cell? a = some (.string (str h.name)) ∧ w.cell? (a.add 2) = some (.string (str h.text)) ∧
    (∃ u, w.cell? (a.add 1) = some u ∧ AttrsC C w u h.attrs) ∧
    (∃ v, w.cell? (a.add 3) = some v ∧ ((v = .slice none 0 0 ∧ k = .nil) ∨ ∃ a' cap, v = .slice (some a') k.len cap ∧ k.len ≤ cap ∧ cap ≤ maxLen ∧ NodesAt C w k a')) ∧
    NodesAt C w r (a.add 4)
def NodesC (C : Nat → Prop) (w : World) (v : Value) (t : Tr) : Prop :=
  (v = .slice none 0 0 ∧ t = .nil) ∨ ∃ a cap, v = .slice (some a) t.len cap ∧ t.len ≤ cap ∧ cap ≤ maxLen ∧ NodesAt C w t a
def NodesIn (w : World) (v : Value) (t : Tr) : Prop := NodesC (fun b => b < w.heap.size) w v t
theorem cell_same {w w' : World} {C : Nat → Prop} (hk : ∀ b, C b → w'.heap[b]? = w.heap[b]?) {a : Addr} (h : C a.block) : w'.cell? a = w.cell? a := World.cell?_of_block (hk _ h)
theorem addr_add_block (a : Addr) (n : Nat) : (a.add n).block = a.block := by unfold Addr.add; split <;> rfl
theorem AttrsC.mono {C C' : Nat → Prop} {w w' : World} {v : Value} {l : List AtL} (h : AttrsC C w v l) (hk : ∀ b, C b → w'.heap[b]? = w.heap[b]?) (hC : ∀ b, C b → C' b) : AttrsC C' w' v l := by
  refine ⟨?_, fun a n c e hl => hC _ (h.2 a n c e hl)⟩
  rcases h.1 with ⟨h1, h2⟩ | ⟨a, cap, rfl, h2, h3, h4⟩
  · exact .inl ⟨h1, h2⟩
  · refine .inr ⟨a, cap, rfl, h2, h3, fun j f hj => ?_⟩
    have hc := h.2 a _ _ rfl (fun e => by rw [e] at hj; cases hj)
    obtain ⟨c1, c2⟩ := h4 j f hj
    exact ⟨(cell_same hk (by rw [addr_add_block]; exact hc)).trans c1, (cell_same hk (by rw [addr_add_block]; exact hc)).trans c2⟩
theorem NodesAt.mono {C C' : Nat → Prop} {w w' : World} (hk : ∀ b, C b → w'.heap[b]? = w.heap[b]?) (hC : ∀ b, C b → C' b) {t : Tr} {a : Addr} (h : NodesAt C w t a) : NodesAt C' w' t a := by
  induction t generalizing a with
  | nil => trivial
  | cons p k r ihk ihr =>
    obtain ⟨h0, h1, h2, ⟨u, h3, h4⟩, ⟨v, h5, h6⟩, h7⟩ := h
    refine ⟨hC _ h0, (cell_same hk h0).trans h1, (cell_same hk (by rw [addr_add_block]; exact h0)).trans h2, ⟨u, (cell_same hk (by rw [addr_add_block]; exact h0)).trans h3, h4.mono hk hC⟩, ⟨v, (cell_same hk (by rw [addr_add_block]; exact h0)).trans h5, ?_⟩, ihr h7⟩
    rcases h6 with h6 | ⟨a', cap, e1, e2, e3, e4⟩
    · exact .inl h6
    · exact .inr ⟨a', cap, e1, e2, e3, ihk e4⟩
theorem NodesC.mono {C C' : Nat → Prop} {w w' : World} {v : Value} {t : Tr} (h : NodesC C w v t) (hk : ∀ b, C b → w'.heap[b]? = w.heap[b]?) (hC : ∀ b, C b → C' b) : NodesC C' w' v t := by
  rcases h with h | ⟨a, cap, h1, h2, h3, h4⟩
  · exact .inl h
  · exact .inr ⟨a, cap, h1, h2, h3, h4.mono hk hC⟩
theorem NodesIn.kept {w w' : World} {v : Value} {t : Tr} (h : NodesIn w v t) (hb : Below w.heap.size w w') : NodesIn w' v t :=
  NodesC.mono h (fun b hlt => hb.block b hlt) (fun b hlt => Nat.lt_of_lt_of_le hlt hb.size)
theorem NodesC.form {C : Nat → Prop} {w : World} {v : Value} {t : Tr} (h : NodesC C w v t) : ∃ a cap, v = .slice a t.len cap := by
  rcases h with ⟨rfl, rfl⟩ | ⟨a, cap, rfl, _⟩
  · exact ⟨_, _, rfl⟩
  · exact ⟨_, _, rfl⟩
theorem NodesC.cap {C : Nat → Prop} {w : World} {A : Option Addr} {n c : Nat} {t : Tr} (h : NodesC C w (.slice A n c) t) : n = t.len ∧ n ≤ c ∧ c ≤ maxLen := by
  rcases h with ⟨h1, rfl⟩ | ⟨a, cap, h1, h2, h3, h4⟩
  · injection h1 with _ h2 h3; subst h2 h3; exact ⟨rfl, Nat.le_refl _, Nat.zero_le _⟩
  · injection h1 with _ e2 e3; subst e2 e3; exact ⟨rfl, h2, h3⟩
theorem NodesAt.drop {C : Nat → Prop} {w : World} {t : Tr} {a : Addr} (h : NodesAt C w t a) (n : Nat) (hn : n ≤ t.len) : NodesAt C w (Tr.drop n t) (a.add (n * 4)) := by
  induction n generalizing t a with
  | zero => rw [Nat.zero_mul, Addr.add_zero']; exact h
  | succ n ih => cases t with
    | nil => exact absurd hn (Nat.not_succ_le_zero _)
    | cons p k r =>
      have := ih (t := r) h.2.2.2.2.2 (by simp only [Tr.len] at hn; omega)
      rw [Addr.add_add] at this
      rw [show (n + 1) * 4 = 4 + n * 4 by omega]
      exact this
theorem NodesC.at {C : Nat → Prop} {w : World} {A : Option Addr} {n cap : Nat} {t : Tr} (h : NodesC C w (.slice A n cap) t) (k : Nat) (p : NdH) (K : Tr) (hk : t.list[k]? = some (p, K)) :
    ∃ a d x y z m, A = some a ∧ C a.block ∧ w.cell? (a.add (k * 4)) = some (.string (str p.name)) ∧ w.cell? { block := (a.add (k * 4)).block, off := (a.add (k * 4)).off + 1 } = some (.slice d p.attrs.length y) ∧ AttrsC C w (.slice d p.attrs.length y) p.attrs ∧
      w.cell? { block := (a.add (k * 4)).block, off := (a.add (k * 4)).off + 2 } = some (.string (str p.text)) ∧ w.cell? { block := (a.add (k * 4)).block, off := (a.add (k * 4)).off + 3 } = some (.slice x m z) ∧ m = K.len ∧ NodesC C w (.slice x m z) K := by
  have hlt : k < t.len := by
    rw [← Tr.len_list]
    rcases Nat.lt_or_ge k t.list.length with h1 | h1
    · exact h1
    · rw [List.getElem?_eq_none h1] at hk; cases hk
  rcases h with ⟨_, rfl⟩ | ⟨a, cap', h1, _, _, h4⟩
  · cases hk
  · injection h1 with h1 _ _
    have hd := h4.drop k (Nat.le_of_lt hlt)
    obtain ⟨p', K', he, hp⟩ := Tr.drop_cons k t hlt
    rw [hk] at hp
    injection hp with hp
    obtain ⟨rfl, rfl⟩ : p = p' ∧ K = K' := by injection hp with e1 e2; exact ⟨e1, e2⟩
    rw [he] at hd
    obtain ⟨g0, g1, g2, ⟨u, g3, g4⟩, ⟨v, g5, g6⟩, _⟩ := hd
    have e1 : ({ block := (a.add (k * 4)).block, off := (a.add (k * 4)).off + 1 } : Addr) = (a.add (k * 4)).add 1 := by rfl
    have e2 : ({ block := (a.add (k * 4)).block, off := (a.add (k * 4)).off + 2 } : Addr) = (a.add (k * 4)).add 2 := by rfl
    have e3 : ({ block := (a.add (k * 4)).block, off := (a.add (k * 4)).off + 3 } : Addr) = (a.add (k * 4)).add 3 := by rfl
    obtain ⟨d, y, rfl⟩ := g4.1.form
    have hN : NodesC C w v K := g6
    obtain ⟨x, z, rfl⟩ := hN.form
    exact ⟨a, d, x, y, z, _, h1, by rw [addr_add_block] at g0; exact g0, g1, by rw [e1]; exact g3, g4, by rw [e2]; exact g2, by rw [e3]; exact g5, rfl, hN⟩
end Go.Proofs.YtiejmkjpgjbodaaGreatDoor

namespace Go.Proofs.YtiejmkjpgjbodaaGreatDoor
open Go.RowKit
set_option linter.unusedVariables false
set_option linter.unusedSimpArgs false
set_option maxRecDepth 100000
def voidL : List (List UInt8) := [[97, 114, 101, 97], [98, 97, 115, 101], [98, 114], [99, 111, 108], [101, 109, 98, 101, 100], [104, 114], [105, 109, 103], [105, 110, 112, 117, 116], [108, 105, 110, 107], [109, 101, 116, 97], [115, 111, 117, 114, 99, 101], [116, 114, 97, 99, 107], [119, 98, 114]]
def blockNL : List (List UInt8) := [[97, 100, 100, 114, 101, 115, 115], [97, 114, 116, 105, 99, 108, 101], [97, 115, 105, 100, 101], [98, 108, 111, 99, 107, 113, 117, 111, 116, 101], [99, 101, 110, 116, 101, 114], [100, 101, 116, 97, 105, 108, 115], [100, 105, 118], [100, 108], [102, 105, 101, 108, 100, 115, 101, 116], [102, 105, 103, 117, 114, 101], [102, 111, 111, 116, 101, 114], [102, 111, 114, 109], [104, 101, 97, 100, 101, 114], [104, 114], [108, 105], [109, 97, 105, 110], [110, 97, 118], [111, 108], [112], [112, 114, 101], [115, 101, 99, 116, 105, 111, 110], [116, 97, 98, 108, 101], [117, 108], [100, 100], [100, 116], [104, 49], [104, 50], [104, 51], [104, 52], [104, 53], [104, 54]]
def wallL : List (List UInt8) := [[116, 97, 98, 108, 101], [98, 117, 116, 116, 111, 110], [117, 108], [111, 108], [100, 108], [115, 118, 103], [109, 97, 116, 104], [116, 101, 109, 112, 108, 97, 116, 101], [111, 98, 106, 101, 99, 116], [97, 112, 112, 108, 101, 116], [109, 97, 114, 113, 117, 101, 101]]
def headNL : List (List UInt8) := [[104, 49], [104, 50], [104, 51], [104, 52], [104, 53], [104, 54]]
def sameL : List (List UInt8) := [[108, 105], [97], [111, 112, 116, 105, 111, 110], [116, 114], [110, 111, 98, 114], [98, 117, 116, 116, 111, 110]]
def voidB (n : List UInt8) : Bool := voidL.contains n
def wallB (n : List UInt8) : Bool := wallL.contains n
def blockNB (n : List UInt8) : Bool := blockNL.contains n
def headNB (n : List UInt8) : Bool := headNL.contains n
def closesB (n o : List UInt8) : Bool :=
  if o = [112] then blockNB n
  else if o = [100, 100] ∨ o = [100, 116] then decide (n = [100, 100] ∨ n = [100, 116])
  else if o = [116, 100] ∨ o = [116, 104] then decide (n = [116, 100] ∨ n = [116, 104] ∨ n = [116, 114])
  else if sameL.contains o then decide (n = o)
  else headNB o && headNB n
structure PartL where
  name : List UInt8
  attrs : List AtL
  kids : List (NdH × Tr)
  tail : List UInt8
deriving DecidableEq
def rootL : PartL := ⟨[], [], [], []⟩
def textNd (x : List UInt8) : NdH × Tr := (⟨[], [], x⟩, .nil)
def endTextL (p : PartL) : PartL := if p.tail = [] then p else { p with kids := p.kids ++ [textNd p.tail], tail := [] }
def PartL.node (p : PartL) : NdH × Tr := (⟨p.name, p.attrs, []⟩, Tr.of p.kids)
def closeTop : List PartL → List PartL
  | p :: q :: r => { q with kids := q.kids ++ [(endTextL p).node] } :: r
  | st => st
def closeN : Nat → List PartL → List PartL
  | 0, st => st
  | n + 1, st => closeN n (closeTop st)
def findP (is : List UInt8 → Bool) : List PartL → Option Nat
  | p :: q :: r => if is p.name = true then some 1 else if wallB p.name = true then none else (findP is (q :: r)).map (· + 1)
  | _ => none
def closeAll (is : List UInt8 → Bool) : Nat → List PartL → List PartL
  | 0, st => st
  | f + 1, st => match findP is st with
    | none => st
    | some n => closeAll is f (closeN n st)
abbrev BsL := List PartL × Nat
def charsP (x : List UInt8) (s : BsL) : BsL := match s.1 with
  | [] => s
  | p :: r => if p.tail = [] then (if s.2 = 5000 then s else ({ p with tail := x } :: r, s.2 + 1)) else ({ p with tail := p.tail ++ x } :: r, s.2)
def putP (t : TokL) (st : List PartL) (n : Nat) : BsL := match st with
  | [] => (st, n)
  | p :: r => if voidB t.name = true ∨ 30 < st.length then ({ endTextL p with kids := (endTextL p).kids ++ [(⟨t.name, t.attrs, []⟩, Tr.nil)] } :: r, n + 1)
    else (⟨t.name, t.attrs, [], []⟩ :: endTextL p :: r, n + 1)
def startP (t : TokL) (s : BsL) : BsL :=
  if s.2 = 5000 then (closeAll (closesB t.name) s.1.length s.1, s.2) else putP t (closeAll (closesB t.name) s.1.length s.1) s.2
def endP (n : List UInt8) (s : BsL) : BsL := match findP (fun o => o == n) s.1 with
  | none => s
  | some k => (closeN k s.1, s.2)
def tokB (s : BsL) (t : TokL) : BsL := if t.kind = 1 then charsP t.text s else if t.kind = 2 then startP t s else if t.kind = 3 then endP t.name s else s
def endTree (st : List PartL) : Tr := match closeN (st.length - 1) st with
  | p :: _ => Tr.of (endTextL p).kids
  | [] => .nil
def buildP (L : List TokL) : Tr := endTree (L.foldl tokB ([rootL], 0)).1
theorem closeTop_length (st : List PartL) : (closeTop st).length = if 2 ≤ st.length then st.length - 1 else st.length := by
  match st with
  | [] => rfl
  | [p] => rfl
  | p :: q :: r => simp [closeTop]
theorem closeN_length (n : Nat) (st : List PartL) (h : n < st.length) : (closeN n st).length = st.length - n := by
  induction n generalizing st with
  | zero => rfl
  | succ n ih =>
    rw [closeN, ih _ (by rw [closeTop_length, if_pos (by omega)]; omega), closeTop_length, if_pos (by omega)]; omega
theorem findP_lt {is : List UInt8 → Bool} {st : List PartL} {n : Nat} (h : findP is st = some n) : 0 < n ∧ n < st.length := by
  induction st generalizing n with
  | nil => cases h
  | cons p r ih => cases r with
    | nil => cases h
    | cons q r =>
      simp only [findP] at h
      split at h
      · injection h with h; subst h; simp
      · split at h
        · cases h
        · obtain ⟨m, h1, rfl⟩ := Option.map_eq_some_iff.1 h
          have := ih h1
          simp only [List.length_cons] at this ⊢; omega
theorem closeAll_length (is : List UInt8 → Bool) (f : Nat) (st : List PartL) : (closeAll is f st).length ≤ st.length ∧ (st ≠ [] → closeAll is f st ≠ []) := by
  induction f generalizing st with
  | zero => exact ⟨Nat.le_refl _, id⟩
  | succ f ih =>
    rw [closeAll]
    split
    · exact ⟨Nat.le_refl _, id⟩
    · rename_i n h
      obtain ⟨h1, h2⟩ := findP_lt h
      have h3 := closeN_length n st h2
      have h4 := ih (closeN n st)
      refine ⟨by omega, fun _ => h4.2 (fun e => by rw [e] at h3; simp only [List.length_nil] at h3; omega)⟩
theorem closeAll_more (is : List UInt8 → Bool) (f g : Nat) (st : List PartL) (h : st.length ≤ f + 1) (hg : f ≤ g) : closeAll is g st = closeAll is f st := by
  induction f generalizing g st with
  | zero =>
    have hn : findP is st = none := by
      match st, h with
      | [], _ => rfl
      | [p], _ => rfl
    cases g with
    | zero => rfl
    | succ g => simp only [closeAll, hn]
  | succ f ih =>
    obtain ⟨g, rfl⟩ : ∃ g', g = g' + 1 := ⟨g - 1, by omega⟩
    rw [closeAll, closeAll]
    cases hn : findP is st with
    | none => rfl
    | some n =>
      obtain ⟨h1, h2⟩ := findP_lt hn
      exact ih g _ (by rw [closeN_length n st h2]; omega) (by omega)
theorem closeAll_step {is : List UInt8 → Bool} {st : List PartL} {n : Nat} (h : findP is st = some n) : closeAll is st.length st = closeAll is (closeN n st).length (closeN n st) := by
  obtain ⟨h1, h2⟩ := findP_lt h
  have h3 := closeN_length n st h2
  obtain ⟨k, hk⟩ : ∃ k, st.length = k + 1 := ⟨st.length - 1, by omega⟩
  rw [hk, closeAll, h]
  exact closeAll_more is _ _ _ (by omega) (by omega)
theorem closeAll_none {is : List UInt8 → Bool} {st : List PartL} (h : findP is st = none) : closeAll is st.length st = st := by
  cases hl : st.length with
  | zero => rfl
  | succ k => rw [closeAll, h]
end Go.Proofs.YtiejmkjpgjbodaaGreatDoor

namespace Go.Proofs.YtiejmkjpgjbodaaGreatDoor
open Go.RowKit
set_option linter.unusedVariables false
set_option linter.unusedSimpArgs false
set_option maxRecDepth 100000
abbrev ArN := NdH × List Nat
inductive ArRes (all : List ArN) (hot : List Nat) : List Nat → Tr → Prop where
  | nil : ArRes all hot [] .nil
  | cons {k : Nat} {h : NdH} {ks r : List Nat} {K R : Tr} (hk : all[k]? = some (h, ks)) (hn : k ∉ hot) (hK : ArRes all hot ks K) (hR : ArRes all hot r R) : ArRes all hot (k :: r) (.cons h K R)
theorem ArRes.app {all : List ArN} {hot a b : List Nat} {A B : Tr} (ha : ArRes all hot a A) (hb : ArRes all hot b B) : ArRes all hot (a ++ b) (A.app B) := by
  induction ha with
  | nil => exact hb
  | cons hk hn hK _ _ ih => exact .cons hk hn hK ih
theorem ArRes.cool {all : List ArN} {hot hot' : List Nat} {ks : List Nat} {T : Tr} (h : ArRes all hot ks T) (hs : ∀ k, k ∈ hot' → k ∈ hot) : ArRes all hot' ks T := by
  induction h with
  | nil => exact .nil
  | cons hk hn _ _ ihK ihR => exact .cons hk (fun e => hn (hs _ e)) ihK ihR
theorem ArRes.heat {all : List ArN} {hot hot' : List Nat} {ks : List Nat} {T : Tr} (h : ArRes all hot ks T) (hs : ∀ k, k ∈ hot' → k ∈ hot ∨ all.length ≤ k) : ArRes all hot' ks T := by
  induction h with
  | nil => exact .nil
  | cons hk hn _ _ ihK ihR =>
    refine .cons hk (fun e => ?_) ihK ihR
    rcases hs _ e with h1 | h1
    · exact hn h1
    · have := (List.getElem?_eq_some_iff.1 hk).1; omega
theorem ArRes.keep {all all' : List ArN} {hot : List Nat} {ks : List Nat} {T : Tr} (h : ArRes all hot ks T) (hs : ∀ k p, k ∉ hot → all[k]? = some p → all'[k]? = some p) : ArRes all' hot ks T := by
  induction h with
  | nil => exact .nil
  | cons hk hn _ _ ihK ihR => exact .cons (hs _ _ hn hk) hn ihK ihR
theorem ArRes.one {all : List ArN} {hot : List Nat} {k : Nat} {h : NdH} {ks : List Nat} {K : Tr} (hk : all[k]? = some (h, ks)) (hn : k ∉ hot) (hK : ArRes all hot ks K) : ArRes all hot [k] (.cons h K .nil) := .cons hk hn hK .nil
theorem ArRes.len {all : List ArN} {hot ks : List Nat} {T : Tr} (h : ArRes all hot ks T) : ks.length = T.len := by
  induction h with
  | nil => rfl
  | cons hk hn _ _ _ ihR => simp [Tr.len, ihR]
theorem ArRes.at {all : List ArN} {hot ks : List Nat} {T : Tr} (h : ArRes all hot ks T) {i k : Nat} (hi : ks[i]? = some k) : ∃ f K ls, T.list[i]? = some (f, K) ∧ all[k]? = some (f, ls) ∧ k ∉ hot ∧ ArRes all hot ls K := by
  induction h generalizing i with
  | nil => simp at hi
  | cons hk hn hK _ _ ihR =>
    cases i with
    | zero =>
      simp only [List.getElem?_cons_zero, Option.some.injEq] at hi
      subst hi
      exact ⟨_, _, _, rfl, hk, hn, hK⟩
    | succ i =>
      rw [List.getElem?_cons_succ] at hi
      obtain ⟨f, K, ls, h1, h2⟩ := ihR hi
      exact ⟨f, K, ls, by rw [Tr.list, List.getElem?_cons_succ]; exact h1, h2⟩
theorem ArRes.last {all : List ArN} {hot ks : List Nat} {l : List (NdH × Tr)} (h : ArRes all hot ks (Tr.of l)) {k : Nat} (hk : ks.getLast? = some k) : ∃ q ls, l.getLast? = some q ∧ all[k]? = some (q.1, ls) := by
  rw [List.getLast?_eq_getElem?] at hk
  obtain ⟨f, K, ls, h1, h2, _⟩ := h.at hk
  have hl := h.len
  rw [Tr.len_of] at hl
  rw [Tr.list_of, hl] at h1
  exact ⟨(f, K), ls, by rw [List.getLast?_eq_getElem?]; exact h1, h2⟩
def ArPart (all : List ArN) (hot : List Nat) (o : Nat) (p : PartL) (tl nx : List Nat) : Prop :=
  ∃ ks, all[o]? = some (⟨p.name, p.attrs, []⟩, ks ++ tl ++ nx) ∧ ArRes all hot ks (Tr.of p.kids)
structure ArOK (all : List ArN) (opn : List Nat) (s : BsL) : Prop where
  len : all.length = s.2 + 1
  few : s.2 ≤ 5000
  ne : s.1 ≠ []
  dep : opn.length = s.1.length
  root : opn[0]? = some 0
  tails : ∀ p ∈ s.1.tail, p.tail = []
  names : ∀ p ∈ s.1.dropLast, p.name ≠ []
  last : ∀ p r, s.1 = p :: r → ∀ q, p.kids.getLast? = some q → q.1.name ≠ []
  hot : ∃ tl : List Nat, (∀ p r, s.1 = p :: r → (p.tail = [] ∧ tl = []) ∨ ∃ t, p.tail ≠ [] ∧ tl = [t] ∧ t ∉ opn ∧ all[t]? = some (⟨[], [], p.tail⟩, [])) ∧
    opn.Nodup ∧ (∀ o ∈ opn, o < all.length) ∧
    ∀ i o p, opn[i]? = some o → s.1[s.1.length - 1 - i]? = some p → ArPart all (opn ++ tl) o p (if i + 1 = opn.length then tl else []) (opn.drop (i + 1) |>.take 1)
theorem arOK_start : ArOK [(⟨[], [], []⟩, [])] [0] ([rootL], 0) := by
  refine ⟨rfl, by decide, by simp, rfl, rfl, (fun p hp => by cases hp), (fun p hp => by cases hp), (fun p r e q hq => by injection e with e _; subst e; cases hq), [], fun p r e => ?_, by simp, (fun o ho => by simp at ho; subst ho; decide), fun i o p ho hp => ?_⟩
  · injection e with e _
    subst e
    exact .inl ⟨rfl, rfl⟩
  · match i, ho with
    | 0, ho =>
      injection ho with ho
      subst ho
      injection hp with hp
      subst hp
      exact ⟨[], rfl, .nil⟩
    | i + 1, ho => simp at ho
end Go.Proofs.YtiejmkjpgjbodaaGreatDoor

namespace Go.Proofs.YtiejmkjpgjbodaaGreatDoor
open Go.RowKit
set_option linter.unusedVariables false
set_option linter.unusedSimpArgs false
set_option maxRecDepth 100000
def arGrow (all : List ArN) (t : Nat) (x : List UInt8) : List ArN := all.modify t (fun p => (⟨p.1.name, p.1.attrs, p.1.text ++ x⟩, p.2))
def arPut (all : List ArN) (a : Nat) (h : NdH) : List ArN := (all ++ [(h, [])]).modify a (fun p => (p.1, p.2 ++ [all.length]))
theorem arGrow_other {all : List ArN} {t k : Nat} {x : List UInt8} (h : k ≠ t) : (arGrow all t x)[k]? = all[k]? := by
  unfold arGrow
  have : ¬ t = k := fun e => h e.symm
  simp [List.getElem?_modify, this]
theorem arGrow_at {all : List ArN} {t : Nat} {x : List UInt8} {p : ArN} (h : all[t]? = some p) : (arGrow all t x)[t]? = some (⟨p.1.name, p.1.attrs, p.1.text ++ x⟩, p.2) := by
  unfold arGrow
  simp [List.getElem?_modify, h]
theorem arGrow_len (all : List ArN) (t : Nat) (x : List UInt8) : (arGrow all t x).length = all.length := by unfold arGrow; simp
theorem arPut_other {all : List ArN} {a k : Nat} {h : NdH} (hk : k ≠ a) (hl : k < all.length) : (arPut all a h)[k]? = all[k]? := by
  unfold arPut
  have : ¬ a = k := fun e => hk e.symm
  simp [List.getElem?_modify, this, List.getElem?_append_left hl]
theorem arPut_at {all : List ArN} {a : Nat} {h : NdH} {p : ArN} (hp : all[a]? = some p) : (arPut all a h)[a]? = some (p.1, p.2 ++ [all.length]) := by
  have hl := (List.getElem?_eq_some_iff.1 hp).1
  unfold arPut
  simp [List.getElem?_modify, List.getElem?_append_left hl, hp]
theorem arPut_new {all : List ArN} {a : Nat} {h : NdH} (ha : a < all.length) : (arPut all a h)[all.length]? = some (h, []) := by
  unfold arPut
  have : ¬ a = all.length := by omega
  simp [List.getElem?_modify, this]
theorem arPut_len (all : List ArN) (a : Nat) (h : NdH) : (arPut all a h).length = all.length + 1 := by unfold arPut; simp
theorem ArRes.grow {all : List ArN} {hot ks : List Nat} {T : Tr} {t : Nat} {x : List UInt8} (h : ArRes all hot ks T) (ht : t ∈ hot) : ArRes (arGrow all t x) hot ks T :=
  h.keep (fun k p hk hp => by rw [arGrow_other (fun e => hk (by rw [e]; exact ht))]; exact hp)
theorem ArRes.put {all : List ArN} {hot ks : List Nat} {T : Tr} {a : Nat} {n : NdH} (h : ArRes all hot ks T) (ha : a ∈ hot) : ArRes (arPut all a n) hot ks T :=
  h.keep (fun k p hk hp => by rw [arPut_other (fun e => hk (by rw [e]; exact ha)) (List.getElem?_eq_some_iff.1 hp).1]; exact hp)
theorem ArOK.inner {all : List ArN} {opn : List Nat} {p : PartL} {r : List PartL} {n : Nat} (h : ArOK all opn (p :: r, n)) : ∃ a tl ks, opn[opn.length - 1]? = some a ∧ a < all.length ∧ all[a]? = some (⟨p.name, p.attrs, []⟩, ks ++ tl) ∧ ArRes all (opn ++ tl) ks (Tr.of p.kids) ∧ ((p.tail = [] ∧ tl = []) ∨ ∃ t, p.tail ≠ [] ∧ tl = [t] ∧ t ∉ opn ∧ all[t]? = some (⟨[], [], p.tail⟩, [])) := by
  obtain ⟨tl, h1, h2, h3, h4⟩ := h.hot
  have hd := h.dep
  simp only [List.length_cons] at hd
  obtain ⟨a, ha⟩ : ∃ a, opn[opn.length - 1]? = some a := ⟨_, List.getElem?_eq_getElem (by omega)⟩
  obtain ⟨ks, k1, k2⟩ := h4 (opn.length - 1) a p ha (by simp [hd])
  have e1 : opn.length - 1 + 1 = opn.length := by omega
  rw [if_pos e1, e1, List.drop_length, List.take_nil, List.append_nil] at k1
  exact ⟨a, tl, ks, ha, h3 a (List.mem_of_getElem? ha), k1, k2, h1 p r rfl⟩
theorem arOK_growT {all : List ArN} {opn : List Nat} {p : PartL} {r : List PartL} {n t : Nat} {x : List UInt8} (h : ArOK all opn (p :: r, n)) (hp : p.tail ≠ []) (ht : t ∉ opn)
    (h2 : opn.Nodup) (h3 : ∀ o ∈ opn, o < all.length)
    (h4 : ∀ i o q, opn[i]? = some o → (p :: r)[(p :: r).length - 1 - i]? = some q → ArPart all (opn ++ [t]) o q (if i + 1 = opn.length then [t] else []) (opn.drop (i + 1) |>.take 1)) (hat : all[t]? = some (⟨[], [], p.tail⟩, [])) :
    ArOK (arGrow all t x) opn ({ p with tail := p.tail ++ x } :: r, n) := by
  refine ⟨by rw [arGrow_len]; exact h.len, h.few, by simp, by have := h.dep; simpa using this, h.root, h.tails, fun q hq => ?_, fun q r' e q' hq' => ?_, [t], fun q r' e => ?_, h2, fun o ho => by rw [arGrow_len]; exact h3 o ho, fun i o q ho hq => ?_⟩
  · cases r with
    | nil => cases hq
    | cons q0 r0 =>
      simp only [List.dropLast_cons_cons, List.mem_cons] at hq
      rcases hq with rfl | hq
      · exact h.names p (by simp)
      · exact h.names q (by simp only [List.dropLast_cons_cons, List.mem_cons]; exact .inr hq)
  · injection e with e1 e2
    subst e1
    exact h.last p r rfl q' hq'
  · injection e with e1 e2
    subst e1
    exact .inr ⟨t, by simp [hp], rfl, ht, arGrow_at hat⟩
  · have hne : o ≠ t := fun e => ht (by rw [← e]; exact List.mem_of_getElem? ho)
    have key : ∀ q', (p :: r)[(p :: r).length - 1 - i]? = some q' → q'.name = q.name → q'.attrs = q.attrs → q'.kids = q.kids → ArPart (arGrow all t x) (opn ++ [t]) o q (if i + 1 = opn.length then [t] else []) (opn.drop (i + 1) |>.take 1) := by
      intro q' hq' e1 e2 e3
      obtain ⟨ks, k1, k2⟩ := h4 i o q' ho hq'
      rw [e1, e2] at k1
      rw [e3] at k2
      exact ⟨ks, by rw [arGrow_other hne]; exact k1, k2.grow (by simp)⟩
    simp only [List.length_cons] at hq
    cases hj : r.length + 1 - 1 - i with
    | zero =>
      rw [hj] at hq
      injection hq with hq
      subst hq
      exact key p (by simp only [List.length_cons]; rw [hj]; rfl) rfl rfl rfl
    | succ j =>
      rw [hj, List.getElem?_cons_succ] at hq
      exact key q (by simp only [List.length_cons]; rw [hj, List.getElem?_cons_succ]; exact hq) rfl rfl rfl
theorem ArOK.growing {all : List ArN} {opn : List Nat} {p : PartL} {r : List PartL} {n : Nat} (h : ArOK all opn (p :: r, n)) (hp : p.tail ≠ []) : ∃ a t ks, opn[opn.length - 1]? = some a ∧ a < all.length ∧ all[a]? = some (⟨p.name, p.attrs, []⟩, ks ++ [t]) ∧ ks.length = p.kids.length ∧ all[t]? = some (⟨[], [], p.tail⟩, []) ∧ ∀ x, ArOK (arGrow all t x) opn ({ p with tail := p.tail ++ x } :: r, n) := by
  obtain ⟨tl, h1, h2, h3, h4⟩ := h.hot
  have hd := h.dep
  simp only [List.length_cons] at hd
  obtain ⟨a, ha⟩ : ∃ a, opn[opn.length - 1]? = some a := ⟨_, List.getElem?_eq_getElem (by omega)⟩
  obtain ⟨ks, k1, k2⟩ := h4 (opn.length - 1) a p ha (by simp [hd])
  have e1 : opn.length - 1 + 1 = opn.length := by omega
  rw [if_pos e1, e1, List.drop_length, List.take_nil, List.append_nil] at k1
  rcases h1 p r rfl with ⟨e, _⟩ | ⟨t, _, e, e2, e3⟩
  · exact absurd e hp
  · subst e
    exact ⟨a, t, ks, ha, h3 a (List.mem_of_getElem? ha), k1, by rw [k2.len, Tr.len_of], e3, fun x => arOK_growT h hp e2 h2 h3 h4 e3⟩
theorem arOK_text {all : List ArN} {opn : List Nat} {p : PartL} {r : List PartL} {n a : Nat} {x : List UInt8} (h : ArOK all opn (p :: r, n)) (hp : p.tail = []) (hx : x ≠ []) (hn : n ≠ 5000) (ha : opn[opn.length - 1]? = some a) :
    ArOK (arPut all a ⟨[], [], x⟩) opn ({ p with tail := x } :: r, n + 1) := by
  obtain ⟨tl, h1, h2, h3, h4⟩ := h.hot
  have e : tl = [] := by
    rcases h1 p r rfl with ⟨_, e⟩ | ⟨t, e, _⟩
    · exact e
    · exact absurd hp e
  subst e
  have hl := h.len
  have hf := h.few
  have hd := h.dep
  simp only at hl hf
  simp only [List.length_cons] at hd
  have ham : a ∈ opn := List.mem_of_getElem? ha
  have hal := h3 a ham
  refine ⟨by rw [arPut_len, hl], by show n + 1 ≤ 5000; omega, by simp, by simpa using hd, h.root, h.tails, fun q hq => ?_, fun q r' e q' hq' => ?_, [all.length], fun q r' e => ?_, h2, fun o ho => by rw [arPut_len]; have := h3 o ho; omega, fun i o q ho hq => ?_⟩
  · cases r with
    | nil => cases hq
    | cons q0 r0 =>
      simp only [List.dropLast_cons_cons, List.mem_cons] at hq
      rcases hq with rfl | hq
      · exact h.names p (by simp)
      · exact h.names q (by simp only [List.dropLast_cons_cons, List.mem_cons]; exact .inr hq)
  · injection e with e1 e2
    subst e1
    exact h.last p r rfl q' hq'
  · injection e with e1 e2
    subst e1
    exact .inr ⟨all.length, hx, rfl, fun e => by have := h3 _ e; omega, arPut_new hal⟩
  · have key : ∀ q', (p :: r)[(p :: r).length - 1 - i]? = some q' → q'.name = q.name → q'.attrs = q.attrs → q'.kids = q.kids → ArPart (arPut all a ⟨[], [], x⟩) (opn ++ [all.length]) o q (if i + 1 = opn.length then [all.length] else []) (opn.drop (i + 1) |>.take 1) := by
      intro q' hq' e1 e2 e3
      obtain ⟨ks, k1, k2⟩ := h4 i o q' ho hq'
      rw [e1, e2] at k1
      rw [e3] at k2
      have k3 : ArRes (arPut all a ⟨[], [], x⟩) (opn ++ [all.length]) ks (Tr.of q.kids) := (k2.heat (hot' := opn ++ [all.length]) (fun k hk => by
        rcases List.mem_append.1 hk with hk | hk
        · exact .inl (by simpa using hk)
        · rw [List.mem_singleton] at hk; exact .inr (by omega))).put (by simp [ham])
      by_cases hi : i + 1 = opn.length
      · have ho2 : o = a := by
          have : i = opn.length - 1 := by omega
          rw [this, ha] at ho
          injection ho with ho
          exact ho.symm
        subst ho2
        rw [if_pos hi, hi, List.drop_length, List.take_nil, List.append_nil, List.append_nil] at k1
        refine ⟨ks, ?_, k3⟩
        rw [if_pos hi, hi, List.drop_length, List.take_nil, List.append_nil, arPut_at k1]
      · have hne : o ≠ a := fun e => hi (by
          have hil : i < opn.length := (List.getElem?_eq_some_iff.1 ho).1
          have := (List.getElem?_inj hil h2).1 (show opn[i]? = opn[opn.length - 1]? by rw [ho, ha, e])
          omega)
        refine ⟨ks, ?_, k3⟩
        rw [if_neg hi] at k1 ⊢
        rw [arPut_other hne (h3 o (List.mem_of_getElem? ho))]
        exact k1
    simp only [List.length_cons] at hq
    cases hj : r.length + 1 - 1 - i with
    | zero =>
      rw [hj] at hq
      injection hq with hq
      subst hq
      exact key p (by simp only [List.length_cons]; rw [hj]; rfl) rfl rfl rfl
    | succ j =>
      rw [hj, List.getElem?_cons_succ] at hq
      exact key q (by simp only [List.length_cons]; rw [hj, List.getElem?_cons_succ]; exact hq) rfl rfl rfl
end Go.Proofs.YtiejmkjpgjbodaaGreatDoor

namespace Go.Proofs.YtiejmkjpgjbodaaGreatDoor
open Go.RowKit
set_option linter.unusedVariables false
set_option linter.unusedSimpArgs false
set_option maxRecDepth 100000
theorem ArRes.of_app {all : List ArN} {hot a b : List Nat} {A B : List (NdH × Tr)} (ha : ArRes all hot a (Tr.of A)) (hb : ArRes all hot b (Tr.of B)) : ArRes all hot (a ++ b) (Tr.of (A ++ B)) := by
  have e : Tr.of (A ++ B) = (Tr.of A).app (Tr.of B) := by
    apply Tr.list_inj
    rw [Tr.list_of, Tr.list_app, Tr.list_of, Tr.list_of]
  rw [e]; exact ha.app hb
theorem arOK_close {all : List ArN} {opn : List Nat} {p q : PartL} {r : List PartL} {n : Nat} (h : ArOK all opn (p :: q :: r, n)) : ArOK all opn.dropLast (closeTop (p :: q :: r), n) := by
  obtain ⟨a, tl, ks, ha, hal, hat, hks, htl⟩ := h.inner
  obtain ⟨tl', h1, h2, h3, h4⟩ := h.hot
  have hd := h.dep
  simp only [List.length_cons] at hd
  have hlen : opn.dropLast.length = r.length + 1 := by rw [List.length_dropLast]; omega
  have hpn : p.name ≠ [] := h.names p (by simp)
  have hqt : q.tail = [] := h.tails q (by simp)
  have hget : ∀ i, i < r.length + 1 → opn.dropLast[i]? = opn[i]? := fun i hi => by
    rw [List.getElem?_dropLast, if_pos (by omega)]
  have hsub : ∀ k, k ∈ opn.dropLast → k ∈ opn := fun k hk => (List.dropLast_sublist opn).subset hk
  have hna : a ∉ opn.dropLast := fun hm => by
    obtain ⟨i, hi⟩ := List.getElem?_of_mem hm
    have hil : i < r.length + 1 := by have := (List.getElem?_eq_some_iff.1 hi).1; omega
    rw [hget i hil] at hi
    have := (List.getElem?_inj (by omega) h2).1 (show opn[i]? = opn[opn.length - 1]? by rw [hi, ha])
    omega
  have hfin : ArRes all opn.dropLast (ks ++ tl) (Tr.of (endTextL p).kids) := by
    have k1 : ArRes all opn.dropLast ks (Tr.of p.kids) := hks.cool (fun k hk => by simp [hsub k hk])
    unfold endTextL
    rcases htl with ⟨e1, e2⟩ | ⟨t, e1, e2, e3, e4⟩
    · rw [if_pos e1, e2, List.append_nil]; exact k1
    · rw [if_neg e1, e2]
      exact k1.of_app (B := [textNd p.tail]) (.one e4 (fun hm => e3 (hsub t hm)) .nil)
  have hnode : ArRes all opn.dropLast [a] (Tr.of [(endTextL p).node]) := by
    have e : (endTextL p).node = (⟨p.name, p.attrs, []⟩, Tr.of (endTextL p).kids) := by
      unfold PartL.node endTextL
      split <;> rfl
    rw [e]
    exact .one hat hna hfin
  refine ⟨h.len, h.few, by simp [closeTop], by simp only [closeTop, List.length_cons]; omega, by rw [hget 0 (by omega)]; exact h.root, fun z hz => h.tails z (by simp only [closeTop, List.tail_cons] at hz ⊢; exact List.mem_cons_of_mem _ hz), fun z hz => ?_, fun z r' e z' hz' => ?_, [], fun z r' e => ?_, ?_, fun o ho => h3 o (hsub o ho), fun i o z ho hz => ?_⟩
  · simp only [closeTop] at hz
    cases r with
    | nil => cases hz
    | cons q0 r0 =>
      simp only [List.dropLast_cons_cons, List.mem_cons] at hz
      rcases hz with rfl | hz
      · exact h.names q (by simp)
      · exact h.names z (by simp only [List.dropLast_cons_cons, List.mem_cons]; exact .inr (.inr hz))
  · simp only [closeTop] at e
    injection e with e1 e2
    subst e1
    simp only [List.getLast?_concat, Option.some.injEq] at hz'
    subst hz'
    show (endTextL p).name ≠ []
    unfold endTextL
    split <;> exact hpn
  · simp only [closeTop] at e
    injection e with e1 e2
    subst e1
    exact .inl ⟨hqt, rfl⟩
  · exact h2.sublist (List.dropLast_sublist _)
  · simp only [closeTop, List.length_cons] at hz
    have hil : i < r.length + 1 := by have := (List.getElem?_eq_some_iff.1 ho).1; omega
    rw [hget i hil] at ho
    rw [List.append_nil]
    cases hj : r.length + 1 - 1 - i with
    | zero =>
      have hi : i = r.length := by omega
      rw [hj] at hz
      injection hz with hz
      subst hz
      obtain ⟨kq, k1, k2⟩ := h4 i o q ho (by simp only [List.length_cons]; rw [show r.length + 1 + 1 - 1 - i = 1 by omega]; rfl)
      have hdr : (opn.drop (i + 1)).take 1 = [a] := by
        rw [show i + 1 = opn.length - 1 by omega, List.drop_eq_getElem_cons (by omega), List.take_succ_cons, List.take_zero]
        rw [List.getElem?_eq_getElem (by omega)] at ha
        rw [Option.some.inj ha]
      rw [if_neg (by omega), List.append_nil, hdr] at k1
      have hdd : (opn.dropLast.drop (i + 1)).take 1 = [] := by rw [List.drop_eq_nil_of_le (by omega)]; rfl
      refine ⟨kq ++ [a], ?_, (k2.cool (fun k hk => by simp [hsub k hk])).of_app hnode⟩
      rw [hdd]
      simpa using k1
    | succ j =>
      rw [hj, List.getElem?_cons_succ] at hz
      obtain ⟨kq, k1, k2⟩ := h4 i o z ho (by
        simp only [List.length_cons]
        rw [show r.length + 1 + 1 - 1 - i = j + 1 + 1 by omega, List.getElem?_cons_succ, List.getElem?_cons_succ]; exact hz)
      have hdd : (opn.dropLast.drop (i + 1)).take 1 = (opn.drop (i + 1)).take 1 := by
        apply List.ext_getElem?
        intro m
        rw [List.getElem?_take, List.getElem?_take]
        split
        · rw [List.getElem?_drop, List.getElem?_drop, hget _ (by omega)]
        · rfl
      rw [if_neg (by omega)] at k1
      refine ⟨kq, ?_, k2.cool (fun k hk => by simp [hsub k hk])⟩
      rw [hdd]
      simpa using k1
end Go.Proofs.YtiejmkjpgjbodaaGreatDoor

namespace Go.Proofs.YtiejmkjpgjbodaaGreatDoor
open Go.RowKit
set_option linter.unusedVariables false
set_option linter.unusedSimpArgs false
set_option maxRecDepth 100000
theorem endTextL_tail (p : PartL) : (endTextL p).tail = [] := by
  unfold endTextL
  split
  · assumption
  · rfl
theorem endTextL_name (p : PartL) : (endTextL p).name = p.name ∧ (endTextL p).attrs = p.attrs := by unfold endTextL; split <;> exact ⟨rfl, rfl⟩
theorem ArRes.shut {all : List ArN} {opn tl ks : List Nat} {p : PartL} (hks : ArRes all (opn ++ tl) ks (Tr.of p.kids)) (htl : (p.tail = [] ∧ tl = []) ∨ ∃ t, p.tail ≠ [] ∧ tl = [t] ∧ t ∉ opn ∧ all[t]? = some (⟨[], [], p.tail⟩, [])) : ArRes all opn (ks ++ tl) (Tr.of (endTextL p).kids) := by
  have k1 : ArRes all opn ks (Tr.of p.kids) := hks.cool (fun k hk => by simp [hk])
  unfold endTextL
  rcases htl with ⟨e1, e2⟩ | ⟨t, e1, e2, e3, e4⟩
  · rw [if_pos e1, e2, List.append_nil]; exact k1
  · rw [if_neg e1, e2]
    exact k1.of_app (B := [textNd p.tail]) (.one e4 e3 .nil)
theorem arOK_void {all : List ArN} {opn : List Nat} {p : PartL} {r : List PartL} {n a : Nat} {nm : List UInt8} {at' : List AtL} (h : ArOK all opn (p :: r, n)) (hn : n ≠ 5000) (hnm : nm ≠ []) (ha : opn[opn.length - 1]? = some a) :
    ArOK (arPut all a ⟨nm, at', []⟩) opn ({ endTextL p with kids := (endTextL p).kids ++ [(⟨nm, at', []⟩, Tr.nil)] } :: r, n + 1) := by
  obtain ⟨tl, h1, h2, h3, h4⟩ := h.hot
  have hl := h.len
  have hf := h.few
  have hd := h.dep
  simp only at hl hf
  simp only [List.length_cons] at hd
  have ham : a ∈ opn := List.mem_of_getElem? ha
  have hal := h3 a ham
  have hln : all.length ∉ opn := fun e => by have := h3 _ e; omega
  refine ⟨by rw [arPut_len, hl], by show n + 1 ≤ 5000; omega, by simp, by simpa using hd, h.root, h.tails, fun q hq => ?_, fun q r' e q' hq' => ?_, [], fun q r' e => ?_, h2, fun o ho => by rw [arPut_len]; have := h3 o ho; omega, fun i o q ho hq => ?_⟩
  · cases r with
    | nil => cases hq
    | cons q0 r0 =>
      simp only [List.dropLast_cons_cons, List.mem_cons] at hq
      rcases hq with rfl | hq
      · rw [(endTextL_name p).1]; exact h.names p (by simp)
      · exact h.names q (by simp only [List.dropLast_cons_cons, List.mem_cons]; exact .inr hq)
  · injection e with e1 e2
    subst e1
    simp only [List.getLast?_concat, Option.some.injEq] at hq'
    subst hq'
    exact hnm
  · injection e with e1 e2
    subst e1
    exact .inl ⟨endTextL_tail p, rfl⟩
  · rw [List.append_nil]
    simp only [List.length_cons] at hq
    cases hj : r.length + 1 - 1 - i with
    | zero =>
      have hil : i < opn.length := (List.getElem?_eq_some_iff.1 ho).1
      have hi : i = opn.length - 1 := by omega
      rw [hj] at hq
      injection hq with hq
      subst hq
      have hoa : o = a := by rw [hi, ha] at ho; injection ho with ho; exact ho.symm
      subst hoa
      obtain ⟨ks, k1, k2⟩ := h4 i o p ho (by simp only [List.length_cons]; rw [hj]; rfl)
      have e1 : i + 1 = opn.length := by omega
      rw [if_pos e1, e1, List.drop_length, List.take_nil, List.append_nil] at k1
      rw [if_pos e1, e1, List.drop_length, List.take_nil]
      refine ⟨ks ++ tl ++ [all.length], ?_, ?_⟩
      · rw [arPut_at k1, List.append_nil, List.append_nil]
        simp only [(endTextL_name p).1, (endTextL_name p).2]
      · exact ((k2.shut (h1 p r rfl)).put ham).of_app (B := [(⟨nm, at', []⟩, Tr.nil)]) (.one (arPut_new hal) hln .nil)
    | succ j =>
      have hil : i < opn.length := (List.getElem?_eq_some_iff.1 ho).1
      rw [hj, List.getElem?_cons_succ] at hq
      have hi : ¬ i + 1 = opn.length := by omega
      have hne : o ≠ a := fun e => hi (by
        have := (List.getElem?_inj hil h2).1 (show opn[i]? = opn[opn.length - 1]? by rw [ho, ha, e])
        omega)
      obtain ⟨ks, k1, k2⟩ := h4 i o q ho (by simp only [List.length_cons]; rw [hj, List.getElem?_cons_succ]; exact hq)
      rw [if_neg hi] at k1
      refine ⟨ks, ?_, (k2.cool (fun k hk => by simp [hk])).put ham⟩
      rw [arPut_other hne (h3 o (List.mem_of_getElem? ho))]
      simpa using k1
end Go.Proofs.YtiejmkjpgjbodaaGreatDoor

namespace Go.Proofs.YtiejmkjpgjbodaaGreatDoor
open Go.RowKit
set_option linter.unusedVariables false
set_option linter.unusedSimpArgs false
set_option maxRecDepth 100000
theorem arOK_open {all : List ArN} {opn : List Nat} {p : PartL} {r : List PartL} {n a : Nat} {nm : List UInt8} {at' : List AtL} (h : ArOK all opn (p :: r, n)) (hn : n ≠ 5000) (hnm : nm ≠ []) (ha : opn[opn.length - 1]? = some a) :
    ArOK (arPut all a ⟨nm, at', []⟩) (opn ++ [all.length]) (⟨nm, at', [], []⟩ :: endTextL p :: r, n + 1) := by
  obtain ⟨tl, h1, h2, h3, h4⟩ := h.hot
  have hl := h.len
  have hf := h.few
  have hd := h.dep
  have hr0 := h.root
  simp only at hl hf
  simp only [List.length_cons] at hd
  have ham : a ∈ opn := List.mem_of_getElem? ha
  have hal := h3 a ham
  have hln : all.length ∉ opn := fun e => by have := h3 _ e; omega
  have hol : (opn ++ [all.length]).length = opn.length + 1 := by simp
  refine ⟨by rw [arPut_len, hl], by show n + 1 ≤ 5000; omega, by simp, by rw [hol]; simp only [List.length_cons]; omega, by rw [List.getElem?_append_left (by omega)]; exact hr0, fun q hq => ?_, fun q hq => ?_, fun q r' e q' hq' => ?_, [], fun q r' e => ?_, ?_, fun o ho => ?_, fun i o q ho hq => ?_⟩
  · simp only [List.tail_cons, List.mem_cons] at hq
    rcases hq with rfl | hq
    · exact endTextL_tail p
    · exact h.tails q (by simpa using hq)
  · simp only [List.dropLast_cons_cons, List.mem_cons] at hq
    rcases hq with rfl | hq
    · exact hnm
    · cases r with
      | nil => cases hq
      | cons q0 r0 =>
        simp only [List.dropLast_cons_cons, List.mem_cons] at hq
        rcases hq with rfl | hq
        · rw [(endTextL_name p).1]; exact h.names p (by simp)
        · exact h.names q (by simp only [List.dropLast_cons_cons, List.mem_cons]; exact .inr hq)
  · injection e with e1 e2
    subst e1
    cases hq'
  · injection e with e1 e2
    subst e1
    exact .inl ⟨rfl, rfl⟩
  · refine List.nodup_append.2 ⟨h2, by simp, fun x hx y hy => ?_⟩
    rw [List.mem_singleton] at hy
    subst hy
    exact fun e => hln (by rw [← e]; exact hx)
  · rw [arPut_len]
    rcases List.mem_append.1 ho with ho | ho
    · have := h3 o ho; omega
    · rw [List.mem_singleton] at ho; omega
  · rw [List.append_nil]
    simp only [List.length_cons] at hq
    have hheat : ∀ {ks : List Nat} {T : Tr}, ArRes all opn ks T → ArRes (arPut all a ⟨nm, at', []⟩) (opn ++ [all.length]) ks T := fun hk => (hk.heat (hot' := opn ++ [all.length]) (fun k hk => by
      rcases List.mem_append.1 hk with hk | hk
      · exact .inl hk
      · rw [List.mem_singleton] at hk; exact .inr (by omega))).put (by simp [ham])
    have hil : i < opn.length + 1 := by have := (List.getElem?_eq_some_iff.1 ho).1; omega
    by_cases hi0 : i = opn.length
    · subst hi0
      rw [List.getElem?_append_right (Nat.le_refl _), Nat.sub_self] at ho
      injection ho with ho
      subst ho
      rw [show r.length + 1 + 1 - 1 - opn.length = 0 by omega] at hq
      injection hq with hq
      subst hq
      refine ⟨[], ?_, .nil⟩
      rw [arPut_new hal, List.drop_eq_nil_of_le (by omega)]
      simp
    · rw [List.getElem?_append_left (by omega)] at ho
      cases hj : r.length + 1 - 1 - i with
      | zero =>
        have hi : i = opn.length - 1 := by omega
        rw [show r.length + 1 + 1 - 1 - i = 0 + 1 by omega, List.getElem?_cons_succ] at hq
        injection hq with hq
        subst hq
        have hoa : o = a := by rw [hi, ha] at ho; injection ho with ho; exact ho.symm
        subst hoa
        obtain ⟨ks, k1, k2⟩ := h4 i o p ho (by simp only [List.length_cons]; rw [hj]; rfl)
        have e1 : i + 1 = opn.length := by omega
        rw [if_pos e1, e1, List.drop_length, List.take_nil, List.append_nil] at k1
        refine ⟨ks ++ tl, ?_, hheat (k2.shut (h1 p r rfl))⟩
        rw [if_neg (by omega), e1, List.drop_left' rfl, arPut_at k1]
        simp only [(endTextL_name p).1, (endTextL_name p).2, List.append_nil]
        rfl
      | succ j =>
        rw [show r.length + 1 + 1 - 1 - i = j + 1 + 1 by omega, List.getElem?_cons_succ, List.getElem?_cons_succ] at hq
        have hi : ¬ i + 1 = opn.length := by omega
        have hne : o ≠ a := fun e => hi (by
          have := (List.getElem?_inj (by omega) h2).1 (show opn[i]? = opn[opn.length - 1]? by rw [ho, ha, e])
          omega)
        obtain ⟨ks, k1, k2⟩ := h4 i o q ho (by simp only [List.length_cons]; rw [hj, List.getElem?_cons_succ]; exact hq)
        rw [if_neg hi] at k1
        refine ⟨ks, ?_, hheat (k2.cool (fun k hk => by simp [hk]))⟩
        rw [if_neg (by omega), arPut_other hne (h3 o (List.mem_of_getElem? ho)), List.drop_append_of_le_length (by omega), List.take_append_of_le_length (by rw [List.length_drop]; omega)]
        simpa using k1
end Go.Proofs.YtiejmkjpgjbodaaGreatDoor

namespace Go.Proofs.YtiejmkjpgjbodaaGreatDoor
open Go.RowKit
set_option linter.unusedVariables false
set_option linter.unusedSimpArgs false
set_option maxRecDepth 100000
theorem arOK_closeN {all : List ArN} {n : Nat} : ∀ (m : Nat) (opn : List Nat) (st : List PartL), ArOK all opn (st, n) → m < st.length → ArOK all (opn.take (opn.length - m)) (closeN m st, n)
  | 0, opn, st, h, _ => by rw [Nat.sub_zero, List.take_length]; exact h
  | m + 1, opn, st, h, hm => by
    match st, h, hm with
    | [p], h, hm => simp at hm
    | p :: q :: r, h, hm =>
      have h1 := arOK_close h
      have h2 := arOK_closeN m _ _ h1 (by simp only [closeTop, List.length_cons] at hm ⊢; omega)
      have e : opn.dropLast.take (opn.dropLast.length - m) = opn.take (opn.length - (m + 1)) := by
        rw [List.dropLast_eq_take, List.take_take, List.length_take]
        congr 1
        omega
      rw [e] at h2
      exact h2
theorem arOK_end {all : List ArN} {opn : List Nat} {st : List PartL} {n : Nat} (h : ArOK all opn (st, n)) : ∃ h' ks hot, all[0]? = some (h', ks) ∧ ArRes all hot ks (endTree st) := by
  have hne := h.ne
  have hpos : 0 < st.length := List.length_pos_iff.2 hne
  have h1 := arOK_closeN (st.length - 1) opn st h (by omega)
  have hlen := closeN_length (st.length - 1) st (by omega)
  have h2 := h.dep
  simp only at h2
  obtain ⟨p, hp⟩ : ∃ p, closeN (st.length - 1) st = [p] := List.length_eq_one_iff.1 (by rw [hlen]; omega)
  rw [hp] at h1
  obtain ⟨a, tl, ks, ha, _, hat, hks, htl⟩ := h1.inner
  have hr := h1.root
  have hd := h1.dep
  simp only [List.length_cons, List.length_nil] at hd
  rw [hd] at ha
  rw [show (0 + 1 - 1 : Nat) = 0 from rfl, hr] at ha
  injection ha with ha
  subst ha
  have he : endTree st = Tr.of (endTextL p).kids := by unfold endTree; rw [hp]
  exact ⟨_, _, List.take (opn.length - (st.length - 1)) opn, hat, by rw [he]; exact hks.shut htl⟩
end Go.Proofs.YtiejmkjpgjbodaaGreatDoor

namespace Go.Proofs.YtiejmkjpgjbodaaGreatDoor
open Go.RowKit
set_option linter.unusedVariables false
set_option linter.unusedSimpArgs false
set_option maxRecDepth 100000
theorem ArOK.node {all : List ArN} {opn : List Nat} {s : BsL} (h : ArOK all opn s) {i o : Nat} {p : PartL} (ho : opn[i]? = some o) (hp : s.1[s.1.length - 1 - i]? = some p) : ∃ ls, all[o]? = some (⟨p.name, p.attrs, []⟩, ls) := by
  obtain ⟨tl, _, _, _, h4⟩ := h.hot
  obtain ⟨ks, k1, _⟩ := h4 i o p ho hp
  exact ⟨_, k1⟩
def backF (is : List UInt8 → Bool) (nm : Nat → List UInt8) : Nat → Nat
  | 0 => 0
  | i + 1 => if is (nm (i + 1)) = true then i + 1 else if wallB (nm (i + 1)) = true then 0 else backF is nm i
theorem backF_le (is : List UInt8 → Bool) (nm : Nat → List UInt8) : ∀ i, backF is nm i ≤ i
  | 0 => Nat.le_refl _
  | i + 1 => by
    simp only [backF]
    split
    · exact Nat.le_refl _
    · split
      · omega
      · have := backF_le is nm i; omega
theorem back_find (is : List UInt8 → Bool) (nm : Nat → List UInt8) : ∀ st : List PartL, (∀ i, i < st.length → ∃ p, st[st.length - 1 - i]? = some p ∧ nm i = p.name) →
    findP is st = if backF is nm (st.length - 1) = 0 then none else some (st.length - backF is nm (st.length - 1))
  | [], _ => rfl
  | [p], _ => rfl
  | p :: q :: r, h => by
    have ih := back_find is nm (q :: r) (fun i hi => by
      obtain ⟨z, h1, h2⟩ := h i (by simp only [List.length_cons] at hi ⊢; omega)
      refine ⟨z, ?_, h2⟩
      simp only [List.length_cons] at hi h1 ⊢
      rw [show r.length + 1 + 1 - 1 - i = (r.length + 1 - 1 - i) + 1 by omega, List.getElem?_cons_succ] at h1
      exact h1)
    obtain ⟨z, h1, h2⟩ := h (r.length + 1) (by simp)
    simp only [List.length_cons] at h1
    rw [show r.length + 1 + 1 - 1 - (r.length + 1) = 0 by omega] at h1
    injection h1 with h1
    subst h1
    have hb := backF_le is nm r.length
    simp only [List.length_cons, Nat.add_sub_cancel] at ih ⊢
    rw [findP, ih, backF, h2]
    split
    · rw [if_neg (by omega)]; congr 1; omega
    · split
      · rfl
      · split
        · rfl
        · simp only [Option.map_some]; congr 1; omega
end Go.Proofs.YtiejmkjpgjbodaaGreatDoor

namespace Go.Proofs.YtiejmkjpgjbodaaGreatDoor
open Go.RowKit
set_option linter.unusedVariables false
set_option linter.unusedSimpArgs false
set_option maxRecDepth 100000
def kidsW (l : List (NdH × Tr)) : Nat := (Tr.of l).count
theorem kidsW_append (a b : List (NdH × Tr)) : kidsW (a ++ b) = kidsW a + kidsW b := by
  induction a with
  | nil => simp [kidsW, Tr.of, Tr.count]
  | cons p r ih => obtain ⟨h, k⟩ := p; simp only [kidsW, List.cons_append, Tr.of, Tr.count] at ih ⊢; omega
theorem kidsW_len (l : List (NdH × Tr)) : l.length ≤ kidsW l := by rw [← Tr.len_of]; exact Tr.len_count _
def tailW (x : List UInt8) : Nat := if x = [] then 0 else 1
def PartL.wt (p : PartL) : Nat := kidsW p.kids + tailW p.tail
def stW : List PartL → Nat
  | [] => 0
  | [p] => p.wt
  | p :: r => p.wt + 1 + stW r
theorem stW_cons (p q : PartL) (r : List PartL) : stW (p :: q :: r) = p.wt + 1 + stW (q :: r) := rfl
theorem endText_wt (p : PartL) : (endTextL p).wt = p.wt := by
  unfold endTextL
  split
  · rfl
  · rename_i h
    simp only [PartL.wt, kidsW_append, tailW, if_neg h, if_true]
    simp [kidsW, textNd, Tr.of, Tr.count]
theorem endText_tail (p : PartL) : (endTextL p).tail = [] := by unfold endTextL; split <;> first | assumption | rfl
theorem endText_head (p : PartL) : (endTextL p).name = p.name ∧ (endTextL p).attrs = p.attrs := by unfold endTextL; split <;> exact ⟨rfl, rfl⟩
theorem endText_kids_wt (p : PartL) : kidsW (endTextL p).kids = p.wt := by
  have := endText_wt p
  rw [← this, PartL.wt, endText_tail]; rfl
theorem node_wt (p : PartL) : kidsW [p.node] = 1 + kidsW p.kids := by simp [kidsW, PartL.node, Tr.of, Tr.count]
theorem closeTop_wt (st : List PartL) : stW (closeTop st) = stW st := by
  match st with
  | [] => rfl
  | [p] => rfl
  | p :: q :: r =>
    have h1 : ({ q with kids := q.kids ++ [(endTextL p).node] } : PartL).wt = q.wt + (1 + p.wt) := by
      simp only [PartL.wt, kidsW_append, node_wt, endText_kids_wt]
      omega
    cases r with
    | nil => show PartL.wt _ = p.wt + 1 + q.wt; rw [h1]; omega
    | cons x y => show PartL.wt _ + 1 + stW (x :: y) = p.wt + 1 + (q.wt + 1 + stW (x :: y)); rw [h1]; omega
theorem closeN_wt (n : Nat) (st : List PartL) : stW (closeN n st) = stW st := by
  induction n generalizing st with
  | zero => rfl
  | succ n ih => rw [closeN, ih, closeTop_wt]
theorem closeAll_wt (is : List UInt8 → Bool) (f : Nat) (st : List PartL) : stW (closeAll is f st) = stW st := by
  induction f generalizing st with
  | zero => rfl
  | succ f ih =>
    rw [closeAll]
    split
    · rfl
    · rw [ih, closeN_wt]
theorem stW_head {p p' : PartL} (r : List PartL) (k : Nat) (h : p'.wt = p.wt + k) : stW (p' :: r) = stW (p :: r) + k := by
  cases r with
  | nil => exact h
  | cons q r => rw [stW_cons, stW_cons, h]; omega
theorem putP_cons (t : TokL) (p : PartL) (r : List PartL) (n : Nat) : putP t (p :: r) n = if voidB t.name = true ∨ 30 < (p :: r).length then ({ endTextL p with kids := (endTextL p).kids ++ [(⟨t.name, t.attrs, []⟩, Tr.nil)] } :: r, n + 1)
    else (⟨t.name, t.attrs, [], []⟩ :: endTextL p :: r, n + 1) := rfl
theorem charsP_cons (x : List UInt8) (p : PartL) (r : List PartL) (n : Nat) : charsP x (p :: r, n) = if p.tail = [] then (if n = 5000 then (p :: r, n) else ({ p with tail := x } :: r, n + 1)) else ({ p with tail := p.tail ++ x } :: r, n) := rfl
theorem put_wt (t : TokL) (st : List PartL) (n : Nat) (hs : st ≠ []) : stW (putP t st n).1 = stW st + 1 ∧ (putP t st n).2 = n + 1 ∧ (putP t st n).1 ≠ [] ∧ (putP t st n).1.length ≤ max st.length 31 := by
  match st, hs with
  | p :: r, _ =>
    rw [putP_cons]
    split
    · refine ⟨?_, rfl, by simp, by simp only [List.length_cons]; omega⟩
      refine stW_head r 1 ?_
      have := endText_wt p
      unfold PartL.wt at this ⊢
      rw [kidsW_append, ← this]
      simp only [kidsW, Tr.of, Tr.count]; omega
    · rename_i hc
      refine ⟨?_, rfl, by simp, by simp only [not_or, List.length_cons] at hc ⊢; omega⟩
      show stW (⟨t.name, t.attrs, [], []⟩ :: endTextL p :: r) = _
      rw [stW_cons, stW_head (p := p) r 0 (by rw [endText_wt]; rfl)]
      simp [PartL.wt, kidsW, tailW, Tr.of, Tr.count]; omega
def OkS (s : BsL) : Prop := s.1 ≠ [] ∧ stW s.1 ≤ s.2 ∧ s.2 ≤ 5000 ∧ s.1.length ≤ 31
theorem tok_ok {s : BsL} (h : OkS s) (t : TokL) : OkS (tokB s t) ∧ (tokB s t).2 ≤ s.2 + 1 := by
  obtain ⟨st, n⟩ := s
  obtain ⟨h1, h2, h3, h4⟩ := h
  simp only at h1 h2 h3 h4
  unfold tokB
  split
  · match st, h1 with
    | p :: r, h1 =>
      rw [charsP_cons]
      split
      · rename_i ht
        split
        · exact ⟨⟨h1, h2, h3, h4⟩, Nat.le_succ _⟩
        · rename_i hn
          refine ⟨⟨by simp, ?_, by simp only; omega, h4⟩, Nat.le_refl _⟩
          have : stW ({ p with tail := t.text } :: r) = stW (p :: r) + tailW t.text := stW_head r _ (by simp [PartL.wt, ht, tailW])
          rw [this]
          have : tailW t.text ≤ 1 := by unfold tailW; split <;> omega
          omega
      · rename_i ht
        refine ⟨⟨by simp, ?_, h3, h4⟩, Nat.le_succ _⟩
        have : stW ({ p with tail := p.tail ++ t.text } :: r) = stW (p :: r) + 0 := stW_head r _ (by simp [PartL.wt, ht, tailW])
        rw [this]; exact h2
  · split
    · unfold startP
      simp only
      have g1 := closeAll_wt (closesB t.name) st.length st
      have g2 := closeAll_length (closesB t.name) st.length st
      split
      · exact ⟨⟨g2.2 h1, by rw [g1]; exact h2, h3, Nat.le_trans g2.1 h4⟩, Nat.le_succ _⟩
      · rename_i hn
        obtain ⟨p1, p2, p3, p4⟩ := put_wt t (closeAll (closesB t.name) st.length st) n (g2.2 h1)
        refine ⟨⟨p3, ?_, by rw [p2]; omega, by omega⟩, by rw [p2]; exact Nat.le_refl _⟩
        rw [p1, p2, g1]; omega
    · split
      · unfold endP
        simp only
        split
        · exact ⟨⟨h1, h2, h3, h4⟩, Nat.le_succ _⟩
        · rename_i k hk
          obtain ⟨k1, k2⟩ := findP_lt hk
          have := closeN_length k st k2
          exact ⟨⟨fun e => by have e : closeN k st = [] := e; rw [e] at this; simp only [List.length_nil] at this; omega, by simp only [closeN_wt]; exact h2, h3, by simp only; omega⟩, Nat.le_succ _⟩
      · exact ⟨⟨h1, h2, h3, h4⟩, Nat.le_succ _⟩
theorem ok_root : OkS ([rootL], 0) := ⟨by simp, Nat.le_refl _, by omega, by simp⟩
theorem fold_ok (L : List TokL) {s : BsL} (h : OkS s) : OkS (L.foldl tokB s) ∧ (L.foldl tokB s).2 ≤ s.2 + L.length := by
  induction L generalizing s with
  | nil => exact ⟨h, Nat.le_refl _⟩
  | cons t r ih =>
    obtain ⟨a, b⟩ := tok_ok h t
    obtain ⟨c, d⟩ := ih a
    exact ⟨c, by simp only [List.foldl_cons, List.length_cons]; omega⟩
theorem endTree_count (st : List PartL) (h : st ≠ []) : (endTree st).count = stW st := by
  unfold endTree
  have hl : 0 < st.length := List.length_pos_iff.2 h
  have h1 := closeN_length (st.length - 1) st (by omega)
  have h2 := closeN_wt (st.length - 1) st
  match hm : closeN (st.length - 1) st, h1 with
  | [p], _ => rw [hm] at h2; rw [← h2]; exact endText_kids_wt p
  | [], h1 => simp only [List.length_nil] at h1; omega
  | _ :: _ :: _, h1 => simp only [List.length_cons] at h1; omega
theorem build_count (L : List TokL) : (buildP L).count ≤ 5000 ∧ (buildP L).count ≤ L.length := by
  obtain ⟨⟨h1, h2, h3, h4⟩, h5⟩ := fold_ok L ok_root
  unfold buildP
  rw [endTree_count _ h1]
  simp only at h5
  omega
end Go.Proofs.YtiejmkjpgjbodaaGreatDoor

namespace Go.Proofs.YtiejmkjpgjbodaaGreatDoor
open Go.RowKit
set_option linter.unusedVariables false
set_option linter.unusedSimpArgs false
set_option maxRecDepth 100000
end Go.Proofs.YtiejmkjpgjbodaaGreatDoor

namespace Go.Proofs.YtiejmkjpgjbodaaGreatDoor
open Go.RowKit
set_option linter.unusedVariables false
set_option linter.unusedSimpArgs false
set_option maxRecDepth 100000
section
variable {P : Program} (w : World)
theorem run_append_own2 (base : Nat) (t ty e : TypeId) (i : TypeInfo) (z : Value) (size bytes : Nat) (ht : P.underlying t = some (.slice e)) (hi : P.info? e = some i) (hz : i.zero = some z)
    (hsize : i.size = size) (hby : i.bytes = bytes) (hzs : z.cells.size = size) (hsz : 0 < size)
    (v : Value) (n : Nat) (xs : List Value) (hown : w.ownsRow base e size v n xs)
    (a : Addr) (m c : Nat) (news : List Value) (hl : news.length = m * size) (hnews : ∀ j u, news[j]? = some u → w.cell? (a.add j) = some u) (h1 : ∀ u ∈ news, u.oneCell' = true)
    (h63 : n + m ≤ maxLen) (hbytes : (n + m) * bytes ≤ 140737488355328) (hbase : base ≤ w.heap.size) :
    ∃ v' w', (Builtin.append_ #[t, t] ty #[v, .slice (some a) m c]).run P w = .ok v' w' ∧ w'.ownsRow base e size v' (n + m) (xs ++ news) ∧ w.grownBy w' v.ownBlock ∧
      (v'.ownBlock = v.ownBlock ∨ v'.ownBlock = some w.heap.size) := by
  obtain ⟨v', w', hr, h2, h3, _⟩ := run_append_own (P := P) w base t ty e i z size bytes ht hi hz hsize hby hzs hsz v n xs hown a m c news hl hnews h1 h63 hbytes hbase
  refine ⟨v', w', hr, h2, h3, ?_⟩
  have hsmall : n + m ≤ 9223372036854775807 := by simp only [maxLen] at h63; omega
  subst hsize hby
  rcases hown.2 with ⟨rfl, rfl⟩ | ⟨g, cap, cur, rfl, hbg, hg, hnc, hcm, hcs, htake⟩
  · rcases Nat.eq_zero_or_pos m with hm | hm
    · left
      have hx : w'.ownsRow base e i.size v' 0 (xs ++ news) := by simpa [hm] using h2
      rcases hx.2 with ⟨rfl, _⟩ | ⟨g, cap, cur, rfl, _⟩
      · rfl
      · exfalso
        subst hm
        have hn : news = [] := List.eq_nil_of_length_eq_zero (by simpa using hl)
        subst hn
        simp [Builtin.append_, run_underlying ht, sizeOf, typeInfo, hi, Builtin.lenOf, Builtin.firstCells, loadCells, loadCellsFrom] at hr
    · have hr2 := run_append_nil (P := P) w t ty e i z ht hi hz a m c news hl hnews hm (by omega) (by simp only [Nat.zero_add] at hbytes; omega)
      rw [hr] at hr2
      injection hr2 with e1 e2
      subst e1
      exact .inr rfl
  · by_cases hroom : n + m ≤ cap
    · obtain ⟨w2, hr2, _⟩ := run_append_fits (P := P) w base t ty e i i.size ht hi rfl g n cap xs hown a m c news hl hnews h1 hroom
      rw [hr] at hr2
      injection hr2 with e1 e2
      subst e1
      exact .inl rfl
    · have holds : ∀ j u, xs[j]? = some u → w.cell? ((⟨g, 0, none⟩ : Addr).add j) = some u := hown.cells (g := g) rfl
      have hr2 := run_append_grow (P := P) w t ty e i z ht hi hz ⟨g, 0, none⟩ n cap xs hown.1 holds a m c news hl hnews (by omega) (by omega) (growslice_fits (by omega) hbytes)
      rw [hr] at hr2
      injection hr2 with e1 e2
      subst e1
      exact .inr rfl
theorem wp_append_own2 {o : Oper} {a : Act} {K : Act → World → Prop} {Q : Exit → Act → World → Prop} (s x : Operand) (t : TypeId)
    (ho : o.op = .call { callee := .builtin .append, args := #[s, x], argTypes := #[t, t] })
    (base : Nat) (e : TypeId) (i : TypeInfo) (z : Value) (size bytes : Nat) (ht : P.underlying t = some (.slice e)) (hi : P.info? e = some i) (hz : i.zero = some z)
    (hsize : i.size = size) (hby : i.bytes = bytes) (hzs : z.cells.size = size) (hsz : 0 < size)
    (v : Value) (n : Nat) (xs : List Value) (hs : a.eval s = v) (hown : w.ownsRow base e size v n xs)
    (ad : Addr) (m c : Nat) (news : List Value) (hx : a.eval x = .slice (some ad) m c) (hl : news.length = m * size) (hnews : ∀ j u, news[j]? = some u → w.cell? (ad.add j) = some u) (h1 : ∀ u ∈ news, u.oneCell' = true)
    (h63 : n + m ≤ maxLen) (hbytes : (n + m) * bytes ≤ 140737488355328) (hbase : base ≤ w.heap.size)
    (h : ∀ v' w', w'.ownsRow base e size v' (n + m) (xs ++ news) → w.grownBy w' v.ownBlock → (v'.ownBlock = v.ownBlock ∨ v'.ownBlock = some w.heap.size) → K (a.put o.dst v') w') : o.wp P a w K Q := by
  obtain ⟨v', w', hr, h2, h3, h4⟩ := run_append_own2 (P := P) w base t o.type e i z size bytes ht hi hz hsize hby hzs hsz v n xs hown ad m c news hl hnews h1 h63 hbytes hbase
  unfold Oper.wp execOp
  simp only [ho, resolve, invoke, builtin, Sem.run_bind, Sem.run_pure, Result.andThen_ok, List.map_toArray, List.map_cons, List.map_nil, hs, hx, hr]
  exact h v' w' h2 h3 h4
theorem wpList_append_own2 {ops : Array Oper} {rest : List Oper} {o : Oper} {a : Act} {Q : Exit → Act → World → Prop} (hgd : o.guard = none) (s x : Operand) (t : TypeId)
    (ho : o.op = .call { callee := .builtin .append, args := #[s, x], argTypes := #[t, t] })
    (base : Nat) (e : TypeId) (i : TypeInfo) (z : Value) (size bytes : Nat) (ht : P.underlying t = some (.slice e)) (hi : P.info? e = some i) (hz : i.zero = some z)
    (hsize : i.size = size) (hby : i.bytes = bytes) (hzs : z.cells.size = size) (hsz : 0 < size)
    (v : Value) (n : Nat) (xs : List Value) (hs : a.eval s = v) (hown : w.ownsRow base e size v n xs)
    (ad : Addr) (m c : Nat) (news : List Value) (hx : a.eval x = .slice (some ad) m c) (hl : news.length = m * size) (hnews : ∀ j u, news[j]? = some u → w.cell? (ad.add j) = some u) (h1 : ∀ u ∈ news, u.oneCell' = true)
    (h63 : n + m ≤ maxLen) (hbytes : (n + m) * bytes ≤ 140737488355328) (hbase : base ≤ w.heap.size)
    (h : ∀ v' w', w'.ownsRow base e size v' (n + m) (xs ++ news) → w.grownBy w' v.ownBlock → (v'.ownBlock = v.ownBlock ∨ v'.ownBlock = some w.heap.size) → wpList P ops Q rest (a.put o.dst v') w') : wpList P ops Q (o :: rest) a w :=
  wpList_plain hgd fun _ hK => wp_append_own2 w s x t ho base e i z size bytes ht hi hz hsize hby hzs hsz v n xs hs hown ad m c news hx hl hnews h1 h63 hbytes hbase fun v' w' h2 h3 h4 => hK _ _ (h v' w' h2 h3 h4)
end
end Go.Proofs.YtiejmkjpgjbodaaGreatDoor

namespace Go.Proofs.YtiejmkjpgjbodaaGreatDoor
open Go.RowKit
set_option linter.unusedVariables false
set_option linter.unusedSimpArgs false
set_option maxRecDepth 100000
theorem rdSize : (Tryz.prog.info? 78).map (·.size) = some 2 := by kernel_rfl
theorem rdLies : liesAt Tryz.prog Tryz.prog.depth 105 (3 / Tryz.prog.cellsOf 105) 1 78 1 = true := by kernel_rfl
def RdC (w : World) (b : Nat) (o a v : Value) : Prop := w.heap[b]? = some (.cells #[o, a, v] 105 (0, 0))
theorem RdC.cell0 {w : World} {b : Nat} {o a v : Value} (h : RdC w b o a v) : w.cell? ⟨b, 0, none⟩ = some o := by rw [Lib.cell_of_heap h]; rfl
theorem RdC.cell1 {w : World} {b : Nat} {o a v : Value} (h : RdC w b o a v) : w.cell? ⟨b, 1, none⟩ = some a := by rw [Lib.cell_of_heap h]; rfl
theorem RdC.cell2 {w : World} {b : Nat} {o a v : Value} (h : RdC w b o a v) : w.cell? ⟨b, 2, none⟩ = some v := by rw [Lib.cell_of_heap h]; rfl
theorem RdC.free {w : World} {b : Nat} {o a v : Value} (h : RdC w b o a v) (i : Nat) : w.frozen? ⟨b, i, none⟩ = false := Lib.frozen_of_heap h i
theorem RdC.lt {w : World} {b : Nat} {o a v : Value} (h : RdC w b o a v) : b < w.heap.size := lt_of_block h
theorem RdC.shape {w : World} {b : Nat} {o a v : Value} (h : RdC w b o a v) : w.shape? b = some (105, 3) := by
  have h' : w.heap[b]? = some (.cells #[o, a, v] 105 (0, 0)) := h
  simp [World.shape?, h']
theorem heap_put {w : World} {g j : Nat} {cur : Array Value} {e : TypeId} {fr : Nat × Nat} (u : Value) (h : w.heap[g]? = some (.cells cur e fr)) : (w.setCell ⟨g, j, none⟩ u).heap[g]? = some (.cells (cur.setIfInBounds j u) e fr) := by
  have hlt := (Array.getElem?_eq_some_iff.1 h).1
  have he := (Array.getElem?_eq_some_iff.1 h).2
  simp only [World.setCell, Array.getElem?_modify, if_true, h, Option.map_some]
  rfl
theorem RdC.put0 {w : World} {b : Nat} {o a v : Value} (h : RdC w b o a v) (u : Value) : RdC (w.setCell ⟨b, 0, none⟩ u) b u a v := heap_put (j := 0) u h
theorem RdC.put1 {w : World} {b : Nat} {o a v : Value} (h : RdC w b o a v) (u : Value) : RdC (w.setCell ⟨b, 1, none⟩ u) b o u v := heap_put (j := 1) u h
theorem RdC.put2 {w : World} {b : Nat} {o a v : Value} (h : RdC w b o a v) (u : Value) : RdC (w.setCell ⟨b, 2, none⟩ u) b o a u := heap_put (j := 2) u h
def RowsK (w w' : World) : Prop := ∀ (B : Nat) (e : TypeId) (sz n : Nat) (u : Value) (xs : List Value), e ≠ 5 → e ≠ 105 → w.ownsRow B e sz u n xs → w'.ownsRow B e sz u n xs
theorem RowsK.refl (w : World) : RowsK w w := fun _ _ _ _ _ _ _ _ h => h
theorem RowsK.trans {a b c : World} (h : RowsK a b) (k : RowsK b c) : RowsK a c := fun B e sz n u xs h1 h2 hx => k B e sz n u xs h1 h2 (h B e sz n u xs h1 h2 hx)
theorem RowsK.below {w w' : World} (hb : Below w.heap.size w w') : RowsK w w' := fun B e sz n u xs _ _ hx => hx.kept (row := none) ⟨hb.os, hb.tape, hb.output, hb.size, fun k hk _ => hb.block k hk⟩ (by cases hv : u.ownBlock <;> simp)
theorem RowsK.grown {w w' : World} {B n : Nat} {v : Value} {xs : List Value} (h : w.ownsRow B 5 1 v n xs) (hg : w.grownBy w' v.ownBlock) : RowsK w w' := fun B' e sz m u ys h1 _ hx => hx.kept hg (ownsRow_diff h1 hx h)
theorem RowsK.put {w : World} {b : Nat} {o a v : Value} (h : RdC w b o a v) (i : Nat) (u : Value) : RowsK w (w.setCell ⟨b, i, none⟩ u) := fun B e sz n x xs _ h2 hx =>
  hx.kept (row := some b) ⟨rfl, rfl, rfl, by simp [World.setCell], fun k _ hk => Below.heap_setCell _ _ _ k (fun e => hk (by rw [e]))⟩ (.inr (ownsRow_other hx (fun cur hc => by
    have h' : w.heap[b]? = some (.cells #[o, a, v] 105 (0, 0)) := h
    rw [h'] at hc
    injection hc with hc
    injection hc with _ hc
    exact h2 hc.symm)))
theorem TRow.rows {B : Nat} {v : Value} {ls : List TokV} {w w' : World} (h : TRow B v ls w) (hk : RowsK w w') : TRow B v ls w' :=
  ⟨hk _ _ _ _ _ _ (by decide) (by decide) h.row, fun p hp => hk _ _ _ _ _ _ (by decide) (by decide) (h.each p hp)⟩
set_option maxHeartbeats 1000000 in
theorem copyCheckR_used (b : Nat) (w : World) (h0 : w.cell? ⟨b, 1, none⟩ = some (.pointer (some ⟨b, 1, none⟩))) :
    Calls Tryz.prog 103 #[.pointer (some ⟨b, 1, none⟩)] w fun e w' => e = .returned (.tuple #[]) ∧ w = w' := by
  obtain ⟨j, hj, _⟩ := Option.map_eq_some_iff.1 rdSize
  have hne := fun w : World => Lib.run_neq_ptr_same (P := Tryz.prog) w ⟨b, 1, none⟩ Tryz.underlying76 hj
  go_enter Tryz.func103, Tryz.ntmps103
  go_wp2
  go_end0
  exact ⟨rfl, rfl⟩
set_option maxHeartbeats 1000000 in
theorem copyCheckR_fresh (b : Nat) (w : World) (h0 : w.cell? ⟨b, 1, none⟩ = some (.pointer none)) (hsh : w.shape? b = some (105, 3)) (hfz : w.frozen? ⟨b, 1, none⟩ = false) :
    Calls Tryz.prog 103 #[.pointer (some ⟨b, 1, none⟩)] w fun e w' => e = .returned (.tuple #[]) ∧ w.setCell ⟨b, 1, none⟩ (.pointer (some ⟨b, 1, none⟩)) = w' := by
  obtain ⟨j, hj, hjs⟩ := Option.map_eq_some_iff.1 rdSize
  have c1 := Lib.run_to_unsafe (P := Tryz.prog) w ⟨b, 1, none⟩ Tryz.underlying76 Tryz.underlying153 hj (by rw [hjs]; decide) hsh (show 1 < 3 by decide)
  have c2 := Lib.run_from_unsafe (P := Tryz.prog) w ⟨b, 1, none⟩ Tryz.underlying153 Tryz.underlying76 hj hsh rdLies
  have ce := fun w : World => run_callFunc_extern (P := Tryz.prog) (w := w) (args := #[Value.pointer (some ⟨b, 1, none⟩)]) Tryz.func140 (by kernel_rfl) (by kernel_rfl) (by kernel_rfl) (e := Extern.AbiNoEscape.same) (by kernel_rfl)
  have cn := fun w : World => Lib.run_noEscape (P := Tryz.prog) (w := w) (Value.pointer (some ⟨b, 1, none⟩))
  go_enter Tryz.func103, Tryz.ntmps103
  go_wp2
  go_end0
  exact ⟨rfl, rfl⟩
def AdrOK (b : Nat) (a : Value) : Prop := a = .pointer none ∨ a = .pointer (some ⟨b, 1, none⟩)
theorem copyCheckR_any (B b : Nat) (o a v : Value) (w : World) (h : RdC w b o a v) (ha : AdrOK b a) (hB : B ≤ b) :
    Calls Tryz.prog 103 #[.pointer (some ⟨b, 1, none⟩)] w fun e w' => e = .returned (.tuple #[]) ∧ RdC w' b o (.pointer (some ⟨b, 1, none⟩)) v ∧ Below B w w' ∧ RowsK w w' ∧ (∀ k, k ≠ b → w'.heap[k]? = w.heap[k]?) ∧ w.heap.size = w'.heap.size := by
  rcases ha with rfl | rfl
  · refine (copyCheckR_fresh b w h.cell1 h.shape (h.free 1)).mono ?_
    rintro e w' ⟨rfl, rfl⟩
    exact ⟨rfl, h.put1 _, (Below.refl B w).setCell (p := ⟨b, 1, none⟩) hB _, RowsK.put h 1 _, fun k hk => Below.heap_setCell _ _ _ k (fun e => hk (by rw [e])), by simp [World.setCell]⟩
  · refine (copyCheckR_used b w h.cell1).mono ?_
    rintro e w' ⟨rfl, rfl⟩
    exact ⟨rfl, h, Below.refl _ _, RowsK.refl _, fun k _ => rfl, rfl⟩
structure Rdr (B b : Nat) (o : Value) (vs : List TokV) (x : List UInt8) (W0 w : World) : Prop where
  at' : ∃ a v, RdC w b o a v ∧ AdrOK b a ∧ w.ownsRow B 5 1 v x.length (cellsOf x) ∧ v.ownBlock ≠ some b
  toks : TRow B o vs w
  base : B ≤ b
  below : Below B W0 w
  size : B ≤ w.heap.size
theorem Rdr.kept {B b : Nat} {o : Value} {vs : List TokV} {x : List UInt8} {W0 w w' : World} (h : Rdr B b o vs x W0 w) (hb : Below w.heap.size w w') : Rdr B b o vs x W0 w' := by
  obtain ⟨⟨a, v, h1, h2, h3, h4⟩, ht, hB, hW, hz⟩ := h
  exact ⟨⟨a, v, (hb.block b h1.lt).trans h1, h2, h3.kept (row := none) ⟨hb.os, hb.tape, hb.output, hb.size, fun k hk _ => hb.block k hk⟩ (by cases hv : v.ownBlock <;> simp), h4⟩, ht.kept hb, hB, hW.trans (hb.mono hz), Nat.le_trans hz hb.size⟩
set_option maxHeartbeats 1000000 in
theorem writeR_any (B b : Nat) (o : Value) (vs : List TokV) (x : List UInt8) (s : ByteArray) (W0 w : World) (h : Rdr B b o vs x W0 w) (hlen : x.length + s.size ≤ 140737488355328) :
    Calls Tryz.prog 64 #[.pointer (some ⟨b, 1, none⟩), .string s] w fun e w' => e = .returned (.tuple #[.int .i64 s.size, .nilIface]) ∧ Rdr B b o vs (x ++ s.data.toList) W0 w' := by
  obtain ⟨⟨a, v, h1, h2, h3, h4⟩, ht, hB, hW, hz⟩ := h
  obtain ⟨i0, hi, hz0, hz1, hz2⟩ := info_parts info_u8
  have HC := hide (copyCheckR_any B b o a v w h1 h2 hB)
  have H3 := hide h3
  have H4 := hide h4
  have HT := hide ht
  have HW := hide hW
  have hl1 : (cellsOf x).length = x.length := cellsOf_length x
  have HI := hide hi
  have HZ0 := hide hz0
  have HZ1 := hide hz1
  have HZ2 := hide hz2
  have HL1 := hide hl1
  clear h1 h2 h3 h4 ht hW hi hz0 hz1 hz2 hl1
  go_enter Tryz.func64, Tryz.ntmps64
  go_wp2_with fail
  refine HC.out.mono ?_
  rintro e w1 ⟨rfl, k1, k2, k3, k4, k5⟩
  have c2 := k1.cell2
  have hlt := k1.lt
  have hsz1 := k2.size
  have HOWN : Hid (w1.ownsRow B 5 1 v x.length (cellsOf x)) := hide (by
    have hx := H3.out
    exact hx.kept (row := some b) ⟨k2.os, k2.tape, k2.output, Nat.le_of_eq k5, fun k _ hk => k4 k (fun e => hk (by rw [e]))⟩ (.inr H4.out))
  have HK1 := hide k1
  have HK2 := hide k2
  have HK3 := hide k3
  have HSZ := hide (show B ≤ w1.heap.size by omega)
  clear k1 k2 k3 k4 k5
  go_wp2_with (refine Lib.wpList_append_own_string _ rfl _ _ 56 9 rfl B 5 i0 Tryz.underlying56 Tryz.underlying9 HI.out HZ0.out HZ1.out HZ2.out v x.length (cellsOf x) rfl HOWN.out s rfl (by unfold maxLen; omega) (by omega) HSZ.out ?_
               intro v' w2 hown' hgrow _
               obtain ⟨ao, n', cap, rfl⟩ : ∃ ao n' cap, v' = .slice ao n' cap := by
                 rcases hown'.2 with ⟨hv, _⟩ | ⟨g, cap, cur, hv, _⟩
                 · exact ⟨_, _, _, hv⟩
                 · exact ⟨_, _, _, hv⟩
               have hb2 : RdC w2 b o (.pointer (some ⟨b, 1, none⟩)) v := (hgrow.block b hlt (fun e => H4.out e.symm)).trans HK1.out
               have d2 := hb2.cell2
               have f2 := hb2.free 2
               have HO2 := hide hown'
               have HG2 := hide hgrow
               have HB2 := hide hb2
               clear hown' hgrow hb2)
  go_ret2
  have hb3 : Below B w w2 := HK2.out.grown HG2.out HSZ.out (fun k hk => (HOWN.out.lt k hk).1)
  have hk2 : RowsK w1 w2 := RowsK.grown HOWN.out HG2.out
  have hkp := RowsK.put HB2.out 2 (.slice ao n' cap)
  refine ⟨rfl, ⟨⟨_, _, HB2.out.put2 _, .inr rfl, ?_, ?_⟩, HT.out.rows (HK3.out.trans (hk2.trans hkp)), hB, (HW.out.trans hb3).setCell (p := ⟨b, 2, none⟩) hB _, ?_⟩⟩
  · have e1 : cellsOf (x ++ s.data.toList) = cellsOf x ++ Lib.strCells s := by rw [cellsOf_str, cellsOf, List.map_append]; rfl
    rw [e1, List.length_append, toList_length]
    have ho := HO2.out
    refine ho.kept (row := some b) ⟨rfl, rfl, rfl, by simp [World.setCell], fun k _ hk => Below.heap_setCell _ _ _ k (fun e => hk (by rw [e]))⟩ (.inr ?_)
    exact ownsRow_other ho (fun cur hc => by
      have h' : w2.heap[b]? = some (.cells #[o, .pointer (some ⟨b, 1, none⟩), v] 105 (0, 0)) := HB2.out
      rw [h'] at hc
      injection hc with hc
      injection hc with _ hc
      exact absurd hc (by decide))
  · exact ownsRow_other HO2.out (fun cur hc => by
      have h' : w2.heap[b]? = some (.cells #[o, .pointer (some ⟨b, 1, none⟩), v] 105 (0, 0)) := HB2.out
      rw [h'] at hc
      injection hc with hc
      injection hc with _ hc
      exact absurd hc (by decide))
  · have := hb3.size
    simp [World.setCell]
    omega
theorem lenR_any (B b : Nat) (o : Value) (vs : List TokV) (x : List UInt8) (W0 w : World) (h : Rdr B b o vs x W0 w) :
    Calls Tryz.prog 126 #[.pointer (some ⟨b, 1, none⟩)] w fun e w' => e = .returned (.int .i64 x.length) ∧ w = w' := by
  obtain ⟨⟨a, v, h1, h2, h3, h4⟩, _⟩ := h
  obtain ⟨A, c, rfl⟩ : ∃ A c, v = .slice A x.length c := by
    rcases h3.2 with ⟨rfl, h0⟩ | ⟨g, cap, cur, rfl, _⟩
    · rw [h0]; exact ⟨_, _, rfl⟩
    · exact ⟨_, _, rfl⟩
  have c2 := h1.cell2
  clear h1 h2 h3 h4
  go_enter Tryz.func126, Tryz.ntmps126
  go_wp2_with fail
  go_ret
  exact ⟨rfl, rfl⟩
end Go.Proofs.YtiejmkjpgjbodaaGreatDoor

namespace Go.Proofs.YtiejmkjpgjbodaaGreatDoor
open Go.RowKit
set_option linter.unusedVariables false
set_option linter.unusedSimpArgs false
set_option maxRecDepth 100000
abbrev KidV := (NdH × Tr) × (Value × Value)
def nodeVals (ks : List KidV) : List Value := ks.flatMap fun p => [.string (str p.1.1.name), p.2.1, .string (str p.1.1.text), p.2.2]
theorem nodeVals_length (ls : List KidV) : (nodeVals ls).length = ls.length * 4 := by
  induction ls with
  | nil => rfl
  | cons f r ih => unfold nodeVals at *; rw [List.flatMap_cons, List.length_append, ih]; simp; omega
theorem nodeVals_append (a b : List KidV) : nodeVals (a ++ b) = nodeVals a ++ nodeVals b := by unfold nodeVals; rw [List.flatMap_append]
structure PartV where
  name : List UInt8
  attrs : List AtL
  av : Value
  kids : List KidV
  kv : Value
  tail : List UInt8
  tv : Value
def PartV.toL (p : PartV) : PartL := ⟨p.name, p.attrs, p.kids.map Prod.fst, p.tail⟩
def partVals (ps : List PartV) : List Value := ps.flatMap fun p => [.string (str p.name), p.av, .string ⟨#[]⟩, p.kv, p.tv]
theorem partVals_length (ls : List PartV) : (partVals ls).length = ls.length * 5 := by
  induction ls with
  | nil => rfl
  | cons f r ih => unfold partVals at *; rw [List.flatMap_cons, List.length_append, ih]; simp; omega
theorem partVals_append (a b : List PartV) : partVals (a ++ b) = partVals a ++ partVals b := by unfold partVals; rw [List.flatMap_append]
theorem partVals_at (ps : List PartV) (p : PartV) (j : Nat) (hj : j < 5) (rest : List PartV) : (partVals (ps ++ p :: rest))[ps.length * 5 + j]? = [Value.string (str p.name), p.av, .string ⟨#[]⟩, p.kv, p.tv][j]? := by
  rw [partVals_append, List.getElem?_append_right (by rw [partVals_length]; omega), partVals_length, show ps.length * 5 + j - ps.length * 5 = j by omega]
  unfold partVals
  rw [List.flatMap_cons, List.getElem?_append_left (by simpa using hj)]
theorem partVals_set (ps : List PartV) (p : PartV) (j : Nat) (hj : j < 5) (u : Value) : (partVals (ps ++ [p])).set (ps.length * 5 + j) u = partVals ps ++ [Value.string (str p.name), p.av, .string ⟨#[]⟩, p.kv, p.tv].set j u := by
  rw [partVals_append, List.set_append_right _ _ (by rw [partVals_length]; omega), partVals_length, show ps.length * 5 + j - ps.length * 5 = j by omega]
  rfl
structure KRow (C : Nat → Prop) (B : Nat) (v : Value) (ks : List KidV) (w : World) : Prop where
  row : w.ownsRow B 33 4 v ks.length (nodeVals ks)
  each : ∀ q ∈ ks, AttrsC C w q.2.1 q.1.1.attrs ∧ NodesC C w q.2.2 q.1.2
  out : ∀ g, v.ownBlock = some g → ¬ C g
def Since4 (W0 w : World) : Prop := ∀ (g : Nat) (cur : Array Value) (T : TypeId) (fz : Nat × Nat), W0.heap[g]? = some (Obj.cells cur T fz) → (T ≠ 47 ∧ T ≠ 58 ∧ T ≠ 33 ∧ T ≠ 5) → w.heap[g]? = W0.heap[g]?
theorem Since4.refl (w : World) : Since4 w w := fun _ _ _ _ _ _ => rfl
theorem Since4.trans {a b c : World} (h : Since4 a b) (k : Since4 b c) : Since4 a c := fun g cur T fz hg hT => (k g cur T fz ((h g cur T fz hg hT).trans hg) hT).trans (h g cur T fz hg hT)
theorem Since4.grown {W0 w w' : World} {row : Option Nat} (h : Since4 W0 w) (hg : w.grownBy w' row) (hr : ∀ k, row = some k → ∃ (cur : Array Value) (T : TypeId) (fz : Nat × Nat), w.heap[k]? = some (Obj.cells cur T fz) ∧ (T = 47 ∨ T = 58 ∨ T = 33 ∨ T = 5)) : Since4 W0 w' := fun g cur T fz h0 hT => by
  have h1 := h g cur T fz h0 hT
  rw [hg.block g (lt_of_block (h1.trans h0)) (fun e => ?_)]
  · exact h1
  · obtain ⟨cur2, T2, fz2, h2, h3⟩ := hr g e.symm
    rw [h1.trans h0] at h2
    injection h2 with h2
    injection h2 with _ h2
    subst h2
    rcases h3 with h3 | h3 | h3 | h3
    · exact hT.1 h3
    · exact hT.2.1 h3
    · exact hT.2.2.1 h3
    · exact hT.2.2.2 h3
theorem own_ty {w : World} {B : Nat} {e : TypeId} {sz n : Nat} {v : Value} {xs : List Value} (h : w.ownsRow B e sz v n xs) {k : Nat} (hk : v.ownBlock = some k) : ∃ (cur : Array Value) (T : TypeId) (fz : Nat × Nat), w.heap[k]? = some (Obj.cells cur T fz) ∧ T = e := by
  rcases h.2 with ⟨e0, _⟩ | ⟨g, cap, cur, e0, _, hh, _⟩
  · rw [e0] at hk; cases hk
  · rw [e0] at hk
    obtain rfl : g = k := by simpa [Value.ownBlock] using hk
    exact ⟨cur, _, _, hh, rfl⟩
theorem Since4.own {W0 w w' : World} {B : Nat} {e : TypeId} {sz n : Nat} {v : Value} {xs : List Value} (h : Since4 W0 w) (ho : w.ownsRow B e sz v n xs) (hg : w.grownBy w' v.ownBlock) (he : e = 47 ∨ e = 58 ∨ e = 33 ∨ e = 5) : Since4 W0 w' :=
  h.grown hg (fun k hk => by
    obtain ⟨cur, T, fz, h1, rfl⟩ := own_ty ho hk
    exact ⟨cur, T, fz, h1, he⟩)
theorem Since4.put {W0 w : World} {b i : Nat} {u : Value} {cs : Array Value} {T : TypeId} {fz : Nat × Nat} (h : Since4 W0 w) (hb : w.heap[b]? = some (Obj.cells cs T fz)) (hT : T = 47 ∨ T = 58 ∨ T = 33 ∨ T = 5) : Since4 W0 (w.setCell ⟨b, i, none⟩ u) :=
  h.grown (row := some b) ⟨rfl, rfl, rfl, by simp [World.setCell], fun k _ hk => Below.heap_setCell _ _ _ k (fun e => hk (by rw [e]))⟩ (fun k e => by injection e with e; subst e; exact ⟨cs, T, fz, hb, hT⟩)
theorem Since4.below {W0 w w' : World} (h : Since4 W0 w) (hb : Below w.heap.size w w') : Since4 W0 w' := h.grown (row := none) ⟨hb.os, hb.tape, hb.output, hb.size, fun k hk _ => hb.block k hk⟩ (fun k e => by cases e)
structure BS (C : Nat → Prop) (B b : Nat) (r : Value) (st : List PartV) (n : Nat) (W0 w : World) : Prop where
  blk : w.heap[b]? = some (.cells #[r, .int .i64 n] 47 (0, 0))
  row : w.ownsRow B 58 5 r st.length (partVals st.reverse)
  attrs : ∀ p ∈ st, AttrsC C w p.av p.attrs
  kids : ∀ p ∈ st, KRow C B p.kv p.kids w
  apart : st.Pairwise (fun p q => p.kv.ownBlock = none ∨ p.kv.ownBlock ≠ q.kv.ownBlock)
  tails : ∀ p ∈ st, w.ownsRow B 5 1 p.tv p.tail.length (cellsOf p.tail) ∧ (p.tail = [] → p.tv = .slice none 0 0)
  quiet : ∀ p ∈ st.tail, p.tail = []
  typ : ∀ g, C g → g < w.heap.size ∧ ∀ cur T fz, w.heap[g]? = some (.cells cur T fz) → T = 33 ∨ T = 43
  base : B ≤ b
  below : Below B W0 w
  size : B ≤ w.heap.size
  since : Since4 W0 w
theorem grown_none {w w' : World} (hb : Below w.heap.size w w') : w.grownBy w' none := ⟨hb.os, hb.tape, hb.output, hb.size, fun k hk _ => hb.block k hk⟩
theorem own_type {w w' : World} {B k : Nat} {e : TypeId} {sz n : Nat} {v : Value} {xs : List Value} (h : w.ownsRow B e sz v n xs) (hg : w.grownBy w' (some k)) (ht : ∀ cur, w.heap[k]? ≠ some (.cells cur e (0, 0))) : w'.ownsRow B e sz v n xs :=
  h.kept hg (.inr (ownsRow_other h ht))
theorem KRow.turned {C : Nat → Prop} {B : Nat} {v : Value} {ks : List KidV} {w w' : World} {row : Option Nat} (h : KRow C B v ks w) (hg : w.grownBy w' row) (hC : ∀ k, C k → k < w.heap.size) (hr : ∀ k, row = some k → ¬ C k) (hne : v.ownBlock = none ∨ v.ownBlock ≠ row) : KRow C B v ks w' := by
  have hk : ∀ b, C b → w'.heap[b]? = w.heap[b]? := fun b hb => hg.block b (hC b hb) (fun e => hr b e.symm hb)
  exact ⟨h.row.kept hg hne, fun q hq => ⟨(h.each q hq).1.mono hk (fun _ x => x), (h.each q hq).2.mono hk (fun _ x => x)⟩, h.out⟩
theorem BS.turned {C : Nat → Prop} {B b : Nat} {r : Value} {st : List PartV} {n : Nat} {W0 w w' : World} {row : Option Nat} (h : BS C B b r st n W0 w) (hs4 : Since4 W0 w') (hg : w.grownBy w' row)
    (hr : ∀ k, row = some k → B ≤ k ∧ k ≠ b ∧ ¬ C k ∧ ∀ cur, w.heap[k]? ≠ some (.cells cur 58 (0, 0)) ∧ w.heap[k]? ≠ some (.cells cur 33 (0, 0)) ∧ w.heap[k]? ≠ some (.cells cur 5 (0, 0))) : BS C B b r st n W0 w' := by
  have hC : ∀ k, C k → k < w.heap.size := fun k hk => (h.typ k hk).1
  have hk : ∀ g, C g → w'.heap[g]? = w.heap[g]? := fun g hgC => hg.block g (hC g hgC) (fun e => (hr g e.symm).2.2.1 hgC)
  have hown : ∀ {e : TypeId} {sz m : Nat} {v : Value} {xs : List Value}, w.ownsRow B e sz v m xs → (∀ k, row = some k → ∀ cur, w.heap[k]? ≠ some (.cells cur e (0, 0))) → v.ownBlock = none ∨ v.ownBlock ≠ row := fun {e sz m v xs} ho ht => by
    cases row with
    | none => cases hv : v.ownBlock <;> simp
    | some k => exact .inr (ownsRow_other ho (ht k rfl))
  refine ⟨?_, h.row.kept hg (hown h.row fun k e cur => ((hr k e).2.2.2 cur).1), fun p hp => (h.attrs p hp).mono hk (fun _ x => x), fun p hp => (h.kids p hp).turned hg hC (fun k e => (hr k e).2.2.1) (hown (h.kids p hp).row fun k e cur => ((hr k e).2.2.2 cur).2.1), h.apart,
    fun p hp => ⟨(h.tails p hp).1.kept hg (hown (h.tails p hp).1 fun k e cur => ((hr k e).2.2.2 cur).2.2), (h.tails p hp).2⟩, h.quiet, fun g hgC => ⟨Nat.lt_of_lt_of_le (hC g hgC) hg.size, by rw [hk g hgC]; exact (h.typ g hgC).2⟩, h.base, h.below.grown hg h.size (fun k e => (hr k e).1), Nat.le_trans h.size hg.size, hs4⟩
  rw [hg.block b (lt_of_block h.blk) (fun e => (hr b e.symm).2.1 rfl)]
  exact h.blk
theorem BS.kept {C : Nat → Prop} {B b : Nat} {r : Value} {st : List PartV} {n : Nat} {W0 w w' : World} (h : BS C B b r st n W0 w) (hb : Below w.heap.size w w') : BS C B b r st n W0 w' := h.turned (h.since.below hb) (grown_none hb) (fun k e => by cases e)
theorem BS.c0 {C : Nat → Prop} {B b : Nat} {r : Value} {st : List PartV} {n : Nat} {W0 w : World} (h : BS C B b r st n W0 w) : w.cell? ⟨b, 0, none⟩ = some r := by rw [Lib.cell_of_heap h.blk]; rfl
theorem BS.c1 {C : Nat → Prop} {B b : Nat} {r : Value} {st : List PartV} {n : Nat} {W0 w : World} (h : BS C B b r st n W0 w) : w.cell? ⟨b, 1, none⟩ = some (.int .i64 n) := by rw [Lib.cell_of_heap h.blk]; rfl
theorem BS.free {C : Nat → Prop} {B b : Nat} {r : Value} {st : List PartV} {n : Nat} {W0 w : World} (h : BS C B b r st n W0 w) (i : Nat) : w.frozen? ⟨b, i, none⟩ = false := Lib.frozen_of_heap h.blk i
theorem BS.form {C : Nat → Prop} {B b : Nat} {r : Value} {st : List PartV} {n : Nat} {W0 w : World} (h : BS C B b r st n W0 w) (hs : st ≠ []) : ∃ g cap, r = .slice (some ⟨g, 0, none⟩) st.length cap ∧ st.length ≤ cap ∧ cap ≤ maxLen ∧ B ≤ g ∧ g < w.heap.size := by
  rcases h.row.2 with ⟨rfl, h0⟩ | ⟨g, cap, cur, rfl, hg, hh, hc, hm, _⟩
  · exact absurd (List.eq_nil_of_length_eq_zero h0) hs
  · exact ⟨g, cap, rfl, hc, hm, hg, lt_of_block hh⟩
theorem BS.cells {C : Nat → Prop} {B b g cap : Nat} {p : PartV} {rest : List PartV} {n : Nat} {W0 w : World} (h : BS C B b (.slice (some ⟨g, 0, none⟩) (rest.length + 1) cap) (p :: rest) n W0 w) :
    w.cell? ⟨g, rest.length * 5, none⟩ = some (.string (str p.name)) ∧ w.cell? ⟨g, rest.length * 5 + 1, none⟩ = some p.av ∧ w.cell? ⟨g, rest.length * 5 + 2, none⟩ = some (.string ⟨#[]⟩) ∧ w.cell? ⟨g, rest.length * 5 + 3, none⟩ = some p.kv ∧ w.cell? ⟨g, rest.length * 5 + 4, none⟩ = some p.tv ∧ (∀ i, w.frozen? ⟨g, i, none⟩ = false) := by
  have hr := h.row
  rw [List.length_cons] at hr
  have hc : ∀ j, j < 5 → w.cell? ⟨g, rest.length * 5 + j, none⟩ = [Value.string (str p.name), p.av, .string ⟨#[]⟩, p.kv, p.tv][j]? := fun j hj => by
    rw [hr.cellAt _ (by omega)]
    have := partVals_at rest.reverse p j hj []
    rw [List.length_reverse] at this
    rw [List.reverse_cons]; exact this
  exact ⟨hc 0 (by decide), hc 1 (by decide), hc 2 (by decide), hc 3 (by decide), hc 4 (by decide), fun i => hr.frozenAt i⟩
theorem BS.rowOut {C : Nat → Prop} {B b g m cap : Nat} {st : List PartV} {n : Nat} {W0 w : World} (h : BS C B b (.slice (some ⟨g, 0, none⟩) m cap) st n W0 w) : g ≠ b ∧ ¬ C g ∧ B ≤ g ∧ ∀ (cur : Array Value) (e : TypeId), e ≠ 58 → w.heap[g]? ≠ some (.cells cur e (0, 0)) := by
  rcases h.row.2 with ⟨h0, _⟩ | ⟨g', cap', cur, h0, hg, hh, hc, hm, _⟩
  · cases h0
  · injection h0 with h0 _ _
    injection h0 with h0
    injection h0 with h0
    subst h0
    refine ⟨fun e => ?_, fun hC => ?_, hg, fun cur' e he hx => ?_⟩
    · have := h.blk
      rw [← e, hh] at this
      injection this with this
      injection this with _ this
      exact absurd this (by decide)
    · rcases (h.typ g hC).2 _ _ _ hh with e | e
      · exact absurd e (by decide)
      · exact absurd e (by decide)
    · rw [hh] at hx
      injection hx with hx
      injection hx with _ hx
      exact he hx.symm
theorem BS.put {C : Nat → Prop} {B b g cap : Nat} {p : PartV} {rest : List PartV} {n : Nat} {W0 w : World} (h : BS C B b (.slice (some ⟨g, 0, none⟩) (rest.length + 1) cap) (p :: rest) n W0 w) (p' : PartV) (j : Nat) (u : Value) (hj : j < 5)
    (he : [Value.string (str p.name), p.av, .string ⟨#[]⟩, p.kv, p.tv].set j u = [Value.string (str p'.name), p'.av, .string ⟨#[]⟩, p'.kv, p'.tv]) :
    (w.setCell ⟨g, rest.length * 5 + j, none⟩ u).ownsRow B 58 5 (.slice (some ⟨g, 0, none⟩) (rest.length + 1) cap) (rest.length + 1) (partVals (p' :: rest).reverse) ∧ w.grownBy (w.setCell ⟨g, rest.length * 5 + j, none⟩ u) (some g) := by
  have hr := h.row
  rw [List.length_cons] at hr
  obtain ⟨r1, r2⟩ := hr.stored (rest.length * 5 + j) u
  refine ⟨?_, r2⟩
  rw [List.reverse_cons] at r1 ⊢
  have e1 := partVals_set rest.reverse p j hj u
  rw [List.length_reverse] at e1
  rw [e1, he] at r1
  rw [partVals_append]
  exact r1
end Go.Proofs.YtiejmkjpgjbodaaGreatDoor

namespace Go.Proofs.YtiejmkjpgjbodaaGreatDoor
open Go.RowKit
set_option linter.unusedVariables false
set_option linter.unusedSimpArgs false
set_option maxRecDepth 100000
theorem heap_put0 {w : World} {b i : Nat} {cs : Array Value} {T : TypeId} (h : w.heap[b]? = some (.cells cs T (0, 0))) (u : Value) : (w.setCell ⟨b, i, none⟩ u).heap[b]? = some (.cells (cs.setIfInBounds i u) T (0, 0)) := heap_put u h
theorem grown_put (w : World) (b i : Nat) (u : Value) : w.grownBy (w.setCell ⟨b, i, none⟩ u) (some b) :=
  ⟨rfl, rfl, rfl, by simp [World.setCell], fun k _ hk => Below.heap_setCell _ _ _ k (fun e => hk (by rw [e]))⟩
theorem same_put {w : World} {b i : Nat} {u : Value} {C : Nat → Prop} (hC : ¬ C b) : ∀ g, C g → (w.setCell ⟨b, i, none⟩ u).heap[g]? = w.heap[g]? := fun g hg => Below.heap_setCell _ _ _ g (fun e => hC (by rw [← show g = b from e]; exact hg))
theorem BS.out {C : Nat → Prop} {B b : Nat} {r : Value} {st : List PartV} {n : Nat} {W0 w : World} (h : BS C B b r st n W0 w) : ¬ C b ∧ ∀ (cur : Array Value) (e : TypeId), e ≠ 47 → w.heap[b]? ≠ some (.cells cur e (0, 0)) := by
  refine ⟨fun hC => ?_, fun cur e he hx => ?_⟩
  · rcases (h.typ b hC).2 _ _ _ h.blk with e | e
    · exact absurd e (by decide)
    · exact absurd e (by decide)
  · rw [h.blk] at hx
    injection hx with hx
    injection hx with _ hx
    exact he hx.symm
theorem BS.putB {C : Nat → Prop} {B b : Nat} {r : Value} {st : List PartV} {n : Nat} {W0 w : World} (h : BS C B b r st n W0 w) (i : Nat) (u r' : Value) (n' : Nat)
    (he : (#[r, .int .i64 n] : Array Value).setIfInBounds i u = #[r', .int .i64 n']) (hr : w.ownsRow B 58 5 r' st.length (partVals st.reverse)) : BS C B b r' st n' W0 (w.setCell ⟨b, i, none⟩ u) := by
  have hg := grown_put w b i u
  have ho := h.out
  have hown : ∀ {e : TypeId} {sz m : Nat} {v : Value} {xs : List Value}, e ≠ 47 → w.ownsRow B e sz v m xs → (w.setCell ⟨b, i, none⟩ u).ownsRow B e sz v m xs := fun {e sz m v xs} h1 hx => own_type hx hg (fun cur => ho.2 cur e h1)
  have hk := same_put (w := w) (i := i) (u := u) ho.1
  refine ⟨by rw [heap_put0 h.blk, he], hown (by decide) hr, fun p hp => (h.attrs p hp).mono hk (fun _ x => x), fun p hp => ⟨hown (by decide) (h.kids p hp).row, fun q hq => ⟨((h.kids p hp).each q hq).1.mono hk (fun _ x => x), ((h.kids p hp).each q hq).2.mono hk (fun _ x => x)⟩, (h.kids p hp).out⟩, h.apart,
    fun p hp => ⟨hown (by decide) (h.tails p hp).1, (h.tails p hp).2⟩, h.quiet, fun g hgC => ⟨by have := (h.typ g hgC).1; simpa [World.setCell] using this, by rw [hk g hgC]; exact (h.typ g hgC).2⟩, h.base, h.below.setCell (p := ⟨b, i, none⟩) h.base u, by simpa [World.setCell] using h.size, h.since.put h.blk (.inl rfl)⟩
theorem BS.setCount {C : Nat → Prop} {B b : Nat} {r : Value} {st : List PartV} {n : Nat} {W0 w : World} (h : BS C B b r st n W0 w) (m : Nat) : BS C B b r st m W0 (w.setCell ⟨b, 1, none⟩ (.int .i64 m)) := h.putB 1 _ r m rfl h.row
theorem BS.putP {C : Nat → Prop} {B b g cap : Nat} {p : PartV} {rest : List PartV} {n : Nat} {W0 w : World} (h : BS C B b (.slice (some ⟨g, 0, none⟩) (rest.length + 1) cap) (p :: rest) n W0 w) (p' : PartV) (j : Nat) (u : Value) (hj : j < 5)
    (he : [Value.string (str p.name), p.av, .string ⟨#[]⟩, p.kv, p.tv].set j u = [Value.string (str p'.name), p'.av, .string ⟨#[]⟩, p'.kv, p'.tv]) (hv : p'.av = p.av) (ha : p'.attrs = p.attrs)
    (hk : KRow C B p'.kv p'.kids w) (hap : ∀ q ∈ rest, p'.kv.ownBlock = none ∨ p'.kv.ownBlock ≠ q.kv.ownBlock) (ht : w.ownsRow B 5 1 p'.tv p'.tail.length (cellsOf p'.tail) ∧ (p'.tail = [] → p'.tv = .slice none 0 0)) :
    BS C B b (.slice (some ⟨g, 0, none⟩) (rest.length + 1) cap) (p' :: rest) n W0 (w.setCell ⟨g, rest.length * 5 + j, none⟩ u) := by
  obtain ⟨o1, hg⟩ := h.put p' j u hj he
  obtain ⟨q1, q2, q3, q4⟩ := h.rowOut
  have hown : ∀ {e : TypeId} {sz m : Nat} {v : Value} {xs : List Value}, e ≠ 58 → w.ownsRow B e sz v m xs → (w.setCell ⟨g, rest.length * 5 + j, none⟩ u).ownsRow B e sz v m xs := fun {e sz m v xs} h1 hx => own_type hx hg (fun cur => q4 cur e h1)
  have hkp := same_put (w := w) (i := rest.length * 5 + j) (u := u) q2
  have hK : ∀ {v : Value} {ks : List KidV}, KRow C B v ks w → KRow C B v ks (w.setCell ⟨g, rest.length * 5 + j, none⟩ u) := fun {v ks} hx => ⟨hown (by decide) hx.row, fun q hq => ⟨(hx.each q hq).1.mono hkp (fun _ x => x), (hx.each q hq).2.mono hkp (fun _ x => x)⟩, hx.out⟩
  have hr : ∀ q ∈ rest, q ∈ p :: rest := fun q hq => List.mem_cons_of_mem _ hq
  refine ⟨?_, o1, ?_, ?_, ?_, ?_, h.quiet, fun x hx => ⟨by have := (h.typ x hx).1; simpa [World.setCell] using this, by rw [hkp x hx]; exact (h.typ x hx).2⟩, h.base, h.below.setCell (p := ⟨g, rest.length * 5 + j, none⟩) q3 u, by simpa [World.setCell] using h.size, h.since.own h.row hg (.inr (.inl rfl))⟩
  · rw [hg.block b (lt_of_block h.blk) (fun e => q1 (Option.some.inj e).symm)]
    exact h.blk
  · intro q hq
    rcases List.mem_cons.1 hq with rfl | hq
    · rw [hv, ha]; exact (h.attrs p (List.mem_cons_self ..)).mono hkp (fun _ x => x)
    · exact (h.attrs q (hr q hq)).mono hkp (fun _ x => x)
  · intro q hq
    rcases List.mem_cons.1 hq with rfl | hq
    · exact hK hk
    · exact hK (h.kids q (hr q hq))
  · exact List.pairwise_cons.2 ⟨hap, (List.pairwise_cons.1 h.apart).2⟩
  · intro q hq
    rcases List.mem_cons.1 hq with rfl | hq
    · exact ⟨hown (by decide) ht.1, ht.2⟩
    · exact ⟨hown (by decide) (h.tails q (hr q hq)).1, (h.tails q (hr q hq)).2⟩
theorem BS.pushKid {C : Nat → Prop} {B b g cap : Nat} {p : PartV} {rest : List PartV} {n : Nat} {W0 w w3 : World} {v' : Value} {q : KidV} (h : BS C B b (.slice (some ⟨g, 0, none⟩) (rest.length + 1) cap) (p :: rest) n W0 w)
    (ho : w3.ownsRow B 33 4 v' (p.kids.length + 1) (nodeVals (p.kids ++ [q]))) (hg : w.grownBy w3 p.kv.ownBlock) (hv : v'.ownBlock = p.kv.ownBlock ∨ v'.ownBlock = some w.heap.size)
    (hq : AttrsC C w q.2.1 q.1.1.attrs ∧ NodesC C w q.2.2 q.1.2) :
    BS C B b (.slice (some ⟨g, 0, none⟩) (rest.length + 1) cap) ({ p with kids := p.kids ++ [q], kv := v' } :: rest) n W0 (w3.setCell ⟨g, rest.length * 5 + 3, none⟩ v') := by
  have hkp := h.kids p (List.mem_cons_self ..)
  have hC : ∀ k, C k → k < w.heap.size := fun k hk => (h.typ k hk).1
  have hk : ∀ x, C x → w3.heap[x]? = w.heap[x]? := fun x hx => hg.block x (hC x hx) (fun e => hkp.out x e.symm hx)
  have hown : ∀ {e : TypeId} {sz m : Nat} {v : Value} {xs : List Value}, e ≠ 33 → w.ownsRow B e sz v m xs → w3.ownsRow B e sz v m xs := fun {e sz m v xs} h1 hx => hx.kept hg (ownsRow_diff h1 hx hkp.row)
  have hb : ∀ k (cur : Array Value) (e : TypeId), e ≠ 33 → w.heap[k]? = some (Obj.cells cur e (0, 0)) → w3.heap[k]? = w.heap[k]? := fun k cur e h1 hx => hg.block k (lt_of_block hx) (fun e2 => by
    have := ownsRow_other hkp.row (r := k) (fun cur' h2 => by
      rw [hx] at h2
      injection h2 with h2
      injection h2 with _ h2
      exact h1 h2)
    exact this e2.symm)
  have hcl : ∀ x ∈ rest, p.kv.ownBlock = none ∨ p.kv.ownBlock ≠ x.kv.ownBlock := (List.pairwise_cons.1 h.apart).1
  have hne : ∀ x ∈ rest, x.kv.ownBlock = none ∨ x.kv.ownBlock ≠ p.kv.ownBlock := fun x hx => by
    rcases hcl x hx with e | e
    · rw [e]
      cases x.kv.ownBlock with
      | none => exact .inl rfl
      | some k => exact .inr (by simp)
    · exact .inr (fun e2 => e e2.symm)
  have hK : ∀ x ∈ rest, KRow C B x.kv x.kids w3 := fun x hx => (h.kids x (List.mem_cons_of_mem _ hx)).turned hg hC (fun k e hc => hkp.out k e hc) (hne x hx)
  have hrow := h.row
  rw [List.length_cons] at hrow
  have hrow3 := hown (by decide) hrow
  have hvals : partVals (p :: rest).reverse = partVals (({ p with kids := p.kids ++ [q], kv := p.kv } : PartV) :: rest).reverse := by
    rw [List.reverse_cons, List.reverse_cons, partVals_append, partVals_append]; rfl
  have hout3 : g ≠ b ∧ ¬ C g ∧ B ≤ g ∧ ∀ (cur : Array Value) (e : TypeId), e ≠ 58 → w3.heap[g]? ≠ some (.cells cur e (0, 0)) := by
    obtain ⟨q1, q2, q3, q4⟩ := h.rowOut
    refine ⟨q1, q2, q3, fun cur e h1 hx => ?_⟩
    rcases hrow3.2 with ⟨h0, _⟩ | ⟨g', cap', cur', h0, _, hh, _⟩
    · cases h0
    · injection h0 with h0 _ _
      injection h0 with h0
      injection h0 with h0
      subst h0
      rw [hh] at hx
      injection hx with hx
      injection hx with _ hx
      exact h1 hx.symm
  obtain ⟨q1, q2, q3, q4⟩ := hout3
  obtain ⟨r1, hgp⟩ := hrow3.stored (rest.length * 5 + 3) v'
  have hown4 : ∀ {e : TypeId} {sz m : Nat} {v : Value} {xs : List Value}, e ≠ 58 → w3.ownsRow B e sz v m xs → (w3.setCell ⟨g, rest.length * 5 + 3, none⟩ v').ownsRow B e sz v m xs := fun {e sz m v xs} h1 hx => own_type hx hgp (fun cur => q4 cur e h1)
  have hk4 := same_put (w := w3) (i := rest.length * 5 + 3) (u := v') q2
  have hk5 : ∀ x, C x → (w3.setCell ⟨g, rest.length * 5 + 3, none⟩ v').heap[x]? = w.heap[x]? := fun x hx => (hk4 x hx).trans (hk x hx)
  have hC3 : ∀ k, C k → k < w3.heap.size := fun k hx => Nat.lt_of_lt_of_le (hC k hx) hg.size
  have hrm : ∀ x ∈ rest, x ∈ p :: rest := fun x hx => List.mem_cons_of_mem _ hx
  have hvo : ∀ k, v'.ownBlock = some k → ¬ C k := fun k e hc => by
    rcases hv with e1 | e1
    · exact hkp.out k (e1.symm.trans e) hc
    · rw [e1] at e
      injection e with e
      exact Nat.lt_irrefl _ (e ▸ hC k hc)
  refine ⟨?_, ?_, ?_, ?_, ?_, ?_, h.quiet, fun x hx => ⟨by have := hC3 x hx; simpa [World.setCell] using this, by rw [hk5 x hx]; exact (h.typ x hx).2⟩, h.base, (h.below.grown hg h.size (fun k e => (hkp.row.lt k e).1)).setCell (p := ⟨g, rest.length * 5 + 3, none⟩) q3 v', by have := Nat.le_trans h.size hg.size; simpa [World.setCell] using this, (h.since.own hkp.row hg (.inr (.inr (.inl rfl)))).own hrow3 hgp (.inr (.inl rfl))⟩
  · rw [hgp.block b (Nat.lt_of_lt_of_le (lt_of_block h.blk) hg.size) (fun e => q1 (Option.some.inj e).symm), hb b _ 47 (by decide) h.blk]
    exact h.blk
  · rw [hvals] at r1
    rw [List.reverse_cons] at r1 ⊢
    have e1 := partVals_set rest.reverse ({ p with kids := p.kids ++ [q], kv := p.kv } : PartV) 3 (by decide) v'
    rw [List.length_reverse] at e1
    rw [e1] at r1
    rw [partVals_append]
    exact r1
  · intro x hx
    rcases List.mem_cons.1 hx with rfl | hx
    · exact (h.attrs p (List.mem_cons_self ..)).mono hk5 (fun _ x => x)
    · exact (h.attrs x (hrm x hx)).mono hk5 (fun _ x => x)
  · intro x hx
    rcases List.mem_cons.1 hx with rfl | hx
    · refine ⟨hown4 (by decide) (by rw [List.length_append]; exact ho), fun y hy => ?_, hvo⟩
      rcases List.mem_append.1 hy with hy | hy
      · exact ⟨(hkp.each y hy).1.mono hk5 (fun _ x => x), (hkp.each y hy).2.mono hk5 (fun _ x => x)⟩
      · obtain rfl := List.mem_singleton.1 hy
        exact ⟨hq.1.mono hk5 (fun _ x => x), hq.2.mono hk5 (fun _ x => x)⟩
    · have := hK x hx
      exact ⟨hown4 (by decide) this.row, fun y hy => ⟨(this.each y hy).1.mono hk4 (fun _ x => x), (this.each y hy).2.mono hk4 (fun _ x => x)⟩, this.out⟩
  · refine List.pairwise_cons.2 ⟨fun x hx => ?_, (List.pairwise_cons.1 h.apart).2⟩
    show v'.ownBlock = none ∨ v'.ownBlock ≠ x.kv.ownBlock
    rcases hv with e | e
    · rw [e]; exact hcl x hx
    · rw [e]
      right
      intro e2
      exact Nat.lt_irrefl _ ((h.kids x (hrm x hx)).row.lt _ e2.symm).2
  · intro x hx
    rcases List.mem_cons.1 hx with rfl | hx
    · have := h.tails p (List.mem_cons_self ..)
      exact ⟨hown4 (by decide) (hown (by decide) this.1), this.2⟩
    · have := h.tails x (hrm x hx)
      exact ⟨hown4 (by decide) (hown (by decide) this.1), this.2⟩
theorem KRow.nodes {C C' : Nat → Prop} {B : Nat} {v : Value} {ks : List KidV} {w : World} (h : KRow C B v ks w) (hC : ∀ b, C b → C' b) (hv : ∀ k, v.ownBlock = some k → C' k) : NodesC C' w v (Tr.of (ks.map Prod.fst)) := by
  rcases h.row.2 with ⟨rfl, h0⟩ | ⟨g, cap, cur, rfl, hg, hh, h1, h2, h3, h4⟩
  · have := List.eq_nil_of_length_eq_zero h0
    subst this
    exact .inl ⟨rfl, rfl⟩
  · have hl : (Tr.of (ks.map Prod.fst)).len = ks.length := by rw [Tr.len_of, List.length_map]
    refine .inr ⟨⟨g, 0, none⟩, cap, by rw [hl], by rw [hl]; exact h1, h2, ?_⟩
    have hcell : ∀ j u, (nodeVals ks)[j]? = some u → w.cell? ((⟨g, 0, none⟩ : Addr).add j) = some u := h.row.cells (g := g) rfl
    have hCg : C' g := hv g rfl
    have main : ∀ (l pre : List KidV), ks = pre ++ l → NodesAt C' w (Tr.of (l.map Prod.fst)) ((⟨g, 0, none⟩ : Addr).add (pre.length * 4)) := by
      intro l
      induction l with
      | nil => intro pre _; exact trivial
      | cons q l ih =>
        intro pre hpre
        obtain ⟨⟨hd, T⟩, va, vk⟩ := q
        have hat : ∀ j, j < 4 → (nodeVals ks)[pre.length * 4 + j]? = [Value.string (str hd.name), va, .string (str hd.text), vk][j]? := fun j hj => by
          rw [hpre, nodeVals_append, List.getElem?_append_right (by rw [nodeVals_length]; omega), nodeVals_length, show pre.length * 4 + j - pre.length * 4 = j by omega]
          unfold nodeVals
          rw [List.flatMap_cons, List.getElem?_append_left (by simpa using hj)]
        have hm := h.each ((hd, T), (va, vk)) (by rw [hpre]; exact List.mem_append.2 (.inr (List.mem_cons_self ..)))
        have c0 := hcell _ _ (hat 0 (by decide))
        have c1 := hcell _ _ (hat 1 (by decide))
        have c2 := hcell _ _ (hat 2 (by decide))
        have c3 := hcell _ _ (hat 3 (by decide))
        rw [← Addr.add_add] at c1 c2 c3
        refine ⟨by rw [addr_add_block]; exact hCg, c0, c2, ⟨va, c1, hm.1.mono (fun _ _ => rfl) hC⟩, ⟨vk, c3, hm.2.mono (fun _ _ => rfl) hC⟩, ?_⟩
        have := ih (pre ++ [((hd, T), (va, vk))]) (by rw [hpre]; simp)
        rw [List.length_append, Nat.add_mul] at this
        rw [Addr.add_add]
        exact this
    have := main ks [] rfl
    rw [List.length_nil, Nat.zero_mul, Addr.add_zero'] at this
    exact this
theorem BS.shrink {C : Nat → Prop} {B b g cap : Nat} {p q : PartV} {rest : List PartV} {n : Nat} {W0 w : World} (h : BS C B b (.slice (some ⟨g, 0, none⟩) (rest.length + 1 + 1) cap) (p :: q :: rest) n W0 w) :
    ∃ C' : Nat → Prop, BS C' B b (.slice (some ⟨g, 0, none⟩) (rest.length + 1) cap) (q :: rest) n W0 (w.setCell ⟨b, 0, none⟩ (.slice (some ⟨g, 0, none⟩) (rest.length + 1) cap)) ∧
      AttrsC C' (w.setCell ⟨b, 0, none⟩ (.slice (some ⟨g, 0, none⟩) (rest.length + 1) cap)) p.av p.attrs ∧ NodesC C' (w.setCell ⟨b, 0, none⟩ (.slice (some ⟨g, 0, none⟩) (rest.length + 1) cap)) p.kv (Tr.of (p.kids.map Prod.fst)) := by
  have hkp := h.kids p (List.mem_cons_self ..)
  have hrm : ∀ x ∈ q :: rest, x ∈ p :: q :: rest := fun x hx => List.mem_cons_of_mem _ hx
  have hrow := h.row
  -- the shorter row
  have hshort : w.ownsRow B 58 5 (.slice (some ⟨g, 0, none⟩) (rest.length + 1) cap) (q :: rest).length (partVals (q :: rest).reverse) := by
    refine ⟨by rw [partVals_length, List.length_reverse], ?_⟩
    rcases hrow.2 with ⟨h0, _⟩ | ⟨g', cap', cur, h0, hg, hh, h1, h2, h3, h4⟩
    · cases h0
    · injection h0 with e1 e2 e3
      injection e1 with e1
      injection e1 with e1
      subst e1 e3
      refine .inr ⟨g, cap, cur, rfl, hg, hh, by simp only [List.length_cons] at h1 ⊢; omega, h2, h3, ?_⟩
      have e5 := congrArg (List.take ((q :: rest).length * 5)) h4
      rw [List.take_take, Nat.min_eq_left (by simp only [List.length_cons]; omega)] at e5
      rw [e5, List.reverse_cons, partVals_append]
      have hl : (partVals (q :: rest).reverse).length = (q :: rest).length * 5 := by rw [partVals_length, List.length_reverse]
      rw [List.take_append_of_le_length (Nat.le_of_eq hl.symm), ← hl, List.take_length]
  obtain ⟨C', hC'⟩ : ∃ C' : Nat → Prop, C' = fun x => C x ∨ p.kv.ownBlock = some x := ⟨_, rfl⟩
  have hsub : ∀ x, C x → C' x := fun x hx => by rw [hC']; exact .inl hx
  have hv : ∀ k, p.kv.ownBlock = some k → C' k := fun k e => by rw [hC']; exact .inr e
  have hcl := (List.pairwise_cons.1 h.apart).1
  have hbs : BS C' B b (.slice (some ⟨g, 0, none⟩) (rest.length + 1) cap) (q :: rest) n W0 (w.setCell ⟨b, 0, none⟩ (.slice (some ⟨g, 0, none⟩) (rest.length + 1) cap)) := by
    have ho := h.out
    have hnb : ¬ C' b := by
      rw [hC']
      rintro (hx | hx)
      · exact ho.1 hx
      · exact absurd hx (fun e => (ownsRow_other hkp.row (r := b) (fun cur hb => ho.2 cur _ (by decide) hb)) e)
    have hgp := grown_put w b 0 (.slice (some ⟨g, 0, none⟩) (rest.length + 1) cap)
    have hown : ∀ {e : TypeId} {sz m : Nat} {v : Value} {xs : List Value}, e ≠ 47 → w.ownsRow B e sz v m xs → (w.setCell ⟨b, 0, none⟩ (.slice (some ⟨g, 0, none⟩) (rest.length + 1) cap)).ownsRow B e sz v m xs := fun {e sz m v xs} h1 hx => own_type hx hgp (fun cur => ho.2 cur e h1)
    have hk := same_put (w := w) (i := 0) (u := .slice (some ⟨g, 0, none⟩) (rest.length + 1) cap) hnb
    have hk0 : ∀ x, C x → (w.setCell ⟨b, 0, none⟩ (.slice (some ⟨g, 0, none⟩) (rest.length + 1) cap)).heap[x]? = w.heap[x]? := fun x hx => hk x (hsub x hx)
    refine ⟨by rw [heap_put0 h.blk]; rfl, hown (by decide) hshort, fun x hx => (h.attrs x (hrm x hx)).mono hk0 hsub, fun x hx => ?_, (List.pairwise_cons.1 h.apart).2, fun x hx => ⟨hown (by decide) (h.tails x (hrm x hx)).1, (h.tails x (hrm x hx)).2⟩,
      fun x hx => h.quiet x (by simpa using List.mem_cons_of_mem _ hx), fun x hx => ?_, h.base, h.below.setCell (p := ⟨b, 0, none⟩) h.base _, by simpa [World.setCell] using h.size, h.since.put h.blk (.inl rfl)⟩
    · have hx2 := h.kids x (hrm x hx)
      refine ⟨hown (by decide) hx2.row, fun y hy => ⟨(hx2.each y hy).1.mono hk0 hsub, (hx2.each y hy).2.mono hk0 hsub⟩, fun k e => ?_⟩
      rw [hC']
      rintro (hc | hc)
      · exact hx2.out k e hc
      · rcases hcl x hx with e1 | e1
        · rw [e1] at hc; cases hc
        · exact e1 (hc.trans e.symm)
    · rw [hk x hx]
      rw [hC'] at hx
      rcases hx with hx | hx
      · exact ⟨by have := (h.typ x hx).1; simpa [World.setCell] using this, (h.typ x hx).2⟩
      · refine ⟨by have := (hkp.row.lt x hx).2; simpa [World.setCell] using this, fun cur T fz hh => ?_⟩
        rcases hkp.row.2 with ⟨e0, _⟩ | ⟨g', cap', cur', e0, _, hh', _⟩
        · rw [e0] at hx; cases hx
        · rw [e0] at hx
          obtain rfl : g' = x := by simpa [Value.ownBlock] using hx
          rw [hh'] at hh
          injection hh with hh
          injection hh with _ hh
          exact .inl hh.symm
  have hnb2 : ¬ C' b := hbs.out.1
  have hk2 := same_put (w := w) (i := 0) (u := .slice (some ⟨g, 0, none⟩) (rest.length + 1) cap) hnb2
  exact ⟨C', hbs, (h.attrs p (List.mem_cons_self ..)).mono (fun x hx => hk2 x (hsub x hx)) hsub, (hkp.nodes hsub hv).mono hk2 (fun _ x => x)⟩
theorem BS.pushPart {C : Nat → Prop} {B b : Nat} {r r' : Value} {st : List PartV} {n : Nat} {W0 w w2 : World} (h : BS C B b r st n W0 w) (nm : List UInt8) (ats : List AtL) (av : Value) (ha : AttrsC C w av ats) (hq : ∀ p ∈ st, p.tail = [])
    (ho : w2.ownsRow B 58 5 r' (st.length + 1) (partVals st.reverse ++ partVals [⟨nm, ats, av, [], .slice none 0 0, [], .slice none 0 0⟩])) (hg : w.grownBy w2 r.ownBlock) :
    BS C B b r' (⟨nm, ats, av, [], .slice none 0 0, [], .slice none 0 0⟩ :: st) n W0 (w2.setCell ⟨b, 0, none⟩ r') := by
  have hC : ∀ k, C k → k < w.heap.size := fun k hk => (h.typ k hk).1
  have hrC : ∀ k, r.ownBlock = some k → ¬ C k := fun k e hc => by
    rcases h.row.2 with ⟨e0, _⟩ | ⟨g, cap, cur, e0, _⟩
    · rw [e0] at e; cases e
    · subst e0
      obtain rfl : g = k := by simpa [Value.ownBlock] using e
      exact h.rowOut.2.1 hc
  have hk : ∀ x, C x → w2.heap[x]? = w.heap[x]? := fun x hx => hg.block x (hC x hx) (fun e => hrC x e.symm hx)
  have hown : ∀ {e : TypeId} {sz m : Nat} {v : Value} {xs : List Value}, e ≠ 58 → w.ownsRow B e sz v m xs → w2.ownsRow B e sz v m xs := fun {e sz m v xs} h1 hx => hx.kept hg (ownsRow_diff h1 hx h.row)
  have hblk : w2.heap[b]? = some (.cells #[r, .int .i64 n] 47 (0, 0)) := by
    rw [hg.block b (lt_of_block h.blk) (fun e => (ownsRow_other h.row (r := b) (fun cur hb => h.out.2 cur _ (by decide) hb)) e.symm)]
    exact h.blk
  have hgp := grown_put w2 b 0 r'
  have hnb : ∀ (cur : Array Value) (e : TypeId), e ≠ 47 → w2.heap[b]? ≠ some (Obj.cells cur e (0, 0)) := fun cur e he hx => by
    rw [hblk] at hx
    injection hx with hx
    injection hx with _ hx
    exact he hx.symm
  have hown4 : ∀ {e : TypeId} {sz m : Nat} {v : Value} {xs : List Value}, e ≠ 47 → w2.ownsRow B e sz v m xs → (w2.setCell ⟨b, 0, none⟩ r').ownsRow B e sz v m xs := fun {e sz m v xs} h1 hx => own_type hx hgp (fun cur => hnb cur e h1)
  have hk4 := same_put (w := w2) (i := 0) (u := r') h.out.1
  have hk5 : ∀ x, C x → (w2.setCell ⟨b, 0, none⟩ r').heap[x]? = w.heap[x]? := fun x hx => (hk4 x hx).trans (hk x hx)
  refine ⟨by rw [heap_put0 hblk]; rfl, ?_, ?_, ?_, ?_, ?_, fun p hp => hq p hp, fun x hx => ⟨by have := Nat.lt_of_lt_of_le (hC x hx) hg.size; simpa [World.setCell] using this, by rw [hk5 x hx]; exact (h.typ x hx).2⟩, h.base, (h.below.grown hg h.size (fun k e => (h.row.lt k e).1)).setCell (p := ⟨b, 0, none⟩) h.base r', by have := Nat.le_trans h.size hg.size; simpa [World.setCell] using this, (h.since.own h.row hg (.inr (.inl rfl))).put hblk (.inl rfl)⟩
  · refine hown4 (by decide) ?_
    rw [List.length_cons, List.reverse_cons, partVals_append]
    exact ho
  · intro x hx
    rcases List.mem_cons.1 hx with rfl | hx
    · exact ha.mono hk5 (fun _ x => x)
    · exact (h.attrs x hx).mono hk5 (fun _ x => x)
  · intro x hx
    rcases List.mem_cons.1 hx with rfl | hx
    · exact ⟨World.ownsRow_nil _ B _ 4, fun y hy => (by cases hy), fun k e => (by cases e)⟩
    · have := h.kids x hx
      exact ⟨hown4 (by decide) (hown (by decide) this.row), fun y hy => ⟨(this.each y hy).1.mono hk5 (fun _ x => x), (this.each y hy).2.mono hk5 (fun _ x => x)⟩, this.out⟩
  · exact List.pairwise_cons.2 ⟨fun x hx => .inl rfl, h.apart⟩
  · intro x hx
    rcases List.mem_cons.1 hx with rfl | hx
    · exact ⟨World.ownsRow_nil _ B _ 1, fun _ => rfl⟩
    · exact ⟨hown4 (by decide) (hown (by decide) (h.tails x hx).1), (h.tails x hx).2⟩
theorem BS.wider {C C' : Nat → Prop} {B b : Nat} {r : Value} {st : List PartV} {n : Nat} {W0 w : World} (h : BS C B b r st n W0 w) (hs : ∀ x, C x → C' x) (ho : ∀ p ∈ st, ∀ g, p.kv.ownBlock = some g → ¬ C' g)
    (ht : ∀ g, C' g → g < w.heap.size ∧ ∀ cur T fz, w.heap[g]? = some (.cells cur T fz) → T = 33 ∨ T = 43) : BS C' B b r st n W0 w :=
  ⟨h.blk, h.row, fun p hp => (h.attrs p hp).mono (fun _ _ => rfl) hs, fun p hp => ⟨(h.kids p hp).row, fun q hq => ⟨((h.kids p hp).each q hq).1.mono (fun _ _ => rfl) hs, ((h.kids p hp).each q hq).2.mono (fun _ _ => rfl) hs⟩, ho p hp⟩, h.apart, h.tails, h.quiet, ht, h.base, h.below, h.size, h.since⟩
theorem BS.from {C : Nat → Prop} {B b : Nat} {r : Value} {st : List PartV} {n : Nat} {W0 w : World} (h : BS C B b r st n W0 w) : BS C B b r st n w w :=
  ⟨h.blk, h.row, h.attrs, h.kids, h.apart, h.tails, h.quiet, h.typ, h.base, Below.refl _ _, h.size, Since4.refl _⟩
end Go.Proofs.YtiejmkjpgjbodaaGreatDoor

namespace Go.Proofs.YtiejmkjpgjbodaaGreatDoor
open Go.RowKit
set_option linter.unusedVariables false
set_option linter.unusedSimpArgs false
set_option maxRecDepth 100000
theorem freeze_other (w : World) (g n k : Nat) (h : k ≠ g) : (w.freeze ⟨g, 0, none⟩ n).heap[k]? = w.heap[k]? := by
  unfold World.freeze
  split
  · rfl
  · simp [Array.getElem?_modify, Ne.symm h]
theorem freeze_size (w : World) (g n : Nat) : (w.freeze ⟨g, 0, none⟩ n).heap.size = w.heap.size := by
  unfold World.freeze
  split <;> simp
theorem RowsK.freeze {w : World} {g n cap : Nat} {cur : Array Value} (hg : w.heap[g]? = some (.cells cur 5 (0, 0))) : RowsK w (w.freeze ⟨g, 0, none⟩ n) := fun B e sz m x xs h1 _ hx =>
  hx.kept (row := some g) ⟨by unfold World.freeze; split <;> rfl, by unfold World.freeze; split <;> rfl, by unfold World.freeze; split <;> rfl, by rw [freeze_size]; exact Nat.le_refl _, fun k _ hk => freeze_other w g n k (fun e => hk (by rw [e]))⟩ (.inr (ownsRow_other hx (fun cur' hc => by
    rw [hg] at hc
    injection hc with hc
    injection hc with _ hc
    exact h1 hc.symm)))
def RdrS (B b : Nat) (o : Value) (vs : List TokV) (W0 w : World) : Prop := (∃ a v, RdC w b o a v) ∧ TRow B o vs w ∧ B ≤ b ∧ Below B W0 w ∧ B ≤ w.heap.size
set_option maxHeartbeats 2000000 in
theorem stringR_any (B b : Nat) (o : Value) (vs : List TokV) (x : List UInt8) (W0 w : World) (h : Rdr B b o vs x W0 w) (h0 : x ≠ []) :
    Calls Tryz.prog 57 #[.pointer (some ⟨b, 1, none⟩)] w fun e w' => e = .returned (.string (str x)) ∧ RdrS B b o vs W0 w' ∧ w.heap.size ≤ w'.heap.size ∧ (∀ (k : Nat), (∀ (cur : Array Value) (fr : Nat × Nat), w.heap[k]? ≠ some (Obj.cells cur 5 fr)) → w'.heap[k]? = w.heap[k]?) := by
  obtain ⟨⟨a, v, h1, h2, h3, h4⟩, ht, hB, hW, hz⟩ := h
  have hl0 : x.length ≠ 0 := by simpa using h0
  obtain ⟨g, cap, cur, rfl, hbg, hg, hnc, hcm, hcs, htake⟩ : ∃ g cap cur, v = .slice (some ⟨g, 0, none⟩) x.length cap ∧ B ≤ g ∧ w.heap[g]? = some (.cells cur 5 (0, 0)) ∧ x.length ≤ cap ∧ cap ≤ maxLen ∧ cur.size = cap * 1 ∧ cur.toList.take (x.length * 1) = cellsOf x := by
    rcases h3.2 with ⟨_, hz⟩ | ⟨g, cap, cur, hv, r⟩
    · exact absurd hz hl0
    · exact ⟨g, cap, cur, hv, r⟩
  have hgb : g ≠ b := fun e => h4 (by rw [e]; rfl)
  have c2 : w.cell? ⟨b, 2, none⟩ = some (.slice (some ⟨g, 0, none⟩) x.length cap) := h1.cell2
  have c2d : w.drew.cell? ⟨b, 2, none⟩ = some (.slice (some ⟨g, 0, none⟩) x.length cap) := c2
  have hSD : (Builtin.unsafeSliceData_ #[56] 120 #[.slice (some ⟨g, 0, none⟩) x.length cap]).run Tryz.prog w.drew = .ok (.pointer (some ⟨g, 0, none⟩)) w.drew :=
    Lib.run_unsafeSliceData_row _ _ _ _ _ _ (by omega)
  have hUS : (Builtin.unsafeString_ #[120, 3] 9 #[.pointer (some ⟨g, 0, none⟩), .int .i64 x.length]).run Tryz.prog w.drew = .ok (.string (str x)) (w.drew.freeze ⟨g, 0, none⟩ x.length) := by
    refine Lib.run_unsafeString_row w.drew 120 3 9 5 Tryz.underlying120 (by kernel_rfl) g cur.size (by have hg' : w.drew.heap[g]? = some (.cells cur 5 (0, 0)) := hg; simp [World.shape?, hg']) x h0 (by omega) (by unfold maxLen at hcm; omega) ?_
    intro j y hy
    exact h3.cells (g := g) rfl j (.int .u8 y.toNat) (by simp [cellsOf, hy])
  have HKK : Hid (w.heap.size ≤ (w.drew.freeze ⟨g, 0, none⟩ x.length).heap.size ∧ (∀ (k : Nat), (∀ (cur : Array Value) (fr : Nat × Nat), w.heap[k]? ≠ some (Obj.cells cur 5 fr)) → (w.drew.freeze ⟨g, 0, none⟩ x.length).heap[k]? = w.heap[k]?)) := hide (by
    refine ⟨by rw [freeze_size]; exact Nat.le_refl _, fun k hk => ?_⟩
    exact freeze_other w.drew g x.length k (fun e => hk cur (0, 0) (by rw [e]; exact hg)))
  have HS : Hid (RdrS B b o vs W0 (w.drew.freeze ⟨g, 0, none⟩ x.length)) := hide (by
    have hgd : w.drew.heap[g]? = some (.cells cur 5 (0, 0)) := hg
    have htd : TRow B o vs w.drew := ⟨ht.row, ht.each⟩
    refine ⟨⟨a, _, (freeze_other w.drew g x.length b (Ne.symm hgb)).trans h1⟩, htd.rows (RowsK.freeze (cap := cap) hgd), hB, Lib.below_freeze hW.drew (p := ⟨g, 0, none⟩) hbg _, ?_⟩
    rw [freeze_size]
    exact hz)
  clear h1 h2 h3 h4 ht hB hW hz hg hcs htake hnc hcm hbg hgb h0
  go_enter Tryz.func57, Tryz.ntmps57
  go_wp2_with fail
  go_region
  all_goals
    try go_wp2_with fail
    go_ret
    exact ⟨rfl, HS.out, HKK.out⟩
set_option maxHeartbeats 1000000 in
theorem resetR_any (B b : Nat) (o : Value) (vs : List TokV) (W0 w : World) (h : RdrS B b o vs W0 w) :
    Calls Tryz.prog 127 #[.pointer (some ⟨b, 1, none⟩)] w fun e w' => e = .returned (.tuple #[]) ∧ Rdr B b o vs [] W0 w' ∧ w.heap.size ≤ w'.heap.size ∧ ∀ (k : Nat), k ≠ b → w'.heap[k]? = w.heap[k]? := by
  obtain ⟨⟨a, v, h1⟩, ht, hB, hW, hz⟩ := h
  have f1 := h1.free 1
  have c1 := h1.cell1
  have k1 := h1.put1 (.pointer none)
  have f2 := k1.free 2
  have d2 := k1.cell2
  have HR : Hid (Rdr B b o vs [] W0 ((w.setCell ⟨b, 1, none⟩ (.pointer none)).setCell ⟨b, 2, none⟩ (.slice none 0 0))) := hide
    ⟨⟨_, _, k1.put2 _, .inl rfl, World.ownsRow_nil _ B _ 1, by simp [Value.ownBlock]⟩, ht.rows ((RowsK.put h1 1 _).trans (RowsK.put k1 2 _)), hB, (hW.setCell (p := ⟨b, 1, none⟩) hB _).setCell (p := ⟨b, 2, none⟩) hB _, by simpa [World.setCell] using hz⟩
  have HK : Hid (w.heap.size ≤ ((w.setCell ⟨b, 1, none⟩ (.pointer none)).setCell ⟨b, 2, none⟩ (.slice none 0 0)).heap.size ∧ ∀ k, k ≠ b → ((w.setCell ⟨b, 1, none⟩ (.pointer none)).setCell ⟨b, 2, none⟩ (.slice none 0 0)).heap[k]? = w.heap[k]?) := hide
    ⟨by simp [World.setCell], fun k hk => (Below.heap_setCell _ _ _ k (fun e => hk (by rw [e]))).trans (Below.heap_setCell _ _ _ k (fun e => hk (by rw [e])))⟩
  clear h1 ht hB hW hz k1
  go_enter Tryz.func127, Tryz.ntmps127
  go_wp2_with fail
  go_end0
  exact ⟨rfl, HR.out, HK.out⟩
theorem step_toks {ops : Array Oper} {o : Oper} {a : Act} {w : World} {K : Act → World → Prop} {Q : Exit → Act → World → Prop} {E : Prop} (hgd : o.guard = none) (s x : Operand)
    (ho : o.op = .call { callee := .builtin .append, args := #[s, x], argTypes := #[48, 48] })
    (B : Nat) (v : Value) (ls : List TokV) (hs : a.eval s = v) (t : TokL) (u : Value) (hb : TRow B v ls w) (hu : w.ownsRow B 43 2 u t.attrs.length (atVals t.attrs)) (hB : B ≤ w.heap.size) (ad : Addr)
    (hx : a.eval x = .slice (some ad) 1 1) (h0 : w.cell? (ad.add 0) = some (.int .i64 (t.kind : Int))) (h1 : w.cell? (ad.add 1) = some (.string (str t.name))) (h2 : w.cell? (ad.add 2) = some u) (h3 : w.cell? (ad.add 3) = some (.string (str t.text)))
    (hlen : ls.length + 1 ≤ 2199023255552)
    (h : ∀ v' w', TRow B v' (ls ++ [(t, u)]) w' → w.grownBy w' v.ownBlock → K (a.put o.dst v') w') :
    if Region.wanted o (yielded ops a.tmps) = true then Oper.wp Tryz.prog o a w K Q else E := by
  have hw : Region.wanted o (yielded ops a.tmps) = true := by simp [Region.wanted, hgd]
  rw [if_pos hw]
  obtain ⟨i0, hi, hz0, hz1, hz2⟩ := info_parts info_tok
  obtain ⟨A, c, rfl⟩ : ∃ A c, u = .slice A t.attrs.length c := by
    rcases hu.2 with ⟨rfl, h0⟩ | ⟨g, cap, cur, rfl, _⟩
    · rw [h0]; exact ⟨_, _, rfl⟩
    · exact ⟨_, _, rfl⟩
  refine wp_append_own _ s x 48 ho B 51 i0 (.agg #[.int .i64 0, .string ByteArray.empty, .slice none 0 0, .string ByteArray.empty]) 4 64 Tryz.underlying48 hi hz0 hz1 hz2 rfl (by decide) v ls.length (tokVals ls) hs hb.row ad 1 1 (tokVals [(t, .slice A t.attrs.length c)]) hx rfl ?_ ?_ (by unfold maxLen; omega) (by omega) hB ?_
  · intro j u hj
    match j, hj with
    | 0, hj => simp [tokVals] at hj; subst hj; exact h0
    | 1, hj => simp [tokVals] at hj; subst hj; exact h1
    | 2, hj => simp [tokVals] at hj; subst hj; exact h2
    | 3, hj => simp [tokVals] at hj; subst hj; exact h3
    | (j + 4), hj => simp [tokVals] at hj
  · intro u hu
    simp [tokVals] at hu
    rcases hu with rfl | rfl | rfl | rfl <;> rfl
  · intro v' w' ho' hg _
    exact h v' w' (hb.push hu ho' hg) hg
end Go.Proofs.YtiejmkjpgjbodaaGreatDoor

namespace Go.Proofs.YtiejmkjpgjbodaaGreatDoor
open Go.RowKit
set_option linter.unusedVariables false
set_option linter.unusedSimpArgs false
set_option maxRecDepth 100000
def KeptB (b : Nat) (o : Value) (w w' : World) : Prop := w.heap.size ≤ w'.heap.size ∧ ∀ k, k < w.heap.size → k ≠ b → o.ownBlock ≠ some k → (∀ cur fr, w.heap[k]? ≠ some (Obj.cells cur 5 fr)) → w'.heap[k]? = w.heap[k]?
theorem KeptB.attr {b : Nat} {o : Value} {w w' : World} {B n : Nat} {u : Value} {xs : List Value} (h : KeptB b o w w') (hr : w.ownsRow B 43 2 u n xs) {bo m : Nat} {ys : List Value} (ho : w.ownsRow bo 51 4 o m ys) {a v p : Value} (hb : RdC w b p a v) : w'.ownsRow B 43 2 u n xs := by
  refine ⟨hr.1, ?_⟩
  rcases hr.2 with h2 | ⟨g, cap, cur, h1, hg, hh, h3⟩
  · exact .inl h2
  · have hlt : g < w.heap.size := lt_of_block hh
    refine .inr ⟨g, cap, cur, h1, hg, (h.2 g hlt ?_ ?_ ?_).trans hh, h3⟩
    · intro e
      have hb' : w.heap[b]? = some (.cells #[p, a, v] 105 (0, 0)) := hb
      rw [← e, hh] at hb'
      injection hb' with hb'
      injection hb' with _ hb'
      exact absurd hb' (by decide)
    · exact ownsRow_other ho (fun cur' hc => by
        rw [hh] at hc
        injection hc with hc
        injection hc with _ hc
        exact absurd hc (by decide))
    · intro cur' fr hc
      rw [hh] at hc
      injection hc with hc
      injection hc with _ hc
      exact absurd hc (by decide)
def EndP (B b : Nat) (o : Value) (vs : List TokV) (x : List UInt8) (W0 w w' : World) : Prop :=
  ∃ o' vs', Rdr B b o' vs' [] W0 w' ∧ vs'.map Prod.fst = flushT (vs.map Prod.fst) x ∧ vs'.length ≤ vs.length + 1 ∧ KeptB b o w w'
theorem Rdr.cell {B b : Nat} {o : Value} {vs : List TokV} {x : List UInt8} {W0 w : World} (h : Rdr B b o vs x W0 w) : ∃ a v, RdC w b o a v := by
  obtain ⟨⟨a, v, h1, _⟩, _⟩ := h
  exact ⟨a, v, h1⟩
theorem tok_row (W : World) (c0 c1 c2 c3 : Value) : (W.alloc (.cells #[c0, c1, c2, c3] 51)).cell? ((⟨W.heap.size, 0, none⟩ : Addr).add 0) = some c0 ∧ (W.alloc (.cells #[c0, c1, c2, c3] 51)).cell? ((⟨W.heap.size, 0, none⟩ : Addr).add 1) = some c1 ∧
    (W.alloc (.cells #[c0, c1, c2, c3] 51)).cell? ((⟨W.heap.size, 0, none⟩ : Addr).add 2) = some c2 ∧ (W.alloc (.cells #[c0, c1, c2, c3] 51)).cell? ((⟨W.heap.size, 0, none⟩ : Addr).add 3) = some c3 := by
  refine ⟨?_, ?_, ?_, ?_⟩ <;> exact (World.cell?_alloc_at _ _ _ _ rfl).trans rfl
theorem below_one (w : World) (o : Obj) : Below w.heap.size w (w.alloc o) := (Below.refl _ _).alloc (Nat.le_refl _) _
theorem stored {B b : Nat} {o a v : Value} {vs : List TokV} {t : TokL} {u : Value} {W0 w1 w2 : World} {ob : Obj} {A : Option Addr} {n c : Nat} (hr : RdC w1 b o a v) (ht : TRow B o vs w1) (hB : B ≤ b) (hW : Below B W0 w1) (hz : B ≤ w1.heap.size)
    (h2 : TRow B (.slice A n c) (vs ++ [(t, u)]) w2) (hg : (w1.alloc ob).grownBy w2 o.ownBlock) : RdC w2 b o a v ∧ RdrS B b (.slice A n c) (vs ++ [(t, u)]) W0 (w2.setCell ⟨b, 0, none⟩ (.slice A n c)) ∧ (∀ k, k < w1.heap.size → k ≠ b → o.ownBlock ≠ some k → (w2.setCell ⟨b, 0, none⟩ (.slice A n c)).heap[k]? = w1.heap[k]?) ∧ w1.heap.size ≤ (w2.setCell ⟨b, 0, none⟩ (.slice A n c)).heap.size := by
  have hra : RdC (w1.alloc ob) b o a v := ((below_one w1 ob).block b hr.lt).trans hr
  have hne : o.ownBlock ≠ some b := ownsRow_other ht.row (fun cur hc => by
    have h' : w1.heap[b]? = some (.cells #[o, a, v] 105 (0, 0)) := hr
    rw [h'] at hc
    injection hc with hc
    injection hc with _ hc
    exact absurd hc (by decide))
  have hr2 : RdC w2 b o a v := (hg.block b hra.lt (fun e => hne e.symm)).trans hra
  have hWa : Below B W0 (w1.alloc ob) := hW.alloc hz _
  have hza : B ≤ (w1.alloc ob).heap.size := by rw [World.size_alloc]; exact Nat.le_succ_of_le hz
  have hW2 : Below B W0 w2 := hWa.grown hg hza (fun k hk => (ht.row.lt k hk).1)
  refine ⟨hr2, ⟨⟨a, v, hr2.put0 _⟩, h2.rows (RowsK.put hr2 0 _), hB, hW2.setCell (p := ⟨b, 0, none⟩) hB _, ?_⟩, fun k hk hkb hko => ?_, ?_⟩
  · have := hg.size
    simp [World.setCell]
    omega
  · rw [Below.heap_setCell _ _ _ k (fun e => hkb (by rw [e])), hg.block k (by rw [World.size_alloc]; exact Nat.lt_succ_of_lt hk) (fun e => hko e.symm)]
    exact (below_one w1 ob).block k hk
  · have := hg.size
    rw [World.size_alloc] at this
    simp [World.setCell]
    omega
set_option maxHeartbeats 4000000 in
theorem endText_any (B b : Nat) (o : Value) (vs : List TokV) (x : List UInt8) (W0 w : World) (h : Rdr B b o vs x W0 w) (hn : vs.length ≤ 1099511627776) :
    Calls Tryz.prog 84 #[.pointer (some ⟨b, 0, none⟩)] w fun e w' => e = .returned (.tuple #[]) ∧ EndP B b o vs x W0 w w' := by
  have HL := hide (lenR_any B b o vs x W0 w h)
  by_cases hx : x = []
  · subst hx
    have HR : Hid (EndP B b o vs [] W0 w w) := hide ⟨o, vs, h, by unfold flushT; rw [if_pos rfl], Nat.le_succ _, Nat.le_refl _, fun k _ _ _ _ => rfl⟩
    clear h
    go_enter Tryz.func84, Tryz.ntmps84
    go_wp2_with fail
    refine HL.out.mono ?_
    rintro e w1 ⟨rfl, rfl⟩
    go_wp2_with fail
    go_end0
    exact ⟨rfl, HR.out⟩
  · obtain ⟨N, hN⟩ : ∃ N, x.length = N := ⟨_, rfl⟩
    have hN0 : 0 < N := by rw [← hN]; exact List.length_pos_iff.2 hx
    rw [hN] at HL
    have g1 : decide ((0 : Int) < (N : Int)) = true := decide_eq_true (by omega)
    have hd : Rdr B b o vs x W0 w.drew := h.kept ((Below.refl _ _).drew)
    have HST := hide (stringR_any B b o vs x W0 w.drew hd hx)
    obtain ⟨a0, v0, hc⟩ := h.cell
    have c0 := hc.cell0
    obtain ⟨X, hX⟩ : ∃ X, str x = X := ⟨_, rfl⟩
    rw [hX] at HST
    have HX := hide hX
    have HXN := hide hx
    have HH := hide h
    have HN := hide hn
    have HN0 := hide hN0
    have HBS := hide (show B ≤ b from h.base)
    clear h hx hN hd hc hX hn hN0
    go_enter Tryz.func84, Tryz.ntmps84
    go_wp2_with fail
    refine HL.out.mono ?_
    rintro e w0 ⟨rfl, rfl⟩
    go_wp2_with fail
    all_goals first | exact absurd HN0.out ‹_› | skip
    go_region_law (first
      | (refine step_toks rfl _ _ rfl B o vs rfl (charsT x) (.slice none 0 0) ⟨(KT.out.alloc _).row, (KT.out.alloc _).each⟩ (World.ownsRow_nil _ B _ 2) ?_ ⟨w1.heap.size, 0, none⟩ rfl (tok_row _ _ _ _ _).1 (tok_row _ _ _ _ _).2.1 (tok_row _ _ _ _ _).2.2.1 ((tok_row _ _ _ _ _).2.2.2.trans (by rw [← HX.out]; rfl)) (by have := HN.out; omega) ?_
         · rw [World.size_alloc]
           exact Nat.le_succ_of_le KZ.out
         intro v2 w2 ht2 hg2
         obtain ⟨A2, n2, c2, rfl⟩ : ∃ A n c, v2 = .slice A n c := ⟨_, _, _, ht2.slice_len.choose_spec.choose_spec⟩
         obtain ⟨r2, s2, k2, z2⟩ := stored KR.out KT.out HBS.out KW.out KZ.out ht2 hg2
         have f2 := r2.free 0
         have d2 := r2.cell0
         have HS2 := hide s2
         have HK2 := hide k2
         have HZ2 := hide z2
         clear r2 s2 k2 z2 ht2 hg2)
      | (go_simp; go_at_call 57; refine HST.out.mono ?_; rintro e w1 ⟨rfl, hs, hz1, hk1⟩; obtain ⟨⟨a1, v1, hr1⟩, ht1, hB1, hW1, hzz⟩ := hs; have d1 := hr1.cell0; have e1 : ∀ ob, (w1.alloc ob).cell? ⟨b, 0, none⟩ = some o := fun ob => RdC.cell0 (((below_one w1 ob).block b hr1.lt).trans hr1); have KR := hide hr1; have KT := hide ht1; have KW := hide hW1; have KZ := hide hzz; have KZ1 := hide hz1; have KK1 := hide hk1; clear hr1 ht1 hB1 hW1 hzz hz1 hk1))
    all_goals
      try go_wp2_with fail
      refine (resetR_any B b _ _ W0 _ HS2.out).mono ?_
      rintro e w3 ⟨rfl, hr3, hz3, hk3⟩
      have HR3 := hide hr3
      have HZ3 := hide hz3
      have HK3 := hide hk3
      clear hr3 hz3 hk3
      try go_wp2_with fail
      go_end0
      refine ⟨rfl, _, _, HR3.out, ?_, ?_, Nat.le_trans KZ1.out (Nat.le_trans HZ2.out HZ3.out), fun k h1 h2 h3 h4 => ?_⟩
      · unfold flushT
        rw [if_neg HXN.out, List.map_append]
        rfl
      · rw [List.length_append]
        exact Nat.le_refl _
      · exact (HK3.out k h2).trans ((HK2.out k (Nat.lt_of_lt_of_le h1 KZ1.out) h2 h3).trans (KK1.out k h4))
theorem storedX {B b : Nat} {o a v : Value} {vs : List TokV} {t : TokL} {u : Value} {x : List UInt8} {W0 w1 w2 : World} {ob : Obj} {A : Option Addr} {n c : Nat} (hr : RdC w1 b o a v) (ht : TRow B o vs w1) (hB : B ≤ b) (hW : Below B W0 w1) (hz : B ≤ w1.heap.size)
    (hv : AdrOK b a ∧ w1.ownsRow B 5 1 v x.length (cellsOf x) ∧ v.ownBlock ≠ some b)
    (h2 : TRow B (.slice A n c) (vs ++ [(t, u)]) w2) (hg : (w1.alloc ob).grownBy w2 o.ownBlock) : Rdr B b (.slice A n c) (vs ++ [(t, u)]) x W0 (w2.setCell ⟨b, 0, none⟩ (.slice A n c)) := by
  obtain ⟨r2, ⟨q1, q2, q3, q4, q5⟩, -, -⟩ := stored hr ht hB hW hz h2 hg
  refine ⟨⟨a, v, r2.put0 _, hv.1, ?_, hv.2.2⟩, q2, q3, q4, q5⟩
  have k1 := hv.2.1.kept (row := none) (World.grownBy_alloc w1 ob none) (by cases hv : v.ownBlock <;> simp)
  have k2 := k1.kept hg (ownsRow_diff (by decide) k1 (ht.alloc ob).row)
  exact k2.kept (row := some b) ⟨rfl, rfl, rfl, by simp [World.setCell], fun k _ hk => Below.heap_setCell _ _ _ k (fun e => hk (by rw [e]))⟩ (.inr hv.2.2)
def tokV (t : TokL) (u : Value) : Value := .agg #[.int .i64 (t.kind : Int), .string (str t.name), u, .string (str t.text)]
set_option maxHeartbeats 4000000 in
theorem add_any (B b : Nat) (o : Value) (vs : List TokV) (x : List UInt8) (W0 w : World) (h : Rdr B b o vs x W0 w) (hn : vs.length ≤ 1099511627776) (t : TokL) (u : Value) (hu : w.ownsRow B 43 2 u t.attrs.length (atVals t.attrs)) :
    Calls Tryz.prog 149 #[.pointer (some ⟨b, 0, none⟩), tokV t u] w fun e w' => e = .returned (.tuple #[]) ∧ ∃ o' vs', Rdr B b o' vs' [] W0 w' ∧ vs'.map Prod.fst = flushT (vs.map Prod.fst) x ++ [t] ∧ vs'.length ≤ vs.length + 2 := by
  obtain ⟨A, c, rfl⟩ : ∃ A c, u = .slice A t.attrs.length c := by
    rcases hu.2 with ⟨rfl, h0⟩ | ⟨g, cap, cur, rfl, _⟩
    · rw [h0]; exact ⟨_, _, rfl⟩
    · exact ⟨_, _, rfl⟩
  obtain ⟨bx, hbx⟩ : ∃ bx : Obj, bx = .cells #[.int .i64 (t.kind : Int), .string (str t.name), .slice A t.attrs.length c, .string (str t.text)] 51 := ⟨_, rfl⟩
  have hk := below_one w bx
  have hr := h.kept hk
  have HE := hide (endText_any B b o vs x W0 (w.alloc bx) hr hn)
  obtain ⟨a0, v0, hc0⟩ := hr.cell
  have HU1 : Hid (∀ w', KeptB b o (w.alloc bx) w' → w'.ownsRow B 43 2 (.slice A t.attrs.length c) t.attrs.length (atVals t.attrs)) := hide (fun w' hw => hw.attr (hu.kept (row := none) (World.grownBy_alloc w bx none) (by cases hv : Value.ownBlock (.slice A t.attrs.length c) <;> simp)) hr.toks.row hc0)
  have HBX : Hid (∀ w', KeptB b o (w.alloc bx) w' → w'.heap[w.heap.size]? = some bx) := hide (fun w' hw => by
    have hs : (w.alloc bx).heap[w.heap.size]? = some bx := by show (w.heap.push bx)[w.heap.size]? = some bx; exact Array.getElem?_push_size
    rw [hw.2 w.heap.size (by rw [World.size_alloc]; exact Nat.lt_succ_self _) ?_ ?_ ?_]
    · exact hs
    · intro e
      obtain ⟨a1, v1, h1⟩ := h.cell
      exact absurd h1.lt (by omega)
    · intro e
      exact absurd (h.toks.row.lt _ e).2 (Nat.lt_irrefl _)
    · intro cur fr hh
      rw [hs, hbx] at hh
      injection hh with hh
      injection hh with _ hh
      exact absurd hh (by decide))
  have HBASE := hide h.base
  have HN := hide hn
  clear h hr hc0 hk hu hn
  subst hbx
  unfold tokV
  go_enter Tryz.func149, Tryz.ntmps149
  go_wp2_with fail
  refine HE.out.mono ?_
  rintro e w1 ⟨rfl, o1, vs1, hr1, hm1, hl1, hk1⟩
  have hbx := HBX.out w1 hk1
  have HU := hide (HU1.out w1 hk1)
  obtain ⟨⟨a1, v1, r1, y2, y3, y4⟩, ht1, hB1, hW1, hz1⟩ := hr1
  have d1 := r1.cell0
  have r1d : RdC w1.drew b o1 a1 v1 := r1
  have e1 : ∀ ob, (w1.alloc ob).cell? ⟨b, 0, none⟩ = some o1 := fun ob => RdC.cell0 (((below_one w1 ob).block b r1.lt).trans r1)
  have e2 : ∀ ob, (w1.drew.alloc ob).cell? ⟨b, 0, none⟩ = some o1 := fun ob => RdC.cell0 (((below_one w1.drew ob).block b r1d.lt).trans r1d)
  have t0 : w1.cell? ⟨w.heap.size, 0, none⟩ = some (.int .i64 (t.kind : Int)) := by rw [Lib.cell_of_heap hbx]; rfl
  have t1 : w1.cell? ⟨w.heap.size, 1, none⟩ = some (.string (str t.name)) := by rw [Lib.cell_of_heap hbx]; rfl
  have t2 : w1.cell? ⟨w.heap.size, 2, none⟩ = some (.slice A t.attrs.length c) := by rw [Lib.cell_of_heap hbx]; rfl
  have t3 : w1.cell? ⟨w.heap.size, 3, none⟩ = some (.string (str t.text)) := by rw [Lib.cell_of_heap hbx]; rfl
  have HV := hide (⟨y2, y3, y4⟩ : AdrOK b a1 ∧ w1.drew.ownsRow B 5 1 v1 ([] : List UInt8).length (cellsOf []) ∧ v1.ownBlock ≠ some b)
  have KR := hide r1d
  have KT : Hid (TRow B o1 vs1 w1.drew) := hide ⟨ht1.row, ht1.each⟩
  have KW : Hid (Below B W0 w1.drew) := hide hW1.drew
  have KZ : Hid (B ≤ w1.drew.heap.size) := hide hz1
  have HM := hide hm1
  have HL := hide hl1
  have hud : w1.drew.ownsRow B 43 2 (.slice A t.attrs.length c) t.attrs.length (atVals t.attrs) := HU.out
  have HUA := hide (fun ob => hud.kept (row := none) (World.grownBy_alloc w1.drew ob none) (by cases hv : Value.ownBlock (.slice A t.attrs.length c) <;> simp))
  clear hud r1 r1d y2 y3 y4 ht1 hB1 hW1 hz1 hm1 hl1 hk1 hbx
  go_wp2_with fail
  go_region_law (first
    | (refine step_toks rfl _ _ rfl B o1 vs1 rfl t (.slice A t.attrs.length c) ⟨(KT.out.alloc _).row, (KT.out.alloc _).each⟩ (HUA.out _) ?_ ⟨w1.heap.size, 0, none⟩ rfl (tok_row _ _ _ _ _).1 (tok_row _ _ _ _ _).2.1 (tok_row _ _ _ _ _).2.2.1 (tok_row _ _ _ _ _).2.2.2 (by have := HN.out; have := HL.out; omega) ?_
       · show B ≤ (w1.drew.alloc _).heap.size
         rw [World.size_alloc]
         exact Nat.le_succ_of_le KZ.out
       intro v2 w2 ht2 hg2
       obtain ⟨A2, n2, c2, rfl⟩ : ∃ A n c, v2 = .slice A n c := ⟨_, _, _, ht2.slice_len.choose_spec.choose_spec⟩
       have s2 := storedX KR.out KT.out HBASE.out KW.out KZ.out HV.out ht2 hg2
       have r2 := (stored KR.out KT.out HBASE.out KW.out KZ.out ht2 hg2).1
       have f2 := r2.free 0
       have d2 := r2.cell0
       have HS2 := hide s2
       clear r2 s2 ht2 hg2)
    | fail)
  all_goals
    try go_wp2_with fail
    go_end0
    refine ⟨rfl, _, _, HS2.out, ?_, ?_⟩
    · rw [List.map_append, HM.out]
      rfl
    · rw [List.length_append]
      have := HL.out
      exact Nat.succ_le_succ this
end Go.Proofs.YtiejmkjpgjbodaaGreatDoor

