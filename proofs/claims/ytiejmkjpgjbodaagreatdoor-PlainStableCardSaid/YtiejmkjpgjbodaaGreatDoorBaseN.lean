/- More of the first texts of this claim in one: each with its own head. No statement is proved here. -/
import Derived.Test.YtiejmkjpgjbodaaGreatDoorProg
import Derived.ProofKit
import Derived.Test.YtiejmkjpgjbodaaGreatDoorBaseM
import Derived.Test.YtiejmkjpgjbodaaGreatDoorShelf
import Derived.Laws.AppendOwnNone
import Derived.DataElems
import Derived.Laws.OwnMore
import Derived.Below
import Derived.Lib.Builder
import Derived.Laws.Externs
import Derived.BigQuiet
import Derived.Deep.QuietTactic
import Derived.Lib.UnsafeStr
import Derived.BigRegion
import Derived.Deep.RegionWith
namespace Go.Proofs.YtiejmkjpgjbodaaGreatDoor
set_option linter.unusedVariables false
set_option linter.unusedSimpArgs false
set_option maxRecDepth 100000
abbrev AtL := List UInt8 × List UInt8
structure NdH where
  name : List UInt8
  attrs : List AtL
  text : List UInt8
deriving DecidableEq
inductive Tr where
  | nil : Tr
  | cons : NdH → Tr → Tr → Tr
deriving DecidableEq
def Tr.len : Tr → Nat
  | .nil => 0
  | .cons _ _ r => r.len + 1
def Tr.count : Tr → Nat
  | .nil => 0
  | .cons _ k r => 1 + k.count + r.count
def Tr.depth : Tr → Nat
  | .nil => 0
  | .cons _ k r => max (1 + k.depth) r.depth
def Tr.app : Tr → Tr → Tr
  | .nil, t => t
  | .cons h k r, t => .cons h k (r.app t)
def Tr.list : Tr → List (NdH × Tr)
  | .nil => []
  | .cons h k r => (h, k) :: r.list
def Tr.of : List (NdH × Tr) → Tr
  | [] => .nil
  | (h, k) :: r => .cons h k (Tr.of r)
def Tr.drop : Nat → Tr → Tr
  | 0, t => t
  | _ + 1, .nil => .nil
  | n + 1, .cons _ _ r => Tr.drop n r
theorem Tr.of_list (t : Tr) : Tr.of t.list = t := by induction t with
  | nil => rfl
  | cons h k r _ ih => simp [Tr.list, Tr.of, ih]
theorem Tr.list_of (l : List (NdH × Tr)) : (Tr.of l).list = l := by induction l with
  | nil => rfl
  | cons p r ih => simp [Tr.list, Tr.of, ih]
theorem Tr.len_list (t : Tr) : t.list.length = t.len := by induction t with
  | nil => rfl
  | cons h k r _ ih => simp [Tr.list, Tr.len, ih]
theorem Tr.len_of (l : List (NdH × Tr)) : (Tr.of l).len = l.length := by rw [← Tr.len_list, Tr.list_of]
theorem Tr.len_count (t : Tr) : t.len ≤ t.count := by induction t with
  | nil => exact Nat.le_refl _
  | cons h k r _ ih => simp only [Tr.len, Tr.count]; omega
theorem Tr.list_inj {a b : Tr} (h : a.list = b.list) : a = b := by rw [← Tr.of_list a, h, Tr.of_list]
theorem Tr.list_app (a b : Tr) : (a.app b).list = a.list ++ b.list := by induction a with
  | nil => rfl
  | cons h k r _ ih => simp [Tr.app, Tr.list, ih]
theorem Tr.drop_cons (n : Nat) (t : Tr) (h : n < t.len) : ∃ p k, Tr.drop n t = .cons p k (Tr.drop (n + 1) t) ∧ t.list[n]? = some (p, k) := by
  induction n generalizing t with
  | zero => cases t with
    | nil => exact absurd h (Nat.not_lt_zero _)
    | cons p k r => exact ⟨p, k, rfl, rfl⟩
  | succ n ih => cases t with
    | nil => exact absurd h (Nat.not_lt_zero _)
    | cons p k r =>
      obtain ⟨p', k', h1, h2⟩ := ih r (by simp only [Tr.len] at h; omega)
      exact ⟨p', k', h1, by simpa [Tr.list] using h2⟩
theorem Tr.at_count {t : Tr} {n : Nat} {p : NdH} {k : Tr} (h : t.list[n]? = some (p, k)) : k.count < t.count := by
  induction n generalizing t with
  | zero => cases t with
    | nil => cases h
    | cons h' k' r => simp [Tr.list] at h; obtain ⟨rfl, rfl⟩ := h; simp only [Tr.count]; omega
  | succ n ih => cases t with
    | nil => cases h
    | cons h' k' r => have := ih (t := r) (by simpa [Tr.list] using h); simp only [Tr.count]; omega
def Tr.all (f : NdH → Bool) : Tr → Bool
  | .nil => true
  | .cons h k r => f h && (k.all f && r.all f)
theorem Tr.all_at {f : NdH → Bool} {t : Tr} {n : Nat} {p : NdH} {k : Tr} (ha : t.all f = true) (h : t.list[n]? = some (p, k)) : f p = true ∧ k.all f = true := by
  induction n generalizing t with
  | zero => cases t with
    | nil => cases h
    | cons h' k' r =>
      simp only [Tr.all, Bool.and_eq_true] at ha
      simp [Tr.list] at h; obtain ⟨rfl, rfl⟩ := h; exact ⟨ha.1, ha.2.1⟩
  | succ n ih => cases t with
    | nil => cases h
    | cons h' k' r =>
      simp only [Tr.all, Bool.and_eq_true] at ha
      exact ih (t := r) ha.2.2 (by simpa [Tr.list] using h)
end Go.Proofs.YtiejmkjpgjbodaaGreatDoor

namespace Go.Proofs.YtiejmkjpgjbodaaGreatDoor
set_option linter.unusedVariables false
set_option linter.unusedSimpArgs false
def beforeC (c : UInt8) (l : List UInt8) : List UInt8 := l.takeWhile fun x => x != c
def hasC (c : UInt8) (l : List UInt8) : Bool := decide (c ∈ l)
theorem hasC_true {c : UInt8} {l : List UInt8} (h : c ∈ l) : hasC c l = true := decide_eq_true h
theorem hasC_false {c : UInt8} {l : List UInt8} (h : c ∉ l) : hasC c l = false := decide_eq_false h
def afterC (c : UInt8) (l : List UInt8) : List UInt8 := (l.dropWhile fun x => x != c).drop 1
theorem cut_none (c : UInt8) (l : List UInt8) (h : c ∉ l) : beforeC c l = l ∧ afterC c l = [] := by
  induction l with
  | nil => exact ⟨rfl, rfl⟩
  | cons a l ih =>
    have h1 : (a != c) = true := by
      rw [bne_iff_ne]; rintro rfl; exact h (List.mem_cons_self ..)
    have h2 := ih (fun hm => h (List.mem_cons_of_mem _ hm))
    unfold beforeC afterC at h2 ⊢
    rw [List.takeWhile_cons, List.dropWhile_cons, h1]
    simp [h2]
theorem cut_at (c : UInt8) (l : List UInt8) (o : Nat) (ho : o < l.length) (h : l[o] = c) (hb : ∀ j (hj : j < o), l[j]'(Nat.lt_trans hj ho) ≠ c) : c ∈ l ∧ beforeC c l = l.take o ∧ afterC c l = l.drop (o + 1) := by
  refine ⟨h ▸ List.getElem_mem ho, ?_⟩
  induction o generalizing l with
  | zero =>
    match l, ho, h with
    | a :: l, _, h =>
      have : (a != c) = false := by rw [bne_eq_false_iff_eq]; exact h
      unfold beforeC afterC
      rw [List.takeWhile_cons, List.dropWhile_cons, this]
      simp
  | succ o ih =>
    match l, ho, h, hb with
    | a :: l, ho, h, hb =>
      have h1 : (a != c) = true := by rw [bne_iff_ne]; exact hb 0 (by omega)
      have := ih l (by simpa using ho) (by simpa using h) (fun j hj => by simpa using hb (j + 1) (by omega))
      unfold beforeC afterC at this ⊢
      rw [List.takeWhile_cons, List.dropWhile_cons, h1]
      simp [this]
theorem cut_case (c : UInt8) (l : List UInt8) : (c ∉ l ∧ beforeC c l = l ∧ afterC c l = []) ∨ ∃ a r, l = a ++ c :: r ∧ c ∉ a ∧ beforeC c l = a ∧ afterC c l = r := by
  induction l with
  | nil => exact .inl ⟨by simp, rfl, rfl⟩
  | cons x l ih =>
    by_cases hx : x = c
    · subst hx
      exact .inr ⟨[], l, rfl, by simp, by simp [beforeC], by simp [afterC]⟩
    · have hne : (x != c) = true := by rw [bne_iff_ne]; exact hx
      have e1 : beforeC c (x :: l) = x :: beforeC c l := by unfold beforeC; rw [List.takeWhile_cons, hne]; rfl
      have e2 : afterC c (x :: l) = afterC c l := by unfold afterC; rw [List.dropWhile_cons, hne]; rfl
      rcases ih with ⟨h1, h2, h3⟩ | ⟨a, r, h1, h2, h3, h4⟩
      · exact .inl ⟨by simp [h1]; exact fun e => hx e.symm, by rw [e1, h2], by rw [e2, h3]⟩
      · exact .inr ⟨x :: a, r, by rw [h1]; rfl, by simp [h2]; exact fun e => hx e.symm, by rw [e1, h3], by rw [e2, h4]⟩
theorem cut_here (c : UInt8) (a r : List UInt8) (h : c ∉ a) : beforeC c (a ++ c :: r) = a ∧ afterC c (a ++ c :: r) = r := by
  have hl : a.length < (a ++ c :: r).length := by simp
  have := cut_at c (a ++ c :: r) a.length hl (by rw [List.getElem_append_right (Nat.le_refl _)]; simp) (fun j hj => by
    rw [List.getElem_append_left hj]; intro e; exact h (e ▸ List.getElem_mem hj))
  exact ⟨by rw [this.2.1, List.take_left], by rw [this.2.2]; simp [List.drop_append]⟩
theorem list_ind {p : List UInt8 → Prop} (h : ∀ l, (∀ k : List UInt8, k.length < l.length → p k) → p l) (l : List UInt8) : p l := by
  suffices H : ∀ n, ∀ l : List UInt8, l.length < n → p l from H (l.length + 1) l (by omega)
  intro n
  induction n with
  | zero => intro l hl; omega
  | succ n ih => intro l hl; exact h l (fun k hk => ih k (by omega))
end Go.Proofs.YtiejmkjpgjbodaaGreatDoor

namespace Go.Proofs.YtiejmkjpgjbodaaGreatDoor
set_option linter.unusedVariables false
set_option linter.unusedSimpArgs false
def trimCR (l : List UInt8) : List UInt8 := if l.getLast? = some 13 then l.dropLast else l
def lineL (l : List UInt8) : List UInt8 := if hasC 10 l then trimCR (beforeC 10 l) else l
theorem afterC_lt (c : UInt8) {l : List UInt8} (h : l ≠ []) : (afterC c l).length < l.length := by
  unfold afterC
  have := (List.dropWhile_sublist (l := l) fun x => x != c).length_le
  have h2 := List.length_pos_iff.2 h
  rw [List.length_drop]; omega
def cutL (l : List UInt8) : List (List UInt8) := if h : l = [] then [] else lineL l :: cutL (afterC 10 l)
termination_by l.length
decreasing_by exact afterC_lt 10 h
theorem cutL_nil : cutL [] = [] := by rw [cutL]; simp
theorem cutL_cons {l : List UInt8} (h : l ≠ []) : cutL l = lineL l :: cutL (afterC 10 l) := by rw [cutL, dif_neg h]
theorem trimCR_sub (l : List UInt8) : ∀ c ∈ trimCR l, c ∈ l := by
  intro c hc
  unfold trimCR at hc
  split at hc
  · exact (List.dropLast_sublist l).subset hc
  · exact hc
abbrev FieldL := List UInt8 × List UInt8
def eachL (l : List UInt8) : List FieldL := if h : l = [] then [] else (lineL l, afterC 10 l) :: eachL (afterC 10 l)
termination_by l.length
decreasing_by exact afterC_lt 10 h
theorem eachL_nil : eachL [] = [] := by rw [eachL]; simp
theorem eachL_cons {l : List UInt8} (h : l ≠ []) : eachL l = (lineL l, afterC 10 l) :: eachL (afterC 10 l) := by rw [eachL, dif_neg h]
theorem each_cut (l : List UInt8) : (eachL l).map (·.1) = cutL l := by
  refine list_ind (p := fun l => (eachL l).map (·.1) = cutL l) ?_ l
  intro l ih
  by_cases h : l = []
  · subst h; rw [eachL_nil, cutL_nil]; rfl
  · rw [eachL_cons h, cutL_cons h, List.map_cons, ih _ (afterC_lt 10 h)]
theorem trimCR_length (l : List UInt8) : (trimCR l).length ≤ l.length := by
  unfold trimCR; split
  · rw [List.length_dropLast]; omega
  · exact Nat.le_refl _
theorem line_after {l : List UInt8} (h : l ≠ []) : (lineL l).length + (afterC 10 l).length ≤ l.length := by
  unfold lineL
  rcases cut_case 10 l with ⟨h1, e1, e2⟩ | ⟨a, r, e0, h1, e1, e2⟩
  · rw [hasC_false h1, if_neg (by decide), e2]; simp
  · rw [hasC_true (by rw [e0]; simp), if_pos rfl, e1, e2]
    have := trimCR_length a
    rw [e0]; simp; omega
def lsum (L : List FieldL) : Nat := (L.map fun p => p.1.length).sum
theorem each_sum (l : List UInt8) : lsum (eachL l) ≤ l.length ∧ (eachL l).length ≤ l.length ∧ ∀ p ∈ eachL l, p.1.length ≤ l.length ∧ p.2.length ≤ l.length := by
  refine list_ind (p := fun l => lsum (eachL l) ≤ l.length ∧ (eachL l).length ≤ l.length ∧ ∀ p ∈ eachL l, p.1.length ≤ l.length ∧ p.2.length ≤ l.length) ?_ l
  intro l ih
  by_cases h : l = []
  · subst h; rw [eachL_nil]; exact ⟨Nat.le_refl _, Nat.le_refl _, fun p hp => by cases hp⟩
  · obtain ⟨i1, i2, i3⟩ := ih _ (afterC_lt 10 h)
    have h1 := line_after h
    have h2 := afterC_lt 10 h
    rw [eachL_cons h]
    refine ⟨by unfold lsum at *; rw [List.map_cons, List.sum_cons]; show (lineL l).length + _ ≤ _; omega, by rw [List.length_cons]; omega, fun p hp => ?_⟩
    rcases List.mem_cons.1 hp with rfl | hp
    · exact ⟨by show (lineL l).length ≤ _; omega, by show (afterC 10 l).length ≤ _; omega⟩
    · have := i3 p hp; exact ⟨by omega, by omega⟩
end Go.Proofs.YtiejmkjpgjbodaaGreatDoor

namespace Go.Proofs.YtiejmkjpgjbodaaGreatDoor
set_option linter.unusedVariables false
set_option linter.unusedSimpArgs false
set_option maxRecDepth 100000
def dropB : List UInt8 → List UInt8
  | [] => []
  | c :: r => if c = 32 then r else c :: r
def lvP : Nat → List UInt8 → Nat × List UInt8
  | 0, l => (0, l)
  | _ + 1, [] => (0, [])
  | k + 1, c :: r => if c = 62 then ((lvP k (dropB r)).1 + 1, (lvP k (dropB r)).2) else (0, c :: r)
def levelL (l : List UInt8) : Nat × List UInt8 := lvP 20 l
theorem lvP_zero (l : List UInt8) : lvP 0 l = (0, l) := by cases l <;> rfl
theorem lvP_sign (k : Nat) (r : List UInt8) : lvP (k + 1) (62 :: r) = ((lvP k (dropB r)).1 + 1, (lvP k (dropB r)).2) := by rw [lvP, if_pos rfl]
theorem lvP_none (k : Nat) (l : List UInt8) (h : l.head? ≠ some 62) : lvP k l = (0, l) := by
  cases k with
  | zero => exact lvP_zero l
  | succ k => cases l with
    | nil => rfl
    | cons c r => rw [lvP, if_neg (fun e => h (by rw [e]; rfl))]
theorem dropB_le (l : List UInt8) : (dropB l).length ≤ l.length := by
  cases l with
  | nil => exact Nat.le_refl _
  | cons c r => simp only [dropB]; split <;> simp
theorem lvP_le (k : Nat) (l : List UInt8) : (lvP k l).1 ≤ k ∧ (lvP k l).2.length ≤ l.length := by
  induction k generalizing l with
  | zero => rw [lvP_zero]; exact ⟨Nat.le_refl _, Nat.le_refl _⟩
  | succ k ih => cases l with
    | nil => exact ⟨Nat.zero_le _, Nat.le_refl _⟩
    | cons c r =>
      have h := ih (dropB r)
      have h2 := dropB_le r
      unfold lvP
      split
      · simp only [List.length_cons]; omega
      · exact ⟨Nat.zero_le _, Nat.le_refl _⟩
theorem levelL_le (l : List UInt8) : (levelL l).1 ≤ 20 ∧ (levelL l).2.length ≤ l.length := lvP_le 20 l
abbrev LnL := Nat × List UInt8
def txH (l : List UInt8) : NdH := ⟨[], [], l⟩
def elH (l : List UInt8) : NdH := ⟨l, [], []⟩
def quH : NdH := elH [98, 108, 111, 99, 107, 113, 117, 111, 116, 101]
def brH : NdH := elH [98, 114]
def saysT (s : List UInt8) (T : Tr) : Tr := if s = [] then T else .cons (txH s) .nil T
def insP : Nat → List UInt8 → Option Nat → Tr → Tr
  | 0, s, m, T => saysT s (if m = some 0 then .cons brH .nil T else T)
  | n + 1, s, some (m + 1), .cons h K R => .cons h (insP n s (some m) K) R
  | n + 1, s, _, T => .cons quH (insP n s none .nil) T
def nextL (l : List LnL) : Option Nat := l.head?.map (·.1)
def treeP : List LnL → Tr
  | [] => .nil
  | p :: r => insP p.1 p.2 (nextL r) (treeP r)
theorem saysT_app (s : List UInt8) (T U : Tr) : saysT s (T.app U) = (saysT s T).app U := by
  unfold saysT; split <;> rfl
theorem Tr.app_nil (T : Tr) : T.app .nil = T := by induction T with
  | nil => rfl
  | cons h k r _ ih => rw [Tr.app, ih]
theorem Tr.app_assoc (a b c : Tr) : (a.app b).app c = a.app (b.app c) := by induction a with
  | nil => rfl
  | cons h k r _ ih => simp only [Tr.app, ih]
theorem insP_zero (s : List UInt8) (m : Option Nat) (T : Tr) : insP 0 s m T = saysT s (if m = some 0 then .cons brH .nil T else T) := by cases m <;> cases T <;> rfl
theorem insP_none (n : Nat) (s : List UInt8) (T : Tr) : insP (n + 1) s none T = .cons quH (insP n s none .nil) T := by cases T <;> rfl
theorem insP_off (n : Nat) (s : List UInt8) (T : Tr) : insP (n + 1) s (some 0) T = .cons quH (insP n s none .nil) T := by cases T <;> rfl
theorem insP_in (n m : Nat) (s : List UInt8) (h : NdH) (K R : Tr) : insP (n + 1) s (some (m + 1)) (.cons h K R) = .cons h (insP n s (some m) K) R := rfl
def saidP : List (List UInt8) → Tr
  | [] => .nil
  | [s] => saysT s .nil
  | s :: t :: r => saysT s (.cons brH .nil (saidP (t :: r)))
theorem saidP_snoc (l : List (List UInt8)) (hl : l ≠ []) (s : List UInt8) : saidP (l ++ [s]) = (saidP l).app (.cons brH .nil (saysT s .nil)) := by
  induction l with
  | nil => exact absurd rfl hl
  | cons a r ih => cases r with
    | nil => show saysT a (.cons brH .nil (saysT s .nil)) = (saysT a .nil).app _; rw [← saysT_app]; rfl
    | cons b r =>
      show saysT a (.cons brH .nil (saidP (b :: r ++ [s]))) = (saysT a (.cons brH .nil (saidP (b :: r)))).app _
      rw [ih (by simp), ← saysT_app]; rfl
theorem treeP_said (a : List LnL) (x : List LnL) (ha : ∀ p ∈ a, p.1 = 0) (hx : nextL x ≠ some 0) : treeP (a ++ x) = (saidP (a.map (·.2))).app (treeP x) := by
  induction a with
  | nil => rfl
  | cons p r ih =>
    obtain ⟨n, s⟩ := p
    obtain rfl : n = 0 := ha (n, s) (List.mem_cons_self ..)
    have hr := ih (fun q hq => ha q (List.mem_cons_of_mem _ hq))
    show insP 0 s (nextL (r ++ x)) (treeP (r ++ x)) = _
    rw [hr, insP_zero]
    cases r with
    | nil =>
      rw [List.nil_append, if_neg hx]
      show saysT s (Tr.app .nil (treeP x)) = (saysT s .nil).app (treeP x)
      rw [saysT_app]
    | cons q r =>
      have h0 : nextL (q :: r ++ x) = some 0 := by
        show some q.1 = _
        rw [ha q (List.mem_cons_of_mem _ (List.mem_cons_self ..))]
      rw [if_pos h0]
      show saysT s ((Tr.cons brH .nil (saidP ((q :: r).map (·.2)))).app (treeP x)) = (saysT s (.cons brH .nil (saidP ((q :: r).map (·.2))))).app (treeP x)
      rw [saysT_app]
def down (p : LnL) : LnL := (p.1 - 1, p.2)
theorem treeP_quoted (a : List LnL) (x : List LnL) (hne : a ≠ []) (ha : ∀ p ∈ a, 0 < p.1) (hx : x = [] ∨ nextL x = some 0) : treeP (a ++ x) = .cons quH (treeP (a.map down)) (treeP x) := by
  induction a with
  | nil => exact absurd rfl hne
  | cons p r ih =>
    obtain ⟨n, s⟩ := p
    have hn : 0 < n := ha (n, s) (List.mem_cons_self ..)
    cases n with
    | zero => exact absurd hn (Nat.lt_irrefl _)
    | succ n =>
    show insP (n + 1) s (nextL (r ++ x)) (treeP (r ++ x)) = .cons quH (insP n s (nextL (r.map down)) (treeP (r.map down))) (treeP x)
    cases r with
    | nil =>
      show insP (n + 1) s (nextL x) (treeP x) = .cons quH (insP n s none .nil) (treeP x)
      rcases hx with rfl | hx
      · exact insP_none n s _
      · rw [hx]; exact insP_off n s _
    | cons q r =>
      obtain ⟨m, t⟩ := q
      have hm : 0 < m := ha (m, t) (List.mem_cons_of_mem _ (List.mem_cons_self ..))
      rw [ih (by simp) (fun q hq => ha q (List.mem_cons_of_mem _ hq))]
      cases m with
      | zero => exact absurd hm (Nat.lt_irrefl _)
      | succ m => rfl
def lowBy (v : Nat) (p : LnL) : LnL := (p.1 - v, p.2)
theorem lowBy_down (v : Nat) (l : List LnL) : (l.map (lowBy v)).map down = l.map (lowBy (v + 1)) := by
  rw [List.map_map]; refine List.map_congr_left fun p _ => ?_
  show (p.1 - v - 1, p.2) = (p.1 - (v + 1), p.2)
  rw [Nat.sub_sub]
theorem lowBy_zero (l : List LnL) : l.map (lowBy 0) = l := by
  rw [show lowBy 0 = id from rfl, List.map_id]
def linesP (s : List UInt8) : List LnL := (cutL s).map levelL
def plainP (s : List UInt8) : Tr := treeP (linesP s)
end Go.Proofs.YtiejmkjpgjbodaaGreatDoor

namespace Go.Proofs.YtiejmkjpgjbodaaGreatDoor
set_option linter.unusedVariables false
set_option linter.unusedSimpArgs false
set_option maxRecDepth 100000
abbrev PgL := List LnL × List UInt8
def putC (p : PgL) (c : UInt8) : PgL := if c = 10 then (p.1 ++ [(0, p.2)], []) else (p.1, p.2 ++ [c])
def putS (p : PgL) (s : List UInt8) : PgL := s.foldl putC p
def signs (n : Nat) : List UInt8 := (List.replicate n [(62 : UInt8), 32]).flatten
def lineS (x : LnL) : List UInt8 := signs x.1 ++ x.2
def render (p : PgL) : List UInt8 := (p.1.flatMap fun x => lineS x ++ [10]) ++ p.2
def place (p : PgL) : Nat × Nat := (p.1.length, p.2.length)
def PgOK (p : PgL) : Prop := (∀ x ∈ p.1, (10 : UInt8) ∉ x.2) ∧ (10 : UInt8) ∉ p.2
theorem PgOK.nil : PgOK ([], []) := ⟨fun x hx => (by cases hx), fun e => (by cases e)⟩
theorem signs_zero : signs 0 = [] := rfl
theorem signs_succ (n : Nat) : signs (n + 1) = 62 :: 32 :: signs n := by unfold signs; rw [List.replicate_succ]; rfl
theorem signs_len (n : Nat) : (signs n).length = 2 * n := by induction n with
  | zero => rfl
  | succ n ih => rw [signs_succ, List.length_cons, List.length_cons, ih]; omega
theorem signs_lf (n : Nat) : (10 : UInt8) ∉ signs n := by induction n with
  | zero => exact fun h => by cases h
  | succ n ih => rw [signs_succ]; intro h; rcases List.mem_cons.1 h with h | h
                 · cases h
                 · rcases List.mem_cons.1 h with h | h
                   · cases h
                   · exact ih h
theorem lineS_lf {x : LnL} (h : (10 : UInt8) ∉ x.2) : (10 : UInt8) ∉ lineS x := by
  unfold lineS; rw [List.mem_append]; exact fun e => e.elim (signs_lf _) h
theorem render_putC (p : PgL) (c : UInt8) : render (putC p c) = render p ++ [c] := by
  unfold putC render
  split
  · rename_i h; subst h
    simp [lineS, signs_zero, List.flatMap_append]
  · simp
theorem putS_cons (p : PgL) (c : UInt8) (s : List UInt8) : putS p (c :: s) = putS (putC p c) s := rfl
theorem putS_nil (p : PgL) : putS p [] = p := rfl
theorem putS_append (p : PgL) (a b : List UInt8) : putS p (a ++ b) = putS (putS p a) b := by unfold putS; rw [List.foldl_append]
theorem render_putS (p : PgL) (s : List UInt8) : render (putS p s) = render p ++ s := by
  induction s generalizing p with
  | nil => rw [putS_nil, List.append_nil]
  | cons c r ih => rw [putS_cons, ih, render_putC, List.append_assoc]; rfl
theorem putC_ok {p : PgL} (h : PgOK p) (c : UInt8) : PgOK (putC p c) := by
  unfold putC
  split
  · refine ⟨fun x hx => ?_, fun e => by cases e⟩
    rcases List.mem_append.1 hx with hx | hx
    · exact h.1 x hx
    · obtain rfl := List.mem_singleton.1 hx; exact h.2
  · rename_i hc
    refine ⟨h.1, fun e => ?_⟩
    rcases List.mem_append.1 e with e | e
    · exact h.2 e
    · exact hc (List.mem_singleton.1 e).symm
theorem putS_ok {p : PgL} (h : PgOK p) (s : List UInt8) : PgOK (putS p s) := by
  induction s generalizing p with
  | nil => exact h
  | cons c r ih => exact ih (putC_ok h c)
theorem putS_line (p : PgL) (a : List UInt8) (h : (10 : UInt8) ∉ a) : putS p a = (p.1, p.2 ++ a) := by
  induction a generalizing p with
  | nil => rw [putS_nil, List.append_nil]
  | cons c r ih =>
    have hc : c ≠ 10 := fun e => h (by rw [e]; exact List.mem_cons_self ..)
    rw [putS_cons, ih _ (fun e => h (List.mem_cons_of_mem _ e))]
    unfold putC
    rw [if_neg hc]; simp
theorem putS_lf (p : PgL) (a r : List UInt8) (h : (10 : UInt8) ∉ a) : putS p (a ++ 10 :: r) = putS (p.1 ++ [(0, p.2 ++ a)], []) r := by
  rw [putS_append, putS_line p a h, putS_cons]
  unfold putC
  rw [if_pos rfl]
def behindP (a b : Nat × Nat) : Prop := a.1 < b.1 ∨ (a.1 = b.1 ∧ a.2 < b.2)
theorem behindP.trans {a b c : Nat × Nat} (h : behindP a b) (k : behindP b c) : behindP a c := by unfold behindP at *; omega
theorem behindP.ne {a b : Nat × Nat} (h : behindP a b) : b ≠ a := by rintro rfl; unfold behindP at h; omega
theorem putC_place (p : PgL) (c : UInt8) : behindP (place p) (place (putC p c)) := by
  unfold putC place behindP; split <;> simp
theorem putS_place (p : PgL) (s : List UInt8) (h : s ≠ []) : behindP (place p) (place (putS p s)) := by
  induction s generalizing p with
  | nil => exact absurd rfl h
  | cons c r ih =>
    rw [putS_cons]
    by_cases hr : r = []
    · subst hr; exact putC_place p c
    · exact (putC_place p c).trans (ih _ hr)
def addP (p : PgL) (x : LnL) : PgL := if p.2 = [] then (p.1 ++ [x], []) else putS p (lineS x ++ [10])
theorem addP_render (p : PgL) (x : LnL) : render (addP p x) = render p ++ (lineS x ++ [10]) := by
  unfold addP
  split
  · rename_i h; unfold render; simp [h, List.flatMap_append]
  · exact render_putS _ _
theorem addP_ok {p : PgL} (h : PgOK p) {x : LnL} (hx : (10 : UInt8) ∉ x.2) : PgOK (addP p x) := by
  unfold addP
  split
  · refine ⟨fun y hy => ?_, fun e => by cases e⟩
    rcases List.mem_append.1 hy with hy | hy
    · exact h.1 y hy
    · obtain rfl := List.mem_singleton.1 hy; exact hx
  · exact putS_ok h _
theorem addP_place (p : PgL) (x : LnL) : behindP (place p) (place (addP p x)) := by
  unfold addP
  split
  · unfold place behindP; simp
  · exact putS_place _ _ (by simp)
theorem addP_lines {p : PgL} {x : LnL} (hx : (10 : UInt8) ∉ x.2) : (addP p x).1.length = p.1.length + 1 := by
  unfold addP
  split
  · simp
  · rw [putS_lf _ _ _ (lineS_lf hx)]; simp [putS_nil]
def quoteOne (p : PgL) (x : LnL) : PgL := addP p (x.1 + 1, trimCR x.2)
def quoteP (p q : PgL) : PgL := if q.2 = [] then q.1.foldl quoteOne p else addP (q.1.foldl quoteOne p) (1, q.2)
def quotedL (L : List (List UInt8)) : List UInt8 := L.flatMap fun x => 62 :: 32 :: (x ++ [10])
theorem trimCR_le (l : List UInt8) : (trimCR l).length ≤ l.length := by unfold trimCR; split <;> simp
theorem trim_lineS (x : LnL) : trimCR (lineS x) = lineS (x.1, trimCR x.2) := by
  obtain ⟨n, s⟩ := x
  unfold lineS trimCR
  simp only
  rcases List.eq_nil_or_concat s with rfl | ⟨r, c, rfl⟩
  · simp only [List.append_nil, List.getLast?_nil, reduceCtorEq, if_false]
    rcases Nat.eq_zero_or_pos n with rfl | hn
    · rfl
    · obtain ⟨m, rfl⟩ : ∃ m, n = m + 1 := ⟨n - 1, by omega⟩
      have e : signs (m + 1) = signs m ++ [62, 32] := by
        unfold signs; rw [List.replicate_succ', List.flatten_append]; rfl
      rw [e, if_neg]
      simp
  · rw [List.concat_eq_append, ← List.append_assoc, List.getLast?_concat, List.getLast?_concat]
    split
    · rw [List.dropLast_concat, List.dropLast_concat]
    · rw [List.append_assoc]
theorem cut_line (a r : List UInt8) (h : (10 : UInt8) ∉ a) : cutL (a ++ 10 :: r) = trimCR a :: cutL r := by
  obtain ⟨h1, h2⟩ := cut_here 10 a r h
  rw [cutL_cons (by simp), h2]
  unfold lineL
  rw [hasC_true (by simp), if_pos rfl, h1]
theorem cut_last (a : List UInt8) (h : (10 : UInt8) ∉ a) : cutL a = if a = [] then [] else [a] := by
  split
  · rename_i e; rw [e, cutL_nil]
  · rename_i e
    obtain ⟨h1, h2⟩ := cut_none 10 a h
    rw [cutL_cons e, h2, cutL_nil]
    unfold lineL
    rw [hasC_false h]; rfl
theorem cut_render (p : PgL) (h : PgOK p) : cutL (render p) = (p.1.map fun x => lineS (x.1, trimCR x.2)) ++ (if p.2 = [] then [] else [p.2]) := by
  obtain ⟨l, s⟩ := p
  unfold render
  simp only
  induction l with
  | nil => rw [List.flatMap_nil, List.nil_append, cut_last s h.2]; rfl
  | cons x r ih =>
    have h1 : (10 : UInt8) ∉ lineS x := lineS_lf (h.1 x (List.mem_cons_self ..))
    rw [List.flatMap_cons, List.append_assoc, List.append_assoc, List.singleton_append, cut_line _ _ h1, ih ⟨fun y hy => h.1 y (List.mem_cons_of_mem _ hy), h.2⟩, trim_lineS]
    rfl
theorem quotedL_append (a b : List (List UInt8)) : quotedL (a ++ b) = quotedL a ++ quotedL b := by unfold quotedL; rw [List.flatMap_append]
theorem fold_render (l : List LnL) (p : PgL) : render (l.foldl quoteOne p) = render p ++ quotedL (l.map fun x => lineS (x.1, trimCR x.2)) := by
  induction l generalizing p with
  | nil => simp [quotedL]
  | cons x r ih =>
    rw [List.foldl_cons, ih]
    unfold quoteOne
    rw [addP_render]
    simp [quotedL, lineS, signs_succ]
theorem quoteP_render (p q : PgL) (hq : PgOK q) : render (quoteP p q) = render p ++ quotedL (cutL (render q)) := by
  rw [cut_render q hq]
  unfold quoteP
  split
  · rename_i h
    rw [fold_render, List.append_nil]
  · rename_i h
    rw [addP_render, fold_render, quotedL_append, List.append_assoc]
    simp [quotedL, lineS, signs_succ, signs_zero]
theorem trimCR_lf {s : List UInt8} (h : (10 : UInt8) ∉ s) : (10 : UInt8) ∉ trimCR s := fun e => h (trimCR_sub _ _ e)
theorem foldQ_ok (l : List LnL) (hl : ∀ x ∈ l, (10 : UInt8) ∉ x.2) (p : PgL) (h : PgOK p) : PgOK (l.foldl quoteOne p) := by
  induction l generalizing p with
  | nil => exact h
  | cons x r ih => exact ih (fun y hy => hl y (List.mem_cons_of_mem _ hy)) _ (addP_ok h (trimCR_lf (hl x (List.mem_cons_self ..))))
theorem quoteP_ok {p q : PgL} (h : PgOK p) (hq : PgOK q) : PgOK (quoteP p q) := by
  unfold quoteP
  split
  · exact foldQ_ok _ hq.1 _ h
  · exact addP_ok (foldQ_ok _ hq.1 _ h) hq.2
theorem fold_place (l : List LnL) (p : PgL) : l.foldl quoteOne p = p ∧ l = [] ∨ behindP (place p) (place (l.foldl quoteOne p)) := by
  induction l generalizing p with
  | nil => exact .inl ⟨rfl, rfl⟩
  | cons x r ih =>
    refine .inr ?_
    rw [List.foldl_cons]
    rcases ih (quoteOne p x) with ⟨h, _⟩ | h
    · rw [h]; exact addP_place _ _
    · exact (addP_place _ _).trans h
theorem quoteP_place (p q : PgL) : (quoteP p q = p ∧ q = ([], [])) ∨ behindP (place p) (place (quoteP p q)) := by
  obtain ⟨l, s⟩ := q
  unfold quoteP
  simp only
  rcases fold_place l p with ⟨h, rfl⟩ | h
  · split
    · rename_i hs; exact .inl ⟨h, by rw [hs]⟩
    · rw [h]; exact .inr (addP_place _ _)
  · split
    · exact .inr h
    · exact .inr (h.trans (addP_place _ _))
theorem fold_lines (l : List LnL) (hl : ∀ x ∈ l, (10 : UInt8) ∉ x.2) (p : PgL) : (l.foldl quoteOne p).1.length = p.1.length + l.length := by
  induction l generalizing p with
  | nil => rfl
  | cons x r ih =>
    rw [List.foldl_cons, ih (fun y hy => hl y (List.mem_cons_of_mem _ hy))]
    unfold quoteOne
    rw [addP_lines (trimCR_lf (hl x (List.mem_cons_self ..)))]; simp; omega
theorem quoteP_lines (p q : PgL) (hq : PgOK q) : (quoteP p q).1.length ≤ p.1.length + q.1.length + 1 := by
  unfold quoteP
  split
  · rw [fold_lines _ hq.1]; omega
  · rw [addP_lines hq.2, fold_lines _ hq.1]; exact Nat.le_refl _
theorem putC_lines (p : PgL) (c : UInt8) : (putC p c).1.length ≤ p.1.length + 1 := by unfold putC; split <;> simp
theorem putS_lines (p : PgL) (s : List UInt8) : (putS p s).1.length ≤ p.1.length + s.length := by
  induction s generalizing p with
  | nil => exact Nat.le_refl _
  | cons c r ih => rw [putS_cons, List.length_cons]; have := ih (putC p c); have := putC_lines p c; omega
theorem quotedL_len (L : List (List UInt8)) : (quotedL L).length = (L.flatMap id).length + 3 * L.length := by
  induction L with
  | nil => rfl
  | cons x r ih => unfold quotedL at *; rw [List.flatMap_cons, List.length_append, ih, List.flatMap_cons]; simp; omega
theorem flat_trim (l : List LnL) : ((l.map fun x => lineS (x.1, trimCR x.2)).flatMap id).length + l.length ≤ (l.flatMap fun x => lineS x ++ [10]).length := by
  induction l with
  | nil => exact Nat.le_refl _
  | cons x r ih =>
    have h := trimCR_le x.2
    rw [List.map_cons, List.flatMap_cons, List.flatMap_cons]
    simp only [id_eq, List.length_append, List.length_cons, List.length_nil, lineS]
    simp only [lineS, List.length_append, List.length_cons] at ih
    omega
theorem quoted_len (q : PgL) (hq : PgOK q) : (quotedL (cutL (render q))).length ≤ (render q).length + 2 * q.1.length + 3 := by
  rw [quotedL_len, cut_render q hq, List.flatMap_append, List.length_append, List.length_append, List.length_map]
  have h := flat_trim q.1
  unfold render
  rw [List.length_append]
  split
  · rw [List.flatMap_nil, List.length_nil, List.length_nil]; omega
  · rw [show List.flatMap id [q.2] = q.2 from by simp, List.length_singleton]; omega
end Go.Proofs.YtiejmkjpgjbodaaGreatDoor

namespace Go.Proofs.YtiejmkjpgjbodaaGreatDoor
open Go.RowKit
set_option linter.unusedVariables false
set_option linter.unusedSimpArgs false
set_option maxRecDepth 100000
section
variable {σ : Type} (bg : σ → NdH → Tr → σ) (en : σ → NdH → σ) (dv : NdH → Bool)
def inner (h : NdH) (K : Tr) : Tr := if dv h = true then K else .nil
def vis : Tr → σ → σ
  | .nil, s => s
  | .cons h K R, s => vis R (en (if dv h = true then vis K (bg s h K) else bg s h K) h)
theorem vis_inner (h : NdH) (K : Tr) (s : σ) : (if dv h = true then vis bg en dv K s else s) = vis bg en dv (inner dv h K) s := by
  unfold inner
  split <;> rfl
def unw : List (NdH × Tr) → σ → σ
  | [], s => s
  | [p], s => vis bg en dv p.2 s
  | p :: q :: r, s => unw (q :: r) (en (vis bg en dv p.2 s) p.1)
theorem unw_visit (h0 h : NdH) (K R : Tr) (rest : List (NdH × Tr)) (s : σ) : unw bg en dv ((h0, .cons h K R) :: rest) s = unw bg en dv ((h, inner dv h K) :: (h0, R) :: rest) (bg s h K) := by
  have e : vis bg en dv (.cons h K R) s = vis bg en dv R (en (vis bg en dv (inner dv h K) (bg s h K)) h) := by
    rw [vis, vis_inner]
  cases rest with
  | nil => simp only [unw, e]
  | cons p r => simp only [unw, e]
variable (μ : σ → Nat) (hb : ∀ s h K, μ s ≤ μ (bg s h K)) (he : ∀ s h, μ s ≤ μ (en s h))
include hb he
theorem vis_mono (T : Tr) (s : σ) : μ s ≤ μ (vis bg en dv T s) := by
  induction T generalizing s with
  | nil => exact Nat.le_refl _
  | cons h K R ihK ihR =>
    rw [vis]
    refine Nat.le_trans ?_ (ihR _)
    refine Nat.le_trans ?_ (he _ _)
    split
    · exact Nat.le_trans (hb s h K) (ihK _)
    · exact hb s h K
theorem unw_mono (st : List (NdH × Tr)) (s : σ) : μ s ≤ μ (unw bg en dv st s) := by
  induction st generalizing s with
  | nil => exact Nat.le_refl _
  | cons p r ih => cases r with
    | nil => exact vis_mono bg en dv μ hb he _ _
    | cons q r => exact Nat.le_trans (Nat.le_trans (vis_mono bg en dv μ hb he _ _) (he _ _)) (ih _)
end
def Tr.ev (G : NdH → Tr → Prop) : Tr → Prop
  | .nil => True
  | .cons h K R => G h K ∧ K.ev G ∧ R.ev G
theorem Tr.ev_true (T : Tr) : T.ev (fun _ _ => True) := by
  induction T with
  | nil => trivial
  | cons h K R a b => exact ⟨trivial, a, b⟩
def stepsW : List (NdH × Tr) → Nat
  | [] => 0
  | p :: r => 2 * p.2.count + 1 + stepsW r
theorem inner_count (dv : NdH → Bool) (h : NdH) (K : Tr) : (inner dv h K).count ≤ K.count := by
  unfold inner
  split
  · exact Nat.le_refl _
  · exact Nat.zero_le _
theorem inner_ev {G : NdH → Tr → Prop} (dv : NdH → Bool) {h : NdH} {K : Tr} (hk : K.ev G) : (inner dv h K).ev G := by
  unfold inner
  split
  · exact hk
  · trivial
theorem steps_len (st : List (NdH × Tr)) : st.length ≤ stepsW st := by
  induction st with
  | nil => exact Nat.le_refl _
  | cons p r ih => simp only [List.length_cons, stepsW]; omega
end Go.Proofs.YtiejmkjpgjbodaaGreatDoor

namespace Go.Proofs.YtiejmkjpgjbodaaGreatDoor
set_option linter.unusedVariables false
set_option linter.unusedSimpArgs false
set_option maxRecDepth 100000
def brN : List UInt8 := [98, 114]
def quoN : List UInt8 := [98, 108, 111, 99, 107, 113, 117, 111, 116, 101]
def lfIf (out : List UInt8) : List UInt8 := if out ≠ [] ∧ out.getLast? ≠ some 10 then out ++ [10] else out
def textR : Tr → List UInt8 → List UInt8
  | .nil, out => out
  | .cons h K R, out => textR R (if h.name = [] then out ++ h.text else if h.name = brN then out ++ [10] else if h.name = quoN then lfIf out ++ quotedL (cutL (textR K [])) else out ++ textR K [])
abbrev WS := List PgL × List (Nat × Nat) × Nat
def endLn (p : PgL) (b : Nat × Nat) : PgL := if p.2 ≠ [] ∧ place p ≠ b then putS p [10] else p
def badW (s : WS) : WS := (s.1, s.2.1, s.2.2 + 2000000)
def bgW (s : WS) (h : NdH) (K : Tr) : WS :=
  match s with
  | (p :: ps, b :: bs, g) =>
    if h.name = [] then (putS p h.text :: ps, place (putS p h.text) :: b :: bs, g + h.text.length + 2)
    else if h.name = brN then (putS p [10] :: ps, place (putS p [10]) :: b :: bs, g + 2)
    else if h.name = quoN then (([], []) :: endLn p b :: ps, (0, 0) :: b :: bs, g + 2)
    else (p :: ps, place p :: b :: bs, g + 2)
  | s => badW s
def enW (s : WS) (h : NdH) : WS :=
  match s with
  | (p :: ps, b :: bs, g) =>
    if h.name = quoN then (match ps with
      | p2 :: ps => (quoteP p2 p :: ps, bs, g + 1)
      | [] => badW (p :: ps, b :: bs, g))
    else (p :: ps, bs, g + 1)
  | s => badW s
def dvW (h : NdH) : Bool := decide (h.name ≠ []) && decide (h.name ≠ brN)
theorem bgW_le (s : WS) (h : NdH) (K : Tr) : s.2.2 ≤ (bgW s h K).2.2 := by
  unfold bgW
  split
  · split
    · simp only; omega
    · split
      · simp only; omega
      · split
        · simp only; omega
        · simp only; omega
  · unfold badW; simp only; omega
theorem enW_le (s : WS) (h : NdH) : s.2.2 ≤ (enW s h).2.2 := by
  unfold enW
  split
  · split
    · split
      · simp only; omega
      · unfold badW; simp only; omega
    · simp only; omega
  · unfold badW; simp only; omega
def RelW (b : Nat × Nat) (X : List UInt8) (p : PgL) (out : List UInt8) : Prop :=
  PgOK p ∧ render p = X ++ out ∧ ((out = [] ∧ place p = b) ∨ (out ≠ [] ∧ behindP b (place p)))
theorem RelW.put {b : Nat × Nat} {X out : List UInt8} {p : PgL} (h : RelW b X p out) (s : List UInt8) : RelW b X (putS p s) (out ++ s) := by
  obtain ⟨h1, h2, h3⟩ := h
  refine ⟨putS_ok h1 s, by rw [render_putS, h2, List.append_assoc], ?_⟩
  by_cases hs : s = []
  · subst hs; rw [List.append_nil]; exact h3
  · refine .inr ⟨by simp [hs], ?_⟩
    rcases h3 with ⟨_, h3⟩ | ⟨_, h3⟩
    · rw [← h3]; exact putS_place p s hs
    · exact h3.trans (putS_place p s hs)
theorem render_last (p : PgL) (h : PgOK p) : p.2 ≠ [] ↔ render p ≠ [] ∧ (render p).getLast? ≠ some 10 := by
  unfold render
  rcases List.eq_nil_or_concat p.2 with e | ⟨r, c, e⟩
  · rw [e, List.append_nil]
    refine ⟨fun h => absurd rfl h, fun ⟨h1, h2⟩ => ?_⟩
    rcases List.eq_nil_or_concat p.1 with e1 | ⟨l, x, e1⟩
    · rw [e1] at h1; exact absurd rfl h1
    · refine absurd ?_ h2
      rw [e1, List.concat_eq_append, List.flatMap_append, List.flatMap_singleton, ← List.append_assoc, List.getLast?_concat]
  · rw [e, List.concat_eq_append]
    refine ⟨fun _ => ⟨by simp, ?_⟩, fun _ => by simp⟩
    rw [← List.append_assoc, List.getLast?_concat]
    intro hc
    refine h.2 ?_
    rw [e, List.concat_eq_append, Option.some.inj hc]; simp
theorem RelW.endLn {b : Nat × Nat} {X out : List UInt8} {p : PgL} (h : RelW b X p out) : RelW b X (endLn p b) (lfIf out) := by
  have hh := h
  obtain ⟨h1, h2, h3⟩ := h
  have hl := render_last p h1
  rw [h2] at hl
  unfold Go.Proofs.YtiejmkjpgjbodaaGreatDoor.endLn lfIf
  rcases h3 with ⟨rfl, h3⟩ | ⟨hne, h3⟩
  · rw [if_neg (fun e => e.2 h3), if_neg (fun e => e.1 rfl)]; exact hh
  · have e : (X ++ out).getLast? = out.getLast? := by
      rcases List.eq_nil_or_concat out with rfl | ⟨r, c, rfl⟩
      · exact absurd rfl hne
      · rw [List.concat_eq_append, ← List.append_assoc, List.getLast?_concat, List.getLast?_concat]
    rw [e] at hl
    by_cases h10 : out.getLast? = some 10
    · rw [if_neg (fun e => (hl.1 e.1).2 h10), if_neg (fun e => e.2 h10)]; exact hh
    · rw [if_pos ⟨hl.2 ⟨by simp [hne], h10⟩, h3.ne⟩, if_pos ⟨hne, h10⟩]; exact hh.put [10]
theorem RelW.quote {b : Nat × Nat} {X out : List UInt8} {p q : PgL} (h : RelW b X p out) (hq : PgOK q) : RelW b X (quoteP p q) (out ++ quotedL (cutL (render q))) := by
  obtain ⟨h1, h2, h3⟩ := h
  refine ⟨quoteP_ok h1 hq, by rw [quoteP_render p q hq, h2, List.append_assoc], ?_⟩
  rcases quoteP_place p q with ⟨e, rfl⟩ | hb
  · rw [e]
    have : quotedL (cutL (render ([], []))) = [] := by
      show quotedL (cutL []) = []
      rw [cutL_nil]; rfl
    rw [this, List.append_nil]; exact h3
  · refine .inr ⟨?_, ?_⟩
    · intro e
      have e2 : quotedL (cutL (render q)) = [] := (List.append_eq_nil_iff.1 e).2
      have e3 := congrArg render (show quoteP p q = quoteP p q from rfl)
      have e4 : (quotedL (cutL (render q))).length = 0 := by rw [e2]; rfl
      rw [quotedL_len] at e4
      have e5 : cutL (render q) = [] := List.eq_nil_of_length_eq_zero (by omega)
      rw [cut_render q hq] at e5
      obtain ⟨e6, e7⟩ := List.append_eq_nil_iff.1 e5
      have e8 : q.1 = [] := List.map_eq_nil_iff.1 e6
      have e9 : q.2 = [] := by
        by_cases h : q.2 = []
        · exact h
        · rw [if_neg h] at e7; cases e7
      have : quoteP p q = p := by unfold quoteP; rw [if_pos e9, e8]; rfl
      rw [this] at hb
      exact hb.ne rfl
    · rcases h3 with ⟨_, h3⟩ | ⟨_, h3⟩
      · rw [← h3]; exact hb
      · exact h3.trans hb
def costT : Tr → Nat
  | .nil => 0
  | .cons h K R => h.text.length + 3 + costT K + costT R
theorem RelW.start (p : PgL) (h : PgOK p) : RelW (place p) (render p) p [] := ⟨h, by rw [List.append_nil], .inl ⟨rfl, rfl⟩⟩
theorem vis_page (T : Tr) (p : PgL) (ps : List PgL) (b : Nat × Nat) (bs : List (Nat × Nat)) (g : Nat) (X out : List UInt8) (h : RelW b X p out) :
    ∃ p' g', vis bgW enW dvW T (p :: ps, b :: bs, g) = (p' :: ps, b :: bs, g') ∧ g' ≤ g + costT T ∧ RelW b X p' (textR T out) := by
  induction T generalizing p ps b bs g X out with
  | nil => exact ⟨p, g, rfl, Nat.le_refl _, h⟩
  | cons n K R ihK ihR =>
    rw [vis, textR]
    by_cases hn : n.name = []
    · rw [if_pos hn]
      have e1 : dvW n = false := by unfold dvW; simp [hn]
      have hq : n.name ≠ quoN := by rw [hn]; decide
      rw [e1, if_neg (by decide)]
      simp only [bgW, enW, if_pos hn, if_neg hq]
      obtain ⟨p', g', e, hg, hr⟩ := ihR _ ps b bs (g + n.text.length + 2 + 1) X _ (h.put n.text)
      exact ⟨p', g', e, by rw [costT]; omega, hr⟩
    · by_cases hb : n.name = brN
      · rw [if_neg hn, if_pos hb]
        have e1 : dvW n = false := by unfold dvW; simp [hb]
        have hq : n.name ≠ quoN := by rw [hb]; decide
        rw [e1, if_neg (by decide)]
        simp only [bgW, enW, if_neg hn, if_pos hb, if_neg hq]
        obtain ⟨p', g', e, hg, hr⟩ := ihR _ ps b bs (g + 2 + 1) X _ (h.put [10])
        exact ⟨p', g', e, by rw [costT]; omega, hr⟩
      · have e1 : dvW n = true := by unfold dvW; simp [hn, hb]
        rw [if_neg hn, if_neg hb, e1, if_pos rfl]
        by_cases hq : n.name = quoN
        · rw [if_pos hq]
          simp only [bgW, if_neg hn, if_neg hb, if_pos hq]
          obtain ⟨q, g1, e2, hg1, hr1⟩ := ihK ([], []) (endLn p b :: ps) (0, 0) (b :: bs) (g + 2) [] [] (RelW.start ([], []) PgOK.nil)
          rw [e2]
          simp only [enW, if_pos hq]
          have hr2 := (h.endLn).quote hr1.1
          rw [hr1.2.1, List.nil_append] at hr2
          obtain ⟨p', g', e, hg, hr⟩ := ihR _ ps b bs (g1 + 1) X _ hr2
          exact ⟨p', g', e, by rw [costT]; omega, hr⟩
        · rw [if_neg hq]
          simp only [bgW, if_neg hn, if_neg hb, if_neg hq]
          obtain ⟨q, g1, e2, hg1, hr1⟩ := ihK p ps (place p) (b :: bs) (g + 2) (render p) [] (RelW.start p h.1)
          rw [e2]
          simp only [enW, if_neg hq]
          have hr2 : RelW b X q (out ++ textR K []) := by
            obtain ⟨r1, r2, r3⟩ := hr1
            obtain ⟨q1, q2, q3⟩ := h
            refine ⟨r1, by rw [r2, q2, List.append_assoc], ?_⟩
            rcases r3 with ⟨r3, r4⟩ | ⟨r3, r4⟩
            · rw [r3, List.append_nil, r4]; exact q3
            · refine .inr ⟨by simp [r3], ?_⟩
              rcases q3 with ⟨_, q3⟩ | ⟨_, q3⟩
              · rw [← q3]; exact r4
              · exact q3.trans r4
          obtain ⟨p', g', e, hg, hr⟩ := ihR _ ps b bs (g1 + 1) X _ hr2
          exact ⟨p', g', e, by rw [costT]; omega, hr⟩
def plainT (T : Tr) : List UInt8 := textR T []
theorem vis_plain (T : Tr) : ∃ p g, vis bgW enW dvW T ([([], [])], [(0, 0)], 0) = ([p], [(0, 0)], g) ∧ g ≤ costT T ∧ render p = plainT T := by
  obtain ⟨p, g, e, hg, hr⟩ := vis_page T ([], []) [] (0, 0) [] 0 [] [] (RelW.start ([], []) PgOK.nil)
  exact ⟨p, g, e, by omega, hr.2.1⟩
def lnsW (ps : List PgL) : Nat := (ps.map fun p => p.1.length).sum
def bytW (ps : List PgL) : Nat := (ps.map fun p => (render p).length).sum
structure OKW (s : WS) : Prop where
  ok : ∀ p ∈ s.1, PgOK p
  lns : lnsW s.1 ≤ s.2.2
  byt : bytW s.1 ≤ s.2.2 * 2000010
  pgs : s.1.length ≤ s.2.2 + 1
  bgs : s.2.1.length ≤ s.2.2 + 1
theorem render_len_putS (p : PgL) (s : List UInt8) : (render (putS p s)).length = (render p).length + s.length := by rw [render_putS, List.length_append]
theorem OKW.start : OKW ([([], [])], [(0, 0)], 0) := ⟨fun p hp => by obtain rfl := List.mem_singleton.1 hp; exact PgOK.nil, Nat.le_refl _, Nat.le_refl _, Nat.le_refl _, Nat.le_refl _⟩
theorem OKW.bg {s : WS} (h : OKW s) (n : NdH) (K : Tr) (hm : (bgW s n K).2.2 ≤ 1000000) : OKW (bgW s n K) := by
  obtain ⟨ps, bs, g⟩ := s
  obtain ⟨h1, h2, h3, h4, h5⟩ := h
  simp only at h1 h2 h3 h4 h5
  cases ps with
  | nil => exact ⟨h1, by show lnsW [] ≤ g + 2000000; exact Nat.zero_le _, Nat.zero_le _, by show (0 : Nat) ≤ _; exact Nat.zero_le _, by show bs.length ≤ g + 2000000 + 1; omega⟩
  | cons p ps => cases bs with
    | nil => exact absurd hm (by show ¬ g + 2000000 ≤ 1000000; omega)
    | cons b bs =>
      have hp := h1 p (List.mem_cons_self ..)
      have hps : ∀ q ∈ ps, PgOK q := fun q hq => h1 q (List.mem_cons_of_mem _ hq)
      simp only [lnsW, bytW, List.map_cons, List.sum_cons, List.length_cons] at h2 h3 h4 h5
      have key : ∀ (t : List UInt8) (q : Nat × Nat), OKW (putS p t :: ps, q :: b :: bs, g + t.length + 2) := fun t q => by
        have a1 := putS_lines p t
        have a2 := render_len_putS p t
        refine ⟨fun q hq => ?_, ?_, ?_, ?_, ?_⟩
        · rcases List.mem_cons.1 hq with rfl | hq
          · exact putS_ok hp t
          · exact hps q hq
        · simp only [lnsW, List.map_cons, List.sum_cons]; omega
        · simp only [bytW, List.map_cons, List.sum_cons]; omega
        · simp only [List.length_cons]; omega
        · simp only [List.length_cons]; omega
      have key2 : ∀ (p' : PgL) (q : Nat × Nat), PgOK p' → p'.1.length ≤ p.1.length + 1 → (render p').length ≤ (render p).length + 1 → OKW (p' :: ps, q :: b :: bs, g + 2) ∧ OKW (([], []) :: p' :: ps, q :: b :: bs, g + 2) := fun p' q hok a1 a2 => by
        have c1 : ∀ q ∈ p' :: ps, PgOK q := fun q hq => by
          rcases List.mem_cons.1 hq with rfl | hq
          · exact hok
          · exact hps q hq
        refine ⟨⟨c1, ?_, ?_, ?_, ?_⟩, ⟨fun q hq => ?_, ?_, ?_, ?_, ?_⟩⟩
        · simp only [lnsW, List.map_cons, List.sum_cons]; omega
        · simp only [bytW, List.map_cons, List.sum_cons]; omega
        · simp only [List.length_cons]; omega
        · simp only [List.length_cons]; omega
        · rcases List.mem_cons.1 hq with rfl | hq
          · exact PgOK.nil
          · exact c1 q hq
        · simp only [lnsW, List.map_cons, List.sum_cons, List.length_nil]; omega
        · simp only [bytW, List.map_cons, List.sum_cons, render, List.flatMap_nil, List.nil_append, List.length_nil]; simp only [render] at a2 h3; omega
        · simp only [List.length_cons]; omega
        · simp only [List.length_cons]; omega
      show OKW (bgW (p :: ps, b :: bs, g) n K)
      unfold bgW
      simp only
      split
      · exact key n.text _
      · split
        · exact (key2 (putS p [10]) _ (putS_ok hp _) (putS_lines p [10]) (Nat.le_of_eq (render_len_putS p [10]))).1
        · split
          · refine (key2 (Go.Proofs.YtiejmkjpgjbodaaGreatDoor.endLn p b) (0, 0) ?_ ?_ ?_).2
            · unfold Go.Proofs.YtiejmkjpgjbodaaGreatDoor.endLn; split
              · exact putS_ok hp _
              · exact hp
            · unfold Go.Proofs.YtiejmkjpgjbodaaGreatDoor.endLn; split
              · exact putS_lines p [10]
              · exact Nat.le_succ _
            · unfold Go.Proofs.YtiejmkjpgjbodaaGreatDoor.endLn; split
              · exact Nat.le_of_eq (render_len_putS p [10])
              · exact Nat.le_succ _
          · exact (key2 p _ hp (Nat.le_succ _) (Nat.le_succ _)).1
theorem OKW.en {s : WS} (h : OKW s) (n : NdH) (hm : (enW s n).2.2 ≤ 1000000) : OKW (enW s n) := by
  obtain ⟨ps, bs, g⟩ := s
  obtain ⟨h1, h2, h3, h4, h5⟩ := h
  simp only at h1 h2 h3 h4 h5
  cases ps with
  | nil => exact absurd hm (by show ¬ g + 2000000 ≤ 1000000; omega)
  | cons p ps => cases bs with
    | nil => exact absurd hm (by show ¬ g + 2000000 ≤ 1000000; omega)
    | cons b bs =>
      have hp := h1 p (List.mem_cons_self ..)
      have hps : ∀ q ∈ ps, PgOK q := fun q hq => h1 q (List.mem_cons_of_mem _ hq)
      simp only [lnsW, bytW, List.map_cons, List.sum_cons, List.length_cons] at h2 h3 h4 h5
      by_cases hq : n.name = quoN
      · cases ps with
        | nil =>
          have e : enW ([p], b :: bs, g) n = badW ([p], b :: bs, g) := by simp only [enW, if_pos hq]
          rw [e] at hm
          exact absurd hm (by show ¬ g + 2000000 ≤ 1000000; omega)
        | cons p2 ps =>
          have e : enW (p :: p2 :: ps, b :: bs, g) n = (quoteP p2 p :: ps, bs, g + 1) := by simp only [enW, if_pos hq]
          rw [e] at hm ⊢
          simp only at hm
          have hp2 := hps p2 (List.mem_cons_self ..)
          have a1 := quoteP_lines p2 p hp
          have a2 := quoted_len p hp
          have a3 : (render (quoteP p2 p)).length = (render p2).length + (quotedL (cutL (render p))).length := by rw [quoteP_render p2 p hp, List.length_append]
          simp only [List.map_cons, List.sum_cons, List.length_cons] at h2 h3 h4
          refine ⟨fun q hq => ?_, ?_, ?_, ?_, ?_⟩
          · rcases List.mem_cons.1 hq with rfl | hq
            · exact quoteP_ok hp2 hp
            · exact hps q (List.mem_cons_of_mem _ hq)
          · simp only [lnsW, List.map_cons, List.sum_cons]; omega
          · simp only [bytW, List.map_cons, List.sum_cons]; omega
          · simp only [List.length_cons]; omega
          · simp only; omega
      · have e : enW (p :: ps, b :: bs, g) n = (p :: ps, bs, g + 1) := by simp only [enW, if_neg hq]
        rw [e]
        refine ⟨h1, ?_, ?_, ?_, ?_⟩
        · simp only [lnsW, List.map_cons, List.sum_cons]; omega
        · simp only [bytW, List.map_cons, List.sum_cons]
          have := Nat.mul_le_mul_right 2000010 (Nat.le_succ g)
          exact Nat.le_trans h3 this
        · simp only [List.length_cons]; omega
        · simp only; omega
end Go.Proofs.YtiejmkjpgjbodaaGreatDoor

namespace Go.Proofs.YtiejmkjpgjbodaaGreatDoor
set_option linter.unusedVariables false
set_option linter.unusedSimpArgs false
set_option maxRecDepth 100000
def QuietL (l : List UInt8) : Prop := ∀ i (h : i < l.length), l[i] ≠ 13 ∧ (l[i] = 62 → i ≠ 0 ∧ l[i - 1]'(by omega) ≠ 10)
theorem QuietL.tail {a r : List UInt8} (h : QuietL (a ++ 10 :: r)) : QuietL r := by
  intro i hi
  have hl : a.length + 1 + i < (a ++ 10 :: r).length := by simp; omega
  have e : (a ++ 10 :: r)[a.length + 1 + i] = r[i] := by
    rw [List.getElem_append_right (by omega)]
    simp only [show a.length + 1 + i - a.length = i + 1 from by omega, List.getElem_cons_succ]
  obtain ⟨h1, h2⟩ := h (a.length + 1 + i) hl
  rw [e] at h1 h2
  refine ⟨h1, fun e62 => ?_⟩
  obtain ⟨_, h3⟩ := h2 e62
  have hi0 : i ≠ 0 := by
    rintro rfl
    refine h3 ?_
    rw [List.getElem_append_right (by omega)]
    simp
  refine ⟨hi0, ?_⟩
  have e2 : (a ++ 10 :: r)[a.length + 1 + i - 1]'(by omega) = r[i - 1]'(by omega) := by
    rw [List.getElem_append_right (by omega)]
    simp only [show a.length + 1 + i - 1 - a.length = (i - 1) + 1 from by omega, List.getElem_cons_succ]
  rw [← e2]; exact h3
theorem saysT_count (s : List UInt8) (T : Tr) : (saysT s T).count ≤ T.count + 1 := by unfold saysT; split <;> simp [Tr.count]; omega
theorem saysT_cost (s : List UInt8) (T : Tr) : costT (saysT s T) ≤ costT T + s.length + 3 := by
  unfold saysT; split
  · omega
  · simp only [costT, txH]; omega
theorem saysT_depth (s : List UInt8) (T : Tr) : (saysT s T).depth ≤ max 1 T.depth := by
  unfold saysT; split
  · omega
  · simp only [Tr.depth]; omega
theorem insP_size (n : Nat) (s : List UInt8) (m : Option Nat) (T : Tr) : (insP n s m T).count ≤ T.count + n + 2 ∧ costT (insP n s m T) ≤ costT T + 3 * n + s.length + 6 ∧ (insP n s m T).depth ≤ max (n + 1) T.depth := by
  induction n generalizing m T with
  | zero =>
    rw [insP_zero]
    have e : (if m = some 0 then Tr.cons brH .nil T else T).count ≤ T.count + 1 ∧ costT (if m = some 0 then Tr.cons brH .nil T else T) ≤ costT T + 3 ∧ (if m = some 0 then Tr.cons brH .nil T else T).depth ≤ max 1 T.depth := by
      split
      · simp only [Tr.count, costT, brH, elH, Tr.depth, List.length_nil]; omega
      · omega
    have h1 := saysT_count s (if m = some 0 then Tr.cons brH .nil T else T)
    have h2 := saysT_cost s (if m = some 0 then Tr.cons brH .nil T else T)
    have h3 := saysT_depth s (if m = some 0 then Tr.cons brH .nil T else T)
    omega
  | succ n ih =>
    have key : (Tr.cons quH (insP n s none .nil) T).count ≤ T.count + (n + 1) + 2 ∧ costT (Tr.cons quH (insP n s none .nil) T) ≤ costT T + 3 * (n + 1) + s.length + 6 ∧ (Tr.cons quH (insP n s none .nil) T).depth ≤ max (n + 1 + 1) T.depth := by
      obtain ⟨h1, h2, h3⟩ := ih none .nil
      simp only [Tr.count, costT, Tr.depth, quH, elH, List.length_nil] at *
      omega
    cases m with
    | none => rw [insP_none]; exact key
    | some m => cases m with
      | zero => rw [insP_off]; exact key
      | succ m => cases T with
        | nil => exact key
        | cons h K R =>
          rw [insP_in]
          obtain ⟨h1, h2, h3⟩ := ih (some m) K
          simp only [Tr.count, costT, Tr.depth] at *
          omega
def bytesLn (l : List LnL) : Nat := (l.map fun p => p.2.length).sum
theorem treeP_size (l : List LnL) (h : ∀ p ∈ l, p.1 ≤ 20) : (treeP l).count ≤ 22 * l.length ∧ costT (treeP l) ≤ 66 * l.length + bytesLn l ∧ (treeP l).depth ≤ 21 := by
  induction l with
  | nil => exact ⟨Nat.le_refl _, Nat.le_refl _, Nat.zero_le _⟩
  | cons p r ih =>
    obtain ⟨h1, h2, h3⟩ := ih (fun q hq => h q (List.mem_cons_of_mem _ hq))
    have hp := h p (List.mem_cons_self ..)
    obtain ⟨k1, k2, k3⟩ := insP_size p.1 p.2 (nextL r) (treeP r)
    simp only [treeP, List.length_cons, bytesLn, List.map_cons, List.sum_cons] at *
    omega
theorem cutL_sizes (l : List UInt8) : (cutL l).length ≤ l.length ∧ ((cutL l).map List.length).sum ≤ l.length := by
  refine list_ind (p := fun l => (cutL l).length ≤ l.length ∧ ((cutL l).map List.length).sum ≤ l.length) ?_ l
  intro l ih
  rcases cut_case 10 l with ⟨h1, _, _⟩ | ⟨a, r, e, h1, _, _⟩
  · rw [cut_last l h1]
    split
    · simp
    · rename_i h
      have := List.length_pos_iff.2 h
      simp; omega
  · subst e
    rw [cut_line a r h1]
    have hr := ih r (by simp; omega)
    have ht := trimCR_le a
    simp only [List.length_cons, List.map_cons, List.sum_cons, List.length_append]
    omega
theorem linesP_sizes (s : List UInt8) : (∀ p ∈ linesP s, p.1 ≤ 20) ∧ (linesP s).length ≤ s.length ∧ bytesLn (linesP s) ≤ s.length := by
  obtain ⟨h1, h2⟩ := cutL_sizes s
  refine ⟨fun p hp => ?_, by unfold linesP; rw [List.length_map]; exact h1, ?_⟩
  · obtain ⟨x, _, rfl⟩ := List.mem_map.1 hp; exact (levelL_le x).1
  · refine Nat.le_trans ?_ h2
    unfold bytesLn linesP
    rw [List.map_map]
    generalize cutL s = L
    induction L with
    | nil => exact Nat.le_refl _
    | cons x r ih =>
      have := (levelL_le x).2
      simp only [List.map_cons, List.sum_cons, Function.comp] at ih ⊢
      omega
theorem plainP_size (s : List UInt8) : (plainP s).count ≤ 22 * s.length ∧ costT (plainP s) ≤ 67 * s.length ∧ (plainP s).depth ≤ 21 := by
  obtain ⟨h1, h2, h3⟩ := linesP_sizes s
  obtain ⟨k1, k2, k3⟩ := treeP_size (linesP s) h1
  unfold plainP
  omega
end Go.Proofs.YtiejmkjpgjbodaaGreatDoor

namespace Go.Proofs.YtiejmkjpgjbodaaGreatDoor
open Go.RowKit
set_option linter.unusedVariables false
set_option linter.unusedSimpArgs false
set_option maxRecDepth 100000
theorem hasPrefix_sign (l : List UInt8) : Lib.hasPrefix l [62] = true ↔ l.head? = some 62 := by
  unfold Lib.hasPrefix
  cases l with
  | nil => simp
  | cons c r => simp [List.isPrefixOf]; exact eq_comm
theorem trimPrefix_blank (l : List UInt8) : Lib.trimPrefix l [32] = dropB l := by
  unfold Lib.trimPrefix Lib.hasPrefix
  cases l with
  | nil => simp [dropB]
  | cons c r =>
    by_cases h : c = 32
    · subst h; simp [dropB]
    · have : ([32] : List UInt8).isPrefixOf (c :: r) = false := by simp [List.isPrefixOf]; exact fun e => h e.symm
      rw [this, if_neg (by decide)]; simp [dropB, h]
def levelV (p : Nat × List UInt8) : Value := .tuple #[.int .i64 (p.1 : Int), .string (str p.2)]
set_option maxHeartbeats 1000000 in
theorem level_any (s : ByteArray) (w : World) (hs : s.size ≤ 70368744177664) :
    Calls Tryz.prog 26 #[.string s] w fun e w' => e = .returned (levelV (levelL s.data.toList)) ∧ w' = w := by
  go_enter Tryz.func26, Tryz.ntmps26
  go_wp2
  go_loopw [0, 4] (fun p n wr => ∃ (k : Nat) (r : ByteArray), k ≤ 20 ∧ p = .string r ∧ n = .int .i64 k ∧ r.size ≤ s.size ∧ Hid (levelL s.data.toList = (k + (lvP (20 - k) r.data.toList).1, (lvP (20 - k) r.data.toList).2)) ∧ Hid (wr = w)) (fun p n _ => 20 - (intOf n).toNat)
  case atStart => exact ⟨0, s, by omega, rfl, rfl, Nat.le_refl _, hide (by unfold levelL; simp), hide rfl⟩
  case round =>
    obtain ⟨k, r, hk, rfl, rfl, hr, HD, HW⟩ := hrel
    by_cases hlt : k < 20
    · have t1 : decide ((k : Int) < 20) = true := decide_eq_true (by omega)
      by_cases hp : r.data.toList.head? = some 62
      · have HP : Hid (Calls Tryz.prog 65 #[.string r, .string ⟨#[62]⟩] wr fun e w' => e = .returned (.bool true) ∧ w' = wr) := hide (by
          have := Tryz.strings_HasPrefix r ⟨#[62]⟩ wr
          rw [show Lib.hasPrefix r.data.toList (⟨#[62]⟩ : ByteArray).data.toList = true from (hasPrefix_sign _).2 hp] at this
          exact this)
        obtain ⟨q, hq⟩ : ∃ q, r.data.toList = 62 :: q := by
          cases h : r.data.toList with
          | nil => rw [h] at hp; cases hp
          | cons c q => rw [h] at hp; exact ⟨q, by rw [Option.some.inj hp]⟩
        have hpos : 1 ≤ r.size := by have := toList_length r; rw [hq] at this; simp at this; omega
        obtain ⟨R, hR⟩ : ∃ R, R = r.extract 1 r.size := ⟨_, rfl⟩
        have hRL : R.data.toList = q := by rw [hR, extract_end, hq]; rfl
        have HT : Hid (Calls Tryz.prog 66 #[.string R, .string ⟨#[32]⟩] wr fun e w' => e = .returned (.string (str (dropB q))) ∧ w' = wr) := hide (by
          have := Tryz.strings_TrimPrefix R ⟨#[32]⟩ wr
          rw [show Lib.trimPrefix R.data.toList (⟨#[32]⟩ : ByteArray).data.toList = dropB q from by rw [hRL]; exact trimPrefix_blank q] at this
          exact this)
        have HN : Hid (levelL s.data.toList = (k + 1 + (lvP (20 - (k + 1)) (dropB q)).1, (lvP (20 - (k + 1)) (dropB q)).2)) := hide (by
          rw [HD.out, hq, show 20 - k = 20 - (k + 1) + 1 by omega, lvP_sign]
          simp only
          rw [Nat.add_assoc, Nat.add_comm 1])
        have HSZ : Hid ((str (dropB q)).size ≤ s.size) := hide (by
          have h1 := dropB_le q
          have h2 := toList_length r
          rw [hq, List.length_cons] at h2
          rw [str_size]; omega)
        obtain ⟨X, hX⟩ : ∃ X, X = str (dropB q) := ⟨_, rfl⟩
        have HXL : Hid (X.data.toList = dropB q) := hide (by rw [hX, str_toList])
        rw [← hX] at HT HSZ
        have HR := hide hR
        clear hX hRL hq hR hp
        go_wp2_with fail
        refine HP.out.mono ?_
        rintro e w1 ⟨rfl, rfl⟩
        go_wp2_with fail
        rw [← HR.out]
        refine HT.out.mono ?_
        rintro e w2 ⟨rfl, rfl⟩
        go_wp2_with fail
        go_roundw
        case rel => exact ⟨k + 1, X, by omega, rfl, by go_num, HSZ.out, hide (by rw [HXL.out]; exact HN.out), HW⟩
        case measure => simp [intOf]; omega
      · have HP : Hid (Calls Tryz.prog 65 #[.string r, .string ⟨#[62]⟩] wr fun e w' => e = .returned (.bool false) ∧ w' = wr) := hide (by
          have := Tryz.strings_HasPrefix r ⟨#[62]⟩ wr
          rw [show Lib.hasPrefix r.data.toList (⟨#[62]⟩ : ByteArray).data.toList = false from by
            cases h : Lib.hasPrefix r.data.toList (⟨#[62]⟩ : ByteArray).data.toList with
            | false => rfl
            | true => exact absurd ((hasPrefix_sign _).1 h) hp] at this
          exact this)
        have HE : Hid (levelL s.data.toList = (k, r.data.toList)) := hide (by rw [HD.out, lvP_none _ _ hp]; simp)
        clear hp
        go_wp2_with fail
        refine HP.out.mono ?_
        rintro e w1 ⟨rfl, rfl⟩
        go_wp2_with fail
        go_ret2
        exact ⟨by rw [HE.out]; unfold levelV; rw [str_of]; rfl, HW.out⟩
    · obtain rfl : k = 20 := by omega
      have t1 : decide (((20 : Nat) : Int) < 20) = false := decide_eq_false (by omega)
      have HE : Hid (levelL s.data.toList = (20, r.data.toList)) := hide (by rw [HD.out, Nat.sub_self, lvP_zero]; rfl)
      go_wp2_with fail
      go_ret2
      exact ⟨by rw [HE.out]; unfold levelV; rw [str_of]; rfl, HW.out⟩
end Go.Proofs.YtiejmkjpgjbodaaGreatDoor

namespace Go.Proofs.YtiejmkjpgjbodaaGreatDoor
set_option linter.unusedVariables false
set_option linter.unusedSimpArgs false
set_option maxRecDepth 100000
end Go.Proofs.YtiejmkjpgjbodaaGreatDoor

namespace Go.Proofs.YtiejmkjpgjbodaaGreatDoor
set_option linter.unusedVariables false
set_option linter.unusedSimpArgs false
def rawL : List (List UInt8) := [
  [115, 99, 114, 105, 112, 116],
  [115, 116, 121, 108, 101],
  [116, 105, 116, 108, 101],
  [116, 101, 120, 116, 97, 114, 101, 97],
  [120, 109, 112],
  [105, 102, 114, 97, 109, 101],
  [110, 111, 101, 109, 98, 101, 100],
  [110, 111, 102, 114, 97, 109, 101, 115],
  [112, 108, 97, 105, 110, 116, 101, 120, 116],
  [110, 111, 115, 99, 114, 105, 112, 116]]
theorem rawL_cases (n : List UInt8) (h : rawL.contains n = true) : n = [115, 99, 114, 105, 112, 116] ∨ n = [115, 116, 121, 108, 101] ∨ n = [116, 105, 116, 108, 101] ∨ n = [116, 101, 120, 116, 97, 114, 101, 97] ∨ n = [120, 109, 112] ∨ n = [105, 102, 114, 97, 109, 101] ∨ n = [110, 111, 101, 109, 98, 101, 100] ∨ n = [110, 111, 102, 114, 97, 109, 101, 115] ∨ n = [112, 108, 97, 105, 110, 116, 101, 120, 116] ∨ n = [110, 111, 115, 99, 114, 105, 112, 116] := by
  simpa [rawL] using h
theorem rawL_none (n : List UInt8) (h : rawL.contains n = false) : n ≠ [115, 99, 114, 105, 112, 116] ∧ n ≠ [115, 116, 121, 108, 101] ∧ n ≠ [116, 105, 116, 108, 101] ∧ n ≠ [116, 101, 120, 116, 97, 114, 101, 97] ∧ n ≠ [120, 109, 112] ∧ n ≠ [105, 102, 114, 97, 109, 101] ∧ n ≠ [110, 111, 101, 109, 98, 101, 100] ∧ n ≠ [110, 111, 102, 114, 97, 109, 101, 115] ∧ n ≠ [112, 108, 97, 105, 110, 116, 101, 120, 116] ∧ n ≠ [110, 111, 115, 99, 114, 105, 112, 116] := by
  simpa [rawL] using h
end Go.Proofs.YtiejmkjpgjbodaaGreatDoor

namespace Go.Proofs.YtiejmkjpgjbodaaGreatDoor
set_option linter.unusedVariables false
set_option linter.unusedSimpArgs false
structure TokL where
  kind : Nat
  name : List UInt8
  attrs : List AtL
  text : List UInt8
def whB (c : UInt8) : Bool := c == 32 || (c == 9 || (c == 10 || (c == 12 || c == 13)))
def whs (c : UInt8) : Bool := whB c || c == 47
def nameEndB (c : UInt8) : Bool := whB c || (c == 47 || c == 62)
def attrEndB (c : UInt8) : Bool := nameEndB c || c == 61
def valueEndB (c : UInt8) : Bool := whB c || c == 62
def upL (p : UInt8 → Bool) (l : List UInt8) : List UInt8 × List UInt8 := (l.takeWhile fun c => !p c, l.dropWhile fun c => !p c)
theorem upL_len (p : UInt8 → Bool) (l : List UInt8) : (upL p l).1.length + (upL p l).2.length = l.length := by
  unfold upL
  rw [← List.length_append, List.takeWhile_append_dropWhile]
theorem drop_len (p : UInt8 → Bool) (l : List UInt8) : (l.dropWhile p).length ≤ l.length := (List.dropWhile_sublist p).length_le
theorem afterC_le13 (c : UInt8) (l : List UInt8) : (afterC c l).length ≤ l.length := by
  unfold afterC; have := drop_len (fun x => x != c) l
  rw [List.length_drop]; omega
def valueL (l : List UInt8) : List UInt8 × List UInt8 := match l with
  | [] => ([], [])
  | c :: r => if c = 34 then (beforeC 34 r, afterC 34 r) else if c = 39 then (beforeC 39 r, afterC 39 r) else upL valueEndB (c :: r)
theorem valueL_len (l : List UInt8) : (valueL l).2.length ≤ l.length := by
  unfold valueL
  cases l with
  | nil => exact Nat.le_refl _
  | cons c r =>
    simp only
    split
    · have := afterC_le13 34 r
      simp only [List.length_cons]; omega
    · split
      · have := afterC_le13 39 r
        simp only [List.length_cons]; omega
      · have := upL_len valueEndB (c :: r)
        omega
def attrL (dec : List UInt8 → List UInt8) (l : List UInt8) : AtL × List UInt8 := match l with
  | [] => (([], []), [])
  | c :: r =>
    match (upL attrEndB r).2.dropWhile whB with
    | 61 :: b => ((lowL (c :: (upL attrEndB r).1), dec (valueL (b.dropWhile whB)).1), (valueL (b.dropWhile whB)).2)
    | _ => ((lowL (c :: (upL attrEndB r).1), []), (upL attrEndB r).2)
theorem attrL_len (dec : List UInt8 → List UInt8) (c : UInt8) (r : List UInt8) : (attrL dec (c :: r)).2.length ≤ r.length := by
  have h1 := upL_len attrEndB r
  have h2 := drop_len whB (upL attrEndB r).2
  unfold attrL
  simp only
  split
  · rename_i b hb
    rw [hb] at h2
    have h3 := drop_len whB b
    have h4 := valueL_len (b.dropWhile whB)
    simp only [List.length_cons] at h2
    show (valueL (b.dropWhile whB)).2.length ≤ _
    omega
  · show (upL attrEndB r).2.length ≤ _
    omega
theorem attrL_val {dec : List UInt8 → List UInt8} {c : UInt8} {r b : List UInt8} (h : (upL attrEndB r).2.dropWhile whB = 61 :: b) :
    attrL dec (c :: r) = ((lowL (c :: (upL attrEndB r).1), dec (valueL (b.dropWhile whB)).1), (valueL (b.dropWhile whB)).2) := by
  unfold attrL
  simp only [h]
def countsB (A : List AtL) (n : List UInt8) : Bool := decide (A.length < 30) && !(A.any fun a => a.1 == n)
def attrsLL (dec : List UInt8 → List UInt8) (A : List AtL) (l : List UInt8) : Option (List AtL × List UInt8) :=
  match h : l.dropWhile whs with
  | [] => none
  | c :: r =>
    if c = 62 then some (A, r)
    else attrsLL dec (if countsB A (attrL dec (c :: r)).1.1 = true then A ++ [(attrL dec (c :: r)).1] else A) (attrL dec (c :: r)).2
termination_by l.length
decreasing_by
  have h1 := drop_len whs l
  rw [h] at h1
  have h2 := attrL_len dec c r
  simp only [List.length_cons] at h1
  omega
theorem attrsLL_nil {dec : List UInt8 → List UInt8} {A : List AtL} {l : List UInt8} (h : l.dropWhile whs = []) : attrsLL dec A l = none := by
  rw [attrsLL]
  split
  · rfl
  · rename_i c r h2; rw [h] at h2; cases h2
theorem attrsLL_end {dec : List UInt8 → List UInt8} {A : List AtL} {l r : List UInt8} (h : l.dropWhile whs = 62 :: r) : attrsLL dec A l = some (A, r) := by
  rw [attrsLL]
  split
  · rename_i h2; rw [h] at h2; cases h2
  · rename_i c r2 h2
    rw [h] at h2
    injection h2 with h3 h4
    subst h3 h4
    rw [if_pos rfl]
theorem attrsLL_go {dec : List UInt8 → List UInt8} {A : List AtL} {l r : List UInt8} {c : UInt8} (h : l.dropWhile whs = c :: r) (hc : c ≠ 62) :
    attrsLL dec A l = attrsLL dec (if countsB A (attrL dec (c :: r)).1.1 = true then A ++ [(attrL dec (c :: r)).1] else A) (attrL dec (c :: r)).2 := by
  rw [attrsLL]
  split
  · rename_i h2; rw [h] at h2; cases h2
  · rename_i c2 r2 h2
    rw [h] at h2
    injection h2 with h3 h4
    subst h3 h4
    rw [if_neg hc]
theorem attrsLL_ind (dec : List UInt8 → List UInt8) {P : List AtL → List UInt8 → Prop}
    (hstep : ∀ A l c r, l.dropWhile whs = c :: r → c ≠ 62 → P A l → P (if countsB A (attrL dec (c :: r)).1.1 = true then A ++ [(attrL dec (c :: r)).1] else A) (attrL dec (c :: r)).2) :
    ∀ (k : Nat) (A : List AtL) (l : List UInt8), l.length ≤ k → P A l → ∀ B b, attrsLL dec A l = some (B, b) → ∃ l', P B l' ∧ l'.dropWhile whs = 62 :: b := by
  intro k
  induction k with
  | zero =>
    intro A l hl hP B b hb
    obtain rfl : l = [] := List.eq_nil_of_length_eq_zero (by omega)
    rw [attrsLL_nil rfl] at hb; cases hb
  | succ k ih =>
    intro A l hl hP B b hb
    cases hd : l.dropWhile whs with
    | nil => rw [attrsLL_nil hd] at hb; cases hb
    | cons c r =>
      have h1 := drop_len whs l
      rw [hd] at h1
      simp only [List.length_cons] at h1
      by_cases hc : c = 62
      · subst hc
        rw [attrsLL_end hd] at hb
        injection hb with hb
        injection hb with hb1 hb2
        subst hb1 hb2
        exact ⟨l, hP, hd⟩
      · rw [attrsLL_go hd hc] at hb
        have h2 := attrL_len dec c r
        exact ih _ _ (by omega) (hstep A l c r hd hc hP) B b hb
theorem attrsLL_len {dec : List UInt8 → List UInt8} {A : List AtL} {l : List UInt8} {B : List AtL} {b : List UInt8} (h : attrsLL dec A l = some (B, b)) : b.length < l.length := by
  obtain ⟨l', h1, h2⟩ := attrsLL_ind dec (P := fun _ x => x.length ≤ l.length) (fun A x c r hx hc hP => by
    have h1 := drop_len whs x
    rw [hx] at h1
    simp only [List.length_cons] at h1
    have h2 := attrL_len dec c r
    omega) l.length A l (Nat.le_refl _) (Nat.le_refl _) B b h
  have h3 := drop_len whs l'
  rw [h2] at h3
  simp only [List.length_cons] at h3
  omega
def tagL (dec : List UInt8 → List UInt8) (l : List UInt8) : Option (List UInt8 × List AtL × List UInt8) :=
  match attrsLL dec [] (upL nameEndB l).2 with
  | none => none
  | some (A, b) => some (lowL (upL nameEndB l).1, A, b)
theorem tagL_len {dec : List UInt8 → List UInt8} {l n b : List UInt8} {A : List AtL} (h : tagL dec l = some (n, A, b)) : b.length < l.length := by
  unfold tagL at h
  have h1 := upL_len nameEndB l
  cases ha : attrsLL dec [] (upL nameEndB l).2 with
  | none => rw [ha] at h; cases h
  | some p =>
    obtain ⟨B, x⟩ := p
    rw [ha] at h
    have h2 := attrsLL_len ha
    injection h with h
    injection h with _ h
    injection h with _ h
    rw [← h]; omega
def rawEndB (n l : List UInt8) : Bool := match l with
  | 60 :: 47 :: r => decide (n.length < r.length) && (lowL (r.take n.length) == n && nameEndB (r.getD n.length 0))
  | _ => false
def rawN (n : List UInt8) : List UInt8 → Nat
  | [] => 0
  | c :: r => if rawEndB n (c :: r) = true then 0 else rawN n r + 1
def plainText : List UInt8 := [112, 108, 97, 105, 110, 116, 101, 120, 116]
def rawSizeL (n l : List UInt8) : Nat := if n = plainText then l.length else rawN n l
theorem rawN_le (n : List UInt8) : ∀ l, rawN n l ≤ l.length
  | [] => Nat.le_refl _
  | c :: r => by
    unfold rawN
    split
    · exact Nat.zero_le _
    · have := rawN_le n r
      simp only [List.length_cons]; omega
theorem rawSizeL_le (n l : List UInt8) : rawSizeL n l ≤ l.length := by
  unfold rawSizeL
  split
  · exact Nat.le_refl _
  · exact rawN_le n l
def isMarkB (l : List UInt8) : Bool := match l with
  | 60 :: c :: r => if c = 33 ∨ c = 63 then true else if c = 47 then !r.isEmpty else letterB c
  | _ => false
def markN : List UInt8 → Nat
  | [] => 0
  | c :: r => if isMarkB (c :: r) = true then 0 else markN r + 1
theorem markN_le : ∀ l, markN l ≤ l.length
  | [] => Nat.le_refl _
  | c :: r => by
    unfold markN
    split
    · exact Nat.zero_le _
    · have := markN_le r
      simp only [List.length_cons]; omega
theorem markN_zero {c : UInt8} {r : List UInt8} (h : markN (c :: r) = 0) : isMarkB (c :: r) = true := by
  unfold markN at h
  split at h
  · assumption
  · omega
def charsT (x : List UInt8) : TokL := ⟨1, [], [], x⟩
def startT (n : List UInt8) (A : List AtL) : TokL := ⟨2, n, A, []⟩
def endT (n : List UInt8) : TokL := ⟨3, n, [], []⟩
def remT (x : List UInt8) : TokL := ⟨4, [], [], x⟩
def cutAt (t : List UInt8) : List UInt8 → List UInt8 × List UInt8
  | [] => ([], [])
  | c :: r => if t.isPrefixOf (c :: r) = true then ([], (c :: r).drop t.length) else (c :: (cutAt t r).1, (cutAt t r).2)
theorem cutAt_len (t : List UInt8) : ∀ l, (cutAt t l).2.length ≤ l.length
  | [] => Nat.le_refl _
  | c :: r => by
    unfold cutAt
    split
    · show ((c :: r).drop t.length).length ≤ _
      rw [List.length_drop]; omega
    · have := cutAt_len t r
      simp only [List.length_cons]; omega
def remEnd : List UInt8 := [45, 45, 62]
abbrev MarkR := Option TokL × List UInt8 × List UInt8
def startL (dec : List UInt8 → List UInt8) (l : List UInt8) : MarkR := match tagL dec l with
  | none => (none, [], [])
  | some (n, A, b) => if rawL.contains n = true then (some (startT n A), b.take (rawSizeL n b), b.drop (rawSizeL n b)) else (some (startT n A), [], b)
def endL (dec : List UInt8 → List UInt8) (l : List UInt8) : MarkR := match tagL dec l with
  | none => (none, [], [])
  | some (n, A, b) => (some (endT n), [], b)
def remL (l : List UInt8) : MarkR := (some (remT (beforeC 62 l)), [], afterC 62 l)
def longL (l : List UInt8) : MarkR := match l with
  | 62 :: b => (some (remT []), [], b)
  | 45 :: 62 :: b => (some (remT []), [], b)
  | _ => (some (remT (cutAt remEnd l).1), [], (cutAt remEnd l).2)
def markL (dec : List UInt8 → List UInt8) (l : List UInt8) : MarkR := match l with
  | 47 :: r => match r with
    | [] => (none, [], [])
    | c :: q => if letterB c = true then endL dec (c :: q) else if c = 62 then (none, [], q) else remL (c :: q)
  | 33 :: r => match r with
    | 45 :: 45 :: b => longL b
    | _ => remL r
  | 63 :: r => remL (63 :: r)
  | _ => startL dec l
theorem markL_end {dec : List UInt8 → List UInt8} {c : UInt8} (h : letterB c = true) (r : List UInt8) : markL dec (47 :: c :: r) = endL dec (c :: r) := if_pos h
theorem remL_len (l : List UInt8) : (remL l).2.2.length ≤ l.length := afterC_le13 62 l
theorem longL_len (l : List UInt8) : (longL l).2.2.length ≤ l.length := by
  unfold longL
  split
  · simp only [List.length_cons]; omega
  · simp only [List.length_cons]; omega
  · exact cutAt_len remEnd l
theorem startL_len (dec : List UInt8 → List UInt8) (l : List UInt8) : (startL dec l).2.2.length ≤ l.length := by
  unfold startL
  cases h : tagL dec l with
  | none => exact Nat.zero_le _
  | some p =>
    obtain ⟨n, A, b⟩ := p
    have := tagL_len h
    simp only
    split
    · show (b.drop _).length ≤ _
      rw [List.length_drop]; omega
    · show b.length ≤ _
      omega
theorem endL_len (dec : List UInt8 → List UInt8) (l : List UInt8) : (endL dec l).2.2.length ≤ l.length := by
  unfold endL
  cases h : tagL dec l with
  | none => exact Nat.zero_le _
  | some p =>
    obtain ⟨n, A, b⟩ := p
    have := tagL_len h
    show b.length ≤ _
    omega
theorem markL_len (dec : List UInt8 → List UInt8) (l : List UInt8) : (markL dec l).2.2.length ≤ l.length := by
  unfold markL
  split
  · rename_i r
    split
    · exact Nat.zero_le _
    · rename_i c q
      split
      · have := endL_len dec (c :: q)
        simp only [List.length_cons] at this ⊢; omega
      · split
        · simp only [List.length_cons]; omega
        · have := remL_len (c :: q)
          simp only [List.length_cons] at this ⊢; omega
  · rename_i r
    split
    · rename_i b
      have := longL_len b
      simp only [List.length_cons]; omega
    · have := remL_len r
      simp only [List.length_cons]; omega
  · rename_i r
    exact remL_len (63 :: r)
  · exact startL_len dec l
def flushT (L : List TokL) (x : List UInt8) : List TokL := if x = [] then L else L ++ [charsT x]
def addT (L : List TokL) (x : List UInt8) (m : MarkR) : List TokL × List UInt8 := match m.1 with
  | none => (L, x ++ m.2.1)
  | some t => (flushT L x ++ [t], m.2.1)
def scanL (dec : List UInt8 → List UInt8) (L : List TokL) (x : List UInt8) (l : List UInt8) : List TokL :=
  match h : l with
  | [] => flushT L x
  | c :: r =>
    if h2 : 0 < markN (c :: r) then scanL dec L (x ++ dec ((c :: r).take (markN (c :: r)))) ((c :: r).drop (markN (c :: r)))
    else scanL dec (addT L x (markL dec r)).1 (addT L x (markL dec r)).2 (markL dec r).2.2
termination_by l.length
decreasing_by
  · rw [List.length_drop]
    have := markN_le (c :: r)
    simp only [List.length_cons] at this ⊢
    omega
  · have := markL_len dec r
    simp only [List.length_cons]
    omega
theorem scanL_nil (dec : List UInt8 → List UInt8) (L : List TokL) (x : List UInt8) : scanL dec L x [] = flushT L x := by rw [scanL]
theorem scanL_text (dec : List UInt8 → List UInt8) (L : List TokL) (x : List UInt8) {c : UInt8} {r : List UInt8} (h : 0 < markN (c :: r)) :
    scanL dec L x (c :: r) = scanL dec L (x ++ dec ((c :: r).take (markN (c :: r)))) ((c :: r).drop (markN (c :: r))) := by
  rw [scanL, dif_pos h]
theorem scanL_mark (dec : List UInt8 → List UInt8) (L : List TokL) (x : List UInt8) {c : UInt8} {r : List UInt8} (h : isMarkB (c :: r) = true) :
    scanL dec L x (c :: r) = scanL dec (addT L x (markL dec r)).1 (addT L x (markL dec r)).2 (markL dec r).2.2 := by
  have h0 : markN (c :: r) = 0 := by unfold markN; rw [if_pos h]
  rw [scanL, dif_neg (by rw [h0]; exact Nat.lt_irrefl 0)]
end Go.Proofs.YtiejmkjpgjbodaaGreatDoor

namespace Go.Proofs.YtiejmkjpgjbodaaGreatDoor
open Go.RowKit
set_option linter.unusedVariables false
set_option linter.unusedSimpArgs false
def atVals (l : List AtL) : List Value := l.flatMap fun f => [Value.string (str f.1), Value.string (str f.2)]
theorem atVals_at {l : List AtL} {j : Nat} {f : AtL} (h : l[j]? = some f) : (atVals l)[j * 2]? = some (.string (str f.1)) ∧ (atVals l)[j * 2 + 1]? = some (.string (str f.2)) := by
  induction l generalizing j with
  | nil => simp at h
  | cons g r ih =>
    cases j with
    | zero => simp at h; subst h; exact ⟨rfl, rfl⟩
    | succ j =>
      have := ih (j := j) (by simpa using h)
      have e : atVals (g :: r) = Value.string (str g.1) :: Value.string (str g.2) :: atVals r := rfl
      rw [e, show (j + 1) * 2 = j * 2 + 1 + 1 by omega]
      simpa using this
theorem atVals_append (a b : List AtL) : atVals (a ++ b) = atVals a ++ atVals b := by unfold atVals; rw [List.flatMap_append]
def ABuf (B : Nat) (v : Value) (l : List AtL) (W0 w : World) : Prop :=
  w.ownsRow B 43 2 v l.length (atVals l) ∧ Below B W0 w ∧ B ≤ w.heap.size
theorem info_at : (Tryz.prog.info? 43).map (fun i => (i.zero, i.size, i.bytes)) = some (some (.agg #[.string ByteArray.empty, .string ByteArray.empty]), 2, 32) := by kernel_rfl
theorem ABuf.nil {B : Nat} {W0 w : World} (hb : Below B W0 w) (hB : B ≤ w.heap.size) : ABuf B (.slice none 0 0) [] W0 w := ⟨World.ownsRow_nil w B _ 2, hb, hB⟩
theorem ABuf.below {B : Nat} {v : Value} {l : List AtL} {W0 w : World} (h : ABuf B v l W0 w) : Below B W0 w := h.2.1
theorem ABuf.grown {B : Nat} {v v' : Value} {l l' : List AtL} {W0 w w' : World} (h : ABuf B v l W0 w) (ho : w'.ownsRow B 43 2 v' l'.length (atVals l')) (hg : w.grownBy w' v.ownBlock) : ABuf B v' l' W0 w' :=
  ⟨ho, h.2.1.grown hg h.2.2 (fun k hk => (h.1.lt k hk).1), Nat.le_trans h.2.2 hg.size⟩
theorem ABuf.alloc {B : Nat} {v : Value} {l : List AtL} {W0 w : World} (h : ABuf B v l W0 w) (o : Obj) : ABuf B v l W0 (w.alloc o) :=
  ⟨h.1.alloc o, h.2.1.alloc h.2.2 o, Nat.le_trans h.2.2 ((Below.refl 0 w).alloc (Nat.zero_le _) o).size⟩
theorem ABuf.drew {B : Nat} {v : Value} {l : List AtL} {W0 w : World} (h : ABuf B v l W0 w) : ABuf B v l W0 w.drew := ⟨h.1, h.2.1.drew, h.2.2⟩
theorem ABuf.kept {B : Nat} {v : Value} {l : List AtL} {W0 w w' : World} (h : ABuf B v l W0 w) (hb : Below w.heap.size w w') : ABuf B v l W0 w' :=
  ⟨h.1.kept (row := none) ⟨hb.os, hb.tape, hb.output, hb.size, fun k hk _ => hb.block k hk⟩ (by cases hv : v.ownBlock <;> simp), h.2.1.trans (hb.mono h.2.2), Nat.le_trans h.2.2 hb.size⟩
theorem ABuf.slice_len {B : Nat} {v : Value} {l : List AtL} {W0 w : World} (h : ABuf B v l W0 w) : ∃ A c, v = .slice A l.length c := by
  rcases h.1.2 with ⟨rfl, h0⟩ | ⟨g, cap, cur, rfl, _⟩
  · rw [h0]; exact ⟨_, _, rfl⟩
  · exact ⟨_, _, rfl⟩
theorem ABuf.form {B : Nat} {v : Value} {l : List AtL} {W0 w : World} (h : ABuf B v l W0 w) (hl : l ≠ []) : ∃ g cap, v = .slice (some ⟨g, 0, none⟩) l.length cap ∧ B ≤ g := by
  rcases h.1.2 with ⟨rfl, h0⟩ | ⟨g, cap, cur, rfl, hg, _⟩
  · exact absurd (List.eq_nil_of_length_eq_zero h0) hl
  · exact ⟨g, cap, rfl, hg⟩
theorem wpList_ats {ops : Array Oper} {rest : List Oper} {o : Oper} {a : Act} {Q : Exit → Act → World → Prop} {w : World} (hgd : o.guard = none) (s x : Operand)
    (ho : o.op = .call { callee := .builtin .append, args := #[s, x], argTypes := #[31, 31] })
    (B : Nat) (v : Value) (l : List AtL) (hs : a.eval s = v) (W0 : World) (f : AtL) (hb : ABuf B v l W0 w) (ad : Addr)
    (hx : a.eval x = .slice (some ad) 1 1) (h0 : w.cell? (ad.add 0) = some (.string (str f.1))) (h1 : w.cell? (ad.add 1) = some (.string (str f.2))) (hlen : l.length + 1 ≤ 4398046511104)
    (h : ∀ v' w', ABuf B v' (l ++ [f]) W0 w' → wpList Tryz.prog ops Q rest (a.put o.dst v') w') : wpList Tryz.prog ops Q (o :: rest) a w := by
  obtain ⟨i0, hi, hz0, hz1, hz2⟩ := info_parts info_at
  refine wpList_append_own _ hgd s x 31 ho B 43 i0 (.agg #[.string ByteArray.empty, .string ByteArray.empty]) 2 32 Tryz.underlying31 hi hz0 hz1 hz2 rfl (by decide) v l.length (atVals l) hs hb.1 ad 1 1 [.string (str f.1), .string (str f.2)] hx rfl ?_ ?_ (by unfold maxLen; omega) (by omega) hb.2.2 ?_
  · intro j u hj
    match j, hj with
    | 0, hj => simp at hj; subst hj; exact h0
    | 1, hj => simp at hj; subst hj; exact h1
    | (j + 2), hj => simp at hj
  · intro u hu
    simp at hu
    rcases hu with rfl | rfl
    · rfl
    · rfl
  · intro v' w' ho' hg _
    exact h v' w' (hb.grown (l' := l ++ [f]) (by rw [atVals_append, List.length_append]; exact ho') hg)
end Go.Proofs.YtiejmkjpgjbodaaGreatDoor

namespace Go.Proofs.YtiejmkjpgjbodaaGreatDoor
open Go.RowKit
set_option linter.unusedVariables false
set_option linter.unusedSimpArgs false
set_option maxRecDepth 100000
theorem ownsRow_other {w : World} {B : Nat} {e : TypeId} {sz n : Nat} {v : Value} {xs : List Value} (h : w.ownsRow B e sz v n xs) {r : Nat} (hr : ∀ cur, w.heap[r]? ≠ some (.cells cur e (0, 0))) : v.ownBlock ≠ some r := by
  rcases h.2 with ⟨rfl, _⟩ | ⟨g, cap, cur, rfl, hg, hh, _⟩
  · simp [Value.ownBlock]
  · intro e2
    simp [Value.ownBlock] at e2
    subst e2
    exact hr cur hh
theorem ownsRow_diff {w : World} {B B' : Nat} {e e' : TypeId} (he : e ≠ e') {sz sz' n n' : Nat} {v v' : Value} {xs xs' : List Value} (h : w.ownsRow B e sz v n xs) (h' : w.ownsRow B' e' sz' v' n' xs') : v.ownBlock = none ∨ v.ownBlock ≠ v'.ownBlock := by
  rcases h'.2 with ⟨rfl, _⟩ | ⟨g, cap, cur, rfl, hg, hh, _⟩
  · cases hv : v.ownBlock
    · exact .inl rfl
    · exact .inr (by simp [Value.ownBlock])
  · refine .inr ?_
    have := ownsRow_other h (r := g) (fun cur' e2 => by
      rw [hh] at e2
      injection e2 with e2
      injection e2 with _ e2
      exact he e2.symm)
    simpa [Value.ownBlock] using this
theorem ownsRow_down {w : World} {B B' : Nat} {e : TypeId} {sz n : Nat} {v : Value} {xs : List Value} (h : w.ownsRow B e sz v n xs) (hB : B' ≤ B) : w.ownsRow B' e sz v n xs := by
  refine ⟨h.1, ?_⟩
  rcases h.2 with h2 | ⟨g, cap, cur, h1, hg, h3⟩
  · exact .inl h2
  · exact .inr ⟨g, cap, cur, h1, Nat.le_trans hB hg, h3⟩
abbrev TokV := TokL × Value
def tokVals (ls : List TokV) : List Value := ls.flatMap fun p => [.int .i64 (p.1.kind : Int), .string (str p.1.name), p.2, .string (str p.1.text)]
theorem tokVals_append (a b : List TokV) : tokVals (a ++ b) = tokVals a ++ tokVals b := by unfold tokVals; rw [List.flatMap_append]
theorem tokVals_at {l : List TokV} {j : Nat} {p : TokV} (h : l[j]? = some p) : (tokVals l)[j * 4]? = some (.int .i64 (p.1.kind : Int)) ∧ (tokVals l)[j * 4 + 1]? = some (.string (str p.1.name)) ∧ (tokVals l)[j * 4 + 2]? = some p.2 ∧ (tokVals l)[j * 4 + 3]? = some (.string (str p.1.text)) := by
  induction l generalizing j with
  | nil => simp at h
  | cons g r ih =>
    cases j with
    | zero => simp at h; subst h; exact ⟨rfl, rfl, rfl, rfl⟩
    | succ j =>
      have := ih (j := j) (by simpa using h)
      have e : tokVals (g :: r) = .int .i64 (g.1.kind : Int) :: .string (str g.1.name) :: g.2 :: .string (str g.1.text) :: tokVals r := rfl
      rw [e, show (j + 1) * 4 = j * 4 + 1 + 1 + 1 + 1 by omega]
      simpa using this
structure TRow (B : Nat) (v : Value) (ls : List TokV) (w : World) : Prop where
  row : w.ownsRow B 51 4 v ls.length (tokVals ls)
  each : ∀ p ∈ ls, w.ownsRow B 43 2 p.2 p.1.attrs.length (atVals p.1.attrs)
theorem TRow.nil (B : Nat) (w : World) : TRow B (.slice none 0 0) [] w := ⟨World.ownsRow_nil w B _ 4, fun p h => by cases h⟩
theorem TRow.turned {B : Nat} {v : Value} {ls : List TokV} {w w' : World} {row : Option Nat} (h : TRow B v ls w) (hg : w.grownBy w' row)
    (hr : ∀ r, row = some r → ∀ cur, w.heap[r]? ≠ some (.cells cur 51 (0, 0)) ∧ w.heap[r]? ≠ some (.cells cur 43 (0, 0))) : TRow B v ls w' := by
  refine ⟨h.row.kept hg ?_, fun p hp => (h.each p hp).kept hg ?_⟩
  · cases row with
    | none => cases hv : v.ownBlock <;> simp
    | some r => exact .inr (ownsRow_other h.row fun cur => (hr r rfl cur).1)
  · cases row with
    | none => cases hv : p.2.ownBlock <;> simp
    | some r => exact .inr (ownsRow_other (h.each p hp) fun cur => (hr r rfl cur).2)
theorem TRow.kept {B : Nat} {v : Value} {ls : List TokV} {w w' : World} (h : TRow B v ls w) (hb : Below w.heap.size w w') : TRow B v ls w' :=
  h.turned (row := none) ⟨hb.os, hb.tape, hb.output, hb.size, fun k hk _ => hb.block k hk⟩ (fun r e => by cases e)
theorem TRow.alloc {B : Nat} {v : Value} {ls : List TokV} {w : World} (h : TRow B v ls w) (o : Obj) : TRow B v ls (w.alloc o) := h.turned (World.grownBy_alloc w o none) (fun r e => by cases e)
theorem TRow.push {B : Nat} {v v' u : Value} {ls : List TokV} {w w' : World} {t : TokL} (h : TRow B v ls w) (hu : w.ownsRow B 43 2 u t.attrs.length (atVals t.attrs))
    (ho : w'.ownsRow B 51 4 v' (ls.length + 1) (tokVals ls ++ tokVals [(t, u)])) (hg : w.grownBy w' v.ownBlock) : TRow B v' (ls ++ [(t, u)]) w' := by
  refine ⟨by rw [tokVals_append, List.length_append]; exact ho, fun p hp => ?_⟩
  have hne : ∀ {y : Value} {k : Nat} {xs : List Value}, w.ownsRow B 43 2 y k xs → w'.ownsRow B 43 2 y k xs := fun hy => hy.kept hg (ownsRow_diff (by decide) hy h.row)
  rcases List.mem_append.1 hp with hp | hp
  · exact hne (h.each p hp)
  · obtain rfl := List.mem_singleton.1 hp
    exact hne hu
theorem TRow.slice_len {B : Nat} {v : Value} {ls : List TokV} {w : World} (h : TRow B v ls w) : ∃ A c, v = .slice A ls.length c := by
  rcases h.row.2 with ⟨rfl, h0⟩ | ⟨g, cap, cur, rfl, _⟩
  · rw [h0]; exact ⟨_, _, rfl⟩
  · exact ⟨_, _, rfl⟩
theorem info_tok : (Tryz.prog.info? 51).map (fun i => (i.zero, i.size, i.bytes)) = some (some (.agg #[.int .i64 0, .string ByteArray.empty, .slice none 0 0, .string ByteArray.empty]), 4, 64) := by kernel_rfl
end Go.Proofs.YtiejmkjpgjbodaaGreatDoor

namespace Go.Proofs.YtiejmkjpgjbodaaGreatDoor
open Go.RowKit
set_option linter.unusedVariables false
set_option linter.unusedSimpArgs false
set_option maxRecDepth 100000
def AttrsIn (w : World) (v : Value) (l : List AtL) : Prop :=
  (v = .slice none 0 0 ∧ l = []) ∨ ∃ a cap, v = .slice (some a) l.length cap ∧ l.length ≤ cap ∧ cap ≤ maxLen ∧
    ∀ j (f : AtL), l[j]? = some f → w.cell? (a.add (j * 2)) = some (.string (str f.1)) ∧ w.cell? (a.add (j * 2 + 1)) = some (.string (str f.2))
theorem AttrsIn.kept {w w' : World} {v : Value} {l : List AtL} (h : AttrsIn w v l) (hb : Below w.heap.size w w') : AttrsIn w' v l := by
  rcases h with h | ⟨a, cap, h1, h2, h3, h4⟩
  · exact .inl h
  · refine .inr ⟨a, cap, h1, h2, h3, fun j f hj => ?_⟩
    obtain ⟨c1, c2⟩ := h4 j f hj
    exact ⟨(hb.cell (World.block_lt_of_cell? _ _ c1)).trans c1, (hb.cell (World.block_lt_of_cell? _ _ c2)).trans c2⟩
theorem AttrsIn.form {w : World} {v : Value} {l : List AtL} (h : AttrsIn w v l) : ∃ a cap, v = .slice a l.length cap := by
  rcases h with ⟨rfl, rfl⟩ | ⟨a, cap, rfl, _⟩
  · exact ⟨_, _, rfl⟩
  · exact ⟨_, _, rfl⟩
theorem AttrsIn.at {w : World} {A : Option Addr} {n cap : Nat} {l : List AtL} (h : AttrsIn w (.slice A n cap) l) (k : Nat) (f : AtL) (hk : l[k]? = some f) :
    ∃ a, A = some a ∧ w.cell? (a.add (k * 2)) = some (.string (str f.1)) ∧ w.cell? { block := (a.add (k * 2)).block, off := (a.add (k * 2)).off + 1 } = some (.string (str f.2)) := by
  rcases h with ⟨_, rfl⟩ | ⟨a, cap', h1, _, _, h4⟩
  · cases hk
  · injection h1 with h1 _ _
    have e3 : ({ block := (a.add (k * 2)).block, off := (a.add (k * 2)).off + 1 } : Addr) = a.add (k * 2 + 1) := by rw [← Addr.add_add]; rfl
    obtain ⟨c1, c2⟩ := h4 k f hk
    exact ⟨a, h1, c1, by rw [e3]; exact c2⟩
theorem attrs_of_row {B : Nat} {w : World} {v : Value} {l : List AtL} (h : w.ownsRow B 43 2 v l.length (atVals l)) : AttrsIn w v l := by
  rcases h.2 with ⟨rfl, h0⟩ | ⟨g, cap, cur, rfl, hg, hh, h1, h2, h3, h4⟩
  · exact .inl ⟨rfl, List.eq_nil_of_length_eq_zero h0⟩
  · refine .inr ⟨⟨g, 0, none⟩, cap, rfl, h1, h2, fun j f hj => ?_⟩
    obtain ⟨c1, c2⟩ := atVals_at hj
    exact ⟨h.cells (g := g) rfl _ _ c1, h.cells (g := g) rfl _ _ c2⟩
abbrev TokG := Int × TokL
def ToksIn (w : World) (v : Value) (l : List TokG) : Prop :=
  (v = .slice none 0 0 ∧ l = []) ∨ ∃ a cap, v = .slice (some a) l.length cap ∧ l.length ≤ cap ∧ cap ≤ maxLen ∧
    ∀ j (f : TokG), l[j]? = some f → w.cell? (a.add (j * 4)) = some (.int .i64 f.1) ∧ w.cell? (a.add (j * 4 + 1)) = some (.string (str f.2.name)) ∧ w.cell? (a.add (j * 4 + 3)) = some (.string (str f.2.text)) ∧
      ∃ u, w.cell? (a.add (j * 4 + 2)) = some u ∧ AttrsIn w u f.2.attrs
theorem ToksIn.kept {w w' : World} {v : Value} {l : List TokG} (h : ToksIn w v l) (hb : Below w.heap.size w w') : ToksIn w' v l := by
  rcases h with h | ⟨a, cap, h1, h2, h3, h4⟩
  · exact .inl h
  · refine .inr ⟨a, cap, h1, h2, h3, fun j f hj => ?_⟩
    obtain ⟨c1, c2, c3, u, c4, hu⟩ := h4 j f hj
    exact ⟨(hb.cell (World.block_lt_of_cell? _ _ c1)).trans c1, (hb.cell (World.block_lt_of_cell? _ _ c2)).trans c2, (hb.cell (World.block_lt_of_cell? _ _ c3)).trans c3, u, (hb.cell (World.block_lt_of_cell? _ _ c4)).trans c4, hu.kept hb⟩
theorem ToksIn.form {w : World} {v : Value} {l : List TokG} (h : ToksIn w v l) : ∃ a cap, v = .slice a l.length cap := by
  rcases h with ⟨rfl, rfl⟩ | ⟨a, cap, rfl, _⟩
  · exact ⟨_, _, rfl⟩
  · exact ⟨_, _, rfl⟩
theorem ToksIn.at {w : World} {A : Option Addr} {n cap : Nat} {l : List TokG} (h : ToksIn w (.slice A n cap) l) (k : Nat) (f : TokG) (hk : l[k]? = some f) :
    ∃ a d y, A = some a ∧ w.cell? (a.add (k * 4)) = some (.int .i64 f.1) ∧ w.cell? { block := (a.add (k * 4)).block, off := (a.add (k * 4)).off + 1 } = some (.string (str f.2.name)) ∧ w.cell? { block := (a.add (k * 4)).block, off := (a.add (k * 4)).off + 3 } = some (.string (str f.2.text)) ∧
      w.cell? { block := (a.add (k * 4)).block, off := (a.add (k * 4)).off + 2 } = some (.slice d f.2.attrs.length y) ∧ AttrsIn w (.slice d f.2.attrs.length y) f.2.attrs := by
  rcases h with ⟨_, rfl⟩ | ⟨a, cap', h1, _, _, h4⟩
  · cases hk
  · injection h1 with h1 _ _
    have e1 : ({ block := (a.add (k * 4)).block, off := (a.add (k * 4)).off + 1 } : Addr) = a.add (k * 4 + 1) := by rw [← Addr.add_add]; rfl
    have e2 : ({ block := (a.add (k * 4)).block, off := (a.add (k * 4)).off + 2 } : Addr) = a.add (k * 4 + 2) := by rw [← Addr.add_add]; rfl
    have e3 : ({ block := (a.add (k * 4)).block, off := (a.add (k * 4)).off + 3 } : Addr) = a.add (k * 4 + 3) := by rw [← Addr.add_add]; rfl
    obtain ⟨c1, c2, c3, u, c4, hu⟩ := h4 k f hk
    obtain ⟨d, y, rfl⟩ := hu.form
    exact ⟨a, d, y, h1, c1, by rw [e1]; exact c2, by rw [e3]; exact c3, by rw [e2]; exact c4, hu⟩
def gOf (t : TokL) : TokG := ((t.kind : Int), t)
theorem TRow.in {B : Nat} {v : Value} {ls : List TokV} {w : World} (h : TRow B v ls w) : ToksIn w v ((ls.map Prod.fst).map gOf) := by
  rcases h.row.2 with ⟨rfl, h0⟩ | ⟨g, cap, cur, rfl, hg, hh, h1, h2, h3, h4⟩
  · exact .inl ⟨rfl, by rw [List.eq_nil_of_length_eq_zero h0]; rfl⟩
  · refine .inr ⟨⟨g, 0, none⟩, cap, by simp, by simpa using h1, h2, fun j f hj => ?_⟩
    rw [List.map_map, List.getElem?_map] at hj
    obtain ⟨p, hp, rfl⟩ := Option.map_eq_some_iff.1 hj
    obtain ⟨c1, c2, c3, c4⟩ := tokVals_at hp
    have hc : ∀ (i : Nat) (x : Value), (tokVals ls)[i]? = some x → w.cell? ((⟨g, 0, none⟩ : Addr).add i) = some x := fun i x hx => h.row.cells (g := g) rfl _ _ hx
    exact ⟨hc _ _ c1, hc _ _ c2, hc _ _ c4, p.2, hc _ _ c3, attrs_of_row (h.each p (List.mem_of_getElem? hp))⟩
end Go.Proofs.YtiejmkjpgjbodaaGreatDoor

namespace Go.Proofs.YtiejmkjpgjbodaaGreatDoor
open Go.RowKit
set_option linter.unusedVariables false
set_option linter.unusedSimpArgs false
set_option maxRecDepth 100000
def AttrsC (C : Nat → Prop) (w : World) (v : Value) (l : List AtL) : Prop :=
  AttrsIn w v l ∧ ∀ a n c, v = .slice (some a) n c → l ≠ [] → C a.block
def NodesAt (C : Nat → Prop) (w : World) : Tr → Addr → Prop
  | .nil, _ => True
  | .cons h k r, a =>
    C a.block ∧ w.cell? a = some (.string (str h.name)) ∧ w.cell? (a.add 2) = some (.string (str h.text)) ∧
    (∃ u, w.cell? (a.add 1) = some u ∧ AttrsC C w u h.attrs) ∧
    (∃ v, w.cell? (a.add 3) = some v ∧ ((v = .slice none 0 0 ∧ k = .nil) ∨ ∃ a' cap, v = .slice (some a') k.len cap ∧ k.len ≤ cap ∧ cap ≤ maxLen ∧ NodesAt C w k a')) ∧
    NodesAt C w r (a.add 4)
def NodesC (C : Nat → Prop) (w : World) (v : Value) (t : Tr) : Prop :=
  (v = .slice none 0 0 ∧ t = .nil) ∨ ∃ a cap, v = .slice (some a) t.len cap ∧ t.len ≤ cap ∧ cap ≤ maxLen ∧ NodesAt C w t a
def NodesIn (w : World) (v : Value) (t : Tr) : Prop := NodesC (fun b => b < w.heap.size) w v t
theorem cell_same {w w' : World} {C : Nat → Prop} (hk : ∀ b, C b → w'.heap[b]? = w.heap[b]?) {a : Addr} (h : C a.block) : w'.cell? a = w.cell? a := World.cell?_of_block (hk _ h)
theorem addr_add_block (a : Addr) (n : Nat) : (a.add n).block = a.block := by unfold Addr.add; split <;> rfl
theorem AttrsC.mono {C C' : Nat → Prop} {w w' : World} {v : Value} {l : List AtL} (h : AttrsC C w v l) (hk : ∀ b, C b → w'.heap[b]? = w.heap[b]?) (hC : ∀ b, C b → C' b) : AttrsC C' w' v l := by
  refine ⟨?_, fun a n c e hl => hC _ (h.2 a n c e hl)⟩
  rcases h.1 with ⟨h1, h2⟩ | ⟨a, cap, rfl, h2, h3, h4⟩
  · exact .inl ⟨h1, h2⟩
  · refine .inr ⟨a, cap, rfl, h2, h3, fun j f hj => ?_⟩
    have hc := h.2 a _ _ rfl (fun e => by rw [e] at hj; cases hj)
    obtain ⟨c1, c2⟩ := h4 j f hj
    exact ⟨(cell_same hk (by rw [addr_add_block]; exact hc)).trans c1, (cell_same hk (by rw [addr_add_block]; exact hc)).trans c2⟩
theorem NodesAt.mono {C C' : Nat → Prop} {w w' : World} (hk : ∀ b, C b → w'.heap[b]? = w.heap[b]?) (hC : ∀ b, C b → C' b) {t : Tr} {a : Addr} (h : NodesAt C w t a) : NodesAt C' w' t a := by
  induction t generalizing a with
  | nil => trivial
  | cons p k r ihk ihr =>
    obtain ⟨h0, h1, h2, ⟨u, h3, h4⟩, ⟨v, h5, h6⟩, h7⟩ := h
    refine ⟨hC _ h0, (cell_same hk h0).trans h1, (cell_same hk (by rw [addr_add_block]; exact h0)).trans h2, ⟨u, (cell_same hk (by rw [addr_add_block]; exact h0)).trans h3, h4.mono hk hC⟩, ⟨v, (cell_same hk (by rw [addr_add_block]; exact h0)).trans h5, ?_⟩, ihr h7⟩
    rcases h6 with h6 | ⟨a', cap, e1, e2, e3, e4⟩
    · exact .inl h6
    · exact .inr ⟨a', cap, e1, e2, e3, ihk e4⟩
theorem NodesC.mono {C C' : Nat → Prop} {w w' : World} {v : Value} {t : Tr} (h : NodesC C w v t) (hk : ∀ b, C b → w'.heap[b]? = w.heap[b]?) (hC : ∀ b, C b → C' b) : NodesC C' w' v t := by
  rcases h with h | ⟨a, cap, h1, h2, h3, h4⟩
  · exact .inl h
  · exact .inr ⟨a, cap, h1, h2, h3, h4.mono hk hC⟩
theorem NodesIn.kept {w w' : World} {v : Value} {t : Tr} (h : NodesIn w v t) (hb : Below w.heap.size w w') : NodesIn w' v t :=
  NodesC.mono h (fun b hlt => hb.block b hlt) (fun b hlt => Nat.lt_of_lt_of_le hlt hb.size)
theorem NodesC.form {C : Nat → Prop} {w : World} {v : Value} {t : Tr} (h : NodesC C w v t) : ∃ a cap, v = .slice a t.len cap := by
  rcases h with ⟨rfl, rfl⟩ | ⟨a, cap, rfl, _⟩
  · exact ⟨_, _, rfl⟩
  · exact ⟨_, _, rfl⟩
theorem NodesC.cap {C : Nat → Prop} {w : World} {A : Option Addr} {n c : Nat} {t : Tr} (h : NodesC C w (.slice A n c) t) : n = t.len ∧ n ≤ c ∧ c ≤ maxLen := by
  rcases h with ⟨h1, rfl⟩ | ⟨a, cap, h1, h2, h3, h4⟩
  · injection h1 with _ h2 h3; subst h2 h3; exact ⟨rfl, Nat.le_refl _, Nat.zero_le _⟩
  · injection h1 with _ e2 e3; subst e2 e3; exact ⟨rfl, h2, h3⟩
theorem NodesAt.drop {C : Nat → Prop} {w : World} {t : Tr} {a : Addr} (h : NodesAt C w t a) (n : Nat) (hn : n ≤ t.len) : NodesAt C w (Tr.drop n t) (a.add (n * 4)) := by
  induction n generalizing t a with
  | zero => rw [Nat.zero_mul, Addr.add_zero']; exact h
  | succ n ih => cases t with
    | nil => exact absurd hn (Nat.not_succ_le_zero _)
    | cons p k r =>
      have := ih (t := r) h.2.2.2.2.2 (by simp only [Tr.len] at hn; omega)
      rw [Addr.add_add] at this
      rw [show (n + 1) * 4 = 4 + n * 4 by omega]
      exact this
theorem NodesC.at {C : Nat → Prop} {w : World} {A : Option Addr} {n cap : Nat} {t : Tr} (h : NodesC C w (.slice A n cap) t) (k : Nat) (p : NdH) (K : Tr) (hk : t.list[k]? = some (p, K)) :
    ∃ a d x y z m, A = some a ∧ C a.block ∧ w.cell? (a.add (k * 4)) = some (.string (str p.name)) ∧ w.cell? { block := (a.add (k * 4)).block, off := (a.add (k * 4)).off + 1 } = some (.slice d p.attrs.length y) ∧ AttrsC C w (.slice d p.attrs.length y) p.attrs ∧
      w.cell? { block := (a.add (k * 4)).block, off := (a.add (k * 4)).off + 2 } = some (.string (str p.text)) ∧ w.cell? { block := (a.add (k * 4)).block, off := (a.add (k * 4)).off + 3 } = some (.slice x m z) ∧ m = K.len ∧ NodesC C w (.slice x m z) K := by
  have hlt : k < t.len := by
    rw [← Tr.len_list]
    rcases Nat.lt_or_ge k t.list.length with h1 | h1
    · exact h1
    · rw [List.getElem?_eq_none h1] at hk; cases hk
  rcases h with ⟨_, rfl⟩ | ⟨a, cap', h1, _, _, h4⟩
  · cases hk
  · injection h1 with h1 _ _
    have hd := h4.drop k (Nat.le_of_lt hlt)
    obtain ⟨p', K', he, hp⟩ := Tr.drop_cons k t hlt
    rw [hk] at hp
    injection hp with hp
    obtain ⟨rfl, rfl⟩ : p = p' ∧ K = K' := by injection hp with e1 e2; exact ⟨e1, e2⟩
    rw [he] at hd
    obtain ⟨g0, g1, g2, ⟨u, g3, g4⟩, ⟨v, g5, g6⟩, _⟩ := hd
    have e1 : ({ block := (a.add (k * 4)).block, off := (a.add (k * 4)).off + 1 } : Addr) = (a.add (k * 4)).add 1 := by rfl
    have e2 : ({ block := (a.add (k * 4)).block, off := (a.add (k * 4)).off + 2 } : Addr) = (a.add (k * 4)).add 2 := by rfl
    have e3 : ({ block := (a.add (k * 4)).block, off := (a.add (k * 4)).off + 3 } : Addr) = (a.add (k * 4)).add 3 := by rfl
    obtain ⟨d, y, rfl⟩ := g4.1.form
    have hN : NodesC C w v K := g6
    obtain ⟨x, z, rfl⟩ := hN.form
    exact ⟨a, d, x, y, z, _, h1, by rw [addr_add_block] at g0; exact g0, g1, by rw [e1]; exact g3, g4, by rw [e2]; exact g2, by rw [e3]; exact g5, rfl, hN⟩
end Go.Proofs.YtiejmkjpgjbodaaGreatDoor

namespace Go.Proofs.YtiejmkjpgjbodaaGreatDoor
open Go.RowKit
set_option linter.unusedVariables false
set_option linter.unusedSimpArgs false
set_option maxRecDepth 100000
def voidL : List (List UInt8) := [[97, 114, 101, 97], [98, 97, 115, 101], [98, 114], [99, 111, 108], [101, 109, 98, 101, 100], [104, 114], [105, 109, 103], [105, 110, 112, 117, 116], [108, 105, 110, 107], [109, 101, 116, 97], [115, 111, 117, 114, 99, 101], [116, 114, 97, 99, 107], [119, 98, 114]]
def blockNL : List (List UInt8) := [[97, 100, 100, 114, 101, 115, 115], [97, 114, 116, 105, 99, 108, 101], [97, 115, 105, 100, 101], [98, 108, 111, 99, 107, 113, 117, 111, 116, 101], [99, 101, 110, 116, 101, 114], [100, 101, 116, 97, 105, 108, 115], [100, 105, 118], [100, 108], [102, 105, 101, 108, 100, 115, 101, 116], [102, 105, 103, 117, 114, 101], [102, 111, 111, 116, 101, 114], [102, 111, 114, 109], [104, 101, 97, 100, 101, 114], [104, 114], [108, 105], [109, 97, 105, 110], [110, 97, 118], [111, 108], [112], [112, 114, 101], [115, 101, 99, 116, 105, 111, 110], [116, 97, 98, 108, 101], [117, 108], [100, 100], [100, 116], [104, 49], [104, 50], [104, 51], [104, 52], [104, 53], [104, 54]]
def wallL : List (List UInt8) := [[116, 97, 98, 108, 101], [98, 117, 116, 116, 111, 110], [117, 108], [111, 108], [100, 108], [115, 118, 103], [109, 97, 116, 104], [116, 101, 109, 112, 108, 97, 116, 101], [111, 98, 106, 101, 99, 116], [97, 112, 112, 108, 101, 116], [109, 97, 114, 113, 117, 101, 101]]
def headNL : List (List UInt8) := [[104, 49], [104, 50], [104, 51], [104, 52], [104, 53], [104, 54]]
def sameL : List (List UInt8) := [[108, 105], [97], [111, 112, 116, 105, 111, 110], [116, 114], [110, 111, 98, 114], [98, 117, 116, 116, 111, 110]]
def voidB (n : List UInt8) : Bool := voidL.contains n
def wallB (n : List UInt8) : Bool := wallL.contains n
def blockNB (n : List UInt8) : Bool := blockNL.contains n
def headNB (n : List UInt8) : Bool := headNL.contains n
def closesB (n o : List UInt8) : Bool :=
  if o = [112] then blockNB n
  else if o = [100, 100] ∨ o = [100, 116] then decide (n = [100, 100] ∨ n = [100, 116])
  else if o = [116, 100] ∨ o = [116, 104] then decide (n = [116, 100] ∨ n = [116, 104] ∨ n = [116, 114])
  else if sameL.contains o then decide (n = o)
  else headNB o && headNB n
structure PartL where
  name : List UInt8
  attrs : List AtL
  kids : List (NdH × Tr)
  tail : List UInt8
deriving DecidableEq
def rootL : PartL := ⟨[], [], [], []⟩
def textNd (x : List UInt8) : NdH × Tr := (⟨[], [], x⟩, .nil)
def endTextL (p : PartL) : PartL := if p.tail = [] then p else { p with kids := p.kids ++ [textNd p.tail], tail := [] }
def PartL.node (p : PartL) : NdH × Tr := (⟨p.name, p.attrs, []⟩, Tr.of p.kids)
def closeTop : List PartL → List PartL
  | p :: q :: r => { q with kids := q.kids ++ [(endTextL p).node] } :: r
  | st => st
def closeN : Nat → List PartL → List PartL
  | 0, st => st
  | n + 1, st => closeN n (closeTop st)
def findP (is : List UInt8 → Bool) : List PartL → Option Nat
  | p :: q :: r => if is p.name = true then some 1 else if wallB p.name = true then none else (findP is (q :: r)).map (· + 1)
  | _ => none
def closeAll (is : List UInt8 → Bool) : Nat → List PartL → List PartL
  | 0, st => st
  | f + 1, st => match findP is st with
    | none => st
    | some n => closeAll is f (closeN n st)
abbrev BsL := List PartL × Nat
def charsP (x : List UInt8) (s : BsL) : BsL := match s.1 with
  | [] => s
  | p :: r => if p.tail = [] then (if s.2 = 5000 then s else ({ p with tail := x } :: r, s.2 + 1)) else ({ p with tail := p.tail ++ x } :: r, s.2)
def putP (t : TokL) (st : List PartL) (n : Nat) : BsL := match st with
  | [] => (st, n)
  | p :: r => if voidB t.name = true ∨ 30 < st.length then ({ endTextL p with kids := (endTextL p).kids ++ [(⟨t.name, t.attrs, []⟩, Tr.nil)] } :: r, n + 1)
    else (⟨t.name, t.attrs, [], []⟩ :: endTextL p :: r, n + 1)
def startP (t : TokL) (s : BsL) : BsL :=
  if s.2 = 5000 then (closeAll (closesB t.name) s.1.length s.1, s.2) else putP t (closeAll (closesB t.name) s.1.length s.1) s.2
def endP (n : List UInt8) (s : BsL) : BsL := match findP (fun o => o == n) s.1 with
  | none => s
  | some k => (closeN k s.1, s.2)
def tokB (s : BsL) (t : TokL) : BsL := if t.kind = 1 then charsP t.text s else if t.kind = 2 then startP t s else if t.kind = 3 then endP t.name s else s
def endTree (st : List PartL) : Tr := match closeN (st.length - 1) st with
  | p :: _ => Tr.of (endTextL p).kids
  | [] => .nil
def buildP (L : List TokL) : Tr := endTree (L.foldl tokB ([rootL], 0)).1
theorem closeTop_length (st : List PartL) : (closeTop st).length = if 2 ≤ st.length then st.length - 1 else st.length := by
  match st with
  | [] => rfl
  | [p] => rfl
  | p :: q :: r => simp [closeTop]
theorem closeN_length (n : Nat) (st : List PartL) (h : n < st.length) : (closeN n st).length = st.length - n := by
  induction n generalizing st with
  | zero => rfl
  | succ n ih =>
    rw [closeN, ih _ (by rw [closeTop_length, if_pos (by omega)]; omega), closeTop_length, if_pos (by omega)]; omega
theorem findP_lt {is : List UInt8 → Bool} {st : List PartL} {n : Nat} (h : findP is st = some n) : 0 < n ∧ n < st.length := by
  induction st generalizing n with
  | nil => cases h
  | cons p r ih => cases r with
    | nil => cases h
    | cons q r =>
      simp only [findP] at h
      split at h
      · injection h with h; subst h; simp
      · split at h
        · cases h
        · obtain ⟨m, h1, rfl⟩ := Option.map_eq_some_iff.1 h
          have := ih h1
          simp only [List.length_cons] at this ⊢; omega
theorem closeAll_length (is : List UInt8 → Bool) (f : Nat) (st : List PartL) : (closeAll is f st).length ≤ st.length ∧ (st ≠ [] → closeAll is f st ≠ []) := by
  induction f generalizing st with
  | zero => exact ⟨Nat.le_refl _, id⟩
  | succ f ih =>
    rw [closeAll]
    split
    · exact ⟨Nat.le_refl _, id⟩
    · rename_i n h
      obtain ⟨h1, h2⟩ := findP_lt h
      have h3 := closeN_length n st h2
      have h4 := ih (closeN n st)
      refine ⟨by omega, fun _ => h4.2 (fun e => by rw [e] at h3; simp only [List.length_nil] at h3; omega)⟩
theorem closeAll_more (is : List UInt8 → Bool) (f g : Nat) (st : List PartL) (h : st.length ≤ f + 1) (hg : f ≤ g) : closeAll is g st = closeAll is f st := by
  induction f generalizing g st with
  | zero =>
    have hn : findP is st = none := by
      match st, h with
      | [], _ => rfl
      | [p], _ => rfl
    cases g with
    | zero => rfl
    | succ g => simp only [closeAll, hn]
  | succ f ih =>
    obtain ⟨g, rfl⟩ : ∃ g', g = g' + 1 := ⟨g - 1, by omega⟩
    rw [closeAll, closeAll]
    cases hn : findP is st with
    | none => rfl
    | some n =>
      obtain ⟨h1, h2⟩ := findP_lt hn
      exact ih g _ (by rw [closeN_length n st h2]; omega) (by omega)
theorem closeAll_step {is : List UInt8 → Bool} {st : List PartL} {n : Nat} (h : findP is st = some n) : closeAll is st.length st = closeAll is (closeN n st).length (closeN n st) := by
  obtain ⟨h1, h2⟩ := findP_lt h
  have h3 := closeN_length n st h2
  obtain ⟨k, hk⟩ : ∃ k, st.length = k + 1 := ⟨st.length - 1, by omega⟩
  rw [hk, closeAll, h]
  exact closeAll_more is _ _ _ (by omega) (by omega)
theorem closeAll_none {is : List UInt8 → Bool} {st : List PartL} (h : findP is st = none) : closeAll is st.length st = st := by
  cases hl : st.length with
  | zero => rfl
  | succ k => rw [closeAll, h]
end Go.Proofs.YtiejmkjpgjbodaaGreatDoor

namespace Go.Proofs.YtiejmkjpgjbodaaGreatDoor
open Go.RowKit
set_option linter.unusedVariables false
set_option linter.unusedSimpArgs false
set_option maxRecDepth 100000
def kidsW (l : List (NdH × Tr)) : Nat := (Tr.of l).count
theorem kidsW_append (a b : List (NdH × Tr)) : kidsW (a ++ b) = kidsW a + kidsW b := by
  induction a with
  | nil => simp [kidsW, Tr.of, Tr.count]
  | cons p r ih => obtain ⟨h, k⟩ := p; simp only [kidsW, List.cons_append, Tr.of, Tr.count] at ih ⊢; omega
theorem kidsW_len (l : List (NdH × Tr)) : l.length ≤ kidsW l := by rw [← Tr.len_of]; exact Tr.len_count _
def tailW (x : List UInt8) : Nat := if x = [] then 0 else 1
def PartL.wt (p : PartL) : Nat := kidsW p.kids + tailW p.tail
def stW : List PartL → Nat
  | [] => 0
  | [p] => p.wt
  | p :: r => p.wt + 1 + stW r
theorem stW_cons (p q : PartL) (r : List PartL) : stW (p :: q :: r) = p.wt + 1 + stW (q :: r) := rfl
theorem endText_wt (p : PartL) : (endTextL p).wt = p.wt := by
  unfold endTextL
  split
  · rfl
  · rename_i h
    simp only [PartL.wt, kidsW_append, tailW, if_neg h, if_true]
    simp [kidsW, textNd, Tr.of, Tr.count]
theorem endText_tail (p : PartL) : (endTextL p).tail = [] := by unfold endTextL; split <;> first | assumption | rfl
theorem endText_kids_wt (p : PartL) : kidsW (endTextL p).kids = p.wt := by
  have := endText_wt p
  rw [← this, PartL.wt, endText_tail]; rfl
theorem node_wt (p : PartL) : kidsW [p.node] = 1 + kidsW p.kids := by simp [kidsW, PartL.node, Tr.of, Tr.count]
theorem closeTop_wt (st : List PartL) : stW (closeTop st) = stW st := by
  match st with
  | [] => rfl
  | [p] => rfl
  | p :: q :: r =>
    have h1 : ({ q with kids := q.kids ++ [(endTextL p).node] } : PartL).wt = q.wt + (1 + p.wt) := by
      simp only [PartL.wt, kidsW_append, node_wt, endText_kids_wt]
      omega
    cases r with
    | nil => show PartL.wt _ = p.wt + 1 + q.wt; rw [h1]; omega
    | cons x y => show PartL.wt _ + 1 + stW (x :: y) = p.wt + 1 + (q.wt + 1 + stW (x :: y)); rw [h1]; omega
theorem closeN_wt (n : Nat) (st : List PartL) : stW (closeN n st) = stW st := by
  induction n generalizing st with
  | zero => rfl
  | succ n ih => rw [closeN, ih, closeTop_wt]
theorem closeAll_wt (is : List UInt8 → Bool) (f : Nat) (st : List PartL) : stW (closeAll is f st) = stW st := by
  induction f generalizing st with
  | zero => rfl
  | succ f ih =>
    rw [closeAll]
    split
    · rfl
    · rw [ih, closeN_wt]
theorem stW_head {p p' : PartL} (r : List PartL) (k : Nat) (h : p'.wt = p.wt + k) : stW (p' :: r) = stW (p :: r) + k := by
  cases r with
  | nil => exact h
  | cons q r => rw [stW_cons, stW_cons, h]; omega
theorem putP_cons (t : TokL) (p : PartL) (r : List PartL) (n : Nat) : putP t (p :: r) n = if voidB t.name = true ∨ 30 < (p :: r).length then ({ endTextL p with kids := (endTextL p).kids ++ [(⟨t.name, t.attrs, []⟩, Tr.nil)] } :: r, n + 1)
    else (⟨t.name, t.attrs, [], []⟩ :: endTextL p :: r, n + 1) := rfl
theorem charsP_cons (x : List UInt8) (p : PartL) (r : List PartL) (n : Nat) : charsP x (p :: r, n) = if p.tail = [] then (if n = 5000 then (p :: r, n) else ({ p with tail := x } :: r, n + 1)) else ({ p with tail := p.tail ++ x } :: r, n) := rfl
theorem put_wt (t : TokL) (st : List PartL) (n : Nat) (hs : st ≠ []) : stW (putP t st n).1 = stW st + 1 ∧ (putP t st n).2 = n + 1 ∧ (putP t st n).1 ≠ [] ∧ (putP t st n).1.length ≤ max st.length 31 := by
  match st, hs with
  | p :: r, _ =>
    rw [putP_cons]
    split
    · refine ⟨?_, rfl, by simp, by simp only [List.length_cons]; omega⟩
      refine stW_head r 1 ?_
      have := endText_wt p
      unfold PartL.wt at this ⊢
      rw [kidsW_append, ← this]
      simp only [kidsW, Tr.of, Tr.count]; omega
    · rename_i hc
      refine ⟨?_, rfl, by simp, by simp only [not_or, List.length_cons] at hc ⊢; omega⟩
      show stW (⟨t.name, t.attrs, [], []⟩ :: endTextL p :: r) = _
      rw [stW_cons, stW_head (p := p) r 0 (by rw [endText_wt]; rfl)]
      simp [PartL.wt, kidsW, tailW, Tr.of, Tr.count]; omega
def OkS (s : BsL) : Prop := s.1 ≠ [] ∧ stW s.1 ≤ s.2 ∧ s.2 ≤ 5000 ∧ s.1.length ≤ 31
theorem tok_ok {s : BsL} (h : OkS s) (t : TokL) : OkS (tokB s t) ∧ (tokB s t).2 ≤ s.2 + 1 := by
  obtain ⟨st, n⟩ := s
  obtain ⟨h1, h2, h3, h4⟩ := h
  simp only at h1 h2 h3 h4
  unfold tokB
  split
  · match st, h1 with
    | p :: r, h1 =>
      rw [charsP_cons]
      split
      · rename_i ht
        split
        · exact ⟨⟨h1, h2, h3, h4⟩, Nat.le_succ _⟩
        · rename_i hn
          refine ⟨⟨by simp, ?_, by simp only; omega, h4⟩, Nat.le_refl _⟩
          have : stW ({ p with tail := t.text } :: r) = stW (p :: r) + tailW t.text := stW_head r _ (by simp [PartL.wt, ht, tailW])
          rw [this]
          have : tailW t.text ≤ 1 := by unfold tailW; split <;> omega
          omega
      · rename_i ht
        refine ⟨⟨by simp, ?_, h3, h4⟩, Nat.le_succ _⟩
        have : stW ({ p with tail := p.tail ++ t.text } :: r) = stW (p :: r) + 0 := stW_head r _ (by simp [PartL.wt, ht, tailW])
        rw [this]; exact h2
  · split
    · unfold startP
      simp only
      have g1 := closeAll_wt (closesB t.name) st.length st
      have g2 := closeAll_length (closesB t.name) st.length st
      split
      · exact ⟨⟨g2.2 h1, by rw [g1]; exact h2, h3, Nat.le_trans g2.1 h4⟩, Nat.le_succ _⟩
      · rename_i hn
        obtain ⟨p1, p2, p3, p4⟩ := put_wt t (closeAll (closesB t.name) st.length st) n (g2.2 h1)
        refine ⟨⟨p3, ?_, by rw [p2]; omega, by omega⟩, by rw [p2]; exact Nat.le_refl _⟩
        rw [p1, p2, g1]; omega
    · split
      · unfold endP
        simp only
        split
        · exact ⟨⟨h1, h2, h3, h4⟩, Nat.le_succ _⟩
        · rename_i k hk
          obtain ⟨k1, k2⟩ := findP_lt hk
          have := closeN_length k st k2
          exact ⟨⟨fun e => by have e : closeN k st = [] := e; rw [e] at this; simp only [List.length_nil] at this; omega, by simp only [closeN_wt]; exact h2, h3, by simp only; omega⟩, Nat.le_succ _⟩
      · exact ⟨⟨h1, h2, h3, h4⟩, Nat.le_succ _⟩
theorem ok_root : OkS ([rootL], 0) := ⟨by simp, Nat.le_refl _, by omega, by simp⟩
theorem fold_ok (L : List TokL) {s : BsL} (h : OkS s) : OkS (L.foldl tokB s) ∧ (L.foldl tokB s).2 ≤ s.2 + L.length := by
  induction L generalizing s with
  | nil => exact ⟨h, Nat.le_refl _⟩
  | cons t r ih =>
    obtain ⟨a, b⟩ := tok_ok h t
    obtain ⟨c, d⟩ := ih a
    exact ⟨c, by simp only [List.foldl_cons, List.length_cons]; omega⟩
end Go.Proofs.YtiejmkjpgjbodaaGreatDoor

namespace Go.Proofs.YtiejmkjpgjbodaaGreatDoor
open Go.RowKit
set_option linter.unusedVariables false
set_option linter.unusedSimpArgs false
set_option maxRecDepth 100000
def rightB : Nat → Bool → Tr → Bool
  | _, _, .nil => true
  | d, pt, .cons h k r => decide (d ≠ 0) && ((if h.name = [] then decide (h.text ≠ [] ∧ k = .nil ∧ h.attrs = [] ∧ pt = false) else decide (h.text = [] ∧ (k = .nil ∨ voidB h.name = false))) &&
      (rightB (d - 1) false k && rightB d (decide (h.name = [])) r))
def lastT : Bool → List (NdH × Tr) → Bool
  | pt, [] => pt
  | _, p :: r => lastT (decide (p.1.name = [])) r
def shutB (n : List UInt8) : List (List UInt8) → Bool
  | [] => false
  | o :: r => closesB n o || (!wallB o && shutB n r)
def insB : List (List UInt8) → Tr → Bool
  | _, .nil => false
  | op, .cons h k r => (if h.name = [] then false else shutB h.name op || insB (h.name :: op) k) || insB op r
def pathN : List PartL → List (List UInt8)
  | p :: q :: r => p.name :: pathN (q :: r)
  | _ => []
end Go.Proofs.YtiejmkjpgjbodaaGreatDoor

namespace Go.Proofs.YtiejmkjpgjbodaaGreatDoor
open Go.RowKit
set_option linter.unusedVariables false
set_option linter.unusedSimpArgs false
set_option maxRecDepth 100000
section
variable {P : Program} (w : World)
theorem run_append_own2 (base : Nat) (t ty e : TypeId) (i : TypeInfo) (z : Value) (size bytes : Nat) (ht : P.underlying t = some (.slice e)) (hi : P.info? e = some i) (hz : i.zero = some z)
    (hsize : i.size = size) (hby : i.bytes = bytes) (hzs : z.cells.size = size) (hsz : 0 < size)
    (v : Value) (n : Nat) (xs : List Value) (hown : w.ownsRow base e size v n xs)
    (a : Addr) (m c : Nat) (news : List Value) (hl : news.length = m * size) (hnews : ∀ j u, news[j]? = some u → w.cell? (a.add j) = some u) (h1 : ∀ u ∈ news, u.oneCell' = true)
    (h63 : n + m ≤ maxLen) (hbytes : (n + m) * bytes ≤ 140737488355328) (hbase : base ≤ w.heap.size) :
    ∃ v' w', (Builtin.append_ #[t, t] ty #[v, .slice (some a) m c]).run P w = .ok v' w' ∧ w'.ownsRow base e size v' (n + m) (xs ++ news) ∧ w.grownBy w' v.ownBlock ∧
      (v'.ownBlock = v.ownBlock ∨ v'.ownBlock = some w.heap.size) := by
  obtain ⟨v', w', hr, h2, h3, _⟩ := run_append_own (P := P) w base t ty e i z size bytes ht hi hz hsize hby hzs hsz v n xs hown a m c news hl hnews h1 h63 hbytes hbase
  refine ⟨v', w', hr, h2, h3, ?_⟩
  have hsmall : n + m ≤ 9223372036854775807 := by simp only [maxLen] at h63; omega
  subst hsize hby
  rcases hown.2 with ⟨rfl, rfl⟩ | ⟨g, cap, cur, rfl, hbg, hg, hnc, hcm, hcs, htake⟩
  · rcases Nat.eq_zero_or_pos m with hm | hm
    · left
      have hx : w'.ownsRow base e i.size v' 0 (xs ++ news) := by simpa [hm] using h2
      rcases hx.2 with ⟨rfl, _⟩ | ⟨g, cap, cur, rfl, _⟩
      · rfl
      · exfalso
        subst hm
        have hn : news = [] := List.eq_nil_of_length_eq_zero (by simpa using hl)
        subst hn
        simp [Builtin.append_, run_underlying ht, sizeOf, typeInfo, hi, Builtin.lenOf, Builtin.firstCells, loadCells, loadCellsFrom] at hr
    · have hr2 := run_append_nil (P := P) w t ty e i z ht hi hz a m c news hl hnews hm (by omega) (by simp only [Nat.zero_add] at hbytes; omega)
      rw [hr] at hr2
      injection hr2 with e1 e2
      subst e1
      exact .inr rfl
  · by_cases hroom : n + m ≤ cap
    · obtain ⟨w2, hr2, _⟩ := run_append_fits (P := P) w base t ty e i i.size ht hi rfl g n cap xs hown a m c news hl hnews h1 hroom
      rw [hr] at hr2
      injection hr2 with e1 e2
      subst e1
      exact .inl rfl
    · have holds : ∀ j u, xs[j]? = some u → w.cell? ((⟨g, 0, none⟩ : Addr).add j) = some u := hown.cells (g := g) rfl
      have hr2 := run_append_grow (P := P) w t ty e i z ht hi hz ⟨g, 0, none⟩ n cap xs hown.1 holds a m c news hl hnews (by omega) (by omega) (growslice_fits (by omega) hbytes)
      rw [hr] at hr2
      injection hr2 with e1 e2
      subst e1
      exact .inr rfl
theorem wp_append_own2 {o : Oper} {a : Act} {K : Act → World → Prop} {Q : Exit → Act → World → Prop} (s x : Operand) (t : TypeId)
    (ho : o.op = .call { callee := .builtin .append, args := #[s, x], argTypes := #[t, t] })
    (base : Nat) (e : TypeId) (i : TypeInfo) (z : Value) (size bytes : Nat) (ht : P.underlying t = some (.slice e)) (hi : P.info? e = some i) (hz : i.zero = some z)
    (hsize : i.size = size) (hby : i.bytes = bytes) (hzs : z.cells.size = size) (hsz : 0 < size)
    (v : Value) (n : Nat) (xs : List Value) (hs : a.eval s = v) (hown : w.ownsRow base e size v n xs)
    (ad : Addr) (m c : Nat) (news : List Value) (hx : a.eval x = .slice (some ad) m c) (hl : news.length = m * size) (hnews : ∀ j u, news[j]? = some u → w.cell? (ad.add j) = some u) (h1 : ∀ u ∈ news, u.oneCell' = true)
    (h63 : n + m ≤ maxLen) (hbytes : (n + m) * bytes ≤ 140737488355328) (hbase : base ≤ w.heap.size)
    (h : ∀ v' w', w'.ownsRow base e size v' (n + m) (xs ++ news) → w.grownBy w' v.ownBlock → (v'.ownBlock = v.ownBlock ∨ v'.ownBlock = some w.heap.size) → K (a.put o.dst v') w') : o.wp P a w K Q := by
  obtain ⟨v', w', hr, h2, h3, h4⟩ := run_append_own2 (P := P) w base t o.type e i z size bytes ht hi hz hsize hby hzs hsz v n xs hown ad m c news hl hnews h1 h63 hbytes hbase
  unfold Oper.wp execOp
  simp only [ho, resolve, invoke, builtin, Sem.run_bind, Sem.run_pure, Result.andThen_ok, List.map_toArray, List.map_cons, List.map_nil, hs, hx, hr]
  exact h v' w' h2 h3 h4
theorem wpList_append_own2 {ops : Array Oper} {rest : List Oper} {o : Oper} {a : Act} {Q : Exit → Act → World → Prop} (hgd : o.guard = none) (s x : Operand) (t : TypeId)
    (ho : o.op = .call { callee := .builtin .append, args := #[s, x], argTypes := #[t, t] })
    (base : Nat) (e : TypeId) (i : TypeInfo) (z : Value) (size bytes : Nat) (ht : P.underlying t = some (.slice e)) (hi : P.info? e = some i) (hz : i.zero = some z)
    (hsize : i.size = size) (hby : i.bytes = bytes) (hzs : z.cells.size = size) (hsz : 0 < size)
    (v : Value) (n : Nat) (xs : List Value) (hs : a.eval s = v) (hown : w.ownsRow base e size v n xs)
    (ad : Addr) (m c : Nat) (news : List Value) (hx : a.eval x = .slice (some ad) m c) (hl : news.length = m * size) (hnews : ∀ j u, news[j]? = some u → w.cell? (ad.add j) = some u) (h1 : ∀ u ∈ news, u.oneCell' = true)
    (h63 : n + m ≤ maxLen) (hbytes : (n + m) * bytes ≤ 140737488355328) (hbase : base ≤ w.heap.size)
    (h : ∀ v' w', w'.ownsRow base e size v' (n + m) (xs ++ news) → w.grownBy w' v.ownBlock → (v'.ownBlock = v.ownBlock ∨ v'.ownBlock = some w.heap.size) → wpList P ops Q rest (a.put o.dst v') w') : wpList P ops Q (o :: rest) a w :=
  wpList_plain hgd fun _ hK => wp_append_own2 w s x t ho base e i z size bytes ht hi hz hsize hby hzs hsz v n xs hs hown ad m c news hx hl hnews h1 h63 hbytes hbase fun v' w' h2 h3 h4 => hK _ _ (h v' w' h2 h3 h4)
end
end Go.Proofs.YtiejmkjpgjbodaaGreatDoor

namespace Go.Proofs.YtiejmkjpgjbodaaGreatDoor
open Go.RowKit
set_option linter.unusedVariables false
set_option linter.unusedSimpArgs false
set_option maxRecDepth 100000
theorem rdSize : (Tryz.prog.info? 78).map (·.size) = some 2 := by kernel_rfl
theorem rdLies : liesAt Tryz.prog Tryz.prog.depth 105 (3 / Tryz.prog.cellsOf 105) 1 78 1 = true := by kernel_rfl
def RdC (w : World) (b : Nat) (o a v : Value) : Prop := w.heap[b]? = some (.cells #[o, a, v] 105 (0, 0))
theorem RdC.cell0 {w : World} {b : Nat} {o a v : Value} (h : RdC w b o a v) : w.cell? ⟨b, 0, none⟩ = some o := by rw [Lib.cell_of_heap h]; rfl
theorem RdC.cell1 {w : World} {b : Nat} {o a v : Value} (h : RdC w b o a v) : w.cell? ⟨b, 1, none⟩ = some a := by rw [Lib.cell_of_heap h]; rfl
theorem RdC.cell2 {w : World} {b : Nat} {o a v : Value} (h : RdC w b o a v) : w.cell? ⟨b, 2, none⟩ = some v := by rw [Lib.cell_of_heap h]; rfl
theorem RdC.free {w : World} {b : Nat} {o a v : Value} (h : RdC w b o a v) (i : Nat) : w.frozen? ⟨b, i, none⟩ = false := Lib.frozen_of_heap h i
theorem RdC.lt {w : World} {b : Nat} {o a v : Value} (h : RdC w b o a v) : b < w.heap.size := lt_of_block h
theorem RdC.shape {w : World} {b : Nat} {o a v : Value} (h : RdC w b o a v) : w.shape? b = some (105, 3) := by
  have h' : w.heap[b]? = some (.cells #[o, a, v] 105 (0, 0)) := h
  simp [World.shape?, h']
theorem heap_put {w : World} {g j : Nat} {cur : Array Value} {e : TypeId} {fr : Nat × Nat} (u : Value) (h : w.heap[g]? = some (.cells cur e fr)) : (w.setCell ⟨g, j, none⟩ u).heap[g]? = some (.cells (cur.setIfInBounds j u) e fr) := by
  have hlt := (Array.getElem?_eq_some_iff.1 h).1
  have he := (Array.getElem?_eq_some_iff.1 h).2
  simp only [World.setCell, Array.getElem?_modify, if_true, h, Option.map_some]
  rfl
theorem RdC.put0 {w : World} {b : Nat} {o a v : Value} (h : RdC w b o a v) (u : Value) : RdC (w.setCell ⟨b, 0, none⟩ u) b u a v := heap_put (j := 0) u h
theorem RdC.put1 {w : World} {b : Nat} {o a v : Value} (h : RdC w b o a v) (u : Value) : RdC (w.setCell ⟨b, 1, none⟩ u) b o u v := heap_put (j := 1) u h
theorem RdC.put2 {w : World} {b : Nat} {o a v : Value} (h : RdC w b o a v) (u : Value) : RdC (w.setCell ⟨b, 2, none⟩ u) b o a u := heap_put (j := 2) u h
def RowsK (w w' : World) : Prop := ∀ (B : Nat) (e : TypeId) (sz n : Nat) (u : Value) (xs : List Value), e ≠ 5 → e ≠ 105 → w.ownsRow B e sz u n xs → w'.ownsRow B e sz u n xs
theorem RowsK.refl (w : World) : RowsK w w := fun _ _ _ _ _ _ _ _ h => h
theorem RowsK.trans {a b c : World} (h : RowsK a b) (k : RowsK b c) : RowsK a c := fun B e sz n u xs h1 h2 hx => k B e sz n u xs h1 h2 (h B e sz n u xs h1 h2 hx)
theorem RowsK.below {w w' : World} (hb : Below w.heap.size w w') : RowsK w w' := fun B e sz n u xs _ _ hx => hx.kept (row := none) ⟨hb.os, hb.tape, hb.output, hb.size, fun k hk _ => hb.block k hk⟩ (by cases hv : u.ownBlock <;> simp)
theorem RowsK.grown {w w' : World} {B n : Nat} {v : Value} {xs : List Value} (h : w.ownsRow B 5 1 v n xs) (hg : w.grownBy w' v.ownBlock) : RowsK w w' := fun B' e sz m u ys h1 _ hx => hx.kept hg (ownsRow_diff h1 hx h)
theorem RowsK.put {w : World} {b : Nat} {o a v : Value} (h : RdC w b o a v) (i : Nat) (u : Value) : RowsK w (w.setCell ⟨b, i, none⟩ u) := fun B e sz n x xs _ h2 hx =>
  hx.kept (row := some b) ⟨rfl, rfl, rfl, by simp [World.setCell], fun k _ hk => Below.heap_setCell _ _ _ k (fun e => hk (by rw [e]))⟩ (.inr (ownsRow_other hx (fun cur hc => by
    have h' : w.heap[b]? = some (.cells #[o, a, v] 105 (0, 0)) := h
    rw [h'] at hc
    injection hc with hc
    injection hc with _ hc
    exact h2 hc.symm)))
theorem TRow.rows {B : Nat} {v : Value} {ls : List TokV} {w w' : World} (h : TRow B v ls w) (hk : RowsK w w') : TRow B v ls w' :=
  ⟨hk _ _ _ _ _ _ (by decide) (by decide) h.row, fun p hp => hk _ _ _ _ _ _ (by decide) (by decide) (h.each p hp)⟩
set_option maxHeartbeats 1000000 in
theorem copyCheckR_used (b : Nat) (w : World) (h0 : w.cell? ⟨b, 1, none⟩ = some (.pointer (some ⟨b, 1, none⟩))) :
    Calls Tryz.prog 103 #[.pointer (some ⟨b, 1, none⟩)] w fun e w' => e = .returned (.tuple #[]) ∧ w = w' := by
  obtain ⟨j, hj, _⟩ := Option.map_eq_some_iff.1 rdSize
  have hne := fun w : World => Lib.run_neq_ptr_same (P := Tryz.prog) w ⟨b, 1, none⟩ Tryz.underlying76 hj
  go_enter Tryz.func103, Tryz.ntmps103
  go_wp2
  go_end0
  exact ⟨rfl, rfl⟩
set_option maxHeartbeats 1000000 in
theorem copyCheckR_fresh (b : Nat) (w : World) (h0 : w.cell? ⟨b, 1, none⟩ = some (.pointer none)) (hsh : w.shape? b = some (105, 3)) (hfz : w.frozen? ⟨b, 1, none⟩ = false) :
    Calls Tryz.prog 103 #[.pointer (some ⟨b, 1, none⟩)] w fun e w' => e = .returned (.tuple #[]) ∧ w.setCell ⟨b, 1, none⟩ (.pointer (some ⟨b, 1, none⟩)) = w' := by
  obtain ⟨j, hj, hjs⟩ := Option.map_eq_some_iff.1 rdSize
  have c1 := Lib.run_to_unsafe (P := Tryz.prog) w ⟨b, 1, none⟩ Tryz.underlying76 Tryz.underlying153 hj (by rw [hjs]; decide) hsh (show 1 < 3 by decide)
  have c2 := Lib.run_from_unsafe (P := Tryz.prog) w ⟨b, 1, none⟩ Tryz.underlying153 Tryz.underlying76 hj hsh rdLies
  have ce := fun w : World => run_callFunc_extern (P := Tryz.prog) (w := w) (args := #[Value.pointer (some ⟨b, 1, none⟩)]) Tryz.func140 (by kernel_rfl) (by kernel_rfl) (by kernel_rfl) (e := Extern.AbiNoEscape.same) (by kernel_rfl)
  have cn := fun w : World => Lib.run_noEscape (P := Tryz.prog) (w := w) (Value.pointer (some ⟨b, 1, none⟩))
  go_enter Tryz.func103, Tryz.ntmps103
  go_wp2
  go_end0
  exact ⟨rfl, rfl⟩
def AdrOK (b : Nat) (a : Value) : Prop := a = .pointer none ∨ a = .pointer (some ⟨b, 1, none⟩)
theorem copyCheckR_any (B b : Nat) (o a v : Value) (w : World) (h : RdC w b o a v) (ha : AdrOK b a) (hB : B ≤ b) :
    Calls Tryz.prog 103 #[.pointer (some ⟨b, 1, none⟩)] w fun e w' => e = .returned (.tuple #[]) ∧ RdC w' b o (.pointer (some ⟨b, 1, none⟩)) v ∧ Below B w w' ∧ RowsK w w' ∧ (∀ k, k ≠ b → w'.heap[k]? = w.heap[k]?) ∧ w.heap.size = w'.heap.size := by
  rcases ha with rfl | rfl
  · refine (copyCheckR_fresh b w h.cell1 h.shape (h.free 1)).mono ?_
    rintro e w' ⟨rfl, rfl⟩
    exact ⟨rfl, h.put1 _, (Below.refl B w).setCell (p := ⟨b, 1, none⟩) hB _, RowsK.put h 1 _, fun k hk => Below.heap_setCell _ _ _ k (fun e => hk (by rw [e])), by simp [World.setCell]⟩
  · refine (copyCheckR_used b w h.cell1).mono ?_
    rintro e w' ⟨rfl, rfl⟩
    exact ⟨rfl, h, Below.refl _ _, RowsK.refl _, fun k _ => rfl, rfl⟩
structure Rdr (B b : Nat) (o : Value) (vs : List TokV) (x : List UInt8) (W0 w : World) : Prop where
  at' : ∃ a v, RdC w b o a v ∧ AdrOK b a ∧ w.ownsRow B 5 1 v x.length (cellsOf x) ∧ v.ownBlock ≠ some b
  toks : TRow B o vs w
  base : B ≤ b
  below : Below B W0 w
  size : B ≤ w.heap.size
theorem Rdr.kept {B b : Nat} {o : Value} {vs : List TokV} {x : List UInt8} {W0 w w' : World} (h : Rdr B b o vs x W0 w) (hb : Below w.heap.size w w') : Rdr B b o vs x W0 w' := by
  obtain ⟨⟨a, v, h1, h2, h3, h4⟩, ht, hB, hW, hz⟩ := h
  exact ⟨⟨a, v, (hb.block b h1.lt).trans h1, h2, h3.kept (row := none) ⟨hb.os, hb.tape, hb.output, hb.size, fun k hk _ => hb.block k hk⟩ (by cases hv : v.ownBlock <;> simp), h4⟩, ht.kept hb, hB, hW.trans (hb.mono hz), Nat.le_trans hz hb.size⟩
set_option maxHeartbeats 1000000 in
theorem writeR_any (B b : Nat) (o : Value) (vs : List TokV) (x : List UInt8) (s : ByteArray) (W0 w : World) (h : Rdr B b o vs x W0 w) (hlen : x.length + s.size ≤ 140737488355328) :
    Calls Tryz.prog 64 #[.pointer (some ⟨b, 1, none⟩), .string s] w fun e w' => e = .returned (.tuple #[.int .i64 s.size, .nilIface]) ∧ Rdr B b o vs (x ++ s.data.toList) W0 w' := by
  obtain ⟨⟨a, v, h1, h2, h3, h4⟩, ht, hB, hW, hz⟩ := h
  obtain ⟨i0, hi, hz0, hz1, hz2⟩ := info_parts info_u8
  have HC := hide (copyCheckR_any B b o a v w h1 h2 hB)
  have H3 := hide h3
  have H4 := hide h4
  have HT := hide ht
  have HW := hide hW
  have hl1 : (cellsOf x).length = x.length := cellsOf_length x
  have HI := hide hi
  have HZ0 := hide hz0
  have HZ1 := hide hz1
  have HZ2 := hide hz2
  have HL1 := hide hl1
  clear h1 h2 h3 h4 ht hW hi hz0 hz1 hz2 hl1
  go_enter Tryz.func64, Tryz.ntmps64
  go_wp2_with fail
  refine HC.out.mono ?_
  rintro e w1 ⟨rfl, k1, k2, k3, k4, k5⟩
  have c2 := k1.cell2
  have hlt := k1.lt
  have hsz1 := k2.size
  have HOWN : Hid (w1.ownsRow B 5 1 v x.length (cellsOf x)) := hide (by
    have hx := H3.out
    exact hx.kept (row := some b) ⟨k2.os, k2.tape, k2.output, Nat.le_of_eq k5, fun k _ hk => k4 k (fun e => hk (by rw [e]))⟩ (.inr H4.out))
  have HK1 := hide k1
  have HK2 := hide k2
  have HK3 := hide k3
  have HSZ := hide (show B ≤ w1.heap.size by omega)
  clear k1 k2 k3 k4 k5
  go_wp2_with (refine Lib.wpList_append_own_string _ rfl _ _ 56 9 rfl B 5 i0 Tryz.underlying56 Tryz.underlying9 HI.out HZ0.out HZ1.out HZ2.out v x.length (cellsOf x) rfl HOWN.out s rfl (by unfold maxLen; omega) (by omega) HSZ.out ?_
               intro v' w2 hown' hgrow _
               obtain ⟨ao, n', cap, rfl⟩ : ∃ ao n' cap, v' = .slice ao n' cap := by
                 rcases hown'.2 with ⟨hv, _⟩ | ⟨g, cap, cur, hv, _⟩
                 · exact ⟨_, _, _, hv⟩
                 · exact ⟨_, _, _, hv⟩
               have hb2 : RdC w2 b o (.pointer (some ⟨b, 1, none⟩)) v := (hgrow.block b hlt (fun e => H4.out e.symm)).trans HK1.out
               have d2 := hb2.cell2
               have f2 := hb2.free 2
               have HO2 := hide hown'
               have HG2 := hide hgrow
               have HB2 := hide hb2
               clear hown' hgrow hb2)
  go_ret2
  have hb3 : Below B w w2 := HK2.out.grown HG2.out HSZ.out (fun k hk => (HOWN.out.lt k hk).1)
  have hk2 : RowsK w1 w2 := RowsK.grown HOWN.out HG2.out
  have hkp := RowsK.put HB2.out 2 (.slice ao n' cap)
  refine ⟨rfl, ⟨⟨_, _, HB2.out.put2 _, .inr rfl, ?_, ?_⟩, HT.out.rows (HK3.out.trans (hk2.trans hkp)), hB, (HW.out.trans hb3).setCell (p := ⟨b, 2, none⟩) hB _, ?_⟩⟩
  · have e1 : cellsOf (x ++ s.data.toList) = cellsOf x ++ Lib.strCells s := by rw [cellsOf_str, cellsOf, List.map_append]; rfl
    rw [e1, List.length_append, toList_length]
    have ho := HO2.out
    refine ho.kept (row := some b) ⟨rfl, rfl, rfl, by simp [World.setCell], fun k _ hk => Below.heap_setCell _ _ _ k (fun e => hk (by rw [e]))⟩ (.inr ?_)
    exact ownsRow_other ho (fun cur hc => by
      have h' : w2.heap[b]? = some (.cells #[o, .pointer (some ⟨b, 1, none⟩), v] 105 (0, 0)) := HB2.out
      rw [h'] at hc
      injection hc with hc
      injection hc with _ hc
      exact absurd hc (by decide))
  · exact ownsRow_other HO2.out (fun cur hc => by
      have h' : w2.heap[b]? = some (.cells #[o, .pointer (some ⟨b, 1, none⟩), v] 105 (0, 0)) := HB2.out
      rw [h'] at hc
      injection hc with hc
      injection hc with _ hc
      exact absurd hc (by decide))
  · have := hb3.size
    simp [World.setCell]
    omega
theorem lenR_any (B b : Nat) (o : Value) (vs : List TokV) (x : List UInt8) (W0 w : World) (h : Rdr B b o vs x W0 w) :
    Calls Tryz.prog 126 #[.pointer (some ⟨b, 1, none⟩)] w fun e w' => e = .returned (.int .i64 x.length) ∧ w = w' := by
  obtain ⟨⟨a, v, h1, h2, h3, h4⟩, _⟩ := h
  obtain ⟨A, c, rfl⟩ : ∃ A c, v = .slice A x.length c := by
    rcases h3.2 with ⟨rfl, h0⟩ | ⟨g, cap, cur, rfl, _⟩
    · rw [h0]; exact ⟨_, _, rfl⟩
    · exact ⟨_, _, rfl⟩
  have c2 := h1.cell2
  clear h1 h2 h3 h4
  go_enter Tryz.func126, Tryz.ntmps126
  go_wp2_with fail
  go_ret
  exact ⟨rfl, rfl⟩
end Go.Proofs.YtiejmkjpgjbodaaGreatDoor

namespace Go.Proofs.YtiejmkjpgjbodaaGreatDoor
open Go.RowKit
set_option linter.unusedVariables false
set_option linter.unusedSimpArgs false
set_option maxRecDepth 100000
abbrev KidV := (NdH × Tr) × (Value × Value)
def nodeVals (ks : List KidV) : List Value := ks.flatMap fun p => [.string (str p.1.1.name), p.2.1, .string (str p.1.1.text), p.2.2]
theorem nodeVals_length (ls : List KidV) : (nodeVals ls).length = ls.length * 4 := by
  induction ls with
  | nil => rfl
  | cons f r ih => unfold nodeVals at *; rw [List.flatMap_cons, List.length_append, ih]; simp; omega
theorem nodeVals_append (a b : List KidV) : nodeVals (a ++ b) = nodeVals a ++ nodeVals b := by unfold nodeVals; rw [List.flatMap_append]
structure PartV where
  name : List UInt8
  attrs : List AtL
  av : Value
  kids : List KidV
  kv : Value
  tail : List UInt8
  tv : Value
def PartV.toL (p : PartV) : PartL := ⟨p.name, p.attrs, p.kids.map Prod.fst, p.tail⟩
def partVals (ps : List PartV) : List Value := ps.flatMap fun p => [.string (str p.name), p.av, .string ⟨#[]⟩, p.kv, p.tv]
theorem partVals_length (ls : List PartV) : (partVals ls).length = ls.length * 5 := by
  induction ls with
  | nil => rfl
  | cons f r ih => unfold partVals at *; rw [List.flatMap_cons, List.length_append, ih]; simp; omega
theorem partVals_append (a b : List PartV) : partVals (a ++ b) = partVals a ++ partVals b := by unfold partVals; rw [List.flatMap_append]
theorem partVals_at (ps : List PartV) (p : PartV) (j : Nat) (hj : j < 5) (rest : List PartV) : (partVals (ps ++ p :: rest))[ps.length * 5 + j]? = [Value.string (str p.name), p.av, .string ⟨#[]⟩, p.kv, p.tv][j]? := by
  rw [partVals_append, List.getElem?_append_right (by rw [partVals_length]; omega), partVals_length, show ps.length * 5 + j - ps.length * 5 = j by omega]
  unfold partVals
  rw [List.flatMap_cons, List.getElem?_append_left (by simpa using hj)]
theorem partVals_set (ps : List PartV) (p : PartV) (j : Nat) (hj : j < 5) (u : Value) : (partVals (ps ++ [p])).set (ps.length * 5 + j) u = partVals ps ++ [Value.string (str p.name), p.av, .string ⟨#[]⟩, p.kv, p.tv].set j u := by
  rw [partVals_append, List.set_append_right _ _ (by rw [partVals_length]; omega), partVals_length, show ps.length * 5 + j - ps.length * 5 = j by omega]
  rfl
structure KRow (C : Nat → Prop) (B : Nat) (v : Value) (ks : List KidV) (w : World) : Prop where
  row : w.ownsRow B 33 4 v ks.length (nodeVals ks)
  each : ∀ q ∈ ks, AttrsC C w q.2.1 q.1.1.attrs ∧ NodesC C w q.2.2 q.1.2
  out : ∀ g, v.ownBlock = some g → ¬ C g
def Since4 (W0 w : World) : Prop := ∀ (g : Nat) (cur : Array Value) (T : TypeId) (fz : Nat × Nat), W0.heap[g]? = some (Obj.cells cur T fz) → (T ≠ 47 ∧ T ≠ 58 ∧ T ≠ 33 ∧ T ≠ 5) → w.heap[g]? = W0.heap[g]?
theorem Since4.refl (w : World) : Since4 w w := fun _ _ _ _ _ _ => rfl
theorem Since4.trans {a b c : World} (h : Since4 a b) (k : Since4 b c) : Since4 a c := fun g cur T fz hg hT => (k g cur T fz ((h g cur T fz hg hT).trans hg) hT).trans (h g cur T fz hg hT)
theorem Since4.grown {W0 w w' : World} {row : Option Nat} (h : Since4 W0 w) (hg : w.grownBy w' row) (hr : ∀ k, row = some k → ∃ (cur : Array Value) (T : TypeId) (fz : Nat × Nat), w.heap[k]? = some (Obj.cells cur T fz) ∧ (T = 47 ∨ T = 58 ∨ T = 33 ∨ T = 5)) : Since4 W0 w' := fun g cur T fz h0 hT => by
  have h1 := h g cur T fz h0 hT
  rw [hg.block g (lt_of_block (h1.trans h0)) (fun e => ?_)]
  · exact h1
  · obtain ⟨cur2, T2, fz2, h2, h3⟩ := hr g e.symm
    rw [h1.trans h0] at h2
    injection h2 with h2
    injection h2 with _ h2
    subst h2
    rcases h3 with h3 | h3 | h3 | h3
    · exact hT.1 h3
    · exact hT.2.1 h3
    · exact hT.2.2.1 h3
    · exact hT.2.2.2 h3
theorem own_ty {w : World} {B : Nat} {e : TypeId} {sz n : Nat} {v : Value} {xs : List Value} (h : w.ownsRow B e sz v n xs) {k : Nat} (hk : v.ownBlock = some k) : ∃ (cur : Array Value) (T : TypeId) (fz : Nat × Nat), w.heap[k]? = some (Obj.cells cur T fz) ∧ T = e := by
  rcases h.2 with ⟨e0, _⟩ | ⟨g, cap, cur, e0, _, hh, _⟩
  · rw [e0] at hk; cases hk
  · rw [e0] at hk
    obtain rfl : g = k := by simpa [Value.ownBlock] using hk
    exact ⟨cur, _, _, hh, rfl⟩
theorem Since4.own {W0 w w' : World} {B : Nat} {e : TypeId} {sz n : Nat} {v : Value} {xs : List Value} (h : Since4 W0 w) (ho : w.ownsRow B e sz v n xs) (hg : w.grownBy w' v.ownBlock) (he : e = 47 ∨ e = 58 ∨ e = 33 ∨ e = 5) : Since4 W0 w' :=
  h.grown hg (fun k hk => by
    obtain ⟨cur, T, fz, h1, rfl⟩ := own_ty ho hk
    exact ⟨cur, T, fz, h1, he⟩)
theorem Since4.put {W0 w : World} {b i : Nat} {u : Value} {cs : Array Value} {T : TypeId} {fz : Nat × Nat} (h : Since4 W0 w) (hb : w.heap[b]? = some (Obj.cells cs T fz)) (hT : T = 47 ∨ T = 58 ∨ T = 33 ∨ T = 5) : Since4 W0 (w.setCell ⟨b, i, none⟩ u) :=
  h.grown (row := some b) ⟨rfl, rfl, rfl, by simp [World.setCell], fun k _ hk => Below.heap_setCell _ _ _ k (fun e => hk (by rw [e]))⟩ (fun k e => by injection e with e; subst e; exact ⟨cs, T, fz, hb, hT⟩)
theorem Since4.below {W0 w w' : World} (h : Since4 W0 w) (hb : Below w.heap.size w w') : Since4 W0 w' := h.grown (row := none) ⟨hb.os, hb.tape, hb.output, hb.size, fun k hk _ => hb.block k hk⟩ (fun k e => by cases e)
structure BS (C : Nat → Prop) (B b : Nat) (r : Value) (st : List PartV) (n : Nat) (W0 w : World) : Prop where
  blk : w.heap[b]? = some (.cells #[r, .int .i64 n] 47 (0, 0))
  row : w.ownsRow B 58 5 r st.length (partVals st.reverse)
  attrs : ∀ p ∈ st, AttrsC C w p.av p.attrs
  kids : ∀ p ∈ st, KRow C B p.kv p.kids w
  apart : st.Pairwise (fun p q => p.kv.ownBlock = none ∨ p.kv.ownBlock ≠ q.kv.ownBlock)
  tails : ∀ p ∈ st, w.ownsRow B 5 1 p.tv p.tail.length (cellsOf p.tail) ∧ (p.tail = [] → p.tv = .slice none 0 0)
  quiet : ∀ p ∈ st.tail, p.tail = []
  typ : ∀ g, C g → g < w.heap.size ∧ ∀ cur T fz, w.heap[g]? = some (.cells cur T fz) → T = 33 ∨ T = 43
  base : B ≤ b
  below : Below B W0 w
  size : B ≤ w.heap.size
  since : Since4 W0 w
theorem grown_none {w w' : World} (hb : Below w.heap.size w w') : w.grownBy w' none := ⟨hb.os, hb.tape, hb.output, hb.size, fun k hk _ => hb.block k hk⟩
theorem own_type {w w' : World} {B k : Nat} {e : TypeId} {sz n : Nat} {v : Value} {xs : List Value} (h : w.ownsRow B e sz v n xs) (hg : w.grownBy w' (some k)) (ht : ∀ cur, w.heap[k]? ≠ some (.cells cur e (0, 0))) : w'.ownsRow B e sz v n xs :=
  h.kept hg (.inr (ownsRow_other h ht))
theorem KRow.turned {C : Nat → Prop} {B : Nat} {v : Value} {ks : List KidV} {w w' : World} {row : Option Nat} (h : KRow C B v ks w) (hg : w.grownBy w' row) (hC : ∀ k, C k → k < w.heap.size) (hr : ∀ k, row = some k → ¬ C k) (hne : v.ownBlock = none ∨ v.ownBlock ≠ row) : KRow C B v ks w' := by
  have hk : ∀ b, C b → w'.heap[b]? = w.heap[b]? := fun b hb => hg.block b (hC b hb) (fun e => hr b e.symm hb)
  exact ⟨h.row.kept hg hne, fun q hq => ⟨(h.each q hq).1.mono hk (fun _ x => x), (h.each q hq).2.mono hk (fun _ x => x)⟩, h.out⟩
theorem BS.turned {C : Nat → Prop} {B b : Nat} {r : Value} {st : List PartV} {n : Nat} {W0 w w' : World} {row : Option Nat} (h : BS C B b r st n W0 w) (hs4 : Since4 W0 w') (hg : w.grownBy w' row)
    (hr : ∀ k, row = some k → B ≤ k ∧ k ≠ b ∧ ¬ C k ∧ ∀ cur, w.heap[k]? ≠ some (.cells cur 58 (0, 0)) ∧ w.heap[k]? ≠ some (.cells cur 33 (0, 0)) ∧ w.heap[k]? ≠ some (.cells cur 5 (0, 0))) : BS C B b r st n W0 w' := by
  have hC : ∀ k, C k → k < w.heap.size := fun k hk => (h.typ k hk).1
  have hk : ∀ g, C g → w'.heap[g]? = w.heap[g]? := fun g hgC => hg.block g (hC g hgC) (fun e => (hr g e.symm).2.2.1 hgC)
  have hown : ∀ {e : TypeId} {sz m : Nat} {v : Value} {xs : List Value}, w.ownsRow B e sz v m xs → (∀ k, row = some k → ∀ cur, w.heap[k]? ≠ some (.cells cur e (0, 0))) → v.ownBlock = none ∨ v.ownBlock ≠ row := fun {e sz m v xs} ho ht => by
    cases row with
    | none => cases hv : v.ownBlock <;> simp
    | some k => exact .inr (ownsRow_other ho (ht k rfl))
  refine ⟨?_, h.row.kept hg (hown h.row fun k e cur => ((hr k e).2.2.2 cur).1), fun p hp => (h.attrs p hp).mono hk (fun _ x => x), fun p hp => (h.kids p hp).turned hg hC (fun k e => (hr k e).2.2.1) (hown (h.kids p hp).row fun k e cur => ((hr k e).2.2.2 cur).2.1), h.apart,
    fun p hp => ⟨(h.tails p hp).1.kept hg (hown (h.tails p hp).1 fun k e cur => ((hr k e).2.2.2 cur).2.2), (h.tails p hp).2⟩, h.quiet, fun g hgC => ⟨Nat.lt_of_lt_of_le (hC g hgC) hg.size, by rw [hk g hgC]; exact (h.typ g hgC).2⟩, h.base, h.below.grown hg h.size (fun k e => (hr k e).1), Nat.le_trans h.size hg.size, hs4⟩
  rw [hg.block b (lt_of_block h.blk) (fun e => (hr b e.symm).2.1 rfl)]
  exact h.blk
theorem BS.kept {C : Nat → Prop} {B b : Nat} {r : Value} {st : List PartV} {n : Nat} {W0 w w' : World} (h : BS C B b r st n W0 w) (hb : Below w.heap.size w w') : BS C B b r st n W0 w' := h.turned (h.since.below hb) (grown_none hb) (fun k e => by cases e)
theorem BS.c0 {C : Nat → Prop} {B b : Nat} {r : Value} {st : List PartV} {n : Nat} {W0 w : World} (h : BS C B b r st n W0 w) : w.cell? ⟨b, 0, none⟩ = some r := by rw [Lib.cell_of_heap h.blk]; rfl
theorem BS.c1 {C : Nat → Prop} {B b : Nat} {r : Value} {st : List PartV} {n : Nat} {W0 w : World} (h : BS C B b r st n W0 w) : w.cell? ⟨b, 1, none⟩ = some (.int .i64 n) := by rw [Lib.cell_of_heap h.blk]; rfl
theorem BS.free {C : Nat → Prop} {B b : Nat} {r : Value} {st : List PartV} {n : Nat} {W0 w : World} (h : BS C B b r st n W0 w) (i : Nat) : w.frozen? ⟨b, i, none⟩ = false := Lib.frozen_of_heap h.blk i
theorem BS.form {C : Nat → Prop} {B b : Nat} {r : Value} {st : List PartV} {n : Nat} {W0 w : World} (h : BS C B b r st n W0 w) (hs : st ≠ []) : ∃ g cap, r = .slice (some ⟨g, 0, none⟩) st.length cap ∧ st.length ≤ cap ∧ cap ≤ maxLen ∧ B ≤ g ∧ g < w.heap.size := by
  rcases h.row.2 with ⟨rfl, h0⟩ | ⟨g, cap, cur, rfl, hg, hh, hc, hm, _⟩
  · exact absurd (List.eq_nil_of_length_eq_zero h0) hs
  · exact ⟨g, cap, rfl, hc, hm, hg, lt_of_block hh⟩
theorem BS.cells {C : Nat → Prop} {B b g cap : Nat} {p : PartV} {rest : List PartV} {n : Nat} {W0 w : World} (h : BS C B b (.slice (some ⟨g, 0, none⟩) (rest.length + 1) cap) (p :: rest) n W0 w) :
    w.cell? ⟨g, rest.length * 5, none⟩ = some (.string (str p.name)) ∧ w.cell? ⟨g, rest.length * 5 + 1, none⟩ = some p.av ∧ w.cell? ⟨g, rest.length * 5 + 2, none⟩ = some (.string ⟨#[]⟩) ∧ w.cell? ⟨g, rest.length * 5 + 3, none⟩ = some p.kv ∧ w.cell? ⟨g, rest.length * 5 + 4, none⟩ = some p.tv ∧ (∀ i, w.frozen? ⟨g, i, none⟩ = false) := by
  have hr := h.row
  rw [List.length_cons] at hr
  have hc : ∀ j, j < 5 → w.cell? ⟨g, rest.length * 5 + j, none⟩ = [Value.string (str p.name), p.av, .string ⟨#[]⟩, p.kv, p.tv][j]? := fun j hj => by
    rw [hr.cellAt _ (by omega)]
    have := partVals_at rest.reverse p j hj []
    rw [List.length_reverse] at this
    rw [List.reverse_cons]; exact this
  exact ⟨hc 0 (by decide), hc 1 (by decide), hc 2 (by decide), hc 3 (by decide), hc 4 (by decide), fun i => hr.frozenAt i⟩
theorem BS.rowOut {C : Nat → Prop} {B b g m cap : Nat} {st : List PartV} {n : Nat} {W0 w : World} (h : BS C B b (.slice (some ⟨g, 0, none⟩) m cap) st n W0 w) : g ≠ b ∧ ¬ C g ∧ B ≤ g ∧ ∀ (cur : Array Value) (e : TypeId), e ≠ 58 → w.heap[g]? ≠ some (.cells cur e (0, 0)) := by
  rcases h.row.2 with ⟨h0, _⟩ | ⟨g', cap', cur, h0, hg, hh, hc, hm, _⟩
  · cases h0
  · injection h0 with h0 _ _
    injection h0 with h0
    injection h0 with h0
    subst h0
    refine ⟨fun e => ?_, fun hC => ?_, hg, fun cur' e he hx => ?_⟩
    · have := h.blk
      rw [← e, hh] at this
      injection this with this
      injection this with _ this
      exact absurd this (by decide)
    · rcases (h.typ g hC).2 _ _ _ hh with e | e
      · exact absurd e (by decide)
      · exact absurd e (by decide)
    · rw [hh] at hx
      injection hx with hx
      injection hx with _ hx
      exact he hx.symm
theorem BS.put {C : Nat → Prop} {B b g cap : Nat} {p : PartV} {rest : List PartV} {n : Nat} {W0 w : World} (h : BS C B b (.slice (some ⟨g, 0, none⟩) (rest.length + 1) cap) (p :: rest) n W0 w) (p' : PartV) (j : Nat) (u : Value) (hj : j < 5)
    (he : [Value.string (str p.name), p.av, .string ⟨#[]⟩, p.kv, p.tv].set j u = [Value.string (str p'.name), p'.av, .string ⟨#[]⟩, p'.kv, p'.tv]) :
    (w.setCell ⟨g, rest.length * 5 + j, none⟩ u).ownsRow B 58 5 (.slice (some ⟨g, 0, none⟩) (rest.length + 1) cap) (rest.length + 1) (partVals (p' :: rest).reverse) ∧ w.grownBy (w.setCell ⟨g, rest.length * 5 + j, none⟩ u) (some g) := by
  have hr := h.row
  rw [List.length_cons] at hr
  obtain ⟨r1, r2⟩ := hr.stored (rest.length * 5 + j) u
  refine ⟨?_, r2⟩
  rw [List.reverse_cons] at r1 ⊢
  have e1 := partVals_set rest.reverse p j hj u
  rw [List.length_reverse] at e1
  rw [e1, he] at r1
  rw [partVals_append]
  exact r1
end Go.Proofs.YtiejmkjpgjbodaaGreatDoor

namespace Go.Proofs.YtiejmkjpgjbodaaGreatDoor
open Go.RowKit
set_option linter.unusedVariables false
set_option linter.unusedSimpArgs false
set_option maxRecDepth 100000
theorem heap_put0 {w : World} {b i : Nat} {cs : Array Value} {T : TypeId} (h : w.heap[b]? = some (.cells cs T (0, 0))) (u : Value) : (w.setCell ⟨b, i, none⟩ u).heap[b]? = some (.cells (cs.setIfInBounds i u) T (0, 0)) := heap_put u h
theorem grown_put (w : World) (b i : Nat) (u : Value) : w.grownBy (w.setCell ⟨b, i, none⟩ u) (some b) :=
  ⟨rfl, rfl, rfl, by simp [World.setCell], fun k _ hk => Below.heap_setCell _ _ _ k (fun e => hk (by rw [e]))⟩
theorem same_put {w : World} {b i : Nat} {u : Value} {C : Nat → Prop} (hC : ¬ C b) : ∀ g, C g → (w.setCell ⟨b, i, none⟩ u).heap[g]? = w.heap[g]? := fun g hg => Below.heap_setCell _ _ _ g (fun e => hC (by rw [← show g = b from e]; exact hg))
theorem BS.out {C : Nat → Prop} {B b : Nat} {r : Value} {st : List PartV} {n : Nat} {W0 w : World} (h : BS C B b r st n W0 w) : ¬ C b ∧ ∀ (cur : Array Value) (e : TypeId), e ≠ 47 → w.heap[b]? ≠ some (.cells cur e (0, 0)) := by
  refine ⟨fun hC => ?_, fun cur e he hx => ?_⟩
  · rcases (h.typ b hC).2 _ _ _ h.blk with e | e
    · exact absurd e (by decide)
    · exact absurd e (by decide)
  · rw [h.blk] at hx
    injection hx with hx
    injection hx with _ hx
    exact he hx.symm
theorem BS.putB {C : Nat → Prop} {B b : Nat} {r : Value} {st : List PartV} {n : Nat} {W0 w : World} (h : BS C B b r st n W0 w) (i : Nat) (u r' : Value) (n' : Nat)
    (he : (#[r, .int .i64 n] : Array Value).setIfInBounds i u = #[r', .int .i64 n']) (hr : w.ownsRow B 58 5 r' st.length (partVals st.reverse)) : BS C B b r' st n' W0 (w.setCell ⟨b, i, none⟩ u) := by
  have hg := grown_put w b i u
  have ho := h.out
  have hown : ∀ {e : TypeId} {sz m : Nat} {v : Value} {xs : List Value}, e ≠ 47 → w.ownsRow B e sz v m xs → (w.setCell ⟨b, i, none⟩ u).ownsRow B e sz v m xs := fun {e sz m v xs} h1 hx => own_type hx hg (fun cur => ho.2 cur e h1)
  have hk := same_put (w := w) (i := i) (u := u) ho.1
  refine ⟨by rw [heap_put0 h.blk, he], hown (by decide) hr, fun p hp => (h.attrs p hp).mono hk (fun _ x => x), fun p hp => ⟨hown (by decide) (h.kids p hp).row, fun q hq => ⟨((h.kids p hp).each q hq).1.mono hk (fun _ x => x), ((h.kids p hp).each q hq).2.mono hk (fun _ x => x)⟩, (h.kids p hp).out⟩, h.apart,
    fun p hp => ⟨hown (by decide) (h.tails p hp).1, (h.tails p hp).2⟩, h.quiet, fun g hgC => ⟨by have := (h.typ g hgC).1; simpa [World.setCell] using this, by rw [hk g hgC]; exact (h.typ g hgC).2⟩, h.base, h.below.setCell (p := ⟨b, i, none⟩) h.base u, by simpa [World.setCell] using h.size, h.since.put h.blk (.inl rfl)⟩
theorem BS.setCount {C : Nat → Prop} {B b : Nat} {r : Value} {st : List PartV} {n : Nat} {W0 w : World} (h : BS C B b r st n W0 w) (m : Nat) : BS C B b r st m W0 (w.setCell ⟨b, 1, none⟩ (.int .i64 m)) := h.putB 1 _ r m rfl h.row
theorem BS.putP {C : Nat → Prop} {B b g cap : Nat} {p : PartV} {rest : List PartV} {n : Nat} {W0 w : World} (h : BS C B b (.slice (some ⟨g, 0, none⟩) (rest.length + 1) cap) (p :: rest) n W0 w) (p' : PartV) (j : Nat) (u : Value) (hj : j < 5)
    (he : [Value.string (str p.name), p.av, .string ⟨#[]⟩, p.kv, p.tv].set j u = [Value.string (str p'.name), p'.av, .string ⟨#[]⟩, p'.kv, p'.tv]) (hv : p'.av = p.av) (ha : p'.attrs = p.attrs)
    (hk : KRow C B p'.kv p'.kids w) (hap : ∀ q ∈ rest, p'.kv.ownBlock = none ∨ p'.kv.ownBlock ≠ q.kv.ownBlock) (ht : w.ownsRow B 5 1 p'.tv p'.tail.length (cellsOf p'.tail) ∧ (p'.tail = [] → p'.tv = .slice none 0 0)) :
    BS C B b (.slice (some ⟨g, 0, none⟩) (rest.length + 1) cap) (p' :: rest) n W0 (w.setCell ⟨g, rest.length * 5 + j, none⟩ u) := by
  obtain ⟨o1, hg⟩ := h.put p' j u hj he
  obtain ⟨q1, q2, q3, q4⟩ := h.rowOut
  have hown : ∀ {e : TypeId} {sz m : Nat} {v : Value} {xs : List Value}, e ≠ 58 → w.ownsRow B e sz v m xs → (w.setCell ⟨g, rest.length * 5 + j, none⟩ u).ownsRow B e sz v m xs := fun {e sz m v xs} h1 hx => own_type hx hg (fun cur => q4 cur e h1)
  have hkp := same_put (w := w) (i := rest.length * 5 + j) (u := u) q2
  have hK : ∀ {v : Value} {ks : List KidV}, KRow C B v ks w → KRow C B v ks (w.setCell ⟨g, rest.length * 5 + j, none⟩ u) := fun {v ks} hx => ⟨hown (by decide) hx.row, fun q hq => ⟨(hx.each q hq).1.mono hkp (fun _ x => x), (hx.each q hq).2.mono hkp (fun _ x => x)⟩, hx.out⟩
  have hr : ∀ q ∈ rest, q ∈ p :: rest := fun q hq => List.mem_cons_of_mem _ hq
  refine ⟨?_, o1, ?_, ?_, ?_, ?_, h.quiet, fun x hx => ⟨by have := (h.typ x hx).1; simpa [World.setCell] using this, by rw [hkp x hx]; exact (h.typ x hx).2⟩, h.base, h.below.setCell (p := ⟨g, rest.length * 5 + j, none⟩) q3 u, by simpa [World.setCell] using h.size, h.since.own h.row hg (.inr (.inl rfl))⟩
  · rw [hg.block b (lt_of_block h.blk) (fun e => q1 (Option.some.inj e).symm)]
    exact h.blk
  · intro q hq
    rcases List.mem_cons.1 hq with rfl | hq
    · rw [hv, ha]; exact (h.attrs p (List.mem_cons_self ..)).mono hkp (fun _ x => x)
    · exact (h.attrs q (hr q hq)).mono hkp (fun _ x => x)
  · intro q hq
    rcases List.mem_cons.1 hq with rfl | hq
    · exact hK hk
    · exact hK (h.kids q (hr q hq))
  · exact List.pairwise_cons.2 ⟨hap, (List.pairwise_cons.1 h.apart).2⟩
  · intro q hq
    rcases List.mem_cons.1 hq with rfl | hq
    · exact ⟨hown (by decide) ht.1, ht.2⟩
    · exact ⟨hown (by decide) (h.tails q (hr q hq)).1, (h.tails q (hr q hq)).2⟩
theorem BS.pushKid {C : Nat → Prop} {B b g cap : Nat} {p : PartV} {rest : List PartV} {n : Nat} {W0 w w3 : World} {v' : Value} {q : KidV} (h : BS C B b (.slice (some ⟨g, 0, none⟩) (rest.length + 1) cap) (p :: rest) n W0 w)
    (ho : w3.ownsRow B 33 4 v' (p.kids.length + 1) (nodeVals (p.kids ++ [q]))) (hg : w.grownBy w3 p.kv.ownBlock) (hv : v'.ownBlock = p.kv.ownBlock ∨ v'.ownBlock = some w.heap.size)
    (hq : AttrsC C w q.2.1 q.1.1.attrs ∧ NodesC C w q.2.2 q.1.2) :
    BS C B b (.slice (some ⟨g, 0, none⟩) (rest.length + 1) cap) ({ p with kids := p.kids ++ [q], kv := v' } :: rest) n W0 (w3.setCell ⟨g, rest.length * 5 + 3, none⟩ v') := by
  have hkp := h.kids p (List.mem_cons_self ..)
  have hC : ∀ k, C k → k < w.heap.size := fun k hk => (h.typ k hk).1
  have hk : ∀ x, C x → w3.heap[x]? = w.heap[x]? := fun x hx => hg.block x (hC x hx) (fun e => hkp.out x e.symm hx)
  have hown : ∀ {e : TypeId} {sz m : Nat} {v : Value} {xs : List Value}, e ≠ 33 → w.ownsRow B e sz v m xs → w3.ownsRow B e sz v m xs := fun {e sz m v xs} h1 hx => hx.kept hg (ownsRow_diff h1 hx hkp.row)
  have hb : ∀ k (cur : Array Value) (e : TypeId), e ≠ 33 → w.heap[k]? = some (Obj.cells cur e (0, 0)) → w3.heap[k]? = w.heap[k]? := fun k cur e h1 hx => hg.block k (lt_of_block hx) (fun e2 => by
    have := ownsRow_other hkp.row (r := k) (fun cur' h2 => by
      rw [hx] at h2
      injection h2 with h2
      injection h2 with _ h2
      exact h1 h2)
    exact this e2.symm)
  have hcl : ∀ x ∈ rest, p.kv.ownBlock = none ∨ p.kv.ownBlock ≠ x.kv.ownBlock := (List.pairwise_cons.1 h.apart).1
  have hne : ∀ x ∈ rest, x.kv.ownBlock = none ∨ x.kv.ownBlock ≠ p.kv.ownBlock := fun x hx => by
    rcases hcl x hx with e | e
    · rw [e]
      cases x.kv.ownBlock with
      | none => exact .inl rfl
      | some k => exact .inr (by simp)
    · exact .inr (fun e2 => e e2.symm)
  have hK : ∀ x ∈ rest, KRow C B x.kv x.kids w3 := fun x hx => (h.kids x (List.mem_cons_of_mem _ hx)).turned hg hC (fun k e hc => hkp.out k e hc) (hne x hx)
  have hrow := h.row
  rw [List.length_cons] at hrow
  have hrow3 := hown (by decide) hrow
  have hvals : partVals (p :: rest).reverse = partVals (({ p with kids := p.kids ++ [q], kv := p.kv } : PartV) :: rest).reverse := by
    rw [List.reverse_cons, List.reverse_cons, partVals_append, partVals_append]; rfl
  have hout3 : g ≠ b ∧ ¬ C g ∧ B ≤ g ∧ ∀ (cur : Array Value) (e : TypeId), e ≠ 58 → w3.heap[g]? ≠ some (.cells cur e (0, 0)) := by
    obtain ⟨q1, q2, q3, q4⟩ := h.rowOut
    refine ⟨q1, q2, q3, fun cur e h1 hx => ?_⟩
    rcases hrow3.2 with ⟨h0, _⟩ | ⟨g', cap', cur', h0, _, hh, _⟩
    · cases h0
    · injection h0 with h0 _ _
      injection h0 with h0
      injection h0 with h0
      subst h0
      rw [hh] at hx
      injection hx with hx
      injection hx with _ hx
      exact h1 hx.symm
  obtain ⟨q1, q2, q3, q4⟩ := hout3
  obtain ⟨r1, hgp⟩ := hrow3.stored (rest.length * 5 + 3) v'
  have hown4 : ∀ {e : TypeId} {sz m : Nat} {v : Value} {xs : List Value}, e ≠ 58 → w3.ownsRow B e sz v m xs → (w3.setCell ⟨g, rest.length * 5 + 3, none⟩ v').ownsRow B e sz v m xs := fun {e sz m v xs} h1 hx => own_type hx hgp (fun cur => q4 cur e h1)
  have hk4 := same_put (w := w3) (i := rest.length * 5 + 3) (u := v') q2
  have hk5 : ∀ x, C x → (w3.setCell ⟨g, rest.length * 5 + 3, none⟩ v').heap[x]? = w.heap[x]? := fun x hx => (hk4 x hx).trans (hk x hx)
  have hC3 : ∀ k, C k → k < w3.heap.size := fun k hx => Nat.lt_of_lt_of_le (hC k hx) hg.size
  have hrm : ∀ x ∈ rest, x ∈ p :: rest := fun x hx => List.mem_cons_of_mem _ hx
  have hvo : ∀ k, v'.ownBlock = some k → ¬ C k := fun k e hc => by
    rcases hv with e1 | e1
    · exact hkp.out k (e1.symm.trans e) hc
    · rw [e1] at e
      injection e with e
      exact Nat.lt_irrefl _ (e ▸ hC k hc)
  refine ⟨?_, ?_, ?_, ?_, ?_, ?_, h.quiet, fun x hx => ⟨by have := hC3 x hx; simpa [World.setCell] using this, by rw [hk5 x hx]; exact (h.typ x hx).2⟩, h.base, (h.below.grown hg h.size (fun k e => (hkp.row.lt k e).1)).setCell (p := ⟨g, rest.length * 5 + 3, none⟩) q3 v', by have := Nat.le_trans h.size hg.size; simpa [World.setCell] using this, (h.since.own hkp.row hg (.inr (.inr (.inl rfl)))).own hrow3 hgp (.inr (.inl rfl))⟩
  · rw [hgp.block b (Nat.lt_of_lt_of_le (lt_of_block h.blk) hg.size) (fun e => q1 (Option.some.inj e).symm), hb b _ 47 (by decide) h.blk]
    exact h.blk
  · rw [hvals] at r1
    rw [List.reverse_cons] at r1 ⊢
    have e1 := partVals_set rest.reverse ({ p with kids := p.kids ++ [q], kv := p.kv } : PartV) 3 (by decide) v'
    rw [List.length_reverse] at e1
    rw [e1] at r1
    rw [partVals_append]
    exact r1
  · intro x hx
    rcases List.mem_cons.1 hx with rfl | hx
    · exact (h.attrs p (List.mem_cons_self ..)).mono hk5 (fun _ x => x)
    · exact (h.attrs x (hrm x hx)).mono hk5 (fun _ x => x)
  · intro x hx
    rcases List.mem_cons.1 hx with rfl | hx
    · refine ⟨hown4 (by decide) (by rw [List.length_append]; exact ho), fun y hy => ?_, hvo⟩
      rcases List.mem_append.1 hy with hy | hy
      · exact ⟨(hkp.each y hy).1.mono hk5 (fun _ x => x), (hkp.each y hy).2.mono hk5 (fun _ x => x)⟩
      · obtain rfl := List.mem_singleton.1 hy
        exact ⟨hq.1.mono hk5 (fun _ x => x), hq.2.mono hk5 (fun _ x => x)⟩
    · have := hK x hx
      exact ⟨hown4 (by decide) this.row, fun y hy => ⟨(this.each y hy).1.mono hk4 (fun _ x => x), (this.each y hy).2.mono hk4 (fun _ x => x)⟩, this.out⟩
  · refine List.pairwise_cons.2 ⟨fun x hx => ?_, (List.pairwise_cons.1 h.apart).2⟩
    show v'.ownBlock = none ∨ v'.ownBlock ≠ x.kv.ownBlock
    rcases hv with e | e
    · rw [e]; exact hcl x hx
    · rw [e]
      right
      intro e2
      exact Nat.lt_irrefl _ ((h.kids x (hrm x hx)).row.lt _ e2.symm).2
  · intro x hx
    rcases List.mem_cons.1 hx with rfl | hx
    · have := h.tails p (List.mem_cons_self ..)
      exact ⟨hown4 (by decide) (hown (by decide) this.1), this.2⟩
    · have := h.tails x (hrm x hx)
      exact ⟨hown4 (by decide) (hown (by decide) this.1), this.2⟩
theorem KRow.nodes {C C' : Nat → Prop} {B : Nat} {v : Value} {ks : List KidV} {w : World} (h : KRow C B v ks w) (hC : ∀ b, C b → C' b) (hv : ∀ k, v.ownBlock = some k → C' k) : NodesC C' w v (Tr.of (ks.map Prod.fst)) := by
  rcases h.row.2 with ⟨rfl, h0⟩ | ⟨g, cap, cur, rfl, hg, hh, h1, h2, h3, h4⟩
  · have := List.eq_nil_of_length_eq_zero h0
    subst this
    exact .inl ⟨rfl, rfl⟩
  · have hl : (Tr.of (ks.map Prod.fst)).len = ks.length := by rw [Tr.len_of, List.length_map]
    refine .inr ⟨⟨g, 0, none⟩, cap, by rw [hl], by rw [hl]; exact h1, h2, ?_⟩
    have hcell : ∀ j u, (nodeVals ks)[j]? = some u → w.cell? ((⟨g, 0, none⟩ : Addr).add j) = some u := h.row.cells (g := g) rfl
    have hCg : C' g := hv g rfl
    have main : ∀ (l pre : List KidV), ks = pre ++ l → NodesAt C' w (Tr.of (l.map Prod.fst)) ((⟨g, 0, none⟩ : Addr).add (pre.length * 4)) := by
      intro l
      induction l with
      | nil => intro pre _; exact trivial
      | cons q l ih =>
        intro pre hpre
        obtain ⟨⟨hd, T⟩, va, vk⟩ := q
        have hat : ∀ j, j < 4 → (nodeVals ks)[pre.length * 4 + j]? = [Value.string (str hd.name), va, .string (str hd.text), vk][j]? := fun j hj => by
          rw [hpre, nodeVals_append, List.getElem?_append_right (by rw [nodeVals_length]; omega), nodeVals_length, show pre.length * 4 + j - pre.length * 4 = j by omega]
          unfold nodeVals
          rw [List.flatMap_cons, List.getElem?_append_left (by simpa using hj)]
        have hm := h.each ((hd, T), (va, vk)) (by rw [hpre]; exact List.mem_append.2 (.inr (List.mem_cons_self ..)))
        have c0 := hcell _ _ (hat 0 (by decide))
        have c1 := hcell _ _ (hat 1 (by decide))
        have c2 := hcell _ _ (hat 2 (by decide))
        have c3 := hcell _ _ (hat 3 (by decide))
        rw [← Addr.add_add] at c1 c2 c3
        refine ⟨by rw [addr_add_block]; exact hCg, c0, c2, ⟨va, c1, hm.1.mono (fun _ _ => rfl) hC⟩, ⟨vk, c3, hm.2.mono (fun _ _ => rfl) hC⟩, ?_⟩
        have := ih (pre ++ [((hd, T), (va, vk))]) (by rw [hpre]; simp)
        rw [List.length_append, Nat.add_mul] at this
        rw [Addr.add_add]
        exact this
    have := main ks [] rfl
    rw [List.length_nil, Nat.zero_mul, Addr.add_zero'] at this
    exact this
theorem BS.shrink {C : Nat → Prop} {B b g cap : Nat} {p q : PartV} {rest : List PartV} {n : Nat} {W0 w : World} (h : BS C B b (.slice (some ⟨g, 0, none⟩) (rest.length + 1 + 1) cap) (p :: q :: rest) n W0 w) :
    ∃ C' : Nat → Prop, BS C' B b (.slice (some ⟨g, 0, none⟩) (rest.length + 1) cap) (q :: rest) n W0 (w.setCell ⟨b, 0, none⟩ (.slice (some ⟨g, 0, none⟩) (rest.length + 1) cap)) ∧
      AttrsC C' (w.setCell ⟨b, 0, none⟩ (.slice (some ⟨g, 0, none⟩) (rest.length + 1) cap)) p.av p.attrs ∧ NodesC C' (w.setCell ⟨b, 0, none⟩ (.slice (some ⟨g, 0, none⟩) (rest.length + 1) cap)) p.kv (Tr.of (p.kids.map Prod.fst)) := by
  have hkp := h.kids p (List.mem_cons_self ..)
  have hrm : ∀ x ∈ q :: rest, x ∈ p :: q :: rest := fun x hx => List.mem_cons_of_mem _ hx
  have hrow := h.row
  -- the shorter row
  have hshort : w.ownsRow B 58 5 (.slice (some ⟨g, 0, none⟩) (rest.length + 1) cap) (q :: rest).length (partVals (q :: rest).reverse) := by
    refine ⟨by rw [partVals_length, List.length_reverse], ?_⟩
    rcases hrow.2 with ⟨h0, _⟩ | ⟨g', cap', cur, h0, hg, hh, h1, h2, h3, h4⟩
    · cases h0
    · injection h0 with e1 e2 e3
      injection e1 with e1
      injection e1 with e1
      subst e1 e3
      refine .inr ⟨g, cap, cur, rfl, hg, hh, by simp only [List.length_cons] at h1 ⊢; omega, h2, h3, ?_⟩
      have e5 := congrArg (List.take ((q :: rest).length * 5)) h4
      rw [List.take_take, Nat.min_eq_left (by simp only [List.length_cons]; omega)] at e5
      rw [e5, List.reverse_cons, partVals_append]
      have hl : (partVals (q :: rest).reverse).length = (q :: rest).length * 5 := by rw [partVals_length, List.length_reverse]
      rw [List.take_append_of_le_length (Nat.le_of_eq hl.symm), ← hl, List.take_length]
  obtain ⟨C', hC'⟩ : ∃ C' : Nat → Prop, C' = fun x => C x ∨ p.kv.ownBlock = some x := ⟨_, rfl⟩
  have hsub : ∀ x, C x → C' x := fun x hx => by rw [hC']; exact .inl hx
  have hv : ∀ k, p.kv.ownBlock = some k → C' k := fun k e => by rw [hC']; exact .inr e
  have hcl := (List.pairwise_cons.1 h.apart).1
  have hbs : BS C' B b (.slice (some ⟨g, 0, none⟩) (rest.length + 1) cap) (q :: rest) n W0 (w.setCell ⟨b, 0, none⟩ (.slice (some ⟨g, 0, none⟩) (rest.length + 1) cap)) := by
    have ho := h.out
    have hnb : ¬ C' b := by
      rw [hC']
      rintro (hx | hx)
      · exact ho.1 hx
      · exact absurd hx (fun e => (ownsRow_other hkp.row (r := b) (fun cur hb => ho.2 cur _ (by decide) hb)) e)
    have hgp := grown_put w b 0 (.slice (some ⟨g, 0, none⟩) (rest.length + 1) cap)
    have hown : ∀ {e : TypeId} {sz m : Nat} {v : Value} {xs : List Value}, e ≠ 47 → w.ownsRow B e sz v m xs → (w.setCell ⟨b, 0, none⟩ (.slice (some ⟨g, 0, none⟩) (rest.length + 1) cap)).ownsRow B e sz v m xs := fun {e sz m v xs} h1 hx => own_type hx hgp (fun cur => ho.2 cur e h1)
    have hk := same_put (w := w) (i := 0) (u := .slice (some ⟨g, 0, none⟩) (rest.length + 1) cap) hnb
    have hk0 : ∀ x, C x → (w.setCell ⟨b, 0, none⟩ (.slice (some ⟨g, 0, none⟩) (rest.length + 1) cap)).heap[x]? = w.heap[x]? := fun x hx => hk x (hsub x hx)
    refine ⟨by rw [heap_put0 h.blk]; rfl, hown (by decide) hshort, fun x hx => (h.attrs x (hrm x hx)).mono hk0 hsub, fun x hx => ?_, (List.pairwise_cons.1 h.apart).2, fun x hx => ⟨hown (by decide) (h.tails x (hrm x hx)).1, (h.tails x (hrm x hx)).2⟩,
      fun x hx => h.quiet x (by simpa using List.mem_cons_of_mem _ hx), fun x hx => ?_, h.base, h.below.setCell (p := ⟨b, 0, none⟩) h.base _, by simpa [World.setCell] using h.size, h.since.put h.blk (.inl rfl)⟩
    · have hx2 := h.kids x (hrm x hx)
      refine ⟨hown (by decide) hx2.row, fun y hy => ⟨(hx2.each y hy).1.mono hk0 hsub, (hx2.each y hy).2.mono hk0 hsub⟩, fun k e => ?_⟩
      rw [hC']
      rintro (hc | hc)
      · exact hx2.out k e hc
      · rcases hcl x hx with e1 | e1
        · rw [e1] at hc; cases hc
        · exact e1 (hc.trans e.symm)
    · rw [hk x hx]
      rw [hC'] at hx
      rcases hx with hx | hx
      · exact ⟨by have := (h.typ x hx).1; simpa [World.setCell] using this, (h.typ x hx).2⟩
      · refine ⟨by have := (hkp.row.lt x hx).2; simpa [World.setCell] using this, fun cur T fz hh => ?_⟩
        rcases hkp.row.2 with ⟨e0, _⟩ | ⟨g', cap', cur', e0, _, hh', _⟩
        · rw [e0] at hx; cases hx
        · rw [e0] at hx
          obtain rfl : g' = x := by simpa [Value.ownBlock] using hx
          rw [hh'] at hh
          injection hh with hh
          injection hh with _ hh
          exact .inl hh.symm
  have hnb2 : ¬ C' b := hbs.out.1
  have hk2 := same_put (w := w) (i := 0) (u := .slice (some ⟨g, 0, none⟩) (rest.length + 1) cap) hnb2
  exact ⟨C', hbs, (h.attrs p (List.mem_cons_self ..)).mono (fun x hx => hk2 x (hsub x hx)) hsub, (hkp.nodes hsub hv).mono hk2 (fun _ x => x)⟩
theorem BS.pushPart {C : Nat → Prop} {B b : Nat} {r r' : Value} {st : List PartV} {n : Nat} {W0 w w2 : World} (h : BS C B b r st n W0 w) (nm : List UInt8) (ats : List AtL) (av : Value) (ha : AttrsC C w av ats) (hq : ∀ p ∈ st, p.tail = [])
    (ho : w2.ownsRow B 58 5 r' (st.length + 1) (partVals st.reverse ++ partVals [⟨nm, ats, av, [], .slice none 0 0, [], .slice none 0 0⟩])) (hg : w.grownBy w2 r.ownBlock) :
    BS C B b r' (⟨nm, ats, av, [], .slice none 0 0, [], .slice none 0 0⟩ :: st) n W0 (w2.setCell ⟨b, 0, none⟩ r') := by
  have hC : ∀ k, C k → k < w.heap.size := fun k hk => (h.typ k hk).1
  have hrC : ∀ k, r.ownBlock = some k → ¬ C k := fun k e hc => by
    rcases h.row.2 with ⟨e0, _⟩ | ⟨g, cap, cur, e0, _⟩
    · rw [e0] at e; cases e
    · subst e0
      obtain rfl : g = k := by simpa [Value.ownBlock] using e
      exact h.rowOut.2.1 hc
  have hk : ∀ x, C x → w2.heap[x]? = w.heap[x]? := fun x hx => hg.block x (hC x hx) (fun e => hrC x e.symm hx)
  have hown : ∀ {e : TypeId} {sz m : Nat} {v : Value} {xs : List Value}, e ≠ 58 → w.ownsRow B e sz v m xs → w2.ownsRow B e sz v m xs := fun {e sz m v xs} h1 hx => hx.kept hg (ownsRow_diff h1 hx h.row)
  have hblk : w2.heap[b]? = some (.cells #[r, .int .i64 n] 47 (0, 0)) := by
    rw [hg.block b (lt_of_block h.blk) (fun e => (ownsRow_other h.row (r := b) (fun cur hb => h.out.2 cur _ (by decide) hb)) e.symm)]
    exact h.blk
  have hgp := grown_put w2 b 0 r'
  have hnb : ∀ (cur : Array Value) (e : TypeId), e ≠ 47 → w2.heap[b]? ≠ some (Obj.cells cur e (0, 0)) := fun cur e he hx => by
    rw [hblk] at hx
    injection hx with hx
    injection hx with _ hx
    exact he hx.symm
  have hown4 : ∀ {e : TypeId} {sz m : Nat} {v : Value} {xs : List Value}, e ≠ 47 → w2.ownsRow B e sz v m xs → (w2.setCell ⟨b, 0, none⟩ r').ownsRow B e sz v m xs := fun {e sz m v xs} h1 hx => own_type hx hgp (fun cur => hnb cur e h1)
  have hk4 := same_put (w := w2) (i := 0) (u := r') h.out.1
  have hk5 : ∀ x, C x → (w2.setCell ⟨b, 0, none⟩ r').heap[x]? = w.heap[x]? := fun x hx => (hk4 x hx).trans (hk x hx)
  refine ⟨by rw [heap_put0 hblk]; rfl, ?_, ?_, ?_, ?_, ?_, fun p hp => hq p hp, fun x hx => ⟨by have := Nat.lt_of_lt_of_le (hC x hx) hg.size; simpa [World.setCell] using this, by rw [hk5 x hx]; exact (h.typ x hx).2⟩, h.base, (h.below.grown hg h.size (fun k e => (h.row.lt k e).1)).setCell (p := ⟨b, 0, none⟩) h.base r', by have := Nat.le_trans h.size hg.size; simpa [World.setCell] using this, (h.since.own h.row hg (.inr (.inl rfl))).put hblk (.inl rfl)⟩
  · refine hown4 (by decide) ?_
    rw [List.length_cons, List.reverse_cons, partVals_append]
    exact ho
  · intro x hx
    rcases List.mem_cons.1 hx with rfl | hx
    · exact ha.mono hk5 (fun _ x => x)
    · exact (h.attrs x hx).mono hk5 (fun _ x => x)
  · intro x hx
    rcases List.mem_cons.1 hx with rfl | hx
    · exact ⟨World.ownsRow_nil _ B _ 4, fun y hy => (by cases hy), fun k e => (by cases e)⟩
    · have := h.kids x hx
      exact ⟨hown4 (by decide) (hown (by decide) this.row), fun y hy => ⟨(this.each y hy).1.mono hk5 (fun _ x => x), (this.each y hy).2.mono hk5 (fun _ x => x)⟩, this.out⟩
  · exact List.pairwise_cons.2 ⟨fun x hx => .inl rfl, h.apart⟩
  · intro x hx
    rcases List.mem_cons.1 hx with rfl | hx
    · exact ⟨World.ownsRow_nil _ B _ 1, fun _ => rfl⟩
    · exact ⟨hown4 (by decide) (hown (by decide) (h.tails x hx).1), (h.tails x hx).2⟩
theorem BS.wider {C C' : Nat → Prop} {B b : Nat} {r : Value} {st : List PartV} {n : Nat} {W0 w : World} (h : BS C B b r st n W0 w) (hs : ∀ x, C x → C' x) (ho : ∀ p ∈ st, ∀ g, p.kv.ownBlock = some g → ¬ C' g)
    (ht : ∀ g, C' g → g < w.heap.size ∧ ∀ cur T fz, w.heap[g]? = some (.cells cur T fz) → T = 33 ∨ T = 43) : BS C' B b r st n W0 w :=
  ⟨h.blk, h.row, fun p hp => (h.attrs p hp).mono (fun _ _ => rfl) hs, fun p hp => ⟨(h.kids p hp).row, fun q hq => ⟨((h.kids p hp).each q hq).1.mono (fun _ _ => rfl) hs, ((h.kids p hp).each q hq).2.mono (fun _ _ => rfl) hs⟩, ho p hp⟩, h.apart, h.tails, h.quiet, ht, h.base, h.below, h.size, h.since⟩
theorem BS.from {C : Nat → Prop} {B b : Nat} {r : Value} {st : List PartV} {n : Nat} {W0 w : World} (h : BS C B b r st n W0 w) : BS C B b r st n w w :=
  ⟨h.blk, h.row, h.attrs, h.kids, h.apart, h.tails, h.quiet, h.typ, h.base, Below.refl _ _, h.size, Since4.refl _⟩
end Go.Proofs.YtiejmkjpgjbodaaGreatDoor

namespace Go.Proofs.YtiejmkjpgjbodaaGreatDoor
open Go.RowKit
set_option linter.unusedVariables false
set_option linter.unusedSimpArgs false
set_option maxRecDepth 100000
set_option maxHeartbeats 2000000 in
theorem inner14_any (C : Nat → Prop) (B b : Nat) (r : Value) (st : List PartV) (n : Nat) (W0 w : World) (h : BS C B b r st n W0 w) (hs : st ≠ []) (hl : st.length ≤ 1048576) :
    Calls Tryz.prog 39 #[.pointer (some ⟨b, 0, none⟩)] w fun e w' => (∃ g cap, r = .slice (some ⟨g, 0, none⟩) st.length cap ∧ e = .returned (.pointer (some ⟨g, (st.length - 1) * 5, none⟩))) ∧ ∃ m, w' = w.drewN m := by
  obtain ⟨g, cap, rfl, h1, h2, h3, h4⟩ := h.form hs
  have c0 := h.c0
  obtain ⟨k, hk⟩ : ∃ k, st.length = k + 1 := ⟨st.length - 1, by have := List.length_pos_iff.2 hs; omega⟩
  rw [hk] at c0 hl ⊢
  have tn1 : wrap64 (((k + 1 : Nat) : Int) - 1) = (k : Int) := by unfold wrap64; omega
  have tn4 : wrap64 ((k : Int) + 1 - 1) = (k : Int) := by unfold wrap64; omega
  have tn2 : ((k + 1 : Nat) : Int) - 1 = (k : Int) := by omega
  have tn5 : (k : Int) < (k : Int) + 1 := by omega
  clear h hs hk h1 h2 h3 h4
  go_enter Tryz.func39, Tryz.ntmps39
  go_wp2_with fail
  go_quiet (fail)
  go_wp2_with fail
  go_ret
  exact ⟨⟨g, cap, rfl, rfl⟩, nq, rfl⟩
set_option maxHeartbeats 2000000 in
theorem take_no (C : Nat → Prop) (B b : Nat) (r : Value) (st : List PartV) (W0 w : World) (h : BS C B b r st 5000 W0 w) :
    Calls Tryz.prog 85 #[.pointer (some ⟨b, 0, none⟩)] w fun e w' => e = .returned (.bool false) ∧ w = w' := by
  have c1 := h.c1
  clear h
  go_enter Tryz.func85, Tryz.ntmps85
  go_wp2_with fail
  go_ret
  exact ⟨rfl, rfl⟩
set_option maxHeartbeats 2000000 in
theorem take_yes (C : Nat → Prop) (B b : Nat) (r : Value) (st : List PartV) (n : Nat) (W0 w : World) (h : BS C B b r st n W0 w) (hn : n < 5000) :
    Calls Tryz.prog 85 #[.pointer (some ⟨b, 0, none⟩)] w fun e w' => e = .returned (.bool true) ∧ BS C B b r st (n + 1) W0 w' := by
  have c1 := h.c1
  have f1 := h.free 1
  have t0 : ((n : Int) == 5000) = false := beq_eq_false_iff_ne.2 (by omega)
  have HB := hide (h.setCount (n + 1))
  clear h
  go_enter Tryz.func85, Tryz.ntmps85
  go_wp2_with fail
  go_ret
  exact ⟨rfl, HB.out⟩
end Go.Proofs.YtiejmkjpgjbodaaGreatDoor

namespace Go.Proofs.YtiejmkjpgjbodaaGreatDoor
open Go.RowKit
set_option linter.unusedVariables false
set_option linter.unusedSimpArgs false
set_option maxRecDepth 100000
theorem freeze_other (w : World) (g n k : Nat) (h : k ≠ g) : (w.freeze ⟨g, 0, none⟩ n).heap[k]? = w.heap[k]? := by
  unfold World.freeze
  split
  · rfl
  · simp [Array.getElem?_modify, Ne.symm h]
theorem freeze_size (w : World) (g n : Nat) : (w.freeze ⟨g, 0, none⟩ n).heap.size = w.heap.size := by
  unfold World.freeze
  split <;> simp
theorem RowsK.freeze {w : World} {g n cap : Nat} {cur : Array Value} (hg : w.heap[g]? = some (.cells cur 5 (0, 0))) : RowsK w (w.freeze ⟨g, 0, none⟩ n) := fun B e sz m x xs h1 _ hx =>
  hx.kept (row := some g) ⟨by unfold World.freeze; split <;> rfl, by unfold World.freeze; split <;> rfl, by unfold World.freeze; split <;> rfl, by rw [freeze_size]; exact Nat.le_refl _, fun k _ hk => freeze_other w g n k (fun e => hk (by rw [e]))⟩ (.inr (ownsRow_other hx (fun cur' hc => by
    rw [hg] at hc
    injection hc with hc
    injection hc with _ hc
    exact h1 hc.symm)))
def RdrS (B b : Nat) (o : Value) (vs : List TokV) (W0 w : World) : Prop := (∃ a v, RdC w b o a v) ∧ TRow B o vs w ∧ B ≤ b ∧ Below B W0 w ∧ B ≤ w.heap.size
set_option maxHeartbeats 2000000 in
theorem stringR_any (B b : Nat) (o : Value) (vs : List TokV) (x : List UInt8) (W0 w : World) (h : Rdr B b o vs x W0 w) (h0 : x ≠ []) :
    Calls Tryz.prog 57 #[.pointer (some ⟨b, 1, none⟩)] w fun e w' => e = .returned (.string (str x)) ∧ RdrS B b o vs W0 w' ∧ w.heap.size ≤ w'.heap.size ∧ (∀ (k : Nat), (∀ (cur : Array Value) (fr : Nat × Nat), w.heap[k]? ≠ some (Obj.cells cur 5 fr)) → w'.heap[k]? = w.heap[k]?) := by
  obtain ⟨⟨a, v, h1, h2, h3, h4⟩, ht, hB, hW, hz⟩ := h
  have hl0 : x.length ≠ 0 := by simpa using h0
  obtain ⟨g, cap, cur, rfl, hbg, hg, hnc, hcm, hcs, htake⟩ : ∃ g cap cur, v = .slice (some ⟨g, 0, none⟩) x.length cap ∧ B ≤ g ∧ w.heap[g]? = some (.cells cur 5 (0, 0)) ∧ x.length ≤ cap ∧ cap ≤ maxLen ∧ cur.size = cap * 1 ∧ cur.toList.take (x.length * 1) = cellsOf x := by
    rcases h3.2 with ⟨_, hz⟩ | ⟨g, cap, cur, hv, r⟩
    · exact absurd hz hl0
    · exact ⟨g, cap, cur, hv, r⟩
  have hgb : g ≠ b := fun e => h4 (by rw [e]; rfl)
  have c2 : w.cell? ⟨b, 2, none⟩ = some (.slice (some ⟨g, 0, none⟩) x.length cap) := h1.cell2
  have c2d : w.drew.cell? ⟨b, 2, none⟩ = some (.slice (some ⟨g, 0, none⟩) x.length cap) := c2
  have hSD : (Builtin.unsafeSliceData_ #[56] 120 #[.slice (some ⟨g, 0, none⟩) x.length cap]).run Tryz.prog w.drew = .ok (.pointer (some ⟨g, 0, none⟩)) w.drew :=
    Lib.run_unsafeSliceData_row _ _ _ _ _ _ (by omega)
  have hUS : (Builtin.unsafeString_ #[120, 3] 9 #[.pointer (some ⟨g, 0, none⟩), .int .i64 x.length]).run Tryz.prog w.drew = .ok (.string (str x)) (w.drew.freeze ⟨g, 0, none⟩ x.length) := by
    refine Lib.run_unsafeString_row w.drew 120 3 9 5 Tryz.underlying120 (by kernel_rfl) g cur.size (by have hg' : w.drew.heap[g]? = some (.cells cur 5 (0, 0)) := hg; simp [World.shape?, hg']) x h0 (by omega) (by unfold maxLen at hcm; omega) ?_
    intro j y hy
    exact h3.cells (g := g) rfl j (.int .u8 y.toNat) (by simp [cellsOf, hy])
  have HKK : Hid (w.heap.size ≤ (w.drew.freeze ⟨g, 0, none⟩ x.length).heap.size ∧ (∀ (k : Nat), (∀ (cur : Array Value) (fr : Nat × Nat), w.heap[k]? ≠ some (Obj.cells cur 5 fr)) → (w.drew.freeze ⟨g, 0, none⟩ x.length).heap[k]? = w.heap[k]?)) := hide (by
    refine ⟨by rw [freeze_size]; exact Nat.le_refl _, fun k hk => ?_⟩
    exact freeze_other w.drew g x.length k (fun e => hk cur (0, 0) (by rw [e]; exact hg)))
  have HS : Hid (RdrS B b o vs W0 (w.drew.freeze ⟨g, 0, none⟩ x.length)) := hide (by
    have hgd : w.drew.heap[g]? = some (.cells cur 5 (0, 0)) := hg
    have htd : TRow B o vs w.drew := ⟨ht.row, ht.each⟩
    refine ⟨⟨a, _, (freeze_other w.drew g x.length b (Ne.symm hgb)).trans h1⟩, htd.rows (RowsK.freeze (cap := cap) hgd), hB, Lib.below_freeze hW.drew (p := ⟨g, 0, none⟩) hbg _, ?_⟩
    rw [freeze_size]
    exact hz)
  clear h1 h2 h3 h4 ht hB hW hz hg hcs htake hnc hcm hbg hgb h0
  go_enter Tryz.func57, Tryz.ntmps57
  go_wp2_with fail
  go_region
  all_goals
    try go_wp2_with fail
    go_ret
    exact ⟨rfl, HS.out, HKK.out⟩
set_option maxHeartbeats 1000000 in
theorem resetR_any (B b : Nat) (o : Value) (vs : List TokV) (W0 w : World) (h : RdrS B b o vs W0 w) :
    Calls Tryz.prog 127 #[.pointer (some ⟨b, 1, none⟩)] w fun e w' => e = .returned (.tuple #[]) ∧ Rdr B b o vs [] W0 w' ∧ w.heap.size ≤ w'.heap.size ∧ ∀ (k : Nat), k ≠ b → w'.heap[k]? = w.heap[k]? := by
  obtain ⟨⟨a, v, h1⟩, ht, hB, hW, hz⟩ := h
  have f1 := h1.free 1
  have c1 := h1.cell1
  have k1 := h1.put1 (.pointer none)
  have f2 := k1.free 2
  have d2 := k1.cell2
  have HR : Hid (Rdr B b o vs [] W0 ((w.setCell ⟨b, 1, none⟩ (.pointer none)).setCell ⟨b, 2, none⟩ (.slice none 0 0))) := hide
    ⟨⟨_, _, k1.put2 _, .inl rfl, World.ownsRow_nil _ B _ 1, by simp [Value.ownBlock]⟩, ht.rows ((RowsK.put h1 1 _).trans (RowsK.put k1 2 _)), hB, (hW.setCell (p := ⟨b, 1, none⟩) hB _).setCell (p := ⟨b, 2, none⟩) hB _, by simpa [World.setCell] using hz⟩
  have HK : Hid (w.heap.size ≤ ((w.setCell ⟨b, 1, none⟩ (.pointer none)).setCell ⟨b, 2, none⟩ (.slice none 0 0)).heap.size ∧ ∀ k, k ≠ b → ((w.setCell ⟨b, 1, none⟩ (.pointer none)).setCell ⟨b, 2, none⟩ (.slice none 0 0)).heap[k]? = w.heap[k]?) := hide
    ⟨by simp [World.setCell], fun k hk => (Below.heap_setCell _ _ _ k (fun e => hk (by rw [e]))).trans (Below.heap_setCell _ _ _ k (fun e => hk (by rw [e])))⟩
  clear h1 ht hB hW hz k1
  go_enter Tryz.func127, Tryz.ntmps127
  go_wp2_with fail
  go_end0
  exact ⟨rfl, HR.out, HK.out⟩
theorem step_toks {ops : Array Oper} {o : Oper} {a : Act} {w : World} {K : Act → World → Prop} {Q : Exit → Act → World → Prop} {E : Prop} (hgd : o.guard = none) (s x : Operand)
    (ho : o.op = .call { callee := .builtin .append, args := #[s, x], argTypes := #[48, 48] })
    (B : Nat) (v : Value) (ls : List TokV) (hs : a.eval s = v) (t : TokL) (u : Value) (hb : TRow B v ls w) (hu : w.ownsRow B 43 2 u t.attrs.length (atVals t.attrs)) (hB : B ≤ w.heap.size) (ad : Addr)
    (hx : a.eval x = .slice (some ad) 1 1) (h0 : w.cell? (ad.add 0) = some (.int .i64 (t.kind : Int))) (h1 : w.cell? (ad.add 1) = some (.string (str t.name))) (h2 : w.cell? (ad.add 2) = some u) (h3 : w.cell? (ad.add 3) = some (.string (str t.text)))
    (hlen : ls.length + 1 ≤ 2199023255552)
    (h : ∀ v' w', TRow B v' (ls ++ [(t, u)]) w' → w.grownBy w' v.ownBlock → K (a.put o.dst v') w') :
    if Region.wanted o (yielded ops a.tmps) = true then Oper.wp Tryz.prog o a w K Q else E := by
  have hw : Region.wanted o (yielded ops a.tmps) = true := by simp [Region.wanted, hgd]
  rw [if_pos hw]
  obtain ⟨i0, hi, hz0, hz1, hz2⟩ := info_parts info_tok
  obtain ⟨A, c, rfl⟩ : ∃ A c, u = .slice A t.attrs.length c := by
    rcases hu.2 with ⟨rfl, h0⟩ | ⟨g, cap, cur, rfl, _⟩
    · rw [h0]; exact ⟨_, _, rfl⟩
    · exact ⟨_, _, rfl⟩
  refine wp_append_own _ s x 48 ho B 51 i0 (.agg #[.int .i64 0, .string ByteArray.empty, .slice none 0 0, .string ByteArray.empty]) 4 64 Tryz.underlying48 hi hz0 hz1 hz2 rfl (by decide) v ls.length (tokVals ls) hs hb.row ad 1 1 (tokVals [(t, .slice A t.attrs.length c)]) hx rfl ?_ ?_ (by unfold maxLen; omega) (by omega) hB ?_
  · intro j u hj
    match j, hj with
    | 0, hj => simp [tokVals] at hj; subst hj; exact h0
    | 1, hj => simp [tokVals] at hj; subst hj; exact h1
    | 2, hj => simp [tokVals] at hj; subst hj; exact h2
    | 3, hj => simp [tokVals] at hj; subst hj; exact h3
    | (j + 4), hj => simp [tokVals] at hj
  · intro u hu
    simp [tokVals] at hu
    rcases hu with rfl | rfl | rfl | rfl <;> rfl
  · intro v' w' ho' hg _
    exact h v' w' (hb.push hu ho' hg) hg
end Go.Proofs.YtiejmkjpgjbodaaGreatDoor

