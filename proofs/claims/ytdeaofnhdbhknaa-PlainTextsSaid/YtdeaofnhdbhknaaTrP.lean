/- Trees as pure data: a row of nodes is the first one, what is in it, those behind it. Split off XTreeM. No statement is proved here. Own work of the verifier. -/
import Derived.Test.YtdeaofnhdbhknaaProg
namespace Go.Proofs.Ytdeaofnhdbhknaa
set_option linter.unusedVariables false
set_option linter.unusedSimpArgs false
set_option maxRecDepth 100000
/-- an attribute: its name, its value -/
abbrev AtL := List UInt8 × List UInt8
/-- a node without what is in it -/
structure NdH where
  name : List UInt8
  attrs : List AtL
  text : List UInt8
deriving DecidableEq
/-- a row of nodes: the first one, what is in it, those behind it -/
inductive Tr where
  | nil : Tr
  | cons : NdH → Tr → Tr → Tr
deriving DecidableEq
def Tr.len : Tr → Nat
  | .nil => 0
  | .cons _ _ r => r.len + 1
def Tr.count : Tr → Nat
  | .nil => 0
  | .cons _ k r => 1 + k.count + r.count
def Tr.depth : Tr → Nat
  | .nil => 0
  | .cons _ k r => max (1 + k.depth) r.depth
def Tr.app : Tr → Tr → Tr
  | .nil, t => t
  | .cons h k r, t => .cons h k (r.app t)
def Tr.list : Tr → List (NdH × Tr)
  | .nil => []
  | .cons h k r => (h, k) :: r.list
def Tr.of : List (NdH × Tr) → Tr
  | [] => .nil
  | (h, k) :: r => .cons h k (Tr.of r)
def Tr.drop : Nat → Tr → Tr
  | 0, t => t
  | _ + 1, .nil => .nil
  | n + 1, .cons _ _ r => Tr.drop n r
theorem Tr.of_list (t : Tr) : Tr.of t.list = t := by induction t with
  | nil => rfl
  | cons h k r _ ih => simp [Tr.list, Tr.of, ih]
theorem Tr.list_of (l : List (NdH × Tr)) : (Tr.of l).list = l := by induction l with
  | nil => rfl
  | cons p r ih => simp [Tr.list, Tr.of, ih]
theorem Tr.len_list (t : Tr) : t.list.length = t.len := by induction t with
  | nil => rfl
  | cons h k r _ ih => simp [Tr.list, Tr.len, ih]
theorem Tr.len_of (l : List (NdH × Tr)) : (Tr.of l).len = l.length := by rw [← Tr.len_list, Tr.list_of]
theorem Tr.len_count (t : Tr) : t.len ≤ t.count := by induction t with
  | nil => exact Nat.le_refl _
  | cons h k r _ ih => simp only [Tr.len, Tr.count]; omega
theorem Tr.list_inj {a b : Tr} (h : a.list = b.list) : a = b := by rw [← Tr.of_list a, h, Tr.of_list]
theorem Tr.list_app (a b : Tr) : (a.app b).list = a.list ++ b.list := by induction a with
  | nil => rfl
  | cons h k r _ ih => simp [Tr.app, Tr.list, ih]
theorem Tr.list_drop (n : Nat) (t : Tr) : (Tr.drop n t).list = t.list.drop n := by
  induction n generalizing t with
  | zero => rfl
  | succ n ih => cases t with
    | nil => rfl
    | cons h k r => simp [Tr.drop, Tr.list, ih]
theorem Tr.drop_cons (n : Nat) (t : Tr) (h : n < t.len) : ∃ p k, Tr.drop n t = .cons p k (Tr.drop (n + 1) t) ∧ t.list[n]? = some (p, k) := by
  induction n generalizing t with
  | zero => cases t with
    | nil => exact absurd h (Nat.not_lt_zero _)
    | cons p k r => exact ⟨p, k, rfl, rfl⟩
  | succ n ih => cases t with
    | nil => exact absurd h (Nat.not_lt_zero _)
    | cons p k r =>
      obtain ⟨p', k', h1, h2⟩ := ih r (by simp only [Tr.len] at h; omega)
      exact ⟨p', k', h1, by simpa [Tr.list] using h2⟩
theorem Tr.drop_end (n : Nat) (t : Tr) (h : t.len ≤ n) : Tr.drop n t = .nil := by
  apply Tr.list_inj
  rw [Tr.list_drop]
  exact List.drop_eq_nil_of_le (by rw [Tr.len_list]; exact h)
theorem Tr.drop_len (n : Nat) (t : Tr) : (Tr.drop n t).len = t.len - n := by rw [← Tr.len_list, Tr.list_drop, List.length_drop, Tr.len_list]
theorem Tr.drop_count (n : Nat) (t : Tr) : (Tr.drop n t).count ≤ t.count := by
  induction n generalizing t with
  | zero => exact Nat.le_refl _
  | succ n ih => cases t with
    | nil => exact Nat.le_refl _
    | cons h k r => have := ih r; simp only [Tr.drop, Tr.count]; omega
theorem Tr.at_count {t : Tr} {n : Nat} {p : NdH} {k : Tr} (h : t.list[n]? = some (p, k)) : k.count < t.count := by
  induction n generalizing t with
  | zero => cases t with
    | nil => cases h
    | cons h' k' r => simp [Tr.list] at h; obtain ⟨rfl, rfl⟩ := h; simp only [Tr.count]; omega
  | succ n ih => cases t with
    | nil => cases h
    | cons h' k' r => have := ih (t := r) (by simpa [Tr.list] using h); simp only [Tr.count]; omega
/-- every node of t, at any place -/
def Tr.all (f : NdH → Bool) : Tr → Bool
  | .nil => true
  | .cons h k r => f h && (k.all f && r.all f)
theorem Tr.all_at {f : NdH → Bool} {t : Tr} {n : Nat} {p : NdH} {k : Tr} (ha : t.all f = true) (h : t.list[n]? = some (p, k)) : f p = true ∧ k.all f = true := by
  induction n generalizing t with
  | zero => cases t with
    | nil => cases h
    | cons h' k' r =>
      simp only [Tr.all, Bool.and_eq_true] at ha
      simp [Tr.list] at h; obtain ⟨rfl, rfl⟩ := h; exact ⟨ha.1, ha.2.1⟩
  | succ n ih => cases t with
    | nil => cases h
    | cons h' k' r =>
      simp only [Tr.all, Bool.and_eq_true] at ha
      exact ih (t := r) ha.2.2 (by simpa [Tr.list] using h)
end Go.Proofs.Ytdeaofnhdbhknaa
