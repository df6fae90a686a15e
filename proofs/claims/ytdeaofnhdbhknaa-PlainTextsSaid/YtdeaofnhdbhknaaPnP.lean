/- Plain texts, pure: how deep a line is quoted, the tree of lines. No statement is proved here. Own work of the verifier. -/
import Derived.Test.YtdeaofnhdbhknaaTrP
import Derived.Test.YtdeaofnhdbhknaaLineP
namespace Go.Proofs.Ytdeaofnhdbhknaa
set_option linter.unusedVariables false
set_option linter.unusedSimpArgs false
set_option maxRecDepth 100000
/-! ### levels -/
/-- without a blank at its begin -/
def dropB : List UInt8 → List UInt8
  | [] => []
  | c :: r => if c = 32 then r else c :: r
/-- how many signs stand ahead of a line, k at most, and what it says -/
def lvP : Nat → List UInt8 → Nat × List UInt8
  | 0, l => (0, l)
  | _ + 1, [] => (0, [])
  | k + 1, c :: r => if c = 62 then ((lvP k (dropB r)).1 + 1, (lvP k (dropB r)).2) else (0, c :: r)
def levelL (l : List UInt8) : Nat × List UInt8 := lvP 20 l
theorem lvP_zero (l : List UInt8) : lvP 0 l = (0, l) := by cases l <;> rfl
theorem lvP_nil (k : Nat) : lvP k [] = (0, []) := by cases k <;> rfl
theorem lvP_sign (k : Nat) (r : List UInt8) : lvP (k + 1) (62 :: r) = ((lvP k (dropB r)).1 + 1, (lvP k (dropB r)).2) := by rw [lvP, if_pos rfl]
theorem lvP_none (k : Nat) (l : List UInt8) (h : l.head? ≠ some 62) : lvP k l = (0, l) := by
  cases k with
  | zero => exact lvP_zero l
  | succ k => cases l with
    | nil => rfl
    | cons c r => rw [lvP, if_neg (fun e => h (by rw [e]; rfl))]
theorem dropB_le (l : List UInt8) : (dropB l).length ≤ l.length := by
  cases l with
  | nil => exact Nat.le_refl _
  | cons c r => simp only [dropB]; split <;> simp
theorem lvP_le (k : Nat) (l : List UInt8) : (lvP k l).1 ≤ k ∧ (lvP k l).2.length ≤ l.length := by
  induction k generalizing l with
  | zero => rw [lvP_zero]; exact ⟨Nat.le_refl _, Nat.le_refl _⟩
  | succ k ih => cases l with
    | nil => exact ⟨Nat.zero_le _, Nat.le_refl _⟩
    | cons c r =>
      have h := ih (dropB r)
      have h2 := dropB_le r
      unfold lvP
      split
      · simp only [List.length_cons]; omega
      · exact ⟨Nat.zero_le _, Nat.le_refl _⟩
theorem levelL_le (l : List UInt8) : (levelL l).1 ≤ 20 ∧ (levelL l).2.length ≤ l.length := lvP_le 20 l
/-- one round: a sign is taken -/
theorem lvP_step (n k : Nat) (r : List UInt8) : lvP (k + 1) (62 :: r) = ((lvP k (dropB r)).1 + 1, (lvP k (dropB r)).2) := lvP_sign k r
/-- more signs may count: where fewer than k stand it is the same -/
theorem lvP_more (k : Nat) (l : List UInt8) (h : (lvP (k + 1) l).1 ≤ k) : lvP (k + 1) l = lvP k l := by
  induction k generalizing l with
  | zero =>
    cases l with
    | nil => rfl
    | cons c r =>
      by_cases hc : c = 62
      · subst hc; rw [lvP_sign] at h; simp at h
      · rw [lvP_none _ (c :: r) (fun e => hc (Option.some.inj e)), lvP_zero]
  | succ k ih =>
    cases l with
    | nil => rfl
    | cons c r =>
      by_cases hc : c = 62
      · subst hc
        rw [lvP_sign] at h ⊢
        rw [lvP_sign, ih (dropB r) (by simpa using h)]
      · rw [lvP_none _ (c :: r) (fun e => hc (Option.some.inj e)), lvP_none _ (c :: r) (fun e => hc (Option.some.inj e))]
/-! ### trees of plain texts -/
abbrev LnL := Nat × List UInt8
def txH (l : List UInt8) : NdH := ⟨[], [], l⟩
def elH (l : List UInt8) : NdH := ⟨l, [], []⟩
def quH : NdH := elH [98, 108, 111, 99, 107, 113, 117, 111, 116, 101]
def brH : NdH := elH [98, 114]
/-- what a line says, ahead of others -/
def saysT (s : List UInt8) (T : Tr) : Tr := if s = [] then T else .cons (txH s) .nil T
/-- a line ahead of others: its level, what it says, the level of the one behind it, their tree -/
def insP : Nat → List UInt8 → Option Nat → Tr → Tr
  | 0, s, m, T => saysT s (if m = some 0 then .cons brH .nil T else T)
  | n + 1, s, some (m + 1), .cons h K R => .cons h (insP n s (some m) K) R
  | n + 1, s, _, T => .cons quH (insP n s none .nil) T
def nextL (l : List LnL) : Option Nat := l.head?.map (·.1)
def treeP : List LnL → Tr
  | [] => .nil
  | p :: r => insP p.1 p.2 (nextL r) (treeP r)
theorem saysT_app (s : List UInt8) (T U : Tr) : saysT s (T.app U) = (saysT s T).app U := by
  unfold saysT; split <;> rfl
theorem Tr.app_nil (T : Tr) : T.app .nil = T := by induction T with
  | nil => rfl
  | cons h k r _ ih => rw [Tr.app, ih]
theorem Tr.app_assoc (a b c : Tr) : (a.app b).app c = a.app (b.app c) := by induction a with
  | nil => rfl
  | cons h k r _ ih => simp only [Tr.app, ih]
theorem insP_zero (s : List UInt8) (m : Option Nat) (T : Tr) : insP 0 s m T = saysT s (if m = some 0 then .cons brH .nil T else T) := by cases m <;> cases T <;> rfl
theorem insP_none (n : Nat) (s : List UInt8) (T : Tr) : insP (n + 1) s none T = .cons quH (insP n s none .nil) T := by cases T <;> rfl
theorem insP_off (n : Nat) (s : List UInt8) (T : Tr) : insP (n + 1) s (some 0) T = .cons quH (insP n s none .nil) T := by cases T <;> rfl
theorem insP_in (n m : Nat) (s : List UInt8) (h : NdH) (K R : Tr) : insP (n + 1) s (some (m + 1)) (.cons h K R) = .cons h (insP n s (some m) K) R := rfl
/-- the lines of a level, all of them as deep -/
def saidP : List (List UInt8) → Tr
  | [] => .nil
  | [s] => saysT s .nil
  | s :: t :: r => saysT s (.cons brH .nil (saidP (t :: r)))
theorem saidP_snoc (l : List (List UInt8)) (hl : l ≠ []) (s : List UInt8) : saidP (l ++ [s]) = (saidP l).app (.cons brH .nil (saysT s .nil)) := by
  induction l with
  | nil => exact absurd rfl hl
  | cons a r ih => cases r with
    | nil => show saysT a (.cons brH .nil (saysT s .nil)) = (saysT a .nil).app _; rw [← saysT_app]; rfl
    | cons b r =>
      show saysT a (.cons brH .nil (saidP (b :: r ++ [s]))) = (saysT a (.cons brH .nil (saidP (b :: r)))).app _
      rw [ih (by simp), ← saysT_app]; rfl
theorem treeP_pos (p : LnL) (r : List LnL) (h : 0 < p.1) : ∃ K R, treeP (p :: r) = .cons quH K R := by
  induction r generalizing p with
  | nil =>
    obtain ⟨n, s⟩ := p
    cases n with
    | zero => exact absurd h (Nat.lt_irrefl _)
    | succ n => exact ⟨_, _, insP_none n s _⟩
  | cons q r ih =>
    obtain ⟨n, s⟩ := p
    obtain ⟨m, t⟩ := q
    cases n with
    | zero => exact absurd h (Nat.lt_irrefl _)
    | succ n =>
      show ∃ K R, insP (n + 1) s (some m) (treeP ((m, t) :: r)) = _
      cases m with
      | zero => exact ⟨_, _, insP_off n s _⟩
      | succ m =>
        obtain ⟨K, R, e⟩ := ih (m + 1, t) (Nat.succ_pos _)
        rw [e]
        exact ⟨_, _, insP_in n m s quH K R⟩
/-- lines that are not quoted, ahead of what is -/
theorem treeP_said (a : List LnL) (x : List LnL) (ha : ∀ p ∈ a, p.1 = 0) (hx : nextL x ≠ some 0) : treeP (a ++ x) = (saidP (a.map (·.2))).app (treeP x) := by
  induction a with
  | nil => rfl
  | cons p r ih =>
    obtain ⟨n, s⟩ := p
    obtain rfl : n = 0 := ha (n, s) (List.mem_cons_self ..)
    have hr := ih (fun q hq => ha q (List.mem_cons_of_mem _ hq))
    show insP 0 s (nextL (r ++ x)) (treeP (r ++ x)) = _
    rw [hr, insP_zero]
    cases r with
    | nil =>
      rw [List.nil_append, if_neg hx]
      show saysT s (Tr.app .nil (treeP x)) = (saysT s .nil).app (treeP x)
      rw [saysT_app]
    | cons q r =>
      have h0 : nextL (q :: r ++ x) = some 0 := by
        show some q.1 = _
        rw [ha q (List.mem_cons_of_mem _ (List.mem_cons_self ..))]
      rw [if_pos h0]
      show saysT s ((Tr.cons brH .nil (saidP ((q :: r).map (·.2)))).app (treeP x)) = (saysT s (.cons brH .nil (saidP ((q :: r).map (·.2))))).app (treeP x)
      rw [saysT_app]
def down (p : LnL) : LnL := (p.1 - 1, p.2)
/-- lines that are quoted, ahead of one that is not -/
theorem treeP_quoted (a : List LnL) (x : List LnL) (hne : a ≠ []) (ha : ∀ p ∈ a, 0 < p.1) (hx : x = [] ∨ nextL x = some 0) : treeP (a ++ x) = .cons quH (treeP (a.map down)) (treeP x) := by
  induction a with
  | nil => exact absurd rfl hne
  | cons p r ih =>
    obtain ⟨n, s⟩ := p
    have hn : 0 < n := ha (n, s) (List.mem_cons_self ..)
    cases n with
    | zero => exact absurd hn (Nat.lt_irrefl _)
    | succ n =>
    show insP (n + 1) s (nextL (r ++ x)) (treeP (r ++ x)) = .cons quH (insP n s (nextL (r.map down)) (treeP (r.map down))) (treeP x)
    cases r with
    | nil =>
      show insP (n + 1) s (nextL x) (treeP x) = .cons quH (insP n s none .nil) (treeP x)
      rcases hx with rfl | hx
      · exact insP_none n s _
      · rw [hx]; exact insP_off n s _
    | cons q r =>
      obtain ⟨m, t⟩ := q
      have hm : 0 < m := ha (m, t) (List.mem_cons_of_mem _ (List.mem_cons_self ..))
      rw [ih (by simp) (fun q hq => ha q (List.mem_cons_of_mem _ hq))]
      cases m with
      | zero => exact absurd hm (Nat.lt_irrefl _)
      | succ m => rfl
def lowBy (v : Nat) (p : LnL) : LnL := (p.1 - v, p.2)
theorem lowBy_down (v : Nat) (l : List LnL) : (l.map (lowBy v)).map down = l.map (lowBy (v + 1)) := by
  rw [List.map_map]; refine List.map_congr_left fun p _ => ?_
  show (p.1 - v - 1, p.2) = (p.1 - (v + 1), p.2)
  rw [Nat.sub_sub]
theorem lowBy_zero (l : List LnL) : l.map (lowBy 0) = l := by
  rw [show lowBy 0 = id from rfl, List.map_id]
/-- the lines of a text, with their levels -/
def linesP (s : List UInt8) : List LnL := (cutL s).map levelL
def plainP (s : List UInt8) : Tr := treeP (linesP s)
/-- a tree behind a line that is not quoted -/
theorem treeP_app (a x : List LnL) (hne : a ≠ []) (hl : a.getLast?.map (·.1) = some 0) (hx : nextL x = some 0) : treeP (a ++ x) = (treeP a).app (.cons brH .nil (treeP x)) := by
  induction a with
  | nil => exact absurd rfl hne
  | cons p r ih =>
    obtain ⟨n, s⟩ := p
    cases r with
    | nil =>
      obtain rfl : n = 0 := by simpa using hl
      show insP 0 s (nextL x) (treeP x) = (insP 0 s none .nil).app _
      rw [insP_zero, insP_zero, hx, if_pos rfl, if_neg (by simp), ← saysT_app]; rfl
    | cons q r =>
      obtain ⟨m, t⟩ := q
      have hr := ih (by simp) (by simpa using hl)
      show insP n s (some m) (treeP ((m, t) :: r ++ x)) = (insP n s (some m) (treeP ((m, t) :: r))).app _
      rw [hr]
      cases n with
      | zero =>
        rw [insP_zero, insP_zero, ← saysT_app]
        split <;> rfl
      | succ n => cases m with
        | zero => rw [insP_off, insP_off]; rfl
        | succ m =>
          obtain ⟨K, R, e⟩ := treeP_pos (m + 1, t) r (Nat.succ_pos _)
          rw [e]; rfl
/-- each line quoted once more -/
theorem treeP_up (l : List LnL) (hne : l ≠ []) : treeP (l.map fun p => (p.1 + 1, p.2)) = .cons quH (treeP l) .nil := by
  have := treeP_quoted (l.map fun p => (p.1 + 1, p.2)) [] (by simpa using hne) (fun p hp => by
    obtain ⟨q, _, rfl⟩ := List.mem_map.1 hp; exact Nat.succ_pos _) (.inl rfl)
  rw [List.append_nil, List.map_map] at this
  rw [this]
  have e : (down ∘ fun p : LnL => (p.1 + 1, p.2)) = id := rfl
  rw [e, List.map_id]; rfl
end Go.Proofs.Ytdeaofnhdbhknaa
