/- Cuts of lists of bytes at a byte: split off XPctP, XCutS, XWordP and XCharsQ, so that a seat without them fills. No statement is proved here. Own work of the verifier. -/
import Derived.Test.YtdeaofnhdbhknaaProg
namespace Go.Proofs.Ytdeaofnhdbhknaa
set_option linter.unusedVariables false
set_option linter.unusedSimpArgs false

def beforeC (c : UInt8) (l : List UInt8) : List UInt8 := l.takeWhile fun x => x != c
def hasC (c : UInt8) (l : List UInt8) : Bool := decide (c ∈ l)
theorem hasC_true {c : UInt8} {l : List UInt8} (h : c ∈ l) : hasC c l = true := decide_eq_true h
theorem hasC_false {c : UInt8} {l : List UInt8} (h : c ∉ l) : hasC c l = false := decide_eq_false h
def afterC (c : UInt8) (l : List UInt8) : List UInt8 := (l.dropWhile fun x => x != c).drop 1
theorem cut_none (c : UInt8) (l : List UInt8) (h : c ∉ l) : beforeC c l = l ∧ afterC c l = [] := by
  induction l with
  | nil => exact ⟨rfl, rfl⟩
  | cons a l ih =>
    have h1 : (a != c) = true := by
      rw [bne_iff_ne]; rintro rfl; exact h (List.mem_cons_self ..)
    have h2 := ih (fun hm => h (List.mem_cons_of_mem _ hm))
    unfold beforeC afterC at h2 ⊢
    rw [List.takeWhile_cons, List.dropWhile_cons, h1]
    simp [h2]
theorem cut_at (c : UInt8) (l : List UInt8) (o : Nat) (ho : o < l.length) (h : l[o] = c) (hb : ∀ j (hj : j < o), l[j]'(Nat.lt_trans hj ho) ≠ c) : c ∈ l ∧ beforeC c l = l.take o ∧ afterC c l = l.drop (o + 1) := by
  refine ⟨h ▸ List.getElem_mem ho, ?_⟩
  induction o generalizing l with
  | zero =>
    match l, ho, h with
    | a :: l, _, h =>
      have : (a != c) = false := by rw [bne_eq_false_iff_eq]; exact h
      unfold beforeC afterC
      rw [List.takeWhile_cons, List.dropWhile_cons, this]
      simp
  | succ o ih =>
    match l, ho, h, hb with
    | a :: l, ho, h, hb =>
      have h1 : (a != c) = true := by rw [bne_iff_ne]; exact hb 0 (by omega)
      have := ih l (by simpa using ho) (by simpa using h) (fun j hj => by simpa using hb (j + 1) (by omega))
      unfold beforeC afterC at this ⊢
      rw [List.takeWhile_cons, List.dropWhile_cons, h1]
      simp [this]

theorem cut_case (c : UInt8) (l : List UInt8) : (c ∉ l ∧ beforeC c l = l ∧ afterC c l = []) ∨ ∃ a r, l = a ++ c :: r ∧ c ∉ a ∧ beforeC c l = a ∧ afterC c l = r := by
  induction l with
  | nil => exact .inl ⟨by simp, rfl, rfl⟩
  | cons x l ih =>
    by_cases hx : x = c
    · subst hx
      exact .inr ⟨[], l, rfl, by simp, by simp [beforeC], by simp [afterC]⟩
    · have hne : (x != c) = true := by rw [bne_iff_ne]; exact hx
      have e1 : beforeC c (x :: l) = x :: beforeC c l := by unfold beforeC; rw [List.takeWhile_cons, hne]; rfl
      have e2 : afterC c (x :: l) = afterC c l := by unfold afterC; rw [List.dropWhile_cons, hne]; rfl
      rcases ih with ⟨h1, h2, h3⟩ | ⟨a, r, h1, h2, h3, h4⟩
      · exact .inl ⟨by simp [h1]; exact fun e => hx e.symm, by rw [e1, h2], by rw [e2, h3]⟩
      · exact .inr ⟨x :: a, r, by rw [h1]; rfl, by simp [h2]; exact fun e => hx e.symm, by rw [e1, h3], by rw [e2, h4]⟩
theorem cut_here (c : UInt8) (a r : List UInt8) (h : c ∉ a) : beforeC c (a ++ c :: r) = a ∧ afterC c (a ++ c :: r) = r := by
  have hl : a.length < (a ++ c :: r).length := by simp
  have := cut_at c (a ++ c :: r) a.length hl (by rw [List.getElem_append_right (Nat.le_refl _)]; simp) (fun j hj => by
    rw [List.getElem_append_left hj]; intro e; exact h (e ▸ List.getElem_mem hj))
  exact ⟨by rw [this.2.1, List.take_left], by rw [this.2.2]; simp [List.drop_append]⟩
theorem list_ind {p : List UInt8 → Prop} (h : ∀ l, (∀ k : List UInt8, k.length < l.length → p k) → p l) (l : List UInt8) : p l := by
  suffices H : ∀ n, ∀ l : List UInt8, l.length < n → p l from H (l.length + 1) l (by omega)
  intro n
  induction n with
  | zero => intro l hl; omega
  | succ n ih => intro l hl; exact h l (fun k hk => ih k (by omega))
end Go.Proofs.Ytdeaofnhdbhknaa
