/- PURE: layer 16's answers on lists of bytes: an address made clean, its scheme, its kind. No statement is proved here. Own work of the verifier. -/
import Derived.Test.YtlhjdjjbmljilaaDoorTrimP
import Derived.Test.YtlhjdjjbmljilaaDoorLetter
import Derived.Test.YtlhjdjjbmljilaaDoorLow
namespace Go.Proofs.YtlhjdjjbmljilaaDoor
set_option linter.unusedVariables false
set_option linter.unusedSimpArgs false

def tagB (c : UInt8) : Bool := c == 9 || c == 10 || c == 13
def keepL (l : List UInt8) : List UInt8 := l.filter fun c => !tagB c
def lkClean (l : List UInt8) : List UInt8 := keepL (trimW l)
theorem tag_w (c : UInt8) (h : wB c = false) : tagB c = false :=
  u8_all (p := fun c => wB c = false → tagB c = false) (by decide +kernel) c h
def headN (l : List UInt8) : Prop := ∀ a r, l = a :: r → wB a = false
theorem headN_drop (l : List UInt8) : headN (l.dropWhile wB) := by
  induction l with
  | nil => intro a r h; cases h
  | cons c t ih =>
    rw [List.dropWhile_cons]
    split
    · exact ih
    · rename_i hc
      intro a r h
      injection h with h1 _
      rw [← h1]; simpa using hc
theorem headN_same {l : List UInt8} (h : headN l) : l.dropWhile wB = l := by
  cases l with
  | nil => rfl
  | cons a r => rw [List.dropWhile_cons, h a r rfl]; rfl
theorem trimR_pre (l : List UInt8) : trimR l <+: l := by
  unfold trimR
  have := List.dropWhile_suffix (l := l.reverse) wB
  have h := List.reverse_prefix.2 this
  rwa [List.reverse_reverse] at h
theorem headN_trimR {l : List UInt8} (h : headN l) : headN (trimR l) := by
  intro a r e
  obtain ⟨t, ht⟩ := trimR_pre l
  rw [e] at ht
  exact h a (r ++ t) ht.symm
theorem lastN_trimR (l : List UInt8) : headN (trimR l).reverse := by
  unfold trimR
  rw [List.reverse_reverse]
  exact headN_drop _
theorem trimR_same {l : List UInt8} (h : headN l.reverse) : trimR l = l := by
  unfold trimR
  rw [headN_same h, List.reverse_reverse]
theorem headN_keep {l : List UInt8} (h : headN l) : headN (keepL l) := by
  cases l with
  | nil => intro a r e; cases e
  | cons c t =>
    have hc := h c t rfl
    intro a r e
    have e2 : keepL (c :: t) = c :: keepL t := by unfold keepL; rw [List.filter_cons, tag_w c hc]; rfl
    rw [e2] at e
    injection e with e1 _
    rw [← e1]; exact hc
theorem keep_rev (l : List UInt8) : (keepL l).reverse = keepL l.reverse := by unfold keepL; rw [List.filter_reverse]
theorem clean_head (l : List UInt8) : headN (lkClean l) := headN_keep (headN_trimR (headN_drop l))
theorem clean_last (l : List UInt8) : headN (lkClean l).reverse := by
  unfold lkClean
  rw [keep_rev]
  exact headN_keep (lastN_trimR _)
theorem clean_tag (l : List UInt8) (c : UInt8) (h : c ∈ lkClean l) : tagB c = false := by
  have := (List.mem_filter.1 h).2
  simpa using this
theorem clean_of {l : List UInt8} (h1 : headN l) (h2 : headN l.reverse) (h3 : ∀ c ∈ l, tagB c = false) : lkClean l = l := by
  unfold lkClean trimW keepL
  rw [headN_same h1, trimR_same h2, List.filter_eq_self]
  intro c hc
  rw [h3 c hc]; rfl
theorem clean_clean (l : List UInt8) : lkClean (lkClean l) = lkClean l := clean_of (clean_head l) (clean_last l) (clean_tag l)
theorem trimW_length (l : List UInt8) : (trimW l).length ≤ l.length :=
  Nat.le_trans (trimR_pre _).length_le (List.dropWhile_sublist _).length_le
theorem clean_length (l : List UInt8) : (lkClean l).length ≤ l.length := Nat.le_trans (List.length_filter_le _ _) (trimW_length l)

/-! ### schemes -/
def schB (c : UInt8) : Bool := letterB c || digitB c || c == 43 || c == 45 || c == 46
def headOK : List UInt8 → Bool
  | [] => false
  | c :: _ => letterB c
/-- an address's scheme, small, and what stands behind its colon -/
def schL (l : List UInt8) : Option (List UInt8 × List UInt8) :=
  if headOK l = true ∧ (l.dropWhile schB).headD 0 = 58 then some (lowL (l.takeWhile schB), (l.dropWhile schB).tail) else none
theorem schB_58 : schB 58 = false := by decide
theorem takeW_of {p : UInt8 → Bool} {m b : List UInt8} {c : UInt8} (h : ∀ x ∈ m, p x = true) (hc : p c = false) : (m ++ c :: b).takeWhile p = m ∧ (m ++ c :: b).dropWhile p = c :: b := by
  induction m with
  | nil => simp [hc]
  | cons a r ih =>
    have ha := h a (List.mem_cons_self ..)
    have := ih (fun x hx => h x (List.mem_cons_of_mem _ hx))
    simp [ha, this.1, this.2]
theorem takeW_all {p : UInt8 → Bool} {m : List UInt8} (h : ∀ x ∈ m, p x = true) : m.takeWhile p = m ∧ m.dropWhile p = [] := by
  induction m with
  | nil => exact ⟨rfl, rfl⟩
  | cons a r ih =>
    have ha := h a (List.mem_cons_self ..)
    have := ih (fun x hx => h x (List.mem_cons_of_mem _ hx))
    simp [ha, this.1, this.2]
theorem mem_takeW {p : UInt8 → Bool} {l : List UInt8} {x : UInt8} (h : x ∈ l.takeWhile p) : p x = true := by
  induction l with
  | nil => cases h
  | cons a r ih =>
    rw [List.takeWhile_cons] at h
    split at h
    · rename_i ha
      rcases List.mem_cons.1 h with rfl | h
      · exact ha
      · exact ih h
    · cases h
theorem headOK_app {m b : List UInt8} (h : headOK m = true) : headOK (m ++ b) = true := by
  cases m with
  | nil => cases h
  | cons a r => exact h
theorem schL_of {m b : List UInt8} (h0 : headOK m = true) (h : ∀ x ∈ m, schB x = true) : schL (m ++ 58 :: b) = some (lowL m, b) := by
  obtain ⟨e1, e2⟩ := takeW_of (b := b) h schB_58
  unfold schL
  rw [e1, e2, if_pos ⟨headOK_app h0, rfl⟩]; rfl
theorem schL_some {l n b : List UInt8} (h : schL l = some (n, b)) : ∃ m, l = m ++ 58 :: b ∧ n = lowL m ∧ headOK m = true ∧ ∀ x ∈ m, schB x = true := by
  unfold schL at h
  split at h
  · rename_i hc
    injection h with h
    injection h with h1 h2
    refine ⟨l.takeWhile schB, ?_, h1.symm, ?_, fun x hx => mem_takeW hx⟩
    · have e := List.takeWhile_append_dropWhile (p := schB) (l := l)
      cases hd : l.dropWhile schB with
      | nil => rw [hd] at hc; exact absurd hc.2 (by decide)
      | cons a r =>
        rw [hd] at hc h2 e
        have ha : a = 58 := hc.2
        have hr : r = b := h2
        rw [← ha, ← hr]; exact e.symm
    · cases l with
      | nil => exact absurd hc.1 (by decide)
      | cons a r =>
        have ha : letterB a = true := hc.1
        have hs : schB a = true := by unfold schB; rw [ha]; rfl
        rw [List.takeWhile_cons, hs]
        exact ha
  · cases h
theorem schL_stop {m b : List UInt8} {c : UInt8} (h : ∀ x ∈ m, schB x = true) (hc : schB c = false) (h58 : c ≠ 58) : schL (m ++ c :: b) = none := by
  obtain ⟨e1, e2⟩ := takeW_of (b := b) h hc
  unfold schL
  rw [e2, if_neg (fun e => h58 e.2)]
theorem schL_end {m : List UInt8} (h : ∀ x ∈ m, schB x = true) : schL m = none := by
  unfold schL
  rw [(takeW_all h).2, if_neg (fun e => absurd e.2 (by decide))]
theorem schL_head {c : UInt8} {r : List UInt8} (h : letterB c = false) : schL (c :: r) = none := by
  unfold schL
  rw [if_neg]
  intro e
  have : letterB c = true := e.1
  rw [h] at this; cases this

/-! ### kinds -/
def noH (c : UInt8) : Bool := c == 47 || c == 63 || c == 35 || c == 92
def hostB : List UInt8 → Bool
  | a :: b :: c :: _ => a == 47 && b == 47 && !noH c
  | _ => false
def httpL : List UInt8 := [104, 116, 116, 112]
def httpsL : List UInt8 := [104, 116, 116, 112, 115]
def mailL : List UInt8 := [109, 97, 105, 108, 116, 111]
def cidL : List UInt8 := [99, 105, 100]
def lkKindOf (n b : List UInt8) : Nat :=
  if n = httpL then (if hostB b = true then 1 else 5) else if n = httpsL then (if hostB b = true then 2 else 5) else if n = mailL then 3 else if n = cidL then 4 else 5
def lkKind (l : List UInt8) : Nat :=
  match schL l with
  | none => 0
  | some (n, b) => lkKindOf n b
theorem lkKind_none {l : List UInt8} (h : schL l = none) : lkKind l = 0 := by unfold lkKind; rw [h]
theorem lkKind_some {l n b : List UInt8} (h : schL l = some (n, b)) : lkKind l = lkKindOf n b := by unfold lkKind; rw [h]
theorem lkKindOf_pos (n b : List UInt8) : 1 ≤ lkKindOf n b ∧ lkKindOf n b ≤ 5 := by
  unfold lkKindOf
  repeat' split
  all_goals exact ⟨by omega, by omega⟩
theorem lkKindOf_web {n b : List UInt8} (h : lkKindOf n b = 1 ∨ lkKindOf n b = 2) : ((lkKindOf n b = 1 ∧ n = httpL) ∨ (lkKindOf n b = 2 ∧ n = httpsL)) ∧ ∃ c r, b = 47 :: 47 :: c :: r := by
  have hb : hostB b = true ∧ ((lkKindOf n b = 1 ∧ n = httpL) ∨ (lkKindOf n b = 2 ∧ n = httpsL)) := by
    unfold lkKindOf at h ⊢
    by_cases h1 : n = httpL
    · rw [if_pos h1] at h ⊢
      by_cases h2 : hostB b = true
      · rw [if_pos h2]; exact ⟨h2, .inl ⟨rfl, h1⟩⟩
      · rw [if_neg h2] at h; omega
    · rw [if_neg h1] at h ⊢
      by_cases h3 : n = httpsL
      · rw [if_pos h3] at h ⊢
        by_cases h2 : hostB b = true
        · rw [if_pos h2]; exact ⟨h2, .inr ⟨rfl, h3⟩⟩
        · rw [if_neg h2] at h; omega
      · rw [if_neg h3] at h
        exfalso
        repeat' split at h
        all_goals omega
  refine ⟨hb.2, ?_⟩
  obtain ⟨h, _⟩ := hb
  match b, h with
  | x :: y :: c :: r, h =>
    simp [hostB] at h
    obtain ⟨⟨rfl, rfl⟩, _⟩ := h
    exact ⟨c, r, rfl⟩

/-! ### large letters -/
def lkUp (c : UInt8) : UInt8 := if 97 ≤ c ∧ c ≤ 122 then c - 32 else c
theorem lkUp_sch (c : UInt8) (h : schB c = true) : schB (lkUp c) = true ∧ lowC (lkUp c) = lowC c ∧ wB (lkUp c) = false ∧ tagB (lkUp c) = false ∧ (letterB c = true → letterB (lkUp c) = true) :=
  u8_all (p := fun c => schB c = true → (schB (lkUp c) = true ∧ lowC (lkUp c) = lowC c ∧ wB (lkUp c) = false ∧ tagB (lkUp c) = false ∧ (letterB c = true → letterB (lkUp c) = true))) (by decide +kernel) c h
theorem up_scheme {m b : List UInt8} (h0 : headOK m = true) (h : ∀ x ∈ m, schB x = true) : schL (m.map lkUp ++ 58 :: b) = some (lowL m, b) := by
  have e : lowL (m.map lkUp) = lowL m := by
    unfold lowL
    rw [List.map_map]
    exact List.map_congr_left fun x hx => (lkUp_sch x (h x hx)).2.1
  rw [← e]
  refine schL_of ?_ ?_
  · cases m with
    | nil => cases h0
    | cons a r => exact (lkUp_sch a (h a (List.mem_cons_self ..))).2.2.2.2 h0
  · intro x hx
    obtain ⟨y, hy, rfl⟩ := List.mem_map.1 hx
    exact (lkUp_sch y (h y hy)).1
theorem up_clean {m b : List UInt8} (h0 : headOK m = true) (h : ∀ x ∈ m, schB x = true) (hl : headN (m ++ 58 :: b).reverse) (ht : ∀ c ∈ m ++ 58 :: b, tagB c = false) : lkClean (m.map lkUp ++ 58 :: b) = m.map lkUp ++ 58 :: b := by
  refine clean_of ?_ ?_ ?_
  · cases m with
    | nil => cases h0
    | cons a r =>
      intro x y e
      injection e with e1 _
      rw [← e1]; exact (lkUp_sch a (h a (List.mem_cons_self ..))).2.2.1
  · rw [List.reverse_append, List.reverse_cons] at hl ⊢
    rw [List.append_assoc] at hl ⊢
    intro x y e
    cases hr : b.reverse with
    | nil =>
      rw [hr] at e
      injection e with e1 _
      rw [← e1]; rfl
    | cons z t =>
      rw [hr] at e hl
      injection e with e1 _
      rw [← e1]; exact hl z _ rfl
  · intro c hc
    rcases List.mem_append.1 hc with hc | hc
    · obtain ⟨y, hy, rfl⟩ := List.mem_map.1 hc
      exact (lkUp_sch y (h y hy)).2.2.2.1
    · exact ht c (List.mem_append_right _ hc)
end Go.Proofs.YtlhjdjjbmljilaaDoor
